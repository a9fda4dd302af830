/-
 The contract of the document's own way to get a number out of four or eight bytes, and of the chapter's examples.
-/
import Derived.Test.YtckcojkpghiclaaGreatDoorVarUnfix
import Derived.Test.YtckcojkpghiclaaGreatDoorVarBytes
import Derived.Great.BuildSlice
import Derived.Deep.WholeRow
import Derived.Laws.CopyOwn
import Derived.BigQuiet
import Derived.RangeFuncNested
import Derived.RangeFuncBound
import Derived.RangeFuncCalls
import Derived.RangeFuncLeaves
import Derived.Shelf.Abstract
import Derived.Shelf.RegionOpen
import Derived.OwnWalkIn
import Derived.TacticsInMore
import Derived.LoopNIn
import Derived.LoopIn
namespace Go.Proofs.YtckcojkpghiclaaGreatDoor
set_option maxRecDepth 100000
open Go.RowKit
end Go.Proofs.YtckcojkpghiclaaGreatDoor
/-
 The record that begins at a place: the contracts of the two functions that tell it, and of the one that tells its number.
-/
namespace Go.Proofs.YtckcojkpghiclaaGreatDoor
set_option maxRecDepth 100000
open Go.RowKit
theorem infoRec : (Tryz.prog.info? 41).map (·.size) = some 5 := by kernel_rfl
theorem results_row_tmp25 {P : Program} {fn : Func} {p u v : Tmp} {ty : TypeId} (h : fn.results = #[.cell p ty, .tmp u, .tmp v]) (tmps : Array Value) (w : World) (g : Nat) (t : TypeId) (cs : Array Value) (fr : Nat × Nat) (d : TypeDesc)
  (hp : tmps.getD p undef = .pointer (some ⟨g, 0, none⟩)) (hg : w.heap[g]? = some (.cells cs t fr))
  (hu : P.underlying ty = some d) (hd : (match d with | .struct _ | .array _ _ => true | _ => false) = true) (hi : (P.info? ty).map (·.size) = some cs.size) :
  (results fn tmps).run P w = .ok (.tuple #[.agg cs, tmps.getD u undef, tmps.getD v undef]) w := by
 have hp' : tmps[p]?.getD undef = .pointer (some ⟨g, 0, none⟩) := by simpa using hp
 simp [results, h, hp', asAddr, run_loadVar_row w g t ty cs fr d hg hu hd hi]
theorem wpList_store_rec {ops : Array Oper} {rest : List Oper} {o : Oper} {a : Act} {w : World} {Q : Exit → Act → World → Prop} (hgd : o.guard = none) (x y : Operand) (ho : o.op = .store 41 x y)
  (hd : o.dst = none) (g : Nat) (n1 n2 n3 n4 n5 o1 o2 o3 o4 o5 : Int) (hx : a.eval x = .pointer (some ⟨g, 0, none⟩)) (hy : a.eval y = .agg #[.int .i64 n1, .int .i64 n2, .int .u64 n3, .int .i64 n4, .int .i64 n5])
  (t : TypeId) (hg : w.heap[g]? = some (.cells #[.int .i64 o1, .int .i64 o2, .int .u64 o3, .int .i64 o4, .int .i64 o5] t (0, 0)))
  (h : wpList Tryz.prog ops Q rest a (w.setRow g #[.int .i64 n1, .int .i64 n2, .int .u64 n3, .int .i64 n4, .int .i64 n5])) : wpList Tryz.prog ops Q (o :: rest) a w :=
 wpList_store_rowTo hgd 41 x y ho hd g _ hx hy t _ hg infoRec rfl (by simp [Value.oneCell']) h
theorem results_rec {fn : Func} {p u v : Tmp} (h : fn.results = #[.cell p 41, .tmp u, .tmp v]) (tmps : Array Value) (w : World) (g : Nat) (t : TypeId) (n1 n2 n3 n4 n5 : Int) (fr : Nat × Nat)
  (hp : tmps.getD p undef = .pointer (some ⟨g, 0, none⟩)) (hg : w.heap[g]? = some (.cells #[.int .i64 n1, .int .i64 n2, .int .u64 n3, .int .i64 n4, .int .i64 n5] t fr)) :
  (results fn tmps).run Tryz.prog w = .ok (.tuple #[.agg #[.int .i64 n1, .int .i64 n2, .int .u64 n3, .int .i64 n4, .int .i64 n5], tmps.getD u undef, tmps.getD v undef]) w :=
 results_row_tmp25 h tmps w g t _ fr _ hp hg Tryz.underlying41 rfl infoRec
theorem number_any (A : Option Addr) (c : Nat) (l : List UInt8) (a u : Int) (wire : Nat) (hl : l.length ≤ 1000000000) (w : World) (h1 : SlB w A c l) :
  Calls Tryz.prog 147 #[.slice A l.length c, .int .i64 a, .int .i64 u, .int .i64 wire] w fun e w' => e = .returned (V3 (numR l a u wire)) ∧ w = w' := by
 by_cases h8 : wire = 1
 ·have hn : numR l a u wire = unfixR l a u 8 := by unfold numR; rw [if_pos h8]
  obtain ⟨x, y, z, hx⟩ : ∃ x y z, unfixR l a u 8 = (x, y, z) := ⟨_, _, _, rfl⟩
  rw [hn, hx]
  subst h8
  go_enter Tryz.func147, Tryz.ntmps147
  go_wp2_with fail
  refine (unfix_any A c l a u 8 hl w h1).mono ?_
  rintro e w1 ⟨rfl, rfl⟩
  rw [hx]
  unfold V3
  go_wp2
  go_ret3
  exact ⟨rfl, rfl⟩
 ·have b8 : ((wire : Int) == 1) = false := by simp; omega
  by_cases h4 : wire = 5
  ·have hn : numR l a u wire = unfixR l a u 4 := by unfold numR; rw [if_neg h8, if_pos h4]
   obtain ⟨x, y, z, hx⟩ : ∃ x y z, unfixR l a u 4 = (x, y, z) := ⟨_, _, _, rfl⟩
   rw [hn, hx]
   subst h4
   go_enter Tryz.func147, Tryz.ntmps147
   go_wp2_with fail
   refine (unfix_any A c l a u 4 hl w h1).mono ?_
   rintro e w1 ⟨rfl, rfl⟩
   rw [hx]
   unfold V3
   go_wp2
   go_ret3
   exact ⟨rfl, rfl⟩
  ·have b4 : ((wire : Int) == 5) = false := by simp; omega
   have hn : numR l a u wire = getR l a u := by unfold numR; rw [if_neg h8, if_neg h4]
   obtain ⟨x, y, z, hx⟩ : ∃ x y z, getR l a u = (x, y, z) := ⟨_, _, _, rfl⟩
   rw [hn, hx]
   clear h8 h4
   go_enter Tryz.func147, Tryz.ntmps147
   go_wp2_with fail
   refine (get_any A c l a u hl w h1).mono ?_
   rintro e w1 ⟨rfl, rfl⟩
   rw [hx]
   unfold V3
   go_wp2
   go_ret3
   exact ⟨rfl, rfl⟩
set_option maxRecDepth 1000000 in
theorem next_any (A : Option Addr) (c : Nat) (l : List UInt8) (a u : Int) (hl : l.length ≤ 1000000000) (w : World) (h1 : SlB w A c l) (T : Wires w) :
  Calls Tryz.prog 104 #[.slice A l.length c, .int .i64 a, .int .i64 u] w fun e w' => e = .returned (NV (nextR l a u)) ∧ Below w.heap.size w w' := by
 obtain ⟨no, wire, f, x, ht⟩ : ∃ no wire f x, tgetR l a u = (no, wire, f, x) := ⟨_, _, _, _, rfl⟩
 have hN : nextR l a u = if x = 0 then restR no wire f u (numR l f u wire) else (Rc.zero, 0, x) := by unfold nextR; rw [ht]
 rw [hN]
 by_cases hx : x = 0
 ·rw [if_pos hx]
  subst hx
  obtain ⟨n, p, y, hn⟩ : ∃ n p y, numR l f u wire = (n, p, y) := ⟨_, _, _, rfl⟩
  have hR : restR no wire f u (numR l f u wire) = if y = 0 then runR no wire f n p u else (Rc.zero, 0, y) := by unfold restR; rw [hn]
  rw [hR]
  by_cases hy : y = 0
  ·rw [if_pos hy]
   subst hy
   have hk := num_ok hn
   by_cases hw : wire = 2
   ·have hr : runR no wire f n p u = if (n : Int) ≤ u - p then (⟨no, wire, n, p, p + n⟩, p + n, 0) else (Rc.zero, 0, 6) := by unfold runR; rw [if_pos hw]
    rw [hr]
    have bw : ((wire : Int) == 2) = true := by simp [hw]
    have ec : IntKind.u64.wrap (IntKind.i64.wrap (u - p)) = u - p := by simp [IntKind.wrap, IntKind.signed, IntKind.bits]; omega
    have e1 : IntKind.i64.wrap (u - p) = u - p := by simp [IntKind.wrap, IntKind.signed, IntKind.bits]; split <;> omega
    have e1' : IntKind.u64.wrap (u - p) = u - p := by simp [IntKind.wrap, IntKind.signed, IntKind.bits]; omega
    by_cases hc : (n : Int) ≤ u - p
    ·rw [if_pos hc]
     have bc : decide (u - p < (n : Int)) = false := by simp; omega
     have e2 : IntKind.i64.wrap (n : Int) = n := by simp [IntKind.wrap, IntKind.signed, IntKind.bits]; split <;> omega
     have e3 : IntKind.i64.wrap ((p : Int) + n) = ((p + n : Nat) : Int) := by simp [IntKind.wrap, IntKind.signed, IntKind.bits]; split <;> omega
     generalize hq : p + n = q at *
     clear hk hq hc hr hR hN hw
     go_enter Tryz.func104, Tryz.ntmps104
     go_wp2_with fail
     refine (tget_any A c l a u hl _ (h1.lit _) (T.on (below_new _ _))).mono ?_
     rintro e w1 ⟨rfl, hb1⟩
     rw [ht]
     unfold V4
     have hg1 := hb1.block w.heap.size (by simp)
     rw [heap_alloc_new] at hg1
     go_wp2_with fail
     refine (number_any A c l f u wire hl _ ((h1.lit _).on hb1)).mono ?_
     rintro e w2 ⟨rfl, rfl⟩
     rw [hn]
     unfold V3
     go_wp2_with (refine wpList_store_rec rfl _ _ rfl rfl w.heap.size _ _ _ _ _ _ _ _ _ _ rfl rfl _ hg1 ?_)
     refine bodyPost_ret (results_rec rfl _ _ w.heap.size _ _ _ _ _ _ (0, 0) rfl (setRow_heap _ _ _ _ _ _ hg1)) rfl ?_
     exact ⟨rfl, below_setRow (below_then (below_new _ _) hb1) (Nat.le_refl _) _⟩
    ·rw [if_neg hc]
     have bc : decide (u - p < (n : Int)) = true := by simp; omega
     clear hk hc hr hR hN hw
     go_enter Tryz.func104, Tryz.ntmps104
     go_wp2_with fail
     refine (tget_any A c l a u hl _ (h1.lit _) (T.on (below_new _ _))).mono ?_
     rintro e w1 ⟨rfl, hb1⟩
     rw [ht]
     unfold V4
     have hg1 := hb1.block w.heap.size (by simp)
     rw [heap_alloc_new] at hg1
     go_wp2_with fail
     refine (number_any A c l f u wire hl _ ((h1.lit _).on hb1)).mono ?_
     rintro e w2 ⟨rfl, rfl⟩
     rw [hn]
     unfold V3
     go_wp2_with (refine wpList_store_rec rfl _ _ rfl rfl w.heap.size _ _ _ _ _ _ _ _ _ _ rfl rfl _ hg1 ?_)
     refine bodyPost_ret (results_rec rfl _ _ w.heap.size _ _ _ _ _ _ (0, 0) rfl (setRow_heap _ _ _ _ _ _ hg1)) rfl ?_
     exact ⟨rfl, below_setRow (below_then (below_new _ _) hb1) (Nat.le_refl _) _⟩
   ·have hr : runR no wire f n p u = (⟨no, wire, n, f, p⟩, p, 0) := by unfold runR; rw [if_neg hw]
    rw [hr]
    have bw : ((wire : Int) == 2) = false := by simp; omega
    clear hk hr hR hN hw
    go_enter Tryz.func104, Tryz.ntmps104
    go_wp2_with fail
    refine (tget_any A c l a u hl _ (h1.lit _) (T.on (below_new _ _))).mono ?_
    rintro e w1 ⟨rfl, hb1⟩
    rw [ht]
    unfold V4
    have hg1 := hb1.block w.heap.size (by simp)
    rw [heap_alloc_new] at hg1
    go_wp2_with fail
    refine (number_any A c l f u wire hl _ ((h1.lit _).on hb1)).mono ?_
    rintro e w2 ⟨rfl, rfl⟩
    rw [hn]
    unfold V3
    go_wp2_with (refine wpList_store_rec rfl _ _ rfl rfl w.heap.size _ _ _ _ _ _ _ _ _ _ rfl rfl _ hg1 ?_)
    refine bodyPost_ret (results_rec rfl _ _ w.heap.size _ _ _ _ _ _ (0, 0) rfl (setRow_heap _ _ _ _ _ _ hg1)) rfl ?_
    exact ⟨rfl, below_setRow (below_then (below_new _ _) hb1) (Nat.le_refl _) _⟩
  ·rw [if_neg hy]
   have by' : ((y : Int) != 0) = true := by simp; omega
   clear hR hN
   go_enter Tryz.func104, Tryz.ntmps104
   go_wp2_with fail
   refine (tget_any A c l a u hl _ (h1.lit _) (T.on (below_new _ _))).mono ?_
   rintro e w1 ⟨rfl, hb1⟩
   rw [ht]
   unfold V4
   have hg1 := hb1.block w.heap.size (by simp)
   rw [heap_alloc_new] at hg1
   go_wp2_with fail
   refine (number_any A c l f u wire hl _ ((h1.lit _).on hb1)).mono ?_
   rintro e w2 ⟨rfl, rfl⟩
   rw [hn]
   unfold V3
   go_wp2_with (refine wpList_store_rec rfl _ _ rfl rfl w.heap.size _ _ _ _ _ _ _ _ _ _ rfl rfl _ hg1 ?_)
   refine bodyPost_ret (results_rec rfl _ _ w.heap.size _ _ _ _ _ _ (0, 0) rfl (setRow_heap _ _ _ _ _ _ hg1)) rfl ?_
   exact ⟨rfl, below_setRow (below_then (below_new _ _) hb1) (Nat.le_refl _) _⟩
 ·rw [if_neg hx]
  have bx : ((x : Int) != 0) = true := by simp; omega
  clear hN
  go_enter Tryz.func104, Tryz.ntmps104
  go_wp2_with fail
  refine (tget_any A c l a u hl _ (h1.lit _) (T.on (below_new _ _))).mono ?_
  rintro e w1 ⟨rfl, hb1⟩
  rw [ht]
  unfold V4
  have hg1 := hb1.block w.heap.size (by simp)
  rw [heap_alloc_new] at hg1
  go_wp2_with (refine wpList_store_rec rfl _ _ rfl rfl w.heap.size _ _ _ _ _ _ _ _ _ _ rfl rfl _ hg1 ?_)
  refine bodyPost_ret (results_rec rfl _ _ w.heap.size _ _ _ _ _ _ (0, 0) rfl (setRow_heap _ _ _ _ _ _ hg1)) rfl ?_
  exact ⟨rfl, below_setRow (below_then (below_new _ _) hb1) (Nat.le_refl _) _⟩
end Go.Proofs.YtckcojkpghiclaaGreatDoor
/-
 The record that begins at a place, by the document's own function: its contract.
-/
namespace Go.Proofs.YtckcojkpghiclaaGreatDoor
set_option maxRecDepth 100000
open Go.RowKit
end Go.Proofs.YtckcojkpghiclaaGreatDoor
/-
 A record's bytes: the contract of the function that puts them.
-/
namespace Go.Proofs.YtckcojkpghiclaaGreatDoor
set_option maxRecDepth 100000
open Go.RowKit
theorem heap_cells {w : World} {g : Nat} {n1 n2 n3 n4 n5 : Int} {t : TypeId} {fr : Nat × Nat} (hg : w.heap[g]? = some (.cells #[.int .i64 n1, .int .i64 n2, .int .u64 n3, .int .i64 n4, .int .i64 n5] t fr)) :
  w.cell? ⟨g, 0, none⟩ = some (.int .i64 n1) ∧ w.cell? ⟨g, 1, none⟩ = some (.int .i64 n2) ∧ w.cell? ⟨g, 2, none⟩ = some (.int .u64 n3) ∧ w.cell? ⟨g, 3, none⟩ = some (.int .i64 n4) ∧ w.cell? ⟨g, 4, none⟩ = some (.int .i64 n5) := by
 refine ⟨?_, ?_, ?_, ?_, ?_⟩ <;> simp [World.cell?, hg]
end Go.Proofs.YtckcojkpghiclaaGreatDoor
/-
 A record's bytes: the contract of the document's own function that puts them.
-/
namespace Go.Proofs.YtckcojkpghiclaaGreatDoor
set_option maxRecDepth 100000
open Go.RowKit
end Go.Proofs.YtckcojkpghiclaaGreatDoor
/-
 Slices of records that read as lists; the contract of the function that holds two of them against each other.
-/
namespace Go.Proofs.YtckcojkpghiclaaGreatDoor
set_option maxRecDepth 100000
open Go.RowKit
end Go.Proofs.YtckcojkpghiclaaGreatDoor
/-
 All records from one place to another one, by the document's own function: its contract.
-/
namespace Go.Proofs.YtckcojkpghiclaaGreatDoor
set_option maxRecDepth 100000
open Go.RowKit
end Go.Proofs.YtckcojkpghiclaaGreatDoor
/-
 The records from one place to another one, handed on one by one: the function that makes the iterator, and what it hands on to whatever loop ranges over it.
-/
namespace Go.Proofs.YtckcojkpghiclaaGreatDoor
set_option maxRecDepth 100000
open Go.RowKit Go.Shelf
attribute [local go_sem] Oper.semAt_some
end Go.Proofs.YtckcojkpghiclaaGreatDoor
/-
 All records from one place to another one: the contract of the function that ranges over what is handed on.
-/
namespace Go.Proofs.YtckcojkpghiclaaGreatDoor
set_option maxRecDepth 100000
open Go.RowKit Go.Shelf
attribute [local go_sem] Oper.semAt_some
end Go.Proofs.YtckcojkpghiclaaGreatDoor
/-
 What is told of a record hangs on the bytes from its place to the end alone; and, where there is no error, on its own bytes alone: facts on lists of bytes.
-/
namespace Go.Proofs.YtckcojkpghiclaaGreatDoor
set_option maxRecDepth 100000
open Go.RowKit
def wfix (d : List UInt8) (S : Nat) : Nat × Nat × Nat := if d.length < S then (0, 0, 6) else (fixn (d.take S), S, 0)
def wnum (wire : Nat) (d : List UInt8) : Nat × Nat × Nat := if wire = 1 then wfix d 8 else if wire = 5 then wfix d 4 else vget d
def wrun (no wire k n q : Nat) (len : Nat) : Rc × Nat × Nat :=
 if wire = 2 then (if n ≤ len - (k + q) then (⟨no, wire, n, k + q, k + q + n⟩, k + q + n, 0) else (Rc.zero, 0, 6)) else (⟨no, wire, n, k, k + q⟩, k + q, 0)
def wrest (no wire k : Nat) (len : Nat) (x : Nat × Nat × Nat) : Rc × Nat × Nat := if x.2.2 = 0 then wrun no wire k x.1 x.2.1 len else (Rc.zero, 0, x.2.2)
def wtell (t : Nat × Nat × Nat) (k : Nat) (d : List UInt8) : Rc × Nat × Nat := if t.2.2 = 0 then wrest t.1 t.2.1 k d.length (wnum t.2.1 (d.drop k)) else (Rc.zero, 0, t.2.2)
def wnext (d : List UInt8) : Rc × Nat × Nat := if (vget d).2.2 = 0 then wtell (tellsN (vget d).1) (vget d).2.1 d else (Rc.zero, 0, (vget d).2.2)
def shR (a : Nat) (x : Rc × Nat × Nat) : Rc × Nat × Nat := if x.2.2 = 0 then (⟨x.1.no, x.1.wire, x.1.num, a + x.1.frm, a + x.1.upto⟩, a + x.2.1, 0) else (Rc.zero, 0, x.2.2)
theorem getS_win (l : List UInt8) (a u : Nat) : getS l a u = ((vget ((l.drop a).take (u - a))).1, (if (vget ((l.drop a).take (u - a))).2.2 = 0 then a + (vget ((l.drop a).take (u - a))).2.1 else 0), (vget ((l.drop a).take (u - a))).2.2) := rfl
theorem win_drop (l : List UInt8) (a u k : Nat) : (l.drop (a + k)).take (u - (a + k)) = ((l.drop a).take (u - a)).drop k := by
 rw [List.drop_take, List.drop_drop, Nat.sub_sub]
theorem num_win (l : List UInt8) (a u wire : Nat) (hau : a ≤ u) (hu : u ≤ l.length) :
  numR l a u wire = ((wnum wire ((l.drop a).take (u - a))).1, (if (wnum wire ((l.drop a).take (u - a))).2.2 = 0 then a + (wnum wire ((l.drop a).take (u - a))).2.1 else 0), (wnum wire ((l.drop a).take (u - a))).2.2) := by
 have hm : mayB a u l.length = true := by rw [mayB_true]; omega
 have hl : ((l.drop a).take (u - a)).length = u - a := by simp; omega
 have hf : ∀ S : Nat, S = 4 ∨ S = 8 → unfixR l a u S = ((wfix ((l.drop a).take (u - a)) S).1, (if (wfix ((l.drop a).take (u - a)) S).2.2 = 0 then a + (wfix ((l.drop a).take (u - a)) S).2.1 else 0), (wfix ((l.drop a).take (u - a)) S).2.2) := by
  intro S hS
  have hs : sizeB S = true := by rcases hS with rfl | rfl <;> rfl
  unfold unfixR unfixS wfix
  rw [hm, hs, hl]
  simp only [Bool.and_self, if_true, Int.toNat_natCast]
  split
  ·rfl
  ·simp only [if_true]
   rw [List.take_take, Nat.min_eq_left (by omega)]
 unfold numR wnum
 split
 ·exact hf 8 (Or.inr rfl)
 ·split
  ·exact hf 4 (Or.inl rfl)
  ·unfold getR
   rw [if_pos hm]
   simp only [Int.toNat_natCast]
   rfl
theorem vget_le {d : List UInt8} : (vget d).2.1 ≤ d.length := vget_bound d
theorem wfix_le {d : List UInt8} {S : Nat} : (wfix d S).2.1 ≤ d.length := by
 unfold wfix
 split
 ·simp
 ·simp only; omega
theorem wnum_le {wire : Nat} {d : List UInt8} : (wnum wire d).2.1 ≤ d.length := by
 unfold wnum
 split
 ·exact wfix_le
 ·split
  ·exact wfix_le
  ·exact vget_le
theorem sh_err {a e : Nat} (h : e ≠ 0) : shR a (Rc.zero, 0, e) = (Rc.zero, 0, e) := by unfold shR; rw [if_neg h]
theorem next_win (l : List UInt8) (a u : Nat) (hau : a ≤ u) (hu : u ≤ l.length) : nextR l a u = shR a (wnext ((l.drop a).take (u - a))) := by
 have hm : mayB a u l.length = true := by rw [mayB_true]; omega
 have hl : ((l.drop a).take (u - a)).length = u - a := by simp; omega
 have hg : getR l a u = getS l a u := by unfold getR; rw [if_pos hm]; simp only [Int.toNat_natCast]
 have hk := vget_le (d := (l.drop a).take (u - a))
 unfold nextR tgetR
 rw [hg, getS_win]
 unfold wnext
 by_cases h0 : (vget ((l.drop a).take (u - a))).2.2 = 0
 ·simp only [h0, if_true]
  unfold wtell
  by_cases h1 : (tellsN (vget ((l.drop a).take (u - a))).1).2.2 = 0
  ·simp only [h1, if_true]
   rw [hl] at hk
   rw [num_win l _ u _ (by omega) hu, win_drop]
   unfold restR wrest
   by_cases h2 : (wnum (tellsN (vget ((l.drop a).take (u - a))).1).2.1 (((l.drop a).take (u - a)).drop (vget ((l.drop a).take (u - a))).2.1)).2.2 = 0
   ·simp only [h2, if_true]
    unfold runR wrun shR
    rw [hl]
    by_cases h3 : (tellsN (vget ((l.drop a).take (u - a))).1).2.1 = 2
    ·simp only [h3, if_true]
     have hq := wnum_le (wire := 2) (d := ((l.drop a).take (u - a)).drop (vget ((l.drop a).take (u - a))).2.1)
     rw [List.length_drop, hl] at hq
     generalize (wnum 2 (((l.drop a).take (u - a)).drop (vget ((l.drop a).take (u - a))).2.1)) = x at hq ⊢
     generalize (vget ((l.drop a).take (u - a))).2.1 = k at *
     obtain ⟨n, q, e⟩ := x
     simp only
     by_cases h4 : (n : Int) ≤ (u : Int) - ((a + k + q : Nat) : Int)
     ·rw [if_pos h4, if_pos (show n ≤ u - a - (k + q) by omega)]
      simp only [if_true, Prod.mk.injEq, Rc.mk.injEq, true_and, and_true]
      omega
     ·rw [if_neg h4, if_neg (show ¬ n ≤ u - a - (k + q) by have hq' : q ≤ u - a - k := hq; omega)]
      exact (sh_err (by omega)).symm
    ·simp only [h3, if_false, if_true]
     simp only [Prod.mk.injEq, Rc.mk.injEq, true_and, and_true]
     omega
   ·simp only [h2, if_false]
    exact (sh_err h2).symm
  ·simp only [h1, if_false]
   exact (sh_err h1).symm
 ·simp only [h0, if_false]
  unfold shR
  simp [h0]
theorem lead_spec : ∀ (l : List UInt8), (∀ j, j < lead l → ∃ c, l[j]? = some c ∧ 128 ≤ c.toNat) ∧ (lead l < l.length → ∃ c, l[lead l]? = some c ∧ c.toNat < 128)
 | [] => by simp [lead]
 | b :: l => by
  obtain ⟨h1, h2⟩ := lead_spec l
  unfold lead
  split
  ·rename_i h
   exact ⟨fun j hj => by omega, fun _ => ⟨b, by simp, h⟩⟩
  ·rename_i h
   refine ⟨fun j hj => ?_, fun hl => ?_⟩
   ·cases j with
    | zero => exact ⟨b, by simp, by omega⟩
    | succ j => simpa using h1 j (by omega)
   ·simpa using h2 (by simpa using hl)
theorem vget_parts {d : List UInt8} {n k : Nat} (h : vget d = (n, k, 0)) : 1 ≤ k ∧ k ≤ 10 ∧ k ≤ d.length ∧ (∀ j, j < k - 1 → ∃ c, d[j]? = some c ∧ 128 ≤ c.toNat) ∧ (∃ c, d[k - 1]? = some c ∧ c.toNat < 128) ∧ n = vnum (d.take k) % 18446744073709551616 := by
 unfold vget at h
 by_cases c1 : lead (d.take 10) = 10
 ·rw [if_pos c1] at h; simp at h
 ·rw [if_neg c1] at h
  by_cases c2 : lead (d.take 10) = d.length
  ·rw [if_pos c2] at h; simp at h
  ·rw [if_neg c2] at h
   simp only [Prod.mk.injEq, and_true] at h
   obtain ⟨h1, rfl⟩ := h
   have hlt := lead_lt c1 c2
   have hle := lead_le (d.take 10)
   rw [List.length_take] at hle
   obtain ⟨s1, s2⟩ := lead_spec (d.take 10)
   refine ⟨by omega, by omega, hlt, fun j hj => ?_, ?_, h1.symm⟩
   ·obtain ⟨c, hc, hge⟩ := s1 j (by omega)
    exact ⟨c, by rw [← hc, take_get (by omega)], hge⟩
   ·obtain ⟨c, hc, hl⟩ := s2 (by rw [List.length_take]; omega)
    exact ⟨c, by rw [Nat.add_sub_cancel, ← hc, take_get (by omega)], hl⟩
theorem vget_local {d : List UInt8} {n k : Nat} (h : vget d = (n, k, 0)) (t : List UInt8) : vget (d.take k ++ t) = (n, k, 0) := by
 obtain ⟨h1, h2, h3, h4, ⟨c, h5, h5'⟩, h6⟩ := vget_parts h
 have hl : (d.take k).length = k := by rw [List.length_take]; omega
 rw [vget_ok (l := d.take k ++ t) (k := k - 1) (b := c) (by omega) (fun j hj => by
  obtain ⟨c, hc, hge⟩ := h4 j hj
  exact ⟨c, by rw [List.getElem?_append_left (by omega), take_get (by omega)]; exact hc, hge⟩) (by rw [List.getElem?_append_left (by omega), take_get (by omega)]; exact h5) h5']
 rw [show k - 1 + 1 = k by omega, List.take_left' hl, h6]
theorem wfix_local {d : List UInt8} {S n k : Nat} (h : wfix d S = (n, k, 0)) (t : List UInt8) : wfix (d.take k ++ t) S = (n, k, 0) := by
 unfold wfix at h ⊢
 split at h
 ·simp at h
 ·simp only [Prod.mk.injEq, and_true] at h
  obtain ⟨h1, rfl⟩ := h
  have hl : (d.take S).length = S := by rw [List.length_take]; omega
  rw [if_neg (by rw [List.length_append]; omega), List.take_left' hl, h1]
theorem wnum_local {wire : Nat} {d : List UInt8} {n k : Nat} (h : wnum wire d = (n, k, 0)) (t : List UInt8) : wnum wire (d.take k ++ t) = (n, k, 0) := by
 unfold wnum at h ⊢
 split
 ·rename_i c
  rw [if_pos c] at h
  exact wfix_local h t
 ·rename_i c
  rw [if_neg c] at h
  split
  ·rename_i c
   rw [if_pos c] at h
   exact wfix_local h t
  ·rename_i c
   rw [if_neg c] at h
   exact vget_local h t
theorem wnext_parts {d : List UInt8} {r : Rc} {p : Nat} (h : wnext d = (r, p, 0)) :
  ∃ m k n q, vget d = (m, k, 0) ∧ tellsN m = (r.no, r.wire, 0) ∧ wnum r.wire (d.drop k) = (n, q, 0) ∧ r.num = n ∧ r.upto = p ∧
   ((r.wire = 2 ∧ r.frm = k + q ∧ p = k + q + n ∧ n ≤ d.length - (k + q)) ∨ (r.wire ≠ 2 ∧ r.frm = k ∧ p = k + q)) := by
 unfold wnext at h
 split at h
 ·rename_i h0
  obtain ⟨m, k, hv⟩ : ∃ m k, vget d = (m, k, 0) := ⟨_, _, by rw [← h0]⟩
  rw [hv] at h
  unfold wtell at h
  simp only at h
  split at h
  ·rename_i h1
   obtain ⟨no, wire, ht⟩ : ∃ no wire, tellsN m = (no, wire, 0) := ⟨_, _, by rw [← h1]⟩
   rw [ht] at h
   simp only at h
   unfold wrest at h
   split at h
   ·rename_i h2
    obtain ⟨n, q, hn⟩ : ∃ n q, wnum wire (d.drop k) = (n, q, 0) := ⟨_, _, by rw [← h2]⟩
    rw [hn] at h
    unfold wrun at h
    simp only at h
    split at h
    ·rename_i h3
     split at h
     ·rename_i h4
      simp only [Prod.mk.injEq, and_true] at h
      obtain ⟨rfl, rfl⟩ := h
      exact ⟨m, k, n, q, hv, ht, hn, rfl, rfl, Or.inl ⟨h3, rfl, rfl, h4⟩⟩
     ·simp at h
    ·rename_i h3
     simp only [Prod.mk.injEq, and_true] at h
     obtain ⟨rfl, rfl⟩ := h
     exact ⟨m, k, n, q, hv, ht, hn, rfl, rfl, Or.inr ⟨h3, rfl, rfl⟩⟩
   ·simp only [Prod.mk.injEq] at h; omega
  ·simp only [Prod.mk.injEq] at h; omega
 ·simp only [Prod.mk.injEq] at h; omega
theorem wnext_of {d : List UInt8} {m k n q no wire : Nat} (hv : vget d = (m, k, 0)) (ht : tellsN m = (no, wire, 0)) (hn : wnum wire (d.drop k) = (n, q, 0)) : wnext d = wrun no wire k n q d.length := by
 unfold wnext
 rw [hv]
 simp only [if_true]
 unfold wtell
 rw [ht]
 simp only [if_true]
 unfold wrest
 rw [hn]
 simp
theorem wnext_le {d : List UInt8} {r : Rc} {p : Nat} (h : wnext d = (r, p, 0)) : 2 ≤ p ∧ p ≤ d.length ∧ r.upto = p ∧ 1 ≤ r.frm ∧ r.frm ≤ p := by
 obtain ⟨m, k, n, q, h1, h2, h3, h4, h5, h6⟩ := wnext_parts h
 obtain ⟨b1, _, b2, _⟩ := vget_parts h1
 have b3 := wnum_le (wire := r.wire) (d := d.drop k)
 rw [h3, List.length_drop] at b3
 have b4 : 1 ≤ q := by
  unfold wnum at h3
  split at h3
  ·unfold wfix at h3
   split at h3
   ·simp at h3
   ·simp only [Prod.mk.injEq] at h3; omega
  ·split at h3
   ·unfold wfix at h3
    split at h3
    ·simp at h3
    ·simp only [Prod.mk.injEq] at h3; omega
   ·exact (vget_parts h3).1
 simp only at b3
 rcases h6 with ⟨_, h7, h8, h9⟩ | ⟨_, h7, h8⟩ <;> omega
theorem wnext_local {d : List UInt8} {r : Rc} {p : Nat} (h : wnext d = (r, p, 0)) (t : List UInt8) : wnext (d.take p ++ t) = (r, p, 0) := by
 have hp := wnext_le h
 obtain ⟨m, k, n, q, h1, h2, h3, h4, h5, h6⟩ := wnext_parts h
 obtain ⟨b1, _, b2, _⟩ := vget_parts h1
 have b3 := wnum_le (wire := r.wire) (d := d.drop k)
 rw [h3, List.length_drop] at b3
 simp only at b3
 have hkp : k + q ≤ p := by rcases h6 with ⟨_, h7, h8, h9⟩ | ⟨_, h7, h8⟩ <;> omega
 have e1 : d.take p ++ t = d.take k ++ ((d.drop k).take (p - k) ++ t) := by
  rw [← List.append_assoc, show p = k + (p - k) by omega, List.take_add, show k + (p - k) - k = p - k by omega]
 have e2 : (d.take p ++ t).drop k = (d.drop k).take q ++ (((d.drop k).drop q).take (p - k - q) ++ t) := by
  rw [e1, List.drop_left' (by rw [List.length_take]; omega), ← List.append_assoc, show p - k = q + (p - k - q) by omega, List.take_add, show q + (p - k - q) - q = p - k - q by omega]
 have v1 : vget (d.take p ++ t) = (m, k, 0) := by rw [e1]; exact vget_local h1 _
 have v3 : wnum r.wire ((d.take p ++ t).drop k) = (n, q, 0) := by rw [e2]; exact wnum_local h3 _
 rw [wnext_of v1 h2 v3]
 have hlen : p ≤ (d.take p ++ t).length := by rw [List.length_append, List.length_take]; omega
 unfold wrun
 obtain ⟨no, wire, num, frm, upto⟩ := r
 simp only at h4 h5 h6 ⊢
 rcases h6 with ⟨h7, h8, h9, _⟩ | ⟨h7, h8, h9⟩
 ·rw [if_pos h7, if_pos (by omega)]
  simp only [Prod.mk.injEq, Rc.mk.injEq, true_and, and_true]
  omega
 ·rw [if_neg h7]
  simp only [Prod.mk.injEq, Rc.mk.injEq, true_and, and_true]
  omega
end Go.Proofs.YtckcojkpghiclaaGreatDoor
