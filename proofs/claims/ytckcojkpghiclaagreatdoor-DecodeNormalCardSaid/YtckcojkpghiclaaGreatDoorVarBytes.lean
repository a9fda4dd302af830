/-
 Package-level variables: an array of numbers that lies in its own block, and that nothing turns.
-/
import Derived.Test.YtckcojkpghiclaaGreatDoorVarUnfix
import Derived.Lib.LaidTab
import Derived.Deep.WholeRow
import Derived.BigQuiet
import Derived.Deep.QuietTactic
namespace Go.Proofs.YtckcojkpghiclaaGreatDoor
set_option maxRecDepth 100000
open Go.RowKit
def TabAt (w : World) (g : Nat) (cs : Array Value) : Prop := ∃ t fr, w.heap[g]? = some (.cells cs t fr)
theorem TabAt.on {w w' : World} {g : Nat} {cs : Array Value} (h : TabAt w g cs) (hb : Below w.heap.size w w') : TabAt w' g cs := by
 obtain ⟨t, fr, h⟩ := h
 exact ⟨t, fr, (hb.block g (Array.getElem?_eq_some_iff.1 h).1).trans h⟩
theorem TabAt.of_var {P : Program} {w : World} {n : String} {g : Nat} {cs : Array Value} (hg : P.globalNamed n = some g) (h : w.var? P n = some cs) : TabAt w g cs := by
 simp only [World.var?, hg, Option.bind_some] at h
 split at h
 ·rename_i c t fr hb
  cases h
  exact ⟨t, fr, hb⟩
 ·cases h
end Go.Proofs.YtckcojkpghiclaaGreatDoor
/-
 The wire types that there are: the contracts of the two functions that tell them.
-/
namespace Go.Proofs.YtckcojkpghiclaaGreatDoor
set_option maxRecDepth 100000
open Go.RowKit
def wiresC : Array Value := #[.int .i64 0, .int .i64 1, .int .i64 2, .int .i64 5]
def Wires (w : World) : Prop := TabAt w 1 wiresC
theorem Wires.on {w w' : World} (h : Wires w) (hb : Below w.heap.size w w') : Wires w' := TabAt.on h hb
def knownB (i : Int) : Bool := decide (i = 0 ∨ i = 1 ∨ i = 2 ∨ i = 5)
def KnownRel (i : Int) (v : Value) : Prop := ∃ k : Nat, v = .int .i64 k ∧ k ≤ 4 ∧ (0 < k → i ≠ 0) ∧ (1 < k → i ≠ 1) ∧ (2 < k → i ≠ 2) ∧ (3 < k → i ≠ 5)
set_option maxRecDepth 1000000 in
theorem known_any (i : Int) (w : World) (T : Wires w) :
  Calls Tryz.prog 109 #[.int .i64 i] w fun e w' => e = .returned (.bool (knownB i)) ∧ w = w' := by
 obtain ⟨tt, fr, hT⟩ := T
 go_enter Tryz.func109, Tryz.ntmps109
 go_wp2_with (refine wpList_load_row rfl 207 _ rfl 1 rfl tt _ fr _ hT Tryz.underlying207 rfl (by kernel_rfl) ?_)
 go_loop [6] (fun v => KnownRel i v) (fun v => 4 - (intOf v).toNat)
 case atStart => exact ⟨0, rfl, by omega, by omega, by omega, by omega, by omega⟩
 case round =>
  obtain ⟨k, rfl, hk, h0, h1, h2, h3⟩ := hrel
  have hc : k = 0 ∨ k = 1 ∨ k = 2 ∨ k = 3 ∨ k = 4 := by omega
  have e0 : (Instr.index 207 (.agg wiresC) (.int .i64 0)).run Tryz.prog w = .ok (.int .i64 0) w := by kernel_rfl
  have e1 : (Instr.index 207 (.agg wiresC) (.int .i64 1)).run Tryz.prog w = .ok (.int .i64 1) w := by kernel_rfl
  have e2 : (Instr.index 207 (.agg wiresC) (.int .i64 2)).run Tryz.prog w = .ok (.int .i64 2) w := by kernel_rfl
  have e3 : (Instr.index 207 (.agg wiresC) (.int .i64 3)).run Tryz.prog w = .ok (.int .i64 5) w := by kernel_rfl
  rcases hc with rfl | rfl | rfl | rfl | rfl
  ·by_cases h : i = 0
   ·have hB : ((0 : Int) == i) = true := by simp [h]
    go_wp2
    go_ret
    exact ⟨ret_bool (by simp [knownB, h]), rfl⟩
   ·have hB : ((0 : Int) == i) = false := by simp; omega
    go_wp2
    exact ⟨⟨1, rfl, by omega, by omega, by omega, by omega, by omega⟩, by simp [intOf]⟩
  ·by_cases h : i = 1
   ·have hB : ((1 : Int) == i) = true := by simp [h]
    go_wp2
    go_ret
    exact ⟨ret_bool (by simp [knownB, h]), rfl⟩
   ·have hB : ((1 : Int) == i) = false := by simp; omega
    go_wp2
    exact ⟨⟨2, rfl, by omega, by omega, by omega, by omega, by omega⟩, by simp [intOf]⟩
  ·by_cases h : i = 2
   ·have hB : ((2 : Int) == i) = true := by simp [h]
    go_wp2
    go_ret
    exact ⟨ret_bool (by simp [knownB, h]), rfl⟩
   ·have hB : ((2 : Int) == i) = false := by simp; omega
    go_wp2
    exact ⟨⟨3, rfl, by omega, by omega, by omega, by omega, by omega⟩, by simp [intOf]⟩
  ·by_cases h : i = 5
   ·have hB : ((5 : Int) == i) = true := by simp [h]
    go_wp2
    go_ret
    exact ⟨ret_bool (by simp [knownB, h]), rfl⟩
   ·have hB : ((5 : Int) == i) = false := by simp; omega
    go_wp2
    exact ⟨⟨4, rfl, by omega, by omega, by omega, by omega, by omega⟩, by simp [intOf]⟩
  ·go_wp2
   go_ret
   refine ⟨ret_bool ?_, rfl⟩
   have : ¬ (i = 0 ∨ i = 1 ∨ i = 2 ∨ i = 5) := by omega
   simp [knownB, this]
end Go.Proofs.YtckcojkpghiclaaGreatDoor
/-
 What a number tells that stands ahead of a field: the contract.
-/
namespace Go.Proofs.YtckcojkpghiclaaGreatDoor
set_option maxRecDepth 100000
open Go.RowKit
def tellsN (n : Nat) : Nat × Nat × Nat := if n / 8 = 0 ∨ 536870911 < n / 8 then (0, 0, 9) else if knownB ((n % 8 : Nat) : Int) then (n / 8, n % 8, 0) else (0, 0, 8)
def TV (r : Nat × Nat × Nat) : Value := .agg #[.int .i64 r.1, .int .i64 r.2.1, .int .i64 r.2.2]
set_option maxRecDepth 1000000 in
theorem tells_any (n : Nat) (hn : n < 18446744073709551616) (w : World) (T : Wires w) :
  Calls Tryz.prog 69 #[.int .u64 n] w fun e w' => e = .returned (TV (tellsN n)) ∧ Below w.heap.size w w' := by
 have hq : ∃ q r : Nat, q = n / 8 ∧ r = n % 8 ∧ q < 2305843009213693952 ∧ r < 8 := ⟨_, _, rfl, rfl, by omega, by omega⟩
 obtain ⟨q, r, hq, hr, hq1, hr1⟩ := hq
 have hqi : (n : Int) / 8 = (q : Int) := by omega
 have hri : (n : Int) % 8 = (r : Int) := by omega
 have hdef : tellsN n = if q = 0 ∨ 536870911 < q then (0, 0, 9) else if knownB ((r : Nat) : Int) then (q, r, 0) else (0, 0, 8) := by rw [hq, hr]; rfl
 clear hq hr
 by_cases h0 : q = 0 ∨ 536870911 < q
 ·rw [if_pos h0] at hdef
  rw [hdef]
  rcases h0 with h0 | h0
  ·have b0 : ((q : Int) == 0) = true := by simp [h0]
   go_enter Tryz.func69, Tryz.ntmps69
   go_wp2
   refine bodyPost_ret (results_cell_row rfl _ _ w.heap.size 121 _ (0, 0) _ rfl (heap_alloc_last w _) Tryz.underlying121 rfl (by kernel_rfl)) rfl ?_
   exact ⟨rfl, below_new _ _⟩
  ·have b0 : ((q : Int) == 0) = false := by simp; omega
   have b1 : decide ((536870911 : Int) < (q : Int)) = true := by simp; omega
   go_enter Tryz.func69, Tryz.ntmps69
   go_wp2
   refine bodyPost_ret (results_cell_row rfl _ _ w.heap.size 121 _ (0, 0) _ rfl (heap_alloc_last w _) Tryz.underlying121 rfl (by kernel_rfl)) rfl ?_
   exact ⟨rfl, below_new _ _⟩
 ·rw [if_neg h0] at hdef
  have b0 : ((q : Int) == 0) = false := by simp; omega
  have b1 : decide ((536870911 : Int) < (q : Int)) = false := by simp; omega
  by_cases hk : knownB ((r : Nat) : Int) = true
  ·rw [if_pos hk] at hdef
   rw [hdef]
   go_enter Tryz.func69, Tryz.ntmps69
   go_wp2_with fail
   refine (known_any _ _ (T.on (below_new _ _))).mono ?_
   rintro e w1 ⟨rfl, rfl⟩
   rw [hk]
   go_wp2
   refine bodyPost_ret (results_cell_row rfl _ _ w.heap.size 121 _ (0, 0) _ rfl (heap_alloc_last w _) Tryz.underlying121 rfl (by kernel_rfl)) rfl ?_
   exact ⟨rfl, below_new _ _⟩
  ·rw [if_neg hk] at hdef
   have hk : knownB ((r : Nat) : Int) = false := by simpa using hk
   rw [hdef]
   go_enter Tryz.func69, Tryz.ntmps69
   go_wp2_with fail
   refine (known_any _ _ (T.on (below_new _ _))).mono ?_
   rintro e w1 ⟨rfl, rfl⟩
   rw [hk]
   go_wp2
   refine bodyPost_ret (results_cell_row rfl _ _ w.heap.size 121 _ (0, 0) _ rfl (heap_alloc_last w _) Tryz.underlying121 rfl (by kernel_rfl)) rfl ?_
   exact ⟨rfl, below_new _ _⟩
end Go.Proofs.YtckcojkpghiclaaGreatDoor
/-
 What is got of numbers that were put, and of bytes that stand elsewhere: facts on lists of bytes.
-/
namespace Go.Proofs.YtckcojkpghiclaaGreatDoor
set_option maxRecDepth 100000
open Go.RowKit
theorem vget_bound (l : List UInt8) : (vget l).2.1 ≤ l.length := by
 have h := lead_le (l.take 10)
 rw [List.length_take] at h
 unfold vget
 split
 ·simp
 ·split
  ·simp
  ·simp only
   omega
theorem get_lt (l : List UInt8) (a u : Int) : (getR l a u).1 < 18446744073709551616 := by
 unfold getR getS
 split
 ·exact vget_lt _
 ·simp
end Go.Proofs.YtckcojkpghiclaaGreatDoor
/-
 What is told of the bytes ahead of a field: the contract of the function that gets it, and of the document's own.
-/
namespace Go.Proofs.YtckcojkpghiclaaGreatDoor
set_option maxRecDepth 100000
open Go.RowKit
def tgetR (l : List UInt8) (a u : Int) : Nat × Nat × Nat × Nat :=
 if (getR l a u).2.2 = 0 then (if (tellsN (getR l a u).1).2.2 = 0 then ((tellsN (getR l a u).1).1, (tellsN (getR l a u).1).2.1, (getR l a u).2.1, 0) else (0, 0, 0, (tellsN (getR l a u).1).2.2)) else (0, 0, 0, (getR l a u).2.2)
def V4 (r : Nat × Nat × Nat × Nat) : Value := .tuple #[.int .i64 r.1, .int .i64 r.2.1, .int .i64 r.2.2.1, .int .i64 r.2.2.2]
theorem results_tmp4 {fn : Func} {t u v x : Tmp} (h : fn.results = #[.tmp t, .tmp u, .tmp v, .tmp x]) (tmps : Array Value) (P : Program) (w : World) :
  (results fn tmps).run P w = .ok (.tuple #[tmps.getD t undef, tmps.getD u undef, tmps.getD v undef, tmps.getD x undef]) w := by
 simp [results, h]
set_option maxRecDepth 1000000 in
theorem tget_any (A : Option Addr) (c : Nat) (l : List UInt8) (a u : Int) (hl : l.length ≤ 1000000000) (w : World) (h1 : SlB w A c l) (T : Wires w) :
  Calls Tryz.prog 146 #[.slice A l.length c, .int .i64 a, .int .i64 u] w fun e w' => e = .returned (V4 (tgetR l a u)) ∧ Below w.heap.size w w' := by
 obtain ⟨n, p, x, hg, hn⟩ : ∃ n p x, getR l a u = (n, p, x) ∧ n < 18446744073709551616 := ⟨_, _, _, rfl, get_lt l a u⟩
 have hR : tgetR l a u = if x = 0 then (if (tellsN n).2.2 = 0 then ((tellsN n).1, (tellsN n).2.1, p, 0) else (0, 0, 0, (tellsN n).2.2)) else (0, 0, 0, x) := by unfold tgetR; rw [hg]
 by_cases hx : x = 0
 ·rw [if_pos hx] at hR
  subst hx
  obtain ⟨q, r, y, ht⟩ : ∃ q r y, tellsN n = (q, r, y) := ⟨_, _, _, rfl⟩
  rw [ht] at hR
  simp only at hR
  by_cases hy : y = 0
  ·rw [if_pos hy] at hR
   subst hy
   rw [hR]
   go_enter Tryz.func146, Tryz.ntmps146
   go_wp2_with fail
   refine (get_any A c l a u hl w h1).mono ?_
   rintro e w1 ⟨rfl, rfl⟩
   rw [hg]
   unfold V3
   go_wp2_with fail
   refine (tells_any n hn w T).mono ?_
   rintro e w1 ⟨rfl, hb⟩
   rw [ht]
   unfold TV
   go_wp2
   go_quiet (fail)
   go_wp2
   refine bodyPost_ret (results_tmp4 rfl _ _ _) rfl ?_
   exact ⟨rfl, below_draws (below_lit hb _) _⟩
  ·rw [if_neg hy] at hR
   rw [hR]
   have b1 : ((y : Int) != 0) = true := by simp; omega
   go_enter Tryz.func146, Tryz.ntmps146
   go_wp2_with fail
   refine (get_any A c l a u hl w h1).mono ?_
   rintro e w1 ⟨rfl, rfl⟩
   rw [hg]
   unfold V3
   go_wp2_with fail
   refine (tells_any n hn w T).mono ?_
   rintro e w1 ⟨rfl, hb⟩
   rw [ht]
   unfold TV
   go_wp2
   go_quiet (fail)
   go_wp2
   refine bodyPost_ret (results_tmp4 rfl _ _ _) rfl ?_
   exact ⟨rfl, below_draws (below_lit hb _) _⟩
 ·rw [if_neg hx] at hR
  rw [hR]
  have b1 : ((x : Int) != 0) = true := by simp; omega
  go_enter Tryz.func146, Tryz.ntmps146
  go_wp2_with fail
  refine (get_any A c l a u hl w h1).mono ?_
  rintro e w1 ⟨rfl, rfl⟩
  rw [hg]
  unfold V3
  go_wp2
  refine bodyPost_ret (results_tmp4 rfl _ _ _) rfl ?_
  exact ⟨rfl, Below.refl _ _⟩
end Go.Proofs.YtckcojkpghiclaaGreatDoor
/-
 The contracts of the document's own way to put a number into bytes of seven bits.
-/
namespace Go.Proofs.YtckcojkpghiclaaGreatDoor
set_option maxRecDepth 100000
open Go.RowKit
end Go.Proofs.YtckcojkpghiclaaGreatDoor
/-
 The contracts of the functions that put a number of seven bits a byte: what is answered reads as a list.
-/
namespace Go.Proofs.YtckcojkpghiclaaGreatDoor
set_option maxRecDepth 100000
open Go.RowKit
end Go.Proofs.YtckcojkpghiclaaGreatDoor
/-
 What stands ahead of a field: the contract of the function that puts it, and of the document's own.
-/
namespace Go.Proofs.YtckcojkpghiclaaGreatDoor
set_option maxRecDepth 100000
open Go.RowKit
end Go.Proofs.YtckcojkpghiclaaGreatDoor
/-
 Records of bytes as lists: what is told at a place, and of all places from one to another one.
-/
namespace Go.Proofs.YtckcojkpghiclaaGreatDoor
set_option maxRecDepth 100000
open Go.RowKit
structure Rc where
 no : Nat
 wire : Nat
 num : Nat
 frm : Nat
 upto : Nat
 deriving DecidableEq
def Rc.zero : Rc := ⟨0, 0, 0, 0, 0⟩
def RV (r : Rc) : Value := .agg #[.int .i64 r.no, .int .i64 r.wire, .int .u64 r.num, .int .i64 r.frm, .int .i64 r.upto]
def numR (l : List UInt8) (a u : Int) (wire : Nat) : Nat × Nat × Nat :=
 if wire = 1 then unfixR l a u 8 else if wire = 5 then unfixR l a u 4 else getR l a u
def runR (no wire f n p : Nat) (u : Int) : Rc × Nat × Nat :=
 if wire = 2 then (if (n : Int) ≤ u - p then (⟨no, wire, n, p, p + n⟩, p + n, 0) else (Rc.zero, 0, 6)) else (⟨no, wire, n, f, p⟩, p, 0)
def restR (no wire f : Nat) (u : Int) (x : Nat × Nat × Nat) : Rc × Nat × Nat :=
 if x.2.2 = 0 then runR no wire f x.1 x.2.1 u else (Rc.zero, 0, x.2.2)
def nextR (l : List UInt8) (a u : Int) : Rc × Nat × Nat :=
 if (tgetR l a u).2.2.2 = 0 then restR (tgetR l a u).1 (tgetR l a u).2.1 (tgetR l a u).2.2.1 u (numR l (tgetR l a u).2.2.1 u (tgetR l a u).2.1)
 else (Rc.zero, 0, (tgetR l a u).2.2.2)
def NV (x : Rc × Nat × Nat) : Value := .tuple #[RV x.1, .int .i64 x.2.1, .int .i64 x.2.2]
theorem lead_lt {l : List UInt8} (h : ¬ lead (l.take 10) = 10) (h2 : ¬ lead (l.take 10) = l.length) : lead (l.take 10) + 1 ≤ l.length := by
 have := lead_le (l.take 10)
 rw [List.length_take] at this
 omega
theorem get_ok {l : List UInt8} {a u : Int} {n p : Nat} (h : getR l a u = (n, p, 0)) : 0 ≤ a ∧ a < p ∧ (p : Int) ≤ u ∧ u ≤ l.length ∧ n < 18446744073709551616 ∧ (p : Int) ≤ a + 10 := by
 have hn := get_lt l a u
 rw [h] at hn
 unfold getR at h
 split at h
 ·rename_i hm
  have hm := mayB_true.1 hm
  obtain ⟨an, rfl⟩ := Int.eq_ofNat_of_zero_le hm.1
  obtain ⟨un, rfl⟩ := Int.eq_ofNat_of_zero_le (show 0 ≤ u by omega)
  unfold getS at h
  simp only [Int.toNat_natCast] at h
  have hL : ((l.drop an).take (un - an)).length = un - an := by simp; omega
  generalize (l.drop an).take (un - an) = d at *
  have h2 := congrArg (·.2.1) h
  have h3 := congrArg (·.2.2) h
  simp only at h2 h3
  rw [if_pos h3] at h2
  unfold vget at h3 h2
  by_cases c1 : lead (d.take 10) = 10
  ·rw [if_pos c1] at h3; simp at h3
  ·rw [if_neg c1] at h3 h2
   by_cases c2 : lead (d.take 10) = d.length
   ·rw [if_pos c2] at h3; simp at h3
   ·rw [if_neg c2] at h2
    simp only at h2
    have := lead_lt c1 c2
    have h10 := lead_le (d.take 10)
    rw [List.length_take] at h10
    simp only at hn
    omega
 ·simp at h
theorem unfix_ok {l : List UInt8} {a u s : Int} {n p : Nat} (h : unfixR l a u s = (n, p, 0)) : 0 ≤ a ∧ (p : Int) = a + s ∧ (s = 4 ∨ s = 8) ∧ (p : Int) ≤ u ∧ u ≤ l.length ∧ n < 18446744073709551616 := by
 unfold unfixR at h
 split at h
 ·rename_i hm
  rw [Bool.and_eq_true] at hm
  have hs : s = 4 ∨ s = 8 := by simpa [sizeB] using hm.2
  have hm := mayB_true.1 hm.1
  obtain ⟨an, rfl⟩ := Int.eq_ofNat_of_zero_le hm.1
  obtain ⟨un, rfl⟩ := Int.eq_ofNat_of_zero_le (show 0 ≤ u by omega)
  obtain ⟨sn, rfl⟩ := Int.eq_ofNat_of_zero_le (show 0 ≤ s by omega)
  simp only [Int.toNat_natCast] at h
  unfold unfixS at h
  split at h
  ·simp at h
  ·simp only [Prod.mk.injEq] at h
   have := fix_lt l an sn (by omega)
   omega
 ·simp at h
theorem num_ok {l : List UInt8} {a u : Int} {w n p : Nat} (h : numR l a u w = (n, p, 0)) : 0 ≤ a ∧ a < p ∧ (p : Int) ≤ u ∧ u ≤ l.length ∧ n < 18446744073709551616 := by
 unfold numR at h
 split at h
 ·have := unfix_ok h; omega
 ·split at h
  ·have := unfix_ok h; omega
  ·have := get_ok h; omega
end Go.Proofs.YtckcojkpghiclaaGreatDoor
/-
 The contract of the function that holds two slices of bytes against each other.
-/
namespace Go.Proofs.YtckcojkpghiclaaGreatDoor
set_option maxRecDepth 100000
open Go.RowKit
theorem take_ne {l m : List UInt8} {k : Nat} {x y : UInt8} (hx : l[k]? = some x) (hy : m[k]? = some y) (hne : x ≠ y) : l ≠ m := by
 rintro rfl
 rw [hx] at hy
 exact hne (by injection hy)
theorem take_next5 {l m : List UInt8} {k : Nat} {x : UInt8} (hx : l[k]? = some x) (hy : m[k]? = some x) (h : l.take k = m.take k) : l.take (k + 1) = m.take (k + 1) := by
 rw [List.take_add_one, List.take_add_one, h, hx, hy]
set_option maxRecDepth 100000 in
theorem bytes_any (A A' : Option Addr) (c c' : Nat) (l m : List UInt8) (w : World) (hl : l.length ≤ 1000000000) (hm : m.length ≤ 1000000000) (h1 : SlB w A c l) (h2 : SlB w A' c' m) :
  Calls Tryz.prog 28 #[.slice A l.length c, .slice A' m.length c'] w fun e w' => e = .returned (.bool (decide (l = m))) ∧ Below w.heap.size w w' := by
 by_cases hlen : l.length = m.length
 ·have hb : ((l.length : Int) != (m.length : Int)) = false := by simp [hlen]
  go_enter Tryz.func28, Tryz.ntmps28
  have HL := Lib.hid hlen
  clear hlen
  go_wp2
  clear hb
  go_loopw [5] (fun i wr => ∃ k d : Nat, i = .int .i64 k ∧ k ≤ l.length ∧ l.take k = m.take k ∧ wr = w.drewN d) (fun i _ => l.length - (intOf i).toNat)
  case atStart => exact ⟨0, 0, rfl, by omega, rfl, rfl⟩
  case round =>
   obtain ⟨k, d, rfl, hk, ht, rfl⟩ := hrel
   have HT := Lib.hid ht
   clear ht
   by_cases hlt : k < l.length
   ·obtain ⟨ad, x, rfl, _, hx0, hc⟩ := h1.at_ hlt
    obtain ⟨ad', y, rfl, _, hy0, hc'⟩ := h2.at_ (k := k) (by have := HL.out; omega)
    have HX := Lib.hid hx0
    have HY := Lib.hid hy0
    have hlt' : k < m.length := by have := HL.out; omega
    clear hx0 hy0 h1 h2
    by_cases hxy : x = y
    ·subst hxy
     go_wp2
     go_quiet (fail)
     go_wp2
     exact ⟨⟨k + 1, d + nq, by go_num, by omega, take_next5 HX.out HY.out HT.out, rfl⟩, by simp [intOf]; omega⟩
    ·have hne : ((x.toNat : Int) != (y.toNat : Int)) = true := by
      rw [bne_iff_ne]
      intro h
      exact hxy (UInt8.toNat_inj.1 (by omega))
     have HF : Hid (decide (l = m) = false) := Lib.hid (decide_eq_false (take_ne HX.out HY.out hxy))
     clear hxy
     go_wp2
     go_quiet (fail)
     go_wp2
     go_ret
     exact ⟨by rw [HF.out]; rfl, (by repeat (first | exact Below.refl _ _ | assumption | refine below_draws ?_ _ | refine Below.drew ?_))⟩
   ·obtain rfl : k = l.length := by omega
    have HF : Hid (decide (l = m) = true) := Lib.hid (decide_eq_true (by
     have h := HT.out
     rw [List.take_length, HL.out, List.take_length] at h
     exact h))
    clear h1 h2 HT HL
    go_wp2
    go_ret
    exact ⟨by rw [HF.out]; rfl, (by repeat (first | exact Below.refl _ _ | assumption | refine below_draws ?_ _ | refine Below.drew ?_))⟩
 ·have hb : ((l.length : Int) != (m.length : Int)) = true := by rw [bne_iff_ne]; omega
  have HF : Hid (decide (l = m) = false) := Lib.hid (decide_eq_false (by rintro rfl; exact hlen rfl))
  clear hlen
  go_enter Tryz.func28, Tryz.ntmps28
  go_wp2
  go_ret
  exact ⟨by rw [HF.out]; rfl, Below.refl _ _⟩
theorem bytes_at (A A' : Option Addr) (k k' c c' : Nat) (l m : List UInt8) (hk : k = l.length) (hk' : k' = m.length) (w : World) (hl : l.length ≤ 1000000000) (hm : m.length ≤ 1000000000) (h1 : SlB w A c l) (h2 : SlB w A' c' m) :
  Calls Tryz.prog 28 #[.slice A k c, .slice A' k' c'] w fun e w' => e = .returned (.bool (decide (l = m))) ∧ Below w.heap.size w w' := by
 subst hk hk'
 exact bytes_any A A' c c' l m w hl hm h1 h2
end Go.Proofs.YtckcojkpghiclaaGreatDoor
