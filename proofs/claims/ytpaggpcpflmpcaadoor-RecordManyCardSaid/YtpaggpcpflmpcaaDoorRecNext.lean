/-
  The record that begins at a place: the contracts of the two functions that tell it, and of the one that tells its number.
-/
import Derived.Test.YtpaggpcpflmpcaaDoorRecMath
import Derived.Test.YtpaggpcpflmpcaaDoorVarRunfix
import Derived.Great.BuildSlice
import Derived.Deep.WholeRow
import Derived.Laws.CopyOwn
namespace Go.Proofs.YtpaggpcpflmpcaaDoor
open Go.RowKit

theorem infoRec : (Tryd.prog.info? 25).map (·.size) = some 5 := by kernel_rfl
theorem results_row_tmp2 {P : Program} {fn : Func} {p u v : Tmp} {ty : TypeId} (h : fn.results = #[.cell p ty, .tmp u, .tmp v]) (tmps : Array Value) (w : World) (g : Nat) (t : TypeId) (cs : Array Value) (fr : Nat × Nat) (d : TypeDesc)
    (hp : tmps.getD p undef = .pointer (some ⟨g, 0, none⟩)) (hg : w.heap[g]? = some (.cells cs t fr))
    (hu : P.underlying ty = some d) (hd : (match d with | .struct _ | .array _ _ => true | _ => false) = true) (hi : (P.info? ty).map (·.size) = some cs.size) :
    (results fn tmps).run P w = .ok (.tuple #[.agg cs, tmps.getD u undef, tmps.getD v undef]) w := by
  have hp' : tmps[p]?.getD undef = .pointer (some ⟨g, 0, none⟩) := by simpa using hp
  simp [results, h, hp', asAddr, run_loadVar_row w g t ty cs fr d hg hu hd hi]

/-- A record is stored where one lies. -/
theorem wpList_store_rec {ops : Array Oper} {rest : List Oper} {o : Oper} {a : Act} {w : World} {Q : Exit → Act → World → Prop} (hgd : o.guard = none) (x y : Operand) (ho : o.op = .store 25 x y)
    (hd : o.dst = none) (g : Nat) (n1 n2 n3 n4 n5 o1 o2 o3 o4 o5 : Int) (hx : a.eval x = .pointer (some ⟨g, 0, none⟩)) (hy : a.eval y = .agg #[.int .i64 n1, .int .i64 n2, .int .u64 n3, .int .i64 n4, .int .i64 n5])
    (t : TypeId) (hg : w.heap[g]? = some (.cells #[.int .i64 o1, .int .i64 o2, .int .u64 o3, .int .i64 o4, .int .i64 o5] t (0, 0)))
    (h : wpList Tryd.prog ops Q rest a (w.setRow g #[.int .i64 n1, .int .i64 n2, .int .u64 n3, .int .i64 n4, .int .i64 n5])) : wpList Tryd.prog ops Q (o :: rest) a w :=
  wpList_store_rowTo hgd 25 x y ho hd g _ hx hy t _ hg infoRec rfl (by simp [Value.oneCell']) h
/-- Three results, of which the first is a record that lies in a block. -/
theorem results_rec {fn : Func} {p u v : Tmp} (h : fn.results = #[.cell p 25, .tmp u, .tmp v]) (tmps : Array Value) (w : World) (g : Nat) (t : TypeId) (n1 n2 n3 n4 n5 : Int) (fr : Nat × Nat)
    (hp : tmps.getD p undef = .pointer (some ⟨g, 0, none⟩)) (hg : w.heap[g]? = some (.cells #[.int .i64 n1, .int .i64 n2, .int .u64 n3, .int .i64 n4, .int .i64 n5] t fr)) :
    (results fn tmps).run Tryd.prog w = .ok (.tuple #[.agg #[.int .i64 n1, .int .i64 n2, .int .u64 n3, .int .i64 n4, .int .i64 n5], tmps.getD u undef, tmps.getD v undef]) w :=
  results_row_tmp2 h tmps w g t _ fr _ hp hg Tryd.underlying25 rfl infoRec

theorem number_any (A : Option Addr) (c : Nat) (l : List UInt8) (a u : Int) (wire : Nat) (hl : l.length ≤ 1000000000) (w : World) (h1 : SlB w A c l) :
    Calls Tryd.prog 19 #[.slice A l.length c, .int .i64 a, .int .i64 u, .int .i64 wire] w fun e w' => e = .returned (V3 (numR l a u wire)) ∧ w = w' := by
  by_cases h8 : wire = 1
  · have hn : numR l a u wire = unfixR l a u 8 := by unfold numR; rw [if_pos h8]
    obtain ⟨x, y, z, hx⟩ : ∃ x y z, unfixR l a u 8 = (x, y, z) := ⟨_, _, _, rfl⟩
    rw [hn, hx]
    subst h8
    go_enter Tryd.func19, Tryd.ntmps19
    go_wp2_with fail
    refine (unfix_any A c l a u 8 hl w h1).mono ?_
    rintro e w1 ⟨rfl, rfl⟩
    rw [hx]
    unfold V3
    go_wp2
    go_ret3
    exact ⟨rfl, rfl⟩
  · have b8 : ((wire : Int) == 1) = false := by simp; omega
    by_cases h4 : wire = 5
    · have hn : numR l a u wire = unfixR l a u 4 := by unfold numR; rw [if_neg h8, if_pos h4]
      obtain ⟨x, y, z, hx⟩ : ∃ x y z, unfixR l a u 4 = (x, y, z) := ⟨_, _, _, rfl⟩
      rw [hn, hx]
      subst h4
      go_enter Tryd.func19, Tryd.ntmps19
      go_wp2_with fail
      refine (unfix_any A c l a u 4 hl w h1).mono ?_
      rintro e w1 ⟨rfl, rfl⟩
      rw [hx]
      unfold V3
      go_wp2
      go_ret3
      exact ⟨rfl, rfl⟩
    · have b4 : ((wire : Int) == 5) = false := by simp; omega
      have hn : numR l a u wire = getR l a u := by unfold numR; rw [if_neg h8, if_neg h4]
      obtain ⟨x, y, z, hx⟩ : ∃ x y z, getR l a u = (x, y, z) := ⟨_, _, _, rfl⟩
      rw [hn, hx]
      clear h8 h4
      go_enter Tryd.func19, Tryd.ntmps19
      go_wp2_with fail
      refine (get_any A c l a u hl w h1).mono ?_
      rintro e w1 ⟨rfl, rfl⟩
      rw [hx]
      unfold V3
      go_wp2
      go_ret3
      exact ⟨rfl, rfl⟩

set_option maxRecDepth 1000000 in
theorem next_any (A : Option Addr) (c : Nat) (l : List UInt8) (a u : Int) (hl : l.length ≤ 1000000000) (w : World) (h1 : SlB w A c l) (T : Wires w) :
    Calls Tryd.prog 10 #[.slice A l.length c, .int .i64 a, .int .i64 u] w fun e w' => e = .returned (NV (nextR l a u)) ∧ Below w.heap.size w w' := by
  obtain ⟨no, wire, f, x, ht⟩ : ∃ no wire f x, tgetR l a u = (no, wire, f, x) := ⟨_, _, _, _, rfl⟩
  have hN : nextR l a u = if x = 0 then restR no wire f u (numR l f u wire) else (Rc.zero, 0, x) := by unfold nextR; rw [ht]
  rw [hN]
  by_cases hx : x = 0
  · rw [if_pos hx]
    subst hx
    obtain ⟨n, p, y, hn⟩ : ∃ n p y, numR l f u wire = (n, p, y) := ⟨_, _, _, rfl⟩
    have hR : restR no wire f u (numR l f u wire) = if y = 0 then runR no wire f n p u else (Rc.zero, 0, y) := by unfold restR; rw [hn]
    rw [hR]
    by_cases hy : y = 0
    · rw [if_pos hy]
      subst hy
      have hk := num_ok hn
      by_cases hw : wire = 2
      · have hr : runR no wire f n p u = if (n : Int) ≤ u - p then (⟨no, wire, n, p, p + n⟩, p + n, 0) else (Rc.zero, 0, 6) := by unfold runR; rw [if_pos hw]
        rw [hr]
        have bw : ((wire : Int) == 2) = true := by simp [hw]
        have ec : IntKind.u64.wrap (IntKind.i64.wrap (u - p)) = u - p := by simp [IntKind.wrap, IntKind.signed, IntKind.bits]; omega
        have e1 : IntKind.i64.wrap (u - p) = u - p := by simp [IntKind.wrap, IntKind.signed, IntKind.bits]; split <;> omega
        have e1' : IntKind.u64.wrap (u - p) = u - p := by simp [IntKind.wrap, IntKind.signed, IntKind.bits]; omega
        by_cases hc : (n : Int) ≤ u - p
        · rw [if_pos hc]
          have bc : decide (u - p < (n : Int)) = false := by simp; omega
          have e2 : IntKind.i64.wrap (n : Int) = n := by simp [IntKind.wrap, IntKind.signed, IntKind.bits]; split <;> omega
          have e3 : IntKind.i64.wrap ((p : Int) + n) = ((p + n : Nat) : Int) := by simp [IntKind.wrap, IntKind.signed, IntKind.bits]; split <;> omega
          generalize hq : p + n = q at *
          clear hk hq hc hr hR hN hw
          go_enter Tryd.func10, Tryd.ntmps10
          go_wp2_with fail
          refine (tget_any A c l a u hl _ (h1.lit _) (T.on (below_new _ _))).mono ?_
          rintro e w1 ⟨rfl, hb1⟩
          rw [ht]
          unfold V4
          have hg1 := hb1.block w.heap.size (by simp)
          rw [heap_alloc_new] at hg1
          go_wp2_with fail
          refine (number_any A c l f u wire hl _ ((h1.lit _).on hb1)).mono ?_
          rintro e w2 ⟨rfl, rfl⟩
          rw [hn]
          unfold V3
          go_wp2_with (refine wpList_store_rec rfl _ _ rfl rfl w.heap.size _ _ _ _ _ _ _ _ _ _ rfl rfl _ hg1 ?_)
          refine bodyPost_ret (results_rec rfl _ _ w.heap.size _ _ _ _ _ _ (0, 0) rfl (setRow_heap _ _ _ _ _ _ hg1)) rfl ?_
          exact ⟨rfl, below_setRow (below_then (below_new _ _) hb1) (Nat.le_refl _) _⟩
        · rw [if_neg hc]
          have bc : decide (u - p < (n : Int)) = true := by simp; omega
          clear hk hc hr hR hN hw
          go_enter Tryd.func10, Tryd.ntmps10
          go_wp2_with fail
          refine (tget_any A c l a u hl _ (h1.lit _) (T.on (below_new _ _))).mono ?_
          rintro e w1 ⟨rfl, hb1⟩
          rw [ht]
          unfold V4
          have hg1 := hb1.block w.heap.size (by simp)
          rw [heap_alloc_new] at hg1
          go_wp2_with fail
          refine (number_any A c l f u wire hl _ ((h1.lit _).on hb1)).mono ?_
          rintro e w2 ⟨rfl, rfl⟩
          rw [hn]
          unfold V3
          go_wp2_with (refine wpList_store_rec rfl _ _ rfl rfl w.heap.size _ _ _ _ _ _ _ _ _ _ rfl rfl _ hg1 ?_)
          refine bodyPost_ret (results_rec rfl _ _ w.heap.size _ _ _ _ _ _ (0, 0) rfl (setRow_heap _ _ _ _ _ _ hg1)) rfl ?_
          exact ⟨rfl, below_setRow (below_then (below_new _ _) hb1) (Nat.le_refl _) _⟩
      · have hr : runR no wire f n p u = (⟨no, wire, n, f, p⟩, p, 0) := by unfold runR; rw [if_neg hw]
        rw [hr]
        have bw : ((wire : Int) == 2) = false := by simp; omega
        clear hk hr hR hN hw
        go_enter Tryd.func10, Tryd.ntmps10
        go_wp2_with fail
        refine (tget_any A c l a u hl _ (h1.lit _) (T.on (below_new _ _))).mono ?_
        rintro e w1 ⟨rfl, hb1⟩
        rw [ht]
        unfold V4
        have hg1 := hb1.block w.heap.size (by simp)
        rw [heap_alloc_new] at hg1
        go_wp2_with fail
        refine (number_any A c l f u wire hl _ ((h1.lit _).on hb1)).mono ?_
        rintro e w2 ⟨rfl, rfl⟩
        rw [hn]
        unfold V3
        go_wp2_with (refine wpList_store_rec rfl _ _ rfl rfl w.heap.size _ _ _ _ _ _ _ _ _ _ rfl rfl _ hg1 ?_)
        refine bodyPost_ret (results_rec rfl _ _ w.heap.size _ _ _ _ _ _ (0, 0) rfl (setRow_heap _ _ _ _ _ _ hg1)) rfl ?_
        exact ⟨rfl, below_setRow (below_then (below_new _ _) hb1) (Nat.le_refl _) _⟩
    · rw [if_neg hy]
      have by' : ((y : Int) != 0) = true := by simp; omega
      clear hR hN
      go_enter Tryd.func10, Tryd.ntmps10
      go_wp2_with fail
      refine (tget_any A c l a u hl _ (h1.lit _) (T.on (below_new _ _))).mono ?_
      rintro e w1 ⟨rfl, hb1⟩
      rw [ht]
      unfold V4
      have hg1 := hb1.block w.heap.size (by simp)
      rw [heap_alloc_new] at hg1
      go_wp2_with fail
      refine (number_any A c l f u wire hl _ ((h1.lit _).on hb1)).mono ?_
      rintro e w2 ⟨rfl, rfl⟩
      rw [hn]
      unfold V3
      go_wp2_with (refine wpList_store_rec rfl _ _ rfl rfl w.heap.size _ _ _ _ _ _ _ _ _ _ rfl rfl _ hg1 ?_)
      refine bodyPost_ret (results_rec rfl _ _ w.heap.size _ _ _ _ _ _ (0, 0) rfl (setRow_heap _ _ _ _ _ _ hg1)) rfl ?_
      exact ⟨rfl, below_setRow (below_then (below_new _ _) hb1) (Nat.le_refl _) _⟩
  · rw [if_neg hx]
    have bx : ((x : Int) != 0) = true := by simp; omega
    clear hN
    go_enter Tryd.func10, Tryd.ntmps10
    go_wp2_with fail
    refine (tget_any A c l a u hl _ (h1.lit _) (T.on (below_new _ _))).mono ?_
    rintro e w1 ⟨rfl, hb1⟩
    rw [ht]
    unfold V4
    have hg1 := hb1.block w.heap.size (by simp)
    rw [heap_alloc_new] at hg1
    go_wp2_with (refine wpList_store_rec rfl _ _ rfl rfl w.heap.size _ _ _ _ _ _ _ _ _ _ rfl rfl _ hg1 ?_)
    refine bodyPost_ret (results_rec rfl _ _ w.heap.size _ _ _ _ _ _ (0, 0) rfl (setRow_heap _ _ _ _ _ _ hg1)) rfl ?_
    exact ⟨rfl, below_setRow (below_then (below_new _ _) hb1) (Nat.le_refl _) _⟩
end Go.Proofs.YtpaggpcpflmpcaaDoor
