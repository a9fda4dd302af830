/-
  The record that begins at a place, by the document's own function: its contract.
-/
import Derived.Test.YtpaggpcpflmpcaaDoorRecNext
import Derived.BigQuiet
namespace Go.Proofs.YtpaggpcpflmpcaaDoor
open Go.RowKit

theorem rnum_ok (l : List UInt8) (f : Int) (u : Int) (wire : Nat) : numR l f u wire = if wire = 1 then unfixR l f u 8 else if wire = 5 then unfixR l f u 4 else getR l f u := rfl

set_option maxRecDepth 1000000 in
set_option maxHeartbeats 4000000 in
theorem rnext_any (A : Option Addr) (c : Nat) (l : List UInt8) (a u : Int) (hl : l.length ≤ 1000000000) (w : World) (h1 : SlB w A c l) :
    Calls Tryd.prog 11 #[.slice A l.length c, .int .i64 a, .int .i64 u] w fun e w' => e = .returned (NV (nextR l a u)) ∧ Below w.heap.size w w' := by
  obtain ⟨no, wire, f, x, ht⟩ : ∃ no wire f x, tgetR l a u = (no, wire, f, x) := ⟨_, _, _, _, rfl⟩
  have hN : nextR l a u = if x = 0 then restR no wire f u (numR l f u wire) else (Rc.zero, 0, x) := by unfold nextR; rw [ht]
  rw [hN]
  have hZ := heap_alloc_new w (.cells #[.int .i64 0, .int .i64 0, .int .u64 0, .int .i64 0, .int .i64 0] 25)
  by_cases hx : x = 0
  · rw [if_pos hx]
    subst hx
    obtain ⟨n, p, y, hn⟩ : ∃ n p y, numR l f u wire = (n, p, y) := ⟨_, _, _, rfl⟩
    have hR : restR no wire f u (numR l f u wire) = if y = 0 then runR no wire f n p u else (Rc.zero, 0, y) := by unfold restR; rw [hn]
    rw [hR]
    -- the number is told in one of three ways
    have h3 : (wire = 1 ∧ unfixR l f u 8 = (n, p, y)) ∨ (((wire : Int) == 1) = false ∧ wire = 5 ∧ unfixR l f u 4 = (n, p, y)) ∨ (((wire : Int) == 1) = false ∧ ((wire : Int) == 5) = false ∧ getR l f u = (n, p, y)) := by
      rw [rnum_ok] at hn
      by_cases h8 : wire = 1
      · rw [if_pos h8] at hn; exact Or.inl ⟨h8, hn⟩
      · rw [if_neg h8] at hn
        have b8 : ((wire : Int) == 1) = false := by simp; omega
        by_cases h4 : wire = 5
        · rw [if_pos h4] at hn; exact Or.inr (Or.inl ⟨b8, h4, hn⟩)
        · rw [if_neg h4] at hn; exact Or.inr (Or.inr ⟨b8, by simp; omega, hn⟩)
    by_cases hy : y = 0
    · rw [if_pos hy]
      subst hy
      have hk := num_ok hn
      clear hR hN
      by_cases hw : wire = 2
      · have hr : runR no wire f n p u = if (n : Int) ≤ u - p then (⟨no, wire, n, p, p + n⟩, p + n, 0) else (Rc.zero, 0, 6) := by unfold runR; rw [if_pos hw]
        rw [hr]
        subst hw
        have h3 : getR l f u = (n, p, 0) := by simpa using h3
        have ec : IntKind.i64.wrap (u - p) = u - p := by simp [IntKind.wrap, IntKind.signed, IntKind.bits]; split <;> omega
        by_cases hc : (n : Int) ≤ u - p
        · rw [if_pos hc]
          have bb : decide ((1000000000000 : Int) < (n : Int)) = false := by simp; omega
          have bc : decide (u - p < (n : Int)) = false := by simp; omega
          have e2 : IntKind.i64.wrap (n : Int) = n := by simp [IntKind.wrap, IntKind.signed, IntKind.bits]; split <;> omega
          have e3 : IntKind.i64.wrap ((p : Int) + n) = ((p + n : Nat) : Int) := by simp [IntKind.wrap, IntKind.signed, IntKind.bits]; split <;> omega
          generalize hq : p + n = q at *
          clear hk hq hc hr hn
          go_enter Tryd.func11, Tryd.ntmps11
          go_wp2_with fail
          refine (rtget_any A c l a u hl _ (h1.lit _)).mono ?_
          rintro e w1 ⟨rfl, rfl⟩
          rw [ht]
          unfold V4
          go_wp2_with fail
          refine (rget_any A c l f u hl _ (h1.lit _)).mono ?_
          rintro e w2 ⟨rfl, rfl⟩
          rw [h3]
          unfold V3
          go_wp2
          go_region
          go_wp2
          refine bodyPost_ret (results_rec rfl _ _ w.heap.size _ _ _ _ _ _ (0, 0) rfl (heap_alloc2_old _ _ _)) rfl ?_
          exact ⟨rfl, (below_lit (below_new _ _) _).drew⟩
        · rw [if_neg hc]
          have hA : ((w.alloc (.cells #[.int .i64 0, .int .i64 0, .int .u64 0, .int .i64 0, .int .i64 0] 25)).alloc (.cells #[.int .i64 no, .int .i64 (2 : Nat), .int .u64 n, .int .i64 f, .int .i64 p] 25)).heap[w.heap.size + 1]? = some (.cells #[.int .i64 no, .int .i64 (2 : Nat), .int .u64 n, .int .i64 f, .int .i64 p] 25) := heap_alloc2_new _ _ _
          have hC : ((w.alloc (.cells #[.int .i64 0, .int .i64 0, .int .u64 0, .int .i64 0, .int .i64 0] 25)).alloc (.cells #[.int .i64 no, .int .i64 (2 : Nat), .int .u64 n, .int .i64 f, .int .i64 p] 25)).heap[w.heap.size]? = some (.cells #[.int .i64 0, .int .i64 0, .int .u64 0, .int .i64 0, .int .i64 0] 25) := heap_alloc2_old _ _ _
          have bc : decide ((1000000000000 : Int) < (n : Int)) = true ∨ (decide ((1000000000000 : Int) < (n : Int)) = false ∧ IntKind.i64.wrap (n : Int) = n ∧ decide (u - p < (n : Int)) = true) := by
            by_cases h : 1000000000000 < (n : Int)
            · exact Or.inl (by simp; omega)
            · exact Or.inr ⟨by simp; omega, by simp [IntKind.wrap, IntKind.signed, IntKind.bits]; split <;> omega, by simp; omega⟩
          clear hk hc hr hn
          rcases bc with bc | ⟨bb, e2, bc⟩
          · go_enter Tryd.func11, Tryd.ntmps11
            go_wp2_with fail
            refine (rtget_any A c l a u hl _ (h1.lit _)).mono ?_
            rintro e w1 ⟨rfl, rfl⟩
            rw [ht]
            unfold V4
            go_wp2_with fail
            refine (rget_any A c l f u hl _ (h1.lit _)).mono ?_
            rintro e w2 ⟨rfl, rfl⟩
            rw [h3]
            unfold V3
            go_wp2_with (first | (refine wpList_store_rec rfl _ _ rfl rfl w.heap.size _ _ _ _ _ _ _ _ _ _ rfl rfl _ hC ?_) | (refine wpList_load_row rfl 25 _ rfl (w.heap.size + 1) rfl 25 _ (0, 0) _ hA Tryd.underlying25 rfl infoRec ?_))
            refine bodyPost_ret (results_rec rfl _ _ w.heap.size _ _ _ _ _ _ (0, 0) rfl (setRow_heap _ _ _ _ _ _ hC)) rfl ?_
            exact ⟨rfl, below_setRow (below_lit (below_new _ _) _) (Nat.le_refl _) _⟩
          · go_enter Tryd.func11, Tryd.ntmps11
            go_wp2_with fail
            refine (rtget_any A c l a u hl _ (h1.lit _)).mono ?_
            rintro e w1 ⟨rfl, rfl⟩
            rw [ht]
            unfold V4
            go_wp2_with fail
            refine (rget_any A c l f u hl _ (h1.lit _)).mono ?_
            rintro e w2 ⟨rfl, rfl⟩
            rw [h3]
            unfold V3
            go_wp2_with (first | (refine wpList_store_rec rfl _ _ rfl rfl w.heap.size _ _ _ _ _ _ _ _ _ _ rfl rfl _ hC ?_) | (refine wpList_load_row rfl 25 _ rfl (w.heap.size + 1) rfl 25 _ (0, 0) _ hA Tryd.underlying25 rfl infoRec ?_))
            refine bodyPost_ret (results_rec rfl _ _ w.heap.size _ _ _ _ _ _ (0, 0) rfl (setRow_heap _ _ _ _ _ _ hC)) rfl ?_
            exact ⟨rfl, below_setRow (below_lit (below_new _ _) _) (Nat.le_refl _) _⟩
      · have hr : runR no wire f n p u = (⟨no, wire, n, f, p⟩, p, 0) := by unfold runR; rw [if_neg hw]
        rw [hr]
        have bw : ((wire : Int) != 2) = true := by simp; omega
        clear hk hr hw hn
        have hA : ((w.alloc (.cells #[.int .i64 0, .int .i64 0, .int .u64 0, .int .i64 0, .int .i64 0] 25)).alloc (.cells #[.int .i64 no, .int .i64 wire, .int .u64 n, .int .i64 f, .int .i64 p] 25)).heap[w.heap.size + 1]? = some (.cells #[.int .i64 no, .int .i64 wire, .int .u64 n, .int .i64 f, .int .i64 p] 25) := heap_alloc2_new _ _ _
        have hC : ((w.alloc (.cells #[.int .i64 0, .int .i64 0, .int .u64 0, .int .i64 0, .int .i64 0] 25)).alloc (.cells #[.int .i64 no, .int .i64 wire, .int .u64 n, .int .i64 f, .int .i64 p] 25)).heap[w.heap.size]? = some (.cells #[.int .i64 0, .int .i64 0, .int .u64 0, .int .i64 0, .int .i64 0] 25) := heap_alloc2_old _ _ _
        rcases h3 with ⟨rfl, h3⟩ | ⟨b8, rfl, h3⟩ | ⟨b8, b4, h3⟩
        · go_enter Tryd.func11, Tryd.ntmps11
          go_wp2_with fail
          refine (rtget_any A c l a u hl _ (h1.lit _)).mono ?_
          rintro e w1 ⟨rfl, rfl⟩
          rw [ht]
          unfold V4
          go_wp2_with fail
          refine (runfix_any A c l f u 8 hl _ (h1.lit _)).mono ?_
          rintro e w2 ⟨rfl, rfl⟩
          rw [h3]
          unfold V3
          go_wp2_with (first | (refine wpList_store_rec rfl _ _ rfl rfl w.heap.size _ _ _ _ _ _ _ _ _ _ rfl rfl _ hC ?_) | (refine wpList_load_row rfl 25 _ rfl (w.heap.size + 1) rfl 25 _ (0, 0) _ hA Tryd.underlying25 rfl infoRec ?_))
          refine bodyPost_ret (results_rec rfl _ _ w.heap.size _ _ _ _ _ _ (0, 0) rfl (setRow_heap _ _ _ _ _ _ hC)) rfl ?_
          exact ⟨rfl, below_setRow (below_lit (below_new _ _) _) (Nat.le_refl _) _⟩
        · go_enter Tryd.func11, Tryd.ntmps11
          go_wp2_with fail
          refine (rtget_any A c l a u hl _ (h1.lit _)).mono ?_
          rintro e w1 ⟨rfl, rfl⟩
          rw [ht]
          unfold V4
          go_wp2_with fail
          refine (runfix_any A c l f u 4 hl _ (h1.lit _)).mono ?_
          rintro e w2 ⟨rfl, rfl⟩
          rw [h3]
          unfold V3
          go_wp2_with (first | (refine wpList_store_rec rfl _ _ rfl rfl w.heap.size _ _ _ _ _ _ _ _ _ _ rfl rfl _ hC ?_) | (refine wpList_load_row rfl 25 _ rfl (w.heap.size + 1) rfl 25 _ (0, 0) _ hA Tryd.underlying25 rfl infoRec ?_))
          refine bodyPost_ret (results_rec rfl _ _ w.heap.size _ _ _ _ _ _ (0, 0) rfl (setRow_heap _ _ _ _ _ _ hC)) rfl ?_
          exact ⟨rfl, below_setRow (below_lit (below_new _ _) _) (Nat.le_refl _) _⟩
        · go_enter Tryd.func11, Tryd.ntmps11
          go_wp2_with fail
          refine (rtget_any A c l a u hl _ (h1.lit _)).mono ?_
          rintro e w1 ⟨rfl, rfl⟩
          rw [ht]
          unfold V4
          go_wp2_with fail
          refine (rget_any A c l f u hl _ (h1.lit _)).mono ?_
          rintro e w2 ⟨rfl, rfl⟩
          rw [h3]
          unfold V3
          go_wp2_with (first | (refine wpList_store_rec rfl _ _ rfl rfl w.heap.size _ _ _ _ _ _ _ _ _ _ rfl rfl _ hC ?_) | (refine wpList_load_row rfl 25 _ rfl (w.heap.size + 1) rfl 25 _ (0, 0) _ hA Tryd.underlying25 rfl infoRec ?_))
          refine bodyPost_ret (results_rec rfl _ _ w.heap.size _ _ _ _ _ _ (0, 0) rfl (setRow_heap _ _ _ _ _ _ hC)) rfl ?_
          exact ⟨rfl, below_setRow (below_lit (below_new _ _) _) (Nat.le_refl _) _⟩
    · rw [if_neg hy]
      have by' : ((y : Int) != 0) = true := by simp; omega
      clear hR hN hn
      rcases h3 with ⟨rfl, h3⟩ | ⟨b8, rfl, h3⟩ | ⟨b8, b4, h3⟩
      · go_enter Tryd.func11, Tryd.ntmps11
        go_wp2_with fail
        refine (rtget_any A c l a u hl _ (h1.lit _)).mono ?_
        rintro e w1 ⟨rfl, rfl⟩
        rw [ht]
        unfold V4
        go_wp2_with fail
        refine (runfix_any A c l f u 8 hl _ (h1.lit _)).mono ?_
        rintro e w2 ⟨rfl, rfl⟩
        rw [h3]
        unfold V3
        go_wp2_with (refine wpList_store_rec rfl _ _ rfl rfl w.heap.size _ _ _ _ _ _ _ _ _ _ rfl rfl _ hZ ?_)
        refine bodyPost_ret (results_rec rfl _ _ w.heap.size _ _ _ _ _ _ (0, 0) rfl (setRow_heap _ _ _ _ _ _ hZ)) rfl ?_
        exact ⟨rfl, below_setRow (below_new _ _) (Nat.le_refl _) _⟩
      · go_enter Tryd.func11, Tryd.ntmps11
        go_wp2_with fail
        refine (rtget_any A c l a u hl _ (h1.lit _)).mono ?_
        rintro e w1 ⟨rfl, rfl⟩
        rw [ht]
        unfold V4
        go_wp2_with fail
        refine (runfix_any A c l f u 4 hl _ (h1.lit _)).mono ?_
        rintro e w2 ⟨rfl, rfl⟩
        rw [h3]
        unfold V3
        go_wp2_with (refine wpList_store_rec rfl _ _ rfl rfl w.heap.size _ _ _ _ _ _ _ _ _ _ rfl rfl _ hZ ?_)
        refine bodyPost_ret (results_rec rfl _ _ w.heap.size _ _ _ _ _ _ (0, 0) rfl (setRow_heap _ _ _ _ _ _ hZ)) rfl ?_
        exact ⟨rfl, below_setRow (below_new _ _) (Nat.le_refl _) _⟩
      · go_enter Tryd.func11, Tryd.ntmps11
        go_wp2_with fail
        refine (rtget_any A c l a u hl _ (h1.lit _)).mono ?_
        rintro e w1 ⟨rfl, rfl⟩
        rw [ht]
        unfold V4
        go_wp2_with fail
        refine (rget_any A c l f u hl _ (h1.lit _)).mono ?_
        rintro e w2 ⟨rfl, rfl⟩
        rw [h3]
        unfold V3
        go_wp2_with (refine wpList_store_rec rfl _ _ rfl rfl w.heap.size _ _ _ _ _ _ _ _ _ _ rfl rfl _ hZ ?_)
        refine bodyPost_ret (results_rec rfl _ _ w.heap.size _ _ _ _ _ _ (0, 0) rfl (setRow_heap _ _ _ _ _ _ hZ)) rfl ?_
        exact ⟨rfl, below_setRow (below_new _ _) (Nat.le_refl _) _⟩
  · rw [if_neg hx]
    have bx : ((x : Int) != 0) = true := by simp; omega
    clear hN
    go_enter Tryd.func11, Tryd.ntmps11
    go_wp2_with fail
    refine (rtget_any A c l a u hl _ (h1.lit _)).mono ?_
    rintro e w1 ⟨rfl, rfl⟩
    rw [ht]
    unfold V4
    go_wp2_with (refine wpList_store_rec rfl _ _ rfl rfl w.heap.size _ _ _ _ _ _ _ _ _ _ rfl rfl _ hZ ?_)
    refine bodyPost_ret (results_rec rfl _ _ w.heap.size _ _ _ _ _ _ (0, 0) rfl (setRow_heap _ _ _ _ _ _ hZ)) rfl ?_
    exact ⟨rfl, below_setRow (below_new _ _) (Nat.le_refl _) _⟩
end Go.Proofs.YtpaggpcpflmpcaaDoor
