/-
  What a number tells that stands ahead of a field: the contract.
-/
import Derived.Test.YtpaggpcpflmpcaaDoorTagKnown
import Derived.Deep.WholeRow
namespace Go.Proofs.YtpaggpcpflmpcaaDoor
open Go.RowKit

/-- The number, the wire type, the error. -/
def tellsN (n : Nat) : Nat × Nat × Nat := if n / 8 = 0 ∨ 536870911 < n / 8 then (0, 0, 9) else if knownB ((n % 8 : Nat) : Int) then (n / 8, n % 8, 0) else (0, 0, 8)
def TV (r : Nat × Nat × Nat) : Value := .agg #[.int .i64 r.1, .int .i64 r.2.1, .int .i64 r.2.2]

set_option maxRecDepth 1000000 in
theorem tells_any (n : Nat) (hn : n < 18446744073709551616) (w : World) (T : Wires w) :
    Calls Tryd.prog 32 #[.int .u64 n] w fun e w' => e = .returned (TV (tellsN n)) ∧ Below w.heap.size w w' := by
  have hq : ∃ q r : Nat, q = n / 8 ∧ r = n % 8 ∧ q < 2305843009213693952 ∧ r < 8 := ⟨_, _, rfl, rfl, by omega, by omega⟩
  obtain ⟨q, r, hq, hr, hq1, hr1⟩ := hq
  have hqi : (n : Int) / 8 = (q : Int) := by omega
  have hri : (n : Int) % 8 = (r : Int) := by omega
  have hdef : tellsN n = if q = 0 ∨ 536870911 < q then (0, 0, 9) else if knownB ((r : Nat) : Int) then (q, r, 0) else (0, 0, 8) := by rw [hq, hr]; rfl
  clear hq hr
  by_cases h0 : q = 0 ∨ 536870911 < q
  · rw [if_pos h0] at hdef
    rw [hdef]
    rcases h0 with h0 | h0
    · have b0 : ((q : Int) == 0) = true := by simp [h0]
      go_enter Tryd.func32, Tryd.ntmps32
      go_wp2
      refine bodyPost_ret (results_cell_row rfl _ _ w.heap.size 57 _ (0, 0) _ rfl (heap_alloc_last w _) Tryd.underlying57 rfl (by kernel_rfl)) rfl ?_
      exact ⟨rfl, below_new _ _⟩
    · have b0 : ((q : Int) == 0) = false := by simp; omega
      have b1 : decide ((536870911 : Int) < (q : Int)) = true := by simp; omega
      go_enter Tryd.func32, Tryd.ntmps32
      go_wp2
      refine bodyPost_ret (results_cell_row rfl _ _ w.heap.size 57 _ (0, 0) _ rfl (heap_alloc_last w _) Tryd.underlying57 rfl (by kernel_rfl)) rfl ?_
      exact ⟨rfl, below_new _ _⟩
  · rw [if_neg h0] at hdef
    have b0 : ((q : Int) == 0) = false := by simp; omega
    have b1 : decide ((536870911 : Int) < (q : Int)) = false := by simp; omega
    by_cases hk : knownB ((r : Nat) : Int) = true
    · rw [if_pos hk] at hdef
      rw [hdef]
      go_enter Tryd.func32, Tryd.ntmps32
      go_wp2_with fail
      refine (known_any _ _ (T.on (below_new _ _))).mono ?_
      rintro e w1 ⟨rfl, rfl⟩
      rw [hk]
      go_wp2
      refine bodyPost_ret (results_cell_row rfl _ _ w.heap.size 57 _ (0, 0) _ rfl (heap_alloc_last w _) Tryd.underlying57 rfl (by kernel_rfl)) rfl ?_
      exact ⟨rfl, below_new _ _⟩
    · rw [if_neg hk] at hdef
      have hk : knownB ((r : Nat) : Int) = false := by simpa using hk
      rw [hdef]
      go_enter Tryd.func32, Tryd.ntmps32
      go_wp2_with fail
      refine (known_any _ _ (T.on (below_new _ _))).mono ?_
      rintro e w1 ⟨rfl, rfl⟩
      rw [hk]
      go_wp2
      refine bodyPost_ret (results_cell_row rfl _ _ w.heap.size 57 _ (0, 0) _ rfl (heap_alloc_last w _) Tryd.underlying57 rfl (by kernel_rfl)) rfl ?_
      exact ⟨rfl, below_new _ _⟩
end Go.Proofs.YtpaggpcpflmpcaaDoor
