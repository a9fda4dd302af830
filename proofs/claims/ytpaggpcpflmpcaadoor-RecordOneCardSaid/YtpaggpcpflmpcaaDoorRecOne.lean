/-
  Two records have the same bytes just if they are of the same number and wire type, with the same number, as far as it goes, or the same run.
-/
import Derived.Test.YtpaggpcpflmpcaaDoorRecBack
namespace Go.Proofs.YtpaggpcpflmpcaaDoor
open Go.RowKit

theorem fixb_congr : ∀ (k n m : Nat), n % 256 ^ k = m % 256 ^ k → fixb n k = fixb m k
  | 0, _, _, _ => rfl
  | k + 1, n, m, h => by
    rw [Nat.pow_succ', Nat.mod_mul, Nat.mod_mul] at h
    have h1 := Nat.mod_lt n (show 0 < 256 by omega)
    have h2 := Nat.mod_lt m (show 0 < 256 by omega)
    rw [fixb, fixb, fixb_congr k (n / 256) (m / 256) (by omega), show n % 256 = m % 256 by omega]
def oneQ (wire : Int) (n m : Nat) (x y : List UInt8) : Prop := if wire = 2 then x = y else if wire = 5 then n % 4294967296 = m % 4294967296 else n = m
theorem recL_iff {no wire no' wire' : Nat} (h : putB no wire = true) (k : putB no' wire' = true) {n m : Nat} (hn : n < 18446744073709551616) (hm : m < 18446744073709551616) {x y : List UInt8} (hx : x.length < 18446744073709551616) (hy : y.length < 18446744073709551616) :
    recL no wire n x = recL no' wire' m y ↔ ((no : Int) = no' ∧ (wire : Int) = wire' ∧ oneQ wire n m x y) := by
  constructor
  · intro e
    have h1 := wnext_put h hn hx []
    have h2 := wnext_put k hm hy []
    rw [e] at h1
    rw [h1] at h2
    simp only [Prod.mk.injEq, Rc.mk.injEq] at h2
    obtain ⟨⟨rfl, rfl, hq, -, -⟩, -, -⟩ := h2
    refine ⟨rfl, rfl, ?_⟩
    unfold oneQ
    unfold numQ at hq
    by_cases w2 : wire = 2
    · rw [if_pos w2, if_pos w2] at hq
      rw [if_pos (by omega)]
      rw [recL_yes h, recL_yes k] at e
      have e := List.append_cancel_left e
      unfold restL at e
      rw [if_pos (by omega), if_pos (by omega), hq] at e
      exact List.append_cancel_left e
    · rw [if_neg w2, if_neg w2] at hq
      rw [if_neg (by omega)]
      by_cases w5 : wire = 5
      · rw [if_pos w5, if_pos w5] at hq
        rw [if_pos (by omega)]
        exact hq
      · rw [if_neg w5, if_neg w5] at hq
        rw [if_neg (by omega)]
        exact hq
  · rintro ⟨h1, h2, h3⟩
    obtain rfl : no = no' := by omega
    obtain rfl : wire = wire' := by omega
    unfold oneQ at h3
    rw [recL_yes h, recL_yes h]
    congr 1
    unfold restL
    by_cases w2 : (wire : Int) = 2
    · rw [if_pos w2] at h3
      rw [if_pos w2, if_pos w2, h3]
    · rw [if_neg w2] at h3
      rw [if_neg w2, if_neg w2]
      by_cases w1 : (wire : Int) = 1
      · rw [if_neg (by omega)] at h3
        rw [if_pos w1, if_pos w1, h3]
      · rw [if_neg w1, if_neg w1]
        by_cases w5 : (wire : Int) = 5
        · rw [if_pos w5] at h3
          rw [if_pos w5, if_pos w5]
          exact fixb_congr 4 n m (by simpa using h3)
        · rw [if_neg w5] at h3
          rw [if_neg w5, if_neg w5, h3]
end Go.Proofs.YtpaggpcpflmpcaaDoor
