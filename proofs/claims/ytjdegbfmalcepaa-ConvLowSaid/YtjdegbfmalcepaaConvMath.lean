/-
  Numbers of kinds, their bits, and back: on integers alone.
-/
import Derived.Test.YtjdegbfmalcepaaConvRules
namespace Go.Proofs.Ytjdegbfmalcepaa
theorem seven_cnt {k : Int} (h : cnt k = true) : k = 0 ∨ k = 1 ∨ k = 2 ∨ k = 3 ∨ k = 4 ∨ k = 5 ∨ k = 6 := by
  simp [cnt] at h
  exact seven h
theorem fits_cnt {k n : Int} (h : fitsB k n = true) : cnt k = true := by
  by_cases hk : 0 ≤ k ∧ k < 7
  · simp [cnt, hk]
  · unfold fitsB at h
    rw [if_neg (by omega), if_neg (by omega), if_neg (by omega), if_neg (by omega), if_neg (by omega), if_neg (by omega), if_neg (by omega)] at h
    cases h
theorem bitsI_bound (k : Int) {n : Int} (h0 : -9223372036854775808 ≤ n) (h1 : n ≤ 9223372036854775807) : 0 ≤ bitsI k n ∧ bitsI k n < 18446744073709551616 := by
  unfold bitsI zigI U64
  repeat' split
  all_goals omega
theorem ofI_bound (k : Int) {r : Int} (h0 : 0 ≤ r) (h1 : r < 18446744073709551616) : -9223372036854775808 ≤ ofI k r ∧ ofI k r ≤ 9223372036854775807 := by
  unfold ofI unzigI S64 S32
  repeat' split
  all_goals omega
theorem of_bits {k n : Int} (h0 : -9223372036854775808 ≤ n) (h1 : n ≤ 9223372036854775807) (h : fitsB k n = true) : ofI k (bitsI k n) = n := by
  unfold bitsI
  rw [if_pos h]
  rcases seven_cnt (fits_cnt h) with rfl | rfl | rfl | rfl | rfl | rfl | rfl
  · simp only [ofI, S64, U64]; simp; split <;> split <;> omega
  · simp only [ofI, unzigI, zigI]; simp; split <;> split <;> omega
  · simp [fitsB] at h; simp only [ofI, U64]; simp; split <;> omega
  · simp [fitsB] at h; simp only [ofI, U64]; simp; rcases h with rfl | rfl <;> simp
  · simp [fitsB] at h; simp only [ofI, U64]; simp; split <;> omega
  · simp only [ofI, S64, U64]; simp; split <;> split <;> omega
  · simp [fitsB] at h; simp only [ofI, U64, S32]; simp; split <;> split <;> omega
theorem fits_of {k r : Int} (h0 : 0 ≤ r) (h1 : r < 18446744073709551616) (h : cnt k = true) : fitsB k (ofI k r) = true := by
  rcases seven_cnt h with rfl | rfl | rfl | rfl | rfl | rfl | rfl
  · rfl
  · rfl
  · simp [fitsB, ofI]; omega
  · simp [fitsB, ofI]; omega
  · simp [fitsB, ofI]; omega
  · rfl
  · simp [fitsB, ofI, S32]; split <;> omega
theorem bits_one {k n m : Int} (n0 : -9223372036854775808 ≤ n) (n1 : n ≤ 9223372036854775807) (m0 : -9223372036854775808 ≤ m) (m1 : m ≤ 9223372036854775807)
    (h : fitsB k n = true) (h' : fitsB k m = true) : (bitsI k n == bitsI k m) = (n == m) := by
  by_cases e : n = m
  · subst e; simp
  · have e2 : bitsI k n ≠ bitsI k m := by
      intro hb
      have h1 := of_bits n0 n1 h
      rw [hb, of_bits m0 m1 h'] at h1
      exact e h1.symm
    have a1 : (n == m) = false := by simpa using e
    have a2 : (bitsI k n == bitsI k m) = false := by simpa using e2
    rw [a1, a2]
end Go.Proofs.Ytjdegbfmalcepaa
