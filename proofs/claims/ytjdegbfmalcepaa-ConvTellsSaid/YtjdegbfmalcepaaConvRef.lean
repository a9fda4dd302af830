/-
  The document's answers for numbers of kinds.
-/
import Derived.Test.YtjdegbfmalcepaaConvRules
namespace Go.Proofs.Ytjdegbfmalcepaa
open Go.RowKit

theorem rsigned_any (r : Int) (h0 : 0 ≤ r) (h1 : r < 18446744073709551616) (w : World) : Calls Try.prog 20 #[.int .u64 r] w fun e w' => e = .returned (.int .i64 (S64 r)) ∧ w = w' := by
  unfold S64
  by_cases h : r < 9223372036854775808
  · rw [if_pos h]
    go_enter Try.func20, Try.ntmps20
    go_wp2
    go_ret
    refine ⟨ret_int ?_, rfl⟩
    omega
  · rw [if_neg h]
    go_enter Try.func20, Try.ntmps20
    go_wp2
    go_ret
    refine ⟨ret_int ?_, rfl⟩
    omega

theorem rwire_any (k : Int) (w : World) : Calls Try.prog 15 #[.int .i64 k] w fun e w' => e = .returned (.int .i64 (wireI k)) ∧ w = w' := by
  go_enter Try.func15, Try.ntmps15
  go_wp2
  all_goals
    go_ret
    refine ⟨ret_int ?_, rfl⟩
    unfold wireI
    first | (simp_all; done) | (simp_all; omega)
theorem rfits_any (k n : Int) (w : World) : Calls Try.prog 17 #[.int .i64 k, .int .i64 n] w fun e w' => e = .returned (.bool (fitsB k n)) ∧ w = w' := by
  go_enter Try.func17, Try.ntmps17
  go_wp2
  all_goals
    go_ret
    refine ⟨ret_bool ?_, rfl⟩
    unfold fitsB
    first | (simp_all; done) | (simp_all; omega)
theorem rof_any (k r : Int) (h0 : 0 ≤ r) (h1 : r < 18446744073709551616) (w : World) : Calls Try.prog 11 #[.int .i64 k, .int .u64 r] w fun e w' => e = .returned (.tuple #[.int .i64 (ofI k r), .bool (cnt k)]) ∧ w = w' := by
  go_enter Try.func11, Try.ntmps11
  go_wp2_with (go_at_call 20; refine (rsigned_any r h0 h1 _).mono ?_; rintro e w' ⟨rfl, rfl⟩)
  all_goals
    go_ret2
    refine ⟨?_, rfl⟩
    unfold ofI cnt
    first | (simp_all; done) | (simp_all; omega) | (simp_all [unzigI, S32]; done) | (simp_all [unzigI, S32]; omega)

theorem rbits_any (k n : Int) (h0 : -9223372036854775808 ≤ n) (h1 : n ≤ 9223372036854775807) (w : World) : Calls Try.prog 13 #[.int .i64 k, .int .i64 n] w fun e w' => e = .returned (.tuple #[.int .u64 (bitsI k n), .bool (fitsB k n)]) ∧ w = w' := by
  have hf := rfits_any k n
  unfold bitsI
  cases hb : fitsB k n
  · rw [hb] at hf
    clear hb
    go_enter Try.func13, Try.ntmps13
    go_wp2_with (go_at_call 17; refine (hf _).mono ?_; rintro e w' ⟨rfl, rfl⟩)
    go_ret2
    exact ⟨rfl, rfl⟩
  · rw [hb] at hf
    clear hb
    go_enter Try.func13, Try.ntmps13
    go_wp2_with (go_at_call 17; refine (hf _).mono ?_; rintro e w' ⟨rfl, rfl⟩)
    all_goals
      go_ret2
      refine ⟨?_, rfl⟩
      simp_all [zigI, U64]
      try omega
end Go.Proofs.Ytjdegbfmalcepaa
