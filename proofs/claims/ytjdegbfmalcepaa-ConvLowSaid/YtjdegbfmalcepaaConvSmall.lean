/-
  The numbers of kinds: what the small functions of package conv hand back.
-/
import Derived.Test.YtjdegbfmalcepaaBase
namespace Go.Proofs.Ytjdegbfmalcepaa
open Go.RowKit

def S64 (r : Int) : Int := if r < 9223372036854775808 then r else r - 18446744073709551616
def S32 (r : Int) : Int := if r < 2147483648 then r else r - 4294967296
def U64 (n : Int) : Int := if 0 ≤ n then n else n + 18446744073709551616
def unzigI (r : Int) : Int := if r % 2 = 0 then r / 2 else -(r / 2) - 1
def zigI (n : Int) : Int := if 0 ≤ n then 2 * n else -2 * n - 1

theorem wrap_s64 {r : Int} (h0 : 0 ≤ r) (h1 : r < 18446744073709551616) : IntKind.i64.wrap r = S64 r := by
  unfold S64 IntKind.wrap
  simp [IntKind.signed, IntKind.bits]
  split <;> omega
theorem wrap_u64 {n : Int} (h0 : -9223372036854775808 ≤ n) (h1 : n ≤ 9223372036854775807) : IntKind.u64.wrap n = U64 n := by
  unfold U64 IntKind.wrap
  simp [IntKind.signed, IntKind.bits]
  split <;> omega

theorem counts_any (k : Int) (w : World) : Calls Try.prog 18 #[.int .i64 k] w fun e w' => e = .returned (.bool (decide (0 ≤ k) && decide (k < 7))) ∧ w = w' := by
  go_enter Try.func18, Try.ntmps18
  go_wp2
  all_goals
    go_ret
    refine ⟨?_, rfl⟩
    first | (simp_all; done) | (simp_all; omega) | (simp; omega)
theorem fitsAlways_any (n : Int) (w : World) : Calls Try.prog 21 #[.int .i64 n] w fun e w' => e = .returned (.bool true) ∧ w = w' := by
  go_enter Try.func21, Try.ntmps21
  go_wp2
  go_ret
  exact ⟨rfl, rfl⟩
theorem fitsLow_any (n : Int) (w : World) : Calls Try.prog 26 #[.int .i64 n] w fun e w' => e = .returned (.bool (decide (0 ≤ n) && decide (n ≤ 4294967295))) ∧ w = w' := by
  go_enter Try.func26, Try.ntmps26
  go_wp2
  all_goals
    go_ret
    refine ⟨?_, rfl⟩
    first | (simp_all; done) | (simp_all; omega) | (simp; omega)
theorem fitsFlag_any (n : Int) (w : World) : Calls Try.prog 28 #[.int .i64 n] w fun e w' => e = .returned (.bool (n == 0 || n == 1)) ∧ w = w' := by
  go_enter Try.func28, Try.ntmps28
  go_wp2
  all_goals
    go_ret
    refine ⟨?_, rfl⟩
    first | (simp_all; done) | (rename_i h; have e0 : (n == 0) = false := (by simp [h]); rw [e0]; rfl)
theorem fitsSignedLow_any (n : Int) (w : World) : Calls Try.prog 30 #[.int .i64 n] w fun e w' => e = .returned (.bool (decide (-2147483648 ≤ n) && decide (n ≤ 2147483647))) ∧ w = w' := by
  go_enter Try.func30, Try.ntmps30
  go_wp2
  all_goals
    go_ret
    refine ⟨?_, rfl⟩
    first | (simp_all; done) | (simp_all; omega) | (simp; omega)
theorem signed_any (r : Int) (h0 : 0 ≤ r) (h1 : r < 18446744073709551616) (w : World) : Calls Try.prog 22 #[.int .u64 r] w fun e w' => e = .returned (.int .i64 (S64 r)) ∧ w = w' := by
  have hw := wrap_s64 h0 h1
  go_enter Try.func22, Try.ntmps22
  go_wp2
  go_ret
  exact ⟨rfl, rfl⟩
theorem bitsOf_any (n : Int) (h0 : -9223372036854775808 ≤ n) (h1 : n ≤ 9223372036854775807) (w : World) : Calls Try.prog 23 #[.int .i64 n] w fun e w' => e = .returned (.int .u64 (U64 n)) ∧ w = w' := by
  have hw := wrap_u64 h0 h1
  go_enter Try.func23, Try.ntmps23
  go_wp2
  go_ret
  exact ⟨rfl, rfl⟩
theorem low_any (r : Int) (h0 : 0 ≤ r) (h1 : r < 18446744073709551616) (w : World) : Calls Try.prog 27 #[.int .u64 r] w fun e w' => e = .returned (.int .i64 (r % 4294967296)) ∧ w = w' := by
  go_enter Try.func27, Try.ntmps27
  go_wp2
  go_ret
  exact ⟨rfl, rfl⟩
theorem signedLow_any (r : Int) (h0 : 0 ≤ r) (h1 : r < 18446744073709551616) (w : World) : Calls Try.prog 31 #[.int .u64 r] w fun e w' => e = .returned (.int .i64 (S32 (r % 4294967296))) ∧ w = w' := by
  go_enter Try.func31, Try.ntmps31
  go_wp2
  go_ret
  refine ⟨ret_int ?_, rfl⟩
  unfold S32 wrap64 wrap32
  split <;> omega
theorem flag_any (r : Int) (w : World) : Calls Try.prog 29 #[.int .u64 r] w fun e w' => e = .returned (.int .i64 (if r = 0 then 0 else 1)) ∧ w = w' := by
  go_enter Try.func29, Try.ntmps29
  go_wp2
  all_goals
    go_ret
    refine ⟨?_, rfl⟩
    first | (simp_all; done) | (simp_all; omega) | (simp; omega)
theorem unzigzag_any (r : Int) (h0 : 0 ≤ r) (h1 : r < 18446744073709551616) (w : World) : Calls Try.prog 24 #[.int .u64 r] w fun e w' => e = .returned (.int .i64 (unzigI r)) ∧ w = w' := by
  go_enter Try.func24, Try.ntmps24
  go_wp2
  all_goals
    go_ret
    refine ⟨ret_int ?_, rfl⟩
    unfold unzigI
    simp_all
theorem zigzag_any (n : Int) (h0 : -9223372036854775808 ≤ n) (h1 : n ≤ 9223372036854775807) (w : World) : Calls Try.prog 25 #[.int .i64 n] w fun e w' => e = .returned (.int .u64 (zigI n)) ∧ w = w' := by
  go_enter Try.func25, Try.ntmps25
  go_wp2
  all_goals
    go_ret
    refine ⟨ret_int ?_, rfl⟩
    unfold zigI
    try simp [wrap64, IntKind.wrap, IntKind.signed, IntKind.bits]
    first | omega | (split <;> omega)
end Go.Proofs.Ytjdegbfmalcepaa
