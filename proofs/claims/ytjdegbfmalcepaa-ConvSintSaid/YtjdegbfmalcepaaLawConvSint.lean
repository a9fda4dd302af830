/-
  Small numbers have small bits as Sint: the statement ConvSint.
-/
import Derived.Test.YtjdegbfmalcepaaConvRef
import Derived.Test.YtjdegbfmalcepaaConvAwake
namespace Go.Proofs.Ytjdegbfmalcepaa.lawConvSint
open Go.ChangeShapes Go.WideShapes Go.ChangeAt Go.RowKit

set_option maxRecDepth 1000000 in
set_option maxHeartbeats 1000000 in
theorem walk (w : World) (n : Int) (n1 : -9223372036854775808 ≤ n) (n2 : n ≤ 9223372036854775807) :
    Calls Try.prog 5 #[.int .i64 n] w fun e w' => e = .returned (.bool true) ∧ Below w.heap.size w w' := by
  have hf : fitsB 1 n = true := rfl
  have hbit : bitsI 1 n = zigI n := rfl
  have hz0 : 0 ≤ zigI n ∧ zigI n < 18446744073709551616 := by unfold zigI; split <;> omega
  by_cases hn : n < 0
  · have hz : zigI n / 2 = -(n + 1) := by unfold zigI; rw [if_neg (by omega)]; omega
    have hm : zigI n % 2 = 1 := by unfold zigI; rw [if_neg (by omega)]; omega
    generalize zigI n = z at *
    go_enter Try.func5, Try.ntmps5
    go_wp2_with fail
    refine (awake_any _).mono ?_
    rintro e w' ⟨rfl, hb0⟩
    go_wp2_with fail
    refine (bits_any 1 n n1 n2 _).mono ?_
    rw [hf, hbit]
    rintro e w' ⟨rfl, hb1⟩
    go_wp2
    all_goals
      go_ret
      refine ⟨ret_bool ?_, below_then hb0 hb1⟩
      simp_all
  · have hz : zigI n / 2 = n := by unfold zigI; rw [if_pos (by omega)]; omega
    have hm : zigI n % 2 = 0 := by unfold zigI; rw [if_pos (by omega)]; omega
    generalize zigI n = z at *
    go_enter Try.func5, Try.ntmps5
    go_wp2_with fail
    refine (awake_any _).mono ?_
    rintro e w' ⟨rfl, hb0⟩
    go_wp2_with fail
    refine (bits_any 1 n n1 n2 _).mono ?_
    rw [hf, hbit]
    rintro e w' ⟨rfl, hb1⟩
    go_wp2
    all_goals
      go_ret
      refine ⟨ret_bool ?_, below_then hb0 hb1⟩
      simp_all

set_option maxRecDepth 100000 in
theorem lifted (os : Os) (started : os.Started) (H : Type) (enc : TypeId × Value → H) :
    ReturnsInHanded {} Try.checked os 5 .any (Rows.convSintSpec.pre6 enc Try.prog Try.f5 Rows.convSintRow.domain false) (Rows.convSintSpec.post enc Try.prog Try.f5 false true false false) := by
  refine returnsInHanded_of_change (C := Try.checked) own started (by kernel_rfl) Try.func5
    (ChangeSpec.witness6 (enc := enc) (C := Try.checked) false ⟨#[], #[.int .i64 0], []⟩ 8 (by kernel_rfl) (by kernel_rfl) (by kernel_rfl) (by kernel_rfl)) ?_
  intro W base args ds gs before hval0 hW hcnd _
  have hval : ∀ (j : Nat) t v, Try.f5.params[j]? = some t → args[j]? = some v → Value.okWide Try.prog W .any base t v := hval0
  have hW2 := hW
  obtain ⟨p, q, hA0, hV, rfl, hfz, hnd⟩ := hW
  have hA : DataW.TrodAll enc Try.prog W 0 (fun _ => true) true Try.f5.params.toList args.toList ds p := hA0
  rw [Try.params5] at hA hval
  obtain ⟨v0, vs0, d0, ds0, p0, q0, hargs, rfl, rfl, h0, r0⟩ := trodAll_cons hA
  obtain ⟨rfl, rfl, rfl⟩ := trodAll_nil r0
  obtain rfl : args = #[v0] := by cases args; simp_all
  obtain ⟨rfl, rfl⟩ := trodVars_none hV
  obtain ⟨i0, rfl, b0, c0⟩ := open_s64 (hval 0 2 v0 rfl rfl) h0
  refine (walk W i0 b0 c0).mono fun e W2 ⟨he, hb⟩ => ?_
  subst he
  exact ⟨_, rfl, law_post (by kernel_rfl) rfl rfl (by decide +kernel) hW2 hb⟩
theorem proved : Rows.ConvSintSaid :=
  OpenClaim.holds_of_wide 5 Try.f5 rfl rfl rfl rfl rfl rfl rfl ⟨rfl, rfl, rfl, rfl, rfl⟩ rfl rfl rfl rfl rfl (by kernel_rfl) Try.func5 (by kernel_rfl)
    (of_decide_eq_true (by kernel_rfl)) (by unfold Func.isWrapper; first | (rw [if_pos (by decide +kernel)]; kernel_rfl) | (rw [if_neg (by decide +kernel)]; exact ⟨rfl, rfl⟩))
    (fun os started H enc _ => lifted os started H enc)
end Go.Proofs.Ytjdegbfmalcepaa.lawConvSint
