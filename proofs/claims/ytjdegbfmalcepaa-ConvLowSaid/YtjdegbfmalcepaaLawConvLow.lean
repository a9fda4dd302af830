/-
  Of kinds of 32 bits just these count; a Flag is 1 of all but 0: the statement ConvLow.
-/
import Derived.Test.YtjdegbfmalcepaaConvMath
import Derived.Test.YtjdegbfmalcepaaConvAwake
namespace Go.Proofs.Ytjdegbfmalcepaa.lawConvLow
open Go.ChangeShapes Go.WideShapes Go.ChangeAt Go.RowKit

set_option maxRecDepth 1000000 in
set_option maxHeartbeats 2000000 in
theorem step (w : World) (k a b : Int) (q : Bool) (r m : Nat) (rb : r < 18446744073709551616) (mb : m < 18446744073709551616)
    (hO : ∀ w, Calls Try.prog 10 #[.int .i64 k, .int .u64 r] w fun e w' => e = .returned (.tuple #[.int .i64 a, .bool q]) ∧ Below w.heap.size w w')
    (hP : ∀ w, Calls Try.prog 10 #[.int .i64 k, .int .u64 ((r : Int) % 4294967296 + (m : Int) % 4294967296 * 4294967296)] w fun e w' => e = .returned (.tuple #[.int .i64 b, .bool q]) ∧ Below w.heap.size w w')
    (hc : (k = 2 ∧ a = b) ∨ (k = 6 ∧ a = b) ∨ (k = 4 ∧ a = b) ∨ (k = 3 ∧ a = 0 ∧ ((r : Int) == 0) = true) ∨ (k = 3 ∧ a = 1 ∧ ((r : Int) == 0) = false) ∨ (k ≠ 2 ∧ k ≠ 6 ∧ k ≠ 4 ∧ k ≠ 3)) :
    Calls Try.prog 7 #[.int .i64 k, .int .u64 r, .int .u64 m] w fun e w' => e = .returned (.bool true) ∧ Below w.heap.size w w' := by
  rcases hc with ⟨rfl, rfl⟩ | ⟨rfl, rfl⟩ | ⟨rfl, rfl⟩ | ⟨rfl, rfl, e0⟩ | ⟨rfl, rfl, e0⟩ | ⟨k2, k6, k4, k3⟩
  all_goals
    go_enter Try.func7, Try.ntmps7
    go_wp2_with fail
    refine (awake_any _).mono ?_
    rintro e w' ⟨rfl, hb0⟩
    go_wp2_with fail
    refine (hO _).mono ?_
    rintro e w' ⟨rfl, hb1⟩
    go_wp2_with fail
    refine (hP _).mono ?_
    rintro e w' ⟨rfl, hb2⟩
    go_wp2
    all_goals
      go_ret
      clear hO hP
      refine ⟨ret_bool (by simp_all), below_then (below_then hb0 hb1) hb2⟩

set_option maxRecDepth 1000000 in
set_option maxHeartbeats 2000000 in
theorem walk (w : World) (k : Int) (k1 : -9223372036854775808 ≤ k) (k2 : k ≤ 9223372036854775807) (r : Nat) (rb : r < 18446744073709551616) (m : Nat) (mb : m < 18446744073709551616) :
    Calls Try.prog 7 #[.int .i64 k, .int .u64 r, .int .u64 m] w fun e w' => e = .returned (.bool true) ∧ Below w.heap.size w w' := by
  have hr : ((r : Int) % 4294967296 + (m : Int) % 4294967296 * 4294967296) % 4294967296 = (r : Int) % 4294967296 := by omega
  refine step w k (ofI k r) (ofI k ((r : Int) % 4294967296 + (m : Int) % 4294967296 * 4294967296)) (cnt k) r m rb mb (of_any k r (by omega) (by omega)) (of_any k _ (by omega) (by omega)) ?_
  by_cases k2 : k = 2
  · subst k2; exact Or.inl ⟨rfl, by unfold ofI; simp only [hr]; simp⟩
  by_cases k6 : k = 6
  · subst k6; exact Or.inr (Or.inl ⟨rfl, by unfold ofI; simp only [hr]; simp⟩)
  by_cases k4 : k = 4
  · subst k4; exact Or.inr (Or.inr (Or.inl ⟨rfl, by unfold ofI; simp only [hr]; simp⟩))
  by_cases k3 : k = 3
  · subst k3
    by_cases r0 : r = 0
    · subst r0; exact Or.inr (Or.inr (Or.inr (Or.inl ⟨rfl, rfl, rfl⟩)))
    · exact Or.inr (Or.inr (Or.inr (Or.inr (Or.inl ⟨rfl, by unfold ofI; simp; omega, by simp; omega⟩))))
  exact Or.inr (Or.inr (Or.inr (Or.inr (Or.inr ⟨k2, k6, k4, k3⟩))))

set_option maxRecDepth 100000 in
theorem lifted (os : Os) (started : os.Started) (H : Type) (enc : TypeId × Value → H) :
    ReturnsInHanded {} Try.checked os 7 .any (Rows.convLowSpec.pre6 enc Try.prog Try.f7 Rows.convLowRow.domain false) (Rows.convLowSpec.post enc Try.prog Try.f7 false true false false) := by
  refine returnsInHanded_of_change (C := Try.checked) own started (by kernel_rfl) Try.func7
    (ChangeSpec.witness6 (enc := enc) (C := Try.checked) false ⟨#[], #[.int .i64 0, .int .u64 0, .int .u64 0], []⟩ 8 (by kernel_rfl) (by kernel_rfl) (by kernel_rfl) (by kernel_rfl)) ?_
  intro W base args ds gs before hval0 hW hcnd _
  have hval : ∀ (j : Nat) t v, Try.f7.params[j]? = some t → args[j]? = some v → Value.okWide Try.prog W .any base t v := hval0
  have hW2 := hW
  obtain ⟨p, q, hA0, hV, rfl, hfz, hnd⟩ := hW
  have hA : DataW.TrodAll enc Try.prog W 0 (fun _ => true) true Try.f7.params.toList args.toList ds p := hA0
  rw [Try.params7] at hA hval
  obtain ⟨v0, vs0, d0, ds0, p0, q0, hargs, rfl, rfl, h0, r0⟩ := trodAll_cons hA
  obtain ⟨v1, vs1, d1, ds1, p1, q1, rfl, rfl, rfl, h1, r1⟩ := trodAll_cons r0
  obtain ⟨v2, vs2, d2, ds2, p2, q2, rfl, rfl, rfl, h2, r2⟩ := trodAll_cons r1
  obtain ⟨rfl, rfl, rfl⟩ := trodAll_nil r2
  obtain rfl : args = #[v0, v1, v2] := by cases args; simp_all
  obtain ⟨rfl, rfl⟩ := trodVars_none hV
  obtain ⟨i0, rfl, b0, c0⟩ := open_i64 (hval 0 3 v0 rfl rfl) h0
  obtain ⟨n1, rfl, b1⟩ := open_nat (hval 1 22 v1 rfl rfl) h1
  obtain ⟨n2, rfl, b2⟩ := open_nat (hval 2 22 v2 rfl rfl) h2
  refine (walk W i0 b0 c0 n1 b1 n2 b2).mono fun e W2 ⟨he, hb⟩ => ?_
  subst he
  exact ⟨_, rfl, law_post (by kernel_rfl) rfl rfl (by decide +kernel) hW2 hb⟩
theorem proved : Rows.ConvLowSaid :=
  OpenClaim.holds_of_wide 7 Try.f7 rfl rfl rfl rfl rfl rfl rfl ⟨rfl, rfl, rfl, rfl, rfl⟩ rfl rfl rfl rfl rfl (by kernel_rfl) Try.func7 (by kernel_rfl)
    (of_decide_eq_true (by kernel_rfl)) (by unfold Func.isWrapper; first | (rw [if_pos (by decide +kernel)]; kernel_rfl) | (rw [if_neg (by decide +kernel)]; exact ⟨rfl, rfl⟩))
    (fun os started H enc _ => lifted os started H enc)
end Go.Proofs.Ytjdegbfmalcepaa.lawConvLow
