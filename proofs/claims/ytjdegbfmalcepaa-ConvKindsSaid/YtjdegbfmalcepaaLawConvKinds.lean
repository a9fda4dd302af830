/-
  Kinds that count are those that are no text, bytes or message: the statement ConvKinds.
-/
import Derived.Test.YtjdegbfmalcepaaConvMath
import Derived.Test.YtjdegbfmalcepaaConvAwake
namespace Go.Proofs.Ytjdegbfmalcepaa.lawConvKinds
open Go.ChangeShapes Go.WideShapes Go.ChangeAt Go.RowKit

set_option maxRecDepth 1000000 in
set_option maxHeartbeats 2000000 in
theorem step (w : World) (k n v u : Int) (q f g : Bool)
    (hW : ∀ w, Calls Try.prog 14 #[.int .i64 k] w fun e w' => e = .returned (.int .i64 v) ∧ Below w.heap.size w w')
    (hO : ∀ w, Calls Try.prog 10 #[.int .i64 k, .int .u64 0] w fun e w' => e = .returned (.tuple #[.int .i64 u, .bool q]) ∧ Below w.heap.size w w')
    (hF : ∀ w, Calls Try.prog 16 #[.int .i64 k, .int .i64 n] w fun e w' => e = .returned (.bool f) ∧ Below w.heap.size w w')
    (hG : ∀ w, Calls Try.prog 16 #[.int .i64 k, .int .i64 0] w fun e w' => e = .returned (.bool g) ∧ Below w.heap.size w w')
    (hc : (k < 0 ∧ v = -1 ∧ q = false ∧ f = false) ∨ (10 ≤ k ∧ v = -1 ∧ q = false ∧ f = false) ∨ (0 ≤ k ∧ k < 10 ∧ v = 2 ∧ q = false ∧ f = false ∧ g = false) ∨ (0 ≤ k ∧ k < 10 ∧ (v = 0 ∨ v = 5 ∨ v = 1) ∧ q = true ∧ g = true)) :
    Calls Try.prog 6 #[.int .i64 k, .int .i64 n] w fun e w' => e = .returned (.bool true) ∧ Below w.heap.size w w' := by
  rcases hc with ⟨hk, rfl, rfl, rfl⟩ | ⟨hk, rfl, rfl, rfl⟩ | ⟨hk, hk2, rfl, rfl, rfl, rfl⟩ | ⟨hk, hk2, rfl | rfl | rfl, rfl, rfl⟩
  · go_enter Try.func6, Try.ntmps6
    go_wp2_with fail
    refine (awake_any _).mono ?_
    rintro e w' ⟨rfl, hb0⟩
    go_wp2_with fail
    refine (hW _).mono ?_
    rintro e w' ⟨rfl, hb1⟩
    go_wp2_with fail
    refine (hO _).mono ?_
    rintro e w' ⟨rfl, hb2⟩
    go_wp2_with fail
    refine (hF _).mono ?_
    rintro e w' ⟨rfl, hb3⟩
    go_wp2
    go_ret
    clear hW hO hF hG
    exact ⟨ret_bool (by simp), below_then (below_then (below_then hb0 hb1) hb2) hb3⟩
  · go_enter Try.func6, Try.ntmps6
    go_wp2_with fail
    refine (awake_any _).mono ?_
    rintro e w' ⟨rfl, hb0⟩
    go_wp2_with fail
    refine (hW _).mono ?_
    rintro e w' ⟨rfl, hb1⟩
    go_wp2_with fail
    refine (hO _).mono ?_
    rintro e w' ⟨rfl, hb2⟩
    go_wp2_with fail
    refine (hF _).mono ?_
    rintro e w' ⟨rfl, hb3⟩
    go_wp2
    go_ret
    clear hW hO hF hG
    exact ⟨ret_bool (by simp), below_then (below_then (below_then hb0 hb1) hb2) hb3⟩
  · go_enter Try.func6, Try.ntmps6
    go_wp2_with fail
    refine (awake_any _).mono ?_
    rintro e w' ⟨rfl, hb0⟩
    go_wp2_with fail
    refine (hW _).mono ?_
    rintro e w' ⟨rfl, hb1⟩
    go_wp2_with fail
    refine (hO _).mono ?_
    rintro e w' ⟨rfl, hb2⟩
    go_wp2_with fail
    refine (hF _).mono ?_
    rintro e w' ⟨rfl, hb3⟩
    go_wp2_with fail
    refine (hG _).mono ?_
    rintro e w' ⟨rfl, hb4⟩
    go_wp2
    go_ret
    clear hW hO hF hG
    exact ⟨ret_bool (by simp), below_then (below_then (below_then (below_then hb0 hb1) hb2) hb3) hb4⟩
  · go_enter Try.func6, Try.ntmps6
    go_wp2_with fail
    refine (awake_any _).mono ?_
    rintro e w' ⟨rfl, hb0⟩
    go_wp2_with fail
    refine (hW _).mono ?_
    rintro e w' ⟨rfl, hb1⟩
    go_wp2_with fail
    refine (hO _).mono ?_
    rintro e w' ⟨rfl, hb2⟩
    go_wp2_with fail
    refine (hG _).mono ?_
    rintro e w' ⟨rfl, hb4⟩
    go_wp2
    go_ret
    clear hW hO hF hG
    exact ⟨ret_bool (by simp), below_then (below_then (below_then hb0 hb1) hb2) hb4⟩
  · go_enter Try.func6, Try.ntmps6
    go_wp2_with fail
    refine (awake_any _).mono ?_
    rintro e w' ⟨rfl, hb0⟩
    go_wp2_with fail
    refine (hW _).mono ?_
    rintro e w' ⟨rfl, hb1⟩
    go_wp2_with fail
    refine (hO _).mono ?_
    rintro e w' ⟨rfl, hb2⟩
    go_wp2_with fail
    refine (hG _).mono ?_
    rintro e w' ⟨rfl, hb4⟩
    go_wp2
    go_ret
    clear hW hO hF hG
    exact ⟨ret_bool (by simp), below_then (below_then (below_then hb0 hb1) hb2) hb4⟩
  · go_enter Try.func6, Try.ntmps6
    go_wp2_with fail
    refine (awake_any _).mono ?_
    rintro e w' ⟨rfl, hb0⟩
    go_wp2_with fail
    refine (hW _).mono ?_
    rintro e w' ⟨rfl, hb1⟩
    go_wp2_with fail
    refine (hO _).mono ?_
    rintro e w' ⟨rfl, hb2⟩
    go_wp2_with fail
    refine (hG _).mono ?_
    rintro e w' ⟨rfl, hb4⟩
    go_wp2
    go_ret
    clear hW hO hF hG
    exact ⟨ret_bool (by simp), below_then (below_then (below_then hb0 hb1) hb2) hb4⟩

set_option maxRecDepth 1000000 in
set_option maxHeartbeats 2000000 in
theorem walk (w : World) (k : Int) (k1 : -9223372036854775808 ≤ k) (k2 : k ≤ 9223372036854775807) (n : Int) (n1 : -9223372036854775808 ≤ n) (n2 : n ≤ 9223372036854775807) :
    Calls Try.prog 6 #[.int .i64 k, .int .i64 n] w fun e w' => e = .returned (.bool true) ∧ Below w.heap.size w w' := by
  refine step w k n (wireI k) (ofI k 0) (cnt k) (fitsB k n) (fitsB k 0) (wire_any k) (of_any k 0 (by omega) (by omega)) (fits_any k n) (fits_any k 0) ?_
  by_cases hk : 0 ≤ k ∧ k < 7
  · rcases seven hk with rfl | rfl | rfl | rfl | rfl | rfl | rfl <;> exact Or.inr (Or.inr (Or.inr ⟨by omega, by omega, by decide, rfl, by decide⟩))
  · have hq : cnt k = false := by simp [cnt]; omega
    have hf : ∀ n, fitsB k n = false := by
      intro n
      cases e : fitsB k n
      · rfl
      · rw [fits_cnt e] at hq; cases hq
    have hw : wireI k = if 0 ≤ k ∧ k < 10 then 2 else -1 := by
      unfold wireI
      rw [if_neg (by omega), if_neg (by omega), if_neg (by omega)]
    by_cases h : 0 ≤ k ∧ k < 10
    · exact Or.inr (Or.inr (Or.inl ⟨h.1, h.2, by rw [hw, if_pos h], hq, hf n, hf 0⟩))
    · by_cases h2 : k < 0
      · exact Or.inl ⟨h2, by rw [hw, if_neg h], hq, hf n⟩
      · exact Or.inr (Or.inl ⟨by omega, by rw [hw, if_neg h], hq, hf n⟩)

set_option maxRecDepth 100000 in
theorem lifted (os : Os) (started : os.Started) (H : Type) (enc : TypeId × Value → H) :
    ReturnsInHanded {} Try.checked os 6 .any (Rows.convKindsSpec.pre6 enc Try.prog Try.f6 Rows.convKindsRow.domain false) (Rows.convKindsSpec.post enc Try.prog Try.f6 false true false false) := by
  refine returnsInHanded_of_change (C := Try.checked) own started (by kernel_rfl) Try.func6
    (ChangeSpec.witness6 (enc := enc) (C := Try.checked) false ⟨#[], #[.int .i64 0, .int .i64 0], []⟩ 8 (by kernel_rfl) (by kernel_rfl) (by kernel_rfl) (by kernel_rfl)) ?_
  intro W base args ds gs before hval0 hW hcnd _
  have hval : ∀ (j : Nat) t v, Try.f6.params[j]? = some t → args[j]? = some v → Value.okWide Try.prog W .any base t v := hval0
  have hW2 := hW
  obtain ⟨p, q, hA0, hV, rfl, hfz, hnd⟩ := hW
  have hA : DataW.TrodAll enc Try.prog W 0 (fun _ => true) true Try.f6.params.toList args.toList ds p := hA0
  rw [Try.params6] at hA hval
  obtain ⟨v0, vs0, d0, ds0, p0, q0, hargs, rfl, rfl, h0, r0⟩ := trodAll_cons hA
  obtain ⟨v1, vs1, d1, ds1, p1, q1, rfl, rfl, rfl, h1, r1⟩ := trodAll_cons r0
  obtain ⟨rfl, rfl, rfl⟩ := trodAll_nil r1
  obtain rfl : args = #[v0, v1] := by cases args; simp_all
  obtain ⟨rfl, rfl⟩ := trodVars_none hV
  obtain ⟨i0, rfl, b0, c0⟩ := open_i64 (hval 0 3 v0 rfl rfl) h0
  obtain ⟨i1, rfl, b1, c1⟩ := open_s64 (hval 1 2 v1 rfl rfl) h1
  refine (walk W i0 b0 c0 i1 b1 c1).mono fun e W2 ⟨he, hb⟩ => ?_
  subst he
  exact ⟨_, rfl, law_post (by kernel_rfl) rfl rfl (by decide +kernel) hW2 hb⟩
theorem proved : Rows.ConvKindsSaid :=
  OpenClaim.holds_of_wide 6 Try.f6 rfl rfl rfl rfl rfl rfl rfl ⟨rfl, rfl, rfl, rfl, rfl⟩ rfl rfl rfl rfl rfl (by kernel_rfl) Try.func6 (by kernel_rfl)
    (of_decide_eq_true (by kernel_rfl)) (by unfold Func.isWrapper; first | (rw [if_pos (by decide +kernel)]; kernel_rfl) | (rw [if_neg (by decide +kernel)]; exact ⟨rfl, rfl⟩))
    (fun os started H enc _ => lifted os started H enc)
end Go.Proofs.Ytjdegbfmalcepaa.lawConvKinds
