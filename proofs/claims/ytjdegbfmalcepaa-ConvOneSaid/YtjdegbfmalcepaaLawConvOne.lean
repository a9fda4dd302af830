/-
  No two numbers that fit have the same bits: the statement ConvOne.
-/
import Derived.Test.YtjdegbfmalcepaaConvMath
import Derived.Test.YtjdegbfmalcepaaConvAwake
namespace Go.Proofs.Ytjdegbfmalcepaa.lawConvOne
open Go.ChangeShapes Go.WideShapes Go.ChangeAt Go.RowKit

set_option maxRecDepth 1000000 in
set_option maxHeartbeats 1000000 in
theorem step (w : World) (k n m a b : Int) (f g : Bool)
    (hB : ∀ w, Calls Try.prog 12 #[.int .i64 k, .int .i64 n] w fun e w' => e = .returned (.tuple #[.int .u64 a, .bool f]) ∧ Below w.heap.size w w')
    (hC : ∀ w, Calls Try.prog 12 #[.int .i64 k, .int .i64 m] w fun e w' => e = .returned (.tuple #[.int .u64 b, .bool g]) ∧ Below w.heap.size w w')
    (hfg : f = true → g = true → (a == b) = (n == m)) (hone : f = true → k ≠ 1 → 0 ≤ n → a = n)
    (h1 : -9223372036854775808 ≤ n) (h2 : n ≤ 9223372036854775807) :
    Calls Try.prog 8 #[.int .i64 k, .int .i64 n, .int .i64 m] w fun e w' => e = .returned (.bool true) ∧ Below w.heap.size w w' := by
  have HF := Lib.hid hfg
  have HO := Lib.hid hone
  clear hfg hone
  cases f
  · clear HF HO
    go_enter Try.func8, Try.ntmps8
    go_wp2_with fail
    refine (awake_any _).mono ?_
    rintro e w' ⟨rfl, hb0⟩
    go_wp2_with fail
    refine (hB _).mono ?_
    rintro e w' ⟨rfl, hb1⟩
    go_wp2_with fail
    refine (hC _).mono ?_
    rintro e w' ⟨rfl, hb2⟩
    go_wp2
    go_ret
    exact ⟨by simp, below_then (below_then hb0 hb1) hb2⟩
  have hcase : (k = 1) ∨ (k ≠ 1 ∧ n < 0) ∨ (k ≠ 1 ∧ 0 ≤ n ∧ a = n) := by
    by_cases hk : k = 1
    · exact Or.inl hk
    · by_cases hn : n < 0
      · exact Or.inr (Or.inl ⟨hk, hn⟩)
      · exact Or.inr (Or.inr ⟨hk, by omega, HO.out rfl hk (by omega)⟩)
  clear HO
  have hx : (g = false) ∨ (g = true ∧ (n == m) = true ∧ (a == b) = true) ∨ (g = true ∧ (n == m) = false ∧ (a == b) = false) := by
    cases g
    · exact Or.inl rfl
    · have h := HF.out rfl rfl
      cases e : (n == m)
      · exact Or.inr (Or.inr ⟨rfl, rfl, by rw [h, e]⟩)
      · exact Or.inr (Or.inl ⟨rfl, rfl, by rw [h, e]⟩)
  clear HF
  rcases hcase with rfl | ⟨hk, hn⟩ | ⟨hk, hn, rfl⟩ <;> rcases hx with rfl | ⟨rfl, e1, e2⟩ | ⟨rfl, e1, e2⟩
  all_goals
    go_enter Try.func8, Try.ntmps8
    go_wp2_with fail
    refine (awake_any _).mono ?_
    rintro e w' ⟨rfl, hb0⟩
    go_wp2_with fail
    refine (hB _).mono ?_
    rintro e w' ⟨rfl, hb1⟩
    go_wp2_with fail
    refine (hC _).mono ?_
    rintro e w' ⟨rfl, hb2⟩
    go_wp2
    all_goals
      go_ret
      refine ⟨ret_bool ?_, below_then (below_then hb0 hb1) hb2⟩
      simp_all

set_option maxRecDepth 1000000 in
set_option maxHeartbeats 1000000 in
theorem walk (w : World) (k : Int) (k1 : -9223372036854775808 ≤ k) (k2 : k ≤ 9223372036854775807) (n : Int) (n1 : -9223372036854775808 ≤ n) (n2 : n ≤ 9223372036854775807) (m : Int) (m1 : -9223372036854775808 ≤ m) (m2 : m ≤ 9223372036854775807) :
    Calls Try.prog 8 #[.int .i64 k, .int .i64 n, .int .i64 m] w fun e w' => e = .returned (.bool true) ∧ Below w.heap.size w w' := by
  exact step w k n m (bitsI k n) (bitsI k m) (fitsB k n) (fitsB k m) (bits_any k n n1 n2) (bits_any k m m1 m2) (fun h h' => bits_one n1 n2 m1 m2 h h')
    (fun h hk hn => by unfold bitsI; rw [if_pos h, if_neg hk]; unfold U64; rw [if_pos hn]) n1 n2

set_option maxRecDepth 100000 in
theorem lifted (os : Os) (started : os.Started) (H : Type) (enc : TypeId × Value → H) :
    ReturnsInHanded {} Try.checked os 8 .any (Rows.convOneSpec.pre6 enc Try.prog Try.f8 Rows.convOneRow.domain false) (Rows.convOneSpec.post enc Try.prog Try.f8 false true false false) := by
  refine returnsInHanded_of_change (C := Try.checked) own started (by kernel_rfl) Try.func8
    (ChangeSpec.witness6 (enc := enc) (C := Try.checked) false ⟨#[], #[.int .i64 0, .int .i64 0, .int .i64 0], []⟩ 8 (by kernel_rfl) (by kernel_rfl) (by kernel_rfl) (by kernel_rfl)) ?_
  intro W base args ds gs before hval0 hW hcnd _
  have hval : ∀ (j : Nat) t v, Try.f8.params[j]? = some t → args[j]? = some v → Value.okWide Try.prog W .any base t v := hval0
  have hW2 := hW
  obtain ⟨p, q, hA0, hV, rfl, hfz, hnd⟩ := hW
  have hA : DataW.TrodAll enc Try.prog W 0 (fun _ => true) true Try.f8.params.toList args.toList ds p := hA0
  rw [Try.params8] at hA hval
  obtain ⟨v0, vs0, d0, ds0, p0, q0, hargs, rfl, rfl, h0, r0⟩ := trodAll_cons hA
  obtain ⟨v1, vs1, d1, ds1, p1, q1, rfl, rfl, rfl, h1, r1⟩ := trodAll_cons r0
  obtain ⟨v2, vs2, d2, ds2, p2, q2, rfl, rfl, rfl, h2, r2⟩ := trodAll_cons r1
  obtain ⟨rfl, rfl, rfl⟩ := trodAll_nil r2
  obtain rfl : args = #[v0, v1, v2] := by cases args; simp_all
  obtain ⟨rfl, rfl⟩ := trodVars_none hV
  obtain ⟨i0, rfl, b0, c0⟩ := open_i64 (hval 0 3 v0 rfl rfl) h0
  obtain ⟨i1, rfl, b1, c1⟩ := open_s64 (hval 1 2 v1 rfl rfl) h1
  obtain ⟨i2, rfl, b2, c2⟩ := open_s64 (hval 2 2 v2 rfl rfl) h2
  refine (walk W i0 b0 c0 i1 b1 c1 i2 b2 c2).mono fun e W2 ⟨he, hb⟩ => ?_
  subst he
  exact ⟨_, rfl, law_post (by kernel_rfl) rfl rfl (by decide +kernel) hW2 hb⟩
theorem proved : Rows.ConvOneSaid :=
  OpenClaim.holds_of_wide 8 Try.f8 rfl rfl rfl rfl rfl rfl rfl ⟨rfl, rfl, rfl, rfl, rfl⟩ rfl rfl rfl rfl rfl (by kernel_rfl) Try.func8 (by kernel_rfl)
    (of_decide_eq_true (by kernel_rfl)) (by unfold Func.isWrapper; first | (rw [if_pos (by decide +kernel)]; kernel_rfl) | (rw [if_neg (by decide +kernel)]; exact ⟨rfl, rfl⟩))
    (fun os started H enc _ => lifted os started H enc)
end Go.Proofs.Ytjdegbfmalcepaa.lawConvOne
