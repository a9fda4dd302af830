/-
  What fits comes back from its bits; what bits tell fits, and comes back the same: the statement ConvBack.
-/
import Derived.Test.YtjdegbfmalcepaaConvMath
import Derived.Test.YtjdegbfmalcepaaConvAwake
namespace Go.Proofs.Ytjdegbfmalcepaa.lawConvBack
open Go.ChangeShapes Go.WideShapes Go.ChangeAt Go.RowKit

set_option maxRecDepth 1000000 in
set_option maxHeartbeats 1000000 in
theorem step (w : World) (k n r b m v c u : Int) (f q g : Bool)
    (hB : ∀ w, Calls Try.prog 12 #[.int .i64 k, .int .i64 n] w fun e w' => e = .returned (.tuple #[.int .u64 b, .bool f]) ∧ Below w.heap.size w w')
    (hO : ∀ w, Calls Try.prog 10 #[.int .i64 k, .int .u64 b] w fun e w' => e = .returned (.tuple #[.int .i64 m, .bool q]) ∧ Below w.heap.size w w')
    (hF : ∀ w, Calls Try.prog 16 #[.int .i64 k, .int .i64 n] w fun e w' => e = .returned (.bool f) ∧ Below w.heap.size w w')
    (hP : ∀ w, Calls Try.prog 10 #[.int .i64 k, .int .u64 r] w fun e w' => e = .returned (.tuple #[.int .i64 v, .bool q]) ∧ Below w.heap.size w w')
    (hC : ∀ w, Calls Try.prog 12 #[.int .i64 k, .int .i64 v] w fun e w' => e = .returned (.tuple #[.int .u64 c, .bool g]) ∧ Below w.heap.size w w')
    (hQ : ∀ w, Calls Try.prog 10 #[.int .i64 k, .int .u64 c] w fun e w' => e = .returned (.tuple #[.int .i64 u, .bool q]) ∧ Below w.heap.size w w')
    (hf : f = true → q = true ∧ m = n) (hq : q = true → g = true ∧ u = v) :
    Calls Try.prog 4 #[.int .i64 k, .int .i64 n, .int .u64 r] w fun e w' => e = .returned (.bool true) ∧ Below w.heap.size w w' := by
  have HF := Lib.hid hf
  have HQ := Lib.hid hq
  clear hf hq
  cases f <;> cases q
  · clear HF HQ
    go_enter Try.func4, Try.ntmps4
    go_wp2_with fail
    refine (awake_any _).mono ?_
    rintro e w' ⟨rfl, hb0⟩
    go_wp2_with fail
    refine (hB _).mono ?_
    rintro e w' ⟨rfl, hb1⟩
    go_wp2_with fail
    refine (hO _).mono ?_
    rintro e w' ⟨rfl, hb2⟩
    go_wp2_with fail
    refine (hF _).mono ?_
    rintro e w' ⟨rfl, hb3⟩
    go_wp2_with fail
    refine (hP _).mono ?_
    rintro e w' ⟨rfl, hb4⟩
    go_wp2_with fail
    refine (hC _).mono ?_
    rintro e w' ⟨rfl, hb5⟩
    go_wp2_with fail
    refine (hQ _).mono ?_
    rintro e w' ⟨rfl, hb6⟩
    go_wp2
    go_ret
    exact ⟨by simp, below_then (below_then (below_then (below_then (below_then (below_then (hb0) hb1) hb2) hb3) hb4) hb5) hb6⟩
  · obtain ⟨rfl, rfl⟩ := HQ.out rfl
    clear HF HQ
    go_enter Try.func4, Try.ntmps4
    go_wp2_with fail
    refine (awake_any _).mono ?_
    rintro e w' ⟨rfl, hb0⟩
    go_wp2_with fail
    refine (hB _).mono ?_
    rintro e w' ⟨rfl, hb1⟩
    go_wp2_with fail
    refine (hO _).mono ?_
    rintro e w' ⟨rfl, hb2⟩
    go_wp2_with fail
    refine (hF _).mono ?_
    rintro e w' ⟨rfl, hb3⟩
    go_wp2_with fail
    refine (hP _).mono ?_
    rintro e w' ⟨rfl, hb4⟩
    go_wp2_with fail
    refine (hC _).mono ?_
    rintro e w' ⟨rfl, hb5⟩
    go_wp2_with fail
    refine (hQ _).mono ?_
    rintro e w' ⟨rfl, hb6⟩
    go_wp2
    go_ret
    exact ⟨by simp, below_then (below_then (below_then (below_then (below_then (below_then (hb0) hb1) hb2) hb3) hb4) hb5) hb6⟩
  · cases (HF.out rfl).1
  · obtain ⟨rfl, rfl⟩ := HQ.out rfl
    obtain ⟨-, rfl⟩ := HF.out rfl
    clear HF HQ
    go_enter Try.func4, Try.ntmps4
    go_wp2_with fail
    refine (awake_any _).mono ?_
    rintro e w' ⟨rfl, hb0⟩
    go_wp2_with fail
    refine (hB _).mono ?_
    rintro e w' ⟨rfl, hb1⟩
    go_wp2_with fail
    refine (hO _).mono ?_
    rintro e w' ⟨rfl, hb2⟩
    go_wp2_with fail
    refine (hF _).mono ?_
    rintro e w' ⟨rfl, hb3⟩
    go_wp2_with fail
    refine (hP _).mono ?_
    rintro e w' ⟨rfl, hb4⟩
    go_wp2_with fail
    refine (hC _).mono ?_
    rintro e w' ⟨rfl, hb5⟩
    go_wp2_with fail
    refine (hQ _).mono ?_
    rintro e w' ⟨rfl, hb6⟩
    go_wp2
    go_ret
    exact ⟨by simp, below_then (below_then (below_then (below_then (below_then (below_then (hb0) hb1) hb2) hb3) hb4) hb5) hb6⟩

set_option maxRecDepth 1000000 in
set_option maxHeartbeats 1000000 in
theorem walk (w : World) (k : Int) (k1 : -9223372036854775808 ≤ k) (k2 : k ≤ 9223372036854775807) (n : Int) (n1 : -9223372036854775808 ≤ n) (n2 : n ≤ 9223372036854775807) (r : Nat) (rb : r < 18446744073709551616) :
    Calls Try.prog 4 #[.int .i64 k, .int .i64 n, .int .u64 r] w fun e w' => e = .returned (.bool true) ∧ Below w.heap.size w w' := by
  have hb := bitsI_bound k n1 n2
  have hv := ofI_bound k (r := (r : Int)) (by omega) (by omega)
  have hc := bitsI_bound k hv.1 hv.2
  exact step w k n r (bitsI k n) (ofI k (bitsI k n)) (ofI k r) (bitsI k (ofI k r)) (ofI k (bitsI k (ofI k r))) (fitsB k n) (cnt k) (fitsB k (ofI k r))
    (bits_any k n n1 n2) (of_any k _ hb.1 hb.2) (fits_any k n) (of_any k r (by omega) (by omega)) (bits_any k _ hv.1 hv.2) (of_any k _ hc.1 hc.2)
    (fun h => ⟨fits_cnt h, of_bits n1 n2 h⟩) (fun h => ⟨fits_of (by omega) (by omega) h, of_bits hv.1 hv.2 (fits_of (by omega) (by omega) h)⟩)

set_option maxRecDepth 100000 in
theorem lifted (os : Os) (started : os.Started) (H : Type) (enc : TypeId × Value → H) :
    ReturnsInHanded {} Try.checked os 4 .any (Rows.convBackSpec.pre6 enc Try.prog Try.f4 Rows.convBackRow.domain false) (Rows.convBackSpec.post enc Try.prog Try.f4 false true false false) := by
  refine returnsInHanded_of_change (C := Try.checked) own started (by kernel_rfl) Try.func4
    (ChangeSpec.witness6 (enc := enc) (C := Try.checked) false ⟨#[], #[.int .i64 0, .int .i64 0, .int .u64 0], []⟩ 8 (by kernel_rfl) (by kernel_rfl) (by kernel_rfl) (by kernel_rfl)) ?_
  intro W base args ds gs before hval0 hW hcnd _
  have hval : ∀ (j : Nat) t v, Try.f4.params[j]? = some t → args[j]? = some v → Value.okWide Try.prog W .any base t v := hval0
  have hW2 := hW
  obtain ⟨p, q, hA0, hV, rfl, hfz, hnd⟩ := hW
  have hA : DataW.TrodAll enc Try.prog W 0 (fun _ => true) true Try.f4.params.toList args.toList ds p := hA0
  rw [Try.params4] at hA hval
  obtain ⟨v0, vs0, d0, ds0, p0, q0, hargs, rfl, rfl, h0, r0⟩ := trodAll_cons hA
  obtain ⟨v1, vs1, d1, ds1, p1, q1, rfl, rfl, rfl, h1, r1⟩ := trodAll_cons r0
  obtain ⟨v2, vs2, d2, ds2, p2, q2, rfl, rfl, rfl, h2, r2⟩ := trodAll_cons r1
  obtain ⟨rfl, rfl, rfl⟩ := trodAll_nil r2
  obtain rfl : args = #[v0, v1, v2] := by cases args; simp_all
  obtain ⟨rfl, rfl⟩ := trodVars_none hV
  obtain ⟨i0, rfl, b0, c0⟩ := open_i64 (hval 0 3 v0 rfl rfl) h0
  obtain ⟨i1, rfl, b1, c1⟩ := open_s64 (hval 1 2 v1 rfl rfl) h1
  obtain ⟨n2, rfl, b2⟩ := open_nat (hval 2 22 v2 rfl rfl) h2
  refine (walk W i0 b0 c0 i1 b1 c1 n2 b2).mono fun e W2 ⟨he, hb⟩ => ?_
  subst he
  exact ⟨_, rfl, law_post (by kernel_rfl) rfl rfl (by decide +kernel) hW2 hb⟩
theorem proved : Rows.ConvBackSaid :=
  OpenClaim.holds_of_wide 4 Try.f4 rfl rfl rfl rfl rfl rfl rfl ⟨rfl, rfl, rfl, rfl, rfl⟩ rfl rfl rfl rfl rfl (by kernel_rfl) Try.func4 (by kernel_rfl)
    (of_decide_eq_true (by kernel_rfl)) (by unfold Func.isWrapper; first | (rw [if_pos (by decide +kernel)]; kernel_rfl) | (rw [if_neg (by decide +kernel)]; exact ⟨rfl, rfl⟩))
    (fun os started H enc _ => lifted os started H enc)
end Go.Proofs.Ytjdegbfmalcepaa.lawConvBack
