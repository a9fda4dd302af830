/-
  Which of two texts is less: both answers, and what is plain of it.
-/
import Derived.Test.YtiojpbmjciakeaaUtfRefs
namespace Go.Proofs.Ytiojpbmjciakeaa
open Go.RowKit

theorem bl_nil_r (a : List UInt8) : Op.bytesLess a [] = false := by cases a <;> rfl
theorem bl_nil_l (b : UInt8) (l : List UInt8) : Op.bytesLess [] (b :: l) = true := rfl
theorem bl_cons (a b : UInt8) (x y : List UInt8) : Op.bytesLess (a :: x) (b :: y) = (decide (a < b) || (a == b && Op.bytesLess x y)) := rfl

theorem bl_step {a b : List UInt8} {k : Nat} {x : UInt8} (hx : a[k]? = some x) (hy : b[k]? = some x) (h : Op.bytesLess a b = Op.bytesLess (a.drop k) (b.drop k)) : Op.bytesLess a b = Op.bytesLess (a.drop (k + 1)) (b.drop (k + 1)) := by
  obtain ⟨h1, e1⟩ := List.getElem?_eq_some_iff.1 hx
  obtain ⟨h2, e2⟩ := List.getElem?_eq_some_iff.1 hy
  rw [h, List.drop_eq_getElem_cons h1, List.drop_eq_getElem_cons h2, e1, e2, bl_cons]
  simp
theorem bl_stop {a b : List UInt8} {k : Nat} {x y : UInt8} (hx : a[k]? = some x) (hy : b[k]? = some y) (hne : x ≠ y) (h : Op.bytesLess a b = Op.bytesLess (a.drop k) (b.drop k)) : Op.bytesLess a b = decide (x.toNat < y.toNat) := by
  obtain ⟨h1, e1⟩ := List.getElem?_eq_some_iff.1 hx
  obtain ⟨h2, e2⟩ := List.getElem?_eq_some_iff.1 hy
  have hb : (x == y) = false := beq_eq_false_iff_ne.2 hne
  rw [h, List.drop_eq_getElem_cons h1, List.drop_eq_getElem_cons h2, e1, e2, bl_cons, hb, Bool.false_and, Bool.or_false, Bool.eq_iff_iff, decide_eq_true_eq, decide_eq_true_eq, UInt8.lt_iff_toNat_lt]
theorem bl_end {a b : List UInt8} {k : Nat} (hk : ¬ (k < a.length ∧ k < b.length)) (hka : k ≤ a.length) (hkb : k ≤ b.length) (h : Op.bytesLess a b = Op.bytesLess (a.drop k) (b.drop k)) : Op.bytesLess a b = decide (a.length < b.length) := by
  rw [h]
  by_cases h2 : k < b.length
  · rw [List.drop_of_length_le (by omega), List.drop_eq_getElem_cons h2, bl_nil_l, eq_comm, decide_eq_true_eq]
    omega
  · rw [List.drop_of_length_le (by omega : b.length ≤ k), bl_nil_r, eq_comm, decide_eq_false_iff_not]
    omega

set_option maxRecDepth 1000000 in
theorem less_any (s t : ByteArray) (w : World) : Calls Try.prog 13 #[.string s, .string t] w fun e w' => e = .returned (.bool (Op.bytesLess s.data.toList t.data.toList)) ∧ w = w' := by
  go_enter Try.func13, Try.ntmps13
  go_wp2
  go_ret
  exact ⟨ret_bool (by rw [← Lib.toList_data, ← Lib.toList_data]), rfl⟩
set_option maxRecDepth 1000000 in
theorem rless_any (s t : ByteArray) (hs : s.size ≤ 100000) (ht : t.size ≤ 100000) (w : World) : Calls Try.prog 14 #[.string s, .string t] w fun e w' => e = .returned (.bool (Op.bytesLess s.data.toList t.data.toList)) ∧ Below w.heap.size w w' := by
  have hs' : s.data.toList.length = s.size := by simp
  have ht' : t.data.toList.length = t.size := by simp
  have hsg : ∀ k (h : k < s.size), s.data.toList[k]? = some (s[k]'h) := fun k h => by rw [List.getElem?_eq_getElem (by omega)]; simp [ByteArray.getElem_eq_getElem_data]
  have htg : ∀ k (h : k < t.size), t.data.toList[k]? = some (t[k]'h) := fun k h => by rw [List.getElem?_eq_getElem (by omega)]; simp [ByteArray.getElem_eq_getElem_data]
  generalize s.data.toList = S at *
  generalize t.data.toList = T at *
  have HSL := Lib.hid hs'
  have HTL := Lib.hid ht'
  have HSG := Lib.hid hsg
  have HTG := Lib.hid htg
  clear hs' ht' hsg htg
  go_enter Try.func14, Try.ntmps14
  go_wp2
  go_loopw [5] (fun i wr => ∃ k d : Nat, i = .int .i64 k ∧ k ≤ s.size ∧ k ≤ t.size ∧ Op.bytesLess S T = Op.bytesLess (S.drop k) (T.drop k) ∧ wr = w.drewN d) (fun i _ => s.size - (intOf i).toNat)
  case atStart => exact ⟨0, 0, rfl, by omega, by omega, rfl, rfl⟩
  case round =>
    obtain ⟨k, d, rfl, hks, hkt, hl, rfl⟩ := hrel
    have HB := Lib.hid hl
    clear hl
    by_cases h1 : k < s.size
    · by_cases h2 : k < t.size
      · have HX := Lib.hid (HSG.out k h1)
        have HY := Lib.hid (HTG.out k h2)
        by_cases he : s[k] = t[k]
        · have b1 : (((s[k]).toNat : Int) == ((t[k]).toNat : Int)) = true := by rw [he]; simp
          have HN := Lib.hid (bl_step HX.out (by rw [HY.out, he]) HB.out)
          clear he
          go_wp2
          go_quiet (fail)
          go_wp2
          exact ⟨⟨k + 1, d + nq, by go_num, by omega, by omega, HN.out, rfl⟩, by simp [intOf]; omega⟩
        · have b1 : (((s[k]).toNat : Int) == ((t[k]).toNat : Int)) = false := by
            rw [beq_eq_false_iff_ne]
            intro h
            exact he (UInt8.toNat_inj.1 (by omega))
          have HN := Lib.hid (bl_stop HX.out HY.out he HB.out)
          clear he
          go_wp2
          go_quiet (fail)
          go_wp2
          go_quiet (fail)
          go_wp2
          go_ret
          exact ⟨ret_bool HN.out.symm, (by repeat (first | exact Below.refl _ _ | assumption | refine below_draws ?_ _ | refine Below.drew ?_))⟩
      · have d2 : decide (k < t.size) = false := by simp; omega
        have HN := Lib.hid (bl_end (by rw [HSL.out, HTL.out]; omega) (by rw [HSL.out]; omega) (by rw [HTL.out]; omega) HB.out)
        rw [HSL.out, HTL.out] at HN
        go_wp2
        go_quiet (fail)
        go_wp2
        go_ret
        exact ⟨ret_bool HN.out.symm, (by repeat (first | exact Below.refl _ _ | assumption | refine below_draws ?_ _ | refine Below.drew ?_))⟩
    · have d2 : decide (k < s.size) = false := by simp; omega
      have HN := Lib.hid (bl_end (by rw [HSL.out, HTL.out]; omega) (by rw [HSL.out]; omega) (by rw [HTL.out]; omega) HB.out)
      rw [HSL.out, HTL.out] at HN
      go_wp2
      go_quiet (fail)
      go_wp2
      go_ret
      exact ⟨ret_bool HN.out.symm, (by repeat (first | exact Below.refl _ _ | assumption | refine below_draws ?_ _ | refine Below.drew ?_))⟩

set_option maxRecDepth 100000 in
theorem awake_any (w : World) : Calls Try.prog 8 #[] w fun e w' => e = .returned (.bool true) ∧ Below w.heap.size w w' := by
  go_enter Try.func8, Try.ntmps8
  go_wp2_with fail
  refine (fine_any _ _ [195, 169] (by simp) 0 2 _ (lit_reads _ [195, 169] (by simp))).mono ?_
  rintro e w1 ⟨rfl, hb1⟩
  rw [show fineB [195, 169] 0 2 = true by decide +kernel]
  have hb2 := below_then (below_new w _) hb1
  go_wp2_with fail
  refine (fine_any _ _ [195] (by simp) 0 1 _ (lit_reads _ [195] (by simp))).mono ?_
  rintro e w2 ⟨rfl, hb3⟩
  rw [show fineB [195] 0 1 = false by decide +kernel]
  go_wp2
  go_ret
  exact ⟨rfl, below_then (below_lit hb2 _) hb3⟩
end Go.Proofs.Ytiojpbmjciakeaa
