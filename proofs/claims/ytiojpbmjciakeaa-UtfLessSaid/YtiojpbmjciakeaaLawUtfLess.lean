/-
  Of two texts one is less, unless they are the same; what is less than what is less is less; the beginning of a text is no greater: the statement UtfLess, for every three texts.
-/
import Derived.Test.YtiojpbmjciakeaaUtfLess
namespace Go.Proofs.Ytiojpbmjciakeaa.lawUtfLess
open Go.ChangeShapes Go.WideShapes Go.ChangeAt Go.RowKit

theorem bl_anti : ∀ (a b : List UInt8), (Op.bytesLess a b && Op.bytesLess b a) = false
  | [], [] => rfl
  | [], _ :: _ => rfl
  | _ :: _, [] => rfl
  | x :: a, y :: b => by
    have ih := bl_anti a b
    simp only [bl_cons]
    by_cases h : x < y
    · have h2 : ¬ y < x := by rw [UInt8.lt_iff_toNat_lt] at *; omega
      have h3 : (y == x) = false := by rw [beq_eq_false_iff_ne]; rintro rfl; rw [UInt8.lt_iff_toNat_lt] at h; omega
      simp [h, h2, h3]
    · by_cases h2 : y < x
      · have h3 : (x == y) = false := by rw [beq_eq_false_iff_ne]; rintro rfl; rw [UInt8.lt_iff_toNat_lt] at h2; omega
        simp [h, h3]
      · obtain rfl : x = y := by rw [UInt8.lt_iff_toNat_lt] at *; exact UInt8.toNat_inj.1 (by omega)
        simpa [h] using ih
theorem bl_total : ∀ (a b : List UInt8), (Op.bytesLess a b || Op.bytesLess b a) = !(a == b)
  | [], [] => rfl
  | [], _ :: _ => rfl
  | _ :: _, [] => rfl
  | x :: a, y :: b => by
    have ih := bl_total a b
    simp only [bl_cons]
    by_cases h : x < y
    · have h3 : ¬ x = y := by rintro rfl; rw [UInt8.lt_iff_toNat_lt] at h; omega
      simp [h, h3]
    · by_cases h2 : y < x
      · have h3 : ¬ x = y := by rintro rfl; rw [UInt8.lt_iff_toNat_lt] at h2; omega
        simp [h2, h3]
      · obtain rfl : x = y := by rw [UInt8.lt_iff_toNat_lt] at *; exact UInt8.toNat_inj.1 (by omega)
        simpa [h] using ih
theorem bl_trans : ∀ (a b c : List UInt8), Op.bytesLess a b = true → Op.bytesLess b c = true → Op.bytesLess a c = true
  | a, [], _, h, _ => by rw [show Op.bytesLess a [] = false from bl_nil_r a] at h; cases h
  | _, y :: b, [], _, h => by rw [show Op.bytesLess (y :: b) [] = false from bl_nil_r _] at h; cases h
  | [], _ :: _, _ :: _, _, _ => rfl
  | x :: a, y :: b, z :: c, h, k => by
    simp only [bl_cons, Bool.or_eq_true, Bool.and_eq_true, decide_eq_true_eq, beq_iff_eq] at h k ⊢
    rcases h with h | ⟨rfl, h⟩
    · rcases k with k | ⟨rfl, k⟩
      · exact Or.inl (by rw [UInt8.lt_iff_toNat_lt] at *; omega)
      · exact Or.inl h
    · rcases k with k | ⟨rfl, k⟩
      · exact Or.inl k
      · exact Or.inr ⟨rfl, bl_trans a b c h k⟩
theorem bl_self : ∀ (a c : List UInt8), Op.bytesLess (a ++ c) a = false
  | [], c => by simpa using bl_nil_r c
  | x :: a, c => by
    have ih := bl_self a c
    simp only [List.cons_append, bl_cons]
    simpa [UInt8.lt_irrefl] using ih
theorem bl_more : ∀ (a c : List UInt8), Op.bytesLess a (a ++ c) = !(c == [])
  | [], [] => rfl
  | [], _ :: _ => rfl
  | x :: a, c => by
    have ih := bl_more a c
    simp only [List.cons_append, bl_cons]
    simpa [UInt8.lt_irrefl] using ih

set_option maxRecDepth 100000 in
set_option maxHeartbeats 1000000 in
theorem walk (w : World) (s : ByteArray) (hs : s.size ≤ maxLen) (t : ByteArray) (ht : t.size ≤ maxLen) (r : ByteArray) (hr : r.size ≤ maxLen) :
    Calls Try.prog 6 #[.string s, .string t, .string r] w fun e w' => e = .returned (.bool true) ∧ Below w.heap.size w w' := by
  unfold maxLen at hs ht hr
  by_cases h1 : s.size ≤ 3000
  · by_cases h2 : t.size ≤ 3000
    · by_cases h3 : r.size ≤ 3000
      · have hanti := bl_anti s.data.toList t.data.toList
        have htot := bl_total s.data.toList t.data.toList
        have HT := Lib.hid (bl_trans s.data.toList t.data.toList r.data.toList)
        have H4 := Lib.hid (bl_self s.data.toList r.data.toList)
        have H5 := Lib.hid (bl_more s.data.toList r.data.toList)
        have HJ : Hid ((s ++ r).data.toList = s.data.toList ++ r.data.toList) := Lib.hid (by simp)
        rw [← HJ.out] at H4 H5
        have hr0 : r.toList = r.data.toList := Lib.toList_data r
        have hst : (s.toList = t.toList) ↔ (s.data.toList = t.data.toList) := by rw [Lib.toList_data, Lib.toList_data]
        have hsize : (s ++ r).size = s.size + r.size := by simp
        by_cases hx : Op.bytesLess s.data.toList t.data.toList = true
        · rw [hx] at hanti htot
          have hne : ¬ s.toList = t.toList := by
            rw [hst]
            intro h
            rw [h] at htot
            simp at htot
          have hy : Op.bytesLess t.data.toList s.data.toList = false := by simpa using hanti
          have HX := Lib.hid hx
          have HY := Lib.hid hy
          clear hanti htot hx hy hst
          by_cases hz : Op.bytesLess t.data.toList r.data.toList = true
          · have HZ := Lib.hid hz
            have HW := Lib.hid (HT.out HX.out hz)
            clear hz
            go_enter Try.func6, Try.ntmps6
            go_wp2_with fail
            refine (awake_any _).mono ?_
            rintro e w1 ⟨rfl, hb1⟩
            go_wp2_with fail
            refine (less_any _ _ _).mono ?_
            rw [HX.out]
            rintro e w2 ⟨rfl, rfl⟩
            go_wp2_with fail
            refine (less_any _ _ _).mono ?_
            rw [HY.out]
            rintro e w2 ⟨rfl, rfl⟩
            go_wp2_with fail
            refine (less_any _ _ _).mono ?_
            rw [HZ.out]
            rintro e w2 ⟨rfl, rfl⟩
            go_wp2_with fail
            refine (less_any _ _ _).mono ?_
            rw [HW.out]
            rintro e w2 ⟨rfl, rfl⟩
            go_wp2_with fail
            refine (less_any _ _ _).mono ?_
            rw [H4.out]
            rintro e w2 ⟨rfl, rfl⟩
            go_wp2_with fail
            refine (less_any _ _ _).mono ?_
            rw [H5.out]
            rintro e w2 ⟨rfl, rfl⟩
            go_wp2
            go_ret
            refine ⟨ret_bool ?_, hb1⟩
            simp [hne, hr0]
          · have HZ := Lib.hid (show Op.bytesLess t.data.toList r.data.toList = false by simpa using hz)
            clear hz
            go_enter Try.func6, Try.ntmps6
            go_wp2_with fail
            refine (awake_any _).mono ?_
            rintro e w1 ⟨rfl, hb1⟩
            go_wp2_with fail
            refine (less_any _ _ _).mono ?_
            rw [HX.out]
            rintro e w2 ⟨rfl, rfl⟩
            go_wp2_with fail
            refine (less_any _ _ _).mono ?_
            rw [HY.out]
            rintro e w2 ⟨rfl, rfl⟩
            go_wp2_with fail
            refine (less_any _ _ _).mono ?_
            rw [HZ.out]
            rintro e w2 ⟨rfl, rfl⟩
            go_wp2_with fail
            refine (less_any _ _ _).mono ?_
            rw [H4.out]
            rintro e w2 ⟨rfl, rfl⟩
            go_wp2_with fail
            refine (less_any _ _ _).mono ?_
            rw [H5.out]
            rintro e w2 ⟨rfl, rfl⟩
            go_wp2
            go_ret
            refine ⟨ret_bool ?_, hb1⟩
            simp [hne, hr0]
        · have hx : Op.bytesLess s.data.toList t.data.toList = false := by simpa using hx
          rw [hx] at htot
          rw [Bool.false_or] at htot
          have HX := Lib.hid hx
          clear hanti hx
          by_cases hy : Op.bytesLess t.data.toList s.data.toList = true
          · rw [hy] at htot
            have hne : ¬ s.toList = t.toList := by
              rw [hst]
              intro h
              rw [h] at htot
              simp at htot
            have HY := Lib.hid hy
            clear htot hy hst
            go_enter Try.func6, Try.ntmps6
            go_wp2_with fail
            refine (awake_any _).mono ?_
            rintro e w1 ⟨rfl, hb1⟩
            go_wp2_with fail
            refine (less_any _ _ _).mono ?_
            rw [HX.out]
            rintro e w2 ⟨rfl, rfl⟩
            go_wp2_with fail
            refine (less_any _ _ _).mono ?_
            rw [HY.out]
            rintro e w2 ⟨rfl, rfl⟩
            go_wp2_with fail
            refine (less_any _ _ _).mono ?_
            rw [H4.out]
            rintro e w2 ⟨rfl, rfl⟩
            go_wp2_with fail
            refine (less_any _ _ _).mono ?_
            rw [H5.out]
            rintro e w2 ⟨rfl, rfl⟩
            go_wp2
            go_ret
            refine ⟨ret_bool ?_, hb1⟩
            simp [hne, hr0]
          · have hy : Op.bytesLess t.data.toList s.data.toList = false := by simpa using hy
            rw [hy] at htot
            have he : s.toList = t.toList := by
              rw [hst]
              simpa using htot
            have HY := Lib.hid hy
            clear htot hy hst
            go_enter Try.func6, Try.ntmps6
            go_wp2_with fail
            refine (awake_any _).mono ?_
            rintro e w1 ⟨rfl, hb1⟩
            go_wp2_with fail
            refine (less_any _ _ _).mono ?_
            rw [HX.out]
            rintro e w2 ⟨rfl, rfl⟩
            go_wp2_with fail
            refine (less_any _ _ _).mono ?_
            rw [HY.out]
            rintro e w2 ⟨rfl, rfl⟩
            go_wp2_with fail
            refine (less_any _ _ _).mono ?_
            rw [H4.out]
            rintro e w2 ⟨rfl, rfl⟩
            go_wp2_with fail
            refine (less_any _ _ _).mono ?_
            rw [H5.out]
            rintro e w2 ⟨rfl, rfl⟩
            go_wp2
            go_ret
            refine ⟨ret_bool ?_, hb1⟩
            simp [he, hr0]
      · have d3 : decide ((3000 : Int) < r.size) = true := by simp; omega
        go_enter Try.func6, Try.ntmps6
        go_wp2_with fail
        refine (awake_any _).mono ?_
        rintro e w1 ⟨rfl, hb1⟩
        go_wp2
        go_ret
        exact ⟨rfl, hb1⟩
    · have d3 : decide ((3000 : Int) < t.size) = true := by simp; omega
      go_enter Try.func6, Try.ntmps6
      go_wp2_with fail
      refine (awake_any _).mono ?_
      rintro e w1 ⟨rfl, hb1⟩
      go_wp2
      go_ret
      exact ⟨rfl, hb1⟩
  · have d3 : decide ((3000 : Int) < s.size) = true := by simp; omega
    go_enter Try.func6, Try.ntmps6
    go_wp2_with fail
    refine (awake_any _).mono ?_
    rintro e w1 ⟨rfl, hb1⟩
    go_wp2
    go_ret
    exact ⟨rfl, hb1⟩

set_option maxRecDepth 100000 in
theorem lifted (os : Os) (started : os.Started) (H : Type) (enc : TypeId × Value → H) :
    ReturnsInHanded {} Try.checked os 6 .any (Rows.utfLessSpec.pre6 enc Try.prog Try.f6 Rows.utfLessRow.domain false) (Rows.utfLessSpec.post enc Try.prog Try.f6 false true false false) := by
  refine returnsInHanded_of_change (C := Try.checked) own started (by kernel_rfl) Try.func6
    (ChangeSpec.witness6 (enc := enc) (C := Try.checked) false ⟨#[], #[.string .empty, .string .empty, .string .empty], []⟩ 8 (by kernel_rfl) (by kernel_rfl) (by kernel_rfl) (by kernel_rfl)) ?_
  intro W base args ds gs before hval0 hW hcnd _
  have hval : ∀ (j : Nat) t v, Try.f6.params[j]? = some t → args[j]? = some v → Value.okWide Try.prog W .any base t v := hval0
  have hW2 := hW
  obtain ⟨p, q, hA0, hV, rfl, hfz, hnd⟩ := hW
  have hA : DataW.TrodAll enc Try.prog W 0 (fun _ => true) true Try.f6.params.toList args.toList ds p := hA0
  rw [Try.params6] at hA hval
  obtain ⟨v0, vs0, d0, ds0, p0, q0, hargs, rfl, rfl, h0, r0⟩ := trodAll_cons hA
  obtain ⟨v1, vs1, d1, ds1, p1, q1, rfl, rfl, rfl, h1, r1⟩ := trodAll_cons r0
  obtain ⟨v2, vs2, d2, ds2, p2, q2, rfl, rfl, rfl, h2, r2⟩ := trodAll_cons r1
  obtain ⟨rfl, rfl, rfl⟩ := trodAll_nil r2
  obtain rfl : args = #[v0, v1, v2] := by cases args; simp_all
  obtain ⟨rfl, rfl⟩ := trodVars_none hV
  obtain ⟨s0, rfl, rfl, rfl, b0⟩ := Go.ChangeMaps.open_string Try.underlying9 (hval 0 9 v0 rfl rfl) h0
  obtain ⟨s1, rfl, rfl, rfl, b1⟩ := Go.ChangeMaps.open_string Try.underlying9 (hval 1 9 v1 rfl rfl) h1
  obtain ⟨s2, rfl, rfl, rfl, b2⟩ := Go.ChangeMaps.open_string Try.underlying9 (hval 2 9 v2 rfl rfl) h2
  refine (walk W s0 b0 s1 b1 s2 b2).mono fun e W2 ⟨he, hb⟩ => ?_
  subst he
  exact ⟨_, rfl, law_post (by kernel_rfl) rfl rfl (by decide +kernel) hW2 hb⟩
theorem proved : Rows.UtfLessSaid :=
  OpenClaim.holds_of_wide 6 Try.f6 rfl rfl rfl rfl rfl rfl rfl ⟨rfl, rfl, rfl, rfl, rfl⟩ rfl rfl rfl rfl rfl (by kernel_rfl) Try.func6 (by kernel_rfl)
    (of_decide_eq_true (by kernel_rfl)) (by unfold Func.isWrapper; first | (rw [if_pos (by decide +kernel)]; kernel_rfl) | (rw [if_neg (by decide +kernel)]; exact ⟨rfl, rfl⟩))
    (fun os started H enc _ => lifted os started H enc)
end Go.Proofs.Ytiojpbmjciakeaa.lawUtfLess
