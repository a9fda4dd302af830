/-
  What is fine in each of two parts is so in both together; of all that is fine each beginning is so just up to where First tells: the statement UtfParts, for every two slices of bytes.
-/
import Derived.Test.YtiojpbmjciakeaaUtfLess
namespace Go.Proofs.Ytiojpbmjciakeaa.lawUtfParts
open Go.ChangeShapes Go.WideShapes Go.ChangeAt Go.RowKit

theorem fine_head (l m : List UInt8) : fineB (l ++ m) 0 (l.length : Int) = (first l == l.length) := by
  unfold fineB
  rw [decide_eq_true (by rw [List.length_append]; omega), Bool.true_and]
  simp
theorem fine_tail (l m : List UInt8) : fineB (l ++ m) (l.length : Int) ((l ++ m).length : Int) = (first m == m.length) := by
  have e : ((l ++ m).length : Int).toNat - (l.length : Int).toNat = m.length := by rw [List.length_append]; omega
  unfold fineB
  rw [decide_eq_true (by rw [List.length_append]; omega), Bool.true_and, e]
  simp
theorem fine_all (l : List UInt8) : fineB l 0 (l.length : Int) = (first l == l.length) := by
  unfold fineB
  rw [decide_eq_true (by omega), Bool.true_and]
  simp
theorem fine_first (l : List UInt8) : fineB l 0 (first l : Int) = true := by
  have := first_le l
  unfold fineB
  rw [decide_eq_true (by omega), Bool.true_and]
  simp [first_take]
theorem fine_first1 (l : List UInt8) (h : first l < l.length) : fineB l 0 ((first l : Int) + 1) = false := by
  have e : ((first l : Int) + 1).toNat - (0 : Int).toNat = first l + 1 := by omega
  unfold fineB
  rw [decide_eq_true (by omega), Bool.true_and, e]
  simp [first_more]

set_option maxRecDepth 100000 in
set_option maxHeartbeats 1000000 in
theorem walk (w : World) (A : Option Addr) (c : Nat) (l : List UInt8) (hr : SlB w A c l) (A' : Option Addr) (c' : Nat) (m : List UInt8) (hr' : SlB w A' c' m) :
    Calls Try.prog 4 #[.slice A l.length c, .slice A' m.length c'] w fun e w' => e = .returned (.bool true) ∧ Below w.heap.size w w' := by
  have hml := hr.small.1
  have hml' := hr'.small.1
  obtain ⟨i0, hi, hz0, hz1, hz2⟩ := info_parts info_u8
  by_cases h1 : l.length ≤ 3000
  · by_cases h2 : m.length ≤ 3000
    · obtain ⟨x, hx⟩ : ∃ x, x = l ++ m := ⟨_, rfl⟩
      have hlen : x.length = l.length + m.length := by rw [hx, List.length_append]
      have hxl : x.length ≤ 6000 := by omega
      have hF1 := fine_head l m
      have hF2 := fine_tail l m
      have hF3 := fine_all x
      have hF4 := fine_first x
      have hjoin : first l = l.length → first x = l.length + first m := by rw [hx]; exact first_append m
      rw [← hx] at hF1 hF2
      have HX := Lib.hid hx
      have hfx := first_le x
      have hfm := first_le m
      have hfl := first_le l
      have HLEN := Lib.hid hlen
      clear hx
      have dn : decide ((first x : Int) < 0) = false := by simp
      have dn2 : decide (x.length < first x) = false := by simp; omega
      have HN := Lib.hid hF4
      clear hF4
      by_cases ho : first l = l.length
      · have hj := hjoin ho
        have O2 : ((first l : Int) == (l.length : Int)) = true := by rw [beq_iff_eq]; omega
        have HO : Hid (fineB x 0 l.length = true) := Lib.hid (by rw [hF1, ho]; simp)
        by_cases hw : first x = x.length
        · have W2 : ((first x : Int) == (x.length : Int)) = true := by rw [beq_iff_eq]; omega
          have HW : Hid (fineB x 0 x.length = true) := Lib.hid (by rw [hF3, hw]; simp)
          have HT : Hid (fineB x l.length x.length = true) := Lib.hid (by rw [hF2, beq_iff_eq]; omega)
          clear hw hj hjoin hF1 hF2 hF3 ho hlen
          go_enter Try.func4, Try.ntmps4
          go_wp2_with fail
          refine (awake_any _).mono ?_
          rintro e w1 ⟨rfl, hb1⟩
          have hr1 := hr.on hb1
          have hr1' := hr'.on hb1
          clear hr hr'
          go_wp2_with (first
            | (at_builtin; refine wpList_app_sl rfl _ _ 22 rfl w1.heap.size 5 i0 (.int .u8 0) 1 1 Try.underlying22 hi hz0 hz1 hz2 rfl (by omega) (.slice none 0 0) 0 [] rfl (World.ownsRow_nil _ _ _ _) A l.length c (bs l) rfl hr1 (bs_one l) (by unfold maxLen; omega) (by omega) (Nat.le_refl _) ?_; intro v2 w3 hown2 hg2; have hb3 : Below w1.heap.size w1 w3 := (Below.refl _ _).grown hg2 (Nat.le_refl _) (by intro k hk; cases hk))
            | (at_builtin; refine wpList_app_sl rfl _ _ 22 rfl w1.heap.size 5 i0 (.int .u8 0) 1 1 Try.underlying22 hi hz0 hz1 hz2 rfl (by omega) v2 (0 + l.length) ([] ++ bs l) rfl hown2 A' m.length c' (bs m) rfl (hr1'.on hb3) (bs_one m) (by unfold maxLen; omega) (by omega) hb3.size ?_; intro v3 w4 hown3 hg3; have hb4 : Below w1.heap.size w1 w4 := hb3.grown hg3 hb3.size (own_ge hown2); have hown4 : w4.ownsRow w1.heap.size 5 1 v3 x.length (bs x) := (by rw [HX.out]; simpa [bs] using hown3); clear hown3; obtain ⟨A4, c4, rfl, hr4⟩ := SlB.of_own hown4; clear hown4 hown2 hg2 hg3; have hr5 := hr1.on hb4; clear hr1 hr1'))
          refine (fine_any A4 c4 x (by omega) 0 l.length _ hr4).mono ?_
          rw [HO.out]
          rintro e w5 ⟨rfl, hb5⟩
          have hr6 := hr4.on hb5
          clear hr4
          go_wp2_with fail
          refine (fine_any A4 c4 x (by omega) l.length x.length _ hr6).mono ?_
          rw [HT.out]
          rintro e w6 ⟨rfl, hb6⟩
          have hr7 := hr6.on hb6
          clear hr6
          go_wp2_with fail
          refine (fine_any A4 c4 x (by omega) 0 x.length _ hr7).mono ?_
          rw [HW.out]
          rintro e w7 ⟨rfl, hb7⟩
          have hr8 := hr7.on hb7
          clear hr7
          go_wp2_with fail
          refine (first_any A4 c4 x (by omega) _ hr8).mono ?_
          rintro e w8 ⟨rfl, hb8⟩
          have hr9 := hr8.on hb8
          clear hr8
          go_wp2_with fail
          refine (fine_any A4 c4 x (by omega) 0 (first x) _ hr9).mono ?_
          rw [HN.out]
          rintro e w9 ⟨rfl, hb9⟩
          have hr10 := hr9.on hb9
          clear hr9
          have hb10 := below_then (below_then (below_then (below_then (below_then (below_then hb1 hb4) hb5) hb6) hb7) hb8) hb9
          have hr11 := (((((hr5.on hb5).on hb6).on hb7).on hb8).on hb9)
          clear hr5
          go_wp2_with fail
          refine (first_any A c l (by omega) _ hr11).mono ?_
          rintro e w11 ⟨rfl, hb12⟩
          go_wp2
          go_ret
          exact ⟨ret_bool (by simp [O2]), below_then hb10 hb12⟩
        · have W2 : ((first x : Int) == (x.length : Int)) = false := by rw [beq_eq_false_iff_ne]; omega
          have HW : Hid (fineB x 0 x.length = false) := Lib.hid (by rw [hF3, beq_eq_false_iff_ne]; exact hw)
          have HT : Hid (fineB x l.length x.length = false) := Lib.hid (by rw [hF2, beq_eq_false_iff_ne]; omega)
          have HN1 := Lib.hid (fine_first1 x (by omega))
          clear hw hj hjoin hF1 hF2 hF3 ho hlen
          go_enter Try.func4, Try.ntmps4
          go_wp2_with fail
          refine (awake_any _).mono ?_
          rintro e w1 ⟨rfl, hb1⟩
          have hr1 := hr.on hb1
          have hr1' := hr'.on hb1
          clear hr hr'
          go_wp2_with (first
            | (at_builtin; refine wpList_app_sl rfl _ _ 22 rfl w1.heap.size 5 i0 (.int .u8 0) 1 1 Try.underlying22 hi hz0 hz1 hz2 rfl (by omega) (.slice none 0 0) 0 [] rfl (World.ownsRow_nil _ _ _ _) A l.length c (bs l) rfl hr1 (bs_one l) (by unfold maxLen; omega) (by omega) (Nat.le_refl _) ?_; intro v2 w3 hown2 hg2; have hb3 : Below w1.heap.size w1 w3 := (Below.refl _ _).grown hg2 (Nat.le_refl _) (by intro k hk; cases hk))
            | (at_builtin; refine wpList_app_sl rfl _ _ 22 rfl w1.heap.size 5 i0 (.int .u8 0) 1 1 Try.underlying22 hi hz0 hz1 hz2 rfl (by omega) v2 (0 + l.length) ([] ++ bs l) rfl hown2 A' m.length c' (bs m) rfl (hr1'.on hb3) (bs_one m) (by unfold maxLen; omega) (by omega) hb3.size ?_; intro v3 w4 hown3 hg3; have hb4 : Below w1.heap.size w1 w4 := hb3.grown hg3 hb3.size (own_ge hown2); have hown4 : w4.ownsRow w1.heap.size 5 1 v3 x.length (bs x) := (by rw [HX.out]; simpa [bs] using hown3); clear hown3; obtain ⟨A4, c4, rfl, hr4⟩ := SlB.of_own hown4; clear hown4 hown2 hg2 hg3; have hr5 := hr1.on hb4; clear hr1 hr1'))
          refine (fine_any A4 c4 x (by omega) 0 l.length _ hr4).mono ?_
          rw [HO.out]
          rintro e w5 ⟨rfl, hb5⟩
          have hr6 := hr4.on hb5
          clear hr4
          go_wp2_with fail
          refine (fine_any A4 c4 x (by omega) l.length x.length _ hr6).mono ?_
          rw [HT.out]
          rintro e w6 ⟨rfl, hb6⟩
          have hr7 := hr6.on hb6
          clear hr6
          go_wp2_with fail
          refine (fine_any A4 c4 x (by omega) 0 x.length _ hr7).mono ?_
          rw [HW.out]
          rintro e w7 ⟨rfl, hb7⟩
          have hr8 := hr7.on hb7
          clear hr7
          go_wp2_with fail
          refine (first_any A4 c4 x (by omega) _ hr8).mono ?_
          rintro e w8 ⟨rfl, hb8⟩
          have hr9 := hr8.on hb8
          clear hr8
          go_wp2_with fail
          refine (fine_any A4 c4 x (by omega) 0 (first x) _ hr9).mono ?_
          rw [HN.out]
          rintro e w9 ⟨rfl, hb9⟩
          have hr10 := hr9.on hb9
          clear hr9
          have hb10 := below_then (below_then (below_then (below_then (below_then (below_then hb1 hb4) hb5) hb6) hb7) hb8) hb9
          have hr11 := (((((hr5.on hb5).on hb6).on hb7).on hb8).on hb9)
          clear hr5
          go_wp2_with fail
          refine (fine_any A4 c4 x (by omega) 0 ((first x : Int) + 1) _ hr10).mono ?_
          rw [HN1.out]
          rintro e w10 ⟨rfl, hb11⟩
          have hb10 := below_then hb10 hb11
          have hr11 := hr11.on hb11
          go_wp2_with fail
          refine (first_any A c l (by omega) _ hr11).mono ?_
          rintro e w11 ⟨rfl, hb12⟩
          go_wp2
          go_ret
          exact ⟨ret_bool (by simp [O2]), below_then hb10 hb12⟩
      · have O2 : ((first l : Int) == (l.length : Int)) = false := by rw [beq_eq_false_iff_ne]; omega
        have HO : Hid (fineB x 0 l.length = false) := Lib.hid (by rw [hF1, beq_eq_false_iff_ne]; exact ho)
        obtain ⟨tw, htw⟩ : ∃ tw, fineB x l.length x.length = tw := ⟨_, rfl⟩
        have HT := Lib.hid htw
        clear htw
        by_cases hw : first x = x.length
        · have W2 : ((first x : Int) == (x.length : Int)) = true := by rw [beq_iff_eq]; omega
          have HW : Hid (fineB x 0 x.length = true) := Lib.hid (by rw [hF3, hw]; simp)
          clear hw hjoin hF1 hF2 hF3 ho hlen
          go_enter Try.func4, Try.ntmps4
          go_wp2_with fail
          refine (awake_any _).mono ?_
          rintro e w1 ⟨rfl, hb1⟩
          have hr1 := hr.on hb1
          have hr1' := hr'.on hb1
          clear hr hr'
          go_wp2_with (first
            | (at_builtin; refine wpList_app_sl rfl _ _ 22 rfl w1.heap.size 5 i0 (.int .u8 0) 1 1 Try.underlying22 hi hz0 hz1 hz2 rfl (by omega) (.slice none 0 0) 0 [] rfl (World.ownsRow_nil _ _ _ _) A l.length c (bs l) rfl hr1 (bs_one l) (by unfold maxLen; omega) (by omega) (Nat.le_refl _) ?_; intro v2 w3 hown2 hg2; have hb3 : Below w1.heap.size w1 w3 := (Below.refl _ _).grown hg2 (Nat.le_refl _) (by intro k hk; cases hk))
            | (at_builtin; refine wpList_app_sl rfl _ _ 22 rfl w1.heap.size 5 i0 (.int .u8 0) 1 1 Try.underlying22 hi hz0 hz1 hz2 rfl (by omega) v2 (0 + l.length) ([] ++ bs l) rfl hown2 A' m.length c' (bs m) rfl (hr1'.on hb3) (bs_one m) (by unfold maxLen; omega) (by omega) hb3.size ?_; intro v3 w4 hown3 hg3; have hb4 : Below w1.heap.size w1 w4 := hb3.grown hg3 hb3.size (own_ge hown2); have hown4 : w4.ownsRow w1.heap.size 5 1 v3 x.length (bs x) := (by rw [HX.out]; simpa [bs] using hown3); clear hown3; obtain ⟨A4, c4, rfl, hr4⟩ := SlB.of_own hown4; clear hown4 hown2 hg2 hg3; have hr5 := hr1.on hb4; clear hr1 hr1'))
          refine (fine_any A4 c4 x (by omega) 0 l.length _ hr4).mono ?_
          rw [HO.out]
          rintro e w5 ⟨rfl, hb5⟩
          have hr6 := hr4.on hb5
          clear hr4
          go_wp2_with fail
          refine (fine_any A4 c4 x (by omega) l.length x.length _ hr6).mono ?_
          rw [HT.out]
          rintro e w6 ⟨rfl, hb6⟩
          have hr7 := hr6.on hb6
          clear hr6
          go_wp2_with fail
          refine (fine_any A4 c4 x (by omega) 0 x.length _ hr7).mono ?_
          rw [HW.out]
          rintro e w7 ⟨rfl, hb7⟩
          have hr8 := hr7.on hb7
          clear hr7
          go_wp2_with fail
          refine (first_any A4 c4 x (by omega) _ hr8).mono ?_
          rintro e w8 ⟨rfl, hb8⟩
          have hr9 := hr8.on hb8
          clear hr8
          go_wp2_with fail
          refine (fine_any A4 c4 x (by omega) 0 (first x) _ hr9).mono ?_
          rw [HN.out]
          rintro e w9 ⟨rfl, hb9⟩
          have hr10 := hr9.on hb9
          clear hr9
          have hb10 := below_then (below_then (below_then (below_then (below_then (below_then hb1 hb4) hb5) hb6) hb7) hb8) hb9
          have hr11 := (((((hr5.on hb5).on hb6).on hb7).on hb8).on hb9)
          clear hr5
          go_wp2_with fail
          refine (first_any A c l (by omega) _ hr11).mono ?_
          rintro e w11 ⟨rfl, hb12⟩
          go_wp2
          go_ret
          exact ⟨ret_bool (by simp [O2]), below_then hb10 hb12⟩
        · have W2 : ((first x : Int) == (x.length : Int)) = false := by rw [beq_eq_false_iff_ne]; omega
          have HW : Hid (fineB x 0 x.length = false) := Lib.hid (by rw [hF3, beq_eq_false_iff_ne]; exact hw)
          have HN1 := Lib.hid (fine_first1 x (by omega))
          clear hw hjoin hF1 hF2 hF3 ho hlen
          go_enter Try.func4, Try.ntmps4
          go_wp2_with fail
          refine (awake_any _).mono ?_
          rintro e w1 ⟨rfl, hb1⟩
          have hr1 := hr.on hb1
          have hr1' := hr'.on hb1
          clear hr hr'
          go_wp2_with (first
            | (at_builtin; refine wpList_app_sl rfl _ _ 22 rfl w1.heap.size 5 i0 (.int .u8 0) 1 1 Try.underlying22 hi hz0 hz1 hz2 rfl (by omega) (.slice none 0 0) 0 [] rfl (World.ownsRow_nil _ _ _ _) A l.length c (bs l) rfl hr1 (bs_one l) (by unfold maxLen; omega) (by omega) (Nat.le_refl _) ?_; intro v2 w3 hown2 hg2; have hb3 : Below w1.heap.size w1 w3 := (Below.refl _ _).grown hg2 (Nat.le_refl _) (by intro k hk; cases hk))
            | (at_builtin; refine wpList_app_sl rfl _ _ 22 rfl w1.heap.size 5 i0 (.int .u8 0) 1 1 Try.underlying22 hi hz0 hz1 hz2 rfl (by omega) v2 (0 + l.length) ([] ++ bs l) rfl hown2 A' m.length c' (bs m) rfl (hr1'.on hb3) (bs_one m) (by unfold maxLen; omega) (by omega) hb3.size ?_; intro v3 w4 hown3 hg3; have hb4 : Below w1.heap.size w1 w4 := hb3.grown hg3 hb3.size (own_ge hown2); have hown4 : w4.ownsRow w1.heap.size 5 1 v3 x.length (bs x) := (by rw [HX.out]; simpa [bs] using hown3); clear hown3; obtain ⟨A4, c4, rfl, hr4⟩ := SlB.of_own hown4; clear hown4 hown2 hg2 hg3; have hr5 := hr1.on hb4; clear hr1 hr1'))
          refine (fine_any A4 c4 x (by omega) 0 l.length _ hr4).mono ?_
          rw [HO.out]
          rintro e w5 ⟨rfl, hb5⟩
          have hr6 := hr4.on hb5
          clear hr4
          go_wp2_with fail
          refine (fine_any A4 c4 x (by omega) l.length x.length _ hr6).mono ?_
          rw [HT.out]
          rintro e w6 ⟨rfl, hb6⟩
          have hr7 := hr6.on hb6
          clear hr6
          go_wp2_with fail
          refine (fine_any A4 c4 x (by omega) 0 x.length _ hr7).mono ?_
          rw [HW.out]
          rintro e w7 ⟨rfl, hb7⟩
          have hr8 := hr7.on hb7
          clear hr7
          go_wp2_with fail
          refine (first_any A4 c4 x (by omega) _ hr8).mono ?_
          rintro e w8 ⟨rfl, hb8⟩
          have hr9 := hr8.on hb8
          clear hr8
          go_wp2_with fail
          refine (fine_any A4 c4 x (by omega) 0 (first x) _ hr9).mono ?_
          rw [HN.out]
          rintro e w9 ⟨rfl, hb9⟩
          have hr10 := hr9.on hb9
          clear hr9
          have hb10 := below_then (below_then (below_then (below_then (below_then (below_then hb1 hb4) hb5) hb6) hb7) hb8) hb9
          have hr11 := (((((hr5.on hb5).on hb6).on hb7).on hb8).on hb9)
          clear hr5
          go_wp2_with fail
          refine (fine_any A4 c4 x (by omega) 0 ((first x : Int) + 1) _ hr10).mono ?_
          rw [HN1.out]
          rintro e w10 ⟨rfl, hb11⟩
          have hb10 := below_then hb10 hb11
          have hr11 := hr11.on hb11
          go_wp2_with fail
          refine (first_any A c l (by omega) _ hr11).mono ?_
          rintro e w11 ⟨rfl, hb12⟩
          go_wp2
          go_ret
          exact ⟨ret_bool (by simp [O2]), below_then hb10 hb12⟩
    · have d3 : decide ((3000 : Int) < m.length) = true := by simp; omega
      go_enter Try.func4, Try.ntmps4
      go_wp2_with fail
      refine (awake_any _).mono ?_
      rintro e w1 ⟨rfl, hb1⟩
      go_wp2
      go_ret
      exact ⟨rfl, hb1⟩
  · have d3 : decide ((3000 : Int) < l.length) = true := by simp; omega
    go_enter Try.func4, Try.ntmps4
    go_wp2_with fail
    refine (awake_any _).mono ?_
    rintro e w1 ⟨rfl, hb1⟩
    go_wp2
    go_ret
    exact ⟨rfl, hb1⟩

set_option maxRecDepth 100000 in
theorem lifted (os : Os) (started : os.Started) (H : Type) (enc : TypeId × Value → H) :
    ReturnsInHanded {} Try.checked os 4 .any (Rows.utfPartsSpec.pre6 enc Try.prog Try.f4 Rows.utfPartsRow.domain false) (Rows.utfPartsSpec.post enc Try.prog Try.f4 false true false false) := by
  refine returnsInHanded_of_change (C := Try.checked) own started (by kernel_rfl) Try.func4
    (ChangeSpec.witness6 (enc := enc) (C := Try.checked) false ⟨#[], #[.slice none 0 0, .slice none 0 0], []⟩ 8 (by kernel_rfl) (by kernel_rfl) (by kernel_rfl) (by kernel_rfl)) ?_
  intro W base args ds gs before hval0 hW hcnd _
  have hval : ∀ (j : Nat) t v, Try.f4.params[j]? = some t → args[j]? = some v → Value.okWide Try.prog W .any base t v := hval0
  have hW2 := hW
  obtain ⟨p, q, hA0, hV, rfl, hfz, hnd⟩ := hW
  have hA : DataW.TrodAll enc Try.prog W 0 (fun _ => true) true Try.f4.params.toList args.toList ds p := hA0
  rw [Try.params4] at hA hval
  obtain ⟨v0, vs0, d0, ds0, p0, q0, hargs, rfl, rfl, h0, r0⟩ := trodAll_cons hA
  obtain ⟨v1, vs1, d1, ds1, p1, q1, rfl, rfl, rfl, h1, r1⟩ := trodAll_cons r0
  obtain ⟨rfl, rfl, rfl⟩ := trodAll_nil r1
  obtain rfl : args = #[v0, v1] := by cases args; simp_all
  obtain ⟨rfl, rfl⟩ := trodVars_none hV
  obtain ⟨A0, c0, l0, rfl, rd0⟩ := open_bytes (hval 0 22 v0 rfl rfl) h0
  obtain ⟨A1, c1, l1, rfl, rd1⟩ := open_bytes (hval 1 22 v1 rfl rfl) h1
  refine (walk W A0 c0 l0 rd0 A1 c1 l1 rd1).mono fun e W2 ⟨he, hb⟩ => ?_
  subst he
  exact ⟨_, rfl, law_post (by kernel_rfl) rfl rfl (by decide +kernel) hW2 hb⟩
theorem proved : Rows.UtfPartsSaid :=
  OpenClaim.holds_of_wide 4 Try.f4 rfl rfl rfl rfl rfl rfl rfl ⟨rfl, rfl, rfl, rfl, rfl⟩ rfl rfl rfl rfl rfl (by kernel_rfl) Try.func4 (by kernel_rfl)
    (of_decide_eq_true (by kernel_rfl)) (by unfold Func.isWrapper; first | (rw [if_pos (by decide +kernel)]; kernel_rfl) | (rw [if_neg (by decide +kernel)]; exact ⟨rfl, rfl⟩))
    (fun os started H enc _ => lifted os started H enc)
end Go.Proofs.Ytiojpbmjciakeaa.lawUtfParts
