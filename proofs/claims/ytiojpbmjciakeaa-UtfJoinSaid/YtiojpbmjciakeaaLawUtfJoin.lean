/-
  Behind what is fine as many first bytes are as of what follows alone: the statement UtfJoin, for every two slices of bytes.
-/
import Derived.Test.YtiojpbmjciakeaaUtfLess
namespace Go.Proofs.Ytiojpbmjciakeaa.lawUtfJoin
open Go.ChangeShapes Go.WideShapes Go.ChangeAt Go.RowKit

set_option maxRecDepth 100000 in
set_option maxHeartbeats 1000000 in
theorem walk (w : World) (A : Option Addr) (c : Nat) (l : List UInt8) (hr : SlB w A c l) (A' : Option Addr) (c' : Nat) (m : List UInt8) (hr' : SlB w A' c' m) :
    Calls Try.prog 7 #[.slice A l.length c, .slice A' m.length c'] w fun e w' => e = .returned (.bool true) ∧ Below w.heap.size w w' := by
  have hml := hr.small.1
  have hml' := hr'.small.1
  obtain ⟨i0, hi, hz0, hz1, hz2⟩ := info_parts info_u8
  by_cases h1 : l.length ≤ 3000
  · by_cases h2 : m.length ≤ 3000
    · by_cases h3 : first l = l.length
      · obtain ⟨x, hx⟩ : ∃ x, x = l ++ m := ⟨_, rfl⟩
        have hxl : x.length ≤ 6000 := by rw [hx, List.length_append]; omega
        have HJ := Lib.hid (first_append m h3)
        rw [← hx] at HJ
        have HX := Lib.hid hx
        have H3 := Lib.hid h3
        clear hx h3
        go_enter Try.func7, Try.ntmps7
        go_wp2_with fail
        refine (awake_any _).mono ?_
        rintro e w1 ⟨rfl, hb1⟩
        have hr1 := hr.on hb1
        have hr1' := hr'.on hb1
        clear hr hr'
        go_wp2_with fail
        refine (first_any _ _ l (by omega) _ hr1).mono ?_
        rw [H3.out]
        rintro e w2 ⟨rfl, hb2⟩
        have hr2 := hr1.on hb2
        have hr2' := hr1'.on hb2
        clear hr1 hr1'
        have hb12 := below_then hb1 hb2
        go_wp2_with (first
          | (at_builtin; refine wpList_app_sl rfl _ _ 22 rfl w2.heap.size 5 i0 (.int .u8 0) 1 1 Try.underlying22 hi hz0 hz1 hz2 rfl (by omega) (.slice none 0 0) 0 [] rfl (World.ownsRow_nil _ _ _ _) A l.length c (bs l) rfl hr2 (bs_one l) (by unfold maxLen; omega) (by omega) (Nat.le_refl _) ?_; intro v2 w3 hown2 hg2; have hb3 : Below w2.heap.size w2 w3 := (Below.refl _ _).grown hg2 (Nat.le_refl _) (by intro k hk; cases hk))
          | (at_builtin; refine wpList_app_sl rfl _ _ 22 rfl w2.heap.size 5 i0 (.int .u8 0) 1 1 Try.underlying22 hi hz0 hz1 hz2 rfl (by omega) v2 (0 + l.length) ([] ++ bs l) rfl hown2 A' m.length c' (bs m) rfl (hr2'.on hb3) (bs_one m) (by unfold maxLen; omega) (by omega) hb3.size ?_; intro v3 w4 hown3 hg3; have hb4 : Below w2.heap.size w2 w4 := hb3.grown hg3 hb3.size (own_ge hown2); have hown4 : w4.ownsRow w2.heap.size 5 1 v3 x.length (bs x) := (by rw [HX.out]; simpa [bs] using hown3); clear hown3; obtain ⟨A4, c4, rfl, hr4⟩ := SlB.of_own hown4; clear hown4 hown2 hg2 hg3; have hr5 := hr2'.on hb4; clear hr2'))
        refine (first_any _ _ x (by omega) _ hr4).mono ?_
        rw [HJ.out]
        rintro e w5 ⟨rfl, hb5⟩
        have hr6 := hr5.on hb5
        have hfl := first_le m
        go_wp2_with fail
        refine (first_any _ _ m (by omega) _ hr6).mono ?_
        rintro e w6 ⟨rfl, hb6⟩
        go_wp2
        go_ret
        exact ⟨ret_bool (by simp), below_then (below_then (below_then hb12 hb4) hb5) hb6⟩
      · have b1 : ((first l : Int) != (l.length : Int)) = true := by rw [bne_iff_ne]; omega
        go_enter Try.func7, Try.ntmps7
        go_wp2_with fail
        refine (awake_any _).mono ?_
        rintro e w1 ⟨rfl, hb1⟩
        have hr1 := hr.on hb1
        go_wp2_with fail
        refine (first_any _ _ l (by omega) _ hr1).mono ?_
        rintro e w2 ⟨rfl, hb2⟩
        go_wp2
        go_ret
        exact ⟨rfl, below_then hb1 hb2⟩
    · have d3 : decide ((3000 : Int) < m.length) = true := by simp; omega
      go_enter Try.func7, Try.ntmps7
      go_wp2_with fail
      refine (awake_any _).mono ?_
      rintro e w1 ⟨rfl, hb1⟩
      go_wp2
      go_ret
      exact ⟨rfl, hb1⟩
  · have d3 : decide ((3000 : Int) < l.length) = true := by simp; omega
    go_enter Try.func7, Try.ntmps7
    go_wp2_with fail
    refine (awake_any _).mono ?_
    rintro e w1 ⟨rfl, hb1⟩
    go_wp2
    go_ret
    exact ⟨rfl, hb1⟩

set_option maxRecDepth 100000 in
theorem lifted (os : Os) (started : os.Started) (H : Type) (enc : TypeId × Value → H) :
    ReturnsInHanded {} Try.checked os 7 .any (Rows.utfJoinSpec.pre6 enc Try.prog Try.f7 Rows.utfJoinRow.domain false) (Rows.utfJoinSpec.post enc Try.prog Try.f7 false true false false) := by
  refine returnsInHanded_of_change (C := Try.checked) own started (by kernel_rfl) Try.func7
    (ChangeSpec.witness6 (enc := enc) (C := Try.checked) false ⟨#[], #[.slice none 0 0, .slice none 0 0], []⟩ 8 (by kernel_rfl) (by kernel_rfl) (by kernel_rfl) (by kernel_rfl)) ?_
  intro W base args ds gs before hval0 hW hcnd _
  have hval : ∀ (j : Nat) t v, Try.f7.params[j]? = some t → args[j]? = some v → Value.okWide Try.prog W .any base t v := hval0
  have hW2 := hW
  obtain ⟨p, q, hA0, hV, rfl, hfz, hnd⟩ := hW
  have hA : DataW.TrodAll enc Try.prog W 0 (fun _ => true) true Try.f7.params.toList args.toList ds p := hA0
  rw [Try.params7] at hA hval
  obtain ⟨v0, vs0, d0, ds0, p0, q0, hargs, rfl, rfl, h0, r0⟩ := trodAll_cons hA
  obtain ⟨v1, vs1, d1, ds1, p1, q1, rfl, rfl, rfl, h1, r1⟩ := trodAll_cons r0
  obtain ⟨rfl, rfl, rfl⟩ := trodAll_nil r1
  obtain rfl : args = #[v0, v1] := by cases args; simp_all
  obtain ⟨rfl, rfl⟩ := trodVars_none hV
  obtain ⟨A0, c0, l0, rfl, rd0⟩ := open_bytes (hval 0 22 v0 rfl rfl) h0
  obtain ⟨A1, c1, l1, rfl, rd1⟩ := open_bytes (hval 1 22 v1 rfl rfl) h1
  refine (walk W A0 c0 l0 rd0 A1 c1 l1 rd1).mono fun e W2 ⟨he, hb⟩ => ?_
  subst he
  exact ⟨_, rfl, law_post (by kernel_rfl) rfl rfl (by decide +kernel) hW2 hb⟩
theorem proved : Rows.UtfJoinSaid :=
  OpenClaim.holds_of_wide 7 Try.f7 rfl rfl rfl rfl rfl rfl rfl ⟨rfl, rfl, rfl, rfl, rfl⟩ rfl rfl rfl rfl rfl (by kernel_rfl) Try.func7 (by kernel_rfl)
    (of_decide_eq_true (by kernel_rfl)) (by unfold Func.isWrapper; first | (rw [if_pos (by decide +kernel)]; kernel_rfl) | (rw [if_neg (by decide +kernel)]; exact ⟨rfl, rfl⟩))
    (fun os started H enc _ => lifted os started H enc)
end Go.Proofs.Ytiojpbmjciakeaa.lawUtfJoin
