/-
  What is read hangs on the bytes from there to the end alone: the statement VarintWhere, for every two slices of bytes and size.
-/
import Derived.Test.YthmnngojfllahaaVarAll
namespace Go.Proofs.Ythmnngojfllahaa.lawVarintWhere
open Go.ChangeShapes Go.WideShapes Go.ChangeAt Go.RowKit

theorem may_shift (a l : List UInt8) : mayB (a.length : Int) ((a ++ l).length : Int) (a ++ l).length = true := by rw [mayB_true, List.length_append]; omega
theorem may_whole (l : List UInt8) : mayB 0 (l.length : Int) l.length = true := by rw [mayB_true]; omega
theorem drop_shift (a l : List UInt8) : ((a ++ l).drop a.length).take ((a ++ l).length - a.length) = l := by
  rw [List.drop_left, List.length_append, Nat.add_sub_cancel_left, List.take_length]
theorem get_shift (a l : List UInt8) : getR (a ++ l) a.length (a ++ l).length = ((getR l 0 l.length).1, (if (getR l 0 l.length).2.2 = 0 then a.length + (getR l 0 l.length).2.1 else 0), (getR l 0 l.length).2.2) := by
  unfold getR getS
  rw [if_pos (may_shift a l), if_pos (may_whole l)]
  simp only [Int.toNat_natCast, Int.toNat_zero, drop_shift, List.drop_zero, Nat.sub_zero, List.take_length, Nat.zero_add]
  split <;> simp_all
theorem unfix_shift (a l : List UInt8) (s : Int) : unfixR (a ++ l) a.length (a ++ l).length s = ((unfixR l 0 l.length s).1, (if (unfixR l 0 l.length s).2.2 = 0 then a.length + (unfixR l 0 l.length s).2.1 else 0), (unfixR l 0 l.length s).2.2) := by
  unfold unfixR
  rw [may_shift a l, may_whole l]
  by_cases hs : sizeB s = true
  · simp only [hs, Bool.and_self, if_true, unfixS, Int.toNat_natCast, Int.toNat_zero, List.length_append, Nat.add_sub_cancel_left, Nat.sub_zero]
    by_cases hl : l.length < s.toNat
    · rw [if_pos hl, if_pos hl]; rfl
    · rw [if_neg hl, if_neg hl, List.drop_left]; simp
  · simp [hs]

theorem vget_bound (l : List UInt8) : (vget l).2.1 ≤ l.length := by
  have h := lead_le (l.take 10)
  rw [List.length_take] at h
  unfold vget
  split
  · simp
  · split
    · simp
    · simp only
      omega
theorem get_bound (l : List UInt8) : (getR l 0 l.length).2.1 ≤ l.length := by
  have h := vget_bound l
  unfold getR getS
  rw [if_pos (may_whole l)]
  simp only [Int.toNat_natCast, Int.toNat_zero, List.drop_zero, Nat.sub_zero, List.take_length, Nat.zero_add]
  split <;> omega
theorem unfix_bound (l : List UInt8) (s : Int) : (unfixR l 0 l.length s).2.1 ≤ l.length := by
  unfold unfixR unfixS
  split
  · split
    · simp
    · rename_i h
      simp only [Int.toNat_natCast, Int.toNat_zero] at h ⊢
      omega
  · simp

set_option maxRecDepth 100000 in
set_option maxHeartbeats 1000000 in
theorem walk (w : World) (A : Option Addr) (c : Nat) (l : List UInt8) (hr : SlB w A c l)
    (A' : Option Addr) (c' : Nat) (m : List UInt8) (hr' : SlB w A' c' m) (s : Int) (hs1 : -9223372036854775808 ≤ s) (hs2 : s ≤ 9223372036854775807) :
    Calls Try.prog 9 #[.slice A l.length c, .slice A' m.length c', .int .i64 s] w fun e w' => e = .returned (.bool true) ∧ Below w.heap.size w w' := by
  have hml := hr.small.1
  have hml' := hr'.small.1
  obtain ⟨i0, hi, hz0, hz1, hz2⟩ := info_parts info_u8
  by_cases hbig : l.length ≤ 100
  · by_cases hbig' : m.length ≤ 100
    · obtain ⟨x, hx⟩ : ∃ x, x = l ++ m := ⟨_, rfl⟩
      have hg := get_shift l m
      have hu := unfix_shift l m s
      rw [← hx] at hg hu
      have hgb := get_bound m
      have hub := unfix_bound m s
      have hxl : x.length ≤ 200 := by rw [hx, List.length_append]; omega
      have HX := Lib.hid hx
      have HG := Lib.hid hg
      have HU := Lib.hid hu
      clear hx hg hu
      go_enter Try.func9, Try.ntmps9
      go_wp2_with fail
      refine (awake_any _).mono ?_
      rintro e w1 ⟨rfl, hb1⟩
      have hr1 := hr.on hb1
      have hr1' := hr'.on hb1
      clear hr hr'
      go_wp2_with (first
        | (at_builtin; refine wpList_app_sl rfl _ _ 23 rfl w1.heap.size 5 i0 (.int .u8 0) 1 1 Try.underlying23 hi hz0 hz1 hz2 rfl (by omega) (.slice none 0 0) 0 [] rfl (World.ownsRow_nil _ _ _ _) A l.length c (bs l) rfl hr1 (bs_one l) (by unfold maxLen; omega) (by omega) (Nat.le_refl _) ?_; intro v2 w2 hown2 hg2; have hb2 : Below w1.heap.size w1 w2 := (Below.refl _ _).grown hg2 (Nat.le_refl _) (by intro k hk; cases hk))
        | (at_builtin; refine wpList_app_sl rfl _ _ 23 rfl w1.heap.size 5 i0 (.int .u8 0) 1 1 Try.underlying23 hi hz0 hz1 hz2 rfl (by omega) v2 (0 + l.length) ([] ++ bs l) rfl hown2 A' m.length c' (bs m) rfl (hr1'.on hb2) (bs_one m) (by unfold maxLen; omega) (by omega) hb2.size ?_; intro v3 w3 hown3 hg3; have hb3 : Below w1.heap.size w1 w3 := hb2.grown hg3 hb2.size (own_ge hown2); have hown4 : w3.ownsRow w1.heap.size 5 1 v3 x.length (bs x) := (by rw [HX.out]; simpa [bs] using hown3); clear hown3; obtain ⟨A4, c4, rfl, hr4⟩ := SlB.of_own hown4; clear hown4 hown2 hg2 hg3; have hr5 := hr1'.on hb3; clear hr1'))
      refine (get_any A4 c4 x l.length x.length (by omega) _ hr4).mono ?_
      rw [HG.out]
      rintro e w4 ⟨rfl, rfl⟩
      generalize hG : getR m 0 m.length = G at *
      have HG2 := Lib.hid hG
      clear hG
      obtain ⟨g1, g2, g3⟩ := G
      generalize hU : unfixR m 0 m.length s = U at *
      have HU2 := Lib.hid hU
      clear hU
      obtain ⟨u1, u2, u3⟩ := U
      unfold V3
      simp only at hgb hub
      clear hr1
      by_cases hg3 : g3 = 0
      · subst hg3
        by_cases hu3 : u3 = 0
        · subst hu3
          go_wp2_with fail
          refine (get_any A' c' m 0 m.length (by omega) _ hr5).mono ?_
          rw [HG2.out]
          rintro e w4 ⟨rfl, rfl⟩
          unfold V3
          go_wp2_with fail
          refine (unfix_any A4 c4 x l.length x.length s (by omega) _ hr4).mono ?_
          rw [HU.out]
          rintro e w4 ⟨rfl, rfl⟩
          unfold V3
          go_wp2_with fail
          refine (unfix_any A' c' m 0 m.length s (by omega) _ hr5).mono ?_
          rw [HU2.out]
          rintro e w4 ⟨rfl, rfl⟩
          unfold V3
          go_wp2
          go_ret
          exact ⟨by simp [*] <;> omega, below_then hb1 hb3⟩
        · have hu0 : ((u3 : Int) != 0) = true := by rw [bne_iff_ne]; omega
          have hu1 : ((u3 : Int) == 0) = false := by rw [beq_eq_false_iff_ne]; omega
          have HU3 := Lib.hid hu3
          go_wp2_with fail
          refine (get_any A' c' m 0 m.length (by omega) _ hr5).mono ?_
          rw [HG2.out]
          rintro e w4 ⟨rfl, rfl⟩
          unfold V3
          go_wp2_with fail
          refine (unfix_any A4 c4 x l.length x.length s (by omega) _ hr4).mono ?_
          rw [HU.out]
          rintro e w4 ⟨rfl, rfl⟩
          unfold V3
          go_wp2_with fail
          refine (unfix_any A' c' m 0 m.length s (by omega) _ hr5).mono ?_
          rw [HU2.out]
          rintro e w4 ⟨rfl, rfl⟩
          unfold V3
          go_wp2
          go_ret
          exact ⟨by simp [*] <;> omega, below_then hb1 hb3⟩
      · have hg0 : ((g3 : Int) != 0) = true := by rw [bne_iff_ne]; omega
        by_cases hu3 : u3 = 0
        · subst hu3
          go_wp2_with fail
          refine (get_any A' c' m 0 m.length (by omega) _ hr5).mono ?_
          rw [HG2.out]
          rintro e w4 ⟨rfl, rfl⟩
          unfold V3
          go_wp2_with fail
          refine (unfix_any A4 c4 x l.length x.length s (by omega) _ hr4).mono ?_
          rw [HU.out]
          rintro e w4 ⟨rfl, rfl⟩
          unfold V3
          go_wp2_with fail
          refine (unfix_any A' c' m 0 m.length s (by omega) _ hr5).mono ?_
          rw [HU2.out]
          rintro e w4 ⟨rfl, rfl⟩
          unfold V3
          go_wp2
          go_ret
          exact ⟨by simp [*] <;> omega, below_then hb1 hb3⟩
        · have hu0 : ((u3 : Int) != 0) = true := by rw [bne_iff_ne]; omega
          go_wp2_with fail
          refine (get_any A' c' m 0 m.length (by omega) _ hr5).mono ?_
          rw [HG2.out]
          rintro e w4 ⟨rfl, rfl⟩
          unfold V3
          go_wp2_with fail
          refine (unfix_any A4 c4 x l.length x.length s (by omega) _ hr4).mono ?_
          rw [HU.out]
          rintro e w4 ⟨rfl, rfl⟩
          unfold V3
          go_wp2_with fail
          refine (unfix_any A' c' m 0 m.length s (by omega) _ hr5).mono ?_
          rw [HU2.out]
          rintro e w4 ⟨rfl, rfl⟩
          unfold V3
          go_wp2
          go_ret
          exact ⟨by simp [*] <;> omega, below_then hb1 hb3⟩
    · have hd : ¬ m.length ≤ 100 := hbig'
      go_enter Try.func9, Try.ntmps9
      go_wp2_with fail
      refine (awake_any _).mono ?_
      rintro e w1 ⟨rfl, hb1⟩
      go_wp2
      go_ret
      exact ⟨rfl, hb1⟩
  · go_enter Try.func9, Try.ntmps9
    go_wp2_with fail
    refine (awake_any _).mono ?_
    rintro e w1 ⟨rfl, hb1⟩
    go_wp2
    go_ret
    exact ⟨rfl, hb1⟩

set_option maxRecDepth 100000 in
theorem lifted (os : Os) (started : os.Started) (H : Type) (enc : TypeId × Value → H) :
    ReturnsInHanded {} Try.checked os 9 .any (Rows.varintWhereSpec.pre6 enc Try.prog Try.f9 Rows.varintWhereRow.domain false) (Rows.varintWhereSpec.post enc Try.prog Try.f9 false true false false) := by
  refine returnsInHanded_of_change (C := Try.checked) own started (by kernel_rfl) Try.func9
    (ChangeSpec.witness6 (enc := enc) (C := Try.checked) false ⟨#[], #[.slice none 0 0, .slice none 0 0, .int .i64 0], []⟩ 8 (by kernel_rfl) (by kernel_rfl) (by kernel_rfl) (by kernel_rfl)) ?_
  intro W base args ds gs before hval0 hW hcnd _
  have hval : ∀ (j : Nat) t v, Try.f9.params[j]? = some t → args[j]? = some v → Value.okWide Try.prog W .any base t v := hval0
  have hW2 := hW
  obtain ⟨p, q, hA0, hV, rfl, hfz, hnd⟩ := hW
  have hA : DataW.TrodAll enc Try.prog W 0 (fun _ => true) true Try.f9.params.toList args.toList ds p := hA0
  rw [Try.params9] at hA hval
  obtain ⟨v0, vs0, d0, ds0, p0, q0, hargs, rfl, rfl, h0, r0⟩ := trodAll_cons hA
  obtain ⟨v1, vs1, d1, ds1, p1, q1, rfl, rfl, rfl, h1, r1⟩ := trodAll_cons r0
  obtain ⟨v2, vs2, d2, ds2, p2, q2, rfl, rfl, rfl, h2, r2⟩ := trodAll_cons r1
  obtain ⟨rfl, rfl, rfl⟩ := trodAll_nil r2
  obtain rfl : args = #[v0, v1, v2] := by cases args; simp_all
  obtain ⟨rfl, rfl⟩ := trodVars_none hV
  obtain ⟨A0, c0, l0, rfl, rd0⟩ := open_bytes (hval 0 23 v0 rfl rfl) h0
  obtain ⟨A1, c1, l1, rfl, rd1⟩ := open_bytes (hval 1 23 v1 rfl rfl) h1
  obtain ⟨i2, rfl, b2, c2⟩ := open_i64 (hval 2 3 v2 rfl rfl) h2
  refine (walk W A0 c0 l0 rd0 A1 c1 l1 rd1 i2 b2 c2).mono fun e W2 ⟨he, hb⟩ => ?_
  subst he
  exact ⟨_, rfl, law_post (by kernel_rfl) rfl rfl (by decide +kernel) hW2 hb⟩
theorem proved : Rows.VarintWhereSaid :=
  OpenClaim.holds_of_wide 9 Try.f9 rfl rfl rfl rfl rfl rfl rfl ⟨rfl, rfl, rfl, rfl, rfl⟩ rfl rfl rfl rfl rfl (by kernel_rfl) Try.func9 (by kernel_rfl)
    (of_decide_eq_true (by kernel_rfl)) (by unfold Func.isWrapper; first | (rw [if_pos (by decide +kernel)]; kernel_rfl) | (rw [if_neg (by decide +kernel)]; exact ⟨rfl, rfl⟩))
    (fun os started H enc _ => lifted os started H enc)
end Go.Proofs.Ythmnngojfllahaa.lawVarintWhere
