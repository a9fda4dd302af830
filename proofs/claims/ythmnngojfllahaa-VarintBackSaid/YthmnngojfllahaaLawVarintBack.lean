/-
  What is put is got, wherever it stands, and the place is its end; with its last byte cut off it is told so: the statement VarintBack, for every number and what stands ahead and behind.
-/
import Derived.Test.YthmnngojfllahaaVarAll
namespace Go.Proofs.Ythmnngojfllahaa.lawVarintBack
open Go.ChangeShapes Go.WideShapes Go.ChangeAt Go.RowKit

theorem get_back {n : Nat} (hn : n < 18446744073709551616) (a t : List UInt8) : getR (a ++ vput n ++ t) a.length (a ++ vput n ++ t).length = (n, a.length + (vput n).length, 0) := by
  have hm : mayB (a.length : Int) ((a ++ vput n ++ t).length : Int) (a ++ vput n ++ t).length = true := by rw [mayB_true]; simp only [List.length_append]; omega
  unfold getR getS
  rw [if_pos hm]
  simp only [Int.toNat_natCast]
  have e : ((a ++ vput n ++ t).drop a.length).take ((a ++ vput n ++ t).length - a.length) = vput n ++ t := by
    rw [List.append_assoc, List.drop_left, List.length_append, Nat.add_sub_cancel_left, List.take_length]
  rw [e, vget_vput hn]
  rfl
theorem get_back_cut {n : Nat} (hn : n < 18446744073709551616) (a t : List UInt8) (u : Int) (hu : u = (a.length : Int) + ((vput n).length : Int) - 1) : getR (a ++ vput n ++ t) a.length u = (0, 0, 6) := by
  have hp := vput_pos n
  have hu2 : u = ((a.length + ((vput n).length - 1) : Nat) : Int) := by omega
  subst hu2
  have hm : mayB (a.length : Int) ((a.length + ((vput n).length - 1) : Nat) : Int) (a ++ vput n ++ t).length = true := by rw [mayB_true]; simp only [List.length_append]; omega
  unfold getR getS
  rw [if_pos hm]
  simp only [Int.toNat_natCast, Nat.add_sub_cancel_left]
  rw [List.append_assoc, List.drop_left, vget_vput_cut hn]
  rfl

set_option maxRecDepth 1000000 in
set_option maxHeartbeats 1000000 in
theorem walk (w : World) (n : Nat) (hn : n < 18446744073709551616) (A : Option Addr) (c : Nat) (l : List UInt8) (hr : SlB w A c l)
    (A' : Option Addr) (c' : Nat) (m : List UInt8) (hr' : SlB w A' c' m) :
    Calls Try.prog 4 #[.int .u64 n, .slice A l.length c, .slice A' m.length c'] w fun e w' => e = .returned (.bool true) ∧ Below w.heap.size w w' := by
  have hml := hr.small.1
  have hml' := hr'.small.1
  obtain ⟨i0, hi, hz0, hz1, hz2⟩ := info_parts info_u8
  by_cases hbig : l.length ≤ 100
  · by_cases hbig' : m.length ≤ 100
    · obtain ⟨x, hx⟩ : ∃ x, x = l ++ vput n ++ m := ⟨_, rfl⟩
      have h10 := vput_len10 hn
      have hp1 := vput_pos n
      have hg := get_back hn l m
      have hu := get_back_cut hn l m _ rfl
      rw [← hx] at hg hu
      have hxl : x.length ≤ 220 := by rw [hx, List.length_append, List.length_append]; omega
      have HL := Lib.hid (vput_length n)
      have HX := Lib.hid hx
      have HG := Lib.hid hg
      have HU := Lib.hid hu
      have HN := Lib.hid hn
      clear hx hg hu
      generalize hP : vput n = P at *
      have HP := Lib.hid hP
      clear hP
      have E1 : Hid (0 + l.length + P.length + m.length = x.length) := Lib.hid (by rw [HX.out]; simp only [List.length_append]; omega)
      have E2 : Hid ([] ++ bs l ++ bs P ++ bs m = bs x) := Lib.hid (by rw [HX.out]; simp [bs])
      go_enter Try.func4, Try.ntmps4
      go_wp2_with fail
      refine (awake_any _).mono ?_
      rintro e w1 ⟨rfl, hb1⟩
      have hr1 := hr.on hb1
      have hr1' := hr'.on hb1
      clear hr hr'
      go_wp2_with fail
      refine (put_reads n hn _).mono ?_
      rw [HP.out]
      rintro e wp ⟨Ap, cp, rfl, hrp, hbp⟩
      have hr1 := hr1.on hbp
      have hr1' := hr1'.on hbp
      go_wp2_with (first
        | (at_builtin; refine wpList_app_sl rfl _ _ 23 rfl wp.heap.size 5 i0 (.int .u8 0) 1 1 Try.underlying23 hi hz0 hz1 hz2 rfl (by omega) (.slice none 0 0) 0 [] rfl (World.ownsRow_nil _ _ _ _) A l.length c (bs l) rfl hr1 (bs_one l) (by unfold maxLen; omega) (by omega) (Nat.le_refl _) ?_; intro v2 w2 hown2 hg2; have hb2 : Below wp.heap.size wp w2 := (Below.refl _ _).grown hg2 (Nat.le_refl _) (by intro k hk; cases hk))
        | (at_builtin; refine wpList_app_sl rfl _ _ 23 rfl wp.heap.size 5 i0 (.int .u8 0) 1 1 Try.underlying23 hi hz0 hz1 hz2 rfl (by omega) v2 (0 + l.length) ([] ++ bs l) rfl hown2 Ap P.length cp (bs P) rfl (hrp.on hb2) (bs_one P) (by unfold maxLen; omega) (by omega) hb2.size ?_; intro v3 w3 hown3 hg3; have hb3 : Below wp.heap.size wp w3 := hb2.grown hg3 hb2.size (own_ge hown2))
        | (at_builtin; refine wpList_app_sl rfl _ _ 23 rfl wp.heap.size 5 i0 (.int .u8 0) 1 1 Try.underlying23 hi hz0 hz1 hz2 rfl (by omega) v3 (0 + l.length + P.length) ([] ++ bs l ++ bs P) rfl hown3 A' m.length c' (bs m) rfl (hr1'.on hb3) (bs_one m) (by unfold maxLen; omega) (by omega) hb3.size ?_; intro v4 w4 hown4 hg4; have hb4 : Below wp.heap.size wp w4 := hb3.grown hg4 hb3.size (own_ge hown3); have hown5 : w4.ownsRow wp.heap.size 5 1 v4 x.length (bs x) := (by rw [← E1.out, ← E2.out]; exact hown4); clear hown4; obtain ⟨A4, c4, rfl, hr4⟩ := SlB.of_own hown5; clear hown5 hown3 hown2 hg2 hg3 hg4))
      refine (get_any A4 c4 x l.length x.length (by omega) _ hr4).mono ?_
      rw [HG.out]
      rintro e w5 ⟨rfl, rfl⟩
      unfold V3
      go_wp2_with fail
      refine (get_any A4 c4 x l.length _ (by omega) _ hr4).mono ?_
      rw [HU.out]
      rintro e w5 ⟨rfl, rfl⟩
      unfold V3
      go_wp2_with fail
      refine (long_any n HN.out _).mono ?_
      rintro e w5 ⟨rfl, rfl⟩
      have hl : P.length = vlong n := HL.out
      go_wp2
      go_ret
      exact ⟨by simp <;> omega, below_then (below_then hb1 hbp) hb4⟩
    · go_enter Try.func4, Try.ntmps4
      go_wp2_with fail
      refine (awake_any _).mono ?_
      rintro e w1 ⟨rfl, hb1⟩
      go_wp2
      go_ret
      exact ⟨rfl, hb1⟩
  · go_enter Try.func4, Try.ntmps4
    go_wp2_with fail
    refine (awake_any _).mono ?_
    rintro e w1 ⟨rfl, hb1⟩
    go_wp2
    go_ret
    exact ⟨rfl, hb1⟩

set_option maxRecDepth 100000 in
theorem lifted (os : Os) (started : os.Started) (H : Type) (enc : TypeId × Value → H) :
    ReturnsInHanded {} Try.checked os 4 .any (Rows.varintBackSpec.pre6 enc Try.prog Try.f4 Rows.varintBackRow.domain false) (Rows.varintBackSpec.post enc Try.prog Try.f4 false true false false) := by
  refine returnsInHanded_of_change (C := Try.checked) own started (by kernel_rfl) Try.func4
    (ChangeSpec.witness6 (enc := enc) (C := Try.checked) false ⟨#[], #[.int .u64 0, .slice none 0 0, .slice none 0 0], []⟩ 8 (by kernel_rfl) (by kernel_rfl) (by kernel_rfl) (by kernel_rfl)) ?_
  intro W base args ds gs before hval0 hW hcnd _
  have hval : ∀ (j : Nat) t v, Try.f4.params[j]? = some t → args[j]? = some v → Value.okWide Try.prog W .any base t v := hval0
  have hW2 := hW
  obtain ⟨p, q, hA0, hV, rfl, hfz, hnd⟩ := hW
  have hA : DataW.TrodAll enc Try.prog W 0 (fun _ => true) true Try.f4.params.toList args.toList ds p := hA0
  rw [Try.params4] at hA hval
  obtain ⟨v0, vs0, d0, ds0, p0, q0, hargs, rfl, rfl, h0, r0⟩ := trodAll_cons hA
  obtain ⟨v1, vs1, d1, ds1, p1, q1, rfl, rfl, rfl, h1, r1⟩ := trodAll_cons r0
  obtain ⟨v2, vs2, d2, ds2, p2, q2, rfl, rfl, rfl, h2, r2⟩ := trodAll_cons r1
  obtain ⟨rfl, rfl, rfl⟩ := trodAll_nil r2
  obtain rfl : args = #[v0, v1, v2] := by cases args; simp_all
  obtain ⟨rfl, rfl⟩ := trodVars_none hV
  obtain ⟨n0, rfl, b0⟩ := open_nat (hval 0 22 v0 rfl rfl) h0
  obtain ⟨A1, c1, l1, rfl, rd1⟩ := open_bytes (hval 1 23 v1 rfl rfl) h1
  obtain ⟨A2, c2, l2, rfl, rd2⟩ := open_bytes (hval 2 23 v2 rfl rfl) h2
  refine (walk W n0 b0 A1 c1 l1 rd1 A2 c2 l2 rd2).mono fun e W2 ⟨he, hb⟩ => ?_
  subst he
  exact ⟨_, rfl, law_post (by kernel_rfl) rfl rfl (by decide +kernel) hW2 hb⟩
theorem proved : Rows.VarintBackSaid :=
  OpenClaim.holds_of_wide 4 Try.f4 rfl rfl rfl rfl rfl rfl rfl ⟨rfl, rfl, rfl, rfl, rfl⟩ rfl rfl rfl rfl rfl (by kernel_rfl) Try.func4 (by kernel_rfl)
    (of_decide_eq_true (by kernel_rfl)) (by unfold Func.isWrapper; first | (rw [if_pos (by decide +kernel)]; kernel_rfl) | (rw [if_neg (by decide +kernel)]; exact ⟨rfl, rfl⟩))
    (fun os started H enc _ => lifted os started H enc)
end Go.Proofs.Ythmnngojfllahaa.lawVarintBack
