/-
  What is put ahead of a field is got, wherever it stands; it has at most five bytes: the statement TagBack, for every number, wire type and what stands ahead and behind.
-/
import Derived.Test.YtpejhogcplokfaaDoorTagLaid
namespace Go.Proofs.YtpejhogcplokfaaDoor.lawTagBack
open Go.ChangeShapes Go.WideShapes Go.ChangeAt Go.RowKit

theorem tget_back {no wire : Int} (h : putB no wire = true) (a t : List UInt8) :
    ∃ q r p : Nat, tgetR (a ++ putL no wire ++ t) a.length (a ++ putL no wire ++ t).length = (q, r, p, 0) ∧ (q : Int) = no ∧ (r : Int) = wire ∧ p = a.length + (putL no wire).length := by
  have hl := putN_lt h
  obtain ⟨t1, t2, t3⟩ := tellsN_yes h
  rw [putL_yes h]
  unfold tgetR
  rw [get_back (by omega) a t]
  simp only [if_true, t3]
  exact ⟨_, _, _, rfl, t1, t2, rfl⟩
theorem putL_le {no wire : Int} (h : putB no wire = true) : 1 ≤ (putL no wire).length ∧ (putL no wire).length ≤ 5 := by
  have hl := putN_lt h
  rw [putL_yes h, vput_length]
  exact ⟨vlong_pos _, vlong_le 4 (by omega)⟩

set_option maxRecDepth 1000000 in
set_option maxHeartbeats 1000000 in
theorem walk (w : World) (T : Wires w) (no : Int) (n1 : -9223372036854775808 ≤ no) (n2 : no ≤ 9223372036854775807) (wire : Int) (w1' : -9223372036854775808 ≤ wire) (w2' : wire ≤ 9223372036854775807)
    (A : Option Addr) (c : Nat) (l : List UInt8) (hr : SlB w A c l) (A' : Option Addr) (c' : Nat) (m : List UInt8) (hr' : SlB w A' c' m) :
    Calls Tryd.prog 4 #[.int .i64 no, .int .i64 wire, .slice A l.length c, .slice A' m.length c'] w fun e w' => e = .returned (.bool true) ∧ Below w.heap.size w w' := by
  have hml := hr.small.1
  have hml' := hr'.small.1
  obtain ⟨i0, hi, hz0, hz1, hz2⟩ := info_parts info_u8
  by_cases hyes : putB no wire = true ∧ l.length ≤ 100 ∧ m.length ≤ 100
  · obtain ⟨hB, hbig, hbig'⟩ := hyes
    have hK : knownB wire = true := by unfold putB at hB; exact (Bool.and_eq_true _ _ ▸ hB : _ ∧ _).2
    obtain ⟨q, r, p, hx0, rfl, rfl, hp⟩ := tget_back hB l m
    obtain ⟨hp1, hp5⟩ := putL_le hB
    generalize hP : putL (q : Int) (r : Int) = P at *
    obtain ⟨x, hx⟩ : ∃ x, x = l ++ P ++ m := ⟨_, rfl⟩
    rw [← hx] at hx0
    have hxl : x.length ≤ 220 := by rw [hx, List.length_append, List.length_append]; omega
    have E1 : Hid (0 + l.length + P.length + m.length = x.length) := Lib.hid (by rw [hx]; simp only [List.length_append]; omega)
    have E2 : Hid ([] ++ bs l ++ bs P ++ bs m = bs x) := Lib.hid (by rw [hx]; simp [bs])
    have HG := Lib.hid hx0
    have HP := Lib.hid hP
    have HB := Lib.hid hB
    have HK := Lib.hid hK
    clear hx hx0 hP hB hK
    have d1 : decide ((100 : Int) < (l.length : Int)) = false := by simp; omega
    have d2 : decide ((100 : Int) < (m.length : Int)) = false := by simp; omega
    go_enter Tryd.func4, Tryd.ntmps4
    go_wp2_with fail
    refine (awake_any _ T).mono ?_
    rintro e w1 ⟨rfl, hb1⟩
    have T1 := T.on hb1
    have hr1 := hr.on hb1
    have hr1' := hr'.on hb1
    clear hr hr'
    go_wp2_with fail
    refine (tput_any _ _ n1 n2 w1' w2' _ T1).mono ?_
    rw [HP.out, HB.out]
    rintro e wp ⟨Ap, cp, rfl, hrp, hbp⟩
    have T2 := T1.on hbp
    have hr1 := hr1.on hbp
    have hr1' := hr1'.on hbp
    go_wp2_with (first
      | (at_builtin; refine wpList_app_sl rfl _ _ 22 rfl wp.heap.size 5 i0 (.int .u8 0) 1 1 Tryd.underlying22 hi hz0 hz1 hz2 rfl (by omega) (.slice none 0 0) 0 [] rfl (World.ownsRow_nil _ _ _ _) A l.length c (bs l) rfl hr1 (bs_one l) (by unfold maxLen; omega) (by omega) (Nat.le_refl _) ?_; intro v2 w2 hown2 hg2; have hb2 : Below wp.heap.size wp w2 := (Below.refl _ _).grown hg2 (Nat.le_refl _) (by intro k hk; cases hk))
      | (at_builtin; refine wpList_app_sl rfl _ _ 22 rfl wp.heap.size 5 i0 (.int .u8 0) 1 1 Tryd.underlying22 hi hz0 hz1 hz2 rfl (by omega) v2 (0 + l.length) ([] ++ bs l) rfl hown2 Ap P.length cp (bs P) rfl (hrp.on hb2) (bs_one P) (by unfold maxLen; omega) (by omega) hb2.size ?_; intro v3 w3 hown3 hg3; have hb3 : Below wp.heap.size wp w3 := hb2.grown hg3 hb2.size (own_ge hown2))
      | (at_builtin; refine wpList_app_sl rfl _ _ 22 rfl wp.heap.size 5 i0 (.int .u8 0) 1 1 Tryd.underlying22 hi hz0 hz1 hz2 rfl (by omega) v3 (0 + l.length + P.length) ([] ++ bs l ++ bs P) rfl hown3 A' m.length c' (bs m) rfl (hr1'.on hb3) (bs_one m) (by unfold maxLen; omega) (by omega) hb3.size ?_; intro v4 w4 hown4 hg4; have hb4 : Below wp.heap.size wp w4 := hb3.grown hg4 hb3.size (own_ge hown3); have hown5 : w4.ownsRow wp.heap.size 5 1 v4 x.length (bs x) := (by rw [← E1.out, ← E2.out]; exact hown4); clear hown4; obtain ⟨A4, c4, rfl, hr4⟩ := SlB.of_own hown5; clear hown5 hown3 hown2 hg2 hg3 hg4))
    refine (tget_any A4 c4 x l.length x.length (by omega) _ hr4 (T2.on hb4)).mono ?_
    rw [HG.out]
    rintro e w5 ⟨rfl, hb5⟩
    have T5 := (T2.on hb4).on hb5
    unfold V4
    have hl : p = l.length + P.length := hp
    go_wp2_with fail
    refine (known_any _ _ T5).mono ?_
    rintro e w6 ⟨rfl, rfl⟩
    rw [HK.out]
    go_wp2
    go_ret
    exact ⟨by simp <;> omega, below_then (below_then (below_then hb1 hbp) hb4) hb5⟩
  · have hlen : putB no wire = false → (putL no wire).length = 0 := fun h => by rw [putL_no h]; rfl
    generalize hL : putL no wire = L at *
    generalize hB : putB no wire = B at *
    have HL := Lib.hid hL
    have HB := Lib.hid hB
    clear hL hB
    go_enter Tryd.func4, Tryd.ntmps4
    go_wp2_with fail
    refine (awake_any _ T).mono ?_
    rintro e w1 ⟨rfl, hb1⟩
    have T1 := T.on hb1
    go_wp2_with fail
    refine (tput_any no wire n1 n2 w1' w2' _ T1).mono ?_
    rw [HL.out, HB.out]
    rintro e w2 ⟨A2, c2, rfl, hp, hb2⟩
    have hb3 := below_then hb1 hb2
    cases B
    · have h0 : L.length = 0 := hlen rfl
      clear hlen hyes
      have hz : ((L.length : Int) == 0) = true := by simp [h0]
      clear h0
      go_wp2
      go_ret
      exact ⟨rfl, hb3⟩
    · have hd : decide ((100 : Int) < (l.length : Int)) = true ∨ (decide ((100 : Int) < (l.length : Int)) = false ∧ decide ((100 : Int) < (m.length : Int)) = true) := by
        by_cases h1 : l.length ≤ 100
        · right; exact ⟨by simp; omega, by simp only [decide_eq_true_eq]; have : ¬ m.length ≤ 100 := fun h => hyes ⟨rfl, h1, h⟩; omega⟩
        · left; simp only [decide_eq_true_eq]; omega
      clear hlen hyes
      rcases hd with d1 | ⟨d1, d2⟩
      · go_wp2
        go_ret
        exact ⟨rfl, hb3⟩
      · go_wp2
        go_ret
        exact ⟨rfl, hb3⟩

theorem contract (H : Type) (enc : TypeId × Value → H) (W : World) (base : Nat) (args : Array Value) (ds gs : List (DataW H)) (before : List MemPlace)
    (hval0 : ∀ (j : Nat) t v, Tryd.f4.params[j]? = some t → args[j]? = some v → Value.okWide Tryd.prog W .any base t v)
    (hW : DataW.Whole enc Tryd.prog Tryd.f4.params.toList Rows.tagBackSpec.vars false W args.toList ds gs before) (hL : laidMetH Tryd.prog Rows.tagBackRow.laid W) :
    Calls Tryd.prog 4 args W fun e W2 => ∃ v, e = .returned v ∧ Rows.tagBackSpec.post enc Tryd.prog Tryd.f4 false true false false W args v W2 := by
  have hval : ∀ (j : Nat) t v, Tryd.f4.params[j]? = some t → args[j]? = some v → Value.okWide Tryd.prog W .any base t v := hval0
  have T := wires_of hL
  have hW2 := hW
  obtain ⟨p, q, hA0, hV, rfl, hfz, hnd⟩ := hW
  have hA : DataW.TrodAll enc Tryd.prog W 0 (fun _ => true) true Tryd.f4.params.toList args.toList ds p := hA0
  rw [Tryd.params4] at hA hval
  obtain ⟨v0, vs0, d0, ds0, p0, q0, hargs, rfl, rfl, h0, r0⟩ := trodAll_cons hA
  obtain ⟨v1, vs1, d1, ds1, p1, q1, rfl, rfl, rfl, h1, r1⟩ := trodAll_cons r0
  obtain ⟨v2, vs2, d2, ds2, p2, q2, rfl, rfl, rfl, h2, r2⟩ := trodAll_cons r1
  obtain ⟨v3, vs3, d3, ds3, p3, q3, rfl, rfl, rfl, h3, r3⟩ := trodAll_cons r2
  obtain ⟨rfl, rfl, rfl⟩ := trodAll_nil r3
  obtain rfl : args = #[v0, v1, v2, v3] := by cases args; simp_all
  obtain ⟨rfl, rfl⟩ := trodVars_none hV
  obtain ⟨i0, rfl, b0, c0⟩ := open_i64 (hval 0 3 v0 rfl rfl) h0
  obtain ⟨i1, rfl, b1, c1⟩ := open_i64 (hval 1 3 v1 rfl rfl) h1
  obtain ⟨A2, c2, l2, rfl, rd2⟩ := open_bytes (hval 2 22 v2 rfl rfl) h2
  obtain ⟨A3, c3, l3, rfl, rd3⟩ := open_bytes (hval 3 22 v3 rfl rfl) h3
  refine (walk W T i0 b0 c0 i1 b1 c1 A2 c2 l2 rd2 A3 c3 l3 rd3).mono fun e W2 ⟨he, hb⟩ => ?_
  subst he
  exact ⟨_, rfl, law_post (by kernel_rfl) rfl rfl (by decide +kernel) hW2 hb⟩
theorem laid_met (os : Os) : laidMetH Tryd.prog Rows.tagBackRow.laid ((World.laidAll Tryd.prog os Rows.tagBackRow.laid).forCall (fun _ _ => 0) ⟨#[], #[.int .i64 0, .int .i64 0, .slice none 0 0, .slice none 0 0], []⟩).memory := by
  rw [MakeChecks.laidMetH_plain _ _ _ (by kernel_rfl)]
  exact laidMet_laidAll _ (by kernel_rfl) (by kernel_rfl)
theorem reads (os : Os) {H : Type} (enc : TypeId × Value → H) : ∃ places, DataW.whole enc Tryd.prog ((World.laidAll Tryd.prog os Rows.tagBackRow.laid).forCall (fun _ _ => 0) ⟨#[], #[.int .i64 0, .int .i64 0, .slice none 0 0, .slice none 0 0], []⟩).memory Tryd.f4.params.toList Rows.tagBackSpec.vars false (#[.int .i64 0, .int .i64 0, .slice none 0 0, .slice none 0 0] : Array Value).toList 8 = some ([.lit (.int .i64 0), .lit (.int .i64 0), .nil, .nil], [], places) := ⟨[], by kernel_rfl⟩
set_option maxRecDepth 100000 in
theorem lifted (os : Os) (started : os.Started) (H : Type) (enc : TypeId × Value → H) (F : Stop.Interp) :
    ReturnsInHanded {} Tryd.checked os 4 .any ((OpenSpec.ofChange Rows.tagBackSpec).preRow enc Tryd.prog Tryd.f4 Rows.tagBackRow.domain false Rows.tagBackRow.laid) (((OpenSpec.ofChange Rows.tagBackSpec).at F).post enc Tryd.prog Tryd.f4 false true false false) := by
  obtain ⟨places, hx⟩ := reads os enc
  refine returnsInHanded_of_row (C := Tryd.checked) (s := OpenSpec.ofChange Rows.tagBackSpec) own started (by kernel_rfl) Tryd.func4
    (witness_row_at (enc := enc) (C := Tryd.checked) false (World.laidAll Tryd.prog os Rows.tagBackRow.laid) #[.int .i64 0, .int .i64 0, .slice none 0 0, .slice none 0 0] (World.laidAll_os _ _ _) (by kernel_rfl) (by kernel_rfl) (by kernel_rfl)
      (OpenSpec.preRow_of_cond 8 hx (by kernel_rfl) (fun k hk => by cases hk) (by kernel_rfl) (laid_met os))) ?_
  intro W base args ds gs before hval hW _ _ _ hL _ _
  exact contract H enc W base args ds gs before hval hW hL
theorem said : Rows.TagBackSaid :=
  OpenClaim.holds_of_cond 4 Tryd.f4 rfl rfl rfl rfl rfl rfl rfl ⟨rfl, rfl, rfl, rfl, rfl⟩ rfl rfl rfl rfl rfl (by kernel_rfl) Tryd.func4 (by kernel_rfl)
    (of_decide_eq_true (by kernel_rfl)) (by unfold Func.isWrapper; first | (rw [if_pos (by decide +kernel)]; kernel_rfl) | (rw [if_neg (by decide +kernel)]; exact ⟨rfl, rfl⟩))
    (fun os started H enc _ F => by rw [OpenClaim.pre_eq_preRow]; exact lifted os started H enc F)
theorem plain (f : FuncId) (fn : Func) (hf : Tryd.pinned.checked.prog.funcNamed "truffle/trufflelaw03.TagBack" = some f) (hfn : Tryd.pinned.checked.prog.funcs[f]? = some fn) :
    false = Tryd.pinned.checked.prog.looks [] ∧ ∀ (j : Nat) t, fn.params[j]? = some t → Tryd.pinned.checked.prog.wantsStandIn t = false := by
  obtain rfl : f = 4 := Option.some.inj ((show Tryd.prog.funcNamed "truffle/trufflelaw03.TagBack" = some 4 by kernel_rfl).symm.trans hf) |>.symm
  obtain rfl : fn = Tryd.f4 := (Option.some.inj (Tryd.func4.symm.trans hfn)).symm
  refine ⟨by kernel_rfl, fun j t ht => ?_⟩
  have hall : (Tryd.f4.params.toList.all fun t => !Tryd.prog.wantsStandIn t) = true := by kernel_rfl
  have := List.all_eq_true.1 hall t (Array.mem_toList_iff.2 (Array.mem_of_getElem? ht))
  exact (show Tryd.prog.wantsStandIn t = false by simpa using this)
theorem proved : Rows.TagBackCardSaid :=
  Claim7.holds_tied_plain_at .later [] _ _ _ _ said (fun _ h => by cases h) (by kernel_rfl) (fun _ h => by cases h) tagBack_row_tie rfl ⟨rfl, rfl⟩ (by kernel_rfl) rfl plain (by kernel_rfl)
end Go.Proofs.YtpejhogcplokfaaDoor.lawTagBack
