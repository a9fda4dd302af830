/-
  Any number and wire type have the bytes, and any bytes are these, or have the error, that the document's own way says: the statement TagTells, for every number, wire type, slice of bytes and places.
-/
import Derived.Test.YtpejhogcplokfaaDoorTagLaid
namespace Go.Proofs.YtpejhogcplokfaaDoor.lawTagTells
open Go.ChangeShapes Go.WideShapes Go.ChangeAt Go.RowKit

theorem putL_len (no wire : Int) : (putL no wire).length ≤ 10 := by
  by_cases h : putB no wire = true
  · have hl := putN_lt h
    rw [putL_yes h]; exact vput_len10 (by omega)
  · rw [putL_no (by simpa using h)]; simp

set_option maxRecDepth 1000000 in
set_option maxHeartbeats 1000000 in
theorem walk (w : World) (T : Wires w) (no : Int) (n1 : -9223372036854775808 ≤ no) (n2 : no ≤ 9223372036854775807) (wire : Int) (w1' : -9223372036854775808 ≤ wire) (w2' : wire ≤ 9223372036854775807)
    (A : Option Addr) (c : Nat) (l : List UInt8) (hr : SlB w A c l) (a : Int) (a1 : -9223372036854775808 ≤ a) (a2 : a ≤ 9223372036854775807) (u : Int) (u1 : -9223372036854775808 ≤ u) (u2 : u ≤ 9223372036854775807) :
    Calls Tryd.prog 3 #[.int .i64 no, .int .i64 wire, .slice A l.length c, .int .i64 a, .int .i64 u] w fun e w' => e = .returned (.bool true) ∧ Below w.heap.size w w' := by
  have hlen := putL_len no wire
  have hml := hr.small.1
  by_cases hbig : l.length ≤ 3000
  · generalize hL : putL no wire = L at *
    generalize hB : putB no wire = B at *
    generalize hK : knownB wire = K at *
    obtain ⟨x1, x2, x3, x4, hx⟩ : ∃ x1 x2 x3 x4, tgetR l a u = (x1, x2, x3, x4) := ⟨_, _, _, _, rfl⟩
    have HL := Lib.hid hL
    have HB := Lib.hid hB
    have HK := Lib.hid hK
    have HX := Lib.hid hx
    clear hL hB hK hx
    have b1 : decide ((3000 : Int) < (l.length : Int)) = false := by simp; omega
    go_enter Tryd.func3, Tryd.ntmps3
    go_wp2_with fail
    refine (awake_any _ T).mono ?_
    rintro e w1 ⟨rfl, hb1⟩
    have T1 := T.on hb1
    have hr1 := hr.on hb1
    go_wp2_with fail
    refine (tput_any no wire n1 n2 w1' w2' _ T1).mono ?_
    rintro e w2 ⟨A2, c2, rfl, hp, hb2⟩
    rw [HL.out] at hp ⊢
    rw [HB.out]
    have T2 := T1.on hb2
    have hr2 := hr1.on hb2
    have hb2 := below_then hb1 hb2
    go_wp2_with fail
    refine (rtput_any no wire _).mono ?_
    rintro e w3 ⟨A3, c3, rfl, hq, hb3⟩
    rw [HL.out] at hq ⊢
    rw [HB.out]
    have T3 := T2.on hb3
    have hr3 := hr2.on hb3
    have hp3 := hp.on hb3
    have hb3 := below_then hb2 hb3
    go_wp2_with fail
    refine (bytes_any A2 A3 c2 c3 L L _ (by omega) (by omega) hp3 hq).mono ?_
    rintro e w4 ⟨rfl, hb4⟩
    have T4 := T3.on hb4
    have hr4 := hr3.on hb4
    have hb4 := below_then hb3 hb4
    go_wp2_with fail
    refine (tget_any A c l a u (by omega) _ hr4 T4).mono ?_
    rintro e w5 ⟨rfl, hb5⟩
    rw [HX.out]
    unfold V4
    have T5 := T4.on hb5
    have hr5 := hr4.on hb5
    have hb5 := below_then hb4 hb5
    go_wp2_with fail
    refine (rtget_any A c l a u (by omega) _ hr5).mono ?_
    rintro e w6 ⟨rfl, rfl⟩
    rw [HX.out]
    unfold V4
    go_wp2_with fail
    refine (known_any wire _ T5).mono ?_
    rintro e w6 ⟨rfl, rfl⟩
    rw [HK.out]
    go_wp2_with fail
    refine (rknown_any wire _).mono ?_
    rintro e w6 ⟨rfl, rfl⟩
    rw [HK.out]
    go_wp2
    go_ret
    exact ⟨by simp, hb5⟩
  · have b1 : decide ((3000 : Int) < (l.length : Int)) = true := by simp; omega
    go_enter Tryd.func3, Tryd.ntmps3
    go_wp2_with fail
    refine (awake_any _ T).mono ?_
    rintro e w1 ⟨rfl, hb1⟩
    go_wp2
    go_ret
    exact ⟨rfl, hb1⟩

theorem contract (H : Type) (enc : TypeId × Value → H) (W : World) (base : Nat) (args : Array Value) (ds gs : List (DataW H)) (before : List MemPlace)
    (hval0 : ∀ (j : Nat) t v, Tryd.f3.params[j]? = some t → args[j]? = some v → Value.okWide Tryd.prog W .any base t v)
    (hW : DataW.Whole enc Tryd.prog Tryd.f3.params.toList Rows.tagTellsSpec.vars false W args.toList ds gs before) (hL : laidMetH Tryd.prog Rows.tagTellsRow.laid W) :
    Calls Tryd.prog 3 args W fun e W2 => ∃ v, e = .returned v ∧ Rows.tagTellsSpec.post enc Tryd.prog Tryd.f3 false true false false W args v W2 := by
  have hval : ∀ (j : Nat) t v, Tryd.f3.params[j]? = some t → args[j]? = some v → Value.okWide Tryd.prog W .any base t v := hval0
  have T := wires_of hL
  have hW2 := hW
  obtain ⟨p, q, hA0, hV, rfl, hfz, hnd⟩ := hW
  have hA : DataW.TrodAll enc Tryd.prog W 0 (fun _ => true) true Tryd.f3.params.toList args.toList ds p := hA0
  rw [Tryd.params3] at hA hval
  obtain ⟨v0, vs0, d0, ds0, p0, q0, hargs, rfl, rfl, h0, r0⟩ := trodAll_cons hA
  obtain ⟨v1, vs1, d1, ds1, p1, q1, rfl, rfl, rfl, h1, r1⟩ := trodAll_cons r0
  obtain ⟨v2, vs2, d2, ds2, p2, q2, rfl, rfl, rfl, h2, r2⟩ := trodAll_cons r1
  obtain ⟨v3, vs3, d3, ds3, p3, q3, rfl, rfl, rfl, h3, r3⟩ := trodAll_cons r2
  obtain ⟨v4, vs4, d4, ds4, p4, q4, rfl, rfl, rfl, h4, r4⟩ := trodAll_cons r3
  obtain ⟨rfl, rfl, rfl⟩ := trodAll_nil r4
  obtain rfl : args = #[v0, v1, v2, v3, v4] := by cases args; simp_all
  obtain ⟨rfl, rfl⟩ := trodVars_none hV
  obtain ⟨i0, rfl, b0, c0⟩ := open_i64 (hval 0 3 v0 rfl rfl) h0
  obtain ⟨i1, rfl, b1, c1⟩ := open_i64 (hval 1 3 v1 rfl rfl) h1
  obtain ⟨A2, c2, l2, rfl, rd2⟩ := open_bytes (hval 2 22 v2 rfl rfl) h2
  obtain ⟨i3, rfl, b3, c3⟩ := open_i64 (hval 3 3 v3 rfl rfl) h3
  obtain ⟨i4, rfl, b4, c4⟩ := open_i64 (hval 4 3 v4 rfl rfl) h4
  refine (walk W T i0 b0 c0 i1 b1 c1 A2 c2 l2 rd2 i3 b3 c3 i4 b4 c4).mono fun e W2 ⟨he, hb⟩ => ?_
  subst he
  exact ⟨_, rfl, law_post (by kernel_rfl) rfl rfl (by decide +kernel) hW2 hb⟩
theorem laid_met (os : Os) : laidMetH Tryd.prog Rows.tagTellsRow.laid ((World.laidAll Tryd.prog os Rows.tagTellsRow.laid).forCall (fun _ _ => 0) ⟨#[], #[.int .i64 0, .int .i64 0, .slice none 0 0, .int .i64 0, .int .i64 0], []⟩).memory := by
  rw [MakeChecks.laidMetH_plain _ _ _ (by kernel_rfl)]
  exact laidMet_laidAll _ (by kernel_rfl) (by kernel_rfl)
theorem reads (os : Os) {H : Type} (enc : TypeId × Value → H) : ∃ places, DataW.whole enc Tryd.prog ((World.laidAll Tryd.prog os Rows.tagTellsRow.laid).forCall (fun _ _ => 0) ⟨#[], #[.int .i64 0, .int .i64 0, .slice none 0 0, .int .i64 0, .int .i64 0], []⟩).memory Tryd.f3.params.toList Rows.tagTellsSpec.vars false (#[.int .i64 0, .int .i64 0, .slice none 0 0, .int .i64 0, .int .i64 0] : Array Value).toList 8 = some ([.lit (.int .i64 0), .lit (.int .i64 0), .nil, .lit (.int .i64 0), .lit (.int .i64 0)], [], places) := ⟨[], by kernel_rfl⟩
set_option maxRecDepth 100000 in
theorem lifted (os : Os) (started : os.Started) (H : Type) (enc : TypeId × Value → H) (F : Stop.Interp) :
    ReturnsInHanded {} Tryd.checked os 3 .any ((OpenSpec.ofChange Rows.tagTellsSpec).preRow enc Tryd.prog Tryd.f3 Rows.tagTellsRow.domain false Rows.tagTellsRow.laid) (((OpenSpec.ofChange Rows.tagTellsSpec).at F).post enc Tryd.prog Tryd.f3 false true false false) := by
  obtain ⟨places, hx⟩ := reads os enc
  refine returnsInHanded_of_row (C := Tryd.checked) (s := OpenSpec.ofChange Rows.tagTellsSpec) own started (by kernel_rfl) Tryd.func3
    (witness_row_at (enc := enc) (C := Tryd.checked) false (World.laidAll Tryd.prog os Rows.tagTellsRow.laid) #[.int .i64 0, .int .i64 0, .slice none 0 0, .int .i64 0, .int .i64 0] (World.laidAll_os _ _ _) (by kernel_rfl) (by kernel_rfl) (by kernel_rfl)
      (OpenSpec.preRow_of_cond 8 hx (by kernel_rfl) (fun k hk => by cases hk) (by kernel_rfl) (laid_met os))) ?_
  intro W base args ds gs before hval hW _ _ _ hL _ _
  exact contract H enc W base args ds gs before hval hW hL
theorem said : Rows.TagTellsSaid :=
  OpenClaim.holds_of_cond 3 Tryd.f3 rfl rfl rfl rfl rfl rfl rfl ⟨rfl, rfl, rfl, rfl, rfl⟩ rfl rfl rfl rfl rfl (by kernel_rfl) Tryd.func3 (by kernel_rfl)
    (of_decide_eq_true (by kernel_rfl)) (by unfold Func.isWrapper; first | (rw [if_pos (by decide +kernel)]; kernel_rfl) | (rw [if_neg (by decide +kernel)]; exact ⟨rfl, rfl⟩))
    (fun os started H enc _ F => by rw [OpenClaim.pre_eq_preRow]; exact lifted os started H enc F)
theorem plain (f : FuncId) (fn : Func) (hf : Tryd.pinned.checked.prog.funcNamed "truffle/trufflelaw03.TagTells" = some f) (hfn : Tryd.pinned.checked.prog.funcs[f]? = some fn) :
    false = Tryd.pinned.checked.prog.looks [] ∧ ∀ (j : Nat) t, fn.params[j]? = some t → Tryd.pinned.checked.prog.wantsStandIn t = false := by
  obtain rfl : f = 3 := Option.some.inj ((show Tryd.prog.funcNamed "truffle/trufflelaw03.TagTells" = some 3 by kernel_rfl).symm.trans hf) |>.symm
  obtain rfl : fn = Tryd.f3 := (Option.some.inj (Tryd.func3.symm.trans hfn)).symm
  refine ⟨by kernel_rfl, fun j t ht => ?_⟩
  have hall : (Tryd.f3.params.toList.all fun t => !Tryd.prog.wantsStandIn t) = true := by kernel_rfl
  have := List.all_eq_true.1 hall t (Array.mem_toList_iff.2 (Array.mem_of_getElem? ht))
  exact (show Tryd.prog.wantsStandIn t = false by simpa using this)
theorem proved : Rows.TagTellsCardSaid :=
  Claim7.holds_tied_plain_at .later [] _ _ _ _ said (fun _ h => by cases h) (by kernel_rfl) (fun _ h => by cases h) tagTells_row_tie rfl ⟨rfl, rfl⟩ (by kernel_rfl) rfl plain (by kernel_rfl)
end Go.Proofs.YtpejhogcplokfaaDoor.lawTagTells
