/-
  No two fields, or wire types, have the same bytes ahead; a greater number has no fewer: the statement TagOne, for every two numbers and two wire types.
-/
import Derived.Test.YtpejhogcplokfaaDoorTagLaid
namespace Go.Proofs.YtpejhogcplokfaaDoor.lawTagOne
open Go.ChangeShapes Go.WideShapes Go.ChangeAt Go.RowKit

/-- Numbers that are the same by 8 have as many bytes. -/
theorem vlong_room {n m : Nat} (h : n / 8 = m / 8) : vlong n = vlong m := by
  by_cases hn : n < 128
  · rw [vlong_small hn, vlong_small (by omega)]
  · rw [vlong_big hn, vlong_big (show ¬ m < 128 by omega), show n / 128 = m / 128 by omega]
theorem vput_inj {n m : Nat} (h : vput n = vput m) : n = m := by rw [← vnum_vput n, ← vnum_vput m, h]
theorem putL_iff {a w b x : Int} (h : putB a w = true) (k : putB b x = true) : putL a w = putL b x ↔ (a = b ∧ w = x) := by
  rw [putL_yes h, putL_yes k]
  constructor
  · intro e
    have e := vput_inj e
    have := putB_iff.1 h
    have := putB_iff.1 k
    unfold putN at e
    omega
  · rintro ⟨rfl, rfl⟩; rfl
theorem putL_mono {a w b x : Int} (h : putB a w = true) (k : putB b x = true) (hab : a ≤ b) : (putL a w).length ≤ (putL b x).length := by
  rw [putL_yes h, putL_yes k, vput_length, vput_length]
  have := putB_iff.1 h
  have := putB_iff.1 k
  by_cases he : a = b
  · subst he
    rw [vlong_room (show putN a w / 8 = putN a x / 8 by unfold putN; omega)]
    exact Nat.le_refl _
  · exact vlong_mono _ _ (by unfold putN; omega)
theorem putL_len (no wire : Int) : (putL no wire).length ≤ 10 := by
  by_cases h : putB no wire = true
  · have hl := putN_lt h
    rw [putL_yes h]; exact vput_len10 (by omega)
  · rw [putL_no (by simpa using h)]; simp

set_option maxRecDepth 1000000 in
set_option maxHeartbeats 1000000 in
theorem walk (w : World) (T : Wires w) (a : Int) (a1 : -9223372036854775808 ≤ a) (a2 : a ≤ 9223372036854775807) (b : Int) (b1 : -9223372036854775808 ≤ b) (b2 : b ≤ 9223372036854775807)
    (v : Int) (v1 : -9223372036854775808 ≤ v) (v2 : v ≤ 9223372036854775807) (x : Int) (x1 : -9223372036854775808 ≤ x) (x2 : x ≤ 9223372036854775807) :
    Calls Tryd.prog 6 #[.int .i64 a, .int .i64 b, .int .i64 v, .int .i64 x] w fun e w' => e = .returned (.bool true) ∧ Below w.heap.size w w' := by
  have hl1 := putL_len a v
  have hl2 := putL_len b x
  have H1 : Hid (putB a v = true → putB b x = true → decide (putL a v = putL b x) = (decide (a = b) && decide (v = x))) := Lib.hid (fun h k => by rw [Bool.eq_iff_iff]; simp [putL_iff h k])
  have H2 : Hid (putB a v = true → putB b x = true → a ≤ b → (putL a v).length ≤ (putL b x).length) := Lib.hid (fun h k => putL_mono h k)
  generalize hL : putL a v = L at *
  generalize hM : putL b x = M at *
  generalize hB : putB a v = B at *
  generalize hC : putB b x = C at *
  have HL := Lib.hid hL
  have HM := Lib.hid hM
  have HB := Lib.hid hB
  have HC := Lib.hid hC
  clear hL hM hB hC
  go_enter Tryd.func6, Tryd.ntmps6
  go_wp2_with fail
  refine (awake_any _ T).mono ?_
  rintro e w1 ⟨rfl, hb1⟩
  have T1 := T.on hb1
  go_wp2_with fail
  refine (tput_any a v a1 a2 v1 v2 _ T1).mono ?_
  rw [HL.out, HB.out]
  rintro e w2 ⟨A, c, rfl, hp, hb2⟩
  have T2 := T1.on hb2
  have hb2 := below_then hb1 hb2
  go_wp2_with fail
  refine (tput_any b x b1 b2 x1 x2 _ T2).mono ?_
  rw [HM.out, HC.out]
  rintro e w3 ⟨A', c', rfl, hq, hb3⟩
  have hp3 := hp.on hb3
  have hb3 := below_then hb2 hb3
  clear hp T T1 T2
  cases B
  · go_wp2
    go_ret
    exact ⟨rfl, hb3⟩
  · cases C
    · go_wp2
      go_ret
      exact ⟨rfl, hb3⟩
    · have h1 := H1.out rfl rfl
      have h2 := H2.out rfl rfl
      have K1 := Lib.hid h1
      have K2 : Hid (decide (b < a) = true ∨ (decide (b < a) = false ∧ decide (L.length ≤ M.length) = true)) := Lib.hid (by
        by_cases h : b < a
        · left; simpa using h
        · right; exact ⟨by simpa using h, by have := h2 (by omega); simp only [decide_eq_true_eq]; omega⟩)
      clear h1 h2
      go_wp2_with fail
      refine (bytes_any A A' c c' L M _ (by omega) (by omega) hp3 hq).mono ?_
      rintro e w4 ⟨rfl, hb4⟩
      rw [K1.out]
      have hab : (a == b) = decide (a = b) := by rw [Bool.eq_iff_iff]; simp
      have hvx : (v == x) = decide (v = x) := by rw [Bool.eq_iff_iff]; simp
      generalize decide (a = b) = p at *
      generalize decide (v = x) = q at *
      rcases K2.out with d1 | ⟨d1, d2⟩
      · cases p <;> cases q <;> (go_wp2; go_ret; exact ⟨by simp, below_then hb3 hb4⟩)
      · cases p <;> cases q <;> (go_wp2; go_ret; exact ⟨ret_bool (by simp [d2]), below_then hb3 hb4⟩)

theorem contract (H : Type) (enc : TypeId × Value → H) (W : World) (base : Nat) (args : Array Value) (ds gs : List (DataW H)) (before : List MemPlace)
    (hval0 : ∀ (j : Nat) t v, Tryd.f6.params[j]? = some t → args[j]? = some v → Value.okWide Tryd.prog W .any base t v)
    (hW : DataW.Whole enc Tryd.prog Tryd.f6.params.toList Rows.tagOneSpec.vars false W args.toList ds gs before) (hL : laidMetH Tryd.prog Rows.tagOneRow.laid W) :
    Calls Tryd.prog 6 args W fun e W2 => ∃ v, e = .returned v ∧ Rows.tagOneSpec.post enc Tryd.prog Tryd.f6 false true false false W args v W2 := by
  have hval : ∀ (j : Nat) t v, Tryd.f6.params[j]? = some t → args[j]? = some v → Value.okWide Tryd.prog W .any base t v := hval0
  have T := wires_of hL
  have hW2 := hW
  obtain ⟨p, q, hA0, hV, rfl, hfz, hnd⟩ := hW
  have hA : DataW.TrodAll enc Tryd.prog W 0 (fun _ => true) true Tryd.f6.params.toList args.toList ds p := hA0
  rw [Tryd.params6] at hA hval
  obtain ⟨v0, vs0, d0, ds0, p0, q0, hargs, rfl, rfl, h0, r0⟩ := trodAll_cons hA
  obtain ⟨v1, vs1, d1, ds1, p1, q1, rfl, rfl, rfl, h1, r1⟩ := trodAll_cons r0
  obtain ⟨v2, vs2, d2, ds2, p2, q2, rfl, rfl, rfl, h2, r2⟩ := trodAll_cons r1
  obtain ⟨v3, vs3, d3, ds3, p3, q3, rfl, rfl, rfl, h3, r3⟩ := trodAll_cons r2
  obtain ⟨rfl, rfl, rfl⟩ := trodAll_nil r3
  obtain rfl : args = #[v0, v1, v2, v3] := by cases args; simp_all
  obtain ⟨rfl, rfl⟩ := trodVars_none hV
  obtain ⟨i0, rfl, b0, c0⟩ := open_i64 (hval 0 3 v0 rfl rfl) h0
  obtain ⟨i1, rfl, b1, c1⟩ := open_i64 (hval 1 3 v1 rfl rfl) h1
  obtain ⟨i2, rfl, b2, c2⟩ := open_i64 (hval 2 3 v2 rfl rfl) h2
  obtain ⟨i3, rfl, b3, c3⟩ := open_i64 (hval 3 3 v3 rfl rfl) h3
  refine (walk W T i0 b0 c0 i1 b1 c1 i2 b2 c2 i3 b3 c3).mono fun e W2 ⟨he, hb⟩ => ?_
  subst he
  exact ⟨_, rfl, law_post (by kernel_rfl) rfl rfl (by decide +kernel) hW2 hb⟩
theorem laid_met (os : Os) : laidMetH Tryd.prog Rows.tagOneRow.laid ((World.laidAll Tryd.prog os Rows.tagOneRow.laid).forCall (fun _ _ => 0) ⟨#[], #[.int .i64 0, .int .i64 0, .int .i64 0, .int .i64 0], []⟩).memory := by
  rw [MakeChecks.laidMetH_plain _ _ _ (by kernel_rfl)]
  exact laidMet_laidAll _ (by kernel_rfl) (by kernel_rfl)
theorem reads (os : Os) {H : Type} (enc : TypeId × Value → H) : ∃ places, DataW.whole enc Tryd.prog ((World.laidAll Tryd.prog os Rows.tagOneRow.laid).forCall (fun _ _ => 0) ⟨#[], #[.int .i64 0, .int .i64 0, .int .i64 0, .int .i64 0], []⟩).memory Tryd.f6.params.toList Rows.tagOneSpec.vars false (#[.int .i64 0, .int .i64 0, .int .i64 0, .int .i64 0] : Array Value).toList 8 = some ([.lit (.int .i64 0), .lit (.int .i64 0), .lit (.int .i64 0), .lit (.int .i64 0)], [], places) := ⟨[], by kernel_rfl⟩
set_option maxRecDepth 100000 in
theorem lifted (os : Os) (started : os.Started) (H : Type) (enc : TypeId × Value → H) (F : Stop.Interp) :
    ReturnsInHanded {} Tryd.checked os 6 .any ((OpenSpec.ofChange Rows.tagOneSpec).preRow enc Tryd.prog Tryd.f6 Rows.tagOneRow.domain false Rows.tagOneRow.laid) (((OpenSpec.ofChange Rows.tagOneSpec).at F).post enc Tryd.prog Tryd.f6 false true false false) := by
  obtain ⟨places, hx⟩ := reads os enc
  refine returnsInHanded_of_row (C := Tryd.checked) (s := OpenSpec.ofChange Rows.tagOneSpec) own started (by kernel_rfl) Tryd.func6
    (witness_row_at (enc := enc) (C := Tryd.checked) false (World.laidAll Tryd.prog os Rows.tagOneRow.laid) #[.int .i64 0, .int .i64 0, .int .i64 0, .int .i64 0] (World.laidAll_os _ _ _) (by kernel_rfl) (by kernel_rfl) (by kernel_rfl)
      (OpenSpec.preRow_of_cond 8 hx (by kernel_rfl) (fun k hk => by cases hk) (by kernel_rfl) (laid_met os))) ?_
  intro W base args ds gs before hval hW _ _ _ hL _ _
  exact contract H enc W base args ds gs before hval hW hL
theorem said : Rows.TagOneSaid :=
  OpenClaim.holds_of_cond 6 Tryd.f6 rfl rfl rfl rfl rfl rfl rfl ⟨rfl, rfl, rfl, rfl, rfl⟩ rfl rfl rfl rfl rfl (by kernel_rfl) Tryd.func6 (by kernel_rfl)
    (of_decide_eq_true (by kernel_rfl)) (by unfold Func.isWrapper; first | (rw [if_pos (by decide +kernel)]; kernel_rfl) | (rw [if_neg (by decide +kernel)]; exact ⟨rfl, rfl⟩))
    (fun os started H enc _ F => by rw [OpenClaim.pre_eq_preRow]; exact lifted os started H enc F)
theorem plain (f : FuncId) (fn : Func) (hf : Tryd.pinned.checked.prog.funcNamed "truffle/trufflelaw03.TagOne" = some f) (hfn : Tryd.pinned.checked.prog.funcs[f]? = some fn) :
    false = Tryd.pinned.checked.prog.looks [] ∧ ∀ (j : Nat) t, fn.params[j]? = some t → Tryd.pinned.checked.prog.wantsStandIn t = false := by
  obtain rfl : f = 6 := Option.some.inj ((show Tryd.prog.funcNamed "truffle/trufflelaw03.TagOne" = some 6 by kernel_rfl).symm.trans hf) |>.symm
  obtain rfl : fn = Tryd.f6 := (Option.some.inj (Tryd.func6.symm.trans hfn)).symm
  refine ⟨by kernel_rfl, fun j t ht => ?_⟩
  have hall : (Tryd.f6.params.toList.all fun t => !Tryd.prog.wantsStandIn t) = true := by kernel_rfl
  have := List.all_eq_true.1 hall t (Array.mem_toList_iff.2 (Array.mem_of_getElem? ht))
  exact (show Tryd.prog.wantsStandIn t = false by simpa using this)
theorem proved : Rows.TagOneCardSaid :=
  Claim7.holds_tied_plain_at .later [] _ _ _ _ said (fun _ h => by cases h) (by kernel_rfl) (fun _ h => by cases h) tagOne_row_tie rfl ⟨rfl, rfl⟩ (by kernel_rfl) rfl plain (by kernel_rfl)
end Go.Proofs.YtpejhogcplokfaaDoor.lawTagOne
