/-
  Of what stands ahead of a field nothing is told while its last byte is missing, but that it is cut off: the statement TagCut, for every number, wire type and count of bytes left.
-/
import Derived.Test.YtpejhogcplokfaaDoorTagLaid
namespace Go.Proofs.YtpejhogcplokfaaDoor.lawTagCut
open Go.ChangeShapes Go.WideShapes Go.ChangeAt Go.RowKit

theorem get_less {n : Nat} (hn : n < 18446744073709551616) (k : Nat) (hk : k < (vput n).length) : getR (vput n) 0 k = (0, 0, 6) := by
  have hm : mayB 0 (k : Int) (vput n).length = true := by rw [mayB_true]; omega
  have h10 := vput_len10 hn
  have hl : ((vput n).take k).length = k := by rw [List.length_take]; omega
  unfold getR getS
  rw [if_pos hm]
  simp only [Int.toNat_natCast, Int.toNat_zero, List.drop_zero, Nat.sub_zero]
  rw [vget_cut (l := (vput n).take k) (by omega) (fun j hj => by rw [take_get (by omega)]; exact vput_cont n j (by omega))]
  rfl
theorem tget_less {no wire : Int} (h : putB no wire = true) {i : Int} (h0 : 0 ≤ i) (hi : i < ((putL no wire).length : Int)) : tgetR (putL no wire) 0 i = (0, 0, 0, 6) := by
  obtain ⟨k, rfl⟩ := Int.eq_ofNat_of_zero_le h0
  have hl := putN_lt h
  rw [putL_yes h] at hi ⊢
  unfold tgetR
  rw [get_less (by omega) k (by omega)]
  rfl
theorem putL_len (no wire : Int) : (putL no wire).length ≤ 10 := by
  by_cases h : putB no wire = true
  · have hl := putN_lt h
    rw [putL_yes h]; exact vput_len10 (by omega)
  · rw [putL_no (by simpa using h)]; simp

set_option maxRecDepth 1000000 in
theorem walk (w : World) (T : Wires w) (no : Int) (n1 : -9223372036854775808 ≤ no) (n2 : no ≤ 9223372036854775807) (wire : Int) (w1' : -9223372036854775808 ≤ wire) (w2' : wire ≤ 9223372036854775807)
    (i : Int) (i1 : -9223372036854775808 ≤ i) (i2 : i ≤ 9223372036854775807) :
    Calls Tryd.prog 7 #[.int .i64 no, .int .i64 wire, .int .i64 i] w fun e w' => e = .returned (.bool true) ∧ Below w.heap.size w w' := by
  have hlen := putL_len no wire
  have H6 : Hid (putB no wire = true → 0 ≤ i → i < ((putL no wire).length : Int) → tgetR (putL no wire) 0 i = (0, 0, 0, 6)) := Lib.hid (fun a b c => tget_less a b c)
  generalize hL : putL no wire = L at *
  generalize hB : putB no wire = B at *
  have HL := Lib.hid hL
  have HB := Lib.hid hB
  clear hL hB
  go_enter Tryd.func7, Tryd.ntmps7
  go_wp2_with fail
  refine (awake_any _ T).mono ?_
  rintro e w1 ⟨rfl, hb1⟩
  have T1 := T.on hb1
  go_wp2_with fail
  refine (tput_any no wire n1 n2 w1' w2' _ T1).mono ?_
  rintro e w2 ⟨A, c, rfl, hr, hb2⟩
  rw [HL.out] at hr ⊢
  rw [HB.out]
  have hb3 := below_then hb1 hb2
  have T2 := T1.on hb2
  by_cases hyes : B = true ∧ 0 ≤ i ∧ i < (L.length : Int)
  · obtain ⟨rfl, h1, h2⟩ := hyes
    have b1 : decide (i < 0) = false := by simp; omega
    have b2 : decide ((L.length : Int) ≤ i) = false := by simp; omega
    have h6 := Lib.hid (H6.out rfl h1 h2)
    clear h1 h2
    go_wp2_with fail
    refine (tget_any A c L 0 i (by omega) _ hr T2).mono ?_
    rintro e w3 ⟨rfl, hb4⟩
    rw [h6.out]
    unfold V4
    go_wp2
    go_ret
    exact ⟨rfl, below_then hb3 hb4⟩
  · go_wp2
    all_goals first
      | (go_ret; exact ⟨rfl, hb3⟩)
      | (exfalso; simp_all; done)
      | (exfalso; simp_all; omega)

theorem contract (H : Type) (enc : TypeId × Value → H) (W : World) (base : Nat) (args : Array Value) (ds gs : List (DataW H)) (before : List MemPlace)
    (hval0 : ∀ (j : Nat) t v, Tryd.f7.params[j]? = some t → args[j]? = some v → Value.okWide Tryd.prog W .any base t v)
    (hW : DataW.Whole enc Tryd.prog Tryd.f7.params.toList Rows.tagCutSpec.vars false W args.toList ds gs before) (hL : laidMetH Tryd.prog Rows.tagCutRow.laid W) :
    Calls Tryd.prog 7 args W fun e W2 => ∃ v, e = .returned v ∧ Rows.tagCutSpec.post enc Tryd.prog Tryd.f7 false true false false W args v W2 := by
  have hval : ∀ (j : Nat) t v, Tryd.f7.params[j]? = some t → args[j]? = some v → Value.okWide Tryd.prog W .any base t v := hval0
  have T := wires_of hL
  have hW2 := hW
  obtain ⟨p, q, hA0, hV, rfl, hfz, hnd⟩ := hW
  have hA : DataW.TrodAll enc Tryd.prog W 0 (fun _ => true) true Tryd.f7.params.toList args.toList ds p := hA0
  rw [Tryd.params7] at hA hval
  obtain ⟨v0, vs0, d0, ds0, p0, q0, hargs, rfl, rfl, h0, r0⟩ := trodAll_cons hA
  obtain ⟨v1, vs1, d1, ds1, p1, q1, rfl, rfl, rfl, h1, r1⟩ := trodAll_cons r0
  obtain ⟨v2, vs2, d2, ds2, p2, q2, rfl, rfl, rfl, h2, r2⟩ := trodAll_cons r1
  obtain ⟨rfl, rfl, rfl⟩ := trodAll_nil r2
  obtain rfl : args = #[v0, v1, v2] := by cases args; simp_all
  obtain ⟨rfl, rfl⟩ := trodVars_none hV
  obtain ⟨i0, rfl, b0, c0⟩ := open_i64 (hval 0 3 v0 rfl rfl) h0
  obtain ⟨i1, rfl, b1, c1⟩ := open_i64 (hval 1 3 v1 rfl rfl) h1
  obtain ⟨i2, rfl, b2, c2⟩ := open_i64 (hval 2 3 v2 rfl rfl) h2
  refine (walk W T i0 b0 c0 i1 b1 c1 i2 b2 c2).mono fun e W2 ⟨he, hb⟩ => ?_
  subst he
  exact ⟨_, rfl, law_post (by kernel_rfl) rfl rfl (by decide +kernel) hW2 hb⟩
theorem laid_met (os : Os) : laidMetH Tryd.prog Rows.tagCutRow.laid ((World.laidAll Tryd.prog os Rows.tagCutRow.laid).forCall (fun _ _ => 0) ⟨#[], #[.int .i64 0, .int .i64 0, .int .i64 0], []⟩).memory := by
  rw [MakeChecks.laidMetH_plain _ _ _ (by kernel_rfl)]
  exact laidMet_laidAll _ (by kernel_rfl) (by kernel_rfl)
theorem reads (os : Os) {H : Type} (enc : TypeId × Value → H) : ∃ places, DataW.whole enc Tryd.prog ((World.laidAll Tryd.prog os Rows.tagCutRow.laid).forCall (fun _ _ => 0) ⟨#[], #[.int .i64 0, .int .i64 0, .int .i64 0], []⟩).memory Tryd.f7.params.toList Rows.tagCutSpec.vars false (#[.int .i64 0, .int .i64 0, .int .i64 0] : Array Value).toList 8 = some ([.lit (.int .i64 0), .lit (.int .i64 0), .lit (.int .i64 0)], [], places) := ⟨[], by kernel_rfl⟩
set_option maxRecDepth 100000 in
theorem lifted (os : Os) (started : os.Started) (H : Type) (enc : TypeId × Value → H) (F : Stop.Interp) :
    ReturnsInHanded {} Tryd.checked os 7 .any ((OpenSpec.ofChange Rows.tagCutSpec).preRow enc Tryd.prog Tryd.f7 Rows.tagCutRow.domain false Rows.tagCutRow.laid) (((OpenSpec.ofChange Rows.tagCutSpec).at F).post enc Tryd.prog Tryd.f7 false true false false) := by
  obtain ⟨places, hx⟩ := reads os enc
  refine returnsInHanded_of_row (C := Tryd.checked) (s := OpenSpec.ofChange Rows.tagCutSpec) own started (by kernel_rfl) Tryd.func7
    (witness_row_at (enc := enc) (C := Tryd.checked) false (World.laidAll Tryd.prog os Rows.tagCutRow.laid) #[.int .i64 0, .int .i64 0, .int .i64 0] (World.laidAll_os _ _ _) (by kernel_rfl) (by kernel_rfl) (by kernel_rfl)
      (OpenSpec.preRow_of_cond 8 hx (by kernel_rfl) (fun k hk => by cases hk) (by kernel_rfl) (laid_met os))) ?_
  intro W base args ds gs before hval hW _ _ _ hL _ _
  exact contract H enc W base args ds gs before hval hW hL
theorem said : Rows.TagCutSaid :=
  OpenClaim.holds_of_cond 7 Tryd.f7 rfl rfl rfl rfl rfl rfl rfl ⟨rfl, rfl, rfl, rfl, rfl⟩ rfl rfl rfl rfl rfl (by kernel_rfl) Tryd.func7 (by kernel_rfl)
    (of_decide_eq_true (by kernel_rfl)) (by unfold Func.isWrapper; first | (rw [if_pos (by decide +kernel)]; kernel_rfl) | (rw [if_neg (by decide +kernel)]; exact ⟨rfl, rfl⟩))
    (fun os started H enc _ F => by rw [OpenClaim.pre_eq_preRow]; exact lifted os started H enc F)
theorem plain (f : FuncId) (fn : Func) (hf : Tryd.pinned.checked.prog.funcNamed "truffle/trufflelaw03.TagCut" = some f) (hfn : Tryd.pinned.checked.prog.funcs[f]? = some fn) :
    false = Tryd.pinned.checked.prog.looks [] ∧ ∀ (j : Nat) t, fn.params[j]? = some t → Tryd.pinned.checked.prog.wantsStandIn t = false := by
  obtain rfl : f = 7 := Option.some.inj ((show Tryd.prog.funcNamed "truffle/trufflelaw03.TagCut" = some 7 by kernel_rfl).symm.trans hf) |>.symm
  obtain rfl : fn = Tryd.f7 := (Option.some.inj (Tryd.func7.symm.trans hfn)).symm
  refine ⟨by kernel_rfl, fun j t ht => ?_⟩
  have hall : (Tryd.f7.params.toList.all fun t => !Tryd.prog.wantsStandIn t) = true := by kernel_rfl
  have := List.all_eq_true.1 hall t (Array.mem_toList_iff.2 (Array.mem_of_getElem? ht))
  exact (show Tryd.prog.wantsStandIn t = false by simpa using this)
theorem proved : Rows.TagCutCardSaid :=
  Claim7.holds_tied_plain_at .later [] _ _ _ _ said (fun _ h => by cases h) (by kernel_rfl) (fun _ h => by cases h) tagCut_row_tie rfl ⟨rfl, rfl⟩ (by kernel_rfl) rfl plain (by kernel_rfl)
end Go.Proofs.YtpejhogcplokfaaDoor.lawTagCut
