/-
  What is quoted is one token, that means it; so is a number's text; one behind the other they are both: the statement TokenBack, for every text and number.
-/
import Derived.Test.YtongjbgmmemajaaDoorTokAwake
import Derived.Test.YtongjbgmmemajaaDoorTokFacts
namespace Go.Proofs.YtongjbgmmemajaaDoor.lawTokenBack
open Go.ChangeShapes Go.WideShapes Go.ChangeAt Go.RowKit

theorem itoa_len {n : Int} (h0 : -9223372036854775808 ≤ n) (h1 : n ≤ 9223372036854775807) : (Lib.itoa n).length ≤ 20 := by
  have h3 := nDigits_le 18 n.natAbs (by have : (10 : Nat) ^ (18 + 1) = 10000000000000000000 := by decide
                                        omega)
  by_cases h : n < 0
  · rw [itoa_neg n h, List.length_cons, Lib.decDigits_length]; omega
  · rw [itoa_nonneg n (by omega), Lib.decDigits_length, show n.toNat = n.natAbs by omega]; omega
theorem all_back (s : List UInt8) (hs : s.length ≤ 1000) (n : Int) (h0 : -9223372036854775808 ≤ n) (h1 : n ≤ 9223372036854775807) :
    allT Lib.itoa (quote s ++ Lib.itoa n) = [⟨2, s, 0, 0⟩, ⟨1, Lib.itoa n, n, (quote s).length⟩] ∧ allE Lib.itoa (quote s ++ Lib.itoa n) = 0 := by
  have h := lex_back s n h0 h1
  have hq := quote_len s
  have hi := itoa_len h0 h1
  have hl : ¬ 5000 < (quote s ++ Lib.itoa n).length := by rw [List.length_append]; omega
  simp only [allT, allE, h, hl, if_false, ansT, ansE]
  exact ⟨rfl, rfl⟩

set_option maxRecDepth 1000000 in
set_option maxHeartbeats 1000000 in
theorem walk (w : World) (LV : Laid w) (s : ByteArray) (hs0 : s.size ≤ maxLen) (n : Int) (n0 : -9223372036854775808 ≤ n) (n1 : n ≤ 9223372036854775807) :
    Calls Tryd.prog 4 #[.string s, .int .i64 n] w fun e w' => e = .returned (.bool true) ∧ Below w.heap.size w w' := by
  by_cases h1 : 1000 < s.size
  · have d1 : decide ((1000 : Int) < (s.size : Int)) = true := by rw [decide_eq_true_eq]; omega
    go_enter Tryd.func4, Tryd.ntmps4
    go_wp2_with fail
    refine (awake_any _ LV).mono ?_
    rintro e w1 ⟨rfl, hb1⟩
    go_wp2
    go_ret
    exact ⟨rfl, hb1⟩
  · have d1 : decide ((1000 : Int) < (s.size : Int)) = false := by rw [decide_eq_false_iff_not]; omega
    have hsl : s.data.toList.length = s.size := by simp
    have hq := fun w => quote_any s (by omega) w
    have hdn := fun w L => digits_any n n0 n1 w L
    have hQs : (txt (quote s.data.toList)).size ≤ 5000 := by
      have := quote_len s.data.toList
      rw [txt_size]; omega
    have hDs : (txt (Lib.itoa n)).size ≤ 20 := by rw [txt_size]; exact itoa_len n0 n1
    have hQl : (txt (quote s.data.toList)).size = (quote s.data.toList).length := txt_size _
    obtain ⟨b1, b2⟩ := all_back s.data.toList (by omega) n n0 n1
    have hXd : (txt (quote s.data.toList) ++ txt (Lib.itoa n)).data.toList = quote s.data.toList ++ Lib.itoa n := by rw [txt_app, txt_list]
    have hall := fun w L => all_any (txt (quote s.data.toList) ++ txt (Lib.itoa n)) (by rw [txt_app, txt_size, List.length_append]; rw [txt_size] at hQs hDs; omega) w L
    rw [hXd, b1, b2] at hall
    have hst : txt s.data.toList = s := txt_of s
    have hrow : ∀ (w : World) (base : Nat) (v : Value), w.ownsRow base 32 4 v 2 (tv [⟨2, s.data.toList, 0, 0⟩, ⟨1, Lib.itoa n, n, (quote s.data.toList).length⟩]) → ∃ g cap, v = .slice (some ⟨g, 0, none⟩) 2 cap ∧
        w.cell? ⟨g, 0, none⟩ = some (.int .i64 2) ∧ w.cell? ⟨g, 1, none⟩ = some (.string s) ∧ w.cell? ⟨g, 2, none⟩ = some (.int .i64 0) ∧ w.cell? ⟨g, 3, none⟩ = some (.int .i64 0) ∧
        w.cell? ⟨g, 4, none⟩ = some (.int .i64 1) ∧ w.cell? ⟨g, 5, none⟩ = some (.string (txt (Lib.itoa n))) ∧ w.cell? ⟨g, 6, none⟩ = some (.int .i64 n) ∧ w.cell? ⟨g, 7, none⟩ = some (.int .i64 ((txt (quote s.data.toList)).size : Int)) := by
      intro w base v h
      obtain ⟨g, cap, rfl, _⟩ := own_slice h (by decide) (by decide)
      refine ⟨g, cap, rfl, h.cellAt 0 (by omega), (h.cellAt 1 (by omega)).trans (by rw [← hst]; rw [hst]; simp [tv, TC, hst]), h.cellAt 2 (by omega), h.cellAt 3 (by omega), h.cellAt 4 (by omega), h.cellAt 5 (by omega), h.cellAt 6 (by omega), (h.cellAt 7 (by omega)).trans (by rw [hQl]; rfl)⟩
    have hTl : ([⟨2, s.data.toList, 0, 0⟩, ⟨1, Lib.itoa n, n, (quote s.data.toList).length⟩] : List T).length = 2 := rfl
    generalize allAt Lib.itoa (quote s.data.toList ++ Lib.itoa n) = P at *
    generalize ([⟨2, s.data.toList, 0, 0⟩, ⟨1, Lib.itoa n, n, (quote s.data.toList).length⟩] : List T) = TT at *
    generalize txt (quote s.data.toList) = Q at *
    generalize txt (Lib.itoa n) = D at *
    have HQ := Lib.hid hq
    have HD := Lib.hid hdn
    have HA := Lib.hid hall
    have HRW := Lib.hid hrow
    have HTL := Lib.hid hTl
    clear hq hdn hall hrow hTl b1 b2 hXd hst hQl hsl
    go_enter Tryd.func4, Tryd.ntmps4
    go_wp2_with fail
    refine (awake_any _ LV).mono ?_
    rintro e w1 ⟨rfl, hb1⟩
    go_wp2_with fail
    refine (HQ.out _).mono ?_
    rintro e w2 ⟨rfl, hb2⟩
    have hb3 := below_then hb1 hb2
    go_wp2_with fail
    refine (HD.out _ (LV.on hb3)).mono ?_
    rintro e w3 ⟨rfl, hb4⟩
    have hb5 := below_then hb3 hb4
    go_wp2_with fail
    refine (HA.out _ (LV.on hb5)).mono ?_
    rintro e w4 ⟨v, rfl, hown, hb6⟩
    have hb7 := below_then hb5 hb6
    rw [HTL.out] at hown
    obtain ⟨g, cap, rfl, c0, c1, c2, c3, c4, c5, c6, c7⟩ := HRW.out _ _ _ hown
    clear hown
    go_wp2
    go_ret
    exact ⟨rfl, hb7⟩

theorem contract (H : Type) (enc : TypeId × Value → H) (W : World) (base : Nat) (args : Array Value) (ds gs : List (DataW H)) (before : List MemPlace)
    (hval0 : ∀ (j : Nat) t v, Tryd.f4.params[j]? = some t → args[j]? = some v → Value.okWide Tryd.prog W .any base t v)
    (hW : DataW.Whole enc Tryd.prog Tryd.f4.params.toList Rows.tokenBackSpec.vars false W args.toList ds gs before) (hsz : (DataW.weightsEach Tryd.prog (Tryd.f4.params.toList ++ (OpenSpec.ofChange Rows.tokenBackSpec).bare.plain.varTypes Tryd.prog) (ds ++ gs)).all (· ≤ reachBytes) = true) (hL : laidMetH Tryd.prog Rows.tokenBackRow.laid W) :
    Calls Tryd.prog 4 args W fun e W2 => ∃ v, e = .returned v ∧ Rows.tokenBackSpec.post enc Tryd.prog Tryd.f4 false true false false W args v W2 := by
  have hval : ∀ (j : Nat) t v, Tryd.f4.params[j]? = some t → args[j]? = some v → Value.okWide Tryd.prog W .any base t v := hval0
  have T := laid_of hL
  have hW2 := hW
  obtain ⟨p, q, hA0, hV, rfl, hfz, hnd⟩ := hW
  have hA : DataW.TrodAll enc Tryd.prog W 0 (fun _ => true) true Tryd.f4.params.toList args.toList ds p := hA0
  rw [Tryd.params4] at hA hval
  obtain ⟨v0, vs0, d0, ds0, p0, q0, hargs, rfl, rfl, h0, r0⟩ := trodAll_cons hA
  obtain ⟨v1, vs1, d1, ds1, p1, q1, rfl, rfl, rfl, h1, r1⟩ := trodAll_cons r0
  obtain ⟨rfl, rfl, rfl⟩ := trodAll_nil r1
  obtain rfl : args = #[v0, v1] := by cases args; simp_all
  obtain ⟨rfl, rfl⟩ := trodVars_none hV
  obtain ⟨s0, rfl, rfl, rfl, b0⟩ := Go.ChangeMaps.open_string Tryd.underlying9 (hval 0 9 v0 rfl rfl) h0
  obtain ⟨i1, rfl, b1, c1⟩ := open_s64 (hval 1 2 v1 rfl rfl) h1
  refine (walk W T s0 b0 i1 b1 c1).mono fun e W2 ⟨he, hb⟩ => ?_
  subst he
  exact ⟨_, rfl, law_post (by kernel_rfl) rfl rfl (by decide +kernel) hW2 hb⟩
theorem laid_met (os : Os) : laidMetH Tryd.prog Rows.tokenBackRow.laid ((World.laidAll Tryd.prog os Rows.tokenBackRow.laid).forCall (fun _ _ => 0) ⟨#[], #[.string .empty, .int .i64 0], []⟩).memory := by
  rw [MakeChecks.laidMetH_plain _ _ _ (by kernel_rfl)]
  exact laidMet_laidAll _ (by kernel_rfl) (by kernel_rfl)
theorem reads (os : Os) {H : Type} (enc : TypeId × Value → H) : ∃ places, DataW.whole enc Tryd.prog ((World.laidAll Tryd.prog os Rows.tokenBackRow.laid).forCall (fun _ _ => 0) ⟨#[], #[.string .empty, .int .i64 0], []⟩).memory Tryd.f4.params.toList Rows.tokenBackSpec.vars false (#[.string .empty, .int .i64 0] : Array Value).toList 8 = some ([.lit (.string []), .lit (.int .i64 0)], [], places) := ⟨[], by kernel_rfl⟩
set_option maxRecDepth 100000 in
theorem lifted (os : Os) (started : os.Started) (H : Type) (enc : TypeId × Value → H) (F : Stop.Interp) :
    ReturnsInHanded {} Tryd.checked os 4 .any ((OpenSpec.ofChange Rows.tokenBackSpec).preRow enc Tryd.prog Tryd.f4 Rows.tokenBackRow.domain false Rows.tokenBackRow.laid) (((OpenSpec.ofChange Rows.tokenBackSpec).at F).post enc Tryd.prog Tryd.f4 false true false false) := by
  obtain ⟨places, hx⟩ := reads os enc
  refine returnsInHanded_of_row (C := Tryd.checked) (s := OpenSpec.ofChange Rows.tokenBackSpec) own started (by kernel_rfl) Tryd.func4
    (witness_row_at (enc := enc) (C := Tryd.checked) false (World.laidAll Tryd.prog os Rows.tokenBackRow.laid) #[.string .empty, .int .i64 0] (World.laidAll_os _ _ _) (by kernel_rfl) (by kernel_rfl) (by kernel_rfl)
      (OpenSpec.preRow_of_cond 8 hx (by kernel_rfl) (fun k hk => by cases hk) (by kernel_rfl) (laid_met os))) ?_
  intro W base args ds gs before hval hW _ _ hsz hL _ _
  exact contract H enc W base args ds gs before hval hW hsz hL
theorem said : Rows.TokenBackSaid :=
  OpenClaim.holds_of_cond 4 Tryd.f4 rfl rfl rfl rfl rfl rfl rfl ⟨rfl, rfl, rfl, rfl, rfl⟩ rfl rfl rfl rfl rfl (by kernel_rfl) Tryd.func4 (by kernel_rfl)
    (of_decide_eq_true (by kernel_rfl)) (by unfold Func.isWrapper; first | (rw [if_pos (by decide +kernel)]; kernel_rfl) | (rw [if_neg (by decide +kernel)]; exact ⟨rfl, rfl⟩))
    (fun os started H enc _ F => by rw [OpenClaim.pre_eq_preRow]; exact lifted os started H enc F)
theorem plain (f : FuncId) (fn : Func) (hf : Tryd.pinned.checked.prog.funcNamed "truffle/trufflelaw06.TokenBack" = some f) (hfn : Tryd.pinned.checked.prog.funcs[f]? = some fn) :
    true = Tryd.pinned.checked.prog.looks [] ∧ ∀ (j : Nat) t, fn.params[j]? = some t → Tryd.pinned.checked.prog.wantsStandIn t = false := by
  obtain rfl : f = 4 := Option.some.inj ((show Tryd.prog.funcNamed "truffle/trufflelaw06.TokenBack" = some 4 by kernel_rfl).symm.trans hf) |>.symm
  obtain rfl : fn = Tryd.f4 := (Option.some.inj (Tryd.func4.symm.trans hfn)).symm
  refine ⟨by kernel_rfl, fun j t ht => ?_⟩
  have hall : (Tryd.f4.params.toList.all fun t => !Tryd.prog.wantsStandIn t) = true := by kernel_rfl
  have := List.all_eq_true.1 hall t (Array.mem_toList_iff.2 (Array.mem_of_getElem? ht))
  exact (show Tryd.prog.wantsStandIn t = false by simpa using this)
theorem proved : Rows.TokenBackCardSaid :=
  Claim7.holds_tied_plain_at .later [] _ _ _ _ said (fun _ h => by cases h) (by kernel_rfl) (fun _ h => by cases h) tokenBack_row_tie rfl ⟨rfl, rfl⟩ (by kernel_rfl) rfl plain (by kernel_rfl)
end Go.Proofs.YtongjbgmmemajaaDoor.lawTokenBack
