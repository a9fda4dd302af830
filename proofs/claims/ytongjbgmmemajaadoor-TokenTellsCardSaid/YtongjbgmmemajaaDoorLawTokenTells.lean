/-
  Any text is the tokens, or has the error, at the place, and any string, and number, has the text, that the document says: the statement TokenTells, for every text and number.
-/
import Derived.Test.YtongjbgmmemajaaDoorTokAwake
import Derived.Test.YtongjbgmmemajaaDoorTokRquote
namespace Go.Proofs.YtongjbgmmemajaaDoor.lawTokenTells
open Go.ChangeShapes Go.WideShapes Go.ChangeAt Go.RowKit

set_option maxRecDepth 1000000 in
theorem walk (w : World) (LV : Laid w) (s : ByteArray) (hs0 : s.size ≤ maxLen) (n : Int) (n0 : -9223372036854775808 ≤ n) (n1 : n ≤ 9223372036854775807) :
    Calls Tryd.prog 3 #[.string s, .int .i64 n] w fun e w' => e = .returned (.bool true) ∧ Below w.heap.size w w' := by
  by_cases h6 : 6000 < s.size
  · have d6 : decide ((6000 : Int) < (s.size : Int)) = true := by rw [decide_eq_true_eq]; omega
    go_enter Tryd.func3, Tryd.ntmps3
    go_wp2_with fail
    refine (awake_any _ LV).mono ?_
    rintro e w1 ⟨rfl, hb1⟩
    go_wp2
    go_ret
    exact ⟨rfl, hb1⟩
  · have d6 : decide ((6000 : Int) < (s.size : Int)) = false := by rw [decide_eq_false_iff_not]; omega
    have hall := fun w L => all_any s (by omega) w L
    have hrall := fun w => rall_any s (by omega) w
    have hq := fun w => quote_any s (by omega) w
    have hrq := fun w => rquote_any s (by omega) w
    have hlc : (allT Lib.itoa s.data.toList).length ≤ 1000000000 := by
      unfold allT
      split
      · simp
      · have hl := lex_count (it := Lib.itoa) s.data.toList 0 0
        have hsl : s.data.toList.length = s.size := by simp
        unfold ansT
        split
        · simp
        · split
          · simp
          · omega
    have hqs : (txt (quote s.data.toList)).size ≤ 1000000 := by
      have := quote_len s.data.toList
      have hsl : s.data.toList.length = s.size := by simp
      rw [txt_size]; omega
    generalize allT Lib.itoa s.data.toList = X1 at *
    generalize allAt Lib.itoa s.data.toList = X2 at *
    generalize allE Lib.itoa s.data.toList = X3 at *
    generalize txt (quote s.data.toList) = Q at *
    have hd := fun w L => digits_any n n0 n1 w L
    have hrd := fun w => rdig_any n n0 n1 w
    generalize txt (Lib.itoa n) = D at *
    have HA := Lib.hid hall
    have HR := Lib.hid hrall
    have HQ := Lib.hid hq
    have HRQ := Lib.hid hrq
    have HD := Lib.hid hd
    have HRD := Lib.hid hrd
    clear hall hrall hq hrq hd hrd
    go_enter Tryd.func3, Tryd.ntmps3
    go_wp2_with fail
    refine (awake_any _ LV).mono ?_
    rintro e w1 ⟨rfl, hb1⟩
    go_wp2_with fail
    refine (HA.out _ (LV.on hb1)).mono ?_
    rintro e w2 ⟨v, rfl, hown, hb2⟩
    obtain ⟨A, c, rfl, hr⟩ := SlT.of_own hown
    have hb3 := below_then hb1 hb2
    go_wp2_with fail
    refine (HR.out _).mono ?_
    rintro e w3 ⟨v, rfl, hown3, hb4⟩
    obtain ⟨A', c', rfl, hr'⟩ := SlT.of_own hown3
    have hr := hr.on hb4
    have hb5 := below_then hb3 hb4
    go_wp2_with fail
    refine (same_any A A' c c' X1 X1 _ hlc hlc hr hr').mono ?_
    rw [show decide (X1 = X1) = true by simp]
    rintro e w4 ⟨rfl, hb6⟩
    have hb7 := below_then hb5 hb6
    clear hown hown3 hr hr'
    go_wp2_with fail
    refine (HQ.out _).mono ?_
    rintro e w5 ⟨rfl, hb8⟩
    have hb9 := below_then hb7 hb8
    go_wp2_with fail
    refine (HRQ.out _).mono ?_
    rintro e w6 ⟨rfl, hb10⟩
    have hb11 := below_then hb9 hb10
    go_wp2_with fail
    refine (HD.out _ (LV.on hb11)).mono ?_
    rintro e w7 ⟨rfl, hb12⟩
    have hb13 := below_then hb11 hb12
    go_wp2_with fail
    refine (HRD.out _).mono ?_
    rintro e w8 ⟨rfl, hb14⟩
    have hb15 := below_then hb13 hb14
    go_wp2
    go_ret
    exact ⟨rfl, hb15⟩

theorem contract (H : Type) (enc : TypeId × Value → H) (W : World) (base : Nat) (args : Array Value) (ds gs : List (DataW H)) (before : List MemPlace)
    (hval0 : ∀ (j : Nat) t v, Tryd.f3.params[j]? = some t → args[j]? = some v → Value.okWide Tryd.prog W .any base t v)
    (hW : DataW.Whole enc Tryd.prog Tryd.f3.params.toList Rows.tokenTellsSpec.vars false W args.toList ds gs before) (hsz : (DataW.weightsEach Tryd.prog (Tryd.f3.params.toList ++ (OpenSpec.ofChange Rows.tokenTellsSpec).bare.plain.varTypes Tryd.prog) (ds ++ gs)).all (· ≤ reachBytes) = true) (hL : laidMetH Tryd.prog Rows.tokenTellsRow.laid W) :
    Calls Tryd.prog 3 args W fun e W2 => ∃ v, e = .returned v ∧ Rows.tokenTellsSpec.post enc Tryd.prog Tryd.f3 false true false false W args v W2 := by
  have hval : ∀ (j : Nat) t v, Tryd.f3.params[j]? = some t → args[j]? = some v → Value.okWide Tryd.prog W .any base t v := hval0
  have T := laid_of hL
  have hW2 := hW
  obtain ⟨p, q, hA0, hV, rfl, hfz, hnd⟩ := hW
  have hA : DataW.TrodAll enc Tryd.prog W 0 (fun _ => true) true Tryd.f3.params.toList args.toList ds p := hA0
  rw [Tryd.params3] at hA hval
  obtain ⟨v0, vs0, d0, ds0, p0, q0, hargs, rfl, rfl, h0, r0⟩ := trodAll_cons hA
  obtain ⟨v1, vs1, d1, ds1, p1, q1, rfl, rfl, rfl, h1, r1⟩ := trodAll_cons r0
  obtain ⟨rfl, rfl, rfl⟩ := trodAll_nil r1
  obtain rfl : args = #[v0, v1] := by cases args; simp_all
  obtain ⟨rfl, rfl⟩ := trodVars_none hV
  obtain ⟨s0, rfl, rfl, rfl, b0⟩ := Go.ChangeMaps.open_string Tryd.underlying9 (hval 0 9 v0 rfl rfl) h0
  obtain ⟨i1, rfl, b1, c1⟩ := open_s64 (hval 1 2 v1 rfl rfl) h1
  refine (walk W T s0 b0 i1 b1 c1).mono fun e W2 ⟨he, hb⟩ => ?_
  subst he
  exact ⟨_, rfl, law_post (by kernel_rfl) rfl rfl (by decide +kernel) hW2 hb⟩
theorem laid_met (os : Os) : laidMetH Tryd.prog Rows.tokenTellsRow.laid ((World.laidAll Tryd.prog os Rows.tokenTellsRow.laid).forCall (fun _ _ => 0) ⟨#[], #[.string .empty, .int .i64 0], []⟩).memory := by
  rw [MakeChecks.laidMetH_plain _ _ _ (by kernel_rfl)]
  exact laidMet_laidAll _ (by kernel_rfl) (by kernel_rfl)
theorem reads (os : Os) {H : Type} (enc : TypeId × Value → H) : ∃ places, DataW.whole enc Tryd.prog ((World.laidAll Tryd.prog os Rows.tokenTellsRow.laid).forCall (fun _ _ => 0) ⟨#[], #[.string .empty, .int .i64 0], []⟩).memory Tryd.f3.params.toList Rows.tokenTellsSpec.vars false (#[.string .empty, .int .i64 0] : Array Value).toList 8 = some ([.lit (.string []), .lit (.int .i64 0)], [], places) := ⟨[], by kernel_rfl⟩
set_option maxRecDepth 100000 in
theorem lifted (os : Os) (started : os.Started) (H : Type) (enc : TypeId × Value → H) (F : Stop.Interp) :
    ReturnsInHanded {} Tryd.checked os 3 .any ((OpenSpec.ofChange Rows.tokenTellsSpec).preRow enc Tryd.prog Tryd.f3 Rows.tokenTellsRow.domain false Rows.tokenTellsRow.laid) (((OpenSpec.ofChange Rows.tokenTellsSpec).at F).post enc Tryd.prog Tryd.f3 false true false false) := by
  obtain ⟨places, hx⟩ := reads os enc
  refine returnsInHanded_of_row (C := Tryd.checked) (s := OpenSpec.ofChange Rows.tokenTellsSpec) own started (by kernel_rfl) Tryd.func3
    (witness_row_at (enc := enc) (C := Tryd.checked) false (World.laidAll Tryd.prog os Rows.tokenTellsRow.laid) #[.string .empty, .int .i64 0] (World.laidAll_os _ _ _) (by kernel_rfl) (by kernel_rfl) (by kernel_rfl)
      (OpenSpec.preRow_of_cond 8 hx (by kernel_rfl) (fun k hk => by cases hk) (by kernel_rfl) (laid_met os))) ?_
  intro W base args ds gs before hval hW _ _ hsz hL _ _
  exact contract H enc W base args ds gs before hval hW hsz hL
theorem said : Rows.TokenTellsSaid :=
  OpenClaim.holds_of_cond 3 Tryd.f3 rfl rfl rfl rfl rfl rfl rfl ⟨rfl, rfl, rfl, rfl, rfl⟩ rfl rfl rfl rfl rfl (by kernel_rfl) Tryd.func3 (by kernel_rfl)
    (of_decide_eq_true (by kernel_rfl)) (by unfold Func.isWrapper; first | (rw [if_pos (by decide +kernel)]; kernel_rfl) | (rw [if_neg (by decide +kernel)]; exact ⟨rfl, rfl⟩))
    (fun os started H enc _ F => by rw [OpenClaim.pre_eq_preRow]; exact lifted os started H enc F)
theorem plain (f : FuncId) (fn : Func) (hf : Tryd.pinned.checked.prog.funcNamed "truffle/trufflelaw06.TokenTells" = some f) (hfn : Tryd.pinned.checked.prog.funcs[f]? = some fn) :
    true = Tryd.pinned.checked.prog.looks [] ∧ ∀ (j : Nat) t, fn.params[j]? = some t → Tryd.pinned.checked.prog.wantsStandIn t = false := by
  obtain rfl : f = 3 := Option.some.inj ((show Tryd.prog.funcNamed "truffle/trufflelaw06.TokenTells" = some 3 by kernel_rfl).symm.trans hf) |>.symm
  obtain rfl : fn = Tryd.f3 := (Option.some.inj (Tryd.func3.symm.trans hfn)).symm
  refine ⟨by kernel_rfl, fun j t ht => ?_⟩
  have hall : (Tryd.f3.params.toList.all fun t => !Tryd.prog.wantsStandIn t) = true := by kernel_rfl
  have := List.all_eq_true.1 hall t (Array.mem_toList_iff.2 (Array.mem_of_getElem? ht))
  exact (show Tryd.prog.wantsStandIn t = false by simpa using this)
theorem proved : Rows.TokenTellsCardSaid :=
  Claim7.holds_tied_plain_at .later [] _ _ _ _ said (fun _ h => by cases h) (by kernel_rfl) (fun _ h => by cases h) tokenTells_row_tie rfl ⟨rfl, rfl⟩ (by kernel_rfl) rfl plain (by kernel_rfl)
end Go.Proofs.YtongjbgmmemajaaDoor.lawTokenTells
