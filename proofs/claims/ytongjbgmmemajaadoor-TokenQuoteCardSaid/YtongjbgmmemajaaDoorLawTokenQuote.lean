/-
  Two texts that are quoted alike are the same; so are two numbers with the same digits; what is quoted has bytes from 32 to 126 alone: the statement TokenQuote, for all texts and numbers.
-/
import Derived.Test.YtongjbgmmemajaaDoorTokAwake
import Derived.Test.YtongjbgmmemajaaDoorTokFacts
namespace Go.Proofs.YtongjbgmmemajaaDoor.lawTokenQuote
open Go.ChangeShapes Go.WideShapes Go.ChangeAt Go.RowKit

theorem same_bool {a b : ByteArray} : (a.toList == b.toList) = decide (a.data.toList = b.data.toList) := by
  rw [Lib.toList_data, Lib.toList_data, Bool.eq_iff_iff]; simp

set_option maxRecDepth 1000000 in
set_option maxHeartbeats 1000000 in
theorem walk (w : World) (LV : Laid w) (s : ByteArray) (hs0 : s.size ≤ maxLen) (t : ByteArray) (ht0 : t.size ≤ maxLen) (n : Int) (n0 : -9223372036854775808 ≤ n) (n1 : n ≤ 9223372036854775807) (k : Int) (k0 : -9223372036854775808 ≤ k) (k1 : k ≤ 9223372036854775807) :
    Calls Tryd.prog 8 #[.string s, .string t, .int .i64 n, .int .i64 k] w fun e w' => e = .returned (.bool true) ∧ Below w.heap.size w w' := by
  by_cases h1 : 1000 < s.size
  · have d1 : decide ((1000 : Int) < (s.size : Int)) = true := by rw [decide_eq_true_eq]; omega
    go_enter Tryd.func8, Tryd.ntmps8
    go_wp2_with fail
    refine (awake_any _ LV).mono ?_
    rintro e w1 ⟨rfl, hb1⟩
    go_wp2
    go_ret
    exact ⟨rfl, hb1⟩
  · have d1 : decide ((1000 : Int) < (s.size : Int)) = false := by rw [decide_eq_false_iff_not]; omega
    by_cases h2 : 1000 < t.size
    · have d2 : decide ((1000 : Int) < (t.size : Int)) = true := by rw [decide_eq_true_eq]; omega
      go_enter Tryd.func8, Tryd.ntmps8
      go_wp2_with fail
      refine (awake_any _ LV).mono ?_
      rintro e w1 ⟨rfl, hb1⟩
      go_wp2
      go_ret
      exact ⟨rfl, hb1⟩
    · have d2 : decide ((1000 : Int) < (t.size : Int)) = false := by rw [decide_eq_false_iff_not]; omega
      have hq := fun w => quote_any s (by omega) w
      have hqt := fun w => quote_any t (by omega) w
      have hdn := fun w L => digits_any n n0 n1 w L
      have hdk := fun w L => digits_any k k0 k1 w L
      have hQs : (txt (quote s.data.toList)).size ≤ 5000 := by
        have := quote_len s.data.toList
        have hsl : s.data.toList.length = s.size := by simp
        rw [txt_size]; omega
      have hqq : ((txt (quote s.data.toList)).toList == (txt (quote t.data.toList)).toList) = (s.toList == t.toList) := by
        rw [same_bool, same_bool, txt_list, txt_list, Bool.eq_iff_iff, decide_eq_true_eq, decide_eq_true_eq]
        exact ⟨quote_inj, fun h => by rw [h]⟩
      have hdd : ((txt (Lib.itoa n)).toList == (txt (Lib.itoa k)).toList) = (n == k) := by
        rw [same_bool, txt_list, txt_list, Bool.eq_iff_iff, decide_eq_true_eq, beq_iff_eq]
        exact ⟨itoa_inj, fun h => by rw [h]⟩
      have hbytes : ∀ (j : Nat) (h : j < (txt (quote s.data.toList)).size), decide (((txt (quote s.data.toList))[j].toNat : Int) < 32) = false ∧ decide ((126 : Int) < ((txt (quote s.data.toList))[j].toNat : Int)) = false := fun j h => by
        have hm := List.mem_of_getElem? (at_list (txt (quote s.data.toList)) j h)
        rw [txt_list] at hm
        have := quote_bytes _ _ hm
        rw [decide_eq_false_iff_not, decide_eq_false_iff_not]; omega
      generalize txt (quote s.data.toList) = Q at *
      generalize txt (quote t.data.toList) = R at *
      generalize txt (Lib.itoa n) = D at *
      generalize txt (Lib.itoa k) = E at *
      obtain ⟨B1, hB1⟩ : ∃ b, (s.toList == t.toList) = b := ⟨_, rfl⟩
      obtain ⟨B2, hB2⟩ : ∃ b, (n == k) = b := ⟨_, rfl⟩
      rw [hB1] at hqq
      rw [hB2] at hdd
      have HQ := Lib.hid hq
      have HR := Lib.hid hqt
      have HD := Lib.hid hdn
      have HE := Lib.hid hdk
      have HB := Lib.hid hbytes
      have HQQ := Lib.hid hqq
      have HDD := Lib.hid hdd
      have HB1 := Lib.hid hB1
      have HB2 := Lib.hid hB2
      clear hq hqt hdn hdk hbytes hqq hdd hB1 hB2
      go_enter Tryd.func8, Tryd.ntmps8
      go_wp2_with fail
      refine (awake_any _ LV).mono ?_
      rintro e w1 ⟨rfl, hb1⟩
      go_wp2_with fail
      refine (HQ.out _).mono ?_
      rintro e w2 ⟨rfl, hb2⟩
      have hb3 := below_then hb1 hb2
      go_wp2
      go_loopw [11] (fun i wr => ∃ j : Nat, i = .int .i64 j ∧ j ≤ Q.size ∧ wr = w2) (fun i _ => Q.size - (intOf i).toNat)
      case atStart => exact ⟨0, rfl, by omega, rfl⟩
      case round =>
        obtain ⟨j, rfl, hj, rfl⟩ := hrel
        by_cases hlt : j < Q.size
        · obtain ⟨g1, g2⟩ := HB.out j hlt
          go_wp2
          exact ⟨⟨j + 1, by go_num, by omega, by first | rfl | trivial⟩, by simp [intOf]; omega⟩
        · go_wp2_with fail
          refine (HR.out _).mono ?_
          rintro e w3 ⟨rfl, hb4⟩
          have hb5 := below_then hb3 hb4
          have g1 := HQQ.out
          have g2 := HB1.out
          go_wp2_with fail
          refine (HD.out _ (LV.on hb5)).mono ?_
          rintro e w4 ⟨rfl, hb6⟩
          have hb7 := below_then hb5 hb6
          go_wp2_with fail
          refine (HE.out _ (LV.on hb7)).mono ?_
          rintro e w5 ⟨rfl, hb8⟩
          have hb9 := below_then hb7 hb8
          have g3 := HDD.out
          have g4 := HB2.out
          go_wp2
          go_ret
          exact ⟨rfl, hb9⟩

theorem contract (H : Type) (enc : TypeId × Value → H) (W : World) (base : Nat) (args : Array Value) (ds gs : List (DataW H)) (before : List MemPlace)
    (hval0 : ∀ (j : Nat) t v, Tryd.f8.params[j]? = some t → args[j]? = some v → Value.okWide Tryd.prog W .any base t v)
    (hW : DataW.Whole enc Tryd.prog Tryd.f8.params.toList Rows.tokenQuoteSpec.vars false W args.toList ds gs before) (hsz : (DataW.weightsEach Tryd.prog (Tryd.f8.params.toList ++ (OpenSpec.ofChange Rows.tokenQuoteSpec).bare.plain.varTypes Tryd.prog) (ds ++ gs)).all (· ≤ reachBytes) = true) (hL : laidMetH Tryd.prog Rows.tokenQuoteRow.laid W) :
    Calls Tryd.prog 8 args W fun e W2 => ∃ v, e = .returned v ∧ Rows.tokenQuoteSpec.post enc Tryd.prog Tryd.f8 false true false false W args v W2 := by
  have hval : ∀ (j : Nat) t v, Tryd.f8.params[j]? = some t → args[j]? = some v → Value.okWide Tryd.prog W .any base t v := hval0
  have T := laid_of hL
  have hW2 := hW
  obtain ⟨p, q, hA0, hV, rfl, hfz, hnd⟩ := hW
  have hA : DataW.TrodAll enc Tryd.prog W 0 (fun _ => true) true Tryd.f8.params.toList args.toList ds p := hA0
  rw [Tryd.params8] at hA hval
  obtain ⟨v0, vs0, d0, ds0, p0, q0, hargs, rfl, rfl, h0, r0⟩ := trodAll_cons hA
  obtain ⟨v1, vs1, d1, ds1, p1, q1, rfl, rfl, rfl, h1, r1⟩ := trodAll_cons r0
  obtain ⟨v2, vs2, d2, ds2, p2, q2, rfl, rfl, rfl, h2, r2⟩ := trodAll_cons r1
  obtain ⟨v3, vs3, d3, ds3, p3, q3, rfl, rfl, rfl, h3, r3⟩ := trodAll_cons r2
  obtain ⟨rfl, rfl, rfl⟩ := trodAll_nil r3
  obtain rfl : args = #[v0, v1, v2, v3] := by cases args; simp_all
  obtain ⟨rfl, rfl⟩ := trodVars_none hV
  obtain ⟨s0, rfl, rfl, rfl, b0⟩ := Go.ChangeMaps.open_string Tryd.underlying9 (hval 0 9 v0 rfl rfl) h0
  obtain ⟨s1, rfl, rfl, rfl, b1⟩ := Go.ChangeMaps.open_string Tryd.underlying9 (hval 1 9 v1 rfl rfl) h1
  obtain ⟨i2, rfl, b2, c2⟩ := open_s64 (hval 2 2 v2 rfl rfl) h2
  obtain ⟨i3, rfl, b3, c3⟩ := open_s64 (hval 3 2 v3 rfl rfl) h3
  refine (walk W T s0 b0 s1 b1 i2 b2 c2 i3 b3 c3).mono fun e W2 ⟨he, hb⟩ => ?_
  subst he
  exact ⟨_, rfl, law_post (by kernel_rfl) rfl rfl (by decide +kernel) hW2 hb⟩
theorem laid_met (os : Os) : laidMetH Tryd.prog Rows.tokenQuoteRow.laid ((World.laidAll Tryd.prog os Rows.tokenQuoteRow.laid).forCall (fun _ _ => 0) ⟨#[], #[.string .empty, .string .empty, .int .i64 0, .int .i64 0], []⟩).memory := by
  rw [MakeChecks.laidMetH_plain _ _ _ (by kernel_rfl)]
  exact laidMet_laidAll _ (by kernel_rfl) (by kernel_rfl)
theorem reads (os : Os) {H : Type} (enc : TypeId × Value → H) : ∃ places, DataW.whole enc Tryd.prog ((World.laidAll Tryd.prog os Rows.tokenQuoteRow.laid).forCall (fun _ _ => 0) ⟨#[], #[.string .empty, .string .empty, .int .i64 0, .int .i64 0], []⟩).memory Tryd.f8.params.toList Rows.tokenQuoteSpec.vars false (#[.string .empty, .string .empty, .int .i64 0, .int .i64 0] : Array Value).toList 8 = some ([.lit (.string []), .lit (.string []), .lit (.int .i64 0), .lit (.int .i64 0)], [], places) := ⟨[], by kernel_rfl⟩
set_option maxRecDepth 100000 in
theorem lifted (os : Os) (started : os.Started) (H : Type) (enc : TypeId × Value → H) (F : Stop.Interp) :
    ReturnsInHanded {} Tryd.checked os 8 .any ((OpenSpec.ofChange Rows.tokenQuoteSpec).preRow enc Tryd.prog Tryd.f8 Rows.tokenQuoteRow.domain false Rows.tokenQuoteRow.laid) (((OpenSpec.ofChange Rows.tokenQuoteSpec).at F).post enc Tryd.prog Tryd.f8 false true false false) := by
  obtain ⟨places, hx⟩ := reads os enc
  refine returnsInHanded_of_row (C := Tryd.checked) (s := OpenSpec.ofChange Rows.tokenQuoteSpec) own started (by kernel_rfl) Tryd.func8
    (witness_row_at (enc := enc) (C := Tryd.checked) false (World.laidAll Tryd.prog os Rows.tokenQuoteRow.laid) #[.string .empty, .string .empty, .int .i64 0, .int .i64 0] (World.laidAll_os _ _ _) (by kernel_rfl) (by kernel_rfl) (by kernel_rfl)
      (OpenSpec.preRow_of_cond 8 hx (by kernel_rfl) (fun k hk => by cases hk) (by kernel_rfl) (laid_met os))) ?_
  intro W base args ds gs before hval hW _ _ hsz hL _ _
  exact contract H enc W base args ds gs before hval hW hsz hL
theorem said : Rows.TokenQuoteSaid :=
  OpenClaim.holds_of_cond 8 Tryd.f8 rfl rfl rfl rfl rfl rfl rfl ⟨rfl, rfl, rfl, rfl, rfl⟩ rfl rfl rfl rfl rfl (by kernel_rfl) Tryd.func8 (by kernel_rfl)
    (of_decide_eq_true (by kernel_rfl)) (by unfold Func.isWrapper; first | (rw [if_pos (by decide +kernel)]; kernel_rfl) | (rw [if_neg (by decide +kernel)]; exact ⟨rfl, rfl⟩))
    (fun os started H enc _ F => by rw [OpenClaim.pre_eq_preRow]; exact lifted os started H enc F)
theorem plain (f : FuncId) (fn : Func) (hf : Tryd.pinned.checked.prog.funcNamed "truffle/trufflelaw06.TokenQuote" = some f) (hfn : Tryd.pinned.checked.prog.funcs[f]? = some fn) :
    true = Tryd.pinned.checked.prog.looks [] ∧ ∀ (j : Nat) t, fn.params[j]? = some t → Tryd.pinned.checked.prog.wantsStandIn t = false := by
  obtain rfl : f = 8 := Option.some.inj ((show Tryd.prog.funcNamed "truffle/trufflelaw06.TokenQuote" = some 8 by kernel_rfl).symm.trans hf) |>.symm
  obtain rfl : fn = Tryd.f8 := (Option.some.inj (Tryd.func8.symm.trans hfn)).symm
  refine ⟨by kernel_rfl, fun j t ht => ?_⟩
  have hall : (Tryd.f8.params.toList.all fun t => !Tryd.prog.wantsStandIn t) = true := by kernel_rfl
  have := List.all_eq_true.1 hall t (Array.mem_toList_iff.2 (Array.mem_of_getElem? ht))
  exact (show Tryd.prog.wantsStandIn t = false by simpa using this)
theorem proved : Rows.TokenQuoteCardSaid :=
  Claim7.holds_tied_plain_at .later [] _ _ _ _ said (fun _ h => by cases h) (by kernel_rfl) (fun _ h => by cases h) tokenQuote_row_tie rfl ⟨rfl, rfl⟩ (by kernel_rfl) rfl plain (by kernel_rfl)
end Go.Proofs.YtongjbgmmemajaaDoor.lawTokenQuote
