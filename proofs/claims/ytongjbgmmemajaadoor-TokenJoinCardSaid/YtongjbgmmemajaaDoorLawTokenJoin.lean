/-
  Of two texts with a line feed between the tokens are those of both, if the first one has no error: the statement TokenJoin, for every two texts.
-/
import Derived.Test.YtongjbgmmemajaaDoorTokJoin
namespace Go.Proofs.YtongjbgmmemajaaDoor.lawTokenJoin
open Go.ChangeShapes Go.WideShapes Go.ChangeAt Go.RowKit

set_option maxRecDepth 1000000 in
set_option maxHeartbeats 2000000 in
theorem walk (w : World) (LV : Laid w) (s : ByteArray) (hs0 : s.size ≤ maxLen) (t : ByteArray) (ht0 : t.size ≤ maxLen) :
    Calls Tryd.prog 7 #[.string s, .string t] w fun e w' => e = .returned (.bool true) ∧ Below w.heap.size w w' := by
  by_cases h1 : 500 < s.size ∨ 500 < t.size
  · rcases h1 with h1 | h1
    · have d1 : decide ((500 : Int) < (s.size : Int)) = true := by rw [decide_eq_true_eq]; omega
      go_enter Tryd.func7, Tryd.ntmps7
      go_wp2_with fail
      refine (awake_any _ LV).mono ?_
      rintro e w1 ⟨rfl, hb1⟩
      go_wp2
      go_ret
      exact ⟨rfl, hb1⟩
    · have d2 : decide ((500 : Int) < (t.size : Int)) = true := by rw [decide_eq_true_eq]; omega
      by_cases h2 : 500 < s.size
      · have d1 : decide ((500 : Int) < (s.size : Int)) = true := by rw [decide_eq_true_eq]; omega
        go_enter Tryd.func7, Tryd.ntmps7
        go_wp2_with fail
        refine (awake_any _ LV).mono ?_
        rintro e w1 ⟨rfl, hb1⟩
        go_wp2
        go_ret
        exact ⟨rfl, hb1⟩
      · have d1 : decide ((500 : Int) < (s.size : Int)) = false := by rw [decide_eq_false_iff_not]; omega
        go_enter Tryd.func7, Tryd.ntmps7
        go_wp2_with fail
        refine (awake_any _ LV).mono ?_
        rintro e w1 ⟨rfl, hb1⟩
        go_wp2
        go_ret
        exact ⟨rfl, hb1⟩
  · have d1 : decide ((500 : Int) < (s.size : Int)) = false := by rw [decide_eq_false_iff_not]; omega
    have d2 : decide ((500 : Int) < (t.size : Int)) = false := by rw [decide_eq_false_iff_not]; omega
    have hs : s.size ≤ 500 := by omega
    have ht : t.size ≤ 500 := by omega
    have hsl := size_list s
    have htl := size_list t
    have hallS := fun w L => all_any s (by omega) w L
    have hallT := fun w L => all_any t (by omega) w L
    have hallU := fun w L => all_any (s ++ ⟨#[10]⟩ ++ t) (by rw [join_size]; omega) w L
    rw [join_list] at hallU
    have hj := join_all (it := Lib.itoa) s.data.toList t.data.toList (by omega) (by omega)
    rw [← hsl] at hj
    generalize allT Lib.itoa (s.data.toList ++ 10 :: t.data.toList) = Z at *
    generalize allE Lib.itoa (s.data.toList ++ 10 :: t.data.toList) = EZ at *
    generalize allAt Lib.itoa (s.data.toList ++ 10 :: t.data.toList) = PZ at *
    generalize allT Lib.itoa s.data.toList = X at *
    generalize allE Lib.itoa s.data.toList = EX at *
    generalize allAt Lib.itoa s.data.toList = PX at *
    generalize allT Lib.itoa t.data.toList = Y at *
    generalize allE Lib.itoa t.data.toList = EY at *
    generalize allAt Lib.itoa t.data.toList = PY at *
    have HS := Lib.hid hallS
    have HT := Lib.hid hallT
    have HU := Lib.hid hallU
    clear hallS hallT hallU hsl htl h1
    rcases hj with ⟨rfl, hx⟩ | ⟨rfl, hX, hY, rfl, hPZ, hPY, hZ, hE, hk⟩
    · go_enter Tryd.func7, Tryd.ntmps7
      go_wp2_with fail
      refine (awake_any _ LV).mono ?_
      rintro e w1 ⟨rfl, hb1⟩
      go_wp2_with fail
      refine (HS.out _ (LV.on hb1)).mono ?_
      rintro e w2 ⟨v2, rfl, _, hb2⟩
      have hb3 := below_then hb1 hb2
      go_wp2_with fail
      refine (HT.out _ (LV.on hb3)).mono ?_
      rintro e w3 ⟨v3, rfl, _, hb4⟩
      have hb5 := below_then hb3 hb4
      go_wp2_with fail
      refine (HU.out _ (LV.on hb5)).mono ?_
      rintro e w4 ⟨v4, rfl, _, hb6⟩
      have hb7 := below_then hb5 hb6
      go_wp2
      go_ret
      exact ⟨rfl, hb7⟩
    · have dP : ((PZ : Int) != (PY : Int) + (s.size : Int) + 1) = false := by
        rw [hPZ, bne_eq_false_iff_eq]; omega
      have dP' : ((PZ : Int) == (PY : Int) + (s.size : Int) + 1) = true := by
        rw [hPZ, beq_iff_eq]; omega
      have HK := Lib.hid hk
      clear hPZ hk
      rcases hE with ⟨rfl, hlen⟩ | rfl
      · have dL : ((Z.length : Int) != (X.length : Int) + (Y.length : Int)) = false := by
          rw [hlen, bne_eq_false_iff_eq]; omega
        clear hlen
        go_enter Tryd.func7, Tryd.ntmps7
        go_wp2_with fail
        refine (awake_any _ LV).mono ?_
        rintro e w1 ⟨rfl, hb1⟩
        go_wp2_with fail
        refine (HS.out _ (LV.on hb1)).mono ?_
        rintro e w2 ⟨v2, rfl, hown2, hb2⟩
        have hb3 := below_then hb1 hb2
        go_wp2_with fail
        refine (HT.out _ (LV.on hb3)).mono ?_
        rintro e w3 ⟨v3, rfl, hown3, hb4⟩
        have hb5 := below_then hb3 hb4
        go_wp2_with fail
        refine (HU.out _ (LV.on hb5)).mono ?_
        rintro e w4 ⟨v4, rfl, hown4, hb6⟩
        have hb7 := below_then hb5 hb6
        obtain ⟨A2, c2, rfl, hr2⟩ := SlT.of_own hown2
        obtain ⟨A3, c3, rfl, hr3⟩ := SlT.of_own hown3
        obtain ⟨A4, c4, rfl, hr4⟩ := SlT.of_own hown4
        replace hr2 := (hr2.on hb4).on hb6
        replace hr3 := hr3.on hb6
        clear hown2 hown3 hown4 dP'
        go_wp2
        clear dL
        have hb8 := hb7
        clear hb7 hb6 hb5 hb4 hb3 hb2 hb1
        go_loopw [15] (fun i wr => ∃ k d : Nat, i = .int .i64 k ∧ k ≤ Z.length ∧ wr = w4.drewN d) (fun i _ => Z.length - (intOf i).toNat)
        case atStart => exact ⟨0, 0, rfl, by omega, rfl⟩
        case round =>
          obtain ⟨k, d, rfl, hk, rfl⟩ := hrel
          by_cases hlt : k < Z.length
          · obtain ⟨hk1, hk2⟩ := HK.out k hlt
            obtain ⟨ad4, z, rfl, _, hz, p0, p1, p2, p3⟩ := hr4.at_ hlt
            by_cases hkx : k < X.length
            · obtain ⟨ad2, x, rfl, _, hx, q0, q1, q2, q3⟩ := hr2.at_ hkx
              have e := hk1 hkx
              rw [hz, hx] at e
              obtain rfl : z = x := by injection e
              have g1 : decide ((X.length : Int) ≤ (k : Int)) = false := by rw [decide_eq_false_iff_not]; omega
              have g2 : decide (X.length ≤ k) = false := by rw [decide_eq_false_iff_not]; omega
              clear hk1 hk2 hz hx e HK
              go_wp2
              go_quiet (fail)
              go_wp2
              go_quiet (fail)
              go_wp2
              exact ⟨⟨k + 1, _, by go_num, by omega, rfl⟩, by simp [intOf]; omega⟩
            · obtain ⟨y, hy, hzy, hya⟩ := hk2 (by omega)
              obtain ⟨j, hj⟩ : ∃ j, k - X.length = j := ⟨_, rfl⟩
              rw [hj] at hy
              have hjl : j < Y.length := (List.getElem?_eq_some_iff.1 hy).1
              obtain ⟨ad3, y', rfl, _, hy', q0, q1, q2, q3⟩ := hr3.at_ hjl
              rw [hy'] at hy
              obtain rfl : y' = y := by injection hy
              rw [hz] at hzy
              obtain rfl : z = shiftT (s.size + 1) y' := by injection hzy
              have hsub : (k : Int) - (X.length : Int) = (j : Int) := by omega
              have g1 : decide ((X.length : Int) ≤ (k : Int)) = true := by rw [decide_eq_true_eq]; omega
              have g2 : decide (X.length ≤ k) = true := by rw [decide_eq_true_eq]; omega
              have p3' : (((shiftT (s.size + 1) y').at_ : Nat) : Int) = (y'.at_ : Int) + (s.size : Int) + 1 := by
                show ((y'.at_ + (s.size + 1) : Nat) : Int) = _
                omega
              rw [p3'] at p3
              simp only [shiftT] at p0 p1 p2
              clear hk1 hk2 hz hy' hy hzy HK p3'
              go_wp2
              go_quiet (fail)
              go_wp2
              go_quiet (fail)
              go_wp2
              exact ⟨⟨k + 1, _, by go_num, by omega, rfl⟩, by simp [intOf]; omega⟩
          · obtain rfl : k = Z.length := by omega
            clear HK
            go_wp2
            go_ret
            exact ⟨rfl, below_draws hb8 _⟩
      · go_enter Tryd.func7, Tryd.ntmps7
        go_wp2_with fail
        refine (awake_any _ LV).mono ?_
        rintro e w1 ⟨rfl, hb1⟩
        go_wp2_with fail
        refine (HS.out _ (LV.on hb1)).mono ?_
        rintro e w2 ⟨v2, rfl, hown2, hb2⟩
        have hb3 := below_then hb1 hb2
        go_wp2_with fail
        refine (HT.out _ (LV.on hb3)).mono ?_
        rintro e w3 ⟨v3, rfl, hown3, hb4⟩
        have hb5 := below_then hb3 hb4
        go_wp2_with fail
        refine (HU.out _ (LV.on hb5)).mono ?_
        rintro e w4 ⟨v4, rfl, hown4, hb6⟩
        have hb7 := below_then hb5 hb6
        obtain ⟨A2, c2, rfl, hr2⟩ := SlT.of_own hown2
        obtain ⟨A3, c3, rfl, hr3⟩ := SlT.of_own hown3
        obtain ⟨A4, c4, rfl, hr4⟩ := SlT.of_own hown4
        replace hr2 := (hr2.on hb4).on hb6
        replace hr3 := hr3.on hb6
        clear hown2 hown3 hown4 dP'
        go_wp2
        have hb8 := hb7
        clear hb7 hb6 hb5 hb4 hb3 hb2 hb1
        go_loopw [15] (fun i wr => ∃ k d : Nat, i = .int .i64 k ∧ k ≤ Z.length ∧ wr = w4.drewN d) (fun i _ => Z.length - (intOf i).toNat)
        case atStart => exact ⟨0, 0, rfl, by omega, rfl⟩
        case round =>
          obtain ⟨k, d, rfl, hk, rfl⟩ := hrel
          by_cases hlt : k < Z.length
          · obtain ⟨hk1, hk2⟩ := HK.out k hlt
            obtain ⟨ad4, z, rfl, _, hz, p0, p1, p2, p3⟩ := hr4.at_ hlt
            by_cases hkx : k < X.length
            · obtain ⟨ad2, x, rfl, _, hx, q0, q1, q2, q3⟩ := hr2.at_ hkx
              have e := hk1 hkx
              rw [hz, hx] at e
              obtain rfl : z = x := by injection e
              have g1 : decide ((X.length : Int) ≤ (k : Int)) = false := by rw [decide_eq_false_iff_not]; omega
              have g2 : decide (X.length ≤ k) = false := by rw [decide_eq_false_iff_not]; omega
              clear hk1 hk2 hz hx e HK
              go_wp2
              go_quiet (fail)
              go_wp2
              go_quiet (fail)
              go_wp2
              exact ⟨⟨k + 1, _, by go_num, by omega, rfl⟩, by simp [intOf]; omega⟩
            · obtain ⟨y, hy, hzy, hya⟩ := hk2 (by omega)
              obtain ⟨j, hj⟩ : ∃ j, k - X.length = j := ⟨_, rfl⟩
              rw [hj] at hy
              have hjl : j < Y.length := (List.getElem?_eq_some_iff.1 hy).1
              obtain ⟨ad3, y', rfl, _, hy', q0, q1, q2, q3⟩ := hr3.at_ hjl
              rw [hy'] at hy
              obtain rfl : y' = y := by injection hy
              rw [hz] at hzy
              obtain rfl : z = shiftT (s.size + 1) y' := by injection hzy
              have hsub : (k : Int) - (X.length : Int) = (j : Int) := by omega
              have g1 : decide ((X.length : Int) ≤ (k : Int)) = true := by rw [decide_eq_true_eq]; omega
              have g2 : decide (X.length ≤ k) = true := by rw [decide_eq_true_eq]; omega
              have p3' : (((shiftT (s.size + 1) y').at_ : Nat) : Int) = (y'.at_ : Int) + (s.size : Int) + 1 := by
                show ((y'.at_ + (s.size + 1) : Nat) : Int) = _
                omega
              rw [p3'] at p3
              simp only [shiftT] at p0 p1 p2
              clear hk1 hk2 hz hy' hy hzy HK p3'
              go_wp2
              go_quiet (fail)
              go_wp2
              go_quiet (fail)
              go_wp2
              exact ⟨⟨k + 1, _, by go_num, by omega, rfl⟩, by simp [intOf]; omega⟩
          · obtain rfl : k = Z.length := by omega
            clear HK
            go_wp2
            go_ret
            exact ⟨rfl, below_draws hb8 _⟩

theorem contract (H : Type) (enc : TypeId × Value → H) (W : World) (base : Nat) (args : Array Value) (ds gs : List (DataW H)) (before : List MemPlace)
    (hval0 : ∀ (j : Nat) t v, Tryd.f7.params[j]? = some t → args[j]? = some v → Value.okWide Tryd.prog W .any base t v)
    (hW : DataW.Whole enc Tryd.prog Tryd.f7.params.toList Rows.tokenJoinSpec.vars false W args.toList ds gs before) (hsz : (DataW.weightsEach Tryd.prog (Tryd.f7.params.toList ++ (OpenSpec.ofChange Rows.tokenJoinSpec).bare.plain.varTypes Tryd.prog) (ds ++ gs)).all (· ≤ reachBytes) = true) (hL : laidMetH Tryd.prog Rows.tokenJoinRow.laid W) :
    Calls Tryd.prog 7 args W fun e W2 => ∃ v, e = .returned v ∧ Rows.tokenJoinSpec.post enc Tryd.prog Tryd.f7 false true false false W args v W2 := by
  have hval : ∀ (j : Nat) t v, Tryd.f7.params[j]? = some t → args[j]? = some v → Value.okWide Tryd.prog W .any base t v := hval0
  have T := laid_of hL
  have hW2 := hW
  obtain ⟨p, q, hA0, hV, rfl, hfz, hnd⟩ := hW
  have hA : DataW.TrodAll enc Tryd.prog W 0 (fun _ => true) true Tryd.f7.params.toList args.toList ds p := hA0
  rw [Tryd.params7] at hA hval
  obtain ⟨v0, vs0, d0, ds0, p0, q0, hargs, rfl, rfl, h0, r0⟩ := trodAll_cons hA
  obtain ⟨v1, vs1, d1, ds1, p1, q1, rfl, rfl, rfl, h1, r1⟩ := trodAll_cons r0
  obtain ⟨rfl, rfl, rfl⟩ := trodAll_nil r1
  obtain rfl : args = #[v0, v1] := by cases args; simp_all
  obtain ⟨rfl, rfl⟩ := trodVars_none hV
  obtain ⟨s0, rfl, rfl, rfl, b0⟩ := Go.ChangeMaps.open_string Tryd.underlying9 (hval 0 9 v0 rfl rfl) h0
  obtain ⟨s1, rfl, rfl, rfl, b1⟩ := Go.ChangeMaps.open_string Tryd.underlying9 (hval 1 9 v1 rfl rfl) h1
  refine (walk W T s0 b0 s1 b1).mono fun e W2 ⟨he, hb⟩ => ?_
  subst he
  exact ⟨_, rfl, law_post (by kernel_rfl) rfl rfl (by decide +kernel) hW2 hb⟩
theorem laid_met (os : Os) : laidMetH Tryd.prog Rows.tokenJoinRow.laid ((World.laidAll Tryd.prog os Rows.tokenJoinRow.laid).forCall (fun _ _ => 0) ⟨#[], #[.string .empty, .string .empty], []⟩).memory := by
  rw [MakeChecks.laidMetH_plain _ _ _ (by kernel_rfl)]
  exact laidMet_laidAll _ (by kernel_rfl) (by kernel_rfl)
theorem reads (os : Os) {H : Type} (enc : TypeId × Value → H) : ∃ places, DataW.whole enc Tryd.prog ((World.laidAll Tryd.prog os Rows.tokenJoinRow.laid).forCall (fun _ _ => 0) ⟨#[], #[.string .empty, .string .empty], []⟩).memory Tryd.f7.params.toList Rows.tokenJoinSpec.vars false (#[.string .empty, .string .empty] : Array Value).toList 8 = some ([.lit (.string []), .lit (.string [])], [], places) := ⟨[], by kernel_rfl⟩
set_option maxRecDepth 100000 in
theorem lifted (os : Os) (started : os.Started) (H : Type) (enc : TypeId × Value → H) (F : Stop.Interp) :
    ReturnsInHanded {} Tryd.checked os 7 .any ((OpenSpec.ofChange Rows.tokenJoinSpec).preRow enc Tryd.prog Tryd.f7 Rows.tokenJoinRow.domain false Rows.tokenJoinRow.laid) (((OpenSpec.ofChange Rows.tokenJoinSpec).at F).post enc Tryd.prog Tryd.f7 false true false false) := by
  obtain ⟨places, hx⟩ := reads os enc
  refine returnsInHanded_of_row (C := Tryd.checked) (s := OpenSpec.ofChange Rows.tokenJoinSpec) own started (by kernel_rfl) Tryd.func7
    (witness_row_at (enc := enc) (C := Tryd.checked) false (World.laidAll Tryd.prog os Rows.tokenJoinRow.laid) #[.string .empty, .string .empty] (World.laidAll_os _ _ _) (by kernel_rfl) (by kernel_rfl) (by kernel_rfl)
      (OpenSpec.preRow_of_cond 8 hx (by kernel_rfl) (fun k hk => by cases hk) (by kernel_rfl) (laid_met os))) ?_
  intro W base args ds gs before hval hW _ _ hsz hL _ _
  exact contract H enc W base args ds gs before hval hW hsz hL
theorem said : Rows.TokenJoinSaid :=
  OpenClaim.holds_of_cond 7 Tryd.f7 rfl rfl rfl rfl rfl rfl rfl ⟨rfl, rfl, rfl, rfl, rfl⟩ rfl rfl rfl rfl rfl (by kernel_rfl) Tryd.func7 (by kernel_rfl)
    (of_decide_eq_true (by kernel_rfl)) (by unfold Func.isWrapper; first | (rw [if_pos (by decide +kernel)]; kernel_rfl) | (rw [if_neg (by decide +kernel)]; exact ⟨rfl, rfl⟩))
    (fun os started H enc _ F => by rw [OpenClaim.pre_eq_preRow]; exact lifted os started H enc F)
theorem plain (f : FuncId) (fn : Func) (hf : Tryd.pinned.checked.prog.funcNamed "truffle/trufflelaw06.TokenJoin" = some f) (hfn : Tryd.pinned.checked.prog.funcs[f]? = some fn) :
    true = Tryd.pinned.checked.prog.looks [] ∧ ∀ (j : Nat) t, fn.params[j]? = some t → Tryd.pinned.checked.prog.wantsStandIn t = false := by
  obtain rfl : f = 7 := Option.some.inj ((show Tryd.prog.funcNamed "truffle/trufflelaw06.TokenJoin" = some 7 by kernel_rfl).symm.trans hf) |>.symm
  obtain rfl : fn = Tryd.f7 := (Option.some.inj (Tryd.func7.symm.trans hfn)).symm
  refine ⟨by kernel_rfl, fun j t ht => ?_⟩
  have hall : (Tryd.f7.params.toList.all fun t => !Tryd.prog.wantsStandIn t) = true := by kernel_rfl
  have := List.all_eq_true.1 hall t (Array.mem_toList_iff.2 (Array.mem_of_getElem? ht))
  exact (show Tryd.prog.wantsStandIn t = false by simpa using this)
theorem proved : Rows.TokenJoinCardSaid :=
  Claim7.holds_tied_plain_at .later [] _ _ _ _ said (fun _ h => by cases h) (by kernel_rfl) (fun _ h => by cases h) tokenJoin_row_tie rfl ⟨rfl, rfl⟩ (by kernel_rfl) rfl plain (by kernel_rfl)
end Go.Proofs.YtongjbgmmemajaaDoor.lawTokenJoin
