/-
  All records stand one behind the other, and end where all does; those of two parts are those of both, if the first part has no error: the statement RecordParts, for every bytes and place.
-/
import Derived.Test.YtpaggpcpflmpcaaDoorRecAwake
import Derived.Test.YtpaggpcpflmpcaaDoorRecJoin
import Derived.Test.YtpaggpcpflmpcaaDoorAppG
namespace Go.Proofs.YtpaggpcpflmpcaaDoor.lawRecordParts
open Go.ChangeShapes Go.WideShapes Go.ChangeAt Go.RowKit

theorem allR_recs {l : List UInt8} {a u : Nat} (hau : a ≤ u) (hu : u ≤ l.length) : allR l a u = recs l u a := by
  unfold allR
  rw [if_pos (by rw [mayB_true]; omega)]
  simp only [Int.toNat_natCast]

set_option maxRecDepth 1000000 in
set_option maxHeartbeats 8000000 in
theorem walk (w : World) (T : Wires w) (A : Option Addr) (c : Nat) (l : List UInt8) (hr : SlB w A c l) (i : Int) (i1 : -9223372036854775808 ≤ i) (i2 : i ≤ 9223372036854775807) :
    Calls Tryd.prog 5 #[.slice A l.length c, .int .i64 i] w fun e w' => e = .returned (.bool true) ∧ Below w.heap.size w w' := by
  obtain ⟨i0, hi, hz0, hz1, hz2⟩ := info_parts infoRecs
  have hml := hr.small.1
  by_cases hyes : l.length ≤ 3000 ∧ 0 ≤ i ∧ i ≤ l.length
  · obtain ⟨hbig, h0, hcut⟩ := hyes
    obtain ⟨cut, rfl⟩ := Int.eq_ofNat_of_zero_le h0
    have hcut : cut ≤ l.length := by omega
    obtain ⟨L, e, hL⟩ : ∃ L e, allR l 0 l.length = (L, e) := ⟨_, _, rfl⟩
    obtain ⟨X, f, hX⟩ : ∃ X f, allR l 0 cut = (X, f) := ⟨_, _, rfl⟩
    obtain ⟨Y, g, hY⟩ : ∃ Y g, allR l cut l.length = (Y, g) := ⟨_, _, rfl⟩
    have hL' : recs l l.length 0 = (L, e) := by rw [← hL]; exact (allR_recs (a := 0) (by omega) (Nat.le_refl _)).symm
    have hX' : recs l cut 0 = (X, f) := by rw [← hX]; exact (allR_recs (a := 0) (by omega) hcut).symm
    have hY' : recs l l.length cut = (Y, g) := by rw [← hY]; exact (allR_recs hcut (Nat.le_refl _)).symm
    have lL := recs_len l l.length 0
    rw [hL'] at lL
    have lX := recs_len l cut 0
    rw [hX'] at lX
    have lY := recs_len l l.length cut
    rw [hY'] at lY
    have CH : Hid (∀ k r, L[k]? = some r → ends 0 (L.take k) < r.frm ∧ r.frm ≤ r.upto ∧ r.upto ≤ l.length) := Lib.hid (fun k r h => by
      have := recs_chain l l.length l.length 0 k r (by omega) (by rw [hL']; exact h)
      rw [hL'] at this
      exact this)
    have CE : Hid (e = 0 → ends 0 L = l.length) := Lib.hid (fun h => by
      have := recs_ends l l.length l.length 0 (by omega) (by omega) (by rw [hL']; exact h)
      rw [hL'] at this
      exact this)
    have CJ : Hid (f = 0 → L = X ++ Y ∧ e = g) := Lib.hid (fun h => by
      have := recs_join l l.length cut (Nat.le_refl _) hcut cut 0 (by omega) (by omega) (by rw [hX']; exact h)
      rw [hL', hX', hY'] at this
      simp only [Prod.mk.injEq] at this
      exact this)
    have HL := Lib.hid hL
    have HX := Lib.hid hX
    have HY := Lib.hid hY
    simp only at lL lX lY
    clear hL hX hY hL' hX' hY'
    have d1 : decide ((3000 : Int) < (l.length : Int)) = false := by simp; omega
    have d2 : decide (l.length < cut) = false := by simp; omega
    go_enter Tryd.func5, Tryd.ntmps5
    go_wp2_with fail
    refine (awake_any _ T).mono ?_
    rintro e1 w1 ⟨rfl, hb1⟩
    go_wp2_with fail
    refine (all_any A c l 0 l.length (by omega) _ (hr.on hb1) (T.on hb1)).mono ?_
    rw [HL.out]
    rintro e2 w2 ⟨A2, c2, rfl, hrL, hb2⟩
    have hb2 := below_then hb1 hb2
    go_wp2
    go_loopw [8, 9] (fun last i wr => ∃ k d : Nat, last = .int .i64 (ends 0 (L.take k)) ∧ i = .int .i64 k ∧ k ≤ L.length ∧ wr = w2.drewN d) (fun _ i _ => L.length - (intOf i).toNat)
    case atStart => exact ⟨0, 0, rfl, rfl, by omega, rfl⟩
    case round =>
      obtain ⟨k, d, rfl, rfl, hk, rfl⟩ := hrel
      by_cases hlt : k < L.length
      · obtain ⟨ad, r, rfl, _, hr0, p0, p1, p2, p3, p4⟩ := hrL.at_ hlt
        obtain ⟨q1, q2, q3⟩ := CH.out k r hr0
        have HE := Lib.hid (ends_take (a := 0) hr0)
        generalize ends 0 (L.take k) = en at *
        clear hr0 hrL
        have g1 : decide (r.frm ≤ en) = false := by simp; omega
        have g2 : decide (r.upto < r.frm) = false := by simp; omega
        have g3 : decide (l.length < r.upto) = false := by simp; omega
        go_wp2
        go_quiet (fail)
        go_wp2
        exact ⟨⟨k + 1, d + nq, by rw [HE.out], by go_num, by omega, rfl⟩, by simp [intOf]; omega⟩
      · obtain rfl : k = L.length := by omega
        rw [List.take_length]
        have hbd := below_draws hb2 d
        have hrL := hrL.on (below_draws (Below.refl w2.heap.size w2) d)
        generalize hE : ends 0 L = E at *
        have hEe : e = 0 → E = l.length := fun h => CE.out h
        have he : (((e : Int) == 0) = true ∧ ((E : Int) != (l.length : Int)) = false) ∨ ((e : Int) == 0) = false := by
          by_cases h : e = 0
          · exact Or.inl ⟨by simp [h], by simp [hEe h]⟩
          · exact Or.inr (by simp; omega)
        clear hE hEe CE CH
        rcases he with ⟨be, bE⟩ | be
        all_goals
          go_wp2_with fail
          refine (all_any A c l 0 cut (by omega) _ (hr.on hbd) (T.on hbd)).mono ?_
          rw [HX.out]
          rintro e3 w3 ⟨A3, c3, rfl, hrX, hb3⟩
          have hrL3 := hrL.on hb3
          have hb3 := below_then hbd hb3
          go_wp2_with fail
          refine (all_any A c l cut l.length (by omega) _ (hr.on hb3) (T.on hb3)).mono ?_
          rw [HY.out]
          rintro e4 w4 ⟨A4, c4, rfl, hrY, hb4⟩
          have hrL4 := hrL3.on hb4
          have hrX := hrX.on hb4
          have hb4 := below_then hb3 hb4
          clear hrL hrL3
          by_cases hf : f = 0
          · obtain ⟨rfl, rfl⟩ := CJ.out hf
            subst hf
            have E1 : Hid (0 + X.length + Y.length = (X ++ Y).length) := Lib.hid (by rw [List.length_append]; omega)
            have E2 : Hid ([] ++ rs X ++ rs Y = rs (X ++ Y)) := Lib.hid (by rw [rs_append]; rfl)
            generalize X ++ Y = L at *
            clear CJ be
            go_wp2_with (first
              | (at_builtin; refine wpList_app_sl_g rfl _ _ 30 rfl w4.heap.size 25 i0 _ 5 40 Tryd.underlying30 hi hz0 hz1 hz2 rfl (by omega) (.slice none 0 0) 0 [] rfl (World.ownsRow_nil _ _ _ _) A3 X.length c3 (rs X) rfl hrX (rs_one X) (by unfold maxLen; omega) (by omega) (Nat.le_refl _) ?_; intro v5 w5 hown5 hg5; have hb5 : Below w4.heap.size w4 w5 := (Below.refl _ _).grown hg5 (Nat.le_refl _) (by intro k hk; cases hk); have hrY5 := hrY.on hb5)
              | (at_builtin; refine wpList_app_sl_g rfl _ _ 30 rfl w4.heap.size 25 i0 _ 5 40 Tryd.underlying30 hi hz0 hz1 hz2 rfl (by omega) v5 (0 + X.length) ([] ++ rs X) rfl hown5 A4 Y.length c4 (rs Y) rfl hrY5 (rs_one Y) (by unfold maxLen; omega) (by omega) hb5.size ?_; intro v6 w6 hown6 hg6; have hb6 : Below w4.heap.size w4 w6 := hb5.grown hg6 hb5.size (own_ge hown5); rw [E1.out, E2.out] at hown6; clear hown5 hg5 hg6; obtain ⟨A6, c6, rfl, hr6⟩ := SlR.of_own hown6; clear hown6))
            refine (recs_any A6 A2 c6 c2 L L _ (by omega) (by omega) hr6 (hrL4.on hb6)).mono ?_
            rintro e7 w7 ⟨rfl, hb7⟩
            rw [decide_eq_true rfl]
            go_wp2
            go_ret
            exact ⟨rfl, below_then (below_then hb4 hb6) hb7⟩
          · have bf : ((f : Int) != 0) = true := by simp; omega
            clear CJ hf
            go_wp2
            go_ret
            exact ⟨rfl, hb4⟩
  · have hd : decide ((3000 : Int) < (l.length : Int)) = true ∨ (decide ((3000 : Int) < (l.length : Int)) = false ∧ decide (i < 0) = true) ∨ (decide ((3000 : Int) < (l.length : Int)) = false ∧ decide (i < 0) = false ∧ decide ((l.length : Int) < i) = true) := by
      simp only [decide_eq_true_eq, decide_eq_false_iff_not]
      omega
    clear hyes
    rcases hd with d1 | ⟨d1, d2⟩ | ⟨d1, d2, d3⟩
    all_goals
      go_enter Tryd.func5, Tryd.ntmps5
      go_wp2_with fail
      refine (awake_any _ T).mono ?_
      rintro e1 w1 ⟨rfl, hb1⟩
      go_wp2
      go_ret
      exact ⟨rfl, hb1⟩

theorem contract (H : Type) (enc : TypeId × Value → H) (W : World) (base : Nat) (args : Array Value) (ds gs : List (DataW H)) (before : List MemPlace)
    (hval0 : ∀ (j : Nat) t v, Tryd.f5.params[j]? = some t → args[j]? = some v → Value.okWide Tryd.prog W .any base t v)
    (hW : DataW.Whole enc Tryd.prog Tryd.f5.params.toList Rows.recordPartsSpec.vars false W args.toList ds gs before) (hsz : (DataW.weightsEach Tryd.prog (Tryd.f5.params.toList ++ (OpenSpec.ofChange Rows.recordPartsSpec).bare.plain.varTypes Tryd.prog) (ds ++ gs)).all (· ≤ reachBytes) = true) (hL : laidMetH Tryd.prog Rows.recordPartsRow.laid W) :
    Calls Tryd.prog 5 args W fun e W2 => ∃ v, e = .returned v ∧ Rows.recordPartsSpec.post enc Tryd.prog Tryd.f5 false true false false W args v W2 := by
  have hval : ∀ (j : Nat) t v, Tryd.f5.params[j]? = some t → args[j]? = some v → Value.okWide Tryd.prog W .any base t v := hval0
  have T := wires_of hL
  have hW2 := hW
  obtain ⟨p, q, hA0, hV, rfl, hfz, hnd⟩ := hW
  have hA : DataW.TrodAll enc Tryd.prog W 0 (fun _ => true) true Tryd.f5.params.toList args.toList ds p := hA0
  rw [Tryd.params5] at hA hval
  obtain ⟨v0, vs0, d0, ds0, p0, q0, hargs, rfl, rfl, h0, r0⟩ := trodAll_cons hA
  obtain ⟨v1, vs1, d1, ds1, p1, q1, rfl, rfl, rfl, h1, r1⟩ := trodAll_cons r0
  obtain ⟨rfl, rfl, rfl⟩ := trodAll_nil r1
  obtain rfl : args = #[v0, v1] := by cases args; simp_all
  obtain ⟨rfl, rfl⟩ := trodVars_none hV
  obtain ⟨A0, c0, l0, rfl, rd0⟩ := open_bytes (hval 0 22 v0 rfl rfl) h0
  obtain ⟨i1, rfl, b1, c1⟩ := open_i64 (hval 1 3 v1 rfl rfl) h1
  refine (walk W T A0 c0 l0 rd0 i1 b1 c1).mono fun e W2 ⟨he, hb⟩ => ?_
  subst he
  exact ⟨_, rfl, law_post (by kernel_rfl) rfl rfl (by decide +kernel) hW2 hb⟩
theorem laid_met (os : Os) : laidMetH Tryd.prog Rows.recordPartsRow.laid ((World.laidAll Tryd.prog os Rows.recordPartsRow.laid).forCall (fun _ _ => 0) ⟨#[], #[.slice none 0 0, .int .i64 0], []⟩).memory := by
  rw [MakeChecks.laidMetH_plain _ _ _ (by kernel_rfl)]
  exact laidMet_laidAll _ (by kernel_rfl) (by kernel_rfl)
theorem reads (os : Os) {H : Type} (enc : TypeId × Value → H) : ∃ places, DataW.whole enc Tryd.prog ((World.laidAll Tryd.prog os Rows.recordPartsRow.laid).forCall (fun _ _ => 0) ⟨#[], #[.slice none 0 0, .int .i64 0], []⟩).memory Tryd.f5.params.toList Rows.recordPartsSpec.vars false (#[.slice none 0 0, .int .i64 0] : Array Value).toList 8 = some ([.nil, .lit (.int .i64 0)], [], places) := ⟨[], by kernel_rfl⟩
set_option maxRecDepth 100000 in
theorem lifted (os : Os) (started : os.Started) (H : Type) (enc : TypeId × Value → H) (F : Stop.Interp) :
    ReturnsInHanded {} Tryd.checked os 5 .any ((OpenSpec.ofChange Rows.recordPartsSpec).preRow enc Tryd.prog Tryd.f5 Rows.recordPartsRow.domain false Rows.recordPartsRow.laid) (((OpenSpec.ofChange Rows.recordPartsSpec).at F).post enc Tryd.prog Tryd.f5 false true false false) := by
  obtain ⟨places, hx⟩ := reads os enc
  refine returnsInHanded_of_row (C := Tryd.checked) (s := OpenSpec.ofChange Rows.recordPartsSpec) own started (by kernel_rfl) Tryd.func5
    (witness_row_at (enc := enc) (C := Tryd.checked) false (World.laidAll Tryd.prog os Rows.recordPartsRow.laid) #[.slice none 0 0, .int .i64 0] (World.laidAll_os _ _ _) (by kernel_rfl) (by kernel_rfl) (by kernel_rfl)
      (OpenSpec.preRow_of_cond 8 hx (by kernel_rfl) (fun k hk => by cases hk) (by kernel_rfl) (laid_met os))) ?_
  intro W base args ds gs before hval hW _ _ hsz hL _ _
  exact contract H enc W base args ds gs before hval hW hsz hL
theorem said : Rows.RecordPartsSaid :=
  OpenClaim.holds_of_cond 5 Tryd.f5 rfl rfl rfl rfl rfl rfl rfl ⟨rfl, rfl, rfl, rfl, rfl⟩ rfl rfl rfl rfl rfl (by kernel_rfl) Tryd.func5 (by kernel_rfl)
    (of_decide_eq_true (by kernel_rfl)) (by unfold Func.isWrapper; first | (rw [if_pos (by decide +kernel)]; kernel_rfl) | (rw [if_neg (by decide +kernel)]; exact ⟨rfl, rfl⟩))
    (fun os started H enc _ F => by rw [OpenClaim.pre_eq_preRow]; exact lifted os started H enc F)
theorem plain (f : FuncId) (fn : Func) (hf : Tryd.pinned.checked.prog.funcNamed "truffle/trufflelaw05.RecordParts" = some f) (hfn : Tryd.pinned.checked.prog.funcs[f]? = some fn) :
    false = Tryd.pinned.checked.prog.looks [] ∧ ∀ (j : Nat) t, fn.params[j]? = some t → Tryd.pinned.checked.prog.wantsStandIn t = false := by
  obtain rfl : f = 5 := Option.some.inj ((show Tryd.prog.funcNamed "truffle/trufflelaw05.RecordParts" = some 5 by kernel_rfl).symm.trans hf) |>.symm
  obtain rfl : fn = Tryd.f5 := (Option.some.inj (Tryd.func5.symm.trans hfn)).symm
  refine ⟨by kernel_rfl, fun j t ht => ?_⟩
  have hall : (Tryd.f5.params.toList.all fun t => !Tryd.prog.wantsStandIn t) = true := by kernel_rfl
  have := List.all_eq_true.1 hall t (Array.mem_toList_iff.2 (Array.mem_of_getElem? ht))
  exact (show Tryd.prog.wantsStandIn t = false by simpa using this)
theorem proved : Rows.RecordPartsCardSaid :=
  Claim7.holds_tied_plain_at .later [] _ _ _ _ said (fun _ h => by cases h) (by kernel_rfl) (fun _ h => by cases h) recordParts_row_tie rfl ⟨rfl, rfl⟩ (by kernel_rfl) rfl plain (by kernel_rfl)
end Go.Proofs.YtpaggpcpflmpcaaDoor.lawRecordParts
