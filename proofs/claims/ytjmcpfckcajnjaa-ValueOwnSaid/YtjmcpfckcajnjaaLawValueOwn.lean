/-
  What is one's own is the same, and is changed without the other one: the statement ValueOwn, for every message.
-/
import Derived.Test.YtjmcpfckcajnjaaTrShape
import Derived.Test.YtjmcpfckcajnjaaTrRsame
import Derived.Deep.DeepHandedRow
import Derived.MakeChecks
import Derived.Lay
import Derived.Deep.RegionLaw
namespace Go.Proofs.Ytjmcpfckcajnjaa.T9.lawValueOwn
set_option maxRecDepth 100000

open Go.ChangeShapes Go.WideShapes Go.ChangeAt Go.RowKit

theorem eqB_refl {α : Type} [BEq α] [LawfulBEq α] (a : α) : (a == a) = true := by simp
/-- One way for all orders. -/
theorem once {P G : Prop} (f : Hid P → G) (h : P) : G := f (Lib.hid h)
/-- What the loops keep. -/
structure Inv (b c : Nat) (W1 : World) (u : Value) (n : Nat) (w : World) : Prop where
  sh : ShF b c w u n
  box : w.heap[c]? = some (.cells #[u] 24 (0, 0))
  low : Below b W1 w
  bc : b ≤ c
theorem Inv.step {b c : Nat} {W1 : World} {u : Value} {n : Nat} {w w' : World} (h : Inv b c W1 u n w) (s : Step b c w w') : Inv b c W1 u n w' :=
  ⟨h.sh.step s, (s.box (box_lt h.box)).trans h.box, h.low.trans s.low, h.bc⟩
theorem Inv.lt {b c : Nat} {W1 : World} {u : Value} {n : Nat} {w : World} (h : Inv b c W1 u n w) : c < w.heap.size := box_lt h.box
theorem Inv.drew {b c : Nat} {W1 : World} {u : Value} {n : Nat} {w w' : World} (h : Inv b c W1 u n w) (hb : Below w.heap.size w w') : Step b c w w' := Step.below hb (Nat.le_of_lt (Nat.lt_of_le_of_lt h.bc h.lt))
set_option maxRecDepth 1000000 in
set_option maxHeartbeats 8000000 in
theorem walk (w : World) (m : Mg) (u : Value) (k : Nat) (hm : MRd w.heap.size w k m u) :
    Calls Try.prog 4 #[.agg #[u]] w fun e w' => e = .returned (.bool true) ∧ Below w.heap.size w w' := by
  obtain ⟨D, hD⟩ : ∃ D, D = k := ⟨_, rfl⟩
  have hm0 : MRd w.heap.size w (D + 1) m u := MAt.more (by omega) _ _ hm
  clear hm hD
  obtain ⟨Am, cm, rfl⟩ := rd_shape hm0
  have X1 := heap_alloc_new w (.cells #[.slice Am m.F.length cm] 24)
  have LBD := below_new w (.cells #[.slice Am m.F.length cm] 24)
  have HM := Lib.hid (fun wx (hx : Below w.heap.size w wx) => rd_up hx hm0)
  clear hm0
  go_enter Try.func4, Try.ntmps4
  go_wp2_with fail
  refine (awake9_any _).mono ?_
  rintro e w1 ⟨rfl, hb1⟩
  have hb01 := below_then LBD hb1
  have Y1 := box_on X1 hb1
  clear X1 LBD hb1
  have y1 := bx1 Y1
  have L1 := below_new w1 (.cells #[.slice Am m.F.length cm] 24)
  have HF := Lib.hid (few_all _ (D + 1) [m] _ _ (Nat.le_refl _) (msgs1_rd (HM.out _ (below_then hb01 L1)) (heap_alloc_new w1 _)))
  go_wp2_with fail
  refine HF.out.mono ?_
  rintro e w2 ⟨r, rfl, hfit, hb2⟩
  have hb02 := below_then (below_then hb01 L1) hb2
  have Z1 := box_on Y1 (below_then L1 hb2)
  clear y1 Y1 L1 hb2 hb01 HF
  have y1 := bx1 Z1
  cases r with
  | false =>
    go_wp2
    go_ret
    exact ⟨rfl, hb02⟩
  | true =>
    have hfm := (hfit rfl m (by simp)).cnt
    have hdm := (hfit rfl m (by simp)).deep
    clear hfit
    go_wp2_with fail
    refine (rown_any _ (D + 1) m _ w2 (Nat.le_refl _) (HM.out _ hb02) (by omega) w2.heap.size (Nat.le_refl _)).mono ?_
    rintro e w3 ⟨x3, rfl, ho3, hb3⟩
    obtain ⟨A3, c3, rfl⟩ := msg_shape ho3
    have N3 := below_new w3 (.cells #[.slice A3 m.F.length c3] 24)
    have hb03 := below_then (below_then hb02 hb3) N3
    have Y3 := heap_alloc_new w3 (.cells #[.slice A3 m.F.length c3] 24)
    have Y1 := box_on Z1 (below_then hb3 N3)
    have HO3 := Lib.hid (rd_up N3 (own_rd ho3))
    clear y1 Z1 N3 ho3 hb3 hb02
    have y1 := bx1 Y1
    have y3 := bx1 Y3
    go_wp2_with fail
    obtain ⟨W3, hW3⟩ : ∃ W, W = w3.alloc (.cells #[.slice A3 m.F.length c3] 24) := ⟨_, rfl⟩
    obtain ⟨G3, hG3⟩ : ∃ G, G = w3.heap.size := ⟨_, rfl⟩
    rw [← hW3, ← hG3] at Y3 y3
    rw [← hW3] at Y1 y1 HO3 hb03 ⊢
    (try rw [← hG3])
    clear hW3 hG3
    refine (own_any9 _ (D + 1) m _ W3 (Nat.le_refl _) (HM.out _ hb03) (by omega) W3.heap.size (Nat.le_refl _)).mono ?_
    rintro e w4 ⟨x4, rfl, ho4, hb4⟩
    obtain ⟨A4, c4, rfl⟩ := msg_shape ho4
    have N4 := below_new w4 (.cells #[.slice A4 m.F.length c4] 24)
    have hb34 := below_then hb4 N4
    have Y4 := heap_alloc_new w4 (.cells #[.slice A4 m.F.length c4] 24)
    have I0 : Inv W3.heap.size w4.heap.size W3 (.slice A4 m.F.length c4) m.F.length (w4.alloc (.cells #[.slice A4 m.F.length c4] 24)) := ⟨(shape_of ho4).step (Step.below N4 hb4.size), Y4, hb34, hb4.size⟩
    have HO4 := Lib.hid (rd_up N4 (own_rd ho4))
    clear N4 ho4 hb4 Y4
    have z1 := cell_on hb34 y1
    have z3 := cell_on hb34 y3
    have z4 := bx1 I0.box
    go_wp2_with fail
    obtain ⟨W4, hW4⟩ : ∃ W, W = w4.alloc (.cells #[.slice A4 m.F.length c4] 24) := ⟨_, rfl⟩
    obtain ⟨C, hC⟩ : ∃ G, G = w4.heap.size := ⟨_, rfl⟩
    obtain ⟨b, hbE⟩ : ∃ G, G = W3.heap.size := ⟨_, rfl⟩
    have h1b := box_lt Y1
    have h3b := box_lt Y3
    rw [← hW4] at hb34 I0 HO4 z1 z3 z4 ⊢
    rw [← hC, ← hbE] at I0
    rw [← hC] at z4
    rw [← hbE] at h1b h3b
    try rw [← hC]
    have HR := Lib.hid (rsame_any9 W4.heap.size (D + 1) m m _ _ W4 (Nat.le_refl _) HO4.out (rd_up hb34 HO3.out))
    rw [eqB_yes rfl] at HR
    have HY := Lib.hid (And.intro Y1 Y3)
    have HB3 := Lib.hid hb03
    have HBE := Lib.hid hbE
    have HI0 := Lib.hid I0
    clear y1 y3 Y1 Y3 hb03 hbE I0 hb34 HO4 hW4 hC
    refine HR.out.mono ?_
    rintro e w5 ⟨rfl, hb5⟩
    have I5 := HI0.out.step (HI0.out.drew hb5)
    clear z1 z3 z4 HR HI0 hb5
    have z4 := bx1 I5.box
    go_wp2
    go_loopw [7, 8, 9] (fun i _ _ wr => ∃ k : Nat, i = .int .i64 k ∧ k ≤ m.F.length ∧ Inv b C W3 (.slice A4 m.F.length c4) m.F.length wr) (fun i _ _ _ => m.F.length - (intOf i).toNat)
    case atStart => exact ⟨0, rfl, by omega, I5⟩
    case round =>
      obtain ⟨k, rfl, hk, I⟩ := hrel
      have z4 := bx1 I.box
      have HI := Lib.hid I
      clear I I5
      by_cases hlt : k < m.F.length
      · obtain ⟨hrow, hn, hsl⟩ := HI.out.sh
        obtain ⟨g, cap, hu, hbg, hgc, hcap, hB⟩ := hrow.pos (by omega)
        simp only [Value.slice.injEq, true_and] at hu
        obtain ⟨rfl, rfl⟩ := hu
        have HBS := Lib.hid hB
        obtain ⟨⟨z0, e0⟩, uV, nV, e2, hL⟩ := hsl g c4 rfl k hlt
        obtain ⟨AV, cV', rfl⟩ := hL.1.form
        have HL := Lib.hid hL
        clear hrow hsl hB hL
        go_wp2_with fail
        go_loopw [8, 9] (fun kk _ wr => ∃ q : Nat, kk = .int .i64 q ∧ q ≤ nV ∧ Inv b C W3 (.slice (some ⟨g, 0, none⟩) m.F.length c4) m.F.length wr ∧ wr.cell? ⟨g, k * 3 + 2, none⟩ = some (.slice AV nV cV') ∧ ShL b C wr (.slice AV nV cV') nV ∧ Blk wr g 27 (c4 * 3) ∧ ∃ z, wr.cell? ⟨g, k * 3, none⟩ = some (.int .i64 z)) (fun kk _ _ => nV - (intOf kk).toNat)
        case atStart => exact ⟨0, rfl, by omega, HI.out, e2, HL.out, HBS.out, z0, e0⟩
        case round =>
          obtain ⟨q, rfl, hq, I, e2, hL, hB, z0, e0⟩ := hrel
          have z4 := bx1 I.box
          by_cases hql : q < nV
          · obtain ⟨hrv, hnv, hsv⟩ := id hL
            obtain ⟨gv, cv, hu, hbv, hcv, hcapv, hBv⟩ := hrv.pos (by omega)
            simp only [Value.slice.injEq, true_and] at hu
            obtain ⟨rfl, rfl⟩ := hu
            obtain ⟨⟨zv, f0⟩, uM, nM, f2, hRM, hnM⟩ := hsv gv cV' rfl q hql
            obtain ⟨AM, cM, rfl⟩ := hRM.form
            have HI := Lib.hid I
            have HL := Lib.hid hL
            have HRM := Lib.hid hRM
            have HBV := Lib.hid hBv
            have HBG := Lib.hid hB
            have hfz : ∀ wf, Below wr.heap.size wr wf → wf.frozen? ⟨gv, q * 3, none⟩ = false := fun wf h => ((Step.below (b := b) (c := C) h (Nat.le_of_lt (Nat.lt_of_le_of_lt I.bc I.lt))).blk _ _ _ hBv).free _
            have ff := hfz _ (Below.refl _ _).drew
            have HD := Lib.hid (I.drew (Below.refl _ _).drew)
            clear hrv hsv hBv hB hL hRM I hfz
            go_wp2_with fail
            apply once
            · intro HGO
              go_region_law (fail)
              all_goals exact HGO.out
            have hf0 : wr.cell? ⟨gv, q * 3, none⟩ = some (.int .i64 zv) := f0
            have S1 : Step b C wr (wr.setCell ⟨gv, q * 3, none⟩ (.int .i64 (IntKind.i64.wrap (zv + 1)))) := Step.set (t := 30) HBV.out hbv hcv (.inr ⟨by omega, _, rfl⟩)
            have I1 := HI.out.step S1
            have S2 := I1.drew (Below.refl _ _).drew
            have HN := Lib.hid (I1.step S2)
            have HS12 := Lib.hid (S1.trans S2)
            have e2b := HS12.out.far g _ _ (k * 3 + 2) _ HBG.out slot_msg (by omega) e2
            have f2b := HS12.out.far gv _ _ (q * 3 + 2) _ HBV.out val_msg (by omega) f2
            have HEZ := Lib.hid (HS12.out.num g _ _ (k * 3) HBG.out slot_msg (by omega) ⟨z0, e0⟩)
            have HLB := Lib.hid (HL.out.step HS12.out)
            have HRB := Lib.hid (HRM.out.step HS12.out)
            have HBGB := Lib.hid (HS12.out.blk _ _ _ HBG.out)
            have HBVB := Lib.hid (HS12.out.blk _ _ _ HBV.out)
            obtain ⟨W6, hW6⟩ : ∃ W, W = (wr.setCell ⟨gv, q * 3, none⟩ (.int .i64 (IntKind.i64.wrap (zv + 1)))).drew := ⟨_, rfl⟩
            rw [← hW6] at HN e2b f2b HEZ HLB HRB HBGB HBVB ⊢
            clear hW6 S1 I1 S2 hf0 f0 f2 e2 e0 z4 ff HS12
            go_wp2
            go_loopw [9] (fun jj wr => ∃ p : Nat, jj = .int .i64 p ∧ p ≤ nM ∧ Inv b C W3 (.slice (some ⟨g, 0, none⟩) m.F.length c4) m.F.length wr ∧ wr.cell? ⟨g, k * 3 + 2, none⟩ = some (.slice (some ⟨gv, 0, none⟩) nV cV') ∧ wr.cell? ⟨gv, q * 3 + 2, none⟩ = some (.slice AM nM cM) ∧ ShL b C wr (.slice (some ⟨gv, 0, none⟩) nV cV') nV ∧ RowT b C wr 24 1 (.slice AM nM cM) nM ∧ Blk wr g 27 (c4 * 3) ∧ Blk wr gv 30 (cV' * 3) ∧ ∃ z, wr.cell? ⟨g, k * 3, none⟩ = some (.int .i64 z)) (fun jj _ => nM - (intOf jj).toNat)
            case atStart => exact ⟨0, rfl, by omega, HN.out, e2b, f2b, HLB.out, HRB.out, HBGB.out, HBVB.out, HEZ.out⟩
            case round =>
              obtain ⟨p, rfl, hp, I, e2, f2, hL, hRM, hBG, hBV, hez⟩ := hrel
              have z4 := bx1 I.box
              by_cases hpl : p < nM
              · obtain ⟨gm, cm', hu, hbm, hcm, hcapm, hBm⟩ := hRM.pos (by omega)
                simp only [Value.slice.injEq, true_and] at hu
                obtain ⟨rfl, rfl⟩ := hu
                have N1 := below_new wr (.cells #[.int .i64 (-7), .slice none 0 0, .slice none 0 0] 27)
                have S1 := I.drew N1
                have hBm1 := S1.blk _ _ _ hBm
                obtain ⟨v0, hv0⟩ := hBm1.cell (j := p) (by omega)
                have ff := hBm1.free p
                have S2 : Step b C (wr.alloc (.cells #[.int .i64 (-7), .slice none 0 0, .slice none 0 0] 27)) ((wr.alloc (.cells #[.int .i64 (-7), .slice none 0 0, .slice none 0 0] 27)).setCell ⟨gm, p, none⟩ (.slice (some ⟨wr.heap.size, 0, none⟩) 1 1)) := Step.set hBm1 hbm hcm (.inl rfl)
                have HS := Lib.hid (S1.trans S2)
                have HI := Lib.hid (I.step HS.out)
                have HR := Lib.hid (And.intro (HS.out.far g _ _ (k * 3 + 2) _ hBG slot_msg (by omega) e2) (And.intro (HS.out.far gv _ _ (q * 3 + 2) _ hBV val_msg (by omega) f2) (And.intro (hL.step HS.out) (And.intro (hRM.step HS.out) (And.intro (HS.out.blk _ _ _ hBG) (And.intro (HS.out.blk _ _ _ hBV) (HS.out.num g _ _ (k * 3) hBG slot_msg (by omega) hez)))))))
                clear S1 S2 hBm hBm1 hRM hL hBG hBV hez I N1
                go_wp2
                exact ⟨⟨p + 1, by go_num, by omega, HI.out, HR.out⟩, by simp [intOf]; omega⟩
              · obtain rfl : p = nM := by omega
                have HI := Lib.hid I
                have HR := Lib.hid (And.intro e2 (And.intro hL (And.intro hBG hez)))
                clear I hL hBG hBV hez hRM
                go_wp2
                exact ⟨⟨q + 1, by go_num, by omega, HI.out, HR.out.1, HR.out.2.1, HR.out.2.2.1, HR.out.2.2.2⟩, by simp [intOf]; omega⟩
          · obtain rfl : q = nV := by omega
            have HI := Lib.hid I
            have HBG := Lib.hid hB
            have hfz := HBG.out.free (k * 3)
            have HD := Lib.hid (I.drew (Below.refl _ _).drew)
            have ff := ((I.drew (Below.refl _ _).drew).blk _ _ _ hB).free (k * 3)
            clear I hB hL
            go_wp2_with fail
            apply once
            · intro HGO
              go_region_law (fail)
              all_goals exact HGO.out
            have S1 : Step b C wr (wr.setCell ⟨g, k * 3, none⟩ (.int .i64 (wrap64 (z0 + 1)))) := Step.set (t := 27) HBG.out hbg hgc (.inr ⟨by omega, _, rfl⟩)
            have I1 := HI.out.step S1
            have HN := Lib.hid (I1.step (I1.drew (Below.refl _ _).drew))
            clear S1 I1
            go_wp2
            exact ⟨⟨k + 1, by go_num, by omega, HN.out⟩, by simp [intOf]; omega⟩
      · obtain rfl : k = m.F.length := by omega
        have hY1 := (HI.out.low.block _ h1b).trans HY.out.1
        have hY3 := (HI.out.low.block _ h3b).trans HY.out.2
        have y1 := bx1 hY1
        have y3 := bx1 hY3
        have hbr : b ≤ wr.heap.size := Nat.le_of_lt (Nat.lt_of_le_of_lt HI.out.bc HI.out.lt)
        have hlo : Lo W3.heap.size W3 wr := Lo.of (HBE.out ▸ HI.out.low)
        have HR := Lib.hid (rsame_any9 W3.heap.size (D + 1) m m _ _ wr (HBE.out ▸ hbr) (MRd.low hlo (HM.out _ HB3.out)) (MRd.low hlo HO3.out))
        rw [eqB_yes rfl] at HR
        have HW := Lib.hid (HB3.out.trans (HI.out.low.mono (Nat.le_of_lt h1b)))
        clear hY1 hY3 hlo
        go_wp2_with fail
        refine HR.out.mono ?_
        rintro e w9 ⟨rfl, hb9⟩
        go_wp2
        go_ret
        exact ⟨rfl, below_then HW.out hb9⟩
theorem contract (H : Type) (enc : TypeId × Value → H) (W : World) (base : Nat) (args : Array Value) (ds gs : List (DataW H)) (before : List MemPlace)
    (hval0 : ∀ (j : Nat) t v, Try.f4.params[j]? = some t → args[j]? = some v → Value.okWide Try.prog W .any base t v)
    (hW : DataW.Whole enc Try.prog Try.f4.params.toList Rows.valueOwnSpec.vars false W args.toList ds gs before) (hsz : (DataW.weightsEach Try.prog (Try.f4.params.toList ++ (OpenSpec.ofChange Rows.valueOwnSpec).bare.plain.varTypes Try.prog) (ds ++ gs)).all (· ≤ reachBytes) = true) (hL : laidMetH Try.prog Rows.valueOwnRow.laid W) :
    Calls Try.prog 4 args W fun e W2 => ∃ v, e = .returned v ∧ Rows.valueOwnSpec.post enc Try.prog Try.f4 false true false false W args v W2 := by
  have hval : ∀ (j : Nat) t v, Try.f4.params[j]? = some t → args[j]? = some v → Value.okWide Try.prog W .any base t v := hval0
  have hW2 := hW
  obtain ⟨p, q, hA0, hV, rfl, hfz, hnd⟩ := hW
  have hA : DataW.TrodAll enc Try.prog W 0 (fun _ => true) true Try.f4.params.toList args.toList ds p := hA0
  rw [Try.params4] at hA hval
  obtain ⟨v0, vs0, d0, ds0, p0, q0, hargs, rfl, rfl, h0, r0⟩ := trodAll_cons hA
  obtain ⟨rfl, rfl, rfl⟩ := trodAll_nil r0
  obtain rfl : args = #[v0] := by cases args; simp_all
  obtain ⟨rfl, rfl⟩ := trodVars_none hV
  obtain ⟨mg0, u0, k0, rfl, hm0⟩ := open_msg (hval 0 24 v0 rfl rfl) h0 (szd_each (fun k hk => of_decide_eq_true (List.all_eq_true.1 hsz k hk)) 0 _ _ rfl rfl)
  refine (walk W mg0 u0 k0 hm0).mono fun e W2 ⟨he, hb⟩ => ?_
  subst he
  exact ⟨_, rfl, law_post (by kernel_rfl) rfl rfl (by decide +kernel) hW2 hb⟩
theorem laid_met (os : Os) : laidMetH Try.prog Rows.valueOwnRow.laid ((World.laidAll Try.prog os Rows.valueOwnRow.laid).forCall (fun _ _ => 0) ⟨#[], #[.agg #[.slice none 0 0]], []⟩).memory := by
  rw [MakeChecks.laidMetH_plain _ _ _ (by kernel_rfl)]
  exact laidMet_laidAll _ (by kernel_rfl) (by kernel_rfl)
theorem reads (os : Os) {H : Type} (enc : TypeId × Value → H) : ∃ places, DataW.whole enc Try.prog ((World.laidAll Try.prog os Rows.valueOwnRow.laid).forCall (fun _ _ => 0) ⟨#[], #[.agg #[.slice none 0 0]], []⟩).memory Try.f4.params.toList Rows.valueOwnSpec.vars false (#[.agg #[.slice none 0 0]] : Array Value).toList 8 = some ([.agg [.nil]], [], places) := ⟨[], by kernel_rfl⟩
set_option maxRecDepth 100000 in
theorem lifted (os : Os) (started : os.Started) (H : Type) (enc : TypeId × Value → H) (F : Stop.Interp) :
    ReturnsInHanded {} Try.checked os 4 .any ((OpenSpec.ofChange Rows.valueOwnSpec).preRow enc Try.prog Try.f4 Rows.valueOwnRow.domain false Rows.valueOwnRow.laid) (((OpenSpec.ofChange Rows.valueOwnSpec).at F).post enc Try.prog Try.f4 false true false false) := by
  obtain ⟨places, hx⟩ := reads os enc
  refine returnsInHanded_of_row (C := Try.checked) (s := OpenSpec.ofChange Rows.valueOwnSpec) own started (by kernel_rfl) Try.func4
    (witness_row_at (enc := enc) (C := Try.checked) false (World.laidAll Try.prog os Rows.valueOwnRow.laid) #[.agg #[.slice none 0 0]] (World.laidAll_os _ _ _) (by kernel_rfl) (by kernel_rfl) (by kernel_rfl)
      (OpenSpec.preRow_of_cond 8 hx (by kernel_rfl) (fun k hk => by cases hk) (by kernel_rfl) (laid_met os))) ?_
  intro W base args ds gs before hval hW _ _ hsz hL _ _
  exact contract H enc W base args ds gs before hval hW hsz hL
theorem said : Rows.ValueOwnSaid :=
  OpenClaim.holds_of_cond 4 Try.f4 rfl rfl rfl rfl rfl rfl rfl ⟨rfl, rfl, rfl, rfl, rfl⟩ rfl rfl rfl rfl rfl (by kernel_rfl) Try.func4 (by kernel_rfl)
    (of_decide_eq_true (by kernel_rfl)) (by unfold Func.isWrapper; first | (rw [if_pos (by decide +kernel)]; kernel_rfl) | (rw [if_neg (by decide +kernel)]; exact ⟨rfl, rfl⟩))
    (fun os started H enc _ F => by rw [OpenClaim.pre_eq_preRow]; exact lifted os started H enc F)
theorem proved : Rows.ValueOwnSaid := said

end Go.Proofs.Ytjmcpfckcajnjaa.T9.lawValueOwn
