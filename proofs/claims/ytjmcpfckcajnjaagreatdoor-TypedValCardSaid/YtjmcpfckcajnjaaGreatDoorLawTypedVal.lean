/-
  A value is of a field's kind just if the message that has it alone, in that field, is of its message, where that is no map: the statement TypedVal, for every schema, message's number, field's number and value.
-/
import Derived.Test.YtjmcpfckcajnjaaGreatDoorRtFind
import Derived.Deep.RegionHeld3
namespace Go.Proofs.YtjmcpfckcajnjaaGreatDoor.T9.lawTypedVal
set_option maxRecDepth 100000
open Go.ChangeShapes Go.WideShapes Go.ChangeAt Go.RowKit
open Go.Proofs.YtjmcpfckcajnjaaGreatDoor.T4

/-- A value alone, in a field. -/
def aloneS (no : Int) (v : Vl') : So := ⟨no, [], [v]⟩
theorem byS_at {s : Sc} {m no : Int} {f : Df} (hf : byS s m no = some f) : 0 ≤ m ∧ m < s.M.length := by
  unfold byS msgAt at hf
  by_cases h0 : m < 0
  · rw [if_pos h0] at hf; simp at hf
  · rw [if_neg h0] at hf
    cases hm : s.M[m.toNat]? with
    | none => rw [hm] at hf; simp at hf
    | some d =>
      have hlt := (List.getElem?_eq_some_iff.1 hm).1
      exact ⟨by omega, by omega⟩
theorem claim_first (f : Df) : claimB [] f = true := by
  unfold claimB
  by_cases h : f.one = 0
  · simp [h]
  · have h2 : ¬ (0 : Int) = f.one := fun e => h e.symm
    simp [h, h2]
theorem may_alone {s : Sc} {m no : Int} {f : Df} {v : Vl'} (hf : byS s m no = some f) (hk : f.key = -1) : mayT s m (.mk [aloneS no v]) = valT s f.kind f.ref v := by
  have hm := byS_at hf
  have e : isB s 64 m (.mk [aloneS no v]) = valB s 63 f.kind f.ref v := by
    show (decide (0 ≤ m ∧ m < s.M.length) && slotsG (byS s m) (fillG (isB s 63)) [] [aloneS no v]) = _
    rw [decide_eq_true hm, Bool.true_and, slotsG_cons, show (aloneS no v).no = no from rfl, hf]
    simp only [claim_first, slotsG, Bool.true_and, Bool.and_true]
    unfold fillG manyB
    rw [if_pos hk]
    simp [aloneS, valB]
  unfold mayT valT
  rw [e]
theorem may_nofield {s : Sc} {m no : Int} {v : Vl'} (hf : byS s m no = none) : mayT s m (.mk [aloneS no v]) = false := by
  have e : isB s 64 m (.mk [aloneS no v]) = false := by
    show (decide (0 ≤ m ∧ m < s.M.length) && slotsG (byS s m) (fillG (isB s 63)) [] [aloneS no v]) = _
    rw [slotsG_cons, show (aloneS no v).no = no from rfl, hf, Bool.and_false]
  unfold mayT
  rw [e, Bool.and_false]
theorem sat_up {w w' : World} {s : Sc} {vM vE : Value} (h : SAt w.heap.size w s vM vE) (hb : Below w.heap.size w w') : SAt w'.heap.size w' s vM vE := SAt.mono (SAt.lo h hb (Nat.le_refl _)) hb.size
theorem vrd_up {D : Nat} {w w' : World} {v : Vl'} {cs : List Value} (hb : Below w.heap.size w w') (h : VAt (Rd w.heap.size w) D v cs) : VAt (Rd w'.heap.size w') D v cs := VRd.mono hb.size (VRd.low (Lo.below hb (Nat.le_refl _)) h)
theorem alone_rd {D g1 g2 : Nat} {w : World} {no : Int} {v : Vl'} {x y z : Value} {t1 t2 : TypeId} {fr1 fr2 : Nat × Nat} (hv : VAt (Rd w.heap.size w) D v [x, y, z]) (h1 : w.heap[g1]? = some (.cells #[x, y, z] t1 fr1)) (h2 : w.heap[g2]? = some (.cells #[.int .i64 no, .slice none 0 0, .slice (some ⟨g1, 0, none⟩) 1 1] t2 fr2)) :
    MRd w.heap.size w (D + 1) (.mk [aloneS no v]) (.slice (some ⟨g2, 0, none⟩) 1 1) :=
  one_rd (s := aloneS no v) ⟨_, _, rfl, ⟨[], ⟨Rr.nil _ _ _, Nat.zero_le _⟩, rfl⟩, ⟨[x, y, z], lit_row (n := 1) (size := 3) (xs := [x, y, z]) h1 rfl (by decide) (box_lt h1) _, Rows.single hv⟩⟩ h2
theorem alone_in {no : Int} {v : Vl'} (hn : inI no) (hv : VIn v) : MIn (.mk [aloneS no v]) := .of fun s hs => by
  obtain rfl : s = aloneS no v := by simpa [Mg.F] using hs
  refine ⟨hn, fun x hx => ?_⟩
  obtain rfl : x = v := by simpa [aloneS] using hx
  exact hv
theorem alone_cnt (no : Int) (v : Vl') : (Mg.mk [aloneS no v]).cnt = 1 + cV v := by
  rw [cnt_one]
  unfold cS aloneS
  simp [sm]
theorem rby_found {B : Nat} {s : Sc} {vM vE : Value} {m x : Int} {f : Df} (hf : byS s m x = some f) (w : World) (hB : B ≤ w.heap.size) (hs : SAt B w s vM vE) :
    Calls Tryz.prog 24 #[.agg #[vM, vE], .int .i64 m, .int .i64 x] w fun e w' => e = .returned (.tuple #[.agg #[.int .i64 f.no, .string (txt f.name), .int .i64 f.kind, .int .i64 f.ref, .bool f.rep, .int .i64 f.key, .int .i64 f.one], .bool true]) ∧ Below w.heap.size w w' :=
  (rBy_any B s vM vE m x w hB hs).mono fun e w' h => ⟨by rw [h.1, hf]; rfl, h.2⟩
theorem rby_none {B : Nat} {s : Sc} {vM vE : Value} {m x : Int} (hf : byS s m x = none) (w : World) (hB : B ≤ w.heap.size) (hs : SAt B w s vM vE) :
    Calls Tryz.prog 24 #[.agg #[vM, vE], .int .i64 m, .int .i64 x] w fun e w' => e = .returned (.tuple #[.agg #[.int .i64 0, .string ⟨#[]⟩, .int .i64 0, .int .i64 0, .bool false, .int .i64 0, .int .i64 0], .bool false]) ∧ Below w.heap.size w w' :=
  (rBy_any B s vM vE m x w hB hs).mono fun e w' h => ⟨by rw [h.1, hf]; rfl, h.2⟩
set_option maxRecDepth 1000000 in
set_option maxHeartbeats 8000000 in
theorem walk (w : World) (T : Tabs w) (s : Sc) (vM vE : Value) (hs0 : SAt w.heap.size w s vM vE) (hin : ScIn s) (m : Int) (hm1 : -9223372036854775808 ≤ m) (hm2 : m ≤ 9223372036854775807) (no : Int) (hn1 : -9223372036854775808 ≤ no) (hn2 : no ≤ 9223372036854775807)
    (v : Vl') (u : Value) (D : Nat) (hv0 : VAt (Rd w.heap.size w) D v [.int .i64 v.n, .string (tx v.s), u]) (hi : VIn v) :
    Calls Tryz.prog 8 #[.agg #[vM, vE], .int .i64 m, .int .i64 no, .agg #[.int .i64 v.n, .string (tx v.s), u]] w fun e w' => e = .returned (.bool true) ∧ Below w.heap.size w w' := by
  obtain ⟨A1, q1, A2, q2, rfl, rfl⟩ := sat_shape hs0
  obtain ⟨Av, cv, -, -, rfl⟩ := val_shape hv0
  obtain ⟨X1, X2, LBD⟩ := two_boxes w (.cells #[.slice A1 s.M.length q1, .slice A2 s.E.length q2] 25) (.cells #[.int .i64 v.n, .string (tx v.s), .slice Av v.M.length cv] 31)
  have HS := Lib.hid (fun wx (h : Below w.heap.size w wx) => sat_up hs0 h)
  have HV := Lib.hid (fun wx (h : Below w.heap.size w wx) => vrd_up h hv0)
  have HT := Lib.hid T
  have hno : inI no := ⟨hn1, hn2⟩
  have HXI := Lib.hid (alone_in hno hi)
  clear hs0 hv0 T hm1 hm2 hn1 hn2 hno
  go_enter Tryz.func8, Tryz.ntmps8
  go_wp2_with fail
  refine (awake10_any _ (HT.out.on LBD)).mono ?_
  rintro e w1 ⟨rfl, hb1⟩
  have hb01 := below_then LBD hb1
  have Y1 := box_on X1 hb1
  have Y2 := box_on X2 hb1
  clear X1 X2 LBD hb1
  obtain ⟨y1, y2⟩ := box2' Y1
  obtain ⟨p0, p1, p2⟩ := bx3 Y2
  obtain ⟨T1, T2, T3, L3⟩ := three_boxes w1 (.cells #[.int .i64 v.n, .string (tx v.s), .slice Av v.M.length cv] 31) (.cells #[.int .i64 no, .slice none 0 0, .slice (some ⟨w1.heap.size, 0, none⟩) 1 1] 36) (.cells #[.slice (some ⟨w1.heap.size + 1, 0, none⟩) 1 1] 28)
  have hb03 := below_then hb01 L3
  have Z1 := box_on Y1 L3
  have Z2 := box_on Y2 L3
  obtain ⟨a1, a2⟩ := box2' Z1
  have a3 := bx1 T3
  go_wp2_with fail
  obtain ⟨W3, hW3⟩ : ∃ W, W = (((w1.alloc (.cells #[.int .i64 v.n, .string (tx v.s), .slice Av v.M.length cv] 31)).alloc (.cells #[.int .i64 no, .slice none 0 0, .slice (some ⟨w1.heap.size, 0, none⟩) 1 1] 36)).alloc (.cells #[.slice (some ⟨w1.heap.size + 1, 0, none⟩) 1 1] 28)) := ⟨_, rfl⟩
  rw [← hW3] at T1 T2 T3 L3 hb03 Z1 Z2 ⊢
  clear hW3 y1 y2 p0 p1 p2 Y1 Y2 L3 hb01 a1 a2 a3
  have HX := Lib.hid (fun wx (h : Below W3.heap.size W3 wx) => alone_rd (HV.out wx (below_then hb03 h)) (box_on T1 h) (box_on T2 h))
  have HC := Lib.hid (fun wx (h : Below W3.heap.size W3 wx) => And.intro (box2' (box_on Z1 h)) (And.intro (bx3 (box_on Z2 h)) (bx1 (box_on T3 h))))
  have HB := Lib.hid (fun wx (h : Below W3.heap.size W3 wx) => below_then hb03 h)
  have LR : Below W3.heap.size W3 W3 := Below.refl _ _
  clear T1 T2 T3 Z1 Z2 hb03
  refine (few10_any _ (D + 1) s _ _ (.mk [aloneS no v]) _ W3 (Nat.le_refl _) (HS.out _ (HB.out _ LR)) (HX.out _ LR)).mono ?_
  rintro e w2 ⟨r, rfl, hfit, hb2⟩
  have HFI := Lib.hid hfit
  obtain ⟨⟨y1, y2⟩, ⟨p0, p1, p2⟩, k0⟩ := HC.out _ hb2
  clear hfit
  cases hby : byS s m no with
  | none =>
    have HBY := Lib.hid (rby_none hby w2 (Nat.le_refl _) (HS.out _ (HB.out _ hb2)))
    have HMF := Lib.hid (may_nofield (v := v) hby)
    cases r with
    | false =>
      go_wp2_with fail
      refine HBY.out.mono ?_
      rintro e w3 ⟨rfl, hb3⟩
      go_wp2
      go_ret
      exact ⟨rfl, below_lit (below_then (HB.out _ hb2) hb3) _⟩
    | true =>
      have hcx := (HFI.out rfl).cnt
      go_wp2_with fail
      refine HBY.out.mono ?_
      rintro e w3 ⟨rfl, hb3⟩
      have N3 := below_new w3 (.cells #[.int .i64 0, .string ⟨#[]⟩, .int .i64 0, .int .i64 0, .bool false, .int .i64 0, .int .i64 0] 48)
      have hb4 := below_then (below_then hb2 hb3) N3
      obtain ⟨⟨z1, z2⟩, -, z3⟩ := HC.out _ hb4
      have HM := Lib.hid (tmay_any hin _ (D + 1) _ _ m (.mk [aloneS no v]) _ _ (Nat.le_refl _) (HS.out _ (HB.out _ hb4)) (HX.out _ hb4) HXI.out (by omega) (HT.out.on (HB.out _ hb4)))
      rw [HMF.out] at HM
      clear y1 y2 p0 p1 p2 k0 hby N3
      go_wp2_with fail
      refine HM.out.mono ?_
      rintro e w4 ⟨rfl, hb5⟩
      go_wp2
      go_ret
      exact ⟨rfl, below_then (HB.out _ hb4) hb5⟩
  | some f =>
    have HBY := Lib.hid (rby_found hby w2 (Nat.le_refl _) (HS.out _ (HB.out _ hb2)))
    have HMA := Lib.hid (fun h => may_alone (v := v) hby h)
    clear hby
    cases r with
    | false =>
      go_wp2_with fail
      refine HBY.out.mono ?_
      rintro e w3 ⟨rfl, hb3⟩
      go_wp2
      go_ret
      exact ⟨rfl, below_lit (below_then (HB.out _ hb2) hb3) _⟩
    | true =>
      have hcx := (HFI.out rfl).cnt
      have hcv : cV v ≤ 100000 := by rw [alone_cnt] at hcx; omega
      by_cases hk : f.key = -1
      · have e1 : (f.key != -1) = false := by simp [hk]
        have HMAA := Lib.hid (HMA.out hk)
        clear hk
        go_wp2_with fail
        refine HBY.out.mono ?_
        rintro e w3 ⟨rfl, hb3⟩
        have N3 := below_new w3 (dC f)
        have X3 := heap_alloc_new w3 (dC f)
        have hb4 := below_then (below_then hb2 hb3) N3
        go_wp2_with fail
        have HSX : Hid (∀ wx, Below (w3.alloc (dC f)).heap.size (w3.alloc (dC f)) wx → ((wx.cell? ⟨w.heap.size, 0, none⟩ = some (.slice A1 s.M.length q1) ∧ wx.cell? ⟨w.heap.size, 1, none⟩ = some (.slice A2 s.E.length q2)) ∧ (wx.cell? ⟨w.heap.size + 1, 0, none⟩ = some (.int .i64 v.n) ∧ wx.cell? ⟨w.heap.size + 1, 1, none⟩ = some (.string (tx v.s)) ∧ wx.cell? ⟨w.heap.size + 1, 2, none⟩ = some (.slice Av v.M.length cv)) ∧ wx.cell? ⟨w1.heap.size + 2, 0, none⟩ = some (.slice (some ⟨w1.heap.size + 1, 0, none⟩) 1 1)) ∧ wx.cell? ⟨w3.heap.size, 2, none⟩ = some (.int .i64 f.kind) ∧ wx.cell? ⟨w3.heap.size, 3, none⟩ = some (.int .i64 f.ref)) := Lib.hid (fun wx h => by
          have h2 := heap_cell (box_on X3 h) 2
          have h3 := heap_cell (box_on X3 h) 3
          simp at h2 h3
          exact ⟨HC.out _ (below_then hb4 h), h2, h3⟩)
        have HM := Lib.hid (fun wx (h : Below (w3.alloc (dC f)).heap.size (w3.alloc (dC f)) wx) => tmay_any hin _ (D + 1) _ _ m (.mk [aloneS no v]) _ wx (Nat.le_refl _) (HS.out _ (HB.out _ (below_then hb4 h))) (HX.out _ (below_then hb4 h)) HXI.out (by omega) (HT.out.on (HB.out _ (below_then hb4 h))))
        have HVL := Lib.hid (fun wx (h : Below (w3.alloc (dC f)).heap.size (w3.alloc (dC f)) wx) => tval_any hin _ D _ _ f.kind f.ref v _ wx (Nat.le_refl _) (HS.out _ (HB.out _ (below_then hb4 h))) (HV.out _ (HB.out _ (below_then hb4 h))) hi hcv (HT.out.on (HB.out _ (below_then hb4 h))))
        rw [HMAA.out] at HM
        obtain ⟨b, hb⟩ : ∃ b, valT s f.kind f.ref v = b := ⟨_, rfl⟩
        rw [hb] at HM HVL
        have LD : Below (w3.alloc (dC f)).heap.size (w3.alloc (dC f)) (w3.alloc (dC f)).drew := (Below.refl _ _).drew
        clear y1 y2 p0 p1 p2 k0 X3 N3 hb hcx hcv HMAA HMA
        go_region_held3 (fun wx => ((wx.cell? ⟨w.heap.size, 0, none⟩ = some (.slice A1 s.M.length q1) ∧ wx.cell? ⟨w.heap.size, 1, none⟩ = some (.slice A2 s.E.length q2)) ∧ (wx.cell? ⟨w.heap.size + 1, 0, none⟩ = some (.int .i64 v.n) ∧ wx.cell? ⟨w.heap.size + 1, 1, none⟩ = some (.string (tx v.s)) ∧ wx.cell? ⟨w.heap.size + 1, 2, none⟩ = some (.slice Av v.M.length cv)) ∧ wx.cell? ⟨w1.heap.size + 2, 0, none⟩ = some (.slice (some ⟨w1.heap.size + 1, 0, none⟩) 1 1)) ∧ wx.cell? ⟨w3.heap.size, 2, none⟩ = some (.int .i64 f.kind) ∧ wx.cell? ⟨w3.heap.size, 3, none⟩ = some (.int .i64 f.ref))
          (first | exact HSX.out _ LD | exact HSX.out _ L6 | exact HSX.out _ L7 | go_keep)
          ((first
            | (go_at_call 15; refine (HM.out _ LD).mono ?_; rintro e w6 ⟨rfl, hb6⟩; have L6 := LD.trans hb6)
            | (go_at_call 19; refine (HVL.out _ L6).mono ?_; rintro e w7 ⟨rfl, hb7⟩; have L7 := below_then L6 hb7)
            | fail))
        go_wp2
        go_ret
        exact ⟨by simp, HB.out _ (below_then hb4 L7)⟩
      · have e1 : (f.key != -1) = true := by simp [hk]
        clear hk
        go_wp2_with fail
        refine HBY.out.mono ?_
        rintro e w3 ⟨rfl, hb3⟩
        go_wp2
        go_ret
        exact ⟨rfl, below_lit (below_then (HB.out _ hb2) hb3) _⟩
theorem contract (H : Type) (enc : TypeId × Value → H) (W : World) (base : Nat) (args : Array Value) (ds gs : List (DataW H)) (before : List MemPlace)
    (hval0 : ∀ (j : Nat) t v, Tryz.f8.params[j]? = some t → args[j]? = some v → Value.okWide Tryz.prog W .any base t v)
    (hW : DataW.Whole enc Tryz.prog Tryz.f8.params.toList Rows.typedValSpec.vars false W args.toList ds gs before) (hsz : (DataW.weightsEach Tryz.prog (Tryz.f8.params.toList ++ (OpenSpec.ofChange Rows.typedValSpec).bare.plain.varTypes Tryz.prog) (ds ++ gs)).all (· ≤ reachBytes) = true) (hL : laidMetH Tryz.prog Rows.typedValRow.laid W) :
    Calls Tryz.prog 8 args W fun e W2 => ∃ v, e = .returned v ∧ Rows.typedValSpec.post enc Tryz.prog Tryz.f8 false true false false W args v W2 := by
  have hval : ∀ (j : Nat) t v, Tryz.f8.params[j]? = some t → args[j]? = some v → Value.okWide Tryz.prog W .any base t v := hval0
  have T := laid10 hL
  have hW2 := hW
  obtain ⟨p, q, hA0, hV, rfl, hfz, hnd⟩ := hW
  have hA : DataW.TrodAll enc Tryz.prog W 0 (fun _ => true) true Tryz.f8.params.toList args.toList ds p := hA0
  rw [Tryz.params8] at hA hval
  obtain ⟨v0, vs0, d0, ds0, p0, q0, hargs, rfl, rfl, h0, r0⟩ := trodAll_cons hA
  obtain ⟨v1, vs1, d1, ds1, p1, q1, rfl, rfl, rfl, h1, r1⟩ := trodAll_cons r0
  obtain ⟨v2, vs2, d2, ds2, p2, q2, rfl, rfl, rfl, h2, r2⟩ := trodAll_cons r1
  obtain ⟨v3, vs3, d3, ds3, p3, q3, rfl, rfl, rfl, h3, r3⟩ := trodAll_cons r2
  obtain ⟨rfl, rfl, rfl⟩ := trodAll_nil r3
  obtain rfl : args = #[v0, v1, v2, v3] := by cases args; simp_all
  obtain ⟨rfl, rfl⟩ := trodVars_none hV
  obtain ⟨sc0, vM0, vE0, rfl, fa0, fi0⟩ := open_schema (hval 0 25 v0 rfl rfl) h0
  obtain ⟨i1, rfl, b1, c1⟩ := open_i64 (hval 1 3 v1 rfl rfl) h1
  obtain ⟨i2, rfl, b2, c2⟩ := open_i64 (hval 2 3 v2 rfl rfl) h2
  obtain ⟨va3, u3, k3, rfl, hm3, hi3⟩ := open_vaI (hval 3 31 v3 rfl rfl) h3 (szd_each (fun k hk => of_decide_eq_true (List.all_eq_true.1 hsz k hk)) 3 _ _ rfl rfl)
  refine (walk W T sc0 vM0 vE0 fa0 fi0 i1 b1 c1 i2 b2 c2 va3 u3 k3 hm3 hi3).mono fun e W2 ⟨he, hb⟩ => ?_
  subst he
  exact ⟨_, rfl, law_post (by kernel_rfl) rfl rfl (by decide +kernel) hW2 hb⟩
theorem laid_met (os : Os) : laidMetH Tryz.prog Rows.typedValRow.laid ((World.laidAll Tryz.prog os Rows.typedValRow.laid).forCall (fun _ _ => 0) ⟨#[], #[.agg #[.slice none 0 0, .slice none 0 0], .int .i64 0, .int .i64 0, .agg #[.int .i64 0, .string .empty, .slice none 0 0]], []⟩).memory := by
  rw [MakeChecks.laidMetH_plain _ _ _ (by kernel_rfl)]
  exact laidMet_laidAll _ (by kernel_rfl) (by kernel_rfl)
theorem reads (os : Os) {H : Type} (enc : TypeId × Value → H) : ∃ places, DataW.whole enc Tryz.prog ((World.laidAll Tryz.prog os Rows.typedValRow.laid).forCall (fun _ _ => 0) ⟨#[], #[.agg #[.slice none 0 0, .slice none 0 0], .int .i64 0, .int .i64 0, .agg #[.int .i64 0, .string .empty, .slice none 0 0]], []⟩).memory Tryz.f8.params.toList Rows.typedValSpec.vars false (#[.agg #[.slice none 0 0, .slice none 0 0], .int .i64 0, .int .i64 0, .agg #[.int .i64 0, .string .empty, .slice none 0 0]] : Array Value).toList 8 = some ([.agg [.nil, .nil], .lit (.int .i64 0), .lit (.int .i64 0), .agg [.lit (.int .i64 0), .lit (.string []), .nil]], [], places) := ⟨[], by kernel_rfl⟩
set_option maxRecDepth 100000 in
theorem lifted (os : Os) (started : os.Started) (H : Type) (enc : TypeId × Value → H) (F : Stop.Interp) :
    ReturnsInHanded {} Tryz.checked os 8 .any ((OpenSpec.ofChange Rows.typedValSpec).preRow enc Tryz.prog Tryz.f8 Rows.typedValRow.domain false Rows.typedValRow.laid) (((OpenSpec.ofChange Rows.typedValSpec).at F).post enc Tryz.prog Tryz.f8 false true false false) := by
  obtain ⟨places, hx⟩ := reads os enc
  refine returnsInHanded_of_row (C := Tryz.checked) (s := OpenSpec.ofChange Rows.typedValSpec) own started (by kernel_rfl) Tryz.func8
    (witness_row_at (enc := enc) (C := Tryz.checked) false (World.laidAll Tryz.prog os Rows.typedValRow.laid) #[.agg #[.slice none 0 0, .slice none 0 0], .int .i64 0, .int .i64 0, .agg #[.int .i64 0, .string .empty, .slice none 0 0]] (World.laidAll_os _ _ _) (by kernel_rfl) (by kernel_rfl) (by kernel_rfl)
      (OpenSpec.preRow_of_cond 8 hx (by kernel_rfl) (fun k hk => by cases hk) (by kernel_rfl) (laid_met os))) ?_
  intro W base args ds gs before hval hW _ _ hsz hL _ _
  exact contract H enc W base args ds gs before hval hW hsz hL
theorem said : Rows.TypedValSaid :=
  OpenClaim.holds_of_cond 8 Tryz.f8 rfl rfl rfl rfl rfl rfl rfl ⟨rfl, rfl, rfl, rfl, rfl⟩ rfl rfl rfl rfl rfl (by kernel_rfl) Tryz.func8 (by kernel_rfl)
    (of_decide_eq_true (by kernel_rfl)) (by unfold Func.isWrapper; first | (rw [if_pos (by decide +kernel)]; kernel_rfl) | (rw [if_neg (by decide +kernel)]; exact ⟨rfl, rfl⟩))
    (fun os started H enc _ F => by rw [OpenClaim.pre_eq_preRow]; exact lifted os started H enc F)
theorem plain (f : FuncId) (fn : Func) (hf : Tryz.pinned.checked.prog.funcNamed "truffle/trufflelaw10.TypedVal" = some f) (hfn : Tryz.pinned.checked.prog.funcs[f]? = some fn) :
    false = Tryz.pinned.checked.prog.looks [] ∧ ∀ (j : Nat) t, fn.params[j]? = some t → Tryz.pinned.checked.prog.wantsStandIn t = false := by
  obtain rfl : f = 8 := Option.some.inj ((show Tryz.prog.funcNamed "truffle/trufflelaw10.TypedVal" = some 8 by kernel_rfl).symm.trans hf) |>.symm
  obtain rfl : fn = Tryz.f8 := (Option.some.inj (Tryz.func8.symm.trans hfn)).symm
  refine ⟨by kernel_rfl, fun j t ht => ?_⟩
  have hall : (Tryz.f8.params.toList.all fun t => !Tryz.prog.wantsStandIn t) = true := by kernel_rfl
  have := List.all_eq_true.1 hall t (Array.mem_toList_iff.2 (Array.mem_of_getElem? ht))
  exact (show Tryz.prog.wantsStandIn t = false by simpa using this)
theorem proved : Rows.TypedValCardSaid :=
  Claim7.holds_tied_plain_at .later [] _ _ _ _ said (fun _ h => by cases h) (by kernel_rfl) (fun _ h => by cases h) typedVal_row_tie rfl ⟨rfl, rfl⟩ (by kernel_rfl) rfl plain (by kernel_rfl)
end Go.Proofs.YtjmcpfckcajnjaaGreatDoor.T9.lawTypedVal
