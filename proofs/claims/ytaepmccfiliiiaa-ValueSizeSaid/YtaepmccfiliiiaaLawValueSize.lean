/-
  With a slot that is set there are as many values more as it has, and as many less as that of its number had: the statement ValueSize, for every message and slot.
-/
import Derived.Test.YtaepmccfiliiiaaTrLaw
import Derived.Deep.DeepHandedRow
import Derived.MakeChecks
import Derived.Lay
namespace Go.Proofs.Ytaepmccfiliiiaa.lawValueSize
set_option maxRecDepth 100000

open Go.ChangeShapes Go.WideShapes Go.ChangeAt Go.RowKit

theorem facts (m : Mg) (s : So) (h : s.V ≠ []) : (setM m s).size = (setM m (bare9 s.no)).size + (Mg.mk [s]).size ∧ (setM m s).deep = max (setM m (bare9 s.no)).deep (Mg.mk [s]).deep ∧ (setM m (bare9 s.no)).size ≤ m.size := by
  rw [set_full h, set_bare, size_one, deep_one, Mg.size_eq, Mg.size_eq, Mg.size_eq, Mg.deep_eq, Mg.deep_eq]
  show sm ((putS (rest m.F s.no) s).map zS) = _ ∧ 1 + mx ((putS (rest m.F s.no) s).map dS) = max (1 + mx ((rest m.F s.no).map dS)) _ ∧ sm ((rest m.F s.no).map zS) ≤ _
  rw [sm_put, mx_put]
  exact ⟨rfl, by omega, sm_filter_le m.F _ zS⟩
theorem mx_filter_le (l : List So) (p : So → Bool) (g : So → Nat) : mx ((l.filter p).map g) ≤ mx (l.map g) := by
  induction l with
  | nil => simp
  | cons a l ih =>
    by_cases h : p a = true
    · rw [List.filter_cons_of_pos h]; simp only [List.map_cons, mx]; omega
    · rw [List.filter_cons_of_neg h]; simp only [List.map_cons, mx]; omega
theorem deep_bare (m : Mg) (no : Int) : (setM m (bare9 no)).deep ≤ m.deep := by
  rw [set_bare, Mg.deep_eq, Mg.deep_eq]
  have := mx_filter_le m.F (fun s => s.no != no) dS
  show 1 + mx ((rest m.F no).map dS) ≤ _
  unfold rest
  omega
/-- Four boxes are as they were. -/
def C4 (g1 g2 g3 g4 : Nat) (v1 v2 v3 v4 : Value) (w : World) : Prop := w.cell? ⟨g1, 0, none⟩ = some v1 ∧ w.cell? ⟨g2, 0, none⟩ = some v2 ∧ w.cell? ⟨g3, 0, none⟩ = some v3 ∧ w.cell? ⟨g4, 0, none⟩ = some v4
theorem C4.on {g1 g2 g3 g4 : Nat} {v1 v2 v3 v4 : Value} {w w' : World} (h : C4 g1 g2 g3 g4 v1 v2 v3 v4 w) (hb : Below w.heap.size w w') : C4 g1 g2 g3 g4 v1 v2 v3 v4 w' := ⟨cell_on hb h.1, cell_on hb h.2.1, cell_on hb h.2.2.1, cell_on hb h.2.2.2⟩
set_option maxRecDepth 1000000 in
set_option maxHeartbeats 8000000 in
theorem walk (w : World) (m : Mg) (u : Value) (k : Nat) (hm : MRd w.heap.size w k m u) (s : So) (u1 u2 : Value) (k' : Nat) (hs : SAt' (Rd w.heap.size w) k' s [.int .i64 s.no, u1, u2]) :
    Calls Try.prog 9 #[.agg #[u], .agg #[.int .i64 s.no, u1, u2]] w fun e w' => e = .returned (.bool true) ∧ Below w.heap.size w w' := by
  obtain ⟨D, hD⟩ : ∃ D, D = max k k' := ⟨_, rfl⟩
  have hm0 : MRd w.heap.size w (D + 1) m u := MAt.more (by omega) _ _ hm
  have hs0 : SAt' (Rd w.heap.size w) D s [.int .i64 s.no, u1, u2] := slot_more (by omega) hs
  clear hm hs hD
  obtain ⟨Am, cm, rfl⟩ := rd_shape hm0
  obtain ⟨A1, c1, A2, c2, -, rfl, rfl⟩ := slot_shape hs0
  obtain ⟨X1, X2, LBD⟩ := two_boxes w (.cells #[.slice Am m.F.length cm] 24) (.cells #[.int .i64 s.no, .slice A1 s.K.length c1, .slice A2 s.V.length c2] 27)
  have HM := Lib.hid (fun wx (hx : Below w.heap.size w wx) => rd_up hx hm0)
  have HS := Lib.hid (fun wx (hx : Below w.heap.size w wx) => srd_up hx hs0)
  clear hm0 hs0
  go_enter Try.func9, Try.ntmps9
  go_wp2_with fail
  refine (awake9_any _).mono ?_
  rintro e w1 ⟨rfl, hb1⟩
  have hb01 := below_then LBD hb1
  have Y1 := box_on X1 hb1
  have Y2 := box_on X2 hb1
  clear X1 X2 LBD hb1
  have y1 := bx1 Y1
  obtain ⟨p0, p1, p2⟩ := bx3 Y2
  have L1 := below_lit (below_new w1 (.cells #[.int .i64 s.no, .slice A1 s.K.length c1, .slice A2 s.V.length c2] 27)) (.cells #[.slice Am m.F.length cm, .slice (some ⟨w1.heap.size, 0, none⟩) 1 1] 24)
  have HF := Lib.hid (few_all _ (D + 1) [m, .mk [s]] _ _ (Nat.le_refl _) (msgs2_rd (HM.out _ (below_then hb01 L1)) (one_rd (HS.out _ (below_then hb01 L1)) (two_boxes w1 (.cells #[.int .i64 s.no, .slice A1 s.K.length c1, .slice A2 s.V.length c2] 27) (.cells #[.slice Am m.F.length cm, .slice (some ⟨w1.heap.size, 0, none⟩) 1 1] 24)).1) (two_boxes w1 (.cells #[.int .i64 s.no, .slice A1 s.K.length c1, .slice A2 s.V.length c2] 27) (.cells #[.slice Am m.F.length cm, .slice (some ⟨w1.heap.size, 0, none⟩) 1 1] 24)).2.1))
  go_wp2_with fail
  refine HF.out.mono ?_
  rintro e w2 ⟨r, rfl, hfit, hb2⟩
  have hb02 := below_then (below_then hb01 L1) hb2
  have Z1 := box_on Y1 (below_then L1 hb2)
  have Z2 := box_on Y2 (below_then L1 hb2)
  clear y1 p0 p1 p2 Y1 Y2 L1 hb2 hb01 HF
  obtain ⟨p0, p1, p2⟩ := bx3 Z2
  have y1 := bx1 Z1
  cases r with
  | false =>
    go_wp2
    go_ret
    exact ⟨rfl, hb02⟩
  | true =>
    have hfm := (hfit rfl m (by simp)).cnt
    have hfs := (hfit rfl (.mk [s]) (by simp)).cnt
    have hdm := (hfit rfl m (by simp)).deep
    have hds := (hfit rfl (.mk [s]) (by simp)).deep
    rw [cnt_one] at hfs
    clear hfit
    by_cases hV : s.V = []
    · have hv0 : ((s.V.length : Int) == 0) = true := by rw [hV]; rfl
      clear hV
      go_wp2
      go_ret
      exact ⟨rfl, hb02⟩
    · have hpos : 0 < s.V.length := List.length_pos_iff.2 hV
      have hv0 : ((s.V.length : Int) == 0) = false := by rw [beq_eq_false_iff_ne]; omega
      have hv1 : ¬ (s.V.length = 0) := by omega
      obtain ⟨F1, F2, F3⟩ := facts m s hV
      have HF1 := Lib.hid F1
      have HF2 := Lib.hid F2
      have HF3 := Lib.hid F3
      have hca := cnt_set m s
      have hcb := cnt_set m (bare9 s.no)
      rw [bare9_c] at hcb
      clear F1 F2 F3 hV
      go_wp2_with fail
      refine (set_rd D m s _ _ _ w2 (HM.out _ hb02) (HS.out _ hb02) (by omega) (by omega)).mono ?_
      rintro e w3 ⟨Aa, ca, rfl, ha, hb3⟩
      have N3 := below_new w3 (.cells #[.slice Aa (setM m s).F.length ca] 24)
      have hb03 := below_then (below_then hb02 hb3) N3
      have Ya := heap_alloc_new w3 (.cells #[.slice Aa (setM m s).F.length ca] 24)
      have Y1 := box_on Z1 (below_then hb3 N3)
      have Y2 := box_on Z2 (below_then hb3 N3)
      have ha3 := rd_up N3 ha
      clear p0 p1 p2 y1 Z1 Z2 N3 ha hb3 hb02
      have y1 := bx1 Y1
      obtain ⟨p0, p1, p2⟩ := bx3 Y2
      go_wp2_with fail
      obtain ⟨W3, hW3⟩ : ∃ W, W = w3.alloc (.cells #[.slice Aa (setM m s).F.length ca] 24) := ⟨_, rfl⟩
      rw [← hW3] at hb03 Ya Y1 Y2 ha3 y1 p0 p1 p2 ⊢
      clear hW3
      refine (set_rd D m (bare9 s.no) _ _ _ W3 (HM.out _ hb03) (bare9_at _ _ _ _) (by omega) (by rw [bare9_c]; decide)).mono ?_
      rintro e w4 ⟨Ab, cb, rfl, hbb, hb4⟩
      have N4 := below_new w4 (.cells #[.slice Ab (setM m (bare9 s.no)).F.length cb] 24)
      have hb04 := below_then (below_then hb03 hb4) N4
      have Zb := heap_alloc_new w4 (.cells #[.slice Ab (setM m (bare9 s.no)).F.length cb] 24)
      have Za := box_on Ya (below_then hb4 N4)
      have Z1 := box_on Y1 (below_then hb4 N4)
      have Z2 := box_on Y2 (below_then hb4 N4)
      have ha4 := rd_up (below_then hb4 N4) ha3
      have hbb4 := rd_up N4 hbb
      clear p0 p1 p2 y1 Ya Y1 Y2 N4 ha3 hbb hb4 hb03
      obtain ⟨p0, p1, p2⟩ := bx3 Z2
      have hN5 := two_boxes (w4.alloc (.cells #[.slice Ab (setM m (bare9 s.no)).F.length cb] 24)) (.cells #[.int .i64 s.no, .slice A1 s.K.length c1, .slice A2 s.V.length c2] 27) (.cells #[.slice (some ⟨w4.heap.size + 1, 0, none⟩) 1 1] 24)
      obtain ⟨X1, X2, N5⟩ := hN5
      have hs4 : (w4.alloc (.cells #[.slice Ab (setM m (bare9 s.no)).F.length cb] 24)).heap.size = w4.heap.size + 1 := by simp
      rw [hs4] at X1 X2
      have Yb := box_on Zb N5
      have Ya := box_on Za N5
      have Y1 := box_on Z1 N5
      have hb05 := below_then hb04 N5
      have ha5 := rd_up N5 ha4
      have hbb5 := rd_up N5 hbb4
      have ho5 := one_rd (HS.out _ hb05) X1
      have hm5 := HM.out _ hb05
      clear Zb Za Z1 Z2 ha4 hbb4 hb04 N5
      have yb := bx1 Yb
      have ya := bx1 Ya
      have y1 := bx1 Y1
      have y2 := bx1 X2
      have hdb := deep_bare m s.no
      have hza := size_le_cnt (setM m s)
      have hzb := size_le_cnt (setM m (bare9 s.no))
      have hzo := size_le_cnt (.mk [s])
      have hzm := size_le_cnt m
      rw [cnt_one] at hzo
      go_wp2_with fail
      obtain ⟨W5, hW5⟩ : ∃ W, W = ((w4.alloc (.cells #[.slice Ab (setM m (bare9 s.no)).F.length cb] 24)).alloc (.cells #[.int .i64 s.no, .slice A1 s.K.length c1, .slice A2 s.V.length c2] 27)).alloc (.cells #[.slice (some ⟨w4.heap.size + 1, 0, none⟩) 1 1] 24) := ⟨_, rfl⟩
      rw [← hW5] at hb05 yb ya y1 y2 ha5 hbb5 ho5 hm5 ⊢
      have hda : (setM m s).deep ≤ 80 := by have := HF2.out; omega
      have HDb := Lib.hid (fun wx (hx : Below W5.heap.size W5 wx) => deep_any W5.heap.size (D + 1) (setM m (bare9 s.no)) _ wx hx.size (rd_on hx (Nat.le_refl _) hbb5) (by omega))
      have HDo := Lib.hid (fun wx (hx : Below W5.heap.size W5 wx) => deep_any W5.heap.size (D + 1) (.mk [s]) _ wx hx.size (rd_on hx (Nat.le_refl _) ho5) (by omega))
      have HDa := Lib.hid (fun wx (hx : Below W5.heap.size W5 wx) => deep_any W5.heap.size (D + 1) (setM m s) _ wx hx.size (rd_on hx (Nat.le_refl _) ha5) (by omega))
      have HZb := Lib.hid (fun wx (hx : Below W5.heap.size W5 wx) => size_any W5.heap.size (D + 1) (setM m (bare9 s.no)) _ wx hx.size (rd_on hx (Nat.le_refl _) hbb5) (by omega))
      have HZo := Lib.hid (fun wx (hx : Below W5.heap.size W5 wx) => size_any W5.heap.size (D + 1) (.mk [s]) _ wx hx.size (rd_on hx (Nat.le_refl _) ho5) (by omega))
      have HZa := Lib.hid (fun wx (hx : Below W5.heap.size W5 wx) => size_any W5.heap.size (D + 1) (setM m s) _ wx hx.size (rd_on hx (Nat.le_refl _) ha5) (by omega))
      have HZm := Lib.hid (fun wx (hx : Below W5.heap.size W5 wx) => size_any W5.heap.size (D + 1) m _ wx hx.size (rd_on hx (Nat.le_refl _) hm5) (by omega))
      have B1 : Hid ((setM m s).deep ≤ 100000 ∧ (setM m (bare9 s.no)).deep ≤ 100000 ∧ (Mg.mk [s]).deep ≤ 100000 ∧ (setM m s).size ≤ 100000 ∧ (setM m (bare9 s.no)).size ≤ 100000 ∧ (Mg.mk [s]).size ≤ 100000 ∧ m.size ≤ 100000) := Lib.hid (by omega)
      clear hda hdb hza hzb hzo hzm hfm hfs hdm hds hca hcb ha5 hbb5 ho5 hm5 X1 X2 Ya Yb Y1 hs4 hW5 p0 p1 p2
      obtain ⟨da, eda⟩ : ∃ x, (setM m s).deep = x := ⟨_, rfl⟩
      obtain ⟨db, edb⟩ : ∃ x, (setM m (bare9 s.no)).deep = x := ⟨_, rfl⟩
      obtain ⟨dn, edn⟩ : ∃ x, (Mg.mk [s]).deep = x := ⟨_, rfl⟩
      obtain ⟨za, eza⟩ : ∃ x, (setM m s).size = x := ⟨_, rfl⟩
      obtain ⟨zb, ezb⟩ : ∃ x, (setM m (bare9 s.no)).size = x := ⟨_, rfl⟩
      obtain ⟨zn, ezn⟩ : ∃ x, (Mg.mk [s]).size = x := ⟨_, rfl⟩
      obtain ⟨zm, ezm⟩ : ∃ x, m.size = x := ⟨_, rfl⟩
      rw [eda] at HDa B1 HF2
      rw [edb] at HDb B1 HF2
      rw [edn] at HDo B1 HF2
      rw [eza] at HZa B1 HF1
      rw [ezb] at HZb B1 HF1 HF3
      rw [ezn] at HZo B1 HF1
      rw [ezm] at HZm B1 HF3
      clear eda edb edn eza ezb ezn ezm
      refine (HDb.out W5 (Below.refl _ _)).mono ?_
      rintro e w6 ⟨rfl, hb6⟩
      have xa := cell_on hb6 ya
      have xb := cell_on hb6 yb
      have x1 := cell_on hb6 y1
      have x2 := cell_on hb6 y2
      clear ya yb y1 y2
      go_wp2_with fail
      refine (HDo.out w6 hb6).mono ?_
      rintro e w7 ⟨rfl, hb7⟩
      have hb57 := below_then hb6 hb7
      have ya := cell_on hb7 xa
      have yb := cell_on hb7 xb
      have y1 := cell_on hb7 x1
      have y2 := cell_on hb7 x2
      clear xa xb x1 x2 hb6 hb7
      have hbo := B1.out
      by_cases hlt : db < dn
      · have hg : decide ((db : Int) < (dn : Int)) = true := by rw [decide_eq_true_iff]; omega
        have hg2 : decide (db < dn) = true := by rw [decide_eq_true_iff]; omega
        obtain rfl : da = dn := by have := HF2.out; omega
        clear hbo
        go_wp2_with fail
        refine (HDo.out w7 hb57).mono ?_
        rintro e w8 ⟨rfl, hb8⟩
        have hb58 := below_then hb57 hb8
        have xa := cell_on hb8 ya
        have xb := cell_on hb8 yb
        have x1 := cell_on hb8 y1
        have x2 := cell_on hb8 y2
        clear ya yb y1 y2 hb57 hb8
        have ya := xa
        have yb := xb
        have y1 := x1
        have y2 := x2
        clear xa xb x1 x2
        obtain rfl := HF1.out
        have hb := B1.out
        have hw : IntKind.i64.wrap ((zb : Int) + (zn : Int)) = (zb : Int) + (zn : Int) := by rw [IntKind.wrap_i64]; omega
        have hz : decide ((zb : Int) ≤ (zm : Int)) = true := by have := HF3.out; rw [decide_eq_true_iff]; omega
        have hz2 : decide (zb ≤ zm) = true := by have := HF3.out; rw [decide_eq_true_iff]; omega
        have hS : C4 w3.heap.size w4.heap.size (w4.heap.size + 1 + 1) w.heap.size (.slice Aa (setM m s).F.length ca) (.slice Ab (setM m (bare9 s.no)).F.length cb) (.slice (some ⟨w4.heap.size + 1, 0, none⟩) 1 1) (.slice Am m.F.length cm) w8.drew := ⟨ya, yb, y2, y1⟩
        have L0 : Below W5.heap.size W5 w8.drew := hb58.trans (Below.refl _ _).drew
        clear hb ya yb y1 y2
        go_wp2_with fail
        go_region_held3 (fun w' => w'.cell? ⟨w3.heap.size, 0, none⟩ = some (.slice Aa (setM m s).F.length ca) ∧ w'.cell? ⟨w4.heap.size, 0, none⟩ = some (.slice Ab (setM m (bare9 s.no)).F.length cb) ∧ w'.cell? ⟨w4.heap.size + 1 + 1, 0, none⟩ = some (.slice (some ⟨w4.heap.size + 1, 0, none⟩) 1 1) ∧ w'.cell? ⟨w.heap.size, 0, none⟩ = some (.slice Am m.F.length cm))
          (first
            | exact hS
            | exact hS.on h1
            | exact (hS.on h1).on h2
            | exact ((hS.on h1).on h2).on h3
            | exact (((hS.on h1).on h2).on h3).on h4
            | exact ((((hS.on h1).on h2).on h3).on h4).on h5
            | exact (((((hS.on h1).on h2).on h3).on h4).on h5).on h6
            | go_keep)
          ((first
            | (go_at_call 22; (with_reducible refine (HZa.out _ L0).mono ?_); rintro e w11 ⟨rfl, h1⟩; have L1 := below_then L0 h1)
            | (go_at_call 22; (with_reducible refine (HZb.out _ L1).mono ?_); rintro e w12 ⟨rfl, h2⟩; have L2 := below_then L1 h2)
            | (go_at_call 22; (with_reducible refine (HZo.out _ L2).mono ?_); rintro e w13 ⟨rfl, h3⟩; have L3 := below_then L2 h3)
            | (go_at_call 20; (with_reducible refine (HDa.out _ L3).mono ?_); rintro e w14 ⟨rfl, h4⟩; have L4 := below_then L3 h4)
            | (go_at_call 22; (with_reducible refine (HZb.out _ L4).mono ?_); rintro e w15 ⟨rfl, h5⟩; have L5 := below_then L4 h5)
            | (go_at_call 22; (with_reducible refine (HZm.out _ L5).mono ?_); rintro e w16 ⟨rfl, h6⟩; have L6 := below_then L5 h6)))
        all_goals
          go_wp2
          go_ret
          exact ⟨rfl, below_then hb05 L6⟩
      · have hg : decide ((db : Int) < (dn : Int)) = false := by rw [decide_eq_false_iff_not]; omega
        have hg2 : decide (db < dn) = false := by rw [decide_eq_false_iff_not]; omega
        obtain rfl : da = db := by have := HF2.out; omega
        clear hbo
        obtain rfl := HF1.out
        have hb := B1.out
        have hw : IntKind.i64.wrap ((zb : Int) + (zn : Int)) = (zb : Int) + (zn : Int) := by rw [IntKind.wrap_i64]; omega
        have hz : decide ((zb : Int) ≤ (zm : Int)) = true := by have := HF3.out; rw [decide_eq_true_iff]; omega
        have hz2 : decide (zb ≤ zm) = true := by have := HF3.out; rw [decide_eq_true_iff]; omega
        have hS : C4 w3.heap.size w4.heap.size (w4.heap.size + 1 + 1) w.heap.size (.slice Aa (setM m s).F.length ca) (.slice Ab (setM m (bare9 s.no)).F.length cb) (.slice (some ⟨w4.heap.size + 1, 0, none⟩) 1 1) (.slice Am m.F.length cm) w7.drew := ⟨ya, yb, y2, y1⟩
        have L0 : Below W5.heap.size W5 w7.drew := hb57.trans (Below.refl _ _).drew
        clear hb ya yb y1 y2
        go_wp2_with fail
        go_region_held3 (fun w' => w'.cell? ⟨w3.heap.size, 0, none⟩ = some (.slice Aa (setM m s).F.length ca) ∧ w'.cell? ⟨w4.heap.size, 0, none⟩ = some (.slice Ab (setM m (bare9 s.no)).F.length cb) ∧ w'.cell? ⟨w4.heap.size + 1 + 1, 0, none⟩ = some (.slice (some ⟨w4.heap.size + 1, 0, none⟩) 1 1) ∧ w'.cell? ⟨w.heap.size, 0, none⟩ = some (.slice Am m.F.length cm))
          (first
            | exact hS
            | exact hS.on h1
            | exact (hS.on h1).on h2
            | exact ((hS.on h1).on h2).on h3
            | exact (((hS.on h1).on h2).on h3).on h4
            | exact ((((hS.on h1).on h2).on h3).on h4).on h5
            | exact (((((hS.on h1).on h2).on h3).on h4).on h5).on h6
            | go_keep)
          ((first
            | (go_at_call 22; (with_reducible refine (HZa.out _ L0).mono ?_); rintro e w11 ⟨rfl, h1⟩; have L1 := below_then L0 h1)
            | (go_at_call 22; (with_reducible refine (HZb.out _ L1).mono ?_); rintro e w12 ⟨rfl, h2⟩; have L2 := below_then L1 h2)
            | (go_at_call 22; (with_reducible refine (HZo.out _ L2).mono ?_); rintro e w13 ⟨rfl, h3⟩; have L3 := below_then L2 h3)
            | (go_at_call 20; (with_reducible refine (HDa.out _ L3).mono ?_); rintro e w14 ⟨rfl, h4⟩; have L4 := below_then L3 h4)
            | (go_at_call 22; (with_reducible refine (HZb.out _ L4).mono ?_); rintro e w15 ⟨rfl, h5⟩; have L5 := below_then L4 h5)
            | (go_at_call 22; (with_reducible refine (HZm.out _ L5).mono ?_); rintro e w16 ⟨rfl, h6⟩; have L6 := below_then L5 h6)))
        all_goals
          go_wp2
          go_ret
          exact ⟨rfl, below_then hb05 L6⟩
theorem contract (H : Type) (enc : TypeId × Value → H) (W : World) (base : Nat) (args : Array Value) (ds gs : List (DataW H)) (before : List MemPlace)
    (hval0 : ∀ (j : Nat) t v, Try.f9.params[j]? = some t → args[j]? = some v → Value.okWide Try.prog W .any base t v)
    (hW : DataW.Whole enc Try.prog Try.f9.params.toList Rows.valueSizeSpec.vars false W args.toList ds gs before) (hsz : (DataW.weightsEach Try.prog (Try.f9.params.toList ++ (OpenSpec.ofChange Rows.valueSizeSpec).bare.plain.varTypes Try.prog) (ds ++ gs)).all (· ≤ reachBytes) = true) (hL : laidMetH Try.prog Rows.valueSizeRow.laid W) :
    Calls Try.prog 9 args W fun e W2 => ∃ v, e = .returned v ∧ Rows.valueSizeSpec.post enc Try.prog Try.f9 false true false false W args v W2 := by
  have hval : ∀ (j : Nat) t v, Try.f9.params[j]? = some t → args[j]? = some v → Value.okWide Try.prog W .any base t v := hval0
  have hW2 := hW
  obtain ⟨p, q, hA0, hV, rfl, hfz, hnd⟩ := hW
  have hA : DataW.TrodAll enc Try.prog W 0 (fun _ => true) true Try.f9.params.toList args.toList ds p := hA0
  rw [Try.params9] at hA hval
  obtain ⟨v0, vs0, d0, ds0, p0, q0, hargs, rfl, rfl, h0, r0⟩ := trodAll_cons hA
  obtain ⟨v1, vs1, d1, ds1, p1, q1, rfl, rfl, rfl, h1, r1⟩ := trodAll_cons r0
  obtain ⟨rfl, rfl, rfl⟩ := trodAll_nil r1
  obtain rfl : args = #[v0, v1] := by cases args; simp_all
  obtain ⟨rfl, rfl⟩ := trodVars_none hV
  obtain ⟨mg0, u0, k0, rfl, hm0⟩ := open_msg (hval 0 24 v0 rfl rfl) h0 (szd_each (fun k hk => of_decide_eq_true (List.all_eq_true.1 hsz k hk)) 0 _ _ rfl rfl)
  obtain ⟨sl1, u1, t1, k1, rfl, hm1⟩ := open_sl (hval 1 27 v1 rfl rfl) h1 (szd_each (fun k hk => of_decide_eq_true (List.all_eq_true.1 hsz k hk)) 1 _ _ rfl rfl)
  refine (walk W mg0 u0 k0 hm0 sl1 u1 t1 k1 hm1).mono fun e W2 ⟨he, hb⟩ => ?_
  subst he
  exact ⟨_, rfl, law_post (by kernel_rfl) rfl rfl (by decide +kernel) hW2 hb⟩
theorem laid_met (os : Os) : laidMetH Try.prog Rows.valueSizeRow.laid ((World.laidAll Try.prog os Rows.valueSizeRow.laid).forCall (fun _ _ => 0) ⟨#[], #[.agg #[.slice none 0 0], .agg #[.int .i64 0, .slice none 0 0, .slice none 0 0]], []⟩).memory := by
  rw [MakeChecks.laidMetH_plain _ _ _ (by kernel_rfl)]
  exact laidMet_laidAll _ (by kernel_rfl) (by kernel_rfl)
theorem reads (os : Os) {H : Type} (enc : TypeId × Value → H) : ∃ places, DataW.whole enc Try.prog ((World.laidAll Try.prog os Rows.valueSizeRow.laid).forCall (fun _ _ => 0) ⟨#[], #[.agg #[.slice none 0 0], .agg #[.int .i64 0, .slice none 0 0, .slice none 0 0]], []⟩).memory Try.f9.params.toList Rows.valueSizeSpec.vars false (#[.agg #[.slice none 0 0], .agg #[.int .i64 0, .slice none 0 0, .slice none 0 0]] : Array Value).toList 8 = some ([.agg [.nil], .agg [.lit (.int .i64 0), .nil, .nil]], [], places) := ⟨[], by kernel_rfl⟩
set_option maxRecDepth 100000 in
theorem lifted (os : Os) (started : os.Started) (H : Type) (enc : TypeId × Value → H) (F : Stop.Interp) :
    ReturnsInHanded {} Try.checked os 9 .any ((OpenSpec.ofChange Rows.valueSizeSpec).preRow enc Try.prog Try.f9 Rows.valueSizeRow.domain false Rows.valueSizeRow.laid) (((OpenSpec.ofChange Rows.valueSizeSpec).at F).post enc Try.prog Try.f9 false true false false) := by
  obtain ⟨places, hx⟩ := reads os enc
  refine returnsInHanded_of_row (C := Try.checked) (s := OpenSpec.ofChange Rows.valueSizeSpec) own started (by kernel_rfl) Try.func9
    (witness_row_at (enc := enc) (C := Try.checked) false (World.laidAll Try.prog os Rows.valueSizeRow.laid) #[.agg #[.slice none 0 0], .agg #[.int .i64 0, .slice none 0 0, .slice none 0 0]] (World.laidAll_os _ _ _) (by kernel_rfl) (by kernel_rfl) (by kernel_rfl)
      (OpenSpec.preRow_of_cond 8 hx (by kernel_rfl) (fun k hk => by cases hk) (by kernel_rfl) (laid_met os))) ?_
  intro W base args ds gs before hval hW _ _ hsz hL _ _
  exact contract H enc W base args ds gs before hval hW hsz hL
theorem said : Rows.ValueSizeSaid :=
  OpenClaim.holds_of_cond 9 Try.f9 rfl rfl rfl rfl rfl rfl rfl ⟨rfl, rfl, rfl, rfl, rfl⟩ rfl rfl rfl rfl rfl (by kernel_rfl) Try.func9 (by kernel_rfl)
    (of_decide_eq_true (by kernel_rfl)) (by unfold Func.isWrapper; first | (rw [if_pos (by decide +kernel)]; kernel_rfl) | (rw [if_neg (by decide +kernel)]; exact ⟨rfl, rfl⟩))
    (fun os started H enc _ F => by rw [OpenClaim.pre_eq_preRow]; exact lifted os started H enc F)
theorem proved : Rows.ValueSizeSaid := said

end Go.Proofs.Ytaepmccfiliiiaa.lawValueSize
