/-
  The order of a message's fields does not matter: with two fields changed about it is the same schema, or there is an error both ways: the statement TableOrder, for every file, and places.
-/
import Derived.Test.YtciiemomfniecaaGreatDoorTabAwake
import Derived.Test.YtciiemomfniecaaGreatDoorRawPen
import Derived.BigQuiet
import Derived.BigRegion
import Derived.Deep.DeepCutAuto
namespace Go.Proofs.YtciiemomfniecaaGreatDoor.lawTableOrder
set_option maxRecDepth 100000
open Go.ChangeShapes Go.WideShapes Go.ChangeAt Go.RowKit

/-- A file's box, over a row of the call's own. -/
def OrdRel (W : World) (u : Value) (n : Nat) (xs : List Value) (v : Value) (wx : World) : Prop := ∃ g vr, v = .pointer (some ⟨g, 0, none⟩) ∧ wx.heap[g]? = some (.cells #[vr, u] 25 (0, 0)) ∧ wx.ownsRow W.heap.size 51 5 vr n xs ∧ Below W.heap.size W wx ∧ W.heap.size ≤ g
def SwapRel (W : World) (base : Nat) (v : Value) (n : Nat) (xs : List Value) (wx : World) : Prop := wx.ownsRow base 53 7 v n xs ∧ W.grownBy wx v.ownBlock
theorem set_two {α : Type} (l : List α) (a b : Nat) (x y : α) : (l.set a y).set b x = (l.set a y).set b x := rfl
theorem in_set {f : Fl} {k : Nat} {m : Ms} {F' : List Fd} (h : FlIn f) (hm : f.M[k]? = some m) (hp : F'.Perm m.F) : FlIn (setF f k F') := by
  refine ⟨fun q hq => ?_, h.E⟩
  obtain ⟨j, hj⟩ := List.mem_iff_getElem?.1 hq
  simp only [setF, List.getElem?_modify] at hj
  cases hfj : f.M[j]? with
  | none => rw [hfj] at hj; simp at hj
  | some y =>
    rw [hfj] at hj
    have hy := h.M y (List.mem_of_getElem? hfj)
    by_cases hij : k = j
    · subst hij
      rw [hm] at hfj
      obtain rfl := Option.some.inj hfj
      simp at hj
      subst hj
      exact ⟨hy.name, fun d hd => hy.F d (hp.mem_iff.1 hd), hy.ones, hy.res, hy.at_⟩
    · simp [hij] at hj
      subst hj
      exact hy
theorem zero_iff {f g : Fl} (h : (errR g).isSome = (errR f).isSome) : (((tabE g : Nat) : Int) == 0) = (((tabE f : Nat) : Int) == 0) := by
  have e1 : ∀ f : Fl, (((tabE f : Nat) : Int) == 0) = !(errR f).isSome := by
    intro f
    unfold tabE
    cases he : errR f with
    | none => rfl
    | some r =>
      have := err_pos he
      simp
      omega
  rw [e1, e1, h]
set_option maxRecDepth 1000000 in
set_option maxHeartbeats 4000000 in
theorem walk (w : World) (L : LT w) (f : Fl) (vM vE : Value) (fa : FAt w.heap.size w f vM vE) (fi : FlIn f) (m : Int) (m0 : -9223372036854775808 ≤ m) (m1 : m ≤ 9223372036854775807) (a : Int) (a0 : -9223372036854775808 ≤ a) (a1 : a ≤ 9223372036854775807) (b : Int) (b0 : -9223372036854775808 ≤ b) (b1 : b ≤ 9223372036854775807) :
    Calls Tryz.prog 5 #[.agg #[vM, vE], .int .i64 m, .int .i64 a, .int .i64 b] w fun e w' => e = .returned (.bool true) ∧ Below w.heap.size w w' := by
  have fa0 := fa
  have HFA := Lib.hid fa
  obtain ⟨xs, ys, ⟨A1, q1, rfl, s1, g1⟩, h2, ⟨A2, q2, rfl, s2, g2⟩, h4⟩ := fa
  have HS1 := Lib.hid s1
  have HMA := Lib.hid h2
  have HS2 := Lib.hid s2
  have HEA := Lib.hid h4
  have hlm : f.M.length ≤ 9223372036854775807 := by have h1 := s1.le; have h2 := s1.cap; unfold maxLen at h2; omega
  have HL := Lib.hid L
  have HIN := Lib.hid fi
  have HRES := Lib.hid (fun (wx : World) (hb : Below w.heap.size w wx) => resolve_any w.heap.size f (.slice A1 f.M.length q1) (.slice A2 f.E.length q2) wx hb.size (fa0.low (Low.below hb (Nat.le_refl _))) fi (L.tabs.on hb))
  clear s1 h2 s2 h4 L fi fa0
  have hb0 := below_new w (.cells #[.slice A1 f.M.length q1, .slice A2 f.E.length q2] 25)
  have hx0 : (w.alloc (.cells #[.slice A1 f.M.length q1, .slice A2 f.E.length q2] 25)).heap[w.heap.size]? = some (.cells #[.slice A1 f.M.length q1, .slice A2 f.E.length q2] 25 (0, 0)) := heap_alloc_new w _
  go_enter Tryz.func5, Tryz.ntmps5
  go_wp2_with fail
  refine (awake8_any _ (HL.out.on hb0)).mono ?_
  rintro e w1 ⟨rfl, hb1⟩
  have hx1 := (hb1.block _ (by simp)).trans hx0
  have hbw1 := below_then hb0 hb1
  clear hb0 hx0 hb1
  go_wp2_with (refine wpList_load_fl rfl _ rfl w.heap.size _ _ rfl _ _ hx1 ?_)
  refine (few_any w.heap.size f _ _ w1 hbw1.size (HFA.out.low (Low.below hbw1 (Nat.le_refl _)))).mono ?_
  rintro e w2 ⟨rfl, hb2⟩
  have hx2 := (hb2.block _ (Array.getElem?_eq_some_iff.1 hx1).1).trans hx1
  have hbw2 := below_then hbw1 hb2
  clear hx1 hb2 hbw1
  obtain ⟨fw, hfw⟩ : ∃ b, fewF f = b := ⟨_, rfl⟩
  rw [hfw]
  have v0 := heap_cell hx2 0
  have v1 := heap_cell hx2 1
  simp at v0 v1
  cases fw with
  | false =>
    clear hfw
    go_wp2
    go_ret
    exact ⟨rfl, hbw2⟩
  | true =>
  have HFW := Lib.hid hfw
  have HB2 := Lib.hid hbw2
  clear hfw hbw2
  by_cases hm : 0 ≤ m ∧ m < f.M.length
  · obtain ⟨k, rfl⟩ : ∃ k : Nat, m = k := ⟨m.toNat, by omega⟩
    have hlk : k < f.M.length := by omega
    have h1 : decide ((k : Int) < 0) = false := by rw [decide_eq_false_iff_not]; omega
    have h2 : decide ((f.M.length : Int) ≤ (k : Int)) = false := by rw [decide_eq_false_iff_not]; omega
    obtain ⟨md, hmd⟩ : ∃ d, f.M[k]? = some d := ⟨_, List.getElem?_eq_getElem hlk⟩
    obtain ⟨ad, vF, vO, vR, rfl, hg, hmr, -, c1, -, -, -⟩ := msr_at (HS1.out.low g1 (Low.below HB2.out (Nat.le_refl _))) (HMA.out.low (Low.below HB2.out (Nat.le_refl _))) hmd
    obtain ⟨AF, cF, rfl, sF, aF⟩ := hmr.f
    have HSF := Lib.hid sF
    have HMD := Lib.hid hmd
    have hfl : md.F.length ≤ 9223372036854775807 := by have h1 := sF.le; have h2 := sF.cap; unfold maxLen at h2; omega
    clear hmd sF hmr hm
    by_cases hab : 0 ≤ a ∧ 0 ≤ b ∧ a < md.F.length ∧ b < md.F.length
    · obtain ⟨i, rfl⟩ : ∃ k : Nat, a = k := ⟨a.toNat, by omega⟩
      obtain ⟨j, rfl⟩ : ∃ k : Nat, b = k := ⟨b.toNat, by omega⟩
      have hi : i < md.F.length := by omega
      have hj : j < md.F.length := by omega
      have i1 : decide ((i : Int) < 0) = false := by rw [decide_eq_false_iff_not]; omega
      have i2 : decide ((md.F.length : Int) ≤ (i : Int)) = false := by rw [decide_eq_false_iff_not]; omega
      have j1 : decide ((j : Int) < 0) = false := by rw [decide_eq_false_iff_not]; omega
      have j2 : decide ((md.F.length : Int) ≤ (j : Int)) = false := by rw [decide_eq_false_iff_not]; omega
      obtain ⟨x, hx⟩ : ∃ d, md.F[i]? = some d := ⟨_, List.getElem?_eq_getElem hi⟩
      obtain ⟨y, hy⟩ : ∃ d, md.F[j]? = some d := ⟨_, List.getElem?_eq_getElem hj⟩
      have HX := Lib.hid hx
      have HY := Lib.hid hy
      have hfm : f.M.length ≤ 30 := by
        have h := HFW.out
        unfold fewF at h
        simp only [Bool.and_eq_true, decide_eq_true_eq] at h
        omega
      have hff : md.F.length ≤ 40 := by
        have h := HFW.out
        unfold fewF at h
        simp only [Bool.and_eq_true, decide_eq_true_eq, List.all_eq_true] at h
        have := h.1.2 md (List.mem_of_getElem? HMD.out)
        unfold fewM at this
        simp only [Bool.and_eq_true, decide_eq_true_eq] at this
        omega
      clear hab hx hy
      go_wp2_with (refine wpList_load_fl rfl _ rfl w.heap.size _ _ rfl _ _ hx2 ?_)
      refine (HRES.out _ HB2.out).mono ?_
      rintro e w3 ⟨vM3, vE3, rfl, hs3, hb3⟩
      have hx3 := (hb3.block _ (Array.getElem?_eq_some_iff.1 hx2).1).trans hx2
      have HSA := Lib.hid hs3.at
      obtain ⟨xs3, ys3, k1, k2, k3, k4⟩ := hs3
      obtain ⟨B1, r1, rfl, -⟩ := Sl.of_own k1
      obtain ⟨B2, r2, rfl, -⟩ := Sl.of_own k3
      have hbw3 := below_then HB2.out hb3
      have HC1 := Lib.hid c1
      have HW23 := Lib.hid hb3
      clear hx2 v0 v1 c1 k1 k2 k3 k4 hb3
      obtain ⟨S, hS⟩ : ∃ S, tabS f = S := ⟨_, rfl⟩
      obtain ⟨E, hE⟩ : ∃ S, tabE f = S := ⟨_, rfl⟩
      rw [hS, hE]
      rw [hS] at HSA
      have HEQ := Lib.hid (And.intro hS hE)
      clear hS hE
      go_upto_region 6 with fail
      have hb4 := below_new w3 (.cells #[.slice B1 S.M.length r1, .slice B2 S.E.length r2] 29)
      have hs4 : (w3.alloc (.cells #[.slice B1 S.M.length r1, .slice B2 S.E.length r2] 29)).heap[w3.heap.size]? = some (.cells #[.slice B1 S.M.length r1, .slice B2 S.E.length r2] 29 (0, 0)) := heap_alloc_new w3 _
      have hx4 := (hb4.block _ (Array.getElem?_eq_some_iff.1 hx3).1).trans hx3
      have hbw4 := below_then hbw3 hb4
      obtain ⟨W4, hW4⟩ : ∃ W, W = w3.alloc (.cells #[.slice B1 S.M.length r1, .slice B2 S.E.length r2] 29) := ⟨_, rfl⟩
      rw [← hW4] at hb4 hs4 hx4 hbw4 ⊢
      clear hW4 hx3
      have v0 := heap_cell hx4 0
      have v1 := heap_cell hx4 1
      simp at v0 v1
      have HB4 := Lib.hid hbw4
      have HB34 := Lib.hid hb4
      have HS4 := Lib.hid hs4
      have HX4 := Lib.hid hx4
      clear hb4 hs4 hbw4 hbw3 hx4
      obtain ⟨z0, hi0, hz0, hz1, hz2⟩ := info_parts infoMss
      obtain ⟨z1, hi1, hy0, hy1, hy2⟩ := info_parts infoFds
      have HS1W := Lib.hid (fun (c : World) (hb : Below W4.heap.size W4 c) => HS1.out.low g1 (Low.below (below_then HB4.out hb) (Nat.le_refl _)))
      have HXC := Lib.hid (HMA.out.cells)
      go_cut [14] (fun v wx => OrdRel W4 (.slice A2 f.E.length q2) f.M.length xs v wx)
      case first =>
        have hlt0 : w.heap.size < W4.heap.size := (Array.getElem?_eq_some_iff.1 HX4.out).1
        have HFO : Hid (∀ c, Below W4.heap.size W4 c → (fun w' => w'.cell? ⟨w.heap.size, 0, none⟩ = some (.slice (some ad) f.M.length q1) ∧ w'.cell? ⟨w.heap.size, 1, none⟩ = some (.slice A2 f.E.length q2)) c) := Lib.hid (fun c hb => ⟨(World.cell?_of_block (hb.block _ hlt0)).trans v0, (World.cell?_of_block (hb.block _ hlt0)).trans v1⟩)
        have HD : Hid (Below W4.heap.size W4 W4.drew) := Lib.hid ((Below.refl _ _).drew)
        have HDA := Lib.hid (fun o => HD.out.alloc HD.out.size o)
        have HBN := HD
        have hgb : W4.heap.size ≤ W4.heap.size := Nat.le_refl _
        clear v0 v1
        go_region_held_law (fun w' => w'.cell? ⟨w.heap.size, 0, none⟩ = some (.slice (some ad) f.M.length q1) ∧ w'.cell? ⟨w.heap.size, 1, none⟩ = some (.slice A2 f.E.length q2))
          (first | exact HFO.out _ HBN.out | exact HFO.out _ HD.out | exact HFO.out _ (HDA.out _) | exact HFO.out _ (HBN.out.alloc HBN.out.size _) | exact HFO.out _ ((HBN.out.setCell hgb _).setCell hgb _))
          (first
            | (refine step_append_sl rfl _ _ 22 rfl W4.heap.size 51 z0 _ 5 96 Tryz.underlying22 hi0 hz0 hz1 hz2 rfl (by decide) _ _ _ (by simp [Act.eval, Act.put]) (World.ownsRow_nil W4.drew _ _ _) (some ad) f.M.length q1 xs rfl (HS1W.out _ HD.out) HXC.out (by unfold maxLen; omega) (by omega) HD.out.size ?_; intro vn wn hrow hgr; have hBN := Lib.hid (HD.out.grown hgr HD.out.size (fun i hi => by simp [Value.ownBlock] at hi)); clear HBN; have HBN := hBN; clear hBN; obtain ⟨An, cn, rfl, -⟩ := Sl.of_own hrow; have HROW := Lib.hid hrow; clear hrow hgr)
            | (refine step_append_sl rfl _ _ 22 rfl W4.heap.size 51 z0 _ 5 96 Tryz.underlying22 hi0 hz0 hz1 hz2 rfl (by decide) _ _ _ (by simp [Act.eval, Act.put]) (World.ownsRow_nil (W4.drew.alloc _) _ _ _) (some ad) f.M.length q1 xs rfl (HS1W.out _ (HDA.out _)) HXC.out (by unfold maxLen; omega) (by omega) (HDA.out _).size ?_; intro vn wn hrow hgr; have hBX := (hgr.block W4.heap.size (by simp) (by simp [Value.ownBlock])).trans (heap_alloc_new W4.drew _); have hBN := Lib.hid ((HDA.out _).grown hgr (HDA.out _).size (fun i hi => by simp [Value.ownBlock] at hi)); clear HBN; have HBN := hBN; clear hBN; obtain ⟨An, cn, rfl, -⟩ := Sl.of_own hrow; have HROW := Lib.hid hrow; have hx0 := heap_cell hBX 0; have hx1 := heap_cell hBX 1; have hf0 := heap_free hBX 0; have hf1 := heap_free hBX 1; have HBX := Lib.hid hBX; simp at hx0 hx1; (try simp at hf0 hf1); clear hrow hgr hBX))
        · go_wp2_with fail
          go_meet
          case rel =>
            have hr := HROW.out
            simp only [Nat.zero_add, List.nil_append] at hr
            exact ⟨_, _, rfl, heap_alloc_new wn _, own_below hr (below_new wn _), HBN.out.alloc HBN.out.size _, HBN.out.size⟩
        · go_wp2_with fail
          go_meet
          case rel =>
            have hr := HROW.out
            simp only [Nat.zero_add, List.nil_append] at hr
            obtain ⟨k2, gr⟩ := box_two HBX.out (.slice An f.M.length cn) (.slice A2 f.E.length q2)
            exact ⟨_, _, rfl, k2, own_other hr gr HBX.out (by decide), (HBN.out.setCell hgb _).setCell hgb _, hgb⟩
      case rest =>
      obtain ⟨g, vr, rfl, hgx, hrow, hb5, hge⟩ := hcut
      obtain ⟨W5, rfl⟩ : ∃ W, W = wc := ⟨_, rfl⟩
      obtain ⟨gr, cr, rfl, hgr⟩ := own_there hrow (by omega) (by decide)
      have v0' := (hb5.cell (cell_lt v0)).trans v0
      have hb25 := below_then (below_then HW23.out HB34.out) hb5
      have c1 := (hb25.cell (cell_lt HC1.out)).trans HC1.out
      have HSF5 := Lib.hid (HSF.out.on hb25)
      have HGX := Lib.hid hgx
      have HROW := Lib.hid hrow
      have HB5 := Lib.hid hb5
      have HGE := Lib.hid hge
      clear v0 v1 hb25 hgx hrow hb5 hge
      go_upto_region 8 with (refine wpList_app_sl rfl _ _ 47 rfl W5.heap.size 53 z1 _ 7 80 Tryz.underlying47 hi1 hy0 hy1 hy2 rfl (by decide) _ 0 [] (by simp [Act.eval, Act.put]) (World.ownsRow_nil W5 _ _ _) AF md.F.length cF (fdv md.F) (by simp [Act.eval, Act.put]) HSF5.out (fdv_cells _) (by unfold maxLen; omega) (by omega) (Nat.le_refl _) ?_; intro vl wl hrl hgl)
      simp only [Nat.zero_add, List.nil_append] at hrl
      have hbl : Below W5.heap.size W5 wl := (Below.refl _ _).grown hgl (Nat.le_refl _) (fun i hi => by simp [Value.ownBlock] at hi)
      obtain ⟨gl, cl, rfl, hgl2⟩ := own_there hrl (by omega) (by decide)
      have HROW6 := Lib.hid (own_below HROW.out hbl)
      have HGX6 := Lib.hid ((hbl.block _ (Array.getElem?_eq_some_iff.1 HGX.out).1).trans HGX.out)
      have HBL := Lib.hid hbl
      have HRL := Lib.hid hrl
      have cy := fdc_at hrl HY.out
      have cx := fdc_at hrl HX.out
      have hfz : ∀ n, wl.frozen? ⟨gl, n, none⟩ = false := fun n => hrl.frozenAt n
      obtain ⟨cy0, cy1, cy2, cy3, cy4, cy5, cy6⟩ := cy
      obtain ⟨cx0, cx1, cx2, cx3, cx4, cx5, cx6⟩ := cx
      clear hbl hrl hgl c1 v0'
      go_cut [] (fun wx => SwapRel wl W5.heap.size (.slice (some ⟨gl, 0, none⟩) md.F.length cl) md.F.length (fdv ((md.F.set i y).set j x)) wx)
      case first =>
        obtain ⟨d', hd'⟩ : ∃ d', (md.F.set i y)[j]? = some d' := ⟨_, List.getElem?_eq_getElem (by simp; omega)⟩
        have cz := fdc_at (own_seven HRL.out i y hi) hd'
        obtain ⟨cz0, cz1, cz2, cz3, cz4, cz5, cz6⟩ := cz
        clear hd'
        go_big_region
        all_goals
          go_wp2_with fail
          go_meet
          case rel => exact ⟨World.ownsRow.drew (own_seven (own_seven HRL.out i y hi) j x (by simp; omega)), grown_drew (grown_seven (grown_seven (World.grownBy.refl wl _) _ _ _ _ _ _ _ _) _ _ _ _ _ _ _ _)⟩
      case rest =>
      obtain ⟨hrl8, hg8⟩ := hcut
      obtain ⟨W8, rfl⟩ : ∃ W, W = wc := ⟨_, rfl⟩
      have hb8 := HBL.out.grown hg8 HBL.out.size (fun q hq => (HRL.out.lt q hq).1)
      have hrow8 := HROW6.out.kept hg8 (own_apart HROW6.out HRL.out (by decide))
      have hgx8 := own_far8 HRL.out hg8 HGX6.out (by decide)
      clear cy0 cy1 cy2 cy3 cy4 cy5 cy6 cx0 cx1 cx2 cx3 cx4 cx5 cx6 hfz hg8
      have HB8 := Lib.hid hb8
      have HRL8 := Lib.hid hrl8
      have HROW8 := Lib.hid hrow8
      have HGX8 := Lib.hid hgx8
      have t0 := heap_cell hgx8 0
      simp at t0
      have tc := hrow8.cellAt (k * 5 + 1) (by omega)
      have tf := hrow8.frozenAt (k * 5 + 1)
      obtain ⟨tv, htv⟩ : ∃ u, xs[k * 5 + 1]? = some u := ⟨_, List.getElem?_eq_getElem (by have h : xs.length = f.M.length * 5 := hrow8.1; omega)⟩
      rw [htv] at tc
      clear htv hb8 hrl8 hrow8 hgx8
      go_upto_region 10 with fail
      have hst := HROW8.out.stored (k * 5 + 1) (.slice (some ⟨gl, 0, none⟩) md.F.length cl)
      obtain ⟨W9, hW9⟩ : ∃ W, W = W8.setCell ⟨gr, k * 5 + 1, none⟩ (.slice (some ⟨gl, 0, none⟩) md.F.length cl) := ⟨_, rfl⟩
      rw [← hW9] at hst ⊢
      obtain ⟨hrow9, hg9⟩ := hst
      have hgx9 := own_far8 HROW8.out hg9 HGX8.out (by decide)
      have hrl9 := HRL8.out.kept hg9 (own_apart HRL8.out HROW8.out (by decide))
      have hb48 := below_then HB5.out HB8.out
      have hb49 := hb48.grown hg9 hb48.size (fun q hq => (HROW8.out.lt q hq).1)
      have HB9 := Lib.hid (below_then HB4.out hb49)
      have hp := swap_perm md.F i j x y HX.out HY.out
      obtain ⟨F', hF'⟩ : ∃ F', (md.F.set i y).set j x = F' := ⟨_, rfl⟩
      rw [hF'] at hp hrl9
      have hlF : F'.length = md.F.length := hp.length_eq
      have hfat : FAt W9.heap.size W9 (setF f k F') (.slice (some ⟨gr, 0, none⟩) f.M.length cr) (.slice A2 f.E.length q2) := by
        refine ⟨xs.set (k * 5 + 1) (.slice (some ⟨gl, 0, none⟩) md.F.length cl), ys, ?_, ?_, ?_, ?_⟩
        · rw [setF_len]
          exact Rb.of_own hrow9
        · exact msat_set ((HMA.out.low (Low.below HB9.out (Nat.le_refl _))).mono HB9.out.size) hlk (by rw [hlF]; exact Rb.of_own hrl9)
        · exact Rb.mono ⟨A2, q2, rfl, HS2.out.low g2 (Low.below HB9.out (Nat.le_refl _)), g2⟩ HB9.out.size
        · exact (HEA.out.low (Low.below HB9.out (Nat.le_refl _))).mono HB9.out.size
      have HRES2 := Lib.hid (resolve_any W9.heap.size (setF f k F') _ _ W9 (Nat.le_refl _) hfat (in_set HIN.out HMD.out hp) (HL.out.tabs.on HB9.out))
      obtain ⟨e1, e2⟩ := tab_order HMD.out hp
      have hz := zero_iff e1
      unfold ResPost at HRES2
      rw [e2, HEQ.out.1] at HRES2
      rw [HEQ.out.2] at hz
      obtain ⟨E', hE'⟩ : ∃ E', tabE (setF f k F') = E' := ⟨_, rfl⟩
      obtain ⟨P', hP'⟩ : ∃ E', tabAt (setF f k F') = E' := ⟨_, rfl⟩
      rw [hE', hP'] at HRES2
      rw [hE'] at hz
      obtain ⟨c, hc⟩ : ∃ c, ((E : Int) == 0) = c := ⟨_, rfl⟩
      rw [hc] at hz
      have HB39 := Lib.hid (below_then HB34.out hb49)
      have HS9 := Lib.hid ((hb49.block _ (Array.getElem?_eq_some_iff.1 HS4.out).1).trans HS4.out)
      have HC := Lib.hid (And.intro hc hz)
      clear hW9 hrow9 hg9 hrl9 hb48 hb49 hp hF' hlF hfat e1 e2 hE' hP' hz hc t0 tc tf
      go_wp2_with (refine wpList_load_fl rfl _ rfl g _ _ rfl _ _ hgx9 ?_)
      refine HRES2.out.mono ?_
      rintro e w10 ⟨vM10, vE10, rfl, hs10, hb10⟩
      have HSA10 := Lib.hid hs10.at
      obtain ⟨xs10, ys10, k1, k2, k3, k4⟩ := hs10
      obtain ⟨B3, r3, rfl, -⟩ := Sl.of_own k1
      obtain ⟨B4, r4, rfl, -⟩ := Sl.of_own k3
      have hs10 := (hb10.block _ (Array.getElem?_eq_some_iff.1 HS9.out).1).trans HS9.out
      have hs11 := ((below_new w10 (.cells #[.slice B3 S.M.length r3, .slice B4 S.E.length r4] 29)).block _ (Array.getElem?_eq_some_iff.1 hs10).1).trans hs10
      have hn11 : (w10.alloc (.cells #[.slice B3 S.M.length r3, .slice B4 S.E.length r4] 29)).heap[w10.heap.size]? = some (.cells #[.slice B3 S.M.length r3, .slice B4 S.E.length r4] 29 (0, 0)) := heap_alloc_new w10 _
      have hb311 := below_lit (below_then HB39.out hb10) (.cells #[.slice B3 S.M.length r3, .slice B4 S.E.length r4] 29)
      have HSM := Lib.hid (sameT_any w10.heap.size S S (.slice B1 S.M.length r1) (.slice B2 S.E.length r2) (.slice B3 S.M.length r3) (.slice B4 S.E.length r4) (w10.alloc (.cells #[.slice B3 S.M.length r3, .slice B4 S.E.length r4] 29)) (by simp) ((HSA.out.low (Low.below hb311 (Nat.le_refl _))).mono (below_then HB39.out hb10).size) (HSA10.out.low (Low.alloc _ _ (Nat.le_refl _))))
      rw [decide_eq_true (show S = S from rfl)] at HSM
      have HB11 := Lib.hid (below_lit (below_then HB9.out hb10) (.cells #[.slice B3 S.M.length r3, .slice B4 S.E.length r4] 29))
      clear hgx9 k1 k2 k3 k4 hs10 hb10 hb311
      go_upto_region 11 with fail
      obtain ⟨W11, hW11⟩ : ∃ W, W = w10.alloc (.cells #[.slice B3 S.M.length r3, .slice B4 S.E.length r4] 29) := ⟨_, rfl⟩
      rw [← hW11] at hs11 hn11 HSM HB11 ⊢
      obtain ⟨q1', q2'⟩ := HC.out
      clear hW11
      go_wp2_with (first
        | (refine wpList_load_scg rfl _ rfl w3.heap.size _ _ rfl _ _ hs11 ?_)
        | (refine wpList_load_scg rfl _ rfl w10.heap.size _ _ rfl _ _ hn11 ?_)
        | (go_at_call 27; refine HSM.out.mono ?_; rintro e w12 ⟨rfl, hb12⟩))
      go_ret
      exact ⟨by simp, below_then HB11.out hb12⟩
    · obtain ⟨c3, h3⟩ : ∃ c, decide (a < 0) = c := ⟨_, rfl⟩
      obtain ⟨c4, h4⟩ : ∃ c, decide (b < 0) = c := ⟨_, rfl⟩
      obtain ⟨c5, h5⟩ : ∃ c, decide ((md.F.length : Int) ≤ a) = c := ⟨_, rfl⟩
      obtain ⟨c6, h6⟩ : ∃ c, decide ((md.F.length : Int) ≤ b) = c := ⟨_, rfl⟩
      have HG : Hid (c3 = false → c4 = false → c5 = false → c6 = true) := Lib.hid (fun e3 e4 e5 => by
        subst h3 h4 h5 h6
        rw [decide_eq_false_iff_not] at e3 e4 e5
        rw [decide_eq_true_eq]
        omega)
      clear hab hx2
      cases c3 with
      | true =>
        go_wp2
        go_ret
        exact ⟨rfl, HB2.out⟩
      | false =>
        cases c4 with
        | true =>
          go_wp2
          go_ret
          exact ⟨rfl, HB2.out⟩
        | false =>
          cases c5 with
          | true =>
            go_wp2
            go_ret
            exact ⟨rfl, HB2.out⟩
          | false =>
            obtain rfl := HG.out rfl rfl rfl
            go_wp2
            go_ret
            exact ⟨rfl, HB2.out⟩
  · obtain ⟨c1, hc1⟩ : ∃ c, decide (m < 0) = c := ⟨_, rfl⟩
    have HG : Hid (c1 = false → decide ((f.M.length : Int) ≤ m) = true) := Lib.hid (fun h => by subst hc1; rw [decide_eq_false_iff_not] at h; rw [decide_eq_true_eq]; omega)
    clear hm hx2
    cases c1 with
    | true =>
      go_wp2
      go_ret
      exact ⟨rfl, HB2.out⟩
    | false =>
      have h2 := HG.out rfl
      go_wp2
      go_ret
      exact ⟨rfl, HB2.out⟩

theorem contract (H : Type) (enc : TypeId × Value → H) (W : World) (base : Nat) (args : Array Value) (ds gs : List (DataW H)) (before : List MemPlace)
    (hval0 : ∀ (j : Nat) t v, Tryz.f5.params[j]? = some t → args[j]? = some v → Value.okWide Tryz.prog W .any base t v)
    (hW : DataW.Whole enc Tryz.prog Tryz.f5.params.toList Rows.tableOrderSpec.vars false W args.toList ds gs before) (hsz : (DataW.weightsEach Tryz.prog (Tryz.f5.params.toList ++ (OpenSpec.ofChange Rows.tableOrderSpec).bare.plain.varTypes Tryz.prog) (ds ++ gs)).all (· ≤ reachBytes) = true) (hL : laidMetH Tryz.prog Rows.tableOrderRow.laid W) :
    Calls Tryz.prog 5 args W fun e W2 => ∃ v, e = .returned v ∧ Rows.tableOrderSpec.post enc Tryz.prog Tryz.f5 false true false false W args v W2 := by
  have hval : ∀ (j : Nat) t v, Tryz.f5.params[j]? = some t → args[j]? = some v → Value.okWide Tryz.prog W .any base t v := hval0
  have T := laid_of hL
  have hW2 := hW
  obtain ⟨p, q, hA0, hV, rfl, hfz, hnd⟩ := hW
  have hA : DataW.TrodAll enc Tryz.prog W 0 (fun _ => true) true Tryz.f5.params.toList args.toList ds p := hA0
  rw [Tryz.params5] at hA hval
  obtain ⟨v0, vs0, d0, ds0, p0, q0, hargs, rfl, rfl, h0, r0⟩ := trodAll_cons hA
  obtain ⟨v1, vs1, d1, ds1, p1, q1, rfl, rfl, rfl, h1, r1⟩ := trodAll_cons r0
  obtain ⟨v2, vs2, d2, ds2, p2, q2, rfl, rfl, rfl, h2, r2⟩ := trodAll_cons r1
  obtain ⟨v3, vs3, d3, ds3, p3, q3, rfl, rfl, rfl, h3, r3⟩ := trodAll_cons r2
  obtain ⟨rfl, rfl, rfl⟩ := trodAll_nil r3
  obtain rfl : args = #[v0, v1, v2, v3] := by cases args; simp_all
  obtain ⟨rfl, rfl⟩ := trodVars_none hV
  obtain ⟨fl0, vM0, vE0, rfl, fa0, fi0⟩ := open_file (hval 0 25 v0 rfl rfl) h0
  obtain ⟨i1, rfl, b1, c1⟩ := open_i64 (hval 1 3 v1 rfl rfl) h1
  obtain ⟨i2, rfl, b2, c2⟩ := open_i64 (hval 2 3 v2 rfl rfl) h2
  obtain ⟨i3, rfl, b3, c3⟩ := open_i64 (hval 3 3 v3 rfl rfl) h3
  refine (walk W T fl0 vM0 vE0 fa0 fi0 i1 b1 c1 i2 b2 c2 i3 b3 c3).mono fun e W2 ⟨he, hb⟩ => ?_
  subst he
  exact ⟨_, rfl, law_post (by kernel_rfl) rfl rfl (by decide +kernel) hW2 hb⟩
theorem laid_met (os : Os) : laidMetH Tryz.prog Rows.tableOrderRow.laid ((World.laidAll Tryz.prog os Rows.tableOrderRow.laid).forCall (fun _ _ => 0) ⟨#[], #[.agg #[.slice none 0 0, .slice none 0 0], .int .i64 0, .int .i64 0, .int .i64 0], []⟩).memory := by
  rw [MakeChecks.laidMetH_plain _ _ _ (by kernel_rfl)]
  exact laidMet_laidAll _ (by kernel_rfl) (by kernel_rfl)
theorem reads (os : Os) {H : Type} (enc : TypeId × Value → H) : ∃ places, DataW.whole enc Tryz.prog ((World.laidAll Tryz.prog os Rows.tableOrderRow.laid).forCall (fun _ _ => 0) ⟨#[], #[.agg #[.slice none 0 0, .slice none 0 0], .int .i64 0, .int .i64 0, .int .i64 0], []⟩).memory Tryz.f5.params.toList Rows.tableOrderSpec.vars false (#[.agg #[.slice none 0 0, .slice none 0 0], .int .i64 0, .int .i64 0, .int .i64 0] : Array Value).toList 8 = some ([.agg [.nil, .nil], .lit (.int .i64 0), .lit (.int .i64 0), .lit (.int .i64 0)], [], places) := ⟨[], by kernel_rfl⟩
set_option maxRecDepth 100000 in
theorem lifted (os : Os) (started : os.Started) (H : Type) (enc : TypeId × Value → H) (F : Stop.Interp) :
    ReturnsInHanded {} Tryz.checked os 5 .any ((OpenSpec.ofChange Rows.tableOrderSpec).preRow enc Tryz.prog Tryz.f5 Rows.tableOrderRow.domain false Rows.tableOrderRow.laid) (((OpenSpec.ofChange Rows.tableOrderSpec).at F).post enc Tryz.prog Tryz.f5 false true false false) := by
  obtain ⟨places, hx⟩ := reads os enc
  refine returnsInHanded_of_row (C := Tryz.checked) (s := OpenSpec.ofChange Rows.tableOrderSpec) own started (by kernel_rfl) Tryz.func5
    (witness_row_at (enc := enc) (C := Tryz.checked) false (World.laidAll Tryz.prog os Rows.tableOrderRow.laid) #[.agg #[.slice none 0 0, .slice none 0 0], .int .i64 0, .int .i64 0, .int .i64 0] (World.laidAll_os _ _ _) (by kernel_rfl) (by kernel_rfl) (by kernel_rfl)
      (OpenSpec.preRow_of_cond 8 hx (by kernel_rfl) (fun k hk => by cases hk) (by kernel_rfl) (laid_met os))) ?_
  intro W base args ds gs before hval hW _ _ hsz hL _ _
  exact contract H enc W base args ds gs before hval hW hsz hL
theorem said : Rows.TableOrderSaid :=
  OpenClaim.holds_of_cond 5 Tryz.f5 rfl rfl rfl rfl rfl rfl rfl ⟨rfl, rfl, rfl, rfl, rfl⟩ rfl rfl rfl rfl rfl (by kernel_rfl) Tryz.func5 (by kernel_rfl)
    (of_decide_eq_true (by kernel_rfl)) (by unfold Func.isWrapper; first | (rw [if_pos (by decide +kernel)]; kernel_rfl) | (rw [if_neg (by decide +kernel)]; exact ⟨rfl, rfl⟩))
    (fun os started H enc _ F => by rw [OpenClaim.pre_eq_preRow]; exact lifted os started H enc F)
theorem plain (f : FuncId) (fn : Func) (hf : Tryz.pinned.checked.prog.funcNamed "truffle/trufflelaw08.TableOrder" = some f) (hfn : Tryz.pinned.checked.prog.funcs[f]? = some fn) :
    true = Tryz.pinned.checked.prog.looks [] ∧ ∀ (j : Nat) t, fn.params[j]? = some t → Tryz.pinned.checked.prog.wantsStandIn t = false := by
  obtain rfl : f = 5 := Option.some.inj ((show Tryz.prog.funcNamed "truffle/trufflelaw08.TableOrder" = some 5 by kernel_rfl).symm.trans hf) |>.symm
  obtain rfl : fn = Tryz.f5 := (Option.some.inj (Tryz.func5.symm.trans hfn)).symm
  refine ⟨by kernel_rfl, fun j t ht => ?_⟩
  have hall : (Tryz.f5.params.toList.all fun t => !Tryz.prog.wantsStandIn t) = true := by kernel_rfl
  have := List.all_eq_true.1 hall t (Array.mem_toList_iff.2 (Array.mem_of_getElem? ht))
  exact (show Tryz.prog.wantsStandIn t = false by simpa using this)
theorem proved : Rows.TableOrderCardSaid :=
  Claim7.holds_tied_plain_at .later [] _ _ _ _ said (fun _ h => by cases h) (by kernel_rfl) (fun _ h => by cases h) tableOrder_row_tie rfl ⟨rfl, rfl⟩ (by kernel_rfl) rfl plain (by kernel_rfl)
end Go.Proofs.YtciiemomfniecaaGreatDoor.lawTableOrder
