/-
  A text behind another one that is a file has the messages and enums of both, in order, or goes wrong where the second one does: the statement ProtoJoin, for every two texts.
-/
import Derived.Test.YtldgfepimegbmaaDoorProApp
namespace Go.Proofs.YtldgfepimegbmaaDoor.lawProtoJoin
set_option maxRecDepth 100000
open Go.ChangeShapes Go.WideShapes Go.ChangeAt Go.RowKit

theorem join_list (s t : ByteArray) : (s ++ ⟨#[10]⟩ ++ t).data.toList = s.data.toList ++ 10 :: t.data.toList := by
  rw [show s ++ ⟨#[10]⟩ ++ t = txt (s.data.toList ++ [10] ++ t.data.toList) by rw [← txt_app, ← txt_app, txt_of, txt_of]; rfl, txt_list]
  simp
theorem size_list (s : ByteArray) : s.size = s.data.toList.length := by simp
theorem join_size (s t : ByteArray) : (s ++ ⟨#[10]⟩ ++ t).size = s.size + 1 + t.size := by
  rw [size_list, join_list, List.length_append, List.length_cons, ← size_list, ← size_list]
  omega
/-- The file that is made of both. -/
structure Fin (W c : World) (g : Nat) (F : Fl) (v u : Value) : Prop where
  heap : c.heap[g]? = some (.cells #[v, u] 26 (0, 0))
  read : FRead c F v u
  b : Below W.heap.size W c
theorem fin_read {W c : World} {F1 F2 : Fl} {v u : Value} {xs1 xs2 ys1 ys2 : List Value} (h1 : c.ownsRow W.heap.size 34 5 v (F1.M.length + F2.M.length) (xs1 ++ xs2)) (h2 : c.ownsRow W.heap.size 58 3 u (F1.E.length + F2.E.length) (ys1 ++ ys2))
    (hb : Below W.heap.size W c) (a1 : MsAre W F1.M xs1) (a2 : MsAre W F2.M xs2) (e1 : EnAre W F1.E ys1) (e2 : EnAre W F2.E ys2) : FRead c (F1.app F2) v u := by
  have l1 : (F1.app F2).M.length = F1.M.length + F2.M.length := by simp [Fl.app]
  have l2 : (F1.app F2).E.length = F1.E.length + F2.E.length := by simp [Fl.app]
  refine ⟨xs1 ++ xs2, ys1 ++ ys2, ?_, (a1.leaf (.below hb)).app (a2.leaf (.below hb)), ?_, (e1.leaf (.below hb)).app (e2.leaf (.below hb))⟩
  · rw [l1]; exact own_mono h1 (Nat.zero_le _)
  · rw [l2]; exact own_mono h2 (Nat.zero_le _)
theorem fin_new {W c : World} {F1 F2 : Fl} {v u : Value} {xs1 xs2 ys1 ys2 : List Value} (h : Jn W c v (F1.M.length + F2.M.length) (xs1 ++ xs2) u (F1.E.length + F2.E.length) (ys1 ++ ys2))
    (a1 : MsAre W F1.M xs1) (a2 : MsAre W F2.M xs2) (e1 : EnAre W F1.E ys1) (e2 : EnAre W F2.E ys2) : Fin W (c.alloc (.cells #[v, u] 26)) c.heap.size (F1.app F2) v u := by
  have h' := h.alloc (.cells #[v, u] 26)
  exact ⟨heap_alloc_new _ _, fin_read h'.m h'.e h'.b a1 a2 e1 e2, h'.b⟩
theorem fin_set {W c : World} {F1 F2 : Fl} {v u : Value} {xs1 xs2 ys1 ys2 : List Value} {g : Nat} {x y : Value} (h : Jn W c v (F1.M.length + F2.M.length) (xs1 ++ xs2) u (F1.E.length + F2.E.length) (ys1 ++ ys2)) (hb : c.heap[g]? = some (.cells #[x, y] 26 (0, 0))) (hg : W.heap.size ≤ g)
    (a1 : MsAre W F1.M xs1) (a2 : MsAre W F2.M xs2) (e1 : EnAre W F1.E ys1) (e2 : EnAre W F2.E ys2) : Fin W ((c.setCell ⟨g, 0, none⟩ v).setCell ⟨g, 1, none⟩ u) g (F1.app F2) v u := by
  have k1 := heap_setCell_same (j := 0) hb v
  have k2 := heap_setCell_same (j := 1) k1 u
  have gr : c.grownBy ((c.setCell ⟨g, 0, none⟩ v).setCell ⟨g, 1, none⟩ u) (some g) := by
    refine ⟨rfl, rfl, rfl, by simp [World.setCell], fun k _ hk => ?_⟩
    have hk' : k ≠ g := by intro e; exact hk (by rw [e])
    have q2 : ((c.setCell ⟨g, 0, none⟩ v).setCell ⟨g, 1, none⟩ u).heap[k]? = (c.setCell ⟨g, 0, none⟩ v).heap[k]? := by
      rw [setCell_eq_setRow _ g 1 _ _ _ u k1]; exact setRow_other _ _ _ _ hk'
    have q1 : (c.setCell ⟨g, 0, none⟩ v).heap[k]? = c.heap[k]? := by
      rw [setCell_eq_setRow c g 0 _ _ _ v hb]; exact setRow_other _ _ _ _ hk'
    exact q2.trans q1
  have b1 : Below W.heap.size W (c.setCell ⟨g, 0, none⟩ v) := h.b.setCell hg v
  have b2 : Below W.heap.size W ((c.setCell ⟨g, 0, none⟩ v).setCell ⟨g, 1, none⟩ u) := b1.setCell hg u
  refine ⟨by simpa using k2, fin_read (own_other h.m gr hb (by decide)) (own_other h.e gr hb (by decide)) b2 a1 a2 e1 e2, b2⟩
set_option maxRecDepth 1000000 in
set_option maxHeartbeats 4000000 in
theorem walk_main (w : World) (LV : Laid w) (s t : ByteArray) (d1 : decide ((1500 : Int) < (s.size : Int)) = false) (d2 : decide ((1500 : Int) < (t.size : Int)) = false) (hs : s.size ≤ 1500) (ht : t.size ≤ 1500)
    (F1 F2 F3 : Fl) (P1 P2 P3 E2 E3 : Nat) (hfew : FlFew F3) (hf1 : FlFew F1) (hf2 : FlFew F2) (hp : P2 ≤ t.size)
    (HPS : Hid (∀ w, Laid w → Calls Tryd.prog 8 #[.string s] w (ParPost F1 P1 0 w)))
    (HPT : Hid (∀ w, Laid w → Calls Tryd.prog 8 #[.string t] w (ParPost F2 P2 E2 w)))
    (HPU : Hid (∀ w, Laid w → Calls Tryd.prog 8 #[.string (s ++ ⟨#[10]⟩ ++ t)] w (ParPost F3 P3 E3 w)))
    (e2 : ((E2 : Int) == 2) = false) (e3 : ((E3 : Int) == 2) = false)
    (HC : Hid (((E2 : Int) == 0) = false ∧ E3 = E2 ∧ P3 = P2 + s.size + 1 ∨ E2 = 0 ∧ E3 = 0 ∧ sameFl F3 (F1.app F2) = true)) :
    Calls Tryd.prog 6 #[.string s, .string t] w fun e w' => e = .returned (.bool true) ∧ Below w.heap.size w w' := by
  have e2' : decide ((E2 : Int) = 2) = false := by simpa using e2
  have e3' : decide ((E3 : Int) = 2) = false := by simpa using e3
  obtain ⟨i0, hi, hz0, hz1, hz2⟩ := info_parts infoMss
  obtain ⟨j0, hj, hy0, hy1, hy2⟩ := info_parts infoEns
  go_enter Tryd.func6, Tryd.ntmps6
  go_wp2_with fail
  refine (awake7_any _ LV).mono ?_
  rintro e w1 ⟨rfl, hb1⟩
  go_wp2_with fail
  refine (HPS.out _ (LV.on hb1)).mono ?_
  intro e w2 hp2
  obtain ⟨A1, c1, A1', c1', rfl, hr1, hb2⟩ := par_open hp2
  have HR1 := Lib.hid hr1
  have hb3 := below_then hb1 hb2
  clear hp2 hr1
  go_wp2_with fail
  refine (HPT.out _ (LV.on (below_lit hb3 _))).mono ?_
  intro e w4 hp4
  obtain ⟨A2, c2, A2', c2', rfl, hr2, hb4⟩ := par_open hp4
  have HR2 := Lib.hid hr2
  have hb5 := below_then (below_lit hb3 _) hb4
  have ga4 := (hb4.block w2.heap.size (by simp)).trans (heap_alloc_new w2 (.cells #[.slice A1 F1.M.length c1, .slice A1' F1.E.length c1'] 26))
  have hlt4 : w2.heap.size < w4.heap.size := by have := hb4.size; simp at this; omega
  have hb24 := below_then (below_new w2 (.cells #[.slice A1 F1.M.length c1, .slice A1' F1.E.length c1'] 26)) hb4
  clear hp4 hr2
  go_wp2_with fail
  refine (HPU.out _ (LV.on (below_lit hb5 _))).mono ?_
  intro e w6 hp6
  obtain ⟨A3, c3, A3', c3', rfl, hr3, hb6⟩ := par_open hp6
  have HR3 := Lib.hid hr3
  have hb7 := below_then (below_lit hb5 _) hb6
  have ga6 := (hb6.block w2.heap.size (by simp; omega)).trans ((Below.heap_alloc w4 (.cells #[.slice A2 F2.M.length c2, .slice A2' F2.E.length c2'] 26) w2.heap.size hlt4).trans ga4)
  have gb6 := (hb6.block w4.heap.size (by simp)).trans (heap_alloc_new w4 (.cells #[.slice A2 F2.M.length c2, .slice A2' F2.E.length c2'] 26))
  have hlt6 : w4.heap.size < w6.heap.size := by have := hb6.size; simp at this; omega
  have hb46 := below_then (below_new w4 (.cells #[.slice A2 F2.M.length c2, .slice A2' F2.E.length c2'] 26)) hb6
  have HR16 := Lib.hid ((HR1.out.on hb24).on hb46)
  have HR26 := Lib.hid (HR2.out.on hb46)
  have HG6 := Lib.hid ga6
  have HK6 := Lib.hid gb6
  clear hp6 hr3 ga4 ga6 gb6
  go_wp2_with fail
  have HB7 := Lib.hid (below_lit hb7 (.cells #[.slice A3 F3.M.length c3, .slice A3' F3.E.length c3'] 26))
  obtain ⟨W, hW⟩ : ∃ W, W = w6.alloc (.cells #[.slice A3 F3.M.length c3, .slice A3' F3.E.length c3'] 26) := ⟨_, rfl⟩
  have hbW : Below w6.heap.size w6 W := by rw [hW]; exact below_new _ _
  have hltW : w6.heap.size < W.heap.size := by rw [hW]; simp
  have HB3 : Hid (W.heap[w6.heap.size]? = some (.cells #[.slice A3 F3.M.length c3, .slice A3' F3.E.length c3'] 26)) := Lib.hid (by rw [hW]; exact heap_alloc_new w6 _)
  have HBG := Lib.hid ((hbW.block w2.heap.size (by omega)).trans HG6.out)
  have HBK := Lib.hid ((hbW.block w4.heap.size (by omega)).trans HK6.out)
  obtain ⟨xs1, ys1, m1, ma1, n1, na1⟩ := HR16.out.on hbW
  obtain ⟨xs2, ys2, m2, ma2, n2, na2⟩ := HR26.out.on hbW
  have HR3W := Lib.hid (HR3.out.on hbW)
  have HBW : Hid (Below w.heap.size w W) := Lib.hid (by rw [hW]; exact HB7.out)
  rw [← hW]
  have hltA : w2.heap.size < W.heap.size := by omega
  have hltB : w4.heap.size < W.heap.size := by omega
  generalize w2.heap.size = p1 at *
  generalize w4.heap.size = p2 at *
  generalize w6.heap.size = p3 at *
  clear hW hbW HB7 HR16 HR26 HR1 HR2 HR3 hb24 hb46 hb6 hb4 hb2 hb1 hb3 hb5 hb7 HG6 HK6 hlt4 hlt6
  have ca0 := heap_cell HBG.out 0
  have ca1 := heap_cell HBG.out 1
  have cb0 := heap_cell HBK.out 0
  have cb1 := heap_cell HBK.out 1
  simp at ca0 ca1 cb0 cb1
  have lm1 := hf1.lm
  have lm2 := hf2.lm
  have le1 := hf1.le
  have le2 := hf2.le
  have HM1 := Lib.hid m1
  have HM2 := Lib.hid m2
  have HN1 := Lib.hid n1
  have HN2 := Lib.hid n2
  have HA1 := Lib.hid ma1
  have HA2 := Lib.hid ma2
  have HE1 := Lib.hid na1
  have HE2 := Lib.hid na2
  clear m1 m2 n1 n2 ma1 ma2 na1 na2
  have HFO : Hid (∀ c, Below W.heap.size W c → (fun w' => w'.cell? ⟨p1, 0, none⟩ = some (.slice A1 F1.M.length c1) ∧ w'.cell? ⟨p1, 1, none⟩ = some (.slice A1' F1.E.length c1') ∧ w'.cell? ⟨p2, 0, none⟩ = some (.slice A2 F2.M.length c2) ∧ w'.cell? ⟨p2, 1, none⟩ = some (.slice A2' F2.E.length c2')) c) := Lib.hid (fun c hb => ⟨(World.cell?_of_block (hb.block p1 hltA)).trans ca0, (World.cell?_of_block (hb.block p1 hltA)).trans ca1, (World.cell?_of_block (hb.block p2 hltB)).trans cb0, (World.cell?_of_block (hb.block p2 hltB)).trans cb1⟩)
  clear ca0 ca1 cb0 cb1
  have HJ := Lib.hid (Jn.start W)
  have hal0 : ∀ c : World, (c.alloc (.cells #[.slice none 0 0, .slice none 0 0] 26)).cell? ⟨c.heap.size, 0, none⟩ = some (.slice none 0 0) := fun c => (heap_cell (heap_alloc_new c (.cells #[.slice none 0 0, .slice none 0 0] 26)) 0).trans rfl
  have hal1 : ∀ c : World, (c.alloc (.cells #[.slice none 0 0, .slice none 0 0] 26)).cell? ⟨c.heap.size, 1, none⟩ = some (.slice none 0 0) := fun c => (heap_cell (heap_alloc_new c (.cells #[.slice none 0 0, .slice none 0 0] 26)) 1).trans rfl
  have hal2 : ∀ (c : World) (j : Nat), (c.alloc (.cells #[.slice none 0 0, .slice none 0 0] 26)).frozen? ⟨c.heap.size, j, none⟩ = false := fun c j => heap_free (heap_alloc_new c (.cells #[.slice none 0 0, .slice none 0 0] 26)) j
  go_region_held_law (fun w' => w'.cell? ⟨p1, 0, none⟩ = some (.slice A1 F1.M.length c1) ∧ w'.cell? ⟨p1, 1, none⟩ = some (.slice A1' F1.E.length c1') ∧ w'.cell? ⟨p2, 0, none⟩ = some (.slice A2 F2.M.length c2) ∧ w'.cell? ⟨p2, 1, none⟩ = some (.slice A2' F2.E.length c2'))
    (first | exact HFO.out _ HJ.out.b | exact HFO.out _ (HJ.out.alloc _).b | exact HFO.out _ ((HJ.out.b.setCell hgb _).setCell hgb _) | exact HFO.out _ (((HJ.out.alloc _).b.setCell HJ.out.b.size _).setCell HJ.out.b.size _))
    (first
      | (refine step_append_row rfl _ _ 23 rfl W.heap.size 34 i0 _ 5 96 Tryd.underlying23 hi hz0 hz1 hz2 rfl (by decide) _ _ _ (by simp [Act.eval, Act.put]) HJ.out.m 0 (.slice A1 F1.M.length c1) F1.M.length xs1 rfl (own_below HM1.out HJ.out.b) HA1.out.cells (by unfold maxLen; omega) (by omega) HJ.out.b.size ?_; intro vn wn hrow hgr; (try (have hbx := Lib.hid (HJ.out.keepM hgr HBX.out); clear HBX; have HBX := hbx; clear hbx)); have HJ := Lib.hid (HJ.out.addM hrow hgr); obtain ⟨An, cn, rfl, -⟩ := Sl.of_own hrow; clear hrow hgr; (try clear hx0 hx1 hf0 hf1); (try (have hx0 := heap_cell HBX.out 0; have hx1 := heap_cell HBX.out 1; have hf0 := heap_free HBX.out 0; have hf1 := heap_free HBX.out 1; simp at hx0 hx1; (try simp at hf0 hf1))))
      | (refine step_append_row rfl _ _ 23 rfl W.heap.size 34 i0 _ 5 96 Tryd.underlying23 hi hz0 hz1 hz2 rfl (by decide) _ _ _ (by simp [Act.eval, Act.put]) HJ.out.m 0 (.slice A2 F2.M.length c2) F2.M.length xs2 rfl (own_below HM2.out HJ.out.b) HA2.out.cells (by unfold maxLen; omega) (by omega) HJ.out.b.size ?_; intro vn wn hrow hgr; (try (have hbx := Lib.hid (HJ.out.keepM hgr HBX.out); clear HBX; have HBX := hbx; clear hbx)); have HJ := Lib.hid (HJ.out.addM hrow hgr); obtain ⟨An, cn, rfl, -⟩ := Sl.of_own hrow; clear hrow hgr; (try clear hx0 hx1 hf0 hf1); (try (have hx0 := heap_cell HBX.out 0; have hx1 := heap_cell HBX.out 1; have hf0 := heap_free HBX.out 0; have hf1 := heap_free HBX.out 1; simp at hx0 hx1; (try simp at hf0 hf1))))
      | (refine step_append_row rfl _ _ 24 rfl W.heap.size 58 j0 _ 3 48 Tryd.underlying24 hj hy0 hy1 hy2 rfl (by decide) _ _ _ (by simp [Act.eval, Act.put]) HJ.out.e 0 (.slice A1' F1.E.length c1') F1.E.length ys1 rfl (own_below HN1.out HJ.out.b) HE1.out.cells (by unfold maxLen; omega) (by omega) HJ.out.b.size ?_; intro vn wn hrow hgr; (try (have hbx := Lib.hid (HJ.out.keepE hgr HBX.out); clear HBX; have HBX := hbx; clear hbx)); have HJ := Lib.hid (HJ.out.addE hrow hgr); obtain ⟨An, cn, rfl, -⟩ := Sl.of_own hrow; clear hrow hgr; (try clear hx0 hx1 hf0 hf1); (try (have hx0 := heap_cell HBX.out 0; have hx1 := heap_cell HBX.out 1; have hf0 := heap_free HBX.out 0; have hf1 := heap_free HBX.out 1; simp at hx0 hx1; (try simp at hf0 hf1))))
      | (refine step_append_row rfl _ _ 24 rfl W.heap.size 58 j0 _ 3 48 Tryd.underlying24 hj hy0 hy1 hy2 rfl (by decide) _ _ _ (by simp [Act.eval, Act.put]) HJ.out.e 0 (.slice A2' F2.E.length c2') F2.E.length ys2 rfl (own_below HN2.out HJ.out.b) HE2.out.cells (by unfold maxLen; omega) (by omega) HJ.out.b.size ?_; intro vn wn hrow hgr; (try (have hbx := Lib.hid (HJ.out.keepE hgr HBX.out); clear HBX; have HBX := hbx; clear hbx)); have HJ := Lib.hid (HJ.out.addE hrow hgr); obtain ⟨An, cn, rfl, -⟩ := Sl.of_own hrow; clear hrow hgr; (try clear hx0 hx1 hf0 hf1); (try (have hx0 := heap_cell HBX.out 0; have hx1 := heap_cell HBX.out 1; have hf0 := heap_free HBX.out 0; have hf1 := heap_free HBX.out 1; simp at hx0 hx1; (try simp at hf0 hf1))))
      | (refine step_append_row rfl _ _ 23 rfl W.heap.size 34 i0 _ 5 96 Tryd.underlying23 hi hz0 hz1 hz2 rfl (by decide) _ _ _ (by simp [Act.eval, Act.put]) (HJ.out.alloc _).m 0 (.slice A1 F1.M.length c1) F1.M.length xs1 rfl (own_below HM1.out (HJ.out.alloc _).b) HA1.out.cells (by unfold maxLen; omega) (by omega) (HJ.out.alloc _).b.size ?_; intro vn wn hrow hgr; have hgb := HJ.out.b.size; have HBX := Lib.hid ((HJ.out.alloc _).keepM hgr (heap_alloc_new _ _)); have HJ := Lib.hid ((HJ.out.alloc _).addM hrow hgr); obtain ⟨An, cn, rfl, -⟩ := Sl.of_own hrow; clear hrow hgr; (try clear hx0 hx1 hf0 hf1); (try (have hx0 := heap_cell HBX.out 0; have hx1 := heap_cell HBX.out 1; have hf0 := heap_free HBX.out 0; have hf1 := heap_free HBX.out 1; simp at hx0 hx1; (try simp at hf0 hf1))))
      | (refine step_append_row rfl _ _ 23 rfl W.heap.size 34 i0 _ 5 96 Tryd.underlying23 hi hz0 hz1 hz2 rfl (by decide) _ _ _ (by simp [Act.eval, Act.put]) (HJ.out.alloc _).m 0 (.slice A2 F2.M.length c2) F2.M.length xs2 rfl (own_below HM2.out (HJ.out.alloc _).b) HA2.out.cells (by unfold maxLen; omega) (by omega) (HJ.out.alloc _).b.size ?_; intro vn wn hrow hgr; have hgb := HJ.out.b.size; have HBX := Lib.hid ((HJ.out.alloc _).keepM hgr (heap_alloc_new _ _)); have HJ := Lib.hid ((HJ.out.alloc _).addM hrow hgr); obtain ⟨An, cn, rfl, -⟩ := Sl.of_own hrow; clear hrow hgr; (try clear hx0 hx1 hf0 hf1); (try (have hx0 := heap_cell HBX.out 0; have hx1 := heap_cell HBX.out 1; have hf0 := heap_free HBX.out 0; have hf1 := heap_free HBX.out 1; simp at hx0 hx1; (try simp at hf0 hf1))))
      | (refine step_append_row rfl _ _ 24 rfl W.heap.size 58 j0 _ 3 48 Tryd.underlying24 hj hy0 hy1 hy2 rfl (by decide) _ _ _ (by simp [Act.eval, Act.put]) (HJ.out.alloc _).e 0 (.slice A1' F1.E.length c1') F1.E.length ys1 rfl (own_below HN1.out (HJ.out.alloc _).b) HE1.out.cells (by unfold maxLen; omega) (by omega) (HJ.out.alloc _).b.size ?_; intro vn wn hrow hgr; have hgb := HJ.out.b.size; have HBX := Lib.hid ((HJ.out.alloc _).keepE hgr (heap_alloc_new _ _)); have HJ := Lib.hid ((HJ.out.alloc _).addE hrow hgr); obtain ⟨An, cn, rfl, -⟩ := Sl.of_own hrow; clear hrow hgr; (try clear hx0 hx1 hf0 hf1); (try (have hx0 := heap_cell HBX.out 0; have hx1 := heap_cell HBX.out 1; have hf0 := heap_free HBX.out 0; have hf1 := heap_free HBX.out 1; simp at hx0 hx1; (try simp at hf0 hf1))))
      | (refine step_append_row rfl _ _ 24 rfl W.heap.size 58 j0 _ 3 48 Tryd.underlying24 hj hy0 hy1 hy2 rfl (by decide) _ _ _ (by simp [Act.eval, Act.put]) (HJ.out.alloc _).e 0 (.slice A2' F2.E.length c2') F2.E.length ys2 rfl (own_below HN2.out (HJ.out.alloc _).b) HE2.out.cells (by unfold maxLen; omega) (by omega) (HJ.out.alloc _).b.size ?_; intro vn wn hrow hgr; have hgb := HJ.out.b.size; have HBX := Lib.hid ((HJ.out.alloc _).keepE hgr (heap_alloc_new _ _)); have HJ := Lib.hid ((HJ.out.alloc _).addE hrow hgr); obtain ⟨An, cn, rfl, -⟩ := Sl.of_own hrow; clear hrow hgr; (try clear hx0 hx1 hf0 hf1); (try (have hx0 := heap_cell HBX.out 0; have hx1 := heap_cell HBX.out 1; have hf0 := heap_free HBX.out 0; have hf1 := heap_free HBX.out 1; simp at hx0 hx1; (try simp at hf0 hf1)))))
  all_goals
    have hj := HJ.out
    simp only [Nat.zero_add, List.nil_append] at hj
    first
      | (have HX := Lib.hid (fin_set (F1 := F1) (F2 := F2) hj HBX.out hgb HA1.out HA2.out HE1.out HE2.out))
      | (have HX := Lib.hid (fin_new (F1 := F1) (F2 := F2) hj HA1.out HA2.out HE1.out HE2.out))
    clear hj hal0 hal1 hal2 HJ HFO
    (try clear hx0 hx1 hf0 hf1 HBX hgb)
    have x0 := heap_cell HX.out.heap 0
    have x1 := heap_cell HX.out.heap 1
    have hy3 := (HX.out.b.block p3 hltW).trans HB3.out
    have y0 := heap_cell hy3 0
    have y1 := heap_cell hy3 1
    simp at x0 x1 y0 y1
    have HBF := Lib.hid (below_then HBW.out HX.out.b)
    have HFR := Lib.hid (FRead.on HR3W.out HX.out.b)
    have HFX := Lib.hid HX.out.read
    clear hy3 HX
    rcases HC.out with ⟨ce, rfl, rfl⟩ | ⟨rfl, rfl, hs⟩
    · have ce' : ((E3 : Int) != 0) = true := by rw [bne, ce]; rfl
      go_wp2
      go_ret
      exact ⟨rfl, HBF.out⟩
    · have HSM := Lib.hid (same_any7 F3 (F1.app F2) _ _ _ _ _ HFR.out HFX.out hfew)
      rw [hs] at HSM
      clear hs
      go_wp2_with fail
      refine HSM.out.mono ?_
      rintro e w9 ⟨rfl, hb9⟩
      have HB9 := Lib.hid (below_then HBF.out hb9)
      clear hb9
      go_wp2
      go_ret
      exact ⟨rfl, HB9.out⟩

set_option maxRecDepth 1000000 in
set_option maxHeartbeats 4000000 in
theorem walk_short (w : World) (LV : Laid w) (s t : ByteArray) (d1 : decide ((1500 : Int) < (s.size : Int)) = false) (d2 : decide ((1500 : Int) < (t.size : Int)) = false) (hs : s.size ≤ 1500) (ht : t.size ≤ 1500)
    (F1 F2 F3 : Fl) (P1 P2 P3 E1 E2 E3 : Nat)
    (HPS : Hid (∀ w, Laid w → Calls Tryd.prog 8 #[.string s] w (ParPost F1 P1 E1 w)))
    (HPT : Hid (∀ w, Laid w → Calls Tryd.prog 8 #[.string t] w (ParPost F2 P2 E2 w)))
    (HPU : Hid (∀ w, Laid w → Calls Tryd.prog 8 #[.string (s ++ ⟨#[10]⟩ ++ t)] w (ParPost F3 P3 E3 w)))
    (h : ((E1 : Int) != 0) = true ∨ (((E1 : Int) != 0) = false ∧ ((E2 : Int) == 2) = true) ∨ (((E1 : Int) != 0) = false ∧ ((E2 : Int) == 2) = false ∧ ((E3 : Int) == 2) = true)) :
    Calls Tryd.prog 6 #[.string s, .string t] w fun e w' => e = .returned (.bool true) ∧ Below w.heap.size w w' := by
  rcases h with h1 | ⟨h1, h2⟩ | ⟨h1, h2, h3⟩
  all_goals
    go_enter Tryd.func6, Tryd.ntmps6
    go_wp2_with fail
    refine (awake7_any _ LV).mono ?_
    rintro e w1 ⟨rfl, hb1⟩
    go_wp2_with fail
    refine (HPS.out _ (LV.on hb1)).mono ?_
    intro e w2 hp2
    obtain ⟨A1, c1, A1', c1', rfl, hr1, hb2⟩ := par_open hp2
    have hb3 := below_then hb1 hb2
    clear hp2 hr1
    go_wp2_with fail
    refine (HPT.out _ (LV.on (below_lit hb3 _))).mono ?_
    intro e w4 hp4
    obtain ⟨A2, c2, A2', c2', rfl, hr2, hb4⟩ := par_open hp4
    have hb5 := below_then (below_lit hb3 _) hb4
    clear hp4 hr2
    go_wp2_with fail
    refine (HPU.out _ (LV.on (below_lit hb5 _))).mono ?_
    intro e w6 hp6
    obtain ⟨A3, c3, A3', c3', rfl, hr3, hb6⟩ := par_open hp6
    have HB7 := Lib.hid (below_lit (below_then (below_lit hb5 _) hb6) (.cells #[.slice A3 F3.M.length c3, .slice A3' F3.E.length c3'] 26))
    clear hp6 hr3
    go_wp2
    go_ret
    exact ⟨rfl, HB7.out⟩
set_option maxHeartbeats 4000000 in
theorem walk (w : World) (LV : Laid w) (s : ByteArray) (hs0 : s.size ≤ maxLen) (t : ByteArray) (ht0 : t.size ≤ maxLen) :
    Calls Tryd.prog 6 #[.string s, .string t] w fun e w' => e = .returned (.bool true) ∧ Below w.heap.size w w' := by
  by_cases hs : 1500 < s.size
  · have d6 : decide ((1500 : Int) < (s.size : Int)) = true := by rw [decide_eq_true_eq]; omega
    go_enter Tryd.func6, Tryd.ntmps6
    go_wp2_with fail
    refine (awake7_any _ LV).mono ?_
    rintro e w1 ⟨rfl, hb1⟩
    go_wp2
    go_ret
    exact ⟨rfl, hb1⟩
  · have d1 : decide ((1500 : Int) < (s.size : Int)) = false := by rw [decide_eq_false_iff_not]; omega
    by_cases ht : 1500 < t.size
    · have d6 : decide ((1500 : Int) < (t.size : Int)) = true := by rw [decide_eq_true_eq]; omega
      go_enter Tryd.func6, Tryd.ntmps6
      go_wp2_with fail
      refine (awake7_any _ LV).mono ?_
      rintro e w1 ⟨rfl, hb1⟩
      go_wp2
      go_ret
      exact ⟨rfl, hb1⟩
    · have d2 : decide ((1500 : Int) < (t.size : Int)) = false := by rw [decide_eq_false_iff_not]; omega
      have hsl := size_list s
      have htl := size_list t
      have hjl := join_list s t
      have hjs := join_size s t
      have h1 := fun w L => parse_any s (by omega) w L
      have h2 := fun w L => parse_any t (by omega) w L
      have h3 := fun w L => parse_any (s ++ ⟨#[10]⟩ ++ t) (by omega) w L
      rw [hjl] at h3
      have hj := join7 s.data.toList t.data.toList (by omega) (by omega)
      have hp := parAt_le t.data.toList
      rw [← htl] at hp
      rw [← hsl] at hj
      have k1 := few_par s.data.toList
      have k2 := few_par t.data.toList
      have k3 := few_par (s.data.toList ++ 10 :: t.data.toList)
      clear hjl hjs hsl htl
      by_cases e1 : parE s.data.toList = 0
      · have b1 : ((parE s.data.toList : Int) != 0) = false := by rw [e1]; rfl
        by_cases e2 : parE t.data.toList = 2
        · exact walk_short w LV s t d1 d2 (by omega) (by omega) _ _ _ _ _ _ _ _ _ (Lib.hid h1) (Lib.hid h2) (Lib.hid h3) (.inr (.inl ⟨b1, by rw [e2]; rfl⟩))
        · have b2 : ((parE t.data.toList : Int) == 2) = false := by rw [beq_eq_false_iff_ne]; omega
          by_cases e3 : parE (s.data.toList ++ 10 :: t.data.toList) = 2
          · exact walk_short w LV s t d1 d2 (by omega) (by omega) _ _ _ _ _ _ _ _ _ (Lib.hid h1) (Lib.hid h2) (Lib.hid h3) (.inr (.inr ⟨b1, b2, by rw [e3]; rfl⟩))
          · have b3 : ((parE (s.data.toList ++ 10 :: t.data.toList) : Int) == 2) = false := by rw [beq_eq_false_iff_ne]; omega
            rw [e1] at h1
            refine walk_main w LV s t d1 d2 (by omega) (by omega) _ _ _ _ _ _ _ _ k3 k1 k2 hp (Lib.hid h1) (Lib.hid h2) (Lib.hid h3) b2 b3 (Lib.hid ?_)
            rcases hj with hj | hj | hj | ⟨a1, a2, a3⟩ | ⟨a1, a2, a3⟩
            · exact absurd e1 hj
            · exact absurd hj e2
            · exact absurd hj e3
            · exact .inl ⟨by rw [beq_eq_false_iff_ne]; omega, a2, a3⟩
            · exact .inr ⟨a1, a2, a3⟩
      · exact walk_short w LV s t d1 d2 (by omega) (by omega) _ _ _ _ _ _ _ _ _ (Lib.hid h1) (Lib.hid h2) (Lib.hid h3) (.inl (by rw [bne_iff_ne]; omega))

theorem contract (H : Type) (enc : TypeId × Value → H) (W : World) (base : Nat) (args : Array Value) (ds gs : List (DataW H)) (before : List MemPlace)
    (hval0 : ∀ (j : Nat) t v, Tryd.f6.params[j]? = some t → args[j]? = some v → Value.okWide Tryd.prog W .any base t v)
    (hW : DataW.Whole enc Tryd.prog Tryd.f6.params.toList Rows.protoJoinSpec.vars false W args.toList ds gs before) (hsz : (DataW.weightsEach Tryd.prog (Tryd.f6.params.toList ++ (OpenSpec.ofChange Rows.protoJoinSpec).bare.plain.varTypes Tryd.prog) (ds ++ gs)).all (· ≤ reachBytes) = true) (hL : laidMetH Tryd.prog Rows.protoJoinRow.laid W) :
    Calls Tryd.prog 6 args W fun e W2 => ∃ v, e = .returned v ∧ Rows.protoJoinSpec.post enc Tryd.prog Tryd.f6 false true false false W args v W2 := by
  have hval : ∀ (j : Nat) t v, Tryd.f6.params[j]? = some t → args[j]? = some v → Value.okWide Tryd.prog W .any base t v := hval0
  have T := laid_of hL
  have hW2 := hW
  obtain ⟨p, q, hA0, hV, rfl, hfz, hnd⟩ := hW
  have hA : DataW.TrodAll enc Tryd.prog W 0 (fun _ => true) true Tryd.f6.params.toList args.toList ds p := hA0
  rw [Tryd.params6] at hA hval
  obtain ⟨v0, vs0, d0, ds0, p0, q0, hargs, rfl, rfl, h0, r0⟩ := trodAll_cons hA
  obtain ⟨v1, vs1, d1, ds1, p1, q1, rfl, rfl, rfl, h1, r1⟩ := trodAll_cons r0
  obtain ⟨rfl, rfl, rfl⟩ := trodAll_nil r1
  obtain rfl : args = #[v0, v1] := by cases args; simp_all
  obtain ⟨rfl, rfl⟩ := trodVars_none hV
  obtain ⟨s0, rfl, rfl, rfl, b0⟩ := Go.ChangeMaps.open_string Tryd.underlying9 (hval 0 9 v0 rfl rfl) h0
  obtain ⟨s1, rfl, rfl, rfl, b1⟩ := Go.ChangeMaps.open_string Tryd.underlying9 (hval 1 9 v1 rfl rfl) h1
  refine (walk W T s0 b0 s1 b1).mono fun e W2 ⟨he, hb⟩ => ?_
  subst he
  exact ⟨_, rfl, law_post (by kernel_rfl) rfl rfl (by decide +kernel) hW2 hb⟩
theorem laid_met (os : Os) : laidMetH Tryd.prog Rows.protoJoinRow.laid ((World.laidAll Tryd.prog os Rows.protoJoinRow.laid).forCall (fun _ _ => 0) ⟨#[], #[.string .empty, .string .empty], []⟩).memory := by
  rw [MakeChecks.laidMetH_plain _ _ _ (by kernel_rfl)]
  exact laidMet_laidAll _ (by kernel_rfl) (by kernel_rfl)
theorem reads (os : Os) {H : Type} (enc : TypeId × Value → H) : ∃ places, DataW.whole enc Tryd.prog ((World.laidAll Tryd.prog os Rows.protoJoinRow.laid).forCall (fun _ _ => 0) ⟨#[], #[.string .empty, .string .empty], []⟩).memory Tryd.f6.params.toList Rows.protoJoinSpec.vars false (#[.string .empty, .string .empty] : Array Value).toList 8 = some ([.lit (.string []), .lit (.string [])], [], places) := ⟨[], by kernel_rfl⟩
set_option maxRecDepth 100000 in
theorem lifted (os : Os) (started : os.Started) (H : Type) (enc : TypeId × Value → H) (F : Stop.Interp) :
    ReturnsInHanded {} Tryd.checked os 6 .any ((OpenSpec.ofChange Rows.protoJoinSpec).preRow enc Tryd.prog Tryd.f6 Rows.protoJoinRow.domain false Rows.protoJoinRow.laid) (((OpenSpec.ofChange Rows.protoJoinSpec).at F).post enc Tryd.prog Tryd.f6 false true false false) := by
  obtain ⟨places, hx⟩ := reads os enc
  refine returnsInHanded_of_row (C := Tryd.checked) (s := OpenSpec.ofChange Rows.protoJoinSpec) own started (by kernel_rfl) Tryd.func6
    (witness_row_at (enc := enc) (C := Tryd.checked) false (World.laidAll Tryd.prog os Rows.protoJoinRow.laid) #[.string .empty, .string .empty] (World.laidAll_os _ _ _) (by kernel_rfl) (by kernel_rfl) (by kernel_rfl)
      (OpenSpec.preRow_of_cond 8 hx (by kernel_rfl) (fun k hk => by cases hk) (by kernel_rfl) (laid_met os))) ?_
  intro W base args ds gs before hval hW _ _ hsz hL _ _
  exact contract H enc W base args ds gs before hval hW hsz hL
theorem said : Rows.ProtoJoinSaid :=
  OpenClaim.holds_of_cond 6 Tryd.f6 rfl rfl rfl rfl rfl rfl rfl ⟨rfl, rfl, rfl, rfl, rfl⟩ rfl rfl rfl rfl rfl (by kernel_rfl) Tryd.func6 (by kernel_rfl)
    (of_decide_eq_true (by kernel_rfl)) (by unfold Func.isWrapper; first | (rw [if_pos (by decide +kernel)]; kernel_rfl) | (rw [if_neg (by decide +kernel)]; exact ⟨rfl, rfl⟩))
    (fun os started H enc _ F => by rw [OpenClaim.pre_eq_preRow]; exact lifted os started H enc F)
theorem plain (f : FuncId) (fn : Func) (hf : Tryd.pinned.checked.prog.funcNamed "truffle/trufflelaw07.ProtoJoin" = some f) (hfn : Tryd.pinned.checked.prog.funcs[f]? = some fn) :
    true = Tryd.pinned.checked.prog.looks [] ∧ ∀ (j : Nat) t, fn.params[j]? = some t → Tryd.pinned.checked.prog.wantsStandIn t = false := by
  obtain rfl : f = 6 := Option.some.inj ((show Tryd.prog.funcNamed "truffle/trufflelaw07.ProtoJoin" = some 6 by kernel_rfl).symm.trans hf) |>.symm
  obtain rfl : fn = Tryd.f6 := (Option.some.inj (Tryd.func6.symm.trans hfn)).symm
  refine ⟨by kernel_rfl, fun j t ht => ?_⟩
  have hall : (Tryd.f6.params.toList.all fun t => !Tryd.prog.wantsStandIn t) = true := by kernel_rfl
  have := List.all_eq_true.1 hall t (Array.mem_toList_iff.2 (Array.mem_of_getElem? ht))
  exact (show Tryd.prog.wantsStandIn t = false by simpa using this)
theorem proved : Rows.ProtoJoinCardSaid :=
  Claim7.holds_tied_plain_at .later [] _ _ _ _ said (fun _ h => by cases h) (by kernel_rfl) (fun _ h => by cases h) protoJoin_row_tie rfl ⟨rfl, rfl⟩ (by kernel_rfl) rfl plain (by kernel_rfl)

end Go.Proofs.YtldgfepimegbmaaDoor.lawProtoJoin
