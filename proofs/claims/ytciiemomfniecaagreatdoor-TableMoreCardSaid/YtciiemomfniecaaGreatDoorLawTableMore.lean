/-
  A message more, of a name that is new, without fields, changes nothing of the others: the statement TableMore, for every file, and name.
-/
import Derived.Test.YtciiemomfniecaaGreatDoorTabAwake
import Derived.Test.YtciiemomfniecaaGreatDoorRawPen
import Derived.BigQuiet
import Derived.BigRegion
import Derived.Deep.DeepCutAuto
namespace Go.Proofs.YtciiemomfniecaaGreatDoor.lawTableMore
set_option maxRecDepth 100000
open Go.ChangeShapes Go.WideShapes Go.ChangeAt Go.RowKit

def newO (x : List UInt8) : Obj := (.cells #[.string (txt x), .slice none 0 0, .slice none 0 0, .slice none 0 0, .int .i64 0] 51)
def OrdRel (W : World) (u : Value) (n : Nat) (xs : List Value) (v : Value) (wx : World) : Prop := ∃ g vr, v = .pointer (some ⟨g, 0, none⟩) ∧ wx.heap[g]? = some (.cells #[vr, u] 25 (0, 0)) ∧ wx.ownsRow W.heap.size 51 5 vr n xs ∧ Below W.heap.size W wx ∧ W.heap.size ≤ g
def WasRel (w0 : World) (g : Nat → Bool) (N : Nat) (n : Nat) (b i : Value) (wr : World) : Prop := ∃ (k : Nat) (c : Bool), i = .int .i64 k ∧ k ≤ N ∧ n = N - k ∧ b = .bool c ∧ g k = c ∧ wr = w0
theorem kept_n {W c : World} {x : List UInt8} (h : (W.alloc (.cells #[.string (txt x), .slice none 0 0, .slice none 0 0, .slice none 0 0, .int .i64 0] 51)).drew.grownBy c (Value.ownBlock (.slice none 0 0))) : c.heap[W.heap.size]? = some (.cells #[.string (txt x), .slice none 0 0, .slice none 0 0, .slice none 0 0, .int .i64 0] 51) := (h.block _ (by simp) (by simp [Value.ownBlock])).trans (heap_alloc_new W _)
theorem kept_f {W c : World} (h : (W.alloc (.cells #[.slice none 0 0, .slice none 0 0] 25)).drew.grownBy c (Value.ownBlock (.slice none 0 0))) : c.heap[W.heap.size]? = some (.cells #[.slice none 0 0, .slice none 0 0] 25) := (h.block _ (by simp) (by simp [Value.ownBlock])).trans (heap_alloc_new W _)
theorem kept_nf {W c : World} {x : List UInt8} (h : ((W.alloc (.cells #[.string (txt x), .slice none 0 0, .slice none 0 0, .slice none 0 0, .int .i64 0] 51)).alloc (.cells #[.slice none 0 0, .slice none 0 0] 25)).drew.grownBy c (Value.ownBlock (.slice none 0 0))) : c.heap[W.heap.size]? = some (.cells #[.string (txt x), .slice none 0 0, .slice none 0 0, .slice none 0 0, .int .i64 0] 51) ∧ c.heap[W.heap.size + 1]? = some (.cells #[.slice none 0 0, .slice none 0 0] 25) :=
  ⟨(h.block _ (by simp; omega) (by simp [Value.ownBlock])).trans (heap_first W _ _ rfl), (h.block _ (by simp) (by simp [Value.ownBlock])).trans (heap_second W _ _)⟩
theorem kept_fn {W c : World} {x : List UInt8} (h : ((W.alloc (.cells #[.slice none 0 0, .slice none 0 0] 25)).alloc (.cells #[.string (txt x), .slice none 0 0, .slice none 0 0, .slice none 0 0, .int .i64 0] 51)).drew.grownBy c (Value.ownBlock (.slice none 0 0))) : c.heap[W.heap.size + 1]? = some (.cells #[.string (txt x), .slice none 0 0, .slice none 0 0, .slice none 0 0, .int .i64 0] 51) ∧ c.heap[W.heap.size]? = some (.cells #[.slice none 0 0, .slice none 0 0] 25) :=
  ⟨(h.block _ (by simp) (by simp [Value.ownBlock])).trans (heap_second W _ _), (h.block _ (by simp; omega) (by simp [Value.ownBlock])).trans (heap_first W _ _ rfl)⟩
theorem mo_first {W c c' : World} (hb : Below W.heap.size W c) (hg : c.grownBy c' (Value.ownBlock (.slice none 0 0))) : Below W.heap.size W c' := hb.grown hg hb.size (fun i hi => by simp [Value.ownBlock] at hi)
theorem mo_more {W c c' : World} {e : TypeId} {v : Value} {n : Nat} {xs : List Value} (hr : c.ownsRow W.heap.size e 5 v n xs) (hb : Below W.heap.size W c) (hg : c.grownBy c' v.ownBlock) : Below W.heap.size W c' := hb.grown hg hb.size (fun i hi => (hr.lt i hi).1)
set_option maxRecDepth 1000000 in
set_option maxHeartbeats 8000000 in
theorem walk (w : World) (L : LT w) (f : Fl) (vM vE : Value) (fa : FAt w.heap.size w f vM vE) (fi : FlIn f) (nm : ByteArray) (hnm : nm.size ≤ maxLen) :
    Calls Tryz.prog 8 #[.agg #[vM, vE], .string nm] w fun e w' => e = .returned (.bool true) ∧ Below w.heap.size w w' := by
  obtain ⟨x, rfl⟩ : ∃ x, nm = txt x := ⟨_, (txt_of nm).symm⟩
  have HNM := Lib.hid (show x.length ≤ maxLen by rw [txt_size] at hnm; exact hnm)
  clear hnm
  have fa0 := fa
  have HFA := Lib.hid fa
  obtain ⟨xs, ys, ⟨A1, q1, rfl, s1, g1⟩, h2, ⟨A2, q2, rfl, s2, g2⟩, h4⟩ := fa
  have HS1 := Lib.hid s1
  have HMA := Lib.hid h2
  have HS2 := Lib.hid s2
  have HEA := Lib.hid h4
  have hlm : f.M.length ≤ 9223372036854775807 := by have h1 := s1.le; have h2 := s1.cap; unfold maxLen at h2; omega
  have hle : f.E.length ≤ 9223372036854775807 := by have h1 := s2.le; have h2 := s2.cap; unfold maxLen at h2; omega
  have HL := Lib.hid L
  have HIN := Lib.hid fi
  have HRES := Lib.hid (fun (wx : World) (hb : Below w.heap.size w wx) => resolve_any w.heap.size f (.slice A1 f.M.length q1) (.slice A2 f.E.length q2) wx hb.size (fa0.low (Low.below hb (Nat.le_refl _))) fi (L.tabs.on hb))
  clear s1 h2 s2 h4 L fi fa0
  have hb0 := below_new w (.cells #[.slice A1 f.M.length q1, .slice A2 f.E.length q2] 25)
  have hx0 : (w.alloc (.cells #[.slice A1 f.M.length q1, .slice A2 f.E.length q2] 25)).heap[w.heap.size]? = some (.cells #[.slice A1 f.M.length q1, .slice A2 f.E.length q2] 25 (0, 0)) := heap_alloc_new w _
  go_enter Tryz.func8, Tryz.ntmps8
  go_wp2_with fail
  refine (awake8_any _ (HL.out.on hb0)).mono ?_
  rintro e w1 ⟨rfl, hb1⟩
  have hx1 := (hb1.block _ (by simp)).trans hx0
  have hbw1 := below_then hb0 hb1
  clear hb0 hx0 hb1
  go_wp2_with (refine wpList_load_fl rfl _ rfl w.heap.size _ _ rfl _ _ hx1 ?_)
  refine (few_any w.heap.size f _ _ w1 hbw1.size (HFA.out.low (Low.below hbw1 (Nat.le_refl _)))).mono ?_
  rintro e w2 ⟨rfl, hb2⟩
  have hx2 := (hb2.block _ (Array.getElem?_eq_some_iff.1 hx1).1).trans hx1
  have hbw2 := below_then hbw1 hb2
  clear hx1 hb2 hbw1
  obtain ⟨fw, hfw⟩ : ∃ b, fewF f = b := ⟨_, rfl⟩
  rw [hfw]
  clear hfw
  go_wp2_with (refine wpList_load_fl rfl _ rfl w.heap.size _ _ rfl _ _ hx2 ?_)
  refine (HRES.out _ hbw2).mono ?_
  rintro e w3 ⟨vM3, vE3, rfl, hs3, hb3⟩
  have hx3 := (hb3.block _ (Array.getElem?_eq_some_iff.1 hx2).1).trans hx2
  have HSA := Lib.hid hs3.at
  obtain ⟨xs3, ys3, k1, k2, k3, k4⟩ := hs3
  obtain ⟨B1, r1, rfl, -⟩ := Sl.of_own k1
  obtain ⟨B2, r2, rfl, -⟩ := Sl.of_own k3
  have hbw3 := below_then hbw2 hb3
  clear hx2 k1 k2 k3 k4 hb3 hbw2
  have HCASE := Lib.hid (tab_cases f)
  obtain ⟨S, hS⟩ : ∃ S, tabS f = S := ⟨_, rfl⟩
  obtain ⟨E, hE⟩ : ∃ S, tabE f = S := ⟨_, rfl⟩
  obtain ⟨P, hP⟩ : ∃ S, tabAt f = S := ⟨_, rfl⟩
  rw [hS, hE, hP] at HCASE
  rw [hS, hE, hP]
  rw [hS] at HSA
  clear hS hE hP HRES
  go_upto_region 4 with fail
  have hb4 := below_new w3 (.cells #[.slice B1 S.M.length r1, .slice B2 S.E.length r2] 29)
  have hs4 : (w3.alloc (.cells #[.slice B1 S.M.length r1, .slice B2 S.E.length r2] 29)).heap[w3.heap.size]? = some (.cells #[.slice B1 S.M.length r1, .slice B2 S.E.length r2] 29 (0, 0)) := heap_alloc_new w3 _
  have hx4 := (hb4.block _ (Array.getElem?_eq_some_iff.1 hx3).1).trans hx3
  have hbw4 := below_then hbw3 hb4
  obtain ⟨W4, hW4⟩ : ∃ W, W = w3.alloc (.cells #[.slice B1 S.M.length r1, .slice B2 S.E.length r2] 29) := ⟨_, rfl⟩
  rw [← hW4] at hb4 hs4 hx4 hbw4 ⊢
  clear hW4 hx3 hbw3
  have v0 := heap_cell hx4 0
  have v1 := heap_cell hx4 1
  simp at v0 v1
  have HB4 := Lib.hid hbw4
  have HB34 := Lib.hid hb4
  have HS4 := Lib.hid hs4
  have HX4 := Lib.hid hx4
  clear hb4 hs4 hbw4 hx4
  cases fw with
  | false =>
    obtain ⟨c1, hc1⟩ : ∃ c, ((E : Int) != 0) = c := ⟨_, rfl⟩
    clear HCASE hc1
    go_wp2
    go_ret
    exact ⟨rfl, HB4.out⟩
  | true =>
  rcases HCASE.out with ⟨hE, -, -⟩ | ⟨rfl, rfl, rfl, hG⟩
  · have hE2 : ((E : Int) != 0) = true := by rw [bne_iff_ne]; omega
    clear hE
    go_wp2
    go_ret
    exact ⟨rfl, HB4.out⟩
  · by_cases h20 : 20 ≤ f.M.length
    · have h2 : decide ((20 : Int) ≤ (f.M.length : Int)) = true := by rw [decide_eq_true_eq]; omega
      go_wp2
      go_ret
      exact ⟨rfl, HB4.out⟩
    · have h2 : decide ((20 : Int) ≤ (f.M.length : Int)) = false := by rw [decide_eq_false_iff_not]; omega
      have HG := Lib.hid hG
      have HLT := Lib.hid (show f.M.length < 20 by omega)
      have HMORE := Lib.hid (more_told (x := x) hG (by omega))
      clear hG
      go_upto_region 6 with fail
      go_wp2_with fail
      refine (type_any x _ (HL.out.tabs.on HB4.out)).mono ?_
      rintro e w5 ⟨rfl, hb5⟩
      have hx5 := (hb5.block _ (Array.getElem?_eq_some_iff.1 HX4.out).1).trans HX4.out
      have hs5 := (hb5.block _ (Array.getElem?_eq_some_iff.1 HS4.out).1).trans HS4.out
      have HB5 := Lib.hid (below_then HB4.out hb5)
      have HB35 := Lib.hid (below_then HB34.out hb5)
      have HS5 := Lib.hid hs5
      have HX5 := Lib.hid hx5
      obtain ⟨kt, hkt⟩ : ∃ k, (((typeK x).getD 0 : Nat) : Int) = k := ⟨_, rfl⟩
      obtain ⟨pl, hpl⟩ : ∃ k, (typeK x).isSome = k := ⟨_, rfl⟩
      rw [hkt, hpl]
      rw [hpl] at HMORE
      clear hkt hpl hb5 hx5 hs5 v0 v1 h2 h20 HX4 HS4
      have v0 := heap_cell HX5.out 0
      have v1 := heap_cell HX5.out 1
      simp at v0 v1
      have HV := Lib.hid (And.intro v0 v1)
      clear v0 v1
      obtain ⟨z0, hi0, hz0, hz1, hz2⟩ := info_parts infoMss
      have HS1W := Lib.hid (fun (c : World) (hb : Below w5.heap.size w5 c) => HS1.out.low g1 (Low.below (below_then HB5.out hb) (Nat.le_refl _)))
      have HXC := Lib.hid (HMA.out.cells)
      have HNC := Lib.hid (newc_cells x)
      have HLM := Lib.hid (show f.M.length ≤ 20 from Nat.le_of_lt HLT.out)
      go_upto_region 7 with fail
      go_cut [12] (fun v wx => OrdRel w5 (.slice A2 f.E.length q2) (f.M.length + 1) (xs ++ NewC x) v wx)
      case first =>
        have v0 := HV.out.1
        have v1 := HV.out.2
        have hlt0 : w.heap.size < w5.heap.size := (Array.getElem?_eq_some_iff.1 HX5.out).1
        have HFO : Hid (∀ c, Below w5.heap.size w5 c → (fun w' => w'.cell? ⟨w.heap.size, 0, none⟩ = some (.slice A1 f.M.length q1) ∧ w'.cell? ⟨w.heap.size, 1, none⟩ = some (.slice A2 f.E.length q2)) c) := Lib.hid (fun c hb => ⟨(World.cell?_of_block (hb.block _ hlt0)).trans v0, (World.cell?_of_block (hb.block _ hlt0)).trans v1⟩)
        have HBN : Hid (Below w5.heap.size w5 w5.drew) := Lib.hid ((Below.refl _ _).drew)
        have hgb : w5.heap.size ≤ w5.heap.size := Nat.le_refl _
        have hl40 : f.M.length ≤ 20 := HLM.out
        clear v0 v1
        go_region_held_law (fun w' => w'.cell? ⟨w.heap.size, 0, none⟩ = some (.slice A1 f.M.length q1) ∧ w'.cell? ⟨w.heap.size, 1, none⟩ = some (.slice A2 f.E.length q2))
          (first | exact HFO.out _ HBN.out | exact HFO.out _ (below_lit HBN.out _) | exact HFO.out _ (below_lit (below_lit HBN.out _) _) | exact HFO.out _ ((HBN.out.setCell HBX.out.2 _).setCell HBX.out.2 _) | exact HFO.out _ (((below_lit HBN.out _).setCell HBN.out.size _).setCell HBN.out.size _))
          (first
            | (refine step_append_sl rfl _ _ 22 rfl w5.heap.size 51 z0 _ 5 96 Tryz.underlying22 hi0 hz0 hz1 hz2 rfl (by decide) _ _ _ (by simp [Act.eval, Act.put]) (World.ownsRow_nil _ _ _ _) A1 f.M.length q1 xs rfl (HS1W.out _ (by first | exact HBN.out | exact below_lit HBN.out _ | exact below_lit (below_lit HBN.out _) _)) HXC.out (by unfold maxLen; omega) (by omega) (by first | exact HBN.out.size | exact (below_lit HBN.out _).size | exact (below_lit (below_lit HBN.out _) _).size) ?_; intro vn wn hrow hgr; have hbn := Lib.hid (mo_first (W := w5) (by first | exact HBN.out | exact below_lit HBN.out _ | exact below_lit (below_lit HBN.out _) _) hgr); (first | (have hk := kept_nf (x := x) hgr; have HNW := Lib.hid hk.1; have HBX := Lib.hid (And.intro hk.2 (show w5.heap.size ≤ w5.heap.size + 1 from Nat.le_succ _)); clear hk) | (have hk := kept_fn (x := x) hgr; have HNW := Lib.hid hk.1; have HBX := Lib.hid (And.intro hk.2 (show w5.heap.size ≤ w5.heap.size from Nat.le_refl _)); clear hk) | (have HNW := Lib.hid (kept_n (x := x) hgr)) | (have HBX := Lib.hid (And.intro (kept_f hgr) (show w5.heap.size ≤ w5.heap.size from Nat.le_refl _))) | skip); clear HBN; have HBN := hbn; clear hbn; obtain ⟨An, cn, rfl, -⟩ := Sl.of_own hrow; have HRW := Lib.hid hrow; clear hrow hgr; (try (have hx0 := heap_cell HBX.out.1 0; have hx1 := heap_cell HBX.out.1 1; have hf0 := heap_free HBX.out.1 0; have hf1 := heap_free HBX.out.1 1; simp at hx0 hx1; (try simp at hf0 hf1))))
            | (refine step_append_sl rfl _ _ 22 rfl w5.heap.size 51 z0 _ 5 96 Tryz.underlying22 hi0 hz0 hz1 hz2 rfl (by decide) _ _ _ (by simp [Act.eval, Act.put]) (own_below HRW.out (below_new _ _)) _ 1 1 (NewC x) rfl (new_sl (((below_new _ (.cells #[.slice none 0 0, .slice none 0 0] 25)).block _ (Array.getElem?_eq_some_iff.1 HNW.out).1).trans HNW.out)) HNC.out (by unfold maxLen; omega) (by omega) (by first | exact HBN.out.size | exact (below_lit HBN.out _).size | exact (below_lit (below_lit HBN.out _) _).size) ?_; intro v2 w2 hrow hgr; have hbn := Lib.hid (mo_more (own_below HRW.out (below_new _ _)) (below_lit HBN.out _) hgr); have HBX := Lib.hid (And.intro (own_far8 (own_below HRW.out (below_new _ _)) hgr (heap_alloc_new _ (.cells #[.slice none 0 0, .slice none 0 0] 25)) (by decide)) HBN.out.size); clear HBN; have HBN := hbn; clear hbn; obtain ⟨An2, cn2, rfl, -⟩ := Sl.of_own hrow; clear HRW; have HRW := Lib.hid hrow; clear hrow hgr; (try clear hx0 hx1 hf0 hf1); (try (have hx0 := heap_cell HBX.out.1 0; have hx1 := heap_cell HBX.out.1 1; have hf0 := heap_free HBX.out.1 0; have hf1 := heap_free HBX.out.1 1; simp at hx0 hx1; (try simp at hf0 hf1))))
            | (refine step_append_sl rfl _ _ 22 rfl w5.heap.size 51 z0 _ 5 96 Tryz.underlying22 hi0 hz0 hz1 hz2 rfl (by decide) _ _ _ (by simp [Act.eval, Act.put]) (own_below HRW.out (below_new _ _)) _ 1 1 (NewC x) rfl (new_sl (heap_alloc_new _ (.cells #[.string (txt x), .slice none 0 0, .slice none 0 0, .slice none 0 0, .int .i64 0] 51))) HNC.out (by unfold maxLen; omega) (by omega) (by first | exact HBN.out.size | exact (below_lit HBN.out _).size | exact (below_lit (below_lit HBN.out _) _).size) ?_; intro v2 w2 hrow hgr; have hbn := Lib.hid (mo_more (own_below HRW.out (below_new _ _)) (below_lit HBN.out _) hgr); (first | (have hbx := Lib.hid (And.intro (own_far8 (own_below HRW.out (below_new _ _)) hgr ((Below.block (below_new _ _) _ (Array.getElem?_eq_some_iff.1 HBX.out.1).1).trans HBX.out.1) (by decide)) HBX.out.2); clear HBX; have HBX := hbx; clear hbx) | skip); clear HBN; have HBN := hbn; clear hbn; obtain ⟨An2, cn2, rfl, -⟩ := Sl.of_own hrow; clear HRW; have HRW := Lib.hid hrow; clear hrow hgr; (try clear hx0 hx1 hf0 hf1); (try (have hx0 := heap_cell HBX.out.1 0; have hx1 := heap_cell HBX.out.1 1; have hf0 := heap_free HBX.out.1 0; have hf1 := heap_free HBX.out.1 1; simp at hx0 hx1; (try simp at hf0 hf1))))
            | (refine step_append_sl rfl _ _ 22 rfl w5.heap.size 51 z0 _ 5 96 Tryz.underlying22 hi0 hz0 hz1 hz2 rfl (by decide) _ _ _ (by simp [Act.eval, Act.put]) (own_below HRW.out (below_lit (below_new _ _) _)) _ 1 1 (NewC x) rfl (new_sl (heap_first _ (.cells #[.string (txt x), .slice none 0 0, .slice none 0 0, .slice none 0 0, .int .i64 0] 51) (.cells #[.slice none 0 0, .slice none 0 0] 25) rfl)) HNC.out (by unfold maxLen; omega) (by omega) (by first | exact HBN.out.size | exact (below_lit HBN.out _).size | exact (below_lit (below_lit HBN.out _) _).size) ?_; intro v2 w2 hrow hgr; have hbn := Lib.hid (mo_more (own_below HRW.out (below_lit (below_new _ _) _)) (below_lit (below_lit HBN.out _) _) hgr); have HBX := Lib.hid (And.intro (own_far8 (own_below HRW.out (below_lit (below_new _ _) _)) hgr (heap_second _ (.cells #[.string (txt x), .slice none 0 0, .slice none 0 0, .slice none 0 0, .int .i64 0] 51) (.cells #[.slice none 0 0, .slice none 0 0] 25)) (by decide)) (Nat.le_succ_of_le HBN.out.size)); clear HBN; have HBN := hbn; clear hbn; obtain ⟨An2, cn2, rfl, -⟩ := Sl.of_own hrow; clear HRW; have HRW := Lib.hid hrow; clear hrow hgr; (try clear hx0 hx1 hf0 hf1); (try (have hx0 := heap_cell HBX.out.1 0; have hx1 := heap_cell HBX.out.1 1; have hf0 := heap_free HBX.out.1 0; have hf1 := heap_free HBX.out.1 1; simp at hx0 hx1; (try simp at hf0 hf1))))
            | (refine step_append_sl rfl _ _ 22 rfl w5.heap.size 51 z0 _ 5 96 Tryz.underlying22 hi0 hz0 hz1 hz2 rfl (by decide) _ _ _ (by simp [Act.eval, Act.put]) (own_below HRW.out (below_lit (below_new _ _) _)) _ 1 1 (NewC x) rfl (new_sl (heap_second _ (.cells #[.slice none 0 0, .slice none 0 0] 25) (.cells #[.string (txt x), .slice none 0 0, .slice none 0 0, .slice none 0 0, .int .i64 0] 51))) HNC.out (by unfold maxLen; omega) (by omega) (by first | exact HBN.out.size | exact (below_lit HBN.out _).size | exact (below_lit (below_lit HBN.out _) _).size) ?_; intro v2 w2 hrow hgr; have hbn := Lib.hid (mo_more (own_below HRW.out (below_lit (below_new _ _) _)) (below_lit (below_lit HBN.out _) _) hgr); have HBX := Lib.hid (And.intro (own_far8 (own_below HRW.out (below_lit (below_new _ _) _)) hgr (heap_first _ (.cells #[.slice none 0 0, .slice none 0 0] 25) (.cells #[.string (txt x), .slice none 0 0, .slice none 0 0, .slice none 0 0, .int .i64 0] 51) rfl) (by decide)) HBN.out.size); clear HBN; have HBN := hbn; clear hbn; obtain ⟨An2, cn2, rfl, -⟩ := Sl.of_own hrow; clear HRW; have HRW := Lib.hid hrow; clear hrow hgr; (try clear hx0 hx1 hf0 hf1); (try (have hx0 := heap_cell HBX.out.1 0; have hx1 := heap_cell HBX.out.1 1; have hf0 := heap_free HBX.out.1 0; have hf1 := heap_free HBX.out.1 1; simp at hx0 hx1; (try simp at hf0 hf1))))
            | (refine step_append_sl rfl _ _ 22 rfl w5.heap.size 51 z0 _ 5 96 Tryz.underlying22 hi0 hz0 hz1 hz2 rfl (by decide) _ _ _ (by simp [Act.eval, Act.put]) HRW.out _ 1 1 (NewC x) rfl (new_sl HNW.out) HNC.out (by unfold maxLen; omega) (by omega) (by first | exact HBN.out.size | exact (below_lit HBN.out _).size | exact (below_lit (below_lit HBN.out _) _).size) ?_; intro v2 w2 hrow hgr; have hbn := Lib.hid (mo_more HRW.out HBN.out hgr); (try (have hbx := Lib.hid (And.intro (own_far8 HRW.out hgr HBX.out.1 (by decide)) HBX.out.2); clear HBX; have HBX := hbx; clear hbx)); clear HBN; have HBN := hbn; clear hbn; obtain ⟨An2, cn2, rfl, -⟩ := Sl.of_own hrow; clear HRW; have HRW := Lib.hid hrow; clear hrow hgr; (try clear hx0 hx1 hf0 hf1); (try (have hx0 := heap_cell HBX.out.1 0; have hx1 := heap_cell HBX.out.1 1; have hf0 := heap_free HBX.out.1 0; have hf1 := heap_free HBX.out.1 1; simp at hx0 hx1; (try simp at hf0 hf1)))))
        all_goals
          go_wp2_with fail
          go_meet
          case rel =>
            have hr := HRW.out
            simp only [Nat.zero_add, List.nil_append] at hr
            first
              | exact ⟨_, _, rfl, heap_alloc_new _ _, own_below hr (below_new _ _), below_lit HBN.out _, HBN.out.size⟩
              | exact (by obtain ⟨k2, gr⟩ := box_two HBX.out.1 _ _; exact ⟨_, _, rfl, k2, own_other hr gr HBX.out.1 (by decide), (HBN.out.setCell HBX.out.2 _).setCell HBX.out.2 _, HBX.out.2⟩)
      case rest =>
      obtain ⟨g, vr, rfl, hgx, hrow, hb6, -⟩ := hcut
      obtain ⟨W6, rfl⟩ : ∃ W, W = wc := ⟨_, rfl⟩
      obtain ⟨gr, cr, rfl, -⟩ := own_there hrow (by omega) (by decide)
      have hb06 := below_then HB5.out hb6
      have hfat : FAt W6.heap.size W6 (moreF f x) (.slice (some ⟨gr, 0, none⟩) (f.M.length + 1) cr) (.slice A2 f.E.length q2) := more_at (Rb.of_own hrow) ((HMA.out.low (Low.below hb06 (Nat.le_refl _))).mono hb06.size) (Rb.mono ⟨A2, q2, rfl, HS2.out.low g2 (Low.below hb06 (Nat.le_refl _)), g2⟩ hb06.size) ((HEA.out.low (Low.below hb06 (Nat.le_refl _))).mono hb06.size)
      have HRES2 := Lib.hid (resolve_any W6.heap.size (moreF f x) _ _ W6 (Nat.le_refl _) hfat (in_more HIN.out HNM.out) (HL.out.tabs.on hb06))
      unfold ResPost at HRES2
      have hx6 := (hb6.block _ (Array.getElem?_eq_some_iff.1 HX5.out).1).trans HX5.out
      have hs6 := (hb6.block _ (Array.getElem?_eq_some_iff.1 HS5.out).1).trans HS5.out
      have hb36 := below_then HB35.out hb6
      obtain ⟨S', hS'⟩ : ∃ S', tabS (moreF f x) = S' := ⟨_, rfl⟩
      obtain ⟨E', hE'⟩ : ∃ E', tabE (moreF f x) = E' := ⟨_, rfl⟩
      obtain ⟨P', hP'⟩ : ∃ E', tabAt (moreF f x) = E' := ⟨_, rfl⟩
      rw [hS', hE', hP'] at HRES2
      rw [hS', hE'] at HMORE
      clear hS' hE' hP' hfat hrow hb6
      go_wp2_with (refine wpList_load_fl rfl _ rfl g _ _ rfl _ _ hgx ?_)
      refine HRES2.out.mono ?_
      rintro e w7 ⟨vM7, vE7, rfl, hs7, hb7⟩
      have HSA7 := Lib.hid hs7.at
      obtain ⟨xs7, ys7, k1, k2, k3, k4⟩ := hs7
      obtain ⟨B3, r3, rfl, k5⟩ := Sl.of_own k1
      obtain ⟨B4, r4, rfl, -⟩ := Sl.of_own k3
      have hlS : S'.M.length ≤ 9223372036854775807 := by have h1 := k5.le; have h2 := k5.cap; unfold maxLen at h2; omega
      have hlr : S'.M.length ≤ r3 := k5.le
      have hx7 := (hb7.block _ (Array.getElem?_eq_some_iff.1 hx6).1).trans hx6
      have hs7 := (hb7.block _ (Array.getElem?_eq_some_iff.1 hs6).1).trans hs6
      have HLT07 := Lib.hid (show w.heap.size < w7.heap.size from (Array.getElem?_eq_some_iff.1 hx7).1)
      have HLT37 := Lib.hid (show w3.heap.size < w7.heap.size from (Array.getElem?_eq_some_iff.1 hs7).1)
      have hb07 := below_then hb06 hb7
      have hb37 := below_then hb36 hb7
      clear hgx hx6 hs6 hb7 hb06 hb36 k1 k2 k3 k4 k5
      go_upto_region 9 with fail
      have hb8 := below_new w7 (.cells #[.slice B3 S'.M.length r3, .slice B4 S'.E.length r4] 29)
      have ht8 : (w7.alloc (.cells #[.slice B3 S'.M.length r3, .slice B4 S'.E.length r4] 29)).heap[w7.heap.size]? = some (.cells #[.slice B3 S'.M.length r3, .slice B4 S'.E.length r4] 29 (0, 0)) := heap_alloc_new w7 _
      obtain ⟨W8, hW8⟩ : ∃ W, W = w7.alloc (.cells #[.slice B3 S'.M.length r3, .slice B4 S'.E.length r4] 29) := ⟨_, rfl⟩
      rw [← hW8] at hb8 ht8 ⊢
      clear hW8
      have HX8 := Lib.hid ((hb8.block _ (Array.getElem?_eq_some_iff.1 hx7).1).trans hx7)
      have HS8 := Lib.hid ((hb8.block _ (Array.getElem?_eq_some_iff.1 hs7).1).trans hs7)
      have HT8 := Lib.hid ht8
      have HB8 := Lib.hid (below_then hb07 hb8)
      have HB38 := Lib.hid (below_then hb37 hb8)
      have HSA8 := Lib.hid (HSA7.out.low (Low.below hb8 (Nat.le_refl _)))
      have HB78 := Lib.hid hb8
      have HMM := Lib.hid (HMA.out.low (Low.below HB8.out (Nat.le_refl _)))
      have HSM := Lib.hid (HS1.out.low g1 (Low.below HB8.out (Nat.le_refl _)))
      have HME := Lib.hid (HEA.out.low (Low.below HB8.out (Nat.le_refl _)))
      have HSE := Lib.hid (HS2.out.low g2 (Low.below HB8.out (Nat.le_refl _)))
      clear hx7 hs7 hb07 hb37 hb8 ht8 HRES2 HX5 HS5 HV HB5 HB35 HS1W HXC HNC
      have v0 := heap_cell HX8.out 0
      have v1 := heap_cell HX8.out 1
      simp at v0 v1
      have HV := Lib.hid (And.intro v0 v1)
      clear v1
      go_wp2
      go_loopg [16, 17] (f.M.length) (fun n b i wr => WasRel W8 (fun k => pl || hasM (f.M.take k) x) f.M.length n b i wr)
      case atStart => exact ⟨0, _, rfl, by omega, by omega, rfl, by simp [hasM], rfl⟩
      case round =>
        obtain ⟨k, b, rfl, hk, hn, rfl, hb, rfl⟩ := hrel
        have HBE := Lib.hid (show (pl || hasM (f.M.take k) x) = b from hb)
        clear hb
        have HN := Lib.hid hn
        clear hn
        by_cases hlt : k < f.M.length
        · obtain ⟨m, hm⟩ : ∃ m, f.M[k]? = some m := ⟨_, List.getElem?_eq_getElem hlt⟩
          obtain ⟨ad, vF, vO, vR, rfl, hg, hmr, c0, -, -, -, -⟩ := msr_at HSM.out HMM.out hm
          have HNX := Lib.hid (hasM_next (x := x) hm)
          clear hm hmr
          cases b with
          | true =>
            go_wp2
            go_roundg (f.M.length - (k + 1))
            case measure => have := HN.out; omega
            case rel => exact ⟨k + 1, _, by go_num, by omega, rfl, rfl, by show (pl || hasM (f.M.take (k + 1)) x) = _; rw [HNX.out, ← Bool.or_assoc, HBE.out]; rfl, rfl⟩
          | false =>
            by_cases hne : m.name = x
            · rw [hne] at c0
              go_wp2
              go_roundg (f.M.length - (k + 1))
              case measure => have := HN.out; omega
              case rel => exact ⟨k + 1, _, by go_num, by omega, rfl, rfl, by show (pl || hasM (f.M.take (k + 1)) x) = _; rw [HNX.out, ← Bool.or_assoc, HBE.out, hne]; simp, rfl⟩
            · have hq := txt_ne hne
              have hbn : (m.name == x) = false := beq_eq_false_iff_ne.2 hne
              have HBQ := Lib.hid hbn
              clear hne hbn
              go_wp2
              go_roundg (f.M.length - (k + 1))
              case measure => have := HN.out; omega
              case rel => exact ⟨k + 1, _, by go_num, by omega, rfl, rfl, by show (pl || hasM (f.M.take (k + 1)) x) = _; rw [HNX.out, ← Bool.or_assoc, HBE.out, HBQ.out]; rfl, rfl⟩
        · obtain rfl : k = f.M.length := by omega
          rw [List.take_length] at HBE
          have v1 := HV.out.2
          rw [← HBE.out]
          clear HBE
          go_wp2
          go_loopg [16, 18] (f.E.length) (fun n b i wr' => WasRel wr (fun k => pl || hasM f.M x || hasE (f.E.take k) x) f.E.length n b i wr')
          case atStart => exact ⟨0, _, rfl, by omega, by omega, rfl, by simp [hasE], rfl⟩
          case round =>
            clear HN
            obtain ⟨k, b, rfl, hk, hn, rfl, hb, rfl⟩ := hrel
            have HBE := Lib.hid (show (pl || hasM f.M x || hasE (f.E.take k) x) = b from hb)
            clear hb
            have HN := Lib.hid hn
            clear hn
            by_cases hlt : k < f.E.length
            · obtain ⟨m, hm⟩ : ∃ m, f.E[k]? = some m := ⟨_, List.getElem?_eq_getElem hlt⟩
              obtain ⟨ad, vV, rfl, hg, hmr, c0, -, -⟩ := enr_at HSE.out HME.out hm
              have HNX := Lib.hid (hasE_next (x := x) hm)
              clear hm hmr
              cases b with
              | true =>
                go_wp2
                go_roundg (f.E.length - (k + 1))
                case measure => have := HN.out; omega
                case rel => exact ⟨k + 1, _, by go_num, by omega, rfl, rfl, by show (pl || hasM f.M x || hasE (f.E.take (k + 1)) x) = _; rw [HNX.out, ← Bool.or_assoc, HBE.out]; rfl, rfl⟩
              | false =>
                by_cases hne : m.name = x
                · rw [hne] at c0
                  go_wp2
                  go_roundg (f.E.length - (k + 1))
                  case measure => have := HN.out; omega
                  case rel => exact ⟨k + 1, _, by go_num, by omega, rfl, rfl, by show (pl || hasM f.M x || hasE (f.E.take (k + 1)) x) = _; rw [HNX.out, ← Bool.or_assoc, HBE.out, hne]; simp, rfl⟩
                · have hq := txt_ne hne
                  have hbn : (m.name == x) = false := beq_eq_false_iff_ne.2 hne
                  have HBQ := Lib.hid hbn
                  clear hne hbn
                  go_wp2
                  go_roundg (f.E.length - (k + 1))
                  case measure => have := HN.out; omega
                  case rel => exact ⟨k + 1, _, by go_num, by omega, rfl, rfl, by show (pl || hasM f.M x || hasE (f.E.take (k + 1)) x) = _; rw [HNX.out, ← Bool.or_assoc, HBE.out, HBQ.out]; rfl, rfl⟩
            · obtain rfl : k = f.E.length := by omega
              rw [List.take_length] at HBE
              rcases HMORE.out with ⟨hw, rfl⟩ | ⟨hw, rfl, hS, hr⟩
              · obtain rfl := HBE.out.symm.trans hw
                clear hw
                go_wp2
                go_ret
                exact ⟨rfl, HB8.out⟩
              · obtain rfl := HBE.out.symm.trans hw
                have HROOT := Lib.hid (fun (wx : World) (hb : Below wr.heap.size wr wx) => root_any w7.heap.size S' (.slice B3 S'.M.length r3) (.slice B4 S'.E.length r4) x wx (Nat.le_trans HB78.out.size hb.size) (HSA8.out.low (Low.below hb HB78.out.size)))
                rw [hr] at HROOT
                simp only [Option.getD_some, Option.isSome_some] at HROOT
                have hn1 : S'.M.length = f.M.length + 1 := by rw [hS]; simp [schF]
                have hn2 : S'.E.length = (schF f).E.length := by rw [hS]
                have HSL := Lib.hid HSA8.out
                rw [hS] at HSL
                rw [hn1] at HT8 HROOT hlr
                clear hw hr hS
                have HN2 := Lib.hid hn2
                clear hn1 hn2
                go_upto_region 20 with fail
                go_wp2_with (refine wpList_load_sc rfl _ rfl w7.heap.size _ _ rfl _ _ HT8.out ?_)
                refine (HROOT.out _ (Below.refl _ _)).mono ?_
                rintro e w9 ⟨rfl, hb9⟩
                have ht9 := (hb9.block _ (Array.getElem?_eq_some_iff.1 HT8.out).1).trans HT8.out
                clear v0 v1
                have hx9 := (hb9.block _ (Array.getElem?_eq_some_iff.1 HX8.out).1).trans HX8.out
                have hs9 := (hb9.block _ (Array.getElem?_eq_some_iff.1 HS8.out).1).trans HS8.out
                have hbw9 := below_then HB8.out hb9
                have t0 := heap_cell ht9 0
                simp at t0
                have tf := heap_free ht9 0
                have v0 := heap_cell hx9 0
                simp at v0
                obtain ⟨n1, hn1⟩ : ∃ n : Nat, f.M.length + 1 = n := ⟨_, rfl⟩
                have h0 : ((n1 : Int) == 0) = false := by rw [beq_eq_false_iff_ne]; omega
                have hsub : (n1 : Int) - 1 = (f.M.length : Int) := by omega
                have hle1 : (f.M.length : Int) ≤ (r3 : Int) := by omega
                rw [hn1] at t0 ht9 hlr
                have HN1 := Lib.hid hn1
                have HT9 := Lib.hid ht9
                have HS9 := Lib.hid hs9
                have HX9 := Lib.hid hx9
                have HB9 := Lib.hid hb9
                have HBW9 := Lib.hid hbw9
                clear hn1 ht9 hs9 hx9 hb9 hbw9
                go_upto_region 24 with fail
                clear t0 tf v0 h0 hsub hle1
                have ht10 : (w9.setCell ⟨w7.heap.size, 0, none⟩ (.slice B3 f.M.length r3)).heap[w7.heap.size]? = some (.cells #[.slice B3 f.M.length r3, .slice B4 S'.E.length r4] 29 (0, 0)) := by simpa using heap_setCell_same (j := 0) HT9.out (.slice B3 f.M.length r3)
                have hx10 : (w9.setCell ⟨w7.heap.size, 0, none⟩ (.slice B3 f.M.length r3)).heap[w.heap.size]? = some (.cells #[.slice A1 f.M.length q1, .slice A2 f.E.length q2] 25 (0, 0)) := (Below.heap_setCell _ _ _ _ (Nat.ne_of_lt HLT07.out)).trans HX9.out
                have hs10 : (w9.setCell ⟨w7.heap.size, 0, none⟩ (.slice B3 f.M.length r3)).heap[w3.heap.size]? = some (.cells #[.slice B1 (schF f).M.length r1, .slice B2 (schF f).E.length r2] 29 (0, 0)) := (Below.heap_setCell _ _ _ _ (Nat.ne_of_lt HLT37.out)).trans HS9.out
                have hsz10 : (w9.setCell ⟨w7.heap.size, 0, none⟩ (.slice B3 f.M.length r3)).heap.size = w9.heap.size := by simp [World.setCell]
                have hlow3 : Low w3.heap.size w3 (w9.setCell ⟨w7.heap.size, 0, none⟩ (.slice B3 f.M.length r3)) := (Low.below (below_then HB38.out HB9.out) (Nat.le_refl _)).trans ⟨Nat.le_of_eq hsz10.symm, fun k hk => Below.heap_setCell _ _ _ _ (Nat.ne_of_lt (Nat.lt_trans hk HLT37.out))⟩
                have hlow7 : Low w7.heap.size wr (w9.setCell ⟨w7.heap.size, 0, none⟩ (.slice B3 f.M.length r3)) := (Low.below HB9.out HB78.out.size).trans ⟨Nat.le_of_eq hsz10.symm, fun k hk => Below.heap_setCell _ _ _ _ (Nat.ne_of_lt hk)⟩
                have hle10 : wr.heap.size ≤ (w9.setCell ⟨w7.heap.size, 0, none⟩ (.slice B3 f.M.length r3)).heap.size := by rw [hsz10]; exact HB9.out.size
                have HT1 := Lib.hid ((HSA.out.low hlow3).mono (Nat.le_trans (Nat.le_trans (Nat.le_of_lt HLT37.out) HB78.out.size) hle10))
                have hSL := HSL.out.low hlow7
                rw [show ((schF f).M ++ [(⟨x, []⟩ : Md)]).length = (schF f).M.length + 1 from by rw [List.length_append]; rfl] at hSL
                have hlf : (schF f).M.length = f.M.length := by simp [schF]
                have HT2 := Lib.hid (((sat_less hSL).mono (Nat.le_trans HB78.out.size hle10)))
                have hbw10 := HBW9.out.setCell (p := ⟨w7.heap.size, 0, none⟩) (Nat.le_of_lt HLT07.out) (.slice B3 f.M.length r3)
                rw [hlf] at HT2
                rw [HN2.out] at ht10
                have hE10 : (⟨(schF f).M, (schF f).E⟩ : Sc) = schF f := rfl
                rw [hE10] at HT2
                obtain ⟨W10, hW10⟩ : ∃ W, W = (w9.setCell ⟨w7.heap.size, 0, none⟩ (.slice B3 f.M.length r3)) := ⟨_, rfl⟩
                rw [← hW10] at HT1 HT2 ht10 hx10 hs10 hbw10 ⊢
                obtain ⟨S, hS⟩ : ∃ S, schF f = S := ⟨_, rfl⟩
                rw [hS] at HT1 HT2 ht10 hs10
                have v0 := heap_cell hx10 0
                simp at v0
                have hme : ((f.M.length : Int) == (f.M.length : Int)) = true := by simp
                have HBW := Lib.hid hbw10
                clear hlf hSL hW10 hS hlow3 hlow7 hle10 hsz10 hbw10 hE10
                go_wp2_with (first
                  | (refine wpList_load_scg rfl _ rfl w3.heap.size _ _ rfl _ _ hs10 ?_)
                  | (refine wpList_load_scg rfl _ rfl w7.heap.size _ _ rfl _ _ ht10 ?_))
                refine (sameT_any _ S S _ _ _ _ _ (Nat.le_refl _) HT1.out HT2.out).mono ?_
                rintro e w11 ⟨rfl, hb11⟩
                have hbw11 := below_then HBW.out hb11
                have hss : decide (S = S) = true := by simp
                rw [hss]
                go_wp2
                go_ret
                exact ⟨rfl, hbw11⟩

theorem contract (H : Type) (enc : TypeId × Value → H) (W : World) (base : Nat) (args : Array Value) (ds gs : List (DataW H)) (before : List MemPlace)
    (hval0 : ∀ (j : Nat) t v, Tryz.f8.params[j]? = some t → args[j]? = some v → Value.okWide Tryz.prog W .any base t v)
    (hW : DataW.Whole enc Tryz.prog Tryz.f8.params.toList Rows.tableMoreSpec.vars false W args.toList ds gs before) (hsz : (DataW.weightsEach Tryz.prog (Tryz.f8.params.toList ++ (OpenSpec.ofChange Rows.tableMoreSpec).bare.plain.varTypes Tryz.prog) (ds ++ gs)).all (· ≤ reachBytes) = true) (hL : laidMetH Tryz.prog Rows.tableMoreRow.laid W) :
    Calls Tryz.prog 8 args W fun e W2 => ∃ v, e = .returned v ∧ Rows.tableMoreSpec.post enc Tryz.prog Tryz.f8 false true false false W args v W2 := by
  have hval : ∀ (j : Nat) t v, Tryz.f8.params[j]? = some t → args[j]? = some v → Value.okWide Tryz.prog W .any base t v := hval0
  have T := laid_of hL
  have hW2 := hW
  obtain ⟨p, q, hA0, hV, rfl, hfz, hnd⟩ := hW
  have hA : DataW.TrodAll enc Tryz.prog W 0 (fun _ => true) true Tryz.f8.params.toList args.toList ds p := hA0
  rw [Tryz.params8] at hA hval
  obtain ⟨v0, vs0, d0, ds0, p0, q0, hargs, rfl, rfl, h0, r0⟩ := trodAll_cons hA
  obtain ⟨v1, vs1, d1, ds1, p1, q1, rfl, rfl, rfl, h1, r1⟩ := trodAll_cons r0
  obtain ⟨rfl, rfl, rfl⟩ := trodAll_nil r1
  obtain rfl : args = #[v0, v1] := by cases args; simp_all
  obtain ⟨rfl, rfl⟩ := trodVars_none hV
  obtain ⟨fl0, vM0, vE0, rfl, fa0, fi0⟩ := open_file (hval 0 25 v0 rfl rfl) h0
  obtain ⟨s1, rfl, rfl, rfl, b1⟩ := Go.ChangeMaps.open_string Tryz.underlying9 (hval 1 9 v1 rfl rfl) h1
  refine (walk W T fl0 vM0 vE0 fa0 fi0 s1 b1).mono fun e W2 ⟨he, hb⟩ => ?_
  subst he
  exact ⟨_, rfl, law_post (by kernel_rfl) rfl rfl (by decide +kernel) hW2 hb⟩
theorem laid_met (os : Os) : laidMetH Tryz.prog Rows.tableMoreRow.laid ((World.laidAll Tryz.prog os Rows.tableMoreRow.laid).forCall (fun _ _ => 0) ⟨#[], #[.agg #[.slice none 0 0, .slice none 0 0], .string .empty], []⟩).memory := by
  rw [MakeChecks.laidMetH_plain _ _ _ (by kernel_rfl)]
  exact laidMet_laidAll _ (by kernel_rfl) (by kernel_rfl)
theorem reads (os : Os) {H : Type} (enc : TypeId × Value → H) : ∃ places, DataW.whole enc Tryz.prog ((World.laidAll Tryz.prog os Rows.tableMoreRow.laid).forCall (fun _ _ => 0) ⟨#[], #[.agg #[.slice none 0 0, .slice none 0 0], .string .empty], []⟩).memory Tryz.f8.params.toList Rows.tableMoreSpec.vars false (#[.agg #[.slice none 0 0, .slice none 0 0], .string .empty] : Array Value).toList 8 = some ([.agg [.nil, .nil], .lit (.string [])], [], places) := ⟨[], by kernel_rfl⟩
set_option maxRecDepth 100000 in
theorem lifted (os : Os) (started : os.Started) (H : Type) (enc : TypeId × Value → H) (F : Stop.Interp) :
    ReturnsInHanded {} Tryz.checked os 8 .any ((OpenSpec.ofChange Rows.tableMoreSpec).preRow enc Tryz.prog Tryz.f8 Rows.tableMoreRow.domain false Rows.tableMoreRow.laid) (((OpenSpec.ofChange Rows.tableMoreSpec).at F).post enc Tryz.prog Tryz.f8 false true false false) := by
  obtain ⟨places, hx⟩ := reads os enc
  refine returnsInHanded_of_row (C := Tryz.checked) (s := OpenSpec.ofChange Rows.tableMoreSpec) own started (by kernel_rfl) Tryz.func8
    (witness_row_at (enc := enc) (C := Tryz.checked) false (World.laidAll Tryz.prog os Rows.tableMoreRow.laid) #[.agg #[.slice none 0 0, .slice none 0 0], .string .empty] (World.laidAll_os _ _ _) (by kernel_rfl) (by kernel_rfl) (by kernel_rfl)
      (OpenSpec.preRow_of_cond 8 hx (by kernel_rfl) (fun k hk => by cases hk) (by kernel_rfl) (laid_met os))) ?_
  intro W base args ds gs before hval hW _ _ hsz hL _ _
  exact contract H enc W base args ds gs before hval hW hsz hL
theorem said : Rows.TableMoreSaid :=
  OpenClaim.holds_of_cond 8 Tryz.f8 rfl rfl rfl rfl rfl rfl rfl ⟨rfl, rfl, rfl, rfl, rfl⟩ rfl rfl rfl rfl rfl (by kernel_rfl) Tryz.func8 (by kernel_rfl)
    (of_decide_eq_true (by kernel_rfl)) (by unfold Func.isWrapper; first | (rw [if_pos (by decide +kernel)]; kernel_rfl) | (rw [if_neg (by decide +kernel)]; exact ⟨rfl, rfl⟩))
    (fun os started H enc _ F => by rw [OpenClaim.pre_eq_preRow]; exact lifted os started H enc F)
theorem plain (f : FuncId) (fn : Func) (hf : Tryz.pinned.checked.prog.funcNamed "truffle/trufflelaw08.TableMore" = some f) (hfn : Tryz.pinned.checked.prog.funcs[f]? = some fn) :
    true = Tryz.pinned.checked.prog.looks [] ∧ ∀ (j : Nat) t, fn.params[j]? = some t → Tryz.pinned.checked.prog.wantsStandIn t = false := by
  obtain rfl : f = 8 := Option.some.inj ((show Tryz.prog.funcNamed "truffle/trufflelaw08.TableMore" = some 8 by kernel_rfl).symm.trans hf) |>.symm
  obtain rfl : fn = Tryz.f8 := (Option.some.inj (Tryz.func8.symm.trans hfn)).symm
  refine ⟨by kernel_rfl, fun j t ht => ?_⟩
  have hall : (Tryz.f8.params.toList.all fun t => !Tryz.prog.wantsStandIn t) = true := by kernel_rfl
  have := List.all_eq_true.1 hall t (Array.mem_toList_iff.2 (Array.mem_of_getElem? ht))
  exact (show Tryz.prog.wantsStandIn t = false by simpa using this)
theorem proved : Rows.TableMoreCardSaid :=
  Claim7.holds_tied_plain_at .later [] _ _ _ _ said (fun _ h => by cases h) (by kernel_rfl) (fun _ h => by cases h) tableMore_row_tie rfl ⟨rfl, rfl⟩ (by kernel_rfl) rfl plain (by kernel_rfl)
end Go.Proofs.YtciiemomfniecaaGreatDoor.lawTableMore
