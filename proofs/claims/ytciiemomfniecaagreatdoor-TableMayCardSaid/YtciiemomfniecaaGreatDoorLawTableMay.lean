/-
  What is resolved of a file may be, and has as many messages, enums, and fields of each; what is wrong is told with nothing more: the statement TableMay, for every file.
-/
import Derived.Test.YtciiemomfniecaaGreatDoorTabFew
import Derived.Test.YtciiemomfniecaaGreatDoorTabOrd
import Derived.BigQuiet
import Derived.Deep.DeepCutAuto
namespace Go.Proofs.YtciiemomfniecaaGreatDoor.lawTableMay
set_option maxRecDepth 100000
open Go.ChangeShapes Go.WideShapes Go.ChangeAt Go.RowKit

def RoundRel (n : Nat) (w0 : World) (k : Nat) (i : Value) (wr : World) : Prop := ∃ j : Nat, i = .int .i64 j ∧ j ≤ n ∧ k = n - j ∧ Below w0.heap.size w0 wr
def BadRel (e : Nat) : Prop := ((e : Int) != 0) = true
set_option maxRecDepth 1000000 in
set_option maxHeartbeats 4000000 in
theorem walk (w : World) (L : LT w) (f : Fl) (vM vE : Value) (fa : FAt w.heap.size w f vM vE) (fi : FlIn f) :
    Calls Tryz.prog 4 #[.agg #[vM, vE]] w fun e w' => e = .returned (.bool true) ∧ Below w.heap.size w w' := by
  have fa0 := fa
  have HFA := Lib.hid fa
  obtain ⟨xs, ys, ⟨A1, q1, rfl, s1, b1⟩, h2, ⟨A2, q2, rfl, s2, b2⟩, h4⟩ := fa
  have HS1 := Lib.hid s1
  have HMA := Lib.hid h2
  have hlm : f.M.length ≤ 9223372036854775807 := by have h1 := s1.le; have h2 := s1.cap; unfold maxLen at h2; omega
  have hle : f.E.length ≤ 9223372036854775807 := by have h1 := s2.le; have h2 := s2.cap; unfold maxLen at h2; omega
  have HL := Lib.hid L
  have HIN := Lib.hid fi
  have HCASE := Lib.hid (tab_cases f)
  have HRES := Lib.hid (fun (wx : World) (hb : Below w.heap.size w wx) => resolve_any w.heap.size f (.slice A1 f.M.length q1) (.slice A2 f.E.length q2) wx hb.size (fa0.low (Low.below hb (Nat.le_refl _))) fi (L.tabs.on hb))
  clear s1 h2 s2 h4 L fi fa0
  obtain ⟨S, hS⟩ : ∃ S, tabS f = S := ⟨_, rfl⟩
  obtain ⟨P, hP⟩ : ∃ S, tabAt f = S := ⟨_, rfl⟩
  obtain ⟨E, hE⟩ : ∃ S, tabE f = S := ⟨_, rfl⟩
  unfold ResPost at HRES
  rw [hS, hP, hE] at HCASE HRES
  clear hS hP hE
  have hb0 := below_new w (.cells #[.slice A1 f.M.length q1, .slice A2 f.E.length q2] 25)
  have hx0 : (w.alloc (.cells #[.slice A1 f.M.length q1, .slice A2 f.E.length q2] 25)).heap[w.heap.size]? = some (.cells #[.slice A1 f.M.length q1, .slice A2 f.E.length q2] 25 (0, 0)) := heap_alloc_new w _
  go_enter Tryz.func4, Tryz.ntmps4
  go_wp2_with fail
  refine (awake8_any _ (HL.out.on hb0)).mono ?_
  rintro e w1 ⟨rfl, hb1⟩
  have hx1 := (hb1.block _ (by simp)).trans hx0
  have hbw1 := below_then hb0 hb1
  clear hb0 hx0 hb1
  go_wp2_with (refine wpList_load_fl rfl _ rfl w.heap.size _ _ rfl _ _ hx1 ?_)
  refine (few_any w.heap.size f _ _ w1 hbw1.size (HFA.out.low (Low.below hbw1 (Nat.le_refl _)))).mono ?_
  rintro e w2 ⟨rfl, hb2⟩
  have hx2 := (hb2.block _ (Array.getElem?_eq_some_iff.1 hx1).1).trans hx1
  have hbw2 := below_then hbw1 hb2
  clear hx1 hb2 hbw1
  obtain ⟨fw, hfw⟩ : ∃ b, fewF f = b := ⟨_, rfl⟩
  rw [hfw]
  clear hfw
  cases fw with
  | false =>
    go_wp2
    go_ret
    exact ⟨rfl, hbw2⟩
  | true =>
  go_wp2_with (refine wpList_load_fl rfl _ rfl w.heap.size _ _ rfl _ _ hx2 ?_)
  refine (HRES.out _ hbw2).mono ?_
  rintro e w3 ⟨vM3, vE3, rfl, hs3, hb3⟩
  have hx3 := (hb3.block _ (Array.getElem?_eq_some_iff.1 hx2).1).trans hx2
  have hbw3 := below_then hbw2 hb3
  have HSA := Lib.hid hs3.at
  obtain ⟨xs3, ys3, g1, g2, g3, g4⟩ := hs3
  obtain ⟨B1, r1, rfl, t1⟩ := Sl.of_own g1
  obtain ⟨B2, r2, rfl, t2⟩ := Sl.of_own g3
  have HT1 := Lib.hid t1
  have HT2 := Lib.hid (MdsAt.of_own g2)
  clear hx2 hb3 hbw2 g1 g2 g3 g4 t1 t2
  rcases HCASE.out with ⟨hE, rfl, -⟩ | ⟨rfl, rfl, rfl, hG⟩
  · have hE2 : ((E : Int) != 0) = true := by rw [bne_iff_ne]; omega
    have HB3 := Lib.hid (below_lit hbw3 (.cells #[.slice B1 0 r1, .slice B2 0 r2] 29))
    clear hE hbw3
    go_wp2
    go_ret
    exact ⟨by simp, HB3.out⟩
  · have l1 : (schF f).M.length = f.M.length := by simp [schF]
    have l2 : (schF f).E.length = f.E.length := by simp [schF]
    rw [l1, l2] at HSA
    rw [l1, l2]
    clear l1 l2
    have HG := Lib.hid hG
    clear hG
    have HMY := Lib.hid (fun (wx : World) (hb : Below w3.heap.size w3 wx) => may_any w3.heap.size (schF f) (.slice B1 f.M.length r1) (.slice B2 f.E.length r2) wx hb.size (HSA.out.low (Low.below hb (Nat.le_refl _))) (sch_in HIN.out HG.out) (HL.out.tabs.on (below_then hbw3 hb)))
    have HBW3 := Lib.hid hbw3
    have hb4 := below_new w3 (.cells #[.slice B1 f.M.length r1, .slice B2 f.E.length r2] 29)
    have hs4 : (w3.alloc (.cells #[.slice B1 f.M.length r1, .slice B2 f.E.length r2] 29)).heap[w3.heap.size]? = some (.cells #[.slice B1 f.M.length r1, .slice B2 f.E.length r2] 29 (0, 0)) := heap_alloc_new w3 _
    have hx4 := (hb4.block _ (Array.getElem?_eq_some_iff.1 hx3).1).trans hx3
    clear hbw3 hx3
    go_wp2_with (refine wpList_load_sc rfl _ rfl w3.heap.size _ _ rfl _ _ hs4 ?_)
    refine (HMY.out _ hb4).mono ?_
    rintro e w5 ⟨b, rfl, hbb, hb5⟩
    obtain rfl : b = true := hbb.2 (sch_may HG.out)
    have hs5 := (hb5.block _ (Array.getElem?_eq_some_iff.1 hs4).1).trans hs4
    have hx5 := (hb5.block _ (Array.getElem?_eq_some_iff.1 hx4).1).trans hx4
    have HB35 := Lib.hid (below_then hb4 hb5)
    have HBW5 := Lib.hid (below_then HBW3.out HB35.out)
    clear hs4 hx4 hb4 hb5 hbb
    have u0 := heap_cell hs5 0
    have u1 := heap_cell hs5 1
    have v0 := heap_cell hx5 0
    have v1 := heap_cell hx5 1
    simp at u0 u1 v0 v1
    have HXS := Lib.hid hs5
    have HXF := Lib.hid hx5
    clear hs5 hx5
    go_wp2
    have HU0 := Lib.hid u0
    have HV0 := Lib.hid v0
    clear u0 u1 v0 v1
    go_loopg [8] (f.M.length) (fun n i wr => RoundRel f.M.length w5 n i wr)
    case atStart => exact ⟨0, rfl, by omega, by omega, Below.refl _ _⟩
    case round =>
      obtain ⟨k, rfl, hk, hgk, hb⟩ := hrel
      have HGK := Lib.hid hgk
      clear hgk
      have v0 := (hb.cell (cell_lt HV0.out)).trans HV0.out
      by_cases hlk : k < f.M.length
      · have h1 : decide ((k : Int) < 0) = false := by rw [decide_eq_false_iff_not]; omega
        have h2 : decide ((f.M.length : Int) ≤ (k : Int)) = false := by rw [decide_eq_false_iff_not]; omega
        obtain ⟨m, hmd⟩ : ∃ d, f.M[k]? = some d := ⟨_, List.getElem?_eq_getElem hlk⟩
        obtain ⟨ad, vF, vO, vR, rfl, hg, hmr, c0, c1, -, -, -⟩ := msr_at (HS1.out.low b1 (Low.below HBW5.out (Nat.le_refl _))) (HMA.out.low (Low.below HBW5.out (Nat.le_refl _))) hmd
        obtain ⟨AF, cF, rfl, sF, aF⟩ := hmr.f
        have HSF := Lib.hid sF
        have HMD := Lib.hid hmd
        have hfl : m.F.length ≤ 9223372036854775807 := by have h1 := sF.le; have h2 := sF.cap; unfold maxLen at h2; omega
        have hsd : (schF f).M[k]? = some (msgD f m) := by simp [schF, hmd]
        obtain ⟨ad', vF', had', hg', hmr', c0', c1'⟩ := mdr_at (l := (schF f).M) (HT1.out.on HB35.out) (HT2.out.low (Low.below HB35.out (Nat.le_refl _))) hsd
        subst had'
        obtain ⟨AF', cF', rfl, -, -⟩ := hmr'
        rw [msgD_len] at c1'
        have HC := Lib.hid (And.intro c0 (And.intro (show w5.cell? (ad'.add (k * 2)) = some (.string (txt m.name)) from c0') c1'))
        have c1w := (hb.cell (cell_lt c1)).trans c1
        have HC1 := Lib.hid c1
        clear hmd sF hmr hsd c0 c0' c1' c1
        go_wp2
        go_loopg [9] (m.F.length) (fun n i wr => RoundRel m.F.length w5 n i wr)
        case atStart => exact ⟨0, rfl, by omega, by omega, by first | exact hb | exact hb.drew⟩
        case round =>
          clear v0 c1w hb
          obtain ⟨j, rfl, hj, hgj, hb⟩ := hrel
          have HGJ := Lib.hid hgj
          clear hgj
          have v0 := (hb.cell (cell_lt HV0.out)).trans HV0.out
          have e1 := (hb.cell (cell_lt HC1.out)).trans HC1.out
          by_cases hlj : j < m.F.length
          · obtain ⟨d, hd0⟩ : ∃ d, m.F[j]? = some d := ⟨_, List.getElem?_eq_getElem hlj⟩
            obtain ⟨ad2, rfl, hg2, p0, p1, p2, p3, p4, p5, p6⟩ := fdr_at (HSF.out.on hb) hd0
            obtain ⟨F1, F2, F3⟩ := found_def HG.out HMD.out (List.mem_of_getElem? hd0)
            obtain ⟨kd, rf, ky, hD, hky⟩ : ∃ kd rf ky, defF f d = ⟨d.no, d.name, kd, rf, d.rep, ky, d.one⟩ ∧ (ky = -1 ↔ d.key = []) := ⟨_, _, _, rfl, F3⟩
            have HF1 := Lib.hid (fun (wx : World) (hb : Below w3.heap.size w3 wx) => Find_any w3.heap.size (schF f) (.slice (some ad') f.M.length r1) (.slice B2 f.E.length r2) k d.name wx hb.size (HSA.out.low (Low.below hb (Nat.le_refl _))))
            have HF2 := Lib.hid (fun (wx : World) (hb : Below w3.heap.size w3 wx) => By_any w3.heap.size (schF f) (.slice (some ad') f.M.length r1) (.slice B2 f.E.length r2) k d.no wx hb.size (HSA.out.low (Low.below hb (Nat.le_refl _))))
            rw [F1, hD] at HF1
            rw [F2, hD] at HF2
            unfold foundV at HF1 HF2
            simp only [DC, Option.getD_some, Option.isSome_some] at HF1 HF2
            have HKY := Lib.hid hky
            clear F1 F2 F3 hD hky
            have hj1 : decide ((j : Int) < 0) = false := by rw [decide_eq_false_iff_not]; omega
            have hj2 : decide ((m.F.length : Int) ≤ (j : Int)) = false := by rw [decide_eq_false_iff_not]; omega
            have hs6 := (hb.block _ (Array.getElem?_eq_some_iff.1 HXS.out).1).trans HXS.out
            have hs7 := ((below_new wr (.cells #[.string (txt d.type), .string (txt d.key), .bool d.rep, .int .i64 d.one, .string (txt d.name), .int .i64 d.no, .int .i64 d.at_] 53)).block _ (Array.getElem?_eq_some_iff.1 hs6).1).trans hs6
            have hX7 : (wr.alloc (.cells #[.string (txt d.type), .string (txt d.key), .bool d.rep, .int .i64 d.one, .string (txt d.name), .int .i64 d.no, .int .i64 d.at_] 53)).heap[wr.heap.size]? = some (.cells #[.string (txt d.type), .string (txt d.key), .bool d.rep, .int .i64 d.one, .string (txt d.name), .int .i64 d.no, .int .i64 d.at_] 53 (0, 0)) := heap_alloc_new wr _
            have hbx7 := below_lit (below_then HB35.out hb) (.cells #[.string (txt d.type), .string (txt d.key), .bool d.rep, .int .i64 d.one, .string (txt d.name), .int .i64 d.no, .int .i64 d.at_] 53)
            have HB7 := Lib.hid (below_lit hb (.cells #[.string (txt d.type), .string (txt d.key), .bool d.rep, .int .i64 d.one, .string (txt d.name), .int .i64 d.no, .int .i64 d.at_] 53))
            clear hb hd0 hg2 hs6
            go_wp2_with (refine wpList_load_sc rfl _ rfl w3.heap.size _ _ rfl _ _ hs7 ?_)
            refine (HF1.out _ hbx7).mono ?_
            rintro e w7 ⟨rfl, hb7⟩
            have hs8 := (hb7.block _ (Array.getElem?_eq_some_iff.1 hs7).1).trans hs7
            have hX8 := (hb7.block _ (Array.getElem?_eq_some_iff.1 hX7).1).trans hX7
            have hbx8 := below_then hbx7 hb7
            have HB8 := Lib.hid (below_then HB7.out hb7)
            have hs9 := ((below_new w7 (.cells #[.int .i64 d.no, .string (txt d.name), .int .i64 kd, .int .i64 rf, .bool d.rep, .int .i64 ky, .int .i64 d.one] 39)).block _ (Array.getElem?_eq_some_iff.1 hs8).1).trans hs8
            have hX9 := ((below_new w7 (.cells #[.int .i64 d.no, .string (txt d.name), .int .i64 kd, .int .i64 rf, .bool d.rep, .int .i64 ky, .int .i64 d.one] 39)).block _ (Array.getElem?_eq_some_iff.1 hX8).1).trans hX8
            have hf9 : (w7.alloc (.cells #[.int .i64 d.no, .string (txt d.name), .int .i64 kd, .int .i64 rf, .bool d.rep, .int .i64 ky, .int .i64 d.one] 39)).heap[w7.heap.size]? = some (.cells #[.int .i64 d.no, .string (txt d.name), .int .i64 kd, .int .i64 rf, .bool d.rep, .int .i64 ky, .int .i64 d.one] 39 (0, 0)) := heap_alloc_new w7 _
            have x5 := heap_cell hX9 5
            simp at x5
            have hbx9 := below_lit hbx8 (.cells #[.int .i64 d.no, .string (txt d.name), .int .i64 kd, .int .i64 rf, .bool d.rep, .int .i64 ky, .int .i64 d.one] 39)
            have HB9 := Lib.hid (below_lit HB8.out (.cells #[.int .i64 d.no, .string (txt d.name), .int .i64 kd, .int .i64 rf, .bool d.rep, .int .i64 ky, .int .i64 d.one] 39))
            clear hs7 hX7 hs8 hX8 hb7 hbx7 hbx8 p0 p1 p2 p3 p4 p5 p6
            go_wp2_with (refine wpList_load_sc rfl _ rfl w3.heap.size _ _ rfl _ _ hs9 ?_)
            refine (HF2.out _ hbx9).mono ?_
            rintro e w10 ⟨rfl, hb10⟩
            have hX10 := (hb10.block _ (Array.getElem?_eq_some_iff.1 hX9).1).trans hX9
            have hf10 := (hb10.block _ (Array.getElem?_eq_some_iff.1 hf9).1).trans hf9
            have HB10 := Lib.hid (below_then HB9.out hb10)
            have hX11 := ((below_new w10 (.cells #[.int .i64 d.no, .string (txt d.name), .int .i64 kd, .int .i64 rf, .bool d.rep, .int .i64 ky, .int .i64 d.one] 39)).block _ (Array.getElem?_eq_some_iff.1 hX10).1).trans hX10
            have hf11 := ((below_new w10 (.cells #[.int .i64 d.no, .string (txt d.name), .int .i64 kd, .int .i64 rf, .bool d.rep, .int .i64 ky, .int .i64 d.one] 39)).block _ (Array.getElem?_eq_some_iff.1 hf10).1).trans hf10
            have hg11 : (w10.alloc (.cells #[.int .i64 d.no, .string (txt d.name), .int .i64 kd, .int .i64 rf, .bool d.rep, .int .i64 ky, .int .i64 d.one] 39)).heap[w10.heap.size]? = some (.cells #[.int .i64 d.no, .string (txt d.name), .int .i64 kd, .int .i64 rf, .bool d.rep, .int .i64 ky, .int .i64 d.one] 39 (0, 0)) := heap_alloc_new w10 _
            have hb11 := below_lit HB10.out (.cells #[.int .i64 d.no, .string (txt d.name), .int .i64 kd, .int .i64 rf, .bool d.rep, .int .i64 ky, .int .i64 d.one] 39)
            clear hs9 hX9 hf9 hX10 hf10 hb10 hbx9 x5
            go_upto_region 19 with fail
            obtain ⟨W11, hW11⟩ : ∃ W, W = w10.alloc (.cells #[.int .i64 d.no, .string (txt d.name), .int .i64 kd, .int .i64 rf, .bool d.rep, .int .i64 ky, .int .i64 d.one] 39) := ⟨_, rfl⟩
            rw [← hW11] at hX11 hf11 hg11 hb11 ⊢
            have HB11 := Lib.hid hb11
            clear hW11 hb11
            have x1 := heap_cell hX11 1
            have x2 := heap_cell hX11 2
            have x3 := heap_cell hX11 3
            have x5 := heap_cell hX11 5
            have y0 := heap_cell hf11 0
            have y4 := heap_cell hf11 4
            have y5 := heap_cell hf11 5
            have y6 := heap_cell hf11 6
            simp at x1 x2 x3 x5 y0 y4 y5 y6
            clear hX11
            by_cases hk0 : d.key = []
            · obtain rfl : ky = -1 := HKY.out.2 hk0
              rw [hk0] at x1
              rw [show txt [] = ⟨#[]⟩ from rfl] at x1
              clear hk0
              go_wp2_with (first | (refine wpList_load_row_g rfl 39 _ rfl _ rfl _ _ _ _ hf11 Tryz.underlying39 rfl infoDf ?_) | (refine wpList_load_row_g rfl 39 _ rfl _ rfl _ _ _ _ hg11 Tryz.underlying39 rfl infoDf ?_))
              go_roundg (m.F.length - (j + 1))
              case measure => have := HGJ.out; omega
              case rel => exact ⟨j + 1, by go_num, by omega, rfl, HB11.out⟩
            · have k1 : (ky == -1) = false := by rw [beq_eq_false_iff_ne]; exact fun e => hk0 (HKY.out.1 e)
              obtain ⟨z, hz⟩ : ∃ z, txt d.key = z := ⟨_, rfl⟩
              rw [hz] at x1
              have k3 : z.toList.isEmpty = false := by rw [← hz, Lib.toList_data, txt_list]; cases h : d.key with | nil => exact absurd h hk0 | cons a b => rfl
              clear hk0 hz
              go_wp2_with (first | (refine wpList_load_row_g rfl 39 _ rfl _ rfl _ _ _ _ hf11 Tryz.underlying39 rfl infoDf ?_) | (refine wpList_load_row_g rfl 39 _ rfl _ rfl _ _ _ _ hg11 Tryz.underlying39 rfl infoDf ?_))
              go_roundg (m.F.length - (j + 1))
              case measure => have := HGJ.out; omega
              case rel => exact ⟨j + 1, by go_num, by omega, rfl, HB11.out⟩
          · obtain rfl : j = m.F.length := by omega
            have u0 := (hb.cell (cell_lt HU0.out)).trans HU0.out
            have c0 := (hb.cell (cell_lt HC.out.1)).trans HC.out.1
            have c0' := (hb.cell (cell_lt HC.out.2.1)).trans HC.out.2.1
            have c1' := (hb.cell (cell_lt HC.out.2.2)).trans HC.out.2.2
            have HB := Lib.hid hb
            clear hb
            go_upto_region 21 with fail
            go_quiet (fail)
            go_wp2
            go_roundg (f.M.length - (k + 1))
            case measure => have := HGK.out; omega
            case rel => exact ⟨k + 1, by go_num, by omega, rfl, below_draws HB.out _⟩
      · obtain rfl : k = f.M.length := by omega
        go_wp2
        go_ret
        exact ⟨rfl, HBW5.out.trans (hb.mono HBW5.out.size)⟩

theorem contract (H : Type) (enc : TypeId × Value → H) (W : World) (base : Nat) (args : Array Value) (ds gs : List (DataW H)) (before : List MemPlace)
    (hval0 : ∀ (j : Nat) t v, Tryz.f4.params[j]? = some t → args[j]? = some v → Value.okWide Tryz.prog W .any base t v)
    (hW : DataW.Whole enc Tryz.prog Tryz.f4.params.toList Rows.tableMaySpec.vars false W args.toList ds gs before) (hsz : (DataW.weightsEach Tryz.prog (Tryz.f4.params.toList ++ (OpenSpec.ofChange Rows.tableMaySpec).bare.plain.varTypes Tryz.prog) (ds ++ gs)).all (· ≤ reachBytes) = true) (hL : laidMetH Tryz.prog Rows.tableMayRow.laid W) :
    Calls Tryz.prog 4 args W fun e W2 => ∃ v, e = .returned v ∧ Rows.tableMaySpec.post enc Tryz.prog Tryz.f4 false true false false W args v W2 := by
  have hval : ∀ (j : Nat) t v, Tryz.f4.params[j]? = some t → args[j]? = some v → Value.okWide Tryz.prog W .any base t v := hval0
  have T := laid_of hL
  have hW2 := hW
  obtain ⟨p, q, hA0, hV, rfl, hfz, hnd⟩ := hW
  have hA : DataW.TrodAll enc Tryz.prog W 0 (fun _ => true) true Tryz.f4.params.toList args.toList ds p := hA0
  rw [Tryz.params4] at hA hval
  obtain ⟨v0, vs0, d0, ds0, p0, q0, hargs, rfl, rfl, h0, r0⟩ := trodAll_cons hA
  obtain ⟨rfl, rfl, rfl⟩ := trodAll_nil r0
  obtain rfl : args = #[v0] := by cases args; simp_all
  obtain ⟨rfl, rfl⟩ := trodVars_none hV
  obtain ⟨fl0, vM0, vE0, rfl, fa0, fi0⟩ := open_file (hval 0 25 v0 rfl rfl) h0
  refine (walk W T fl0 vM0 vE0 fa0 fi0).mono fun e W2 ⟨he, hb⟩ => ?_
  subst he
  exact ⟨_, rfl, law_post (by kernel_rfl) rfl rfl (by decide +kernel) hW2 hb⟩
theorem laid_met (os : Os) : laidMetH Tryz.prog Rows.tableMayRow.laid ((World.laidAll Tryz.prog os Rows.tableMayRow.laid).forCall (fun _ _ => 0) ⟨#[], #[.agg #[.slice none 0 0, .slice none 0 0]], []⟩).memory := by
  rw [MakeChecks.laidMetH_plain _ _ _ (by kernel_rfl)]
  exact laidMet_laidAll _ (by kernel_rfl) (by kernel_rfl)
theorem reads (os : Os) {H : Type} (enc : TypeId × Value → H) : ∃ places, DataW.whole enc Tryz.prog ((World.laidAll Tryz.prog os Rows.tableMayRow.laid).forCall (fun _ _ => 0) ⟨#[], #[.agg #[.slice none 0 0, .slice none 0 0]], []⟩).memory Tryz.f4.params.toList Rows.tableMaySpec.vars false (#[.agg #[.slice none 0 0, .slice none 0 0]] : Array Value).toList 8 = some ([.agg [.nil, .nil]], [], places) := ⟨[], by kernel_rfl⟩
set_option maxRecDepth 100000 in
theorem lifted (os : Os) (started : os.Started) (H : Type) (enc : TypeId × Value → H) (F : Stop.Interp) :
    ReturnsInHanded {} Tryz.checked os 4 .any ((OpenSpec.ofChange Rows.tableMaySpec).preRow enc Tryz.prog Tryz.f4 Rows.tableMayRow.domain false Rows.tableMayRow.laid) (((OpenSpec.ofChange Rows.tableMaySpec).at F).post enc Tryz.prog Tryz.f4 false true false false) := by
  obtain ⟨places, hx⟩ := reads os enc
  refine returnsInHanded_of_row (C := Tryz.checked) (s := OpenSpec.ofChange Rows.tableMaySpec) own started (by kernel_rfl) Tryz.func4
    (witness_row_at (enc := enc) (C := Tryz.checked) false (World.laidAll Tryz.prog os Rows.tableMayRow.laid) #[.agg #[.slice none 0 0, .slice none 0 0]] (World.laidAll_os _ _ _) (by kernel_rfl) (by kernel_rfl) (by kernel_rfl)
      (OpenSpec.preRow_of_cond 8 hx (by kernel_rfl) (fun k hk => by cases hk) (by kernel_rfl) (laid_met os))) ?_
  intro W base args ds gs before hval hW _ _ hsz hL _ _
  exact contract H enc W base args ds gs before hval hW hsz hL
theorem said : Rows.TableMaySaid :=
  OpenClaim.holds_of_cond 4 Tryz.f4 rfl rfl rfl rfl rfl rfl rfl ⟨rfl, rfl, rfl, rfl, rfl⟩ rfl rfl rfl rfl rfl (by kernel_rfl) Tryz.func4 (by kernel_rfl)
    (of_decide_eq_true (by kernel_rfl)) (by unfold Func.isWrapper; first | (rw [if_pos (by decide +kernel)]; kernel_rfl) | (rw [if_neg (by decide +kernel)]; exact ⟨rfl, rfl⟩))
    (fun os started H enc _ F => by rw [OpenClaim.pre_eq_preRow]; exact lifted os started H enc F)
theorem plain (f : FuncId) (fn : Func) (hf : Tryz.pinned.checked.prog.funcNamed "truffle/trufflelaw08.TableMay" = some f) (hfn : Tryz.pinned.checked.prog.funcs[f]? = some fn) :
    true = Tryz.pinned.checked.prog.looks [] ∧ ∀ (j : Nat) t, fn.params[j]? = some t → Tryz.pinned.checked.prog.wantsStandIn t = false := by
  obtain rfl : f = 4 := Option.some.inj ((show Tryz.prog.funcNamed "truffle/trufflelaw08.TableMay" = some 4 by kernel_rfl).symm.trans hf) |>.symm
  obtain rfl : fn = Tryz.f4 := (Option.some.inj (Tryz.func4.symm.trans hfn)).symm
  refine ⟨by kernel_rfl, fun j t ht => ?_⟩
  have hall : (Tryz.f4.params.toList.all fun t => !Tryz.prog.wantsStandIn t) = true := by kernel_rfl
  have := List.all_eq_true.1 hall t (Array.mem_toList_iff.2 (Array.mem_of_getElem? ht))
  exact (show Tryz.prog.wantsStandIn t = false by simpa using this)
theorem proved : Rows.TableMayCardSaid :=
  Claim7.holds_tied_plain_at .later [] _ _ _ _ said (fun _ h => by cases h) (by kernel_rfl) (fun _ h => by cases h) tableMay_row_tie rfl ⟨rfl, rfl⟩ (by kernel_rfl) rfl plain (by kernel_rfl)
end Go.Proofs.YtciiemomfniecaaGreatDoor.lawTableMay
