/-
  Two messages, enums, and files are held against each other: the contracts.
-/
import Derived.Test.YtldgfepimegbmaaDoorProEqual
namespace Go.Proofs.YtldgfepimegbmaaDoor
set_option maxRecDepth 100000
open Go.RowKit

structure MsFew (m : Ms) : Prop where
  f : m.F.length ≤ 1000000
  o : m.ones.length ≤ 1000000
  r : m.res.length ≤ 1000000
set_option maxHeartbeats 4000000 in
theorem samems_any (a b : Ms) (vF vO vR vF' vO' vR' : Value) (w : World) (ha : MRead w a vF vO vR) (hb : MRead w b vF' vO' vR') (hf : MsFew a) :
    Calls Tryd.prog 17 #[MsV a vF vO vR, MsV b vF' vO' vR'] w fun e w' => e = .returned (.bool (sameMs a b)) ∧ Below w.heap.size w w' := by
  obtain ⟨name, l, ones, res, at_⟩ := a
  obtain ⟨name', l', ones', res', at_'⟩ := b
  obtain ⟨A1, q1, e1, -⟩ := Sl.of_own ha.f
  obtain ⟨A2, q2, e2, -⟩ := Sl.of_own ha.o
  obtain ⟨A3, q3, e3, -⟩ := Sl.of_own ha.r
  obtain ⟨B1, r1, e4, -⟩ := Sl.of_own hb.f
  obtain ⟨B2, r2, e5, -⟩ := Sl.of_own hb.o
  obtain ⟨B3, r3, e6, -⟩ := Sl.of_own hb.r
  simp only at e1 e2 e3 e4 e5 e6
  subst e1 e2 e3 e4 e5 e6
  have HXA : Hid (MsV ⟨name, l, ones, res, at_⟩ (.slice A1 l.length q1) (.slice A2 ones.length q2) (.slice A3 res.length q3) = .agg #[.string (txt name), .slice A1 l.length q1, .slice A2 ones.length q2, .slice A3 res.length q3, .int .i64 at_]) := Lib.hid rfl
  have HXB : Hid (MsV ⟨name', l', ones', res', at_'⟩ (.slice B1 l'.length r1) (.slice B2 ones'.length r2) (.slice B3 res'.length r3) = .agg #[.string (txt name'), .slice B1 l'.length r1, .slice B2 ones'.length r2, .slice B3 res'.length r3, .int .i64 at_']) := Lib.hid rfl
  rw [HXA.out, HXB.out]
  have HS : Hid (sameMs ⟨name, l, ones, res, at_⟩ ⟨name', l', ones', res', at_'⟩ = (decide (name = name') && alike sameFd l l' && decide (ones = ones') && decide (res = res'))) := Lib.hid rfl
  have H1 := Lib.hid (fun (w2 : World) (hb2 : Below w.heap.size w w2) => eqfd_any _ _ l l' w2 (own_below ha.f hb2) (own_below hb.f hb2) hf.f)
  have H2 := Lib.hid (fun (w2 : World) (hb2 : Below w.heap.size w w2) => eqstr_any _ _ ones ones' w2 (own_below ha.o hb2) (own_below hb.o hb2) hf.o)
  have H3 := Lib.hid (fun (w2 : World) (hb2 : Below w.heap.size w w2) => eqint_any _ _ res res' w2 (own_below ha.r hb2) (own_below hb.r hb2) hf.r)
  have HB0 := Lib.hid (below_lit (below_new w (.cells #[.string (txt name), .slice A1 l.length q1, .slice A2 ones.length q2, .slice A3 res.length q3, .int .i64 at_] 34)) (.cells #[.string (txt name'), .slice B1 l'.length r1, .slice B2 ones'.length r2, .slice B3 res'.length r3, .int .i64 at_'] 34))
  have HBA := Lib.hid (heap_first w (.cells #[.string (txt name), .slice A1 l.length q1, .slice A2 ones.length q2, .slice A3 res.length q3, .int .i64 at_] 34) (.cells #[.string (txt name'), .slice B1 l'.length r1, .slice B2 ones'.length r2, .slice B3 res'.length r3, .int .i64 at_'] 34) rfl)
  have HBB := Lib.hid (heap_second w (.cells #[.string (txt name), .slice A1 l.length q1, .slice A2 ones.length q2, .slice A3 res.length q3, .int .i64 at_] 34) (.cells #[.string (txt name'), .slice B1 l'.length r1, .slice B2 ones'.length r2, .slice B3 res'.length r3, .int .i64 at_'] 34))
  clear ha hb hf
  by_cases hn : name = name'
  · subst hn
    have HS2 : Hid (sameMs ⟨name, l, ones, res, at_⟩ ⟨name, l', ones', res', at_'⟩ = (alike sameFd l l' && decide (ones = ones') && decide (res = res'))) := Lib.hid (by rw [HS.out]; simp)
    go_enter Tryd.func17, Tryd.ntmps17
    go_wp2_with fail
    refine (H1.out _ HB0.out).mono ?_
    generalize alike sameFd l l' = b1 at *
    rintro e w3 ⟨rfl, hb3⟩
    have HB3 := Lib.hid (below_then HB0.out hb3)
    have ga := (hb3.block w.heap.size (by simp; omega)).trans HBA.out
    have gb := (hb3.block (w.heap.size + 1) (by simp)).trans HBB.out
    have c2 := heap_cell ga 2
    have c3 := heap_cell ga 3
    have d2 := heap_cell gb 2
    have d3 := heap_cell gb 3
    simp at c2 c3 d2 d3
    have HGA := Lib.hid ga
    have HGB := Lib.hid gb
    have hs3 := hb3.size
    simp at hs3
    clear ga gb hb3
    cases b1
    · go_wp2
      go_ret
      exact ⟨by rw [HS2.out]; simp, HB3.out⟩
    · go_wp2_with fail
      refine (H2.out _ HB3.out).mono ?_
      generalize decide (ones = ones') = b2 at *
      rintro e w4 ⟨rfl, hb4⟩
      have HB4 := Lib.hid (below_then HB3.out hb4)
      have ga := (hb4.block w.heap.size (by omega)).trans HGA.out
      have gb := (hb4.block (w.heap.size + 1) (by omega)).trans HGB.out
      have c3 := heap_cell ga 3
      have d3 := heap_cell gb 3
      simp at c3 d3
      clear ga gb hb4
      cases b2
      · go_wp2
        go_ret
        exact ⟨by rw [HS2.out]; simp, HB4.out⟩
      · go_wp2_with fail
        refine (H3.out _ HB4.out).mono ?_
        generalize decide (res = res') = b3 at *
        rintro e w5 ⟨rfl, hb5⟩
        have HB5 := Lib.hid (below_then HB4.out hb5)
        go_wp2
        go_ret
        exact ⟨by rw [HS2.out]; simp, HB5.out⟩
  · have HS2 : Hid (sameMs ⟨name, l, ones, res, at_⟩ ⟨name', l', ones', res', at_'⟩ = false) := Lib.hid (by rw [HS.out, decide_eq_false hn]; simp)
    have hne := txt_ne hn
    clear hn
    go_enter Tryd.func17, Tryd.ntmps17
    go_wp2
    go_ret
    exact ⟨by rw [HS2.out]; rfl, HB0.out⟩
set_option maxHeartbeats 4000000 in
theorem sameen_any (a b : En) (vV vV' : Value) (w : World) (ha : ERead w a vV) (hb : ERead w b vV') (hf : a.V.length ≤ 1000000) :
    Calls Tryd.prog 19 #[EnV a vV, EnV b vV'] w fun e w' => e = .returned (.bool (sameEn a b)) ∧ Below w.heap.size w w' := by
  obtain ⟨name, l, at_⟩ := a
  obtain ⟨name', l', at_'⟩ := b
  obtain ⟨A1, q1, e1, -⟩ := Sl.of_own ha
  obtain ⟨B1, r1, e4, -⟩ := Sl.of_own hb
  simp only at e1 e4
  subst e1 e4
  have HXA : Hid (EnV ⟨name, l, at_⟩ (.slice A1 l.length q1) = .agg #[.string (txt name), .slice A1 l.length q1, .int .i64 at_]) := Lib.hid rfl
  have HXB : Hid (EnV ⟨name', l', at_'⟩ (.slice B1 l'.length r1) = .agg #[.string (txt name'), .slice B1 l'.length r1, .int .i64 at_']) := Lib.hid rfl
  rw [HXA.out, HXB.out]
  have HS : Hid (sameEn ⟨name, l, at_⟩ ⟨name', l', at_'⟩ = (decide (name = name') && alike sameVl l l')) := Lib.hid rfl
  have H1 := Lib.hid (fun (w2 : World) (hb2 : Below w.heap.size w w2) => eqvl_any _ _ l l' w2 (own_below ha hb2) (own_below hb hb2) hf)
  have HB0 := Lib.hid (below_lit (below_new w (.cells #[.string (txt name), .slice A1 l.length q1, .int .i64 at_] 58)) (.cells #[.string (txt name'), .slice B1 l'.length r1, .int .i64 at_'] 58))
  clear ha hb hf
  by_cases hn : name = name'
  · subst hn
    have HS2 : Hid (sameEn ⟨name, l, at_⟩ ⟨name, l', at_'⟩ = alike sameVl l l') := Lib.hid (by rw [HS.out]; simp)
    go_enter Tryd.func19, Tryd.ntmps19
    go_wp2_with fail
    refine (H1.out _ HB0.out).mono ?_
    rintro e w3 ⟨rfl, hb3⟩
    have HB3 := Lib.hid (below_then HB0.out hb3)
    clear hb3
    go_wp2
    go_ret
    exact ⟨by rw [HS2.out]; rfl, HB3.out⟩
  · have HS2 : Hid (sameEn ⟨name, l, at_⟩ ⟨name', l', at_'⟩ = false) := Lib.hid (by rw [HS.out, decide_eq_false hn]; simp)
    have hne := txt_ne hn
    clear hn
    go_enter Tryd.func19, Tryd.ntmps19
    go_wp2
    go_ret
    exact ⟨by rw [HS2.out]; rfl, HB0.out⟩
set_option maxHeartbeats 4000000 in
theorem eqms_any (v v' : Value) (l m : List Ms) (xs ys : List Value) (w : World) (h1 : w.ownsRow 0 34 5 v l.length xs) (k1 : MsAre w l xs) (h2 : w.ownsRow 0 34 5 v' m.length ys) (k2 : MsAre w m ys) (hfew : ∀ x ∈ l, MsFew x) (hl : l.length ≤ 1000000) :
    Calls Tryd.prog 16 #[v, v', fnOf 17] w fun e w' => e = .returned (.bool (alike sameMs l m)) ∧ Below w.heap.size w w' := by
  have HV : Hid (fnOf 17 = .func (.func 17) #[] #[]) := Lib.hid rfl
  rw [HV.out]
  obtain ⟨A, c, e1, -⟩ := Sl.of_own h1
  obtain ⟨A', c', e2, -⟩ := Sl.of_own h2
  subst e1 e2
  have H1 := Lib.hid h1
  have H2 := Lib.hid h2
  have K1 := Lib.hid k1
  have K2 := Lib.hid k2
  have HFEW := Lib.hid hfew
  clear h1 h2 k1 k2 hfew
  by_cases hlen : l.length = m.length
  · have hb : ((l.length : Int) != (m.length : Int)) = false := by simp [hlen]
    go_enter Tryd.func16, Tryd.ntmps16
    have HL := Lib.hid hlen
    clear hlen
    go_wp2
    clear hb
    go_loopw [17] (fun i wr => EqRel sameMs l m w i wr) (fun i _ => l.length - (intOf i).toNat)
    case atStart => exact EqRel.mk 0 rfl (by omega) (fun j a b hj => absurd hj (by omega)) (Below.refl _ _)
    case round =>
      obtain ⟨k, rfl, hk, hall, hb⟩ := hrel
      have HA := Lib.hid hall
      have HB := Lib.hid hb
      have hsz := hb.size
      clear hall hb
      by_cases hlt : k < l.length
      · have hlm : k < m.length := by have := HL.out; omega
        obtain ⟨a, ha⟩ : ∃ a, l[k]? = some a := ⟨_, List.getElem?_eq_getElem hlt⟩
        obtain ⟨b, hbk⟩ : ∃ b, m[k]? = some b := ⟨_, List.getElem?_eq_getElem hlm⟩
        obtain ⟨g, cap, vFa, vOa, vRa, hv, hg, hra, c0, c1, c2, c3, c4⟩ := msrow_at (own_below H1.out HB.out) (K1.out.leaf (Leaf.below HB.out)) ha
        injection hv with hA1 hn1 hc1
        subst hA1 hc1
        obtain ⟨P1a, p1a, f1a, -⟩ := Sl.of_own hra.f
        obtain ⟨P2a, p2a, f2a, -⟩ := Sl.of_own hra.o
        obtain ⟨P3a, p3a, f3a, -⟩ := Sl.of_own hra.r
        subst f1a f2a f3a
        obtain ⟨g', cap', vFb, vOb, vRb, hv', hg', hrb, d0, d1, d2, d3, d4⟩ := msrow_at (own_below H2.out HB.out) (K2.out.leaf (Leaf.below HB.out)) hbk
        injection hv' with hA2 hn2 hc2
        subst hA2 hc2
        obtain ⟨P1b, p1b, f1b, -⟩ := Sl.of_own hrb.f
        obtain ⟨P2b, p2b, f2b, -⟩ := Sl.of_own hrb.o
        obtain ⟨P3b, p3b, f3b, -⟩ := Sl.of_own hrb.r
        subst f1b f2b f3b
        have HAK := Lib.hid ha
        have HBK := Lib.hid hbk
        clear ha hbk
        have HC := Lib.hid (samems_any a b _ _ _ _ _ _ ((wr.alloc (.cells #[.string (txt a.name), .slice P1a a.F.length p1a, .slice P2a a.ones.length p2a, .slice P3a a.res.length p3a, .int .i64 a.at_] 34)).alloc (.cells #[.string (txt b.name), .slice P1b b.F.length p1b, .slice P2b b.ones.length p2b, .slice P3b b.res.length p3b, .int .i64 b.at_] 34)) (hra.leaf ((Leaf.alloc _ _).trans (Leaf.alloc _ _))) (hrb.leaf ((Leaf.alloc _ _).trans (Leaf.alloc _ _))) (HFEW.out a (List.mem_of_getElem? HAK.out)))
        change Hid (Calls _ _ #[.agg #[.string (txt a.name), .slice P1a a.F.length p1a, .slice P2a a.ones.length p2a, .slice P3a a.res.length p3a, .int .i64 a.at_], .agg #[.string (txt b.name), .slice P1b b.F.length p1b, .slice P2b b.ones.length p2b, .slice P3b b.res.length p3b, .int .i64 b.at_]] _ _) at HC
        clear hn1 hn2 hra hrb
        cases hs : sameMs a b
        · rw [hs] at HC
          have HF := Lib.hid (alike_no HAK.out HBK.out hs)
          clear hs
          go_wp2_with fail
          refine HC.out.mono ?_
          rintro e w8 ⟨rfl, hb8⟩
          go_wp2
          go_ret
          exact ⟨by rw [HF.out]; rfl, HB.out.trans ((below_lit (below_new _ _) _ |>.trans (hb8.mono (by simp; omega))).mono hsz)⟩
        · rw [hs] at HC
          have HN := Lib.hid (eq_next HAK.out HBK.out hs HA.out)
          clear hs
          go_wp2_with fail
          refine HC.out.mono ?_
          rintro e w8 ⟨rfl, hb8⟩
          go_wp2
          exact ⟨EqRel.mk (k + 1) (by go_num) (by omega) HN.out (HB.out.trans ((below_lit (below_new _ _) _ |>.trans (hb8.mono (by simp; omega))).mono hsz)), by simp [intOf]; omega⟩
      · obtain rfl : k = l.length := by omega
        have HF := Lib.hid (alike_all (f := sameMs) HL.out (fun j a b ha hb => HA.out j a b (List.getElem?_eq_some_iff.1 ha).1 ha hb))
        go_wp2
        go_ret
        exact ⟨by rw [HF.out]; rfl, HB.out⟩
  · have hb : ((l.length : Int) != (m.length : Int)) = true := by rw [bne_iff_ne]; omega
    have HF := Lib.hid (alike_ne (f := sameMs) hlen)
    clear hlen
    go_enter Tryd.func16, Tryd.ntmps16
    go_wp2
    go_ret
    exact ⟨by rw [HF.out]; rfl, Below.refl _ _⟩
set_option maxHeartbeats 4000000 in
theorem eqen_any (v v' : Value) (l m : List En) (xs ys : List Value) (w : World) (h1 : w.ownsRow 0 58 3 v l.length xs) (k1 : EnAre w l xs) (h2 : w.ownsRow 0 58 3 v' m.length ys) (k2 : EnAre w m ys) (hfew : ∀ x ∈ l, x.V.length ≤ 1000000) (hl : l.length ≤ 1000000) :
    Calls Tryd.prog 18 #[v, v', fnOf 19] w fun e w' => e = .returned (.bool (alike sameEn l m)) ∧ Below w.heap.size w w' := by
  have HV : Hid (fnOf 19 = .func (.func 19) #[] #[]) := Lib.hid rfl
  rw [HV.out]
  obtain ⟨A, c, e1, -⟩ := Sl.of_own h1
  obtain ⟨A', c', e2, -⟩ := Sl.of_own h2
  subst e1 e2
  have H1 := Lib.hid h1
  have H2 := Lib.hid h2
  have K1 := Lib.hid k1
  have K2 := Lib.hid k2
  have HFEW := Lib.hid hfew
  clear h1 h2 k1 k2 hfew
  by_cases hlen : l.length = m.length
  · have hb : ((l.length : Int) != (m.length : Int)) = false := by simp [hlen]
    go_enter Tryd.func18, Tryd.ntmps18
    have HL := Lib.hid hlen
    clear hlen
    go_wp2
    clear hb
    go_loopw [17] (fun i wr => EqRel sameEn l m w i wr) (fun i _ => l.length - (intOf i).toNat)
    case atStart => exact EqRel.mk 0 rfl (by omega) (fun j a b hj => absurd hj (by omega)) (Below.refl _ _)
    case round =>
      obtain ⟨k, rfl, hk, hall, hb⟩ := hrel
      have HA := Lib.hid hall
      have HB := Lib.hid hb
      have hsz := hb.size
      clear hall hb
      by_cases hlt : k < l.length
      · have hlm : k < m.length := by have := HL.out; omega
        obtain ⟨a, ha⟩ : ∃ a, l[k]? = some a := ⟨_, List.getElem?_eq_getElem hlt⟩
        obtain ⟨b, hbk⟩ : ∃ b, m[k]? = some b := ⟨_, List.getElem?_eq_getElem hlm⟩
        obtain ⟨g, cap, vVa, hv, hg, hra, c0, c1, c2⟩ := enrow_at (own_below H1.out HB.out) (K1.out.leaf (Leaf.below HB.out)) ha
        injection hv with hA1 hn1 hc1
        subst hA1 hc1
        obtain ⟨P1a, p1a, f1a, -⟩ := Sl.of_own hra
        subst f1a
        obtain ⟨g', cap', vVb, hv', hg', hrb, d0, d1, d2⟩ := enrow_at (own_below H2.out HB.out) (K2.out.leaf (Leaf.below HB.out)) hbk
        injection hv' with hA2 hn2 hc2
        subst hA2 hc2
        obtain ⟨P1b, p1b, f1b, -⟩ := Sl.of_own hrb
        subst f1b
        have HAK := Lib.hid ha
        have HBK := Lib.hid hbk
        clear ha hbk
        have HC := Lib.hid (sameen_any a b _ _ ((wr.alloc (.cells #[.string (txt a.name), .slice P1a a.V.length p1a, .int .i64 a.at_] 58)).alloc (.cells #[.string (txt b.name), .slice P1b b.V.length p1b, .int .i64 b.at_] 58)) (hra.leaf ((Leaf.alloc _ _).trans (Leaf.alloc _ _))) (hrb.leaf ((Leaf.alloc _ _).trans (Leaf.alloc _ _))) (HFEW.out a (List.mem_of_getElem? HAK.out)))
        change Hid (Calls _ _ #[.agg #[.string (txt a.name), .slice P1a a.V.length p1a, .int .i64 a.at_], .agg #[.string (txt b.name), .slice P1b b.V.length p1b, .int .i64 b.at_]] _ _) at HC
        clear hn1 hn2 hra hrb
        cases hs : sameEn a b
        · rw [hs] at HC
          have HF := Lib.hid (alike_no HAK.out HBK.out hs)
          clear hs
          go_wp2_with fail
          refine HC.out.mono ?_
          rintro e w8 ⟨rfl, hb8⟩
          go_wp2
          go_ret
          exact ⟨by rw [HF.out]; rfl, HB.out.trans ((below_lit (below_new _ _) _ |>.trans (hb8.mono (by simp; omega))).mono hsz)⟩
        · rw [hs] at HC
          have HN := Lib.hid (eq_next HAK.out HBK.out hs HA.out)
          clear hs
          go_wp2_with fail
          refine HC.out.mono ?_
          rintro e w8 ⟨rfl, hb8⟩
          go_wp2
          exact ⟨EqRel.mk (k + 1) (by go_num) (by omega) HN.out (HB.out.trans ((below_lit (below_new _ _) _ |>.trans (hb8.mono (by simp; omega))).mono hsz)), by simp [intOf]; omega⟩
      · obtain rfl : k = l.length := by omega
        have HF := Lib.hid (alike_all (f := sameEn) HL.out (fun j a b ha hb => HA.out j a b (List.getElem?_eq_some_iff.1 ha).1 ha hb))
        go_wp2
        go_ret
        exact ⟨by rw [HF.out]; rfl, HB.out⟩
  · have hb : ((l.length : Int) != (m.length : Int)) = true := by rw [bne_iff_ne]; omega
    have HF := Lib.hid (alike_ne (f := sameEn) hlen)
    clear hlen
    go_enter Tryd.func18, Tryd.ntmps18
    go_wp2
    go_ret
    exact ⟨by rw [HF.out]; rfl, Below.refl _ _⟩
end Go.Proofs.YtldgfepimegbmaaDoor
/-
  Two files are held against each other: the contract.
-/
namespace Go.Proofs.YtldgfepimegbmaaDoor
set_option maxRecDepth 100000
open Go.RowKit

structure FlFew (f : Fl) : Prop where
  m : ∀ m ∈ f.M, MsFew m
  e : ∀ e ∈ f.E, e.V.length ≤ 1000000
  lm : f.M.length ≤ 1000000
  le : f.E.length ≤ 1000000
set_option maxHeartbeats 4000000 in
theorem same_any7 (f g : Fl) (vM vE vM' vE' : Value) (w : World) (hf : FRead w f vM vE) (hg : FRead w g vM' vE') (hfew : FlFew f) :
    Calls Tryd.prog 10 #[.agg #[vM, vE], .agg #[vM', vE']] w fun e w' => e = .returned (.bool (sameFl f g)) ∧ Below w.heap.size w w' := by
  obtain ⟨M, E⟩ := f
  obtain ⟨M', E'⟩ := g
  obtain ⟨xs, ys, h1, h2, h3, h4⟩ := hf
  obtain ⟨xs', ys', k1, k2, k3, k4⟩ := hg
  simp only at h1 h2 h3 h4 k1 k2 k3 k4
  obtain ⟨A1, q1, e1, -⟩ := Sl.of_own h1
  obtain ⟨A2, q2, e2, -⟩ := Sl.of_own h3
  obtain ⟨B1, r1, e3, -⟩ := Sl.of_own k1
  obtain ⟨B2, r2, e4, -⟩ := Sl.of_own k3
  subst e1 e2 e3 e4
  have HS : Hid (sameFl ⟨M, E⟩ ⟨M', E'⟩ = (alike sameMs M M' && alike sameEn E E')) := Lib.hid rfl
  have H1 := Lib.hid (fun (w2 : World) (hb2 : Below w.heap.size w w2) => eqms_any _ _ M M' xs xs' w2 (own_below h1 hb2) (h2.leaf (.below hb2)) (own_below k1 hb2) (k2.leaf (.below hb2)) hfew.m hfew.lm)
  have H2 := Lib.hid (fun (w2 : World) (hb2 : Below w.heap.size w w2) => eqen_any _ _ E E' ys ys' w2 (own_below h3 hb2) (h4.leaf (.below hb2)) (own_below k3 hb2) (k4.leaf (.below hb2)) hfew.e hfew.le)
  have HB0 := Lib.hid (below_lit (below_new w (.cells #[.slice A1 M.length q1, .slice A2 E.length q2] 26)) (.cells #[.slice B1 M'.length r1, .slice B2 E'.length r2] 26))
  have HBA := Lib.hid (heap_first w (.cells #[.slice A1 M.length q1, .slice A2 E.length q2] 26) (.cells #[.slice B1 M'.length r1, .slice B2 E'.length r2] 26) rfl)
  have HBB := Lib.hid (heap_second w (.cells #[.slice A1 M.length q1, .slice A2 E.length q2] 26) (.cells #[.slice B1 M'.length r1, .slice B2 E'.length r2] 26))
  clear h1 h2 h3 h4 k1 k2 k3 k4 hfew
  go_enter Tryd.func10, Tryd.ntmps10
  go_wp2_with fail
  refine (H1.out _ HB0.out).mono ?_
  generalize alike sameMs M M' = b1 at *
  rintro e w3 ⟨rfl, hb3⟩
  have HB3 := Lib.hid (below_then HB0.out hb3)
  have ga := (hb3.block w.heap.size (by simp; omega)).trans HBA.out
  have gb := (hb3.block (w.heap.size + 1) (by simp)).trans HBB.out
  have c1 := heap_cell ga 1
  have d1 := heap_cell gb 1
  simp at c1 d1
  clear ga gb hb3
  cases b1
  · go_wp2
    go_ret
    exact ⟨by rw [HS.out]; rfl, HB3.out⟩
  · go_wp2_with fail
    refine (H2.out _ HB3.out).mono ?_
    rintro e w4 ⟨rfl, hb4⟩
    have HB4 := Lib.hid (below_then HB3.out hb4)
    go_wp2
    go_ret
    exact ⟨by rw [HS.out]; rfl, HB4.out⟩
end Go.Proofs.YtldgfepimegbmaaDoor
