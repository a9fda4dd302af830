/-
  What is found has the name, or number, and is found by its own: the statement TableFinds, for every schema.
-/
import Derived.Test.YtciiemomfniecaaGreatDoorTabFew
import Derived.Test.YtciiemomfniecaaGreatDoorTabOrd
import Derived.BigQuiet
import Derived.Deep.DeepCutAuto
namespace Go.Proofs.YtciiemomfniecaaGreatDoor.lawTableFinds
set_option maxRecDepth 100000
open Go.ChangeShapes Go.WideShapes Go.ChangeAt Go.RowKit

theorem find_named {s : Sc} {m : Int} {x : List UInt8} {d : Df} (h : findS s m x = some d) : d.name = x := by
  unfold findS at h
  obtain ⟨y, -, hy⟩ := Option.bind_eq_some_iff.1 h
  simpa using List.find?_some hy
theorem by_no {s : Sc} {m x : Int} {d : Df} (h : byS s m x = some d) : d.no = x := by
  unfold byS at h
  obtain ⟨y, -, hy⟩ := Option.bind_eq_some_iff.1 h
  simpa using List.find?_some hy
/-- A box that holds a field, in a world that has grown. -/
def FRel (B : Nat) (w0 : World) (d : Df) (p q : Value) (wx : World) : Prop := ∃ g, p = .pointer (some ⟨g, 0, none⟩) ∧ q = .bool true ∧ wx.heap[g]? = some (.cells #[.int .i64 d.no, .string (txt d.name), .int .i64 d.kind, .int .i64 d.ref, .bool d.rep, .int .i64 d.key, .int .i64 d.one] 39 (0, 0)) ∧ Below B w0 wx
def ThenRel (w : World) (c : Obj) (v : Value) (wx : World) : Prop := v = .bool false ∧ Below w.heap.size w wx ∧ wx.heap[w.heap.size]? = some c
def RoundRel (n : Nat) (w0 : World) (k : Nat) (i : Value) (wr : World) : Prop := ∃ j : Nat, i = .int .i64 j ∧ j ≤ n ∧ k = n - j ∧ Below w0.heap.size w0 wr
set_option maxRecDepth 1000000 in
set_option maxHeartbeats 4000000 in
theorem walk (w : World) (L : LT w) (s : Sc) (vM vE : Value) (fa : SAt w.heap.size w s vM vE) (fi : ScIn s) (m : Int) (m0 : -9223372036854775808 ≤ m) (m1 : m ≤ 9223372036854775807) (nm : ByteArray) (hnm : nm.size ≤ maxLen) (no : Int) (n0 : -9223372036854775808 ≤ no) (n1 : no ≤ 9223372036854775807) :
    Calls Tryz.prog 7 #[.agg #[vM, vE], .int .i64 m, .string nm, .int .i64 no] w fun e w' => e = .returned (.bool true) ∧ Below w.heap.size w w' := by
  obtain ⟨x, rfl⟩ : ∃ x, nm = txt x := ⟨_, (txt_of nm).symm⟩
  have HFA := Lib.hid fa
  obtain ⟨xs, ys, ⟨A1, q1, rfl, s1, b1⟩, h2, ⟨A2, q2, rfl, s2, b2⟩, h4⟩ := fa
  have HS1 := Lib.hid s1
  have HMA := Lib.hid h2
  clear s1 h2 s2 h4 hnm
  have HL := Lib.hid L
  have HIN := Lib.hid fi
  clear L fi
  have hb0 := below_new w (.cells #[.slice A1 s.M.length q1, .slice A2 s.E.length q2] 29)
  have hx0 : (w.alloc (.cells #[.slice A1 s.M.length q1, .slice A2 s.E.length q2] 29)).heap[w.heap.size]? = some (.cells #[.slice A1 s.M.length q1, .slice A2 s.E.length q2] 29 (0, 0)) := heap_alloc_new w _
  go_enter Tryz.func7, Tryz.ntmps7
  go_wp2_with fail
  refine (awake8_any _ (HL.out.on hb0)).mono ?_
  rintro e w1 ⟨rfl, hb1⟩
  have hx1 := (hb1.block _ (by simp)).trans hx0
  have hbw1 := below_then hb0 hb1
  clear hb0 hx0 hb1
  go_wp2_with (refine wpList_load_sc rfl _ rfl w.heap.size _ _ rfl _ _ hx1 ?_)
  refine (fews_any w.heap.size s _ _ w1 hbw1.size (HFA.out.low (Low.below hbw1 (Nat.le_refl _)))).mono ?_
  rintro e w2 ⟨rfl, hb2⟩
  have hx2 := (hb2.block _ (Array.getElem?_eq_some_iff.1 hx1).1).trans hx1
  have hbw2 := below_then hbw1 hb2
  clear hx1 hb2 hbw1
  obtain ⟨fw, hfw⟩ : ∃ b, fewS s = b := ⟨_, rfl⟩
  rw [hfw]
  cases fw with
  | false =>
    go_wp2
    go_ret
    exact ⟨rfl, hbw2⟩
  | true =>
    have HFW := Lib.hid hfw
    clear hfw
    go_wp2_with (refine wpList_load_sc rfl _ rfl w.heap.size _ _ rfl _ _ hx2 ?_)
    refine (Find_any w.heap.size s _ _ m x w2 hbw2.size (HFA.out.low (Low.below hbw2 (Nat.le_refl _)))).mono ?_
    rintro e w3 ⟨rfl, hb3⟩
    have hx3 := (hb3.block _ (Array.getElem?_eq_some_iff.1 hx2).1).trans hx2
    have hbw3 := below_then hbw2 hb3
    clear hx2 hb3 hbw2
    obtain ⟨o1, ho1⟩ : ∃ o, findS s m x = o := ⟨_, rfl⟩
    obtain ⟨o2, ho2⟩ : ∃ o, byS s m no = o := ⟨_, rfl⟩
    have HBY := Lib.hid (fun w4 (hb : Below w.heap.size w w4) => By_any w.heap.size s (.slice A1 s.M.length q1) (.slice A2 s.E.length q2) m no w4 hb.size (HFA.out.low (Low.below hb (Nat.le_refl _))))
    rw [ho1]
    rw [ho2] at HBY
    have HO1 := Lib.hid ho1
    have HO2 := Lib.hid ho2
    obtain ⟨d1, hd1⟩ : ∃ d, o1.getD df0 = d := ⟨_, rfl⟩
    obtain ⟨d2, hd2⟩ : ∃ d, o2.getD df0 = d := ⟨_, rfl⟩
    obtain ⟨i1, hi1⟩ : ∃ d, o1.isSome = d := ⟨_, rfl⟩
    obtain ⟨i2, hi2⟩ : ∃ d, o2.isSome = d := ⟨_, rfl⟩
    have HC1 : Hid (if i1 then d1.name = x else d1 = df0) := Lib.hid (by
      subst hi1 hd1
      cases o1 with
      | none => simp
      | some d => simpa using find_named ho1)
    have HC2 : Hid (if i2 then d2.no = no else d2 = df0) := Lib.hid (by
      subst hi2 hd2
      cases o2 with
      | none => simp
      | some d => simpa using by_no ho2)
    unfold foundV at HBY ⊢
    rw [hd2, hi2] at HBY
    rw [hd1, hi1]
    clear ho1 ho2 hd1 hd2 hi1 hi2
    simp only [DC] at HBY ⊢
    have hx3b := ((below_new w3 (.cells #[.int .i64 d1.no, .string (txt d1.name), .int .i64 d1.kind, .int .i64 d1.ref, .bool d1.rep, .int .i64 d1.key, .int .i64 d1.one] 39)).block _ (Array.getElem?_eq_some_iff.1 hx3).1).trans hx3
    have hf3 : (w3.alloc (.cells #[.int .i64 d1.no, .string (txt d1.name), .int .i64 d1.kind, .int .i64 d1.ref, .bool d1.rep, .int .i64 d1.key, .int .i64 d1.one] 39)).heap[w3.heap.size]? = some (.cells #[.int .i64 d1.no, .string (txt d1.name), .int .i64 d1.kind, .int .i64 d1.ref, .bool d1.rep, .int .i64 d1.key, .int .i64 d1.one] 39 (0, 0)) := heap_alloc_new w3 _
    have hbw3b := below_lit hbw3 (.cells #[.int .i64 d1.no, .string (txt d1.name), .int .i64 d1.kind, .int .i64 d1.ref, .bool d1.rep, .int .i64 d1.key, .int .i64 d1.one] 39)
    go_wp2_with (refine wpList_load_sc rfl _ rfl w.heap.size _ _ rfl _ _ hx3b ?_)
    refine (HBY.out _ hbw3b).mono ?_
    rintro e w4 ⟨rfl, hb4⟩
    have hx4 := (hb4.block _ (Array.getElem?_eq_some_iff.1 hx3b).1).trans hx3b
    have hf4 := (hb4.block _ (Array.getElem?_eq_some_iff.1 hf3).1).trans hf3
    have hbw4 := below_then hbw3b hb4
    clear hx3 hx3b hf3 hbw3 hbw3b hb4
    have hx5 := ((below_new w4 (.cells #[.int .i64 d2.no, .string (txt d2.name), .int .i64 d2.kind, .int .i64 d2.ref, .bool d2.rep, .int .i64 d2.key, .int .i64 d2.one] 39)).block _ (Array.getElem?_eq_some_iff.1 hx4).1).trans hx4
    have hf5 := ((below_new w4 (.cells #[.int .i64 d2.no, .string (txt d2.name), .int .i64 d2.kind, .int .i64 d2.ref, .bool d2.rep, .int .i64 d2.key, .int .i64 d2.one] 39)).block _ (Array.getElem?_eq_some_iff.1 hf4).1).trans hf4
    have hg5 : (w4.alloc (.cells #[.int .i64 d2.no, .string (txt d2.name), .int .i64 d2.kind, .int .i64 d2.ref, .bool d2.rep, .int .i64 d2.key, .int .i64 d2.one] 39)).heap[w4.heap.size]? = some (.cells #[.int .i64 d2.no, .string (txt d2.name), .int .i64 d2.kind, .int .i64 d2.ref, .bool d2.rep, .int .i64 d2.key, .int .i64 d2.one] 39 (0, 0)) := heap_alloc_new w4 _
    have hbw5 := below_lit hbw4 (.cells #[.int .i64 d2.no, .string (txt d2.name), .int .i64 d2.kind, .int .i64 d2.ref, .bool d2.rep, .int .i64 d2.key, .int .i64 d2.one] 39)
    clear hx4 hf4 hbw4
    have f1 := heap_cell hf5 1
    simp at f1
    have HMY := Lib.hid (fun wx (hb : Below w.heap.size w wx) => may_any w.heap.size s (.slice A1 s.M.length q1) (.slice A2 s.E.length q2) wx hb.size (HFA.out.low (Low.below hb (Nat.le_refl _))) HIN.out (HL.out.tabs.on hb))
    have HB5 := Lib.hid hbw5
    have v0 := heap_cell hx5 0
    simp at v0
    clear hbw5
    go_upto_region 7 with fail
    have HB5' := HB5.out
    clear HB5
    obtain ⟨W5, hW5⟩ : ∃ W, W = w4.alloc (.cells #[.int .i64 d2.no, .string (txt d2.name), .int .i64 d2.kind, .int .i64 d2.ref, .bool d2.rep, .int .i64 d2.key, .int .i64 d2.one] 39) := ⟨_, rfl⟩
    rw [← hW5] at hx5 hf5 hg5 HB5' f1 v0 ⊢
    have g0 := heap_cell hg5 0
    simp at g0
    have HB5 := Lib.hid HB5'
    clear HB5' hW5
    go_cut [79] (fun v wx => ThenRel w (.cells #[.slice A1 s.M.length q1, .slice A2 s.E.length q2] 29 (0, 0)) v wx)
    case first =>
      cases i1 with
      | true =>
        have e1 := HC1.out
        rw [if_pos rfl] at e1
        subst e1
        cases i2 with
        | true =>
          have e2 := HC2.out
          rw [if_pos rfl] at e2
          subst e2
          go_wp2
          go_meet
          case rel => exact ⟨rfl, HB5.out, hx5⟩
        | false =>
          obtain rfl : d2 = ⟨0, [], 0, 0, false, 0, 0⟩ := by have e2 := HC2.out; rw [if_neg (by decide)] at e2; exact e2
          simp only [show txt [] = ⟨#[]⟩ from rfl] at hg5
          go_wp2_with (refine wpList_load_row_g rfl 39 _ rfl _ rfl _ _ _ _ hg5 Tryz.underlying39 rfl rfl ?_)
          go_meet
          case rel => exact ⟨rfl, HB5.out, hx5⟩
      | false =>
        obtain rfl : d1 = ⟨0, [], 0, 0, false, 0, 0⟩ := by have e1 := HC1.out; rw [if_neg (by decide)] at e1; exact e1
        simp only [show txt [] = ⟨#[]⟩ from rfl] at hf5
        clear f1
        cases i2 with
        | true =>
          have e2 := HC2.out
          rw [if_pos rfl] at e2
          subst e2
          go_wp2_with (refine wpList_load_row_g rfl 39 _ rfl _ rfl _ _ _ _ hf5 Tryz.underlying39 rfl rfl ?_)
          go_meet
          case rel => exact ⟨rfl, HB5.out, hx5⟩
        | false =>
          obtain rfl : d2 = ⟨0, [], 0, 0, false, 0, 0⟩ := by have e2 := HC2.out; rw [if_neg (by decide)] at e2; exact e2
          simp only [show txt [] = ⟨#[]⟩ from rfl] at hg5
          go_wp2_with (first | (refine wpList_load_row_g rfl 39 _ rfl _ rfl _ _ _ _ hf5 Tryz.underlying39 rfl rfl ?_) | (refine wpList_load_row_g rfl 39 _ rfl _ rfl _ _ _ _ hg5 Tryz.underlying39 rfl rfl ?_))
          go_meet
          case rel => exact ⟨rfl, HB5.out, hx5⟩
    case rest =>
    clear hx5 hf5 hg5 v0 f1 HB5
    obtain ⟨rfl, hbc, hx5⟩ := hcut
    have HB5 := Lib.hid hbc
    clear hbc
    go_wp2_with (refine wpList_load_sc rfl _ rfl w.heap.size _ _ rfl _ _ hx5 ?_)
    refine (HMY.out _ HB5.out).mono ?_
    rintro e w6 ⟨b, rfl, hbb, hb6⟩
    have hx6 := (hb6.block _ (Array.getElem?_eq_some_iff.1 hx5).1).trans hx5
    have HBW6 := Lib.hid (below_then HB5.out hb6)
    have HBB := Lib.hid hbb
    have u0 := heap_cell hx6 0
    simp at u0
    clear hbb hb6 hx5
    cases b with
    | false =>
      go_wp2
      go_ret
      exact ⟨rfl, HBW6.out⟩
    | true =>
      by_cases hm : 0 ≤ m ∧ m < s.M.length
      · obtain ⟨k, rfl⟩ : ∃ k : Nat, m = k := ⟨m.toNat, by omega⟩
        have hlt : k < s.M.length := by omega
        have h1 : decide ((k : Int) < 0) = false := by rw [decide_eq_false_iff_not]; omega
        have h2 : decide ((s.M.length : Int) ≤ (k : Int)) = false := by rw [decide_eq_false_iff_not]; omega
        have h2n : decide (s.M.length ≤ k) = false := by rw [decide_eq_false_iff_not]; omega
        have HMM := Lib.hid (HBB.out.1 rfl)
        obtain ⟨md, hmd⟩ : ∃ d, s.M[k]? = some d := ⟨_, List.getElem?_eq_getElem hlt⟩
        have u1 := heap_cell hx6 1
        simp at u1
        obtain ⟨ad, vF, rfl, hg, hmr, c0, c1⟩ := mdr_at (HS1.out.low b1 (Low.below HBW6.out (Nat.le_refl _))) (HMA.out.low (Low.below HBW6.out (Nat.le_refl _))) hmd
        obtain ⟨AF, cF, rfl, sF, aF⟩ := id hmr
        have HSF := Lib.hid sF
        have HMD := Lib.hid hmd
        have hfl : md.F.length ≤ 9223372036854775807 := by have h1 := sF.le; have h2 := sF.cap; unfold maxLen at h2; omega
        have HFF := Lib.hid (fun (d : Df) (hd : d ∈ md.F) => found_may HMM.out HMD.out hd)
        have HX6 := Lib.hid hx6
        have HC0 := Lib.hid c0
        have HU1 := Lib.hid u1
        clear hmd sF hmr hx6 hm c0 u1
        go_wp2
        go_loopg [15] (md.F.length) (fun n i wr => RoundRel md.F.length w6 n i wr)
        case atStart => exact ⟨0, rfl, by omega, by omega, Below.refl _ _⟩
        case round =>
          obtain ⟨j, rfl, hj, hgk, hb⟩ := hrel
          have HGK := Lib.hid hgk
          clear hgk
          have hx := (hb.block _ (Array.getElem?_eq_some_iff.1 HX6.out).1).trans HX6.out
          have v0 := (hb.cell (cell_lt u0)).trans u0
          have v1 := (hb.cell (cell_lt HU1.out)).trans HU1.out
          have e1 := (hb.cell (cell_lt c1)).trans c1
          have HBW := Lib.hid (HBW6.out.trans (hb.mono HBW6.out.size))
          by_cases hlj : j < md.F.length
          · obtain ⟨d, hd0⟩ : ∃ d, md.F[j]? = some d := ⟨_, List.getElem?_eq_getElem hlj⟩
            obtain ⟨ad2, rfl, hg2, p0, p1, p2, p3, p4, p5, p6⟩ := dfr_at (HSF.out.on hb) hd0
            obtain ⟨ad3, had3, _, q0, q1', q2', q3', q4', q5', q6'⟩ := dfr_at HSF.out hd0
            obtain rfl := Option.some.inj had3
            have HQS := Lib.hid (And.intro q0 (And.intro q1' (And.intro q2' (And.intro q3' (And.intro q4' (And.intro q5' q6'))))))
            clear q0 q1' q2' q3' q4' q5' q6'
            have HC1W := Lib.hid c1
            have HFD := Lib.hid (HFF.out d (List.mem_of_getElem? hd0))
            have HF1 := Lib.hid (fun wx (hx : Below w.heap.size w wx) => Find_any w.heap.size s (.slice (some ad) s.M.length q1) (.slice A2 s.E.length q2) k d.name wx hx.size (HFA.out.low (Low.below hx (Nat.le_refl _))))
            have HF2 := Lib.hid (fun wx (hx : Below w.heap.size w wx) => By_any w.heap.size s (.slice (some ad) s.M.length q1) (.slice A2 s.E.length q2) k d.no wx hx.size (HFA.out.low (Low.below hx (Nat.le_refl _))))
            rw [HFD.out.1] at HF1
            rw [HFD.out.2] at HF2
            unfold foundV at HF1 HF2
            simp only [DC, Option.getD_some, Option.isSome_some] at HF1 HF2
            have hk1 : decide ((k : Int) < 0) = false := h1
            have hj1 : decide ((j : Int) < 0) = false := by rw [decide_eq_false_iff_not]; omega
            have hj2 : decide ((md.F.length : Int) ≤ (j : Int)) = false := by rw [decide_eq_false_iff_not]; omega
            have hall := four_below (Below.refl wr.heap.size wr) ⟨hx, v0, v1, e1, p1⟩
            have hallD : (wr.drew).heap[w.heap.size]? = some (.cells #[.slice (some ad) s.M.length q1, .slice A2 s.E.length q2] 29 (0, 0)) ∧ (wr.drew).cell? ⟨w.heap.size, 0, none⟩ = some (.slice (some ad) s.M.length q1) ∧ (wr.drew).cell? ⟨w.heap.size, 1, none⟩ = some (.slice A2 s.E.length q2) ∧ (wr.drew).cell? ⟨(ad.add (k * 2)).block, (ad.add (k * 2)).off + 1, none⟩ = some (.slice (some ad2) md.F.length cF) ∧ (wr.drew).cell? ⟨(ad2.add (j * 7)).block, (ad2.add (j * 7)).off + 1, none⟩ = some (.string (txt d.name)) := hall
            have hallX := four_below (below_new wr (.cells #[.int .i64 0, .string ⟨#[]⟩, .int .i64 0, .int .i64 0, .bool false, .int .i64 0, .int .i64 0] 39)) hall
            have hallXD := four_heap (w' := (wr.alloc (.cells #[.int .i64 0, .string ⟨#[]⟩, .int .i64 0, .int .i64 0, .bool false, .int .i64 0, .int .i64 0] 39)).drew) rfl rfl rfl hallX
            have ng : w.heap.size ≠ wr.heap.size := by have := HBW.out.size; have := (Array.getElem?_eq_some_iff.1 hx).1; omega
            have np : (⟨(ad.add (k * 2)).block, (ad.add (k * 2)).off + 1, none⟩ : Addr).block ≠ wr.heap.size := by have := cell_lt e1; omega
            have nq : (⟨(ad2.add (j * 7)).block, (ad2.add (j * 7)).off + 1, none⟩ : Addr).block ≠ wr.heap.size := by have := cell_lt p1; omega
            have HBB1 := Lib.hid hb.drew
            have HBB2 := Lib.hid (below_lit hb (.cells #[.int .i64 0, .string ⟨#[]⟩, .int .i64 0, .int .i64 0, .bool false, .int .i64 0, .int .i64 0] 39)).drew
            have HSZ := Lib.hid hb.size
            have HA := Lib.hid hall
            have HAD := Lib.hid hallD
            have HAX := Lib.hid hallX
            have HAXD := Lib.hid hallXD
            have HNG := Lib.hid ng
            have HNP := Lib.hid np
            have HNQ := Lib.hid nq
            clear hallD hallX hallXD hall ng np nq
            have HPS := Lib.hid (And.intro p0 (And.intro p1 (And.intro p2 (And.intro p3 (And.intro p4 (And.intro p5 p6))))))
            clear hd0 p0 p2 p3 p4 p5 p6 hg2
            go_upto_region 14 with fail
            go_cut [16, 17] (fun p q wx => FRel w6.heap.size w6 d p q wx)
            case first =>
              go_region_held3 (fun w' => w'.heap[w.heap.size]? = some (.cells #[.slice (some ad) s.M.length q1, .slice A2 s.E.length q2] 29 (0, 0)) ∧ w'.cell? ⟨w.heap.size, 0, none⟩ = some (.slice (some ad) s.M.length q1) ∧ w'.cell? ⟨w.heap.size, 1, none⟩ = some (.slice A2 s.E.length q2) ∧ w'.cell? ⟨(ad.add (k * 2)).block, (ad.add (k * 2)).off + 1, none⟩ = some (.slice (some ad2) md.F.length cF) ∧ w'.cell? ⟨(ad2.add (j * 7)).block, (ad2.add (j * 7)).off + 1, none⟩ = some (.string (txt d.name)))
                (first | with_reducible exact HA.out | with_reducible exact HAD.out | with_reducible exact HAX.out | with_reducible exact HAXD.out | with_reducible exact hk7 | with_reducible exact hk8 | with_reducible exact hk6)
                ((first
                  | (go_at_call 17; refine (HF1.out _ (by first | with_reducible exact HBW.out.drew | with_reducible exact (below_lit HBW.out _).drew)).mono ?_; rintro e w7 ⟨rfl, hb7⟩; (first | (have z7 := zedD hb7; obtain ⟨⟨z70, z71, z72, z73, z74, z75, z76⟩, y70, y71, y72, y73, y74, y75, y76⟩ := zed_df z7; have hk7 := four_below hb7 HAXD.out; have hk8 := four_seven hk7 HNG.out HNP.out HNQ.out (.int .i64 d.no) (.string (txt d.name)) (.int .i64 d.kind) (.int .i64 d.ref) (.bool d.rep) (.int .i64 d.key) (.int .i64 d.one); have hf8 := heap_seven_same z7 (.int .i64 d.no) (.string (txt d.name)) (.int .i64 d.kind) (.int .i64 d.ref) (.bool d.rep) (.int .i64 d.key) (.int .i64 d.one); have hb8 := below_seven (below_then HBB2.out hb7) HSZ.out (.int .i64 d.no) (.string (txt d.name)) (.int .i64 d.kind) (.int .i64 d.ref) (.bool d.rep) (.int .i64 d.key) (.int .i64 d.one); clear z7) | (have hk7 := four_below hb7 HAD.out; have hk6 := four_below (below_new w7 (.cells #[.int .i64 0, .string ⟨#[]⟩, .int .i64 0, .int .i64 0, .bool false, .int .i64 0, .int .i64 0] 39)) hk7; have hk8 := four_below (below_new w7 (.cells #[.int .i64 d.no, .string (txt d.name), .int .i64 d.kind, .int .i64 d.ref, .bool d.rep, .int .i64 d.key, .int .i64 d.one] 39)) hk7; have hf8 := heap_alloc_new w7 (.cells #[.int .i64 d.no, .string (txt d.name), .int .i64 d.kind, .int .i64 d.ref, .bool d.rep, .int .i64 d.key, .int .i64 d.one] 39); have hb8 := below_lit (below_then HBB1.out hb7) (.cells #[.int .i64 d.no, .string (txt d.name), .int .i64 d.kind, .int .i64 d.ref, .bool d.rep, .int .i64 d.key, .int .i64 d.one] 39))))))
              all_goals
                go_wp2_with fail
                go_meet
                case rel => exact ⟨_, rfl, rfl, hf8, hb8⟩
            case rest =>
            obtain ⟨B8, rfl, rfl, hf8, hb8⟩ := hcut
            obtain ⟨W8, rfl⟩ : ∃ W, W = wc := ⟨_, rfl⟩
            clear hx v0 v1 e1 p1 HA HAD HAX HAXD HNG HNP HNQ HBB1 HBB2 HSZ hb HBW
            have p0 := (hb8.cell (cell_lt HQS.out.1)).trans HQS.out.1
            have hx := (hb8.block _ (Array.getElem?_eq_some_iff.1 HX6.out).1).trans HX6.out
            have v0 := (hb8.cell (cell_lt u0)).trans u0
            have v1 := (hb8.cell (cell_lt HU1.out)).trans HU1.out
            have e1 := (hb8.cell (cell_lt HC1W.out)).trans HC1W.out
            have HBW8 := Lib.hid (HBW6.out.trans (hb8.mono HBW6.out.size))
            have hall := four_below (q := ad2.add (j * 7)) (Below.refl W8.heap.size W8) ⟨hx, v0, v1, e1, p0⟩
            have hallD : (W8.drew).heap[w.heap.size]? = some (.cells #[.slice (some ad) s.M.length q1, .slice A2 s.E.length q2] 29 (0, 0)) ∧ (W8.drew).cell? ⟨w.heap.size, 0, none⟩ = some (.slice (some ad) s.M.length q1) ∧ (W8.drew).cell? ⟨w.heap.size, 1, none⟩ = some (.slice A2 s.E.length q2) ∧ (W8.drew).cell? ⟨(ad.add (k * 2)).block, (ad.add (k * 2)).off + 1, none⟩ = some (.slice (some ad2) md.F.length cF) ∧ (W8.drew).cell? (ad2.add (j * 7)) = some (.int .i64 d.no) := hall
            have hallX := four_below (q := ad2.add (j * 7)) (below_new W8 (.cells #[.int .i64 0, .string ⟨#[]⟩, .int .i64 0, .int .i64 0, .bool false, .int .i64 0, .int .i64 0] 39)) hall
            have hallXD := four_heap (p := ⟨(ad.add (k * 2)).block, (ad.add (k * 2)).off + 1, none⟩) (q := ad2.add (j * 7)) (w' := (W8.alloc (.cells #[.int .i64 0, .string ⟨#[]⟩, .int .i64 0, .int .i64 0, .bool false, .int .i64 0, .int .i64 0] 39)).drew) rfl rfl rfl hallX
            have HA := Lib.hid hall
            have HAD := Lib.hid hallD
            have HAX := Lib.hid hallX
            have HAXD := Lib.hid hallXD
            have HNG := Lib.hid (show w.heap.size ≠ W8.heap.size by have := (Array.getElem?_eq_some_iff.1 hx).1; omega)
            have HNP := Lib.hid (show (⟨(ad.add (k * 2)).block, (ad.add (k * 2)).off + 1, none⟩ : Addr).block ≠ W8.heap.size by have := cell_lt e1; omega)
            have HNQ := Lib.hid (show (ad2.add (j * 7)).block ≠ W8.heap.size by have := cell_lt p0; omega)
            have HBB1 := Lib.hid (Below.refl W8.heap.size W8).drew
            have HBB2 := Lib.hid (below_lit (Below.refl W8.heap.size W8) (.cells #[.int .i64 0, .string ⟨#[]⟩, .int .i64 0, .int .i64 0, .bool false, .int .i64 0, .int .i64 0] 39)).drew
            have HF8 := Lib.hid hf8
            have HB8 := Lib.hid hb8
            clear hallD hallX hallXD hall hf8 hb8
            go_upto_region 15 with fail
            go_cut [18, 19] (fun p q wx => FRel W8.heap.size W8 d p q wx)
            case first =>
              go_region_held3 (fun w' => w'.heap[w.heap.size]? = some (.cells #[.slice (some ad) s.M.length q1, .slice A2 s.E.length q2] 29 (0, 0)) ∧ w'.cell? ⟨w.heap.size, 0, none⟩ = some (.slice (some ad) s.M.length q1) ∧ w'.cell? ⟨w.heap.size, 1, none⟩ = some (.slice A2 s.E.length q2) ∧ w'.cell? ⟨(ad.add (k * 2)).block, (ad.add (k * 2)).off + 1, none⟩ = some (.slice (some ad2) md.F.length cF) ∧ w'.cell? (ad2.add (j * 7)) = some (.int .i64 d.no))
                (first | with_reducible exact HA.out | with_reducible exact HAD.out | with_reducible exact HAX.out | with_reducible exact HAXD.out | with_reducible exact hk9 | with_reducible exact hk10 | with_reducible exact hk8)
                ((first
                  | (go_at_call 19; refine (HF2.out _ (by first | with_reducible exact HBW8.out.drew | with_reducible exact (below_lit HBW8.out _).drew)).mono ?_; rintro e w9 ⟨rfl, hb9⟩; (first
                    | (have z9 := zedD hb9; obtain ⟨⟨z90, z91, z92, z93, z94, z95, z96⟩, y90, y91, y92, y93, y94, y95, y96⟩ := zed_df z9; have hk9 := four_below hb9 HAXD.out; have hk10 := four_seven hk9 HNG.out HNP.out HNQ.out (.int .i64 d.no) (.string (txt d.name)) (.int .i64 d.kind) (.int .i64 d.ref) (.bool d.rep) (.int .i64 d.key) (.int .i64 d.one); have hf10 := heap_seven_same z9 (.int .i64 d.no) (.string (txt d.name)) (.int .i64 d.kind) (.int .i64 d.ref) (.bool d.rep) (.int .i64 d.key) (.int .i64 d.one); have hb10 := below_seven (below_then HBB2.out hb9) (Nat.le_refl _) (.int .i64 d.no) (.string (txt d.name)) (.int .i64 d.kind) (.int .i64 d.ref) (.bool d.rep) (.int .i64 d.key) (.int .i64 d.one); clear z9)
                    | (have hk9 := four_below hb9 HAD.out; have hk8 := four_below (below_new w9 (.cells #[.int .i64 0, .string ⟨#[]⟩, .int .i64 0, .int .i64 0, .bool false, .int .i64 0, .int .i64 0] 39)) hk9; have hk10 := four_below (below_new w9 (.cells #[.int .i64 d.no, .string (txt d.name), .int .i64 d.kind, .int .i64 d.ref, .bool d.rep, .int .i64 d.key, .int .i64 d.one] 39)) hk9; have hf10 := heap_alloc_new w9 (.cells #[.int .i64 d.no, .string (txt d.name), .int .i64 d.kind, .int .i64 d.ref, .bool d.rep, .int .i64 d.key, .int .i64 d.one] 39); have hb10 := below_lit (below_then HBB1.out hb9) (.cells #[.int .i64 d.no, .string (txt d.name), .int .i64 d.kind, .int .i64 d.ref, .bool d.rep, .int .i64 d.key, .int .i64 d.one] 39))))))
              all_goals
                go_wp2_with fail
                go_meet
                case rel => exact ⟨_, rfl, rfl, hf10, hb10⟩
            case rest =>
            obtain ⟨B10, rfl, rfl, hf10, hb10⟩ := hcut
            obtain ⟨W10, rfl⟩ : ∃ W, W = wc := ⟨_, rfl⟩
            have HB10 := Lib.hid (HB8.out.trans (hb10.mono HB8.out.size))
            have hf8 := (hb10.block B8 (Array.getElem?_eq_some_iff.1 HF8.out).1).trans HF8.out
            have f80 := heap_cell hf8 0
            have f81 := heap_cell hf8 1
            have f82 := heap_cell hf8 2
            have f83 := heap_cell hf8 3
            have f84 := heap_cell hf8 4
            have f85 := heap_cell hf8 5
            have f86 := heap_cell hf8 6
            have g80 := heap_cell hf10 0
            have g81 := heap_cell hf10 1
            have g82 := heap_cell hf10 2
            have g83 := heap_cell hf10 3
            have g84 := heap_cell hf10 4
            have g85 := heap_cell hf10 5
            have g86 := heap_cell hf10 6
            simp at f80 f81 f82 f83 f84 f85 f86 g80 g81 g82 g83 g84 g85 g86
            have v0 := (HB10.out.cell (cell_lt u0)).trans u0
            have e1 := (HB10.out.cell (cell_lt HC1W.out)).trans HC1W.out
            have p0 := (HB10.out.cell (cell_lt HQS.out.1)).trans HQS.out.1
            have p1 := (HB10.out.cell (cell_lt HQS.out.2.1)).trans HQS.out.2.1
            have p2 := (HB10.out.cell (cell_lt HQS.out.2.2.1)).trans HQS.out.2.2.1
            have p3 := (HB10.out.cell (cell_lt HQS.out.2.2.2.1)).trans HQS.out.2.2.2.1
            have p4 := (HB10.out.cell (cell_lt HQS.out.2.2.2.2.1)).trans HQS.out.2.2.2.2.1
            have p5 := (HB10.out.cell (cell_lt HQS.out.2.2.2.2.2.1)).trans HQS.out.2.2.2.2.2.1
            have p6 := (HB10.out.cell (cell_lt HQS.out.2.2.2.2.2.2)).trans HQS.out.2.2.2.2.2.2
            clear hf10 hf8 hb10 hx v1 HA HAD HAX HAXD HNG HNP HNQ HBB1 HBB2
            go_wp2_with fail
            clear HFA HS1 HMA HL HIN HFW HB5 HC1 HC2 HBW6 HO1 HO2 HMM HMY HBY HFD HQS HC1W HFF HF1 HF2 HBW8 HF8 HB8 u0 c1 HSF HMD HX6 HC0 HU1 HBB HPS b1 b2
            go_quiet (fail)
            go_wp2
            go_roundg (md.F.length - (j + 1))
            case measure => have := HGK.out; omega
            case rel => exact ⟨j + 1, by go_num, by omega, rfl, below_draws HB10.out _⟩
          · obtain rfl : j = md.F.length := by omega
            have m0' := (hb.cell (cell_lt HC0.out)).trans HC0.out
            have hall := four_below (p := ad.add (k * 2)) (q := ⟨w.heap.size, 0, none⟩) (Below.refl wr.heap.size wr) ⟨hx, v0, v1, m0', v0⟩
            have hallD : (wr.drew).heap[w.heap.size]? = some (.cells #[.slice (some ad) s.M.length q1, .slice A2 s.E.length q2] 29 (0, 0)) ∧ (wr.drew).cell? ⟨w.heap.size, 0, none⟩ = some (.slice (some ad) s.M.length q1) ∧ (wr.drew).cell? ⟨w.heap.size, 1, none⟩ = some (.slice A2 s.E.length q2) ∧ (wr.drew).cell? (ad.add (k * 2)) = some (.string (txt md.name)) ∧ (wr.drew).cell? ⟨w.heap.size, 0, none⟩ = some (.slice (some ad) s.M.length q1) := hall
            have HA := Lib.hid hall
            have HAD := Lib.hid hallD
            have HR := Lib.hid (fun wx (hx : Below w.heap.size w wx) => root_any w.heap.size s (.slice (some ad) s.M.length q1) (.slice A2 s.E.length q2) md.name wx hx.size (HFA.out.low (Low.below hx (Nat.le_refl _))))
            rw [root_may HMM.out HMD.out] at HR
            simp only [Option.getD_some, Option.isSome_some] at HR
            clear hall hallD c1 hb
            go_upto_region 18 with fail
            go_region_held3 (fun w' => w'.heap[w.heap.size]? = some (.cells #[.slice (some ad) s.M.length q1, .slice A2 s.E.length q2] 29 (0, 0)) ∧ w'.cell? ⟨w.heap.size, 0, none⟩ = some (.slice (some ad) s.M.length q1) ∧ w'.cell? ⟨w.heap.size, 1, none⟩ = some (.slice A2 s.E.length q2) ∧ w'.cell? (ad.add (k * 2)) = some (.string (txt md.name)) ∧ w'.cell? ⟨w.heap.size, 0, none⟩ = some (.slice (some ad) s.M.length q1))
              (first | with_reducible exact HA.out | with_reducible exact HAD.out | with_reducible exact hk9)
              ((first
                | (go_at_call 21; refine (HR.out _ (by with_reducible exact HBW.out.drew)).mono ?_; rintro e w9 ⟨rfl, hb9⟩; have hk9 := four_below hb9 HAD.out)))
            go_wp2
            go_ret
            exact ⟨by simp, below_then HBW.out.drew hb9⟩
      · have HN := Lib.hid hm
        obtain ⟨c1, hc1⟩ : ∃ c, decide (m < 0) = c := ⟨_, rfl⟩
        have HG : Hid (c1 = false → decide ((s.M.length : Int) ≤ m) = true) := Lib.hid (fun h => by subst hc1; rw [decide_eq_false_iff_not] at h; rw [decide_eq_true_eq]; omega)
        clear hm
        cases c1 with
        | true =>
          go_wp2
          go_ret
          exact ⟨rfl, HBW6.out⟩
        | false =>
          have h2 := HG.out rfl
          go_wp2
          go_ret
          exact ⟨rfl, HBW6.out⟩

theorem contract (H : Type) (enc : TypeId × Value → H) (W : World) (base : Nat) (args : Array Value) (ds gs : List (DataW H)) (before : List MemPlace)
    (hval0 : ∀ (j : Nat) t v, Tryz.f7.params[j]? = some t → args[j]? = some v → Value.okWide Tryz.prog W .any base t v)
    (hW : DataW.Whole enc Tryz.prog Tryz.f7.params.toList Rows.tableFindsSpec.vars false W args.toList ds gs before) (hsz : (DataW.weightsEach Tryz.prog (Tryz.f7.params.toList ++ (OpenSpec.ofChange Rows.tableFindsSpec).bare.plain.varTypes Tryz.prog) (ds ++ gs)).all (· ≤ reachBytes) = true) (hL : laidMetH Tryz.prog Rows.tableFindsRow.laid W) :
    Calls Tryz.prog 7 args W fun e W2 => ∃ v, e = .returned v ∧ Rows.tableFindsSpec.post enc Tryz.prog Tryz.f7 false true false false W args v W2 := by
  have hval : ∀ (j : Nat) t v, Tryz.f7.params[j]? = some t → args[j]? = some v → Value.okWide Tryz.prog W .any base t v := hval0
  have T := laid_of hL
  have hW2 := hW
  obtain ⟨p, q, hA0, hV, rfl, hfz, hnd⟩ := hW
  have hA : DataW.TrodAll enc Tryz.prog W 0 (fun _ => true) true Tryz.f7.params.toList args.toList ds p := hA0
  rw [Tryz.params7] at hA hval
  obtain ⟨v0, vs0, d0, ds0, p0, q0, hargs, rfl, rfl, h0, r0⟩ := trodAll_cons hA
  obtain ⟨v1, vs1, d1, ds1, p1, q1, rfl, rfl, rfl, h1, r1⟩ := trodAll_cons r0
  obtain ⟨v2, vs2, d2, ds2, p2, q2, rfl, rfl, rfl, h2, r2⟩ := trodAll_cons r1
  obtain ⟨v3, vs3, d3, ds3, p3, q3, rfl, rfl, rfl, h3, r3⟩ := trodAll_cons r2
  obtain ⟨rfl, rfl, rfl⟩ := trodAll_nil r3
  obtain rfl : args = #[v0, v1, v2, v3] := by cases args; simp_all
  obtain ⟨rfl, rfl⟩ := trodVars_none hV
  obtain ⟨sc0, vM0, vE0, rfl, fa0, fi0⟩ := open_schema (hval 0 29 v0 rfl rfl) h0
  obtain ⟨i1, rfl, b1, c1⟩ := open_i64 (hval 1 3 v1 rfl rfl) h1
  obtain ⟨s2, rfl, rfl, rfl, b2⟩ := Go.ChangeMaps.open_string Tryz.underlying9 (hval 2 9 v2 rfl rfl) h2
  obtain ⟨i3, rfl, b3, c3⟩ := open_i64 (hval 3 3 v3 rfl rfl) h3
  refine (walk W T sc0 vM0 vE0 fa0 fi0 i1 b1 c1 s2 b2 i3 b3 c3).mono fun e W2 ⟨he, hb⟩ => ?_
  subst he
  exact ⟨_, rfl, law_post (by kernel_rfl) rfl rfl (by decide +kernel) hW2 hb⟩
theorem laid_met (os : Os) : laidMetH Tryz.prog Rows.tableFindsRow.laid ((World.laidAll Tryz.prog os Rows.tableFindsRow.laid).forCall (fun _ _ => 0) ⟨#[], #[.agg #[.slice none 0 0, .slice none 0 0], .int .i64 0, .string .empty, .int .i64 0], []⟩).memory := by
  rw [MakeChecks.laidMetH_plain _ _ _ (by kernel_rfl)]
  exact laidMet_laidAll _ (by kernel_rfl) (by kernel_rfl)
theorem reads (os : Os) {H : Type} (enc : TypeId × Value → H) : ∃ places, DataW.whole enc Tryz.prog ((World.laidAll Tryz.prog os Rows.tableFindsRow.laid).forCall (fun _ _ => 0) ⟨#[], #[.agg #[.slice none 0 0, .slice none 0 0], .int .i64 0, .string .empty, .int .i64 0], []⟩).memory Tryz.f7.params.toList Rows.tableFindsSpec.vars false (#[.agg #[.slice none 0 0, .slice none 0 0], .int .i64 0, .string .empty, .int .i64 0] : Array Value).toList 8 = some ([.agg [.nil, .nil], .lit (.int .i64 0), .lit (.string []), .lit (.int .i64 0)], [], places) := ⟨[], by kernel_rfl⟩
set_option maxRecDepth 100000 in
theorem lifted (os : Os) (started : os.Started) (H : Type) (enc : TypeId × Value → H) (F : Stop.Interp) :
    ReturnsInHanded {} Tryz.checked os 7 .any ((OpenSpec.ofChange Rows.tableFindsSpec).preRow enc Tryz.prog Tryz.f7 Rows.tableFindsRow.domain false Rows.tableFindsRow.laid) (((OpenSpec.ofChange Rows.tableFindsSpec).at F).post enc Tryz.prog Tryz.f7 false true false false) := by
  obtain ⟨places, hx⟩ := reads os enc
  refine returnsInHanded_of_row (C := Tryz.checked) (s := OpenSpec.ofChange Rows.tableFindsSpec) own started (by kernel_rfl) Tryz.func7
    (witness_row_at (enc := enc) (C := Tryz.checked) false (World.laidAll Tryz.prog os Rows.tableFindsRow.laid) #[.agg #[.slice none 0 0, .slice none 0 0], .int .i64 0, .string .empty, .int .i64 0] (World.laidAll_os _ _ _) (by kernel_rfl) (by kernel_rfl) (by kernel_rfl)
      (OpenSpec.preRow_of_cond 8 hx (by kernel_rfl) (fun k hk => by cases hk) (by kernel_rfl) (laid_met os))) ?_
  intro W base args ds gs before hval hW _ _ hsz hL _ _
  exact contract H enc W base args ds gs before hval hW hsz hL
theorem said : Rows.TableFindsSaid :=
  OpenClaim.holds_of_cond 7 Tryz.f7 rfl rfl rfl rfl rfl rfl rfl ⟨rfl, rfl, rfl, rfl, rfl⟩ rfl rfl rfl rfl rfl (by kernel_rfl) Tryz.func7 (by kernel_rfl)
    (of_decide_eq_true (by kernel_rfl)) (by unfold Func.isWrapper; first | (rw [if_pos (by decide +kernel)]; kernel_rfl) | (rw [if_neg (by decide +kernel)]; exact ⟨rfl, rfl⟩))
    (fun os started H enc _ F => by rw [OpenClaim.pre_eq_preRow]; exact lifted os started H enc F)
theorem plain (f : FuncId) (fn : Func) (hf : Tryz.pinned.checked.prog.funcNamed "truffle/trufflelaw08.TableFinds" = some f) (hfn : Tryz.pinned.checked.prog.funcs[f]? = some fn) :
    true = Tryz.pinned.checked.prog.looks [] ∧ ∀ (j : Nat) t, fn.params[j]? = some t → Tryz.pinned.checked.prog.wantsStandIn t = false := by
  obtain rfl : f = 7 := Option.some.inj ((show Tryz.prog.funcNamed "truffle/trufflelaw08.TableFinds" = some 7 by kernel_rfl).symm.trans hf) |>.symm
  obtain rfl : fn = Tryz.f7 := (Option.some.inj (Tryz.func7.symm.trans hfn)).symm
  refine ⟨by kernel_rfl, fun j t ht => ?_⟩
  have hall : (Tryz.f7.params.toList.all fun t => !Tryz.prog.wantsStandIn t) = true := by kernel_rfl
  have := List.all_eq_true.1 hall t (Array.mem_toList_iff.2 (Array.mem_of_getElem? ht))
  exact (show Tryz.prog.wantsStandIn t = false by simpa using this)
theorem proved : Rows.TableFindsCardSaid :=
  Claim7.holds_tied_plain_at .later [] _ _ _ _ said (fun _ h => by cases h) (by kernel_rfl) (fun _ h => by cases h) tableFinds_row_tie rfl ⟨rfl, rfl⟩ (by kernel_rfl) rfl plain (by kernel_rfl)
end Go.Proofs.YtciiemomfniecaaGreatDoor.lawTableFinds
