/-
  The statement SexpBack's own body, for every node.
-/
import Derived.Test.YtceomdbahiimlaaDoorSexAw
import Derived.Test.YtceomdbahiimlaaDoorSexBack
import Derived.Test.YtceomdbahiimlaaDoorSexSame
import Derived.Test.YtceomdbahiimlaaDoorSexCnt
namespace Go.Proofs.YtceomdbahiimlaaDoor.T14
set_option maxRecDepth 100000

open Go.RowKit

set_option maxRecDepth 1000000 in
set_option maxHeartbeats 4000000 in
theorem sbWalk (w : World) (LV : Laid w) (x : Nd) (u : Value) (D : Nat) (hx : NAt (Rd w.heap.size w) D x [.int .i64 x.kind, .string (tx x.text), .int .i64 x.num, .int .i64 x.at_, u]) (hsm : Sm maxLen x) :
    Calls Tryd.prog 4 #[.agg #[.int .i64 x.kind, .string (tx x.text), .int .i64 x.num, .int .i64 x.at_, u]] w fun e w' => e = .returned (.bool true) ∧ Below w.heap.size w w' := by
  obtain ⟨A, c, rfl⟩ := NAt.shape hx
  have hb0 := below_new w (.cells #[.int .i64 x.kind, .string (tx x.text), .int .i64 x.num, .int .i64 x.at_, .slice A x.l.length c] 24)
  have HBX := Lib.hid (heap_alloc_new w (.cells #[.int .i64 x.kind, .string (tx x.text), .int .i64 x.num, .int .i64 x.at_, .slice A x.l.length c] 24))
  have HF := Lib.hid (fun W (h : Below w.heap.size w W) => few14_any D x _ W (NRd.mono h.size (NRd.low (Lo.below h (Nat.le_refl _)) hx)) hsm)
  have HAW := Lib.hid (awake14_any _ (LV.on hb0))
  have HX := Lib.hid hx
  have HB0 := Lib.hid hb0
  clear hx hsm hb0
  go_enter Tryd.func4, Tryd.ntmps4
  go_wp2_with fail
  refine HAW.out.mono ?_
  rintro e w1 ⟨rfl, hb1⟩
  have hb2 := below_then HB0.out hb1
  obtain ⟨n0, n1, n2, n3, n4⟩ := five_cells ((hb1.block _ (box_lt HBX.out)).trans HBX.out)
  have HB2 := Lib.hid (And.intro hb2 hb1)
  clear hb1 hb2
  go_wp2_with fail
  refine (HF.out _ HB2.out.1).mono ?_
  rintro e w2 ⟨b, rfl, hb, hb3⟩
  have hb4 := below_then HB2.out.1 hb3
  cases b with
  | false =>
    go_wp2
    go_ret
    exact ⟨rfl, hb4⟩
  | true =>
    obtain ⟨hw, hd⟩ := hb rfl
    have hx40 := nat_dp 40 D x _ hd HX.out
    have hsm := wt_sm (by decide) x hw
    have hst := str_wt x
    have hst1 : x.str.length ≤ 1000000 := by omega
    have hst2 : x.str.length ≤ 100000000000 := by omega
    have hB5 := below_then HB2.out.2 hb3
    clear n0 n1 n2 n3 n4
    obtain ⟨n0, n1, n2, n3, n4⟩ := five_cells ((hB5.block _ (box_lt HBX.out)).trans HBX.out)
    have HPR := Lib.hid (print14_any 40 x _ w2 (by decide) (NRd.mono hb4.size (NRd.low (Lo.below hb4 (Nat.le_refl _)) hx40)) hsm hst2 (LV.on hb4))
    have HMY := Lib.hid (fun W (h : Below w2.heap.size w2 W) => may14_any 40 x _ W (by decide) (NRd.mono (below_then hb4 h).size (NRd.low (Lo.below (below_then hb4 h) (Nat.le_refl _)) hx40)) hsm (LV.on (below_then hb4 h)))
    have H4 := Lib.hid (And.intro hb4 (And.intro hB5 hx40))
    by_cases hm : mayB Lib.itoa x = true
    · have hb14 := back14 (it := Lib.itoa) hm
      have hstr : printB Lib.itoa x = x.str := by rw [printB, if_pos hm]
      have hpar := fun W L => parse14_rd (tx x.str) (by rw [size_tx]; exact hst1) W L
      have hts : (tx x.str).size = x.str.length := size_tx _
      have hpm := par_may (it := Lib.itoa) (L := x.str)
      have hps := par_small (it := Lib.itoa) x.str
      have hun := str_un (parR Lib.itoa x.str).1
      have hux := str_un x
      rw [tx_list] at hpar
      rw [hstr] at HPR
      rw [hm] at HMY
      clear hw hd hsm hst hst1 hb hm hB5 hb4 hx40 hb3 hstr
      rcases hb14 with ⟨a1, -, a3⟩ | ⟨b1, b2, b3⟩
      · have d1 : decide ((1000 : Int) < ((tx x.str).size : Int)) = true := by rw [decide_eq_true_eq, hts]; omega
        have d2 : decide ((1000 : Int) < (x.str.length : Int)) = true := by rw [decide_eq_true_eq]; omega
        have d3 : decide (1000 < x.str.length) = true := by rw [decide_eq_true_eq]; omega
        rw [a1] at hpar
        generalize (parR Lib.itoa x.str).1 = y at *
        generalize (parR Lib.itoa x.str).2.1 = pl at *
        generalize x.str = S at *
        have HP := Lib.hid hpar
        clear hpar hpm hps hun hux a1 a3
        go_wp2_with fail
        refine HPR.out.mono ?_
        rintro e w5 ⟨rfl, hb5⟩
        have hB6 := below_then H4.out.2.1 hb5
        obtain ⟨m0, m1, m2, m3, m4⟩ := five_cells ((hB6.block _ (box_lt HBX.out)).trans HBX.out)
        have H5 := Lib.hid hb5
        clear hb5 hB6 n0 n1 n2 n3 n4
        go_wp2_with fail
        refine (HMY.out _ H5.out).mono ?_
        rintro e w7 ⟨rfl, hb7⟩
        have H7 := Lib.hid (below_then H5.out hb7)
        clear hb7
        go_wp2_with fail
        refine (HP.out _ (LV.on (below_then H4.out.1 H7.out))).mono ?_
        rintro e w8 ⟨g, rfl, hy, hb8⟩
        obtain ⟨A2, c2, rfl⟩ := NAt.shape hy
        have H8 := Lib.hid (below_lit (below_then H7.out hb8) (.cells #[.int .i64 y.kind, .string (tx y.text), .int .i64 y.num, .int .i64 y.at_, .slice A2 y.l.length c2] 24))
        clear hy hb8
        go_wp2
        go_ret
        exact ⟨rfl, below_then H4.out.1 H8.out⟩
      · have hmy := hpm b1
        rw [b1, b2, ← hts] at hpar
        have hys : (parR Lib.itoa x.str).1.str = x.str := by rw [← hun, b3, hux]
        have hpy : printB Lib.itoa (parR Lib.itoa x.str).1 = x.str := by rw [printB, if_pos hmy, hys]
        generalize (parR Lib.itoa x.str).1 = y at *
        rw [← hys] at hst2
        have HP := Lib.hid hpar
        have HS := Lib.hid (fun (g : Value) (w5 W : World) (h : Below w2.heap.size w2 W) (h5 : Below w5.heap.size w5 W) (hy : NAt (Rd w5.heap.size w5) 17 y [.int .i64 y.kind, .string (tx y.text), .int .i64 y.num, .int .i64 y.at_, g]) => same14_any W.heap.size 40 y x g _ W (Nat.le_refl _) (NAt.more (by decide) _ _ (NRd.mono h5.size (NRd.low (Lo.below h5 (Nat.le_refl _)) hy))) (NRd.mono (below_then H4.out.1 h).size (NRd.low (Lo.below (below_then H4.out.1 h) (Nat.le_refl _)) H4.out.2.2)))
        rw [eqC_yes b3] at HS
        have HPY := Lib.hid (fun (g : Value) (w5 W : World) (h : Below w2.heap.size w2 W) (h5 : Below w5.heap.size w5 W) (hy : NAt (Rd w5.heap.size w5) 17 y [.int .i64 y.kind, .string (tx y.text), .int .i64 y.num, .int .i64 y.at_, g]) => print14_any 17 y g W (by decide) (NRd.mono h5.size (NRd.low (Lo.below h5 (Nat.le_refl _)) hy)) (hps.mono (by decide)) hst2 (LV.on (below_then H4.out.1 h)))
        rw [hpy] at HPY
        generalize x.str = S at *
        clear hpar hpm hps hun hux b1 b2 b3 hmy hys hpy hst2
        go_wp2_with fail
        refine HPR.out.mono ?_
        rintro e w5 ⟨rfl, hb5⟩
        have hB6 := below_then H4.out.2.1 hb5
        obtain ⟨m0, m1, m2, m3, m4⟩ := five_cells ((hB6.block _ (box_lt HBX.out)).trans HBX.out)
        have H5 := Lib.hid hb5
        clear hb5 hB6 n0 n1 n2 n3 n4
        go_wp2_with fail
        refine (HMY.out _ H5.out).mono ?_
        rintro e w7 ⟨rfl, hb7⟩
        have H7 := Lib.hid (below_then H5.out hb7)
        clear hb7 m0 m1 m2 m3 m4
        go_wp2_with fail
        refine (HP.out _ (LV.on (below_then H4.out.1 H7.out))).mono ?_
        rintro e w8 ⟨g, rfl, hy, hb8⟩
        obtain ⟨A2, c2, rfl⟩ := NAt.shape hy
        have hbn := below_new w8 (.cells #[.int .i64 y.kind, .string (tx y.text), .int .i64 y.num, .int .i64 y.at_, .slice A2 y.l.length c2] 24)
        have hB8 := below_then (below_then H7.out hb8) hbn
        obtain ⟨m0, m1, m2, m3, m4⟩ := five_cells (((below_then H4.out.2.1 hB8).block _ (box_lt HBX.out)).trans HBX.out)
        have hXY := heap_alloc_new w8 (.cells #[.int .i64 y.kind, .string (tx y.text), .int .i64 y.num, .int .i64 y.at_, .slice A2 y.l.length c2] 24)
        obtain ⟨q0, q1, q2, q3, q4⟩ := five_cells hXY
        have HS5 := Lib.hid (HS.out _ w8 _ hB8 hbn hy)
        have HXY := Lib.hid hXY
        have HPP := Lib.hid (fun W h5 => HPY.out _ w8 W (below_then hB8 h5) (below_then hbn h5) hy)
        have H8 := Lib.hid hB8
        clear hy hb8 hbn hB8 hXY HS HPY
        go_wp2_with (first
          | (go_at_call 18; refine HS5.out.mono ?_; rintro e w9 ⟨rfl, hb9⟩; obtain ⟨r0, r1, r2, r3, r4⟩ := five_cells ((hb9.block _ (box_lt HXY.out)).trans HXY.out))
          | (go_at_call 16; refine (HPP.out _ hb9).mono ?_; rintro e w11 ⟨rfl, hb11⟩))
        go_ret
        exact ⟨rfl, below_then H4.out.1 (below_then (below_then H8.out hb9) hb11)⟩
    · have hm : mayB Lib.itoa x = false := by simpa using hm
      have hstr : printB Lib.itoa x = [] := by rw [printB, hm]; rfl
      rw [hstr] at HPR
      rw [hm] at HMY
      have d5 : (tx []).toList.isEmpty = true := by rw [Lib.toList_data]; rfl
      clear hw hd hsm hst hst1 hst2 hb hm hB5 hb4 hx40 hb3 hstr
      go_wp2_with fail
      refine HPR.out.mono ?_
      rintro e w5 ⟨rfl, hb5⟩
      have hB6 := below_then H4.out.2.1 hb5
      obtain ⟨m0, m1, m2, m3, m4⟩ := five_cells ((hB6.block _ (box_lt HBX.out)).trans HBX.out)
      have H5 := Lib.hid hb5
      clear hb5 hB6
      go_wp2_with (go_at_call 14; refine (HMY.out _ H5.out).mono ?_; rintro e w7 ⟨rfl, hb7⟩)
      go_ret
      exact ⟨rfl, below_then H4.out.1 (below_then H5.out hb7)⟩
end Go.Proofs.YtceomdbahiimlaaDoor.T14
