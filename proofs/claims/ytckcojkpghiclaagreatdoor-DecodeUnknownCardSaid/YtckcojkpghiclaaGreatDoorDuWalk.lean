/-
 Records of numbers that no field has change nothing, wherever they stand between records: the walk.
-/
import Derived.Test.YtckcojkpghiclaaGreatDoorDuMath
import Derived.Test.YtckcojkpghiclaaGreatDoorTrRsame
import Derived.Test.YtckcojkpghiclaaGreatDoorEncPut
import Derived.Test.YtckcojkpghiclaaGreatDoorUtfFine
import Derived.Test.YtckcojkpghiclaaGreatDoorEncVal
namespace Go.Proofs.YtckcojkpghiclaaGreatDoor.T11.lawDecodeUnknown
set_option maxRecDepth 100000
open Go.ChangeShapes Go.WideShapes Go.ChangeAt Go.RowKit
open Go.Proofs.YtckcojkpghiclaaGreatDoor.T9 Go.Proofs.YtckcojkpghiclaaGreatDoor.T4 Go.Proofs.YtckcojkpghiclaaGreatDoor.T12 Go.Proofs.YtckcojkpghiclaaGreatDoor.T11
theorem sl_first {w : World} {A : Option Addr} {n c : Nat} {xs : List Value} (h : Sl w A n c 1 xs) {k : Nat} (hk : k ≤ n) : Sl w A k c 1 (xs.take k) := by
 have hl := h.len
 have hle := h.le
 refine ⟨by rw [List.length_take]; omega, by omega, h.cap, h.nil, fun ad ha h0 => h.old ad ha (by omega), fun ad ha j u hu => h.cell ad ha j u ?_⟩
 rw [List.getElem?_take] at hu
 split at hu
 ·exact hu
 ·cases hu
theorem recL_len {no wire : Int} {num : Nat} {run : List UInt8} (hn : num < 18446744073709551616) (hr : run.length ≤ 1000) : (recL no wire num run).length ≤ 2000 := by
 have h5 := putL_le5 (no := no) (wire := wire)
 have h1 := vput_len10 hn
 have h2 := vput_len10 (n := run.length) (by omega)
 unfold recL
 split
 ·rw [List.length_append]
  unfold restL
  split
  ·rw [List.length_append]; omega
  ·split
   ·rw [fixb_length]; omega
   ·split
    ·rw [fixb_length]; omega
    ·omega
 ·simp
theorem putB_nat {no wire : Int} (h : putB no wire = true) : ∃ a b : Nat, no = a ∧ wire = b := by
 have := putB_iff.1 h
 exact ⟨no.toNat, wire.toNat, by omega, by omega⟩
set_option maxRecDepth 1000000 in
set_option maxHeartbeats 8000000 in
theorem walk (w : World) (T : Tabs w ∧ Wires w) (s : Sc) (vM vE : Value) (hs0 : SAt w.heap.size w s vM vE) (hin : ScIn s) (m : Int) (hm1 : -9223372036854775808 ≤ m) (hm2 : m ≤ 9223372036854775807)
  (A : Option Addr) (c : Nat) (l : List UInt8) (hr : SlB w A c l) (no wire : Int) (num : Nat) (f u : Int) (hrec : RecOk no wire num f u) (A' : Option Addr) (c' : Nat) (run : List UInt8) (hr' : SlB w A' c' run) (hrs : run.length ≤ 140737488351232) (n : Int) (hn1 : -9223372036854775808 ≤ n) (hn2 : n ≤ 9223372036854775807) :
  Calls Tryz.prog 5 #[.agg #[vM, vE], .int .i64 m, .slice A l.length c, .agg #[.int .i64 no, .int .i64 wire, .int .u64 num, .int .i64 f, .int .i64 u], .slice A' run.length c', .int .i64 n] w fun e w' => e = .returned (.bool true) ∧ Below w.heap.size w w' := by
 obtain ⟨i0, hi, hz0, hz1, hz2⟩ := info_parts info_u8
 obtain ⟨A1, q1, A2, q2, rfl, rfl⟩ := sat_shape hs0
 obtain ⟨⟨ra1, ra2⟩, ⟨rb1, rb2⟩, hnum, -, -⟩ := hrec
 have X1 := heap_alloc_new w (.cells #[.slice A1 s.M.length q1, .slice A2 s.E.length q2] 25)
 have L1 := below_new w (.cells #[.slice A1 s.M.length q1, .slice A2 s.E.length q2] 25)
 have L2 := below_new (w.alloc (.cells #[.slice A1 s.M.length q1, .slice A2 s.E.length q2] 25)) (.cells #[.int .i64 no, .int .i64 wire, .int .u64 num, .int .i64 f, .int .i64 u] 41)
 have X2 := heap_alloc_new (w.alloc (.cells #[.slice A1 s.M.length q1, .slice A2 s.E.length q2] 25)) (.cells #[.int .i64 no, .int .i64 wire, .int .u64 num, .int .i64 f, .int .i64 u] 41)
 have X1 := box_on X1 L2
 have LBD := below_then L1 L2
 rw [show (w.alloc (.cells #[.slice A1 s.M.length q1, .slice A2 s.E.length q2] 25)).heap.size = w.heap.size + 1 by simp] at X2
 have HS := Lib.hid (fun wx (h : Below w.heap.size w wx) => sat_up hs0 h)
 have HDC := Lib.hid (fun (A : Option Addr) (c n z : Nat) (X : Mg) (l : List UInt8) wx (h : Below w.heap.size w wx) (hn : l.length = n) (hz : codeE (toldE s m l) = z) (hX : msgE (toldE s m l) = X) (hr : SlB wx A c l) (hl : n ≤ 10000) => dec_both _ _ m A c n z X l wx hn hz hX hl (sat_up hs0 h) hin hr (T.2.on h) (T.1.on h))
 have HT := Lib.hid T
 have HR := Lib.hid (fun wx (h : Below w.heap.size w wx) => And.intro (hr.on h) (hr'.on h))
 have HBY := Lib.hid (fun wx (h : Below w.heap.size w wx) => rBy_any wx.heap.size s _ _ m no wx (Nat.le_refl _) (sat_up hs0 h))
 clear hs0 T hr hr' hm1 hm2 L1 L2
 have HAW := Lib.hid (awake11_any _ (HT.out.1.on LBD) (HT.out.2.on LBD))
 have HX1 := Lib.hid (And.intro X1 (And.intro X2 LBD))
 clear X1 X2 LBD
 go_enter Tryz.func5, Tryz.ntmps5
 go_wp2_with fail
 refine HAW.out.mono ?_
 rintro e w1 ⟨rfl, hb1⟩
 have hb01 := below_then HX1.out.2.2 hb1
 have Y1 := box_on HX1.out.1 hb1
 have Y2 := box_on HX1.out.2.1 hb1
 clear hb1 HAW HX1
 obtain ⟨y1, y2⟩ := box2' Y1
 go_wp2_with fail
 refine (fews_any _ s _ _ w1 (Nat.le_refl _) (HS.out _ hb01)).mono ?_
 rintro e w2 ⟨rfl, hb2⟩
 have hb02 := below_then hb01 hb2
 have Y1 := box_on Y1 hb2
 have Y2 := box_on Y2 hb2
 clear hb2 y1 y2 hb01
 obtain ⟨fw, hfw⟩ : ∃ b, fewS s = b := ⟨_, rfl⟩
 rw [hfw]
 clear hfw
 have z0 := heap_cell Y2 0
 have z1 := heap_cell Y2 1
 have z2 := heap_cell Y2 2
 have z3 := heap_cell Y2 3
 have z4 := heap_cell Y2 4
 simp only [List.getElem?_toArray, List.getElem?_cons_zero, List.getElem?_cons_succ] at z0 z1 z2 z3 z4
 have HPUT := Lib.hid (rcputB_any no wire num f u A' c' run ra1 ra2 rb1 rb2 hnum hrs w2 (HR.out _ hb02).2 (HT.out.2.on hb02))
 unfold ZV at HPUT
 go_wp2_with fail
 refine HPUT.out.mono ?_
 rintro e w3 ⟨Ap, cp, rfl, hsp, -, hb3⟩
 have hb03 := below_then hb02 hb3
 have Y1 := box_on Y1 hb3
 have Y2 := box_on Y2 hb3
 obtain ⟨y1, y2⟩ := box2' Y1
 have k0 := heap_cell Y2 0
 simp only [List.getElem?_toArray, List.getElem?_cons_zero] at k0
 obtain ⟨pb, hpb⟩ : ∃ b, putB no wire = b := ⟨_, rfl⟩
 rw [hpb]
 clear z0 z1 z2 z3 z4 HPUT hb3 hb02
 cases fw with
 | false =>
  go_wp2
  go_ret
  exact ⟨rfl, hb03⟩
 | true =>
 cases pb with
 | false =>
  go_wp2
  go_ret
  exact ⟨rfl, hb03⟩
 | true =>
 by_cases hl : l.length ≤ 1000
 case neg =>
  have d1 : decide ((1000 : Int) < (l.length : Int)) = true := by simp; omega
  go_wp2
  go_ret
  exact ⟨rfl, hb03⟩
 have d1 : decide ((1000 : Int) < (l.length : Int)) = false := by simp; omega
 by_cases hl' : run.length ≤ 1000
 case neg =>
  have d2 : decide ((1000 : Int) < (run.length : Int)) = true := by simp; omega
  go_wp2
  go_ret
  exact ⟨rfl, hb03⟩
 have d2 : decide ((1000 : Int) < (run.length : Int)) = false := by simp; omega
 have hpl := recL_len (no := no) (wire := wire) hnum hl'
 have HBY3 := Lib.hid (HBY.out _ hb03)
 obtain ⟨o, ho⟩ : ∃ o, byS s m no = o := ⟨_, rfl⟩
 rw [ho] at HBY3
 have hall : allR l 0 l.length = recs l l.length 0 := by unfold allR; rw [if_pos (by rw [mayB_true]; omega)]; rfl
 have HAL := Lib.hid (fun wx (h : Below w.heap.size w wx) => rall_any5 A c l 0 l.length (by omega) wx (HR.out _ h).1)
 rw [hall] at HAL
 have HUN : Hid (∀ k, o = none → k ≤ (recs l l.length 0).1.length → toldE s m (l.take (ends 0 ((recs l l.length 0).1.take k)) ++ recL no wire num run ++ l.drop (ends 0 ((recs l l.length 0).1.take k))) = toldE s m l ∧ ends 0 ((recs l l.length 0).1.take k) ≤ l.length) := Lib.hid (fun k hn hk => by
  obtain ⟨a, b, rfl, rfl⟩ := putB_nat hpb
  exact unk_told s m l run hpb hnum (by omega) (ho.trans hn) hk)
 have HNIL : Hid (l.length = 0 → (recs l l.length 0).1.length = 0) := Lib.hid (fun h => by rw [recs_end (by omega)]; rfl)
 have hlc : l.length ≤ c := by have := (HR.out _ hb03).1; unfold SlB at this; exact this.le
 generalize (recs l l.length 0).1 = L at *
 generalize (recs l l.length 0).2 = eL at *
 generalize recL no wire num run = P at *
 have HY := Lib.hid (And.intro hb03 (And.intro Y1 hsp))
 clear HBY ho hall hpb Y1 Y2 hsp hb03
 cases o with
 | some d =>
  unfold foundV at HBY3
  simp only [DC, Option.getD_some, Option.isSome_some] at HBY3
  go_wp2_with fail
  refine HBY3.out.mono ?_
  rintro e w4 ⟨rfl, hb4⟩
  have hb04 := below_lit (below_then HY.out.1 hb4) (.cells #[.int .i64 d.no, .string (txt d.name), .int .i64 d.kind, .int .i64 d.ref, .bool d.rep, .int .i64 d.key, .int .i64 d.one] 45)
  have HA4 := Lib.hid (HAL.out _ hb04)
  clear hb4 y1 y2 k0
  go_wp2_with fail
  refine HA4.out.mono ?_
  rintro e w5 ⟨A5, c5, rfl, -, hb5⟩
  go_wp2
  go_ret
  exact ⟨rfl, below_then hb04 hb5⟩
 | none =>
  unfold foundV at HBY3
  simp only [DC, df0, Option.getD_none, Option.isSome_none] at HBY3
  go_wp2_with fail
  refine HBY3.out.mono ?_
  rintro e w4 ⟨rfl, hb4⟩
  have hb34 := below_lit hb4 (.cells #[.int .i64 0, .string (txt []), .int .i64 0, .int .i64 0, .bool false, .int .i64 0, .int .i64 0] 45)
  have hb04 := below_then HY.out.1 hb34
  have HA4 := Lib.hid (HAL.out _ hb04)
  clear hb4 y1 y2 k0
  go_wp2_with fail
  refine HA4.out.mono ?_
  rintro e w5 ⟨A5, c5, rfl, hsr, hb5⟩
  have hb05 := below_then hb04 hb5
  by_cases hn0 : n < 0
  ·have d3 : decide (n < 0) = true := by rw [decide_eq_true_eq]; exact hn0
   go_wp2
   go_ret
   exact ⟨rfl, hb05⟩
  ·have d3 : decide (n < 0) = false := by rw [decide_eq_false_iff_not]; exact hn0
   by_cases hnL : (L.length : Int) < n
   ·have d4 : decide ((L.length : Int) < n) = true := by rw [decide_eq_true_eq]; exact hnL
    go_wp2
    go_ret
    exact ⟨rfl, hb05⟩
   ·have d4 : decide ((L.length : Int) < n) = false := by rw [decide_eq_false_iff_not]; exact hnL
    by_cases hnz : n = 0
    ·subst hnz
     obtain ⟨htold, hE⟩ := HUN.out 0 (by first | rfl | trivial) (by omega)
     rw [show ends 0 (L.take 0) = 0 from rfl] at htold hE
     have HTD := Lib.hid htold
     have hsl := sl_first (k := 0) (by have := (HR.out _ hb05).1; unfold SlB at this; exact this) hE
     clear htold
     go_wp2_with (at_builtin; go_loud (refine wpList_app_sl rfl _ _ 26 rfl w5.heap.size 5 i0 (.int .u8 0) 1 1 Tryz.underlying26 hi hz0 hz1 hz2 rfl (by omega) (.slice none 0 0) 0 [] rfl (World.ownsRow_nil _ _ _ _) A (0) c ((bs l).take (0)) rfl hsl (fun u hu => bs_one l u (List.mem_of_mem_take hu)) (by unfold maxLen; omega) (by omega) (Nat.le_refl _) ?_); intro v6 w6 hown6 hg6)
     have hBW : Below w5.heap.size w5 w6 := (Below.refl _ _).grown hg6 (Nat.le_refl _) (by intro k hk; cases hk)
     have HOW := Lib.hid hown6
     have HRP := Lib.hid (HY.out.2.2.on (below_then hb34 hb5))
     have HSQ := Lib.hid (show Sl w5 A l.length c 1 (bs l) from (HR.out _ hb05).1)
     have HB5 := Lib.hid hb05
     have HB35 := Lib.hid (below_then hb34 hb5)
     obtain ⟨CL, hCL⟩ : ∃ q, q = l.take 0 ++ P ++ l.drop 0 := ⟨_, rfl⟩
     have E1 : Hid (0 + 0 + P.length + l.length = CL.length) := Lib.hid (by rw [hCL]; simp)
     have E2 : Hid ([] ++ (bs l).take 0 ++ bs P ++ bs (l) = bs CL) := Lib.hid (by rw [hCL]; simp [bs])
     have HCT : Hid (toldE s m CL = toldE s m l ∧ CL.length ≤ 10000) := Lib.hid ⟨by rw [hCL]; exact HTD.out, by rw [← E1.out]; omega⟩
     obtain ⟨x0, hx0⟩ : ∃ x, x = w6.drew := ⟨_, rfl⟩
     have hB : Hid (Below w5.heap.size w5 x0) := Lib.hid (by rw [hx0]; exact hBW.drew)
     have HOX : Hid (x0.ownsRow w5.heap.size 5 1 v6 (0 + 0) ([] ++ (bs l).take 0)) := Lib.hid (by rw [hx0]; exact hown6)
     clear hBW hown6 hg6 hsl hb05 hb5 hb34 hb04 hCL HTD HOW
     refine wp_region_held_drew (S := fun _ => True) (by kernel_rfl) trivial (fun hHeld => ?_)
     refine tk 0 ?_
     refine tk 1 ?_
     refine tk 3 ?_
     refine tk 4 ?_
     refine tk 5 ?_
     rw [← hx0]
     clear hx0
     refine wpAnyH_ready (rs := [2]) (by kernel_rfl) (by simp) ?_
     refine AllReadyH.cons rfl (fun K hK => ?_) AllReadyH.nil
     refine step_app_sl rfl _ _ 26 rfl w5.heap.size 5 i0 (.int .u8 0) 1 1 Tryz.underlying26 hi hz0 hz1 hz2 rfl (by omega) v6 (0 + 0) ([] ++ (bs l).take 0) (by simp [Act.eval, Act.put]) HOX.out Ap P.length cp (bs P) (by simp [Act.eval, Act.put]) (HRP.out.on hB.out) (bs_one P) (by unfold maxLen; omega) (by omega) hB.out.size ?_
     intro v7 x1 hown hgr
     have hBn := hB.out.trans (below_app HOX.out hgr hB.out.size)
     have HOW := Lib.hid hown
     refine hK.out _ _ trivial (fun hHeld => ?_)
     clear hK K
     have hBm := Lib.hid hBn
     clear hB hBn hgr hown HOX HRP
     have hB := hBm
     clear hBm
     refine wpAnyH_ready (rs := [6]) (by kernel_rfl) (by simp) ?_
     refine AllReadyH.cons rfl (fun K hK => ?_) AllReadyH.nil
     refine step_app_sl rfl _ _ 26 rfl w5.heap.size 5 i0 (.int .u8 0) 1 1 Tryz.underlying26 hi hz0 hz1 hz2 rfl (by omega) v7 (0 + 0 + P.length) ([] ++ (bs l).take 0 ++ bs P) (by simp [Act.eval, Act.put]) HOW.out A l.length c (bs l) (by simp [Act.eval, Act.put]) (HSQ.out.on hB.out) (bs_one _) (by unfold maxLen; omega) (by omega) hB.out.size ?_
     intro v8 x2 hown hgr
     have hBn := hB.out.trans (below_app HOW.out hgr hB.out.size)
     rw [E1.out, E2.out] at hown
     obtain ⟨A8, c8, rfl, hsl⟩ := SlB.of_own hown
     have HSL := Lib.hid hsl
     refine hK.out _ _ trivial (fun hHeld => ?_)
     clear hK K
     have hBm := Lib.hid hBn
     clear hB hBn hgr hown hsl HOW HSQ
     have hB := hBm
     clear hBm
     refine tk 7 ?_
     refine wpAnyH_done (by kernel_rfl) ?_ _
     have hb07 := below_then HB5.out hB.out
     have Y7 := box_on HY.out.2.1 (below_then HB35.out hB.out)
     obtain ⟨y1, y2⟩ := box2' Y7
     obtain ⟨X, hX⟩ : ∃ X, msgE (toldE s m l) = X := ⟨_, rfl⟩
     obtain ⟨z, hz⟩ : ∃ z, codeE (toldE s m l) = z := ⟨_, rfl⟩
     have HC1 := Lib.hid (HDC.out A c l.length z X l x2 hb07 rfl hz hX (HR.out _ hb07).1 (by omega))
     have HD2 := Lib.hid (fun wx h hs => HDC.out A8 c8 CL.length z X CL wx h rfl (by rw [HCT.out.1]; exact hz) (by rw [HCT.out.1]; exact hX) hs HCT.out.2)
     have H7 := Lib.hid (And.intro hb07 (And.intro Y7 HSL.out))
     clear hb07 Y7 hX hz HDC HR HSL HB5 HB35 HCT hB E1 E2 hHeld
     go_wp2_with fail
     refine HC1.out.mono ?_
     rintro e w9 ⟨⟨A9, n9, c9, rfl, hm9⟩, hb9⟩
     have N9 := below_new w9 (.cells #[.slice A9 n9 c9] 31)
     have T9 := heap_alloc_new w9 (.cells #[.slice A9 n9 c9] 31)
     have b9 := below_then hb9 N9
     have hx9 := rd_up N9 (own_rd hm9)
     have hb09 := below_then H7.out.1 b9
     have Y9 := box_on H7.out.2.1 b9
     have hs9 := H7.out.2.2.on b9
     have HC2 := Lib.hid (HD2.out _ hb09 hs9)
     clear y1 y2
     obtain ⟨y1, y2⟩ := box2' Y9
     have H9 := Lib.hid (And.intro hb09 (And.intro T9 hx9))
     clear hm9 hb9 N9 T9 b9 hx9 hb09 Y9 hs9 H7 HC1 HD2
     go_wp2_with fail
     refine HC2.out.mono ?_
     rintro e w10 ⟨⟨A10, n10, c10, rfl, hm10⟩, hb10⟩
     have N10 := below_new w10 (.cells #[.slice A10 n10 c10] 31)
     have t8 := bx1 (heap_alloc_new w10 (.cells #[.slice A10 n10 c10] 31))
     have b10 := below_then hb10 N10
     have t7 := bx1 (box_on H9.out.2.1 b10)
     have hx10 := rd_up N10 (own_rd hm10)
     have hx7 := rd_up b10 H9.out.2.2
     have HB10 := Lib.hid (below_then H9.out.1 b10)
     have e9 : ((z : Int) == (z : Int)) = true := by simp
     have HSM := Lib.hid (rsame_any9 _ 64 X X _ _ _ (Nat.le_refl _) hx7 hx10)
     rw [eqB_yes rfl] at HSM
     clear hm10 hb10 N10 b10 hx10 hx7 H9 HC2 y1 y2
     go_wp2_with fail
     refine HSM.out.mono ?_
     rintro e w11 ⟨rfl, hb11⟩
     have HB11 := Lib.hid (below_then HB10.out hb11)
     clear hb11 HB10 HSM t7 t8
     go_wp2
     go_ret
     exact ⟨rfl, HB11.out⟩
    ·obtain ⟨k, hk1, hk2⟩ : ∃ k : Nat, n - 1 = k ∧ k < L.length := ⟨(n - 1).toNat, by omega, by omega⟩
     have d5 : decide (0 < n) = true := by rw [decide_eq_true_eq]; omega
     have hwk : IntKind.i64.wrap (n - 1) = (k : Int) := by rw [IntKind.wrap_i64]; omega
     have hl0 : l.length ≠ 0 := fun h => by have := HNIL.out h; omega
     have hc0 : ¬ c = 0 := by omega
     clear hn0 hnL hnz hn1 hn2 hk1
     obtain ⟨ad, r, hA5, hadb, hr0, p0, p1, p2, p3, p4⟩ := hsr.at_ (k := k) (by omega)
     subst hA5
     obtain ⟨htold, hE⟩ := HUN.out (k + 1) (by first | rfl | trivial) (by omega)
     rw [ends_at hr0] at htold hE
     have hEc : r.upto ≤ c := by omega
     have HTD := Lib.hid htold
     have hsl := sl_first (k := r.upto) (by have := (HR.out _ hb05).1; unfold SlB at this; exact this) hE
     clear htold
     go_wp2_with (at_builtin; go_loud (refine wpList_app_sl rfl _ _ 26 rfl w5.heap.size 5 i0 (.int .u8 0) 1 1 Tryz.underlying26 hi hz0 hz1 hz2 rfl (by omega) (.slice none 0 0) 0 [] rfl (World.ownsRow_nil _ _ _ _) A (r.upto) c ((bs l).take (r.upto)) rfl hsl (fun u hu => bs_one l u (List.mem_of_mem_take hu)) (by unfold maxLen; omega) (by omega) (Nat.le_refl _) ?_); intro v6 w6 hown6 hg6)
     have hBW : Below w5.heap.size w5 w6 := (Below.refl _ _).grown hg6 (Nat.le_refl _) (by intro k hk; cases hk)
     have HOW := Lib.hid hown6
     have HRP := Lib.hid (HY.out.2.2.on (below_then hb34 hb5))
     have hsq := Sl.part (show Sl w5 A l.length c 1 (bs l) from (HR.out _ hb05).1) hE (Nat.le_refl l.length)
     rw [show (if r.upto = c then A else Option.map (·.add r.upto) A) = (if c = r.upto then A else Option.map (·.add r.upto) A) from (if h : r.upto = c then by rw [if_pos h, if_pos h.symm] else by rw [if_neg h, if_neg (fun g => h g.symm)]), bs_part, List.take_of_length_le (by rw [List.length_drop]; omega)] at hsq
     obtain ⟨Aq, hAq⟩ : ∃ q, q = (if c = r.upto then A else Option.map (fun x => x.add r.upto) A) := ⟨_, rfl⟩
     rw [show (if c = r.upto then A else Option.map (·.add r.upto) A) = Aq from hAq.symm] at hsq
     have HSQ := Lib.hid hsq
     have HB5 := Lib.hid hb05
     have HB35 := Lib.hid (below_then hb34 hb5)
     obtain ⟨CL, hCL⟩ : ∃ q, q = l.take r.upto ++ P ++ l.drop r.upto := ⟨_, rfl⟩
     have E1 : Hid (0 + r.upto + P.length + (l.length - r.upto) = CL.length) := Lib.hid (by rw [hCL]; simp; omega)
     have E2 : Hid ([] ++ (bs l).take r.upto ++ bs P ++ bs (l.drop r.upto) = bs CL) := Lib.hid (by rw [hCL]; simp [bs])
     have HCT : Hid (toldE s m CL = toldE s m l ∧ CL.length ≤ 10000) := Lib.hid ⟨by rw [hCL]; exact HTD.out, by rw [← E1.out]; omega⟩
     obtain ⟨x0, hx0⟩ : ∃ x, x = w6.drew := ⟨_, rfl⟩
     have hB : Hid (Below w5.heap.size w5 x0) := Lib.hid (by rw [hx0]; exact hBW.drew)
     have HOX : Hid (x0.ownsRow w5.heap.size 5 1 v6 (0 + r.upto) ([] ++ (bs l).take r.upto)) := Lib.hid (by rw [hx0]; exact hown6)
     clear hBW hown6 hg6 hsl hb05 hb5 hb34 hb04 hCL HTD HOW hsq
     refine wp_region_held_drew (S := fun _ => True) (by kernel_rfl) trivial (fun hHeld => ?_)
     refine tk 0 ?_
     refine tk 1 ?_
     refine tk 3 ?_
     refine tk 4 ?_
     refine tk 5 ?_
     rw [← hx0]
     rw [← hAq]
     clear hx0 hAq
     refine wpAnyH_ready (rs := [2]) (by kernel_rfl) (by simp) ?_
     refine AllReadyH.cons rfl (fun K hK => ?_) AllReadyH.nil
     refine step_app_sl rfl _ _ 26 rfl w5.heap.size 5 i0 (.int .u8 0) 1 1 Tryz.underlying26 hi hz0 hz1 hz2 rfl (by omega) v6 (0 + r.upto) ([] ++ (bs l).take r.upto) (by simp [Act.eval, Act.put]) HOX.out Ap P.length cp (bs P) (by simp [Act.eval, Act.put]) (HRP.out.on hB.out) (bs_one P) (by unfold maxLen; omega) (by omega) hB.out.size ?_
     intro v7 x1 hown hgr
     have hBn := hB.out.trans (below_app HOX.out hgr hB.out.size)
     have HOW := Lib.hid hown
     refine hK.out _ _ trivial (fun hHeld => ?_)
     clear hK K
     have hBm := Lib.hid hBn
     clear hB hBn hgr hown HOX HRP
     have hB := hBm
     clear hBm
     refine wpAnyH_ready (rs := [6]) (by kernel_rfl) (by simp) ?_
     refine AllReadyH.cons rfl (fun K hK => ?_) AllReadyH.nil
     refine step_app_sl rfl _ _ 26 rfl w5.heap.size 5 i0 (.int .u8 0) 1 1 Tryz.underlying26 hi hz0 hz1 hz2 rfl (by omega) v7 (0 + r.upto + P.length) ([] ++ (bs l).take r.upto ++ bs P) (by simp [Act.eval, Act.put]) HOW.out Aq (l.length - r.upto) (c - r.upto) (bs (l.drop r.upto)) (by simp [Act.eval, Act.put]) (HSQ.out.on hB.out) (bs_one _) (by unfold maxLen; omega) (by omega) hB.out.size ?_
     intro v8 x2 hown hgr
     have hBn := hB.out.trans (below_app HOW.out hgr hB.out.size)
     rw [E1.out, E2.out] at hown
     obtain ⟨A8, c8, rfl, hsl⟩ := SlB.of_own hown
     have HSL := Lib.hid hsl
     refine hK.out _ _ trivial (fun hHeld => ?_)
     clear hK K
     have hBm := Lib.hid hBn
     clear hB hBn hgr hown hsl HOW HSQ
     have hB := hBm
     clear hBm
     refine tk 7 ?_
     refine wpAnyH_done (by kernel_rfl) ?_ _
     have hb07 := below_then HB5.out hB.out
     have Y7 := box_on HY.out.2.1 (below_then HB35.out hB.out)
     obtain ⟨y1, y2⟩ := box2' Y7
     obtain ⟨X, hX⟩ : ∃ X, msgE (toldE s m l) = X := ⟨_, rfl⟩
     obtain ⟨z, hz⟩ : ∃ z, codeE (toldE s m l) = z := ⟨_, rfl⟩
     have HC1 := Lib.hid (HDC.out A c l.length z X l x2 hb07 rfl hz hX (HR.out _ hb07).1 (by omega))
     have HD2 := Lib.hid (fun wx h hs => HDC.out A8 c8 CL.length z X CL wx h rfl (by rw [HCT.out.1]; exact hz) (by rw [HCT.out.1]; exact hX) hs HCT.out.2)
     have H7 := Lib.hid (And.intro hb07 (And.intro Y7 HSL.out))
     clear hb07 Y7 hX hz HDC HR HSL HB5 HB35 HCT hB E1 E2 hHeld
     go_wp2_with fail
     refine HC1.out.mono ?_
     rintro e w9 ⟨⟨A9, n9, c9, rfl, hm9⟩, hb9⟩
     have N9 := below_new w9 (.cells #[.slice A9 n9 c9] 31)
     have T9 := heap_alloc_new w9 (.cells #[.slice A9 n9 c9] 31)
     have b9 := below_then hb9 N9
     have hx9 := rd_up N9 (own_rd hm9)
     have hb09 := below_then H7.out.1 b9
     have Y9 := box_on H7.out.2.1 b9
     have hs9 := H7.out.2.2.on b9
     have HC2 := Lib.hid (HD2.out _ hb09 hs9)
     clear y1 y2
     obtain ⟨y1, y2⟩ := box2' Y9
     have H9 := Lib.hid (And.intro hb09 (And.intro T9 hx9))
     clear hm9 hb9 N9 T9 b9 hx9 hb09 Y9 hs9 H7 HC1 HD2
     go_wp2_with fail
     refine HC2.out.mono ?_
     rintro e w10 ⟨⟨A10, n10, c10, rfl, hm10⟩, hb10⟩
     have N10 := below_new w10 (.cells #[.slice A10 n10 c10] 31)
     have t8 := bx1 (heap_alloc_new w10 (.cells #[.slice A10 n10 c10] 31))
     have b10 := below_then hb10 N10
     have t7 := bx1 (box_on H9.out.2.1 b10)
     have hx10 := rd_up N10 (own_rd hm10)
     have hx7 := rd_up b10 H9.out.2.2
     have HB10 := Lib.hid (below_then H9.out.1 b10)
     have e9 : ((z : Int) == (z : Int)) = true := by simp
     have HSM := Lib.hid (rsame_any9 _ 64 X X _ _ _ (Nat.le_refl _) hx7 hx10)
     rw [eqB_yes rfl] at HSM
     clear hm10 hb10 N10 b10 hx10 hx7 H9 HC2 y1 y2
     go_wp2_with fail
     refine HSM.out.mono ?_
     rintro e w11 ⟨rfl, hb11⟩
     have HB11 := Lib.hid (below_then HB10.out hb11)
     clear hb11 HB10 HSM t7 t8
     go_wp2
     go_ret
     exact ⟨rfl, HB11.out⟩
end Go.Proofs.YtckcojkpghiclaaGreatDoor.T11.lawDecodeUnknown
