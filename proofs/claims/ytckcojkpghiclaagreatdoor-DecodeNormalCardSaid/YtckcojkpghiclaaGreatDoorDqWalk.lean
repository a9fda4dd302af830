/-
 What is told is of its message, normal, and at most 64 deep; with an error nothing is: the walk.
-/
import Derived.Test.YtckcojkpghiclaaGreatDoorDecLaw
namespace Go.Proofs.YtckcojkpghiclaaGreatDoor.T11.lawDecodeNormal
set_option maxRecDepth 100000
open Go.RowKit
open Go.Proofs.YtckcojkpghiclaaGreatDoor.T9 Go.Proofs.YtckcojkpghiclaaGreatDoor.T4 Go.Proofs.YtckcojkpghiclaaGreatDoor.T12 Go.Proofs.YtckcojkpghiclaaGreatDoor.T11
set_option maxRecDepth 1000000 in
set_option maxHeartbeats 8000000 in
theorem walk (w : World) (T : Tabs w ∧ Wires w) (s : Sc) (vM vE : Value) (hs0 : SAt w.heap.size w s vM vE) (hin : ScIn s) (m : Int) (hm1 : -9223372036854775808 ≤ m) (hm2 : m ≤ 9223372036854775807)
  (A : Option Addr) (c : Nat) (l : List UInt8) (hr : SlB w A c l) :
  Calls Tryz.prog 3 #[.agg #[vM, vE], .int .i64 m, .slice A l.length c] w fun e w' => e = .returned (.bool true) ∧ Below w.heap.size w w' := by
 obtain ⟨A1, q1, A2, q2, rfl, rfl⟩ := sat_shape hs0
 have X1 := heap_alloc_new w (.cells #[.slice A1 s.M.length q1, .slice A2 s.E.length q2] 25)
 have LBD := below_new w (.cells #[.slice A1 s.M.length q1, .slice A2 s.E.length q2] 25)
 have HS := Lib.hid (fun wx (h : Below w.heap.size w wx) => sat_up hs0 h)
 have HDE := Lib.hid (fun wx (h : Below w.heap.size w wx) (hl : l.length ≤ 10000) => decode_any wx.heap.size _ _ m A c l wx hl (Nat.le_refl _) (sat_up hs0 h) hin (hr.on h) (T.2.on h) (T.1.on h))
 have HT := Lib.hid T
 clear hs0 T hr hm1 hm2
 have HAW := Lib.hid (awake11_any _ (HT.out.1.on LBD) (HT.out.2.on LBD))
 have HX := Lib.hid (And.intro X1 LBD)
 clear X1 LBD
 go_enter Tryz.func3, Tryz.ntmps3
 go_wp2_with fail
 refine HAW.out.mono ?_
 rintro e w1 ⟨rfl, hb1⟩
 have hb01 := below_then HX.out.2 hb1
 have Y1 := box_on HX.out.1 hb1
 clear hb1 HAW HX
 obtain ⟨y1, y2⟩ := box2' Y1
 go_wp2_with fail
 refine (fews_any _ s _ _ w1 (Nat.le_refl _) (HS.out _ hb01)).mono ?_
 rintro e w2 ⟨rfl, hb2⟩
 have hb02 := below_then hb01 hb2
 have Y1 := box_on Y1 hb2
 clear hb2 y1 y2
 obtain ⟨y1, y2⟩ := box2' Y1
 obtain ⟨fw, hfw⟩ : ∃ b, fewS s = b := ⟨_, rfl⟩
 rw [hfw]
 clear hfw
 cases fw with
 | false =>
  go_wp2
  go_ret
  exact ⟨rfl, hb02⟩
 | true =>
  by_cases hl : l.length ≤ 2000
  ·have d1 : decide ((2000 : Int) < (l.length : Int)) = false := by simp; omega
   have HD2 := Lib.hid (HDE.out w2 hb02 (by omega))
   have HY := Lib.hid Y1
   have HB2 := Lib.hid hb02
   clear Y1 hb02 hb01 HDE
   obtain ⟨n, hn⟩ : ∃ n, l.length = n := ⟨_, rfl⟩
   obtain ⟨R, hR⟩ : ∃ R, toldE s m l = R := ⟨_, rfl⟩
   rw [hn, hR] at HD2
   have HN : Hid (l.length = n) := Lib.hid hn
   have HR : Hid (toldE s m l = R) := Lib.hid hR
   rw [hn] at d1 hl ⊢
   clear hn hR
   go_wp2_with fail
   refine HD2.out.mono ?_
   rintro e w3 ⟨hc, hb3⟩
   have b3 := Lib.hid (below_then HB2.out hb3)
   have HZ := Lib.hid (box_on HY.out hb3)
   clear hb3 y1 y2
   rcases hc with ⟨er, hE, rfl⟩ | ⟨X, hE, A3, n3, c3, rfl, hx3⟩
   ·obtain ⟨z, hz, hc⟩ : ∃ z : Int, (er : Int) = z ∧ (z = 1 ∨ z = 6 ∨ z = 7 ∨ z = 8 ∨ z = 9 ∨ z = 10 ∨ z = 11) := ⟨_, rfl, by have := told_cd (HR.out.trans hE); unfold Cd at this; omega⟩
    rw [hz]
    clear hz hE hin
    have N3 := Lib.hid (below_new w3 (.cells #[.slice none 0 0] 31))
    have Z3 := bx1 (heap_alloc_new w3 (.cells #[.slice none 0 0] 31))
    rcases hc with rfl | rfl | rfl | rfl | rfl | rfl | rfl
    all_goals
     go_wp2
     go_ret
     exact ⟨rfl, below_then b3.out N3.out⟩
   ·obtain ⟨hi1, hi2, hi3, hi4⟩ := told_is (by have := HN.out; omega) (HR.out.trans hE)
    have hrd := own_rd hx3
    obtain ⟨Ax, cx, hsh⟩ := rd_shape hrd
    simp only [Value.slice.injEq] at hsh
    obtain ⟨rfl, rfl, rfl⟩ := hsh
    have N3 := below_new w3 (.cells #[.slice A3 X.F.length c3] 31)
    have Z3 := heap_alloc_new w3 (.cells #[.slice A3 X.F.length c3] 31)
    have b4 := below_then b3.out N3
    have Y4 := box_on HZ.out N3
    have hx4 := rd_up N3 hrd
    obtain ⟨y1, y2⟩ := box2' Y4
    have y0 := bx1 Z3
    have HI := Lib.hid (tis_any hin _ 64 _ _ m X _ _ (Nat.le_refl _) (HS.out _ b4) hx4 hi1 (by omega) (HT.out.1.on b4))
    rw [hi4] at HI
    have HB4 := Lib.hid (And.intro b4 (And.intro Z3 hx4))
    clear hE hx3 hrd N3 b4 Y4 hi1 hi4 Z3 hx4 HN HR
    go_wp2_with fail
    refine HI.out.mono ?_
    rintro e w5 ⟨rfl, hb5⟩
    have hb05 := below_then HB4.out.1 hb5
    have z0 := bx1 (box_on HB4.out.2.1 hb5)
    have hx5 := rd_up hb5 HB4.out.2.2
    have HDP := Lib.hid (deep_any _ 64 X _ w5 (Nat.le_refl _) hx5 (by omega))
    have d5 : decide ((X.deep : Int) ≤ 64) = true := decide_eq_true (by omega)
    have d6 : decide (X.deep ≤ 64) = true := decide_eq_true hi3
    have HB5 := Lib.hid hb05
    clear y1 y2 y0 HI HB4 hb5 hb05 hx5
    go_wp2_with fail
    refine HDP.out.mono ?_
    rintro e w6 ⟨rfl, hb6⟩
    go_wp2
    go_ret
    exact ⟨rfl, below_then HB5.out hb6⟩
  ·have d1 : decide ((2000 : Int) < (l.length : Int)) = true := by simp; omega
   go_wp2
   go_ret
   exact ⟨rfl, hb02⟩
end Go.Proofs.YtckcojkpghiclaaGreatDoor.T11.lawDecodeNormal
