/-
 What goes wrong, but for what ends too soon, goes wrong alike with anything behind; what is right with nothing behind it stays there: the walk.
-/
import Derived.Test.YtckcojkpghiclaaGreatDoorDecLaw
import Derived.Test.YtckcojkpghiclaaGreatDoorDecUnk
import Derived.Test.YtckcojkpghiclaaGreatDoorEncVal
import Derived.Test.YtckcojkpghiclaaGreatDoorEncPut
import Derived.Test.YtckcojkpghiclaaGreatDoorTrRsame
namespace Go.Proofs.YtckcojkpghiclaaGreatDoor.T11.lawDecodeFirst
set_option maxRecDepth 100000
open Go.ChangeShapes Go.WideShapes Go.ChangeAt Go.RowKit
open Go.Proofs.YtckcojkpghiclaaGreatDoor.T9 Go.Proofs.YtckcojkpghiclaaGreatDoor.T4 Go.Proofs.YtckcojkpghiclaaGreatDoor.T12 Go.Proofs.YtckcojkpghiclaaGreatDoor.T11
theorem first_code (s : Sc) (m : Int) (a b : List UInt8) : (codeE (toldE s m a) = 0 → codeE (toldE s m (a ++ b)) = codeE (toldE s m b)) ∧ (codeE (toldE s m a) ≠ 0 → codeE (toldE s m a) = 6 ∨ codeE (toldE s m (a ++ b)) = codeE (toldE s m a)) := by
 by_cases hv : ScMay s ∧ 0 ≤ m ∧ m < s.M.length
 ·have hc : ∀ l, codeE (toldE s m l) = (wholeM s m l).2 := fun l => by
   rw [told_of hv]; unfold wholeM codeE
   cases decM s 64 m l (.mk []) <;> rfl
  rw [hc, hc, hc]
  obtain ⟨h1, h2⟩ := first_law s m a b
  have hw : (wholeM s m a).2 = match decM s 64 m a (.mk []) with | .ok _ => 0 | .error e => e := by
   unfold wholeM
   cases decM s 64 m a (.mk []) <;> rfl
  cases hx : decM s 64 m a (.mk []) with
  | ok x =>
   rw [hx] at hw
   exact ⟨fun _ => h1 x hx, fun h => absurd hw h⟩
  | error e =>
   rw [hx] at hw
   have he := decM_cd _ _ _ _ _ _ hx
   have he0 : e ≠ 0 := by unfold Cd at he; omega
   have hw : (wholeM s m a).2 = e := hw
   rw [hw]
   exact ⟨fun h => absurd h he0, fun _ => h2 e hx⟩
 ·rw [told_not hv, told_not hv, told_not hv]
  exact ⟨fun h => by (cases h), fun _ => .inr rfl⟩
set_option maxRecDepth 1000000 in
set_option maxHeartbeats 8000000 in
theorem walk (w : World) (T : Tabs w ∧ Wires w) (s : Sc) (vM vE : Value) (hs0 : SAt w.heap.size w s vM vE) (hin : ScIn s) (m : Int) (hm1 : -9223372036854775808 ≤ m) (hm2 : m ≤ 9223372036854775807)
  (A : Option Addr) (c : Nat) (l : List UInt8) (hr : SlB w A c l) (A' : Option Addr) (c' : Nat) (l' : List UInt8) (hr' : SlB w A' c' l') :
  Calls Tryz.prog 4 #[.agg #[vM, vE], .int .i64 m, .slice A l.length c, .slice A' l'.length c'] w fun e w' => e = .returned (.bool true) ∧ Below w.heap.size w w' := by
 obtain ⟨i0, hi, hz0, hz1, hz2⟩ := info_parts info_u8
 obtain ⟨A1, q1, A2, q2, rfl, rfl⟩ := sat_shape hs0
 have X1 := heap_alloc_new w (.cells #[.slice A1 s.M.length q1, .slice A2 s.E.length q2] 25)
 have LBD := below_new w (.cells #[.slice A1 s.M.length q1, .slice A2 s.E.length q2] 25)
 have HS := Lib.hid (fun wx (h : Below w.heap.size w wx) => sat_up hs0 h)
 have HDC := Lib.hid (fun (A : Option Addr) (c n z : Nat) (l : List UInt8) wx (h : Below w.heap.size w wx) (hr : SlB wx A c l) (hn : l.length = n) (hz : codeE (toldE s m l) = z) (hl : n ≤ 10000) => dec_code _ _ m A c n z l wx hn hz hl (sat_up hs0 h) hin hr (T.2.on h) (T.1.on h))
 have HT := Lib.hid T
 have HR := Lib.hid (fun wx (h : Below w.heap.size w wx) => And.intro (hr.on h) (hr'.on h))
 obtain ⟨F1, F2⟩ := first_code s m l l'
 obtain ⟨x, hx⟩ : ∃ x, codeE (toldE s m l) = x := ⟨_, rfl⟩
 obtain ⟨y, hy⟩ : ∃ x, codeE (toldE s m l') = x := ⟨_, rfl⟩
 obtain ⟨z, hz⟩ : ∃ x, codeE (toldE s m (l ++ l')) = x := ⟨_, rfl⟩
 rw [hx, hz] at F1 F2
 rw [hy] at F1
 have HX := Lib.hid hx
 have HY := Lib.hid hy
 have HZ := Lib.hid hz
 have HF1 := Lib.hid F1
 have HF2 := Lib.hid F2
 clear hs0 T hr hr' hm1 hm2 hx hy hz F1 F2
 have HAW := Lib.hid (awake11_any _ (HT.out.1.on LBD) (HT.out.2.on LBD))
 have HX1 := Lib.hid (And.intro X1 LBD)
 clear X1 LBD
 go_enter Tryz.func4, Tryz.ntmps4
 go_wp2_with fail
 refine HAW.out.mono ?_
 rintro e w1 ⟨rfl, hb1⟩
 have hb01 := below_then HX1.out.2 hb1
 have Y1 := box_on HX1.out.1 hb1
 clear hb1 HAW HX1
 obtain ⟨y1, y2⟩ := box2' Y1
 go_wp2_with fail
 refine (fews_any _ s _ _ w1 (Nat.le_refl _) (HS.out _ hb01)).mono ?_
 rintro e w2 ⟨rfl, hb2⟩
 have hb02 := below_then hb01 hb2
 have Y1 := box_on Y1 hb2
 clear hb2 y1 y2 hb01
 obtain ⟨y1, y2⟩ := box2' Y1
 obtain ⟨fw, hfw⟩ : ∃ b, fewS s = b := ⟨_, rfl⟩
 rw [hfw]
 clear hfw
 cases fw with
 | false =>
  go_wp2
  go_ret
  exact ⟨rfl, hb02⟩
 | true =>
  by_cases hl : l.length ≤ 1000
  ·have d1 : decide ((1000 : Int) < (l.length : Int)) = false := by simp; omega
   by_cases hl' : l'.length ≤ 1000
   ·have d2 : decide ((1000 : Int) < (l'.length : Int)) = false := by simp; omega
    have HB2 := Lib.hid hb02
    have HY1 := Lib.hid Y1
    have E1 : Hid (0 + l.length + l'.length = (l ++ l').length) := Lib.hid (by rw [List.length_append]; omega)
    have E2 : Hid ([] ++ bs l ++ bs l' = bs (l ++ l')) := Lib.hid (by simp [bs])
    have E3 : Hid (((l ++ l').length : Int) = (l.length : Int) + (l'.length : Int)) := Lib.hid (by rw [List.length_append]; omega)
    have HC1 := Lib.hid (HDC.out A c _ x l w2 hb02 (HR.out _ hb02).1 rfl HX.out (by omega))
    clear Y1 hb02
    go_wp2_with fail
    refine HC1.out.mono ?_
    rintro e w3 ⟨⟨A3, n3, c3, rfl⟩, hb3⟩
    have N3 := below_new w3 (.cells #[.slice A3 n3 c3] 31)
    have b3 := below_then hb3 N3
    have hb03 := below_then HB2.out b3
    have Y3 := box_on HY1.out b3
    clear y1 y2 hb3 N3 b3 HY1 HB2
    obtain ⟨y1, y2⟩ := box2' Y3
    have HC2 := Lib.hid (HDC.out A' c' _ y l' _ hb03 (HR.out _ hb03).2 rfl HY.out (by omega))
    have HB3 := Lib.hid (And.intro hb03 Y3)
    clear hb03 Y3
    go_wp2_with fail
    refine HC2.out.mono ?_
    rintro e w4 ⟨⟨A4, n4, c4, rfl⟩, hb4⟩
    have N4 := below_new w4 (.cells #[.slice A4 n4 c4] 31)
    have b4 := below_then hb4 N4
    have hb04 := below_then HB3.out.1 b4
    have Y4 := box_on HB3.out.2 b4
    clear y1 y2 hb4 N4 b4 HB3
    obtain ⟨y1, y2⟩ := box2' Y4
    obtain ⟨W4, hW4⟩ : ∃ W, W = w4.alloc (.cells #[.slice A4 n4 c4] 31) := ⟨_, rfl⟩
    rw [← hW4] at hb04 Y4 y1 y2
    have HB4 := Lib.hid (And.intro hb04 Y4)
    have HRA := Lib.hid (HR.out _ hb04).1
    have HRB := Lib.hid (HR.out _ hb04).2
    have HSX : Hid (∀ wx, Below W4.heap.size W4 wx → wx.cell? ⟨w.heap.size, 0, none⟩ = some (.slice A1 s.M.length q1) ∧ wx.cell? ⟨w.heap.size, 1, none⟩ = some (.slice A2 s.E.length q2)) := Lib.hid (fun wx hx => box2' (box_on Y4 hx))
    clear hb04 Y4 HC1 HC2
    go_wp2_with fail
    rw [← hW4]
    clear hW4 y1 y2
    refine wp_region_held_drew (S := (fun w' => w'.cell? ⟨w.heap.size, 0, none⟩ = some (.slice A1 s.M.length q1) ∧ w'.cell? ⟨w.heap.size, 1, none⟩ = some (.slice A2 s.E.length q2))) (by kernel_rfl) (HSX.out _ (Below.refl _ _).drew) (fun hHeld => ?_)
    refine tk 0 ?_
    refine tk 1 ?_
    refine tk 2 ?_
    refine tk 4 ?_
    obtain ⟨x0, hx0⟩ : ∃ x, x = W4.drew := ⟨_, rfl⟩
    rw [← hx0]
    have hB : Hid (Below W4.heap.size W4 x0) := Lib.hid (by rw [hx0]; exact (Below.refl _ _).drew)
    clear hx0
    refine wpAnyH_ready (rs := [3, 10]) (by kernel_rfl) (by simp) ?_
    refine AllReadyH.cons rfl (fun K hK => ?_) (AllReadyH.cons rfl (fun K hK => ?_) AllReadyH.nil)
    ·refine step_app_sl rfl _ _ 26 rfl W4.heap.size 5 i0 (.int .u8 0) 1 1 Tryz.underlying26 hi hz0 hz1 hz2 rfl (by omega) (.slice none 0 0) 0 [] (by simp [Act.eval, Act.put]) (World.ownsRow_nil _ _ _ _) A l.length c (bs l) (by simp [Act.eval, Act.put]) (HRA.out.on hB.out) (bs_one l) (by unfold maxLen; omega) (by omega) hB.out.size ?_
     intro v3 x1 hown hgr
     have hBa : Below x0.heap.size x0 x1 := (Below.refl _ _).grown hgr (Nat.le_refl _) (by intro k hk; cases hk)
     have hBn := hB.out.trans (hBa.mono hB.out.size)
     have HOW := Lib.hid hown
     refine hK.out _ _ (HSX.out _ hBn) (fun hHeld => ?_)
     clear hK K
     have hBm := Lib.hid hBn
     clear hB hBa hBn hgr hown
     have hB := hBm
     clear hBm
     refine wpAnyH_ready (rs := [5, 10]) (by kernel_rfl) (by simp) ?_
     refine AllReadyH.cons rfl (fun K hK => ?_) (AllReadyH.cons rfl (fun K hK => ?_) AllReadyH.nil)
     ·refine step_app_sl rfl _ _ 26 rfl W4.heap.size 5 i0 (.int .u8 0) 1 1 Tryz.underlying26 hi hz0 hz1 hz2 rfl (by omega) v3 (0 + l.length) ([] ++ bs l) (by simp [Act.eval, Act.put]) HOW.out A' l'.length c' (bs l') (by simp [Act.eval, Act.put]) (HRB.out.on hB.out) (bs_one l') (by unfold maxLen; omega) (by omega) hB.out.size ?_
      intro v5 x2 hown hgr
      have hBn := hB.out.trans (below_app HOW.out hgr hB.out.size)
      rw [E1.out, E2.out] at hown
      obtain ⟨A5, c5, rfl, hsl⟩ := SlB.of_own hown
      have HSL := Lib.hid hsl
      refine hK.out _ _ (HSX.out _ hBn) (fun hHeld => ?_)
      clear hK K
      have hBm := Lib.hid hBn
      clear hB hBn hgr hown hsl HOW
      have hB := hBm
      clear hBm
      refine wpAnyH_ready (rs := [6, 10]) (by kernel_rfl) (by simp) ?_
      refine AllReadyH.cons rfl (fun K hK => ?_) (AllReadyH.cons rfl (fun K hK => ?_) AllReadyH.nil)
      ·go_simp
       (go_at_call 14; refine (HDC.out A5 c5 (l.length + l'.length) z (l ++ l') _ (below_then HB4.out.1 hB.out) HSL.out List.length_append HZ.out (by omega)).mono ?_; rintro e x3 ⟨⟨A6, n6, c6, rfl⟩, hBa⟩)
       have hBn := hB.out.trans (hBa.mono hB.out.size)
       go_wp2_with fail
       refine hK.out _ _ (HSX.out _ hBn) (fun hHeld => ?_)
       clear hK K
       have hBm := Lib.hid hBn
       clear hB hBa hBn HSL
       have hB := hBm
       clear hBm
       refine tk 7 ?_
       refine tk 8 ?_
       refine tk 9 ?_
       refine wpAnyH_ready (rs := [10]) (by kernel_rfl) (by simp) ?_
       refine AllReadyH.cons rfl (fun K hK => ?_) AllReadyH.nil
       go_simp
       have hBa := below_new x3 (.cells #[.slice none 0 0] 31)
       have hBn := hB.out.trans (hBa.mono hB.out.size)
       refine hK.out _ _ (HSX.out _ hBn) (fun hHeld => ?_)
       clear hK K
       obtain ⟨g, hg⟩ : ∃ q, q = x3.heap.size := ⟨_, rfl⟩
       obtain ⟨x4, hx4⟩ : ∃ q, q = x3.alloc (.cells #[.slice none 0 0] 31) := ⟨_, rfl⟩
       rw [← hg, ← hx4]
       rw [← hx4] at hBa hBn hHeld
       have HG : Hid (x4.heap[g]? = some (.cells #[.slice none 0 0] 31) ∧ W4.heap.size ≤ g) := Lib.hid ⟨by rw [hx4, hg]; exact heap_alloc_new _ _, by rw [hg]; exact hB.out.size⟩
       have hBm := Lib.hid hBn
       clear hB hBa hBn hg hx4
       have hB := hBm
       clear hBm
       have z0 := bx1 HG.out.1
       have fz : x4.frozen? ⟨g, 0, none⟩ = false := by simp [World.frozen?, HG.out.1]
       refine wpAnyH_ready (rs := [11]) (by kernel_rfl) (by simp) ?_
       refine AllReadyH.cons rfl (fun K hK => ?_) AllReadyH.nil
       go_simp
       have HBZ := Lib.hid ((show Below W4.heap.size W4 (World.setCell _ ⟨g, 0, none⟩ (.slice A6 n6 c6)) from hB.out.setCell HG.out.2 (.slice A6 n6 c6)))
       refine hK.out _ _ (HSX.out _ HBZ.out) (fun hHeld => ?_)
       clear hK K
       refine tk 12 ?_
       refine wpAnyH_done (by kernel_rfl) ?_ _
       have HBE := Lib.hid (below_then HB4.out.1 HBZ.out)
       clear HBZ z0 fz hB HG hHeld
       by_cases h0 : x = 0
       ·have b1 : ((x : Int) == 0) = true := by simp [h0]
        have b2 : ((z : Int) == (y : Int)) = true := by simp [HF1.out h0]
        clear h0
        go_wp2
        go_ret
        first | exact ⟨rfl, HBE.out⟩ | exact ⟨by simp [b2], HBE.out⟩
       ·have b1 : ((x : Int) == 0) = false := by simp; omega
        rcases HF2.out h0 with h6 | h6
        ·subst h6
         go_wp2
         go_ret
         exact ⟨rfl, HBE.out⟩
        ·subst h6
         by_cases h6 : z = 6
         ·subst h6
          go_wp2
          go_ret
          exact ⟨rfl, HBE.out⟩
         ·have b6 : ((z : Int) == 6) = false := by simp; omega
          have b7 : ((z : Int) == (z : Int)) = true := by simp
          clear h0 h6
          go_wp2
          go_ret
          first | exact ⟨rfl, HBE.out⟩ | exact ⟨by simp, HBE.out⟩
      ·go_simp
       have hBa := below_new x2 (.cells #[.slice none 0 0] 31)
       have hBn := hB.out.trans (hBa.mono hB.out.size)
       refine hK.out _ _ (HSX.out _ hBn) (fun hHeld => ?_)
       clear hK K
       obtain ⟨g, hg⟩ : ∃ q, q = x2.heap.size := ⟨_, rfl⟩
       obtain ⟨x3, hx3⟩ : ∃ q, q = x2.alloc (.cells #[.slice none 0 0] 31) := ⟨_, rfl⟩
       rw [← hg, ← hx3]
       rw [← hx3] at hBa hBn hHeld
       have HG : Hid (x3.heap[g]? = some (.cells #[.slice none 0 0] 31) ∧ W4.heap.size ≤ g) := Lib.hid ⟨by rw [hx3, hg]; exact heap_alloc_new _ _, by rw [hg]; exact hB.out.size⟩
       have HSLn := Lib.hid (HSL.out.on hBa)
       have hBm := Lib.hid hBn
       clear hB hBa hBn hg hx3 HSL
       have hB := hBm
       clear hBm
       have HSL := HSLn
       clear HSLn
       refine wpAnyH_ready (rs := [6]) (by kernel_rfl) (by simp) ?_
       refine AllReadyH.cons rfl (fun K hK => ?_) AllReadyH.nil
       go_simp
       (go_at_call 14; refine (HDC.out A5 c5 (l.length + l'.length) z (l ++ l') _ (below_then HB4.out.1 hB.out) HSL.out List.length_append HZ.out (by omega)).mono ?_; rintro e x4 ⟨⟨A6, n6, c6, rfl⟩, hBa⟩)
       have hBn := hB.out.trans (hBa.mono hB.out.size)
       have HGn := Lib.hid (And.intro ((hBa.block _ (Array.getElem?_eq_some_iff.1 HG.out.1).1).trans HG.out.1) HG.out.2)
       go_wp2_with fail
       refine hK.out _ _ (HSX.out _ hBn) (fun hHeld => ?_)
       clear hK K
       have hBm := Lib.hid hBn
       clear hB hBa hBn HSL HG
       have hB := hBm
       clear hBm
       have HG := HGn
       clear HGn
       refine tk 7 ?_
       refine tk 8 ?_
       refine tk 9 ?_
       have z0 := bx1 HG.out.1
       have fz : x4.frozen? ⟨g, 0, none⟩ = false := by simp [World.frozen?, HG.out.1]
       refine wpAnyH_ready (rs := [11]) (by kernel_rfl) (by simp) ?_
       refine AllReadyH.cons rfl (fun K hK => ?_) AllReadyH.nil
       go_simp
       have HBZ := Lib.hid ((show Below W4.heap.size W4 (World.setCell _ ⟨g, 0, none⟩ (.slice A6 n6 c6)) from hB.out.setCell HG.out.2 (.slice A6 n6 c6)))
       refine hK.out _ _ (HSX.out _ HBZ.out) (fun hHeld => ?_)
       clear hK K
       refine tk 12 ?_
       refine wpAnyH_done (by kernel_rfl) ?_ _
       have HBE := Lib.hid (below_then HB4.out.1 HBZ.out)
       clear HBZ z0 fz hB HG hHeld
       by_cases h0 : x = 0
       ·have b1 : ((x : Int) == 0) = true := by simp [h0]
        have b2 : ((z : Int) == (y : Int)) = true := by simp [HF1.out h0]
        clear h0
        go_wp2
        go_ret
        first | exact ⟨rfl, HBE.out⟩ | exact ⟨by simp [b2], HBE.out⟩
       ·have b1 : ((x : Int) == 0) = false := by simp; omega
        rcases HF2.out h0 with h6 | h6
        ·subst h6
         go_wp2
         go_ret
         exact ⟨rfl, HBE.out⟩
        ·subst h6
         by_cases h6 : z = 6
         ·subst h6
          go_wp2
          go_ret
          exact ⟨rfl, HBE.out⟩
         ·have b6 : ((z : Int) == 6) = false := by simp; omega
          have b7 : ((z : Int) == (z : Int)) = true := by simp
          clear h0 h6
          go_wp2
          go_ret
          first | exact ⟨rfl, HBE.out⟩ | exact ⟨by simp, HBE.out⟩
     ·go_simp
      have hBa := below_new x1 (.cells #[.slice none 0 0] 31)
      have hBn := hB.out.trans (hBa.mono hB.out.size)
      refine hK.out _ _ (HSX.out _ hBn) (fun hHeld => ?_)
      clear hK K
      obtain ⟨g, hg⟩ : ∃ q, q = x1.heap.size := ⟨_, rfl⟩
      obtain ⟨x2, hx2⟩ : ∃ q, q = x1.alloc (.cells #[.slice none 0 0] 31) := ⟨_, rfl⟩
      rw [← hg, ← hx2]
      rw [← hx2] at hBa hBn hHeld
      have HG : Hid (x2.heap[g]? = some (.cells #[.slice none 0 0] 31) ∧ W4.heap.size ≤ g) := Lib.hid ⟨by rw [hx2, hg]; exact heap_alloc_new _ _, by rw [hg]; exact hB.out.size⟩
      have HOWn := Lib.hid (own_hi HOW.out (hi_below W4.heap.size hBa))
      have hBm := Lib.hid hBn
      clear hB hBa hBn hg hx2 HOW
      have hB := hBm
      clear hBm
      have HOW := HOWn
      clear HOWn
      refine wpAnyH_ready (rs := [5]) (by kernel_rfl) (by simp) ?_
      refine AllReadyH.cons rfl (fun K hK => ?_) AllReadyH.nil
      refine step_app_sl rfl _ _ 26 rfl W4.heap.size 5 i0 (.int .u8 0) 1 1 Tryz.underlying26 hi hz0 hz1 hz2 rfl (by omega) v3 (0 + l.length) ([] ++ bs l) (by simp [Act.eval, Act.put]) HOW.out A' l'.length c' (bs l') (by simp [Act.eval, Act.put]) (HRB.out.on hB.out) (bs_one l') (by unfold maxLen; omega) (by omega) hB.out.size ?_
      intro v5 x3 hown hgr
      have hBn := hB.out.trans (below_app HOW.out hgr hB.out.size)
      have HGn := Lib.hid (And.intro (own_far11 HOW.out hgr HG.out.1 (by decide)) HG.out.2)
      rw [E1.out, E2.out] at hown
      obtain ⟨A5, c5, rfl, hsl⟩ := SlB.of_own hown
      have HSL := Lib.hid hsl
      refine hK.out _ _ (HSX.out _ hBn) (fun hHeld => ?_)
      clear hK K
      have hBm := Lib.hid hBn
      clear hB hBn hgr hown hsl HOW HG
      have hB := hBm
      clear hBm
      have HG := HGn
      clear HGn
      refine wpAnyH_ready (rs := [6]) (by kernel_rfl) (by simp) ?_
      refine AllReadyH.cons rfl (fun K hK => ?_) AllReadyH.nil
      go_simp
      (go_at_call 14; refine (HDC.out A5 c5 (l.length + l'.length) z (l ++ l') _ (below_then HB4.out.1 hB.out) HSL.out List.length_append HZ.out (by omega)).mono ?_; rintro e x4 ⟨⟨A6, n6, c6, rfl⟩, hBa⟩)
      have hBn := hB.out.trans (hBa.mono hB.out.size)
      have HGn := Lib.hid (And.intro ((hBa.block _ (Array.getElem?_eq_some_iff.1 HG.out.1).1).trans HG.out.1) HG.out.2)
      go_wp2_with fail
      refine hK.out _ _ (HSX.out _ hBn) (fun hHeld => ?_)
      clear hK K
      have hBm := Lib.hid hBn
      clear hB hBa hBn HSL HG
      have hB := hBm
      clear hBm
      have HG := HGn
      clear HGn
      refine tk 7 ?_
      refine tk 8 ?_
      refine tk 9 ?_
      have z0 := bx1 HG.out.1
      have fz : x4.frozen? ⟨g, 0, none⟩ = false := by simp [World.frozen?, HG.out.1]
      refine wpAnyH_ready (rs := [11]) (by kernel_rfl) (by simp) ?_
      refine AllReadyH.cons rfl (fun K hK => ?_) AllReadyH.nil
      go_simp
      have HBZ := Lib.hid ((show Below W4.heap.size W4 (World.setCell _ ⟨g, 0, none⟩ (.slice A6 n6 c6)) from hB.out.setCell HG.out.2 (.slice A6 n6 c6)))
      refine hK.out _ _ (HSX.out _ HBZ.out) (fun hHeld => ?_)
      clear hK K
      refine tk 12 ?_
      refine wpAnyH_done (by kernel_rfl) ?_ _
      have HBE := Lib.hid (below_then HB4.out.1 HBZ.out)
      clear HBZ z0 fz hB HG hHeld
      by_cases h0 : x = 0
      ·have b1 : ((x : Int) == 0) = true := by simp [h0]
       have b2 : ((z : Int) == (y : Int)) = true := by simp [HF1.out h0]
       clear h0
       go_wp2
       go_ret
       first | exact ⟨rfl, HBE.out⟩ | exact ⟨by simp [b2], HBE.out⟩
      ·have b1 : ((x : Int) == 0) = false := by simp; omega
       rcases HF2.out h0 with h6 | h6
       ·subst h6
        go_wp2
        go_ret
        exact ⟨rfl, HBE.out⟩
       ·subst h6
        by_cases h6 : z = 6
        ·subst h6
         go_wp2
         go_ret
         exact ⟨rfl, HBE.out⟩
        ·have b6 : ((z : Int) == 6) = false := by simp; omega
         have b7 : ((z : Int) == (z : Int)) = true := by simp
         clear h0 h6
         go_wp2
         go_ret
         first | exact ⟨rfl, HBE.out⟩ | exact ⟨by simp, HBE.out⟩
    ·go_simp
     have hBa := below_new x0 (.cells #[.slice none 0 0] 31)
     have hBn := hB.out.trans (hBa.mono hB.out.size)
     refine hK.out _ _ (HSX.out _ hBn) (fun hHeld => ?_)
     clear hK K
     obtain ⟨g, hg⟩ : ∃ q, q = x0.heap.size := ⟨_, rfl⟩
     obtain ⟨x1, hx1⟩ : ∃ q, q = x0.alloc (.cells #[.slice none 0 0] 31) := ⟨_, rfl⟩
     rw [← hg, ← hx1]
     rw [← hx1] at hBa hBn hHeld
     have HG : Hid (x1.heap[g]? = some (.cells #[.slice none 0 0] 31) ∧ W4.heap.size ≤ g) := Lib.hid ⟨by rw [hx1, hg]; exact heap_alloc_new _ _, by rw [hg]; exact hB.out.size⟩
     have hBm := Lib.hid hBn
     clear hB hBa hBn hg hx1
     have hB := hBm
     clear hBm
     refine wpAnyH_ready (rs := [3]) (by kernel_rfl) (by simp) ?_
     refine AllReadyH.cons rfl (fun K hK => ?_) AllReadyH.nil
     refine step_app_sl rfl _ _ 26 rfl W4.heap.size 5 i0 (.int .u8 0) 1 1 Tryz.underlying26 hi hz0 hz1 hz2 rfl (by omega) (.slice none 0 0) 0 [] (by simp [Act.eval, Act.put]) (World.ownsRow_nil _ _ _ _) A l.length c (bs l) (by simp [Act.eval, Act.put]) (HRA.out.on hB.out) (bs_one l) (by unfold maxLen; omega) (by omega) hB.out.size ?_
     intro v3 x2 hown hgr
     have hBa : Below x1.heap.size x1 x2 := (Below.refl _ _).grown hgr (Nat.le_refl _) (by intro k hk; cases hk)
     have hBn := hB.out.trans (hBa.mono hB.out.size)
     have HGn := Lib.hid (And.intro ((hBa.block _ (Array.getElem?_eq_some_iff.1 HG.out.1).1).trans HG.out.1) HG.out.2)
     have HOW := Lib.hid hown
     refine hK.out _ _ (HSX.out _ hBn) (fun hHeld => ?_)
     clear hK K
     have hBm := Lib.hid hBn
     clear hB hBa hBn hgr hown HG
     have hB := hBm
     clear hBm
     have HG := HGn
     clear HGn
     refine wpAnyH_ready (rs := [5]) (by kernel_rfl) (by simp) ?_
     refine AllReadyH.cons rfl (fun K hK => ?_) AllReadyH.nil
     refine step_app_sl rfl _ _ 26 rfl W4.heap.size 5 i0 (.int .u8 0) 1 1 Tryz.underlying26 hi hz0 hz1 hz2 rfl (by omega) v3 (0 + l.length) ([] ++ bs l) (by simp [Act.eval, Act.put]) HOW.out A' l'.length c' (bs l') (by simp [Act.eval, Act.put]) (HRB.out.on hB.out) (bs_one l') (by unfold maxLen; omega) (by omega) hB.out.size ?_
     intro v5 x3 hown hgr
     have hBn := hB.out.trans (below_app HOW.out hgr hB.out.size)
     have HGn := Lib.hid (And.intro (own_far11 HOW.out hgr HG.out.1 (by decide)) HG.out.2)
     rw [E1.out, E2.out] at hown
     obtain ⟨A5, c5, rfl, hsl⟩ := SlB.of_own hown
     have HSL := Lib.hid hsl
     refine hK.out _ _ (HSX.out _ hBn) (fun hHeld => ?_)
     clear hK K
     have hBm := Lib.hid hBn
     clear hB hBn hgr hown hsl HOW HG
     have hB := hBm
     clear hBm
     have HG := HGn
     clear HGn
     refine wpAnyH_ready (rs := [6]) (by kernel_rfl) (by simp) ?_
     refine AllReadyH.cons rfl (fun K hK => ?_) AllReadyH.nil
     go_simp
     (go_at_call 14; refine (HDC.out A5 c5 (l.length + l'.length) z (l ++ l') _ (below_then HB4.out.1 hB.out) HSL.out List.length_append HZ.out (by omega)).mono ?_; rintro e x4 ⟨⟨A6, n6, c6, rfl⟩, hBa⟩)
     have hBn := hB.out.trans (hBa.mono hB.out.size)
     have HGn := Lib.hid (And.intro ((hBa.block _ (Array.getElem?_eq_some_iff.1 HG.out.1).1).trans HG.out.1) HG.out.2)
     go_wp2_with fail
     refine hK.out _ _ (HSX.out _ hBn) (fun hHeld => ?_)
     clear hK K
     have hBm := Lib.hid hBn
     clear hB hBa hBn HSL HG
     have hB := hBm
     clear hBm
     have HG := HGn
     clear HGn
     refine tk 7 ?_
     refine tk 8 ?_
     refine tk 9 ?_
     have z0 := bx1 HG.out.1
     have fz : x4.frozen? ⟨g, 0, none⟩ = false := by simp [World.frozen?, HG.out.1]
     refine wpAnyH_ready (rs := [11]) (by kernel_rfl) (by simp) ?_
     refine AllReadyH.cons rfl (fun K hK => ?_) AllReadyH.nil
     go_simp
     have HBZ := Lib.hid ((show Below W4.heap.size W4 (World.setCell _ ⟨g, 0, none⟩ (.slice A6 n6 c6)) from hB.out.setCell HG.out.2 (.slice A6 n6 c6)))
     refine hK.out _ _ (HSX.out _ HBZ.out) (fun hHeld => ?_)
     clear hK K
     refine tk 12 ?_
     refine wpAnyH_done (by kernel_rfl) ?_ _
     have HBE := Lib.hid (below_then HB4.out.1 HBZ.out)
     clear HBZ z0 fz hB HG hHeld
     by_cases h0 : x = 0
     ·have b1 : ((x : Int) == 0) = true := by simp [h0]
      have b2 : ((z : Int) == (y : Int)) = true := by simp [HF1.out h0]
      clear h0
      go_wp2
      go_ret
      first | exact ⟨rfl, HBE.out⟩ | exact ⟨by simp [b2], HBE.out⟩
     ·have b1 : ((x : Int) == 0) = false := by simp; omega
      rcases HF2.out h0 with h6 | h6
      ·subst h6
       go_wp2
       go_ret
       exact ⟨rfl, HBE.out⟩
      ·subst h6
       by_cases h6 : z = 6
       ·subst h6
        go_wp2
        go_ret
        exact ⟨rfl, HBE.out⟩
       ·have b6 : ((z : Int) == 6) = false := by simp; omega
        have b7 : ((z : Int) == (z : Int)) = true := by simp
        clear h0 h6
        go_wp2
        go_ret
        first | exact ⟨rfl, HBE.out⟩ | exact ⟨by simp, HBE.out⟩
   ·have d2 : decide ((1000 : Int) < (l'.length : Int)) = true := by simp; omega
    go_wp2
    go_ret
    exact ⟨rfl, hb02⟩
  ·have d1 : decide ((1000 : Int) < (l.length : Int)) = true := by simp; omega
   go_wp2
   go_ret
   exact ⟨rfl, hb02⟩
end Go.Proofs.YtckcojkpghiclaaGreatDoor.T11.lawDecodeFirst
