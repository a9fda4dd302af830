/-
 Bytes that decode are encoded,and decode again,as the same message; encoded once more they are the same bytes: the walk.
-/
import Derived.Test.YtckcojkpghiclaaGreatDoorEncRnd
import Derived.Test.YtckcojkpghiclaaGreatDoorDecMath
import Derived.Test.YtckcojkpghiclaaGreatDoorRecOne
import Derived.Test.YtckcojkpghiclaaGreatDoorTrRsame
import Derived.Test.YtckcojkpghiclaaGreatDoorEncEnt
namespace Go.Proofs.YtckcojkpghiclaaGreatDoor.T12.lawEncodeAgain
set_option maxRecDepth 100000
open Go.ChangeShapes Go.WideShapes Go.ChangeAt Go.RowKit
open Go.Proofs.YtckcojkpghiclaaGreatDoor.T9 Go.Proofs.YtckcojkpghiclaaGreatDoor.T4 Go.Proofs.YtckcojkpghiclaaGreatDoor.T11
set_option maxRecDepth 1000000 in
set_option maxHeartbeats 16000000 in
theorem walk (w:World) (T:Tabs w ∧ Wires w) (s:Sc) (vM vE:Value) (hs0:SAt w.heap.size w s vM vE) (hin:ScIn s) (m:Int) (hm1:-9223372036854775808 ≤ m) (hm2:m ≤ 9223372036854775807)
  (A:Option Addr) (c:Nat) (l:List UInt8) (hr:SlB w A c l) :
  Calls Tryz.prog 11 #[.agg #[vM,vE],.int .i64 m,.slice A l.length c] w fun e w'=>e = .returned (.bool true) ∧ Below w.heap.size w w':=by
 obtain ⟨A1,q1,A2,q2,rfl,rfl⟩:=sat_shape hs0
 have X1:=heap_alloc_new w (.cells #[.slice A1 s.M.length q1,.slice A2 s.E.length q2] 25)
 have LBD:=below_new w (.cells #[.slice A1 s.M.length q1,.slice A2 s.E.length q2] 25)
 have HS:=Lib.hid (fun wx (h:Below w.heap.size w wx)=>sat_up hs0 h)
 have HT:=Lib.hid T
 have HR:=Lib.hid (fun wx (h:Below w.heap.size w wx)=>hr.on h)
 clear hs0 T hm1 hm2 hr
 go_enter Tryz.func11,Tryz.ntmps11
 go_wp2_with fail
 refine (awake12_any _ (HT.out.1.on LBD) (HT.out.2.on LBD)).mono ?_
 rintro e w1 ⟨rfl,hb1⟩
 have hb01:=below_then LBD hb1
 have Y1:=box_on X1 hb1
 clear X1 LBD hb1
 obtain ⟨y1,y2⟩:=box2' Y1
 go_wp2_with fail
 refine (fews_any _ s _ _ w1 (Nat.le_refl _) (HS.out _ hb01)).mono ?_
 rintro e w2 ⟨rfl,hb2⟩
 have hb02:=below_then hb01 hb2
 have Y1:=box_on Y1 hb2
 clear y1 y2 hb01 hb2
 obtain ⟨fw,hfw⟩:∃ b,fewS s = b:=⟨_,rfl⟩
 rw [hfw]
 clear hfw
 obtain ⟨y1,y2⟩:=box2' Y1
 cases fw with
 | false =>
  go_wp2
  go_ret
  exact ⟨rfl,hb02⟩
 | true =>
 by_cases hl:l.length ≤ 2000
 case neg =>
  have d1:decide ((2000:Int) < (l.length:Int)) = true:=by simp; omega
  go_wp2
  go_ret
  exact ⟨rfl,hb02⟩
 have d1:decide ((2000:Int) < (l.length:Int)) = false:=by simp; omega
 cases hD:toldE s m l with
 | error er =>
  have hcd:=told_cd hD
  have HC1:=Lib.hid (dec_code _ _ m A c l.length er l w2 rfl (by rw [hD]; rfl) (by omega) (HS.out _ hb02) hin (HR.out _ hb02) (HT.out.2.on hb02) (HT.out.1.on hb02))
  have b0:((er:Int) != 0) = true:=by unfold Cd at hcd; simp; omega
  clear hcd hD
  go_wp2_with fail
  refine HC1.out.mono ?_
  rintro e w3 ⟨⟨A3,n3,c3,rfl⟩,hb3⟩
  have HB3:=Lib.hid (below_lit (below_then hb02 hb3) (.cells #[.slice A3 n3 c3] 31))
  clear hb3 HC1 y1 y2 Y1 hb02
  go_wp2
  go_ret
  exact ⟨rfl,HB3.out⟩
 | ok X =>
  obtain ⟨hm,hn,hi,hc,ht⟩:=told_few hl hD
  have HC1:=Lib.hid (dec_both _ _ m A c l.length 0 X l w2 rfl (by rw [hD]; rfl) (by rw [hD]; rfl) (by omega) (HS.out _ hb02) hin (HR.out _ hb02) (HT.out.2.on hb02) (HT.out.1.on hb02))
  have HDC:=Lib.hid (fun A c n l wx (h:Below w.heap.size w wx) (hl:encB s 64 m X = l) (hnn:n = l.length) (hr:SlB wx A c l)=>decode_back hm hi hc ht wx.heap.size _ _ A c n l X wx hn hl hnn (Nat.le_refl _) (HS.out _ h) hin hr (HT.out.2.on h) (HT.out.1.on h))
  have HEX:=Lib.hid (fun u wx (h:Below w.heap.size w wx) (hx:MRd wx.heap.size wx 64 X u)=>encode_yes hin wx.heap.size 64 _ _ m X u wx (Nat.le_refl _) (HS.out _ h) hx hi (by omega) (by omega) (HT.out.1.on h) (HT.out.2.on h) hm)
  have hlen:=(told_back hm hi hc ht).2.1
  obtain ⟨E,hE⟩:∃ E,encB s 64 m X = E:=⟨_,rfl⟩
  rw [hn,hE] at HEX hlen
  have HE:=Lib.hid (And.intro hE hlen)
  clear hE hm hn hi hc ht hD hlen HR HT HS
  go_wp2_with fail
  refine HC1.out.mono ?_
  rintro e w3 ⟨⟨A3,n3,c3,rfl,hm3⟩,hb3⟩
  have N3:=below_new w3 (.cells #[.slice A3 n3 c3] 31)
  have Z3:=heap_alloc_new w3 (.cells #[.slice A3 n3 c3] 31)
  have b3:=below_then hb3 N3
  have hx3:=rd_up N3 (own_rd hm3)
  have hb03:=below_then hb02 b3
  have Y1:=box_on Y1 b3
  have HE3:=Lib.hid (HEX.out _ _ hb03 hx3)
  have H3:=Lib.hid (And.intro hb03 (And.intro Z3 hx3))
  clear y1 y2 hm3 hb3 N3 b3 hx3 hb03 HC1 hb02
  obtain ⟨y1,y2⟩:=box2' Y1
  have y3:=bx1 Z3
  clear Z3
  go_wp2_with fail
  refine HE3.out.mono ?_
  rintro e w4 ⟨v4,rfl,⟨A4,c4,rfl,hr4,-⟩,hb4⟩
  have hb04:=below_then H3.out.1 hb4
  have Y1:=box_on Y1 hb4
  have Z3:=box_on H3.out.2.1 hb4
  have HC4:=Lib.hid (HDC.out A4 c4 E.length E _ hb04 HE.out.1 rfl hr4)
  have H4:=Lib.hid (And.intro hb04 (And.intro Z3 (And.intro (rd_up hb4 H3.out.2.2) hr4)))
  clear y1 y2 y3 hr4 hb4 hb04 Z3 HE3 H3 HDC
  obtain ⟨y1,y2⟩:=box2' Y1
  go_wp2_with fail
  refine HC4.out.mono ?_
  rintro e w5 ⟨⟨A5,n5,c5,rfl,hm5⟩,hb5⟩
  have N5:=below_new w5 (.cells #[.slice A5 n5 c5] 31)
  have Z5:=heap_alloc_new w5 (.cells #[.slice A5 n5 c5] 31)
  have b5:=below_then hb5 N5
  have hx5:=rd_up N5 (own_rd hm5)
  have hb05:=below_then H4.out.1 b5
  have Y1:=box_on Y1 b5
  have HE5:=Lib.hid (HEX.out _ _ hb05 hx5)
  have H5:=Lib.hid (And.intro hb05 (And.intro (box_on H4.out.2.1 b5) (And.intro (rd_up b5 H4.out.2.2.1) (And.intro (H4.out.2.2.2.on b5) (And.intro Z5 hx5)))))
  clear y1 y2 hm5 hb5 N5 b5 hx5 hb05 HC4 H4 HEX
  obtain ⟨y1,y2⟩:=box2' Y1
  have y5:=bx1 Z5
  clear Z5
  go_wp2_with fail
  refine HE5.out.mono ?_
  rintro e w6 ⟨v6,rfl,⟨A6,c6,rfl,hr6,-⟩,hb6⟩
  have hb06:=below_then H5.out.1 hb6
  have t3:=bx1 (box_on H5.out.2.1 hb6)
  have t5:=bx1 (box_on H5.out.2.2.2.2.1 hb6)
  have HSM:=Lib.hid (rsame_any9 _ 64 X X _ _ w6 (Nat.le_refl _) (rd_up hb6 H5.out.2.2.1) (rd_up hb6 H5.out.2.2.2.2.2))
  rw [eqB_yes rfl] at HSM
  have HBY:=Lib.hid (fun wx (h:Below w6.heap.size w6 wx)=>bytes_any A4 A6 c4 c6 E E wx (by have:=HE.out.2; omega) (by have:=HE.out.2; omega) ((H5.out.2.2.2.1.on hb6).on h) (hr6.on h))
  rw [decide_eq_true rfl] at HBY
  have H6:=Lib.hid hb06
  clear y1 y2 y5 hr6 hb6 hb06 H5 HE5 HE Y1
  go_wp2_with fail
  refine HSM.out.mono ?_
  rintro e w7 ⟨rfl,hb7⟩
  have HB7:=Lib.hid (HBY.out _ hb7)
  have H7:=Lib.hid (below_then H6.out hb7)
  clear hb7 HSM HBY H6 t3 t5
  go_wp2_with fail
  refine HB7.out.mono ?_
  rintro e w8 ⟨rfl,hb8⟩
  have H8:=Lib.hid (below_then H7.out hb8)
  clear hb8 H7 HB7
  go_wp2
  go_ret
  exact ⟨rfl,H8.out⟩
end Go.Proofs.YtckcojkpghiclaaGreatDoor.T12.lawEncodeAgain
