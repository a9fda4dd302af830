/-
 A message of a schema is encoded,and decoded as what it is when it is normal: the walk.
-/
import Derived.Test.YtckcojkpghiclaaGreatDoorEncRnd
import Derived.Test.YtckcojkpghiclaaGreatDoorDecMath
import Derived.Test.YtckcojkpghiclaaGreatDoorRecOne
import Derived.Test.YtckcojkpghiclaaGreatDoorTrRsame
import Derived.Test.YtckcojkpghiclaaGreatDoorEncEnt
namespace Go.Proofs.YtckcojkpghiclaaGreatDoor.T12.lawEncodeBack
set_option maxRecDepth 100000
open Go.ChangeShapes Go.WideShapes Go.ChangeAt Go.RowKit
open Go.Proofs.YtckcojkpghiclaaGreatDoor.T9 Go.Proofs.YtckcojkpghiclaaGreatDoor.T4 Go.Proofs.YtckcojkpghiclaaGreatDoor.T11
set_option maxRecDepth 1000000 in
set_option maxHeartbeats 16000000 in
theorem walk (w:World) (T:Tabs w∧Wires w) (s:Sc) (vM vE:Value) (hs0:SAt w.heap.size w s vM vE) (hin:ScIn s) (m:Int) (hm1:-9223372036854775808≤m) (hm2:m≤9223372036854775807)
  (x:Mg) (ux:Value) (D:Nat) (hx0:T9.MAt (Rd w.heap.size w) D x [ux]) (hxi:MIn x) :
  Calls Tryz.prog 10 #[.agg #[vM,vE],.int .i64 m,.agg #[ux]] w fun e w'=>e = .returned (.bool true)∧Below w.heap.size w w':=by
 obtain ⟨A1,q1,A2,q2,rfl,rfl⟩:=sat_shape hs0
 obtain ⟨Ax,cx,rfl⟩:=rd_shape hx0
 obtain ⟨E,hE⟩:∃ E,E = max D 64:=⟨_,rfl⟩
 have hE1:D≤E:=by omega
 have hE2:64≤E:=by omega
 clear hE
 obtain ⟨X1,X2,LBD⟩:=two_boxes w (.cells #[.slice A1 s.M.length q1,.slice A2 s.E.length q2] 25) (.cells #[.slice Ax x.F.length cx] 31)
 have HS:=Lib.hid (fun wx (h:Below w.heap.size w wx)=>sat_up hs0 h)
 have HG:=Lib.hid (fun wx (h:Below w.heap.size w wx)=>MRd.mono h.size (MRd.low (Lo.below h (Nat.le_refl _)) (T9.MAt.more hE1 _ _ hx0)))
 have HT:=Lib.hid T
 clear hx0 hs0 T hm1 hm2
 go_enter Tryz.func10,Tryz.ntmps10
 go_wp2_with fail
 refine (awake12_any _ (HT.out.1.on LBD) (HT.out.2.on LBD)).mono ?_
 rintro e w1 ⟨rfl,hb1⟩
 have hb01:=below_then LBD hb1
 have Y1:=box_on X1 hb1
 have Y2:=box_on X2 hb1
 clear X1 X2 LBD hb1
 obtain ⟨y1,y2⟩:=box2' Y1
 have y0:=bx1 Y2
 go_wp2_with fail
 refine (few12_any _ E s _ _ x _ w1 (Nat.le_refl _) (HS.out _ hb01) (HG.out _ hb01) hxi).mono ?_
 rintro e w2 ⟨r,rfl,hfit,hb2⟩
 have hb02:=below_then hb01 hb2
 have Y1:=box_on Y1 hb2
 have Y2:=box_on Y2 hb2
 clear y1 y2 y0
 cases r with
 | false =>
  go_wp2
  go_ret
  exact ⟨rfl,hb02⟩
 | true =>
 obtain ⟨⟨hcx,-⟩,htx⟩:=hfit rfl
 clear hfit
 have HNX:=Lib.hid (fun wx (h:Below w.heap.size w wx)=>tnormal_any hin wx.heap.size E _ _ m x _ wx (Nat.le_refl _) (HS.out _ h) (HG.out _ h) hxi (by omega) (HT.out.1.on h))
 obtain ⟨y1,y2⟩:=box2' Y1
 have y0:=bx1 Y2
 cases hm:mayT s m x with
 | true =>
  have HEX:=Lib.hid (encode_yes hin w2.heap.size E _ _ m x _ w2 (Nat.le_refl _) (HS.out _ hb02) (HG.out _ hb02) hxi (by omega) (by omega) (HT.out.1.on hb02) (HT.out.2.on hb02) hm)
  have HDC:=Lib.hid (fun A c n l X wx (h:Below w.heap.size w wx) (hX:norB s 64 m x = X) (hl:encB s 64 m X = l) (hn:n = l.length) (hr:SlB wx A c l)=>decode_back hm hxi (by omega) (by omega) wx.heap.size _ _ A c n l X wx hX hl hn (Nat.le_refl _) (HS.out _ h) hin hr (HT.out.2.on h) (HT.out.1.on h))
  obtain ⟨P,hP⟩:∃ P,norB s 64 m x = P:=⟨_,rfl⟩
  obtain ⟨l,hl⟩:∃ l,encB s 64 m P = l:=⟨_,rfl⟩
  rw [hP,hl] at HEX
  rw [hP,hm] at HNX
  have HPL:=Lib.hid (And.intro hP hl)
  clear hP hl hm hcx htx
  go_wp2_with fail
  refine HEX.out.mono ?_
  rintro e w3 ⟨v3,rfl,⟨A3,c3,rfl,hr3,-⟩,hb3⟩
  have hb03:=below_then hb02 hb3
  have Y1:=box_on Y1 hb3
  have Y2:=box_on Y2 hb3
  have HR3:=Lib.hid hr3
  have HN3:=Lib.hid (HNX.out _ hb03)
  clear y1 y2 y0 hb3 hb02 hb01 hr3 HEX HNX
  obtain ⟨y1,y2⟩:=box2' Y1
  have y0:=bx1 Y2
  go_wp2_with fail
  refine HN3.out.mono ?_
  rintro e w4 ⟨A4,n4,c4,rfl,-,hr4,hb4⟩
  have N4:=below_new w4 (.cells #[.slice A4 n4 c4] 31)
  have Z4:=heap_alloc_new w4 (.cells #[.slice A4 n4 c4] 31)
  have b4:=below_then hb4 N4
  have hx4:=rd_up N4 (hr4 trivial)
  have hb04:=below_then hb03 b4
  have Y1:=box_on Y1 b4
  have HC4:=Lib.hid (HDC.out A3 c3 l.length l P _ hb04 HPL.out.1 HPL.out.2 rfl (HR3.out.on b4))
  have H4:=Lib.hid (And.intro hb04 (And.intro Z4 hx4))
  clear y1 y2 y0 Y2 hr4 hb4 N4 Z4 b4 hx4 hb04 HN3 HDC HR3 hb03
  obtain ⟨y1,y2⟩:=box2' Y1
  go_wp2_with fail
  refine HC4.out.mono ?_
  rintro e w5 ⟨⟨A5,n5,c5,rfl,hm5⟩,hb5⟩
  have N5:=below_new w5 (.cells #[.slice A5 n5 c5] 31)
  have t5:=bx1 (heap_alloc_new w5 (.cells #[.slice A5 n5 c5] 31))
  have b5:=below_then hb5 N5
  have t4:=bx1 (box_on H4.out.2.1 b5)
  have hx5:=rd_up N5 (own_rd hm5)
  have hx4:=rd_up b5 H4.out.2.2
  have HB5:=Lib.hid (below_then H4.out.1 b5)
  have HSM:=Lib.hid (rsame_any9 _ E P P _ _ _ (Nat.le_refl _) (T9.MAt.more hE2 _ _ hx5) hx4)
  rw [eqB_yes rfl] at HSM
  clear hm5 hb5 N5 b5 hx5 hx4 H4 HC4 y1 y2 Y1
  go_wp2_with fail
  refine HSM.out.mono ?_
  rintro e w6 ⟨rfl,hb6⟩
  have HB6:=Lib.hid (below_then HB5.out hb6)
  clear hb6 HB5 HSM t4 t5
  go_wp2
  go_ret
  exact ⟨rfl,HB6.out⟩
 | false =>
  have HEX:=Lib.hid (encode_no hin w2.heap.size E _ _ m x _ w2 (Nat.le_refl _) (HS.out _ hb02) (HG.out _ hb02) hxi (by omega) (HT.out.1.on hb02) hm)
  rw [hm] at HNX
  have HDC:=Lib.hid (fun wx (h:Below w.heap.size w wx)=>dec_code _ _ m none 0 0 _ [] wx rfl rfl (by omega) (HS.out _ h) hin (SlB.nil wx) (HT.out.2.on h) (HT.out.1.on h))
  obtain ⟨z,hz⟩:∃ z,codeE (toldE s m []) = z:=⟨_,rfl⟩
  rw [hz] at HDC
  clear hz hm hcx htx
  go_wp2_with fail
  refine HEX.out.mono ?_
  rintro e w3 ⟨rfl,hb3⟩
  have hb03:=below_then hb02 hb3
  have Y1:=box_on Y1 hb3
  have Y2:=box_on Y2 hb3
  have HN3:=Lib.hid (HNX.out _ hb03)
  clear y1 y2 y0 hb3 hb02 hb01 HEX HNX
  obtain ⟨y1,y2⟩:=box2' Y1
  have y0:=bx1 Y2
  go_wp2_with fail
  refine HN3.out.mono ?_
  rintro e w4 ⟨A4,n4,c4,rfl,hz4,-,hb4⟩
  obtain ⟨rfl,rfl,rfl⟩:=hz4 trivial
  have N4:=below_new w4 (.cells #[.slice none 0 0] 31)
  have b4:=below_then hb4 N4
  have hb04:=below_then hb03 b4
  have Y1:=box_on Y1 b4
  have HC4:=Lib.hid (HDC.out _ hb04)
  have H4:=Lib.hid hb04
  clear y1 y2 y0 Y2 hb4 N4 b4 hb04 HN3 HDC hb03
  obtain ⟨y1,y2⟩:=box2' Y1
  go_wp2_with fail
  refine HC4.out.mono ?_
  rintro e w5 ⟨⟨A5,n5,c5,rfl⟩,hb5⟩
  have HB5:=Lib.hid (below_lit (below_then H4.out hb5) (.cells #[.slice A5 n5 c5] 31))
  clear hb5 H4 HC4 y1 y2 Y1
  go_wp2
  go_ret
  exact ⟨rfl,HB5.out⟩
end Go.Proofs.YtckcojkpghiclaaGreatDoor.T12.lawEncodeBack
