/-
 A record of a field,of a wire type that is not its kind's,goes wrong so,behind whatever decodes,unless it is a run of repeated numbers: the walk.
-/
import Derived.Test.YtckcojkpghiclaaGreatDoorDwMath
import Derived.Test.YtckcojkpghiclaaGreatDoorRecOpen
import Derived.Test.YtckcojkpghiclaaGreatDoorDecNumc
import Derived.Test.YtckcojkpghiclaaGreatDoorEncAw
import Derived.Test.YtckcojkpghiclaaGreatDoorTokMath
import Derived.Test.YtckcojkpghiclaaGreatDoorTabCode
namespace Go.Proofs.YtckcojkpghiclaaGreatDoor.T11.lawDecodeWire
set_option maxRecDepth 100000
open Go.ChangeShapes Go.WideShapes Go.ChangeAt Go.RowKit
open Go.Proofs.YtckcojkpghiclaaGreatDoor.T9 Go.Proofs.YtckcojkpghiclaaGreatDoor.T4 Go.Proofs.YtckcojkpghiclaaGreatDoor.T12 Go.Proofs.YtckcojkpghiclaaGreatDoor.T11
theorem recL_len {no wire:Int} {num:Nat} {run:List UInt8} (hn:num < 18446744073709551616) (hr:run.length ≤ 1000):(recL no wire num run).length ≤ 2000:=by
 have h5:=putL_le5 (no:=no) (wire:=wire)
 have h1:=vput_len10 hn
 have h2:=vput_len10 (n:=run.length) (by omega)
 unfold recL
 split
 ·rw [List.length_append]
  unfold restL
  split
  ·rw [List.length_append]; omega
  ·split
   ·rw [fixb_length]; omega
   ·split
    ·rw [fixb_length]; omega
    ·omega
 ·simp
theorem putB_nat {no wire:Int} (h:putB no wire = true):∃ a b:Nat,no = a ∧ wire = b:=by
 have:=putB_iff.1 h
 exact ⟨no.toNat,wire.toNat,by omega,by omega⟩
theorem bx7 {w:World} {q:Nat} {a b c d e f g:Value} {t:TypeId} {fr:Nat × Nat} (h:w.heap[q]? = some (.cells #[a,b,c,d,e,f,g] t fr)) :
  w.cell? ⟨q,0,none⟩ = some a ∧ w.cell? ⟨q,1,none⟩ = some b ∧ w.cell? ⟨q,2,none⟩ = some c ∧ w.cell? ⟨q,3,none⟩ = some d ∧ w.cell? ⟨q,4,none⟩ = some e ∧ w.cell? ⟨q,5,none⟩ = some f ∧ w.cell? ⟨q,6,none⟩ = some g:=by
 refine ⟨?_,?_,?_,?_,?_,?_,?_⟩ <;> rw [box_cell h] <;> rfl
set_option maxRecDepth 1000000 in
set_option maxHeartbeats 8000000 in
theorem walk (w:World) (T:Tabs w ∧ Wires w) (s:Sc) (vM vE:Value) (hs0:SAt w.heap.size w s vM vE) (hin:ScIn s) (m:Int) (hm1:-9223372036854775808 ≤ m) (hm2:m ≤ 9223372036854775807)
  (A:Option Addr) (c:Nat) (l:List UInt8) (hr:SlB w A c l) (hbk:l.length ≤ 1048576) (no wire:Int) (num:Nat) (fz u:Int) (hrec:RecOk no wire num fz u) (A':Option Addr) (c':Nat) (run:List UInt8) (hr':SlB w A' c' run) (hrs:run.length ≤ 140737488351232) :
  Calls Tryz.prog 9 #[.agg #[vM,vE],.int .i64 m,.slice A l.length c,.agg #[.int .i64 no,.int .i64 wire,.int .u64 num,.int .i64 fz,.int .i64 u],.slice A' run.length c'] w fun e w'=>e = .returned (.bool true) ∧ Below w.heap.size w w':=by
 obtain ⟨i0,hi,hz0,hz1,hz2⟩:=info_parts info_u8
 obtain ⟨A1,q1,A2,q2,rfl,rfl⟩:=sat_shape hs0
 obtain ⟨⟨ra1,ra2⟩,⟨rb1,rb2⟩,hnum,-,-⟩:=hrec
 have X1:=heap_alloc_new w (.cells #[.slice A1 s.M.length q1,.slice A2 s.E.length q2] 25)
 have L1:=below_new w (.cells #[.slice A1 s.M.length q1,.slice A2 s.E.length q2] 25)
 have L2:=below_new (w.alloc (.cells #[.slice A1 s.M.length q1,.slice A2 s.E.length q2] 25)) (.cells #[.int .i64 no,.int .i64 wire,.int .u64 num,.int .i64 fz,.int .i64 u] 41)
 have X2:=heap_alloc_new (w.alloc (.cells #[.slice A1 s.M.length q1,.slice A2 s.E.length q2] 25)) (.cells #[.int .i64 no,.int .i64 wire,.int .u64 num,.int .i64 fz,.int .i64 u] 41)
 have X1:=box_on X1 L2
 have LBD:=below_then L1 L2
 rw [show (w.alloc (.cells #[.slice A1 s.M.length q1,.slice A2 s.E.length q2] 25)).heap.size = w.heap.size + 1 by simp] at X2
 have HS:=Lib.hid (fun wx (h:Below w.heap.size w wx)=>sat_up hs0 h)
 have HDC:=Lib.hid (fun (A:Option Addr) (c n z:Nat) (l:List UInt8) wx (h:Below w.heap.size w wx) (hr:SlB wx A c l) (hn:l.length = n) (hz:codeE (toldE s m l) = z) (hl:n ≤ 1100000)=>dec_wide _ _ m A c n z l wx hn hz hl (sat_up hs0 h) hin hr (T.2.on h) (T.1.on h))
 have HT:=Lib.hid T
 have HR:=Lib.hid (fun wx (h:Below w.heap.size w wx)=>And.intro (hr.on h) (hr'.on h))
 have HBY:=Lib.hid (fun wx (h:Below w.heap.size w wx)=>rBy_any wx.heap.size s _ _ m no wx (Nat.le_refl _) (sat_up hs0 h))
 obtain ⟨z,hz⟩:∃ x,codeE (toldE s m l) = x:=⟨_,rfl⟩
 have HZ:=Lib.hid hz
 have HTL:Hid (∀ f,byS s m no = some f → putB no wire = true → run.length ≤ 1000 → z = 0 → wire ≠ wantI f → ¬ (f.rep = true ∧ cnt f.kind = true ∧ wire = 2) → codeE (toldE s m (l ++ recL no wire num run)) = 8):=Lib.hid (fun f hf hp hl hz0 hw hnp=>by
  obtain ⟨a,b,rfl,rfl⟩:=putB_nat hp
  exact wire_told hp hnum (by omega) hf (hz.trans hz0) hw (fun h=>hnp ⟨h.1,h.2.1,by have:=h.2.2; omega⟩))
 have HMF:Hid (∀ f,byS s m no = some f → z = 0 → f.key ≠ -1 → f.rep = false):=Lib.hid (fun f hf hz0 hk=>by
  have hv:ScMay s:=Classical.byContradiction fun g=>by
   rw [told_not (fun h=>g h.1)] at hz
   have h1:(1:Nat) = z:=hz
   omega
  exact (may_key (by_may hv hf).1 hk).2.2.2.1)
 have HPL:Hid (run.length ≤ 1000 → (recL no wire num run).length ≤ 2000):=Lib.hid (fun h=>recL_len hnum h)
 clear hs0 T hr hr' hm1 hm2 L1 L2 hz
 have HAW:=Lib.hid (awake11_any _ (HT.out.1.on LBD) (HT.out.2.on LBD))
 have HX1:=Lib.hid (And.intro X1 (And.intro X2 LBD))
 clear X1 X2 LBD
 go_enter Tryz.func9,Tryz.ntmps9
 go_wp2_with fail
 refine HAW.out.mono ?_
 rintro e w1 ⟨rfl,hb1⟩
 have hb01:=below_then HX1.out.2.2 hb1
 have Y1:=box_on HX1.out.1 hb1
 have Y2:=box_on HX1.out.2.1 hb1
 clear hb1 HAW HX1
 obtain ⟨y1,y2⟩:=box2' Y1
 have k0:=heap_cell Y2 0
 simp only [List.getElem?_toArray,List.getElem?_cons_zero] at k0
 have HBY1:=Lib.hid (HBY.out _ hb01)
 obtain ⟨o,ho⟩:∃ o,byS s m no = o:=⟨_,rfl⟩
 rw [ho] at HBY1
 have HO:=Lib.hid ho
 obtain ⟨d,hd⟩:∃ d,o.getD df0 = d:=⟨_,rfl⟩
 obtain ⟨is,his⟩:∃ b,o.isSome = b:=⟨_,rfl⟩
 have HDI:Hid (is = true → o = some d):=Lib.hid (fun h=>by
  rw [h] at his
  cases o with
  | none=>cases his
  | some x=>rw [← hd]; rfl)
 unfold foundV at HBY1
 rw [hd,his] at HBY1
 simp only [DC] at HBY1
 clear ho hd his HBY
 go_wp2_with fail
 refine HBY1.out.mono ?_
 rintro e w2 ⟨rfl,hb2⟩
 have N2:=below_new w2 (.cells #[.int .i64 d.no,.string (txt d.name),.int .i64 d.kind,.int .i64 d.ref,.bool d.rep,.int .i64 d.key,.int .i64 d.one] 45)
 have D2:=heap_alloc_new w2 (.cells #[.int .i64 d.no,.string (txt d.name),.int .i64 d.kind,.int .i64 d.ref,.bool d.rep,.int .i64 d.key,.int .i64 d.one] 45)
 have b2:=below_then hb2 N2
 have hb02:=below_then hb01 b2
 have Y1:=box_on Y1 b2
 have Y2:=box_on Y2 b2
 clear y1 y2 k0 hb2 N2 b2 hb01 HBY1
 go_upto_region 3 with fail
 obtain ⟨g2,hg2⟩:∃ p,p = w2.heap.size:=⟨_,rfl⟩
 obtain ⟨W2,hW2⟩:∃ W,W = w2.alloc (.cells #[.int .i64 d.no,.string (txt d.name),.int .i64 d.kind,.int .i64 d.ref,.bool d.rep,.int .i64 d.key,.int .i64 d.one] 45):=⟨_,rfl⟩
 rw [← hW2] at hb02 Y1 Y2 D2
 rw [← hg2] at D2
 have HPUT:=Lib.hid (rcputB_any no wire num fz u A' c' run ra1 ra2 rb1 rb2 hnum hrs W2 (HR.out _ hb02).2 (HT.out.2.on hb02))
 unfold ZV at HPUT
 have z0:=heap_cell Y2 0
 have z1:=heap_cell Y2 1
 have z2:=heap_cell Y2 2
 have z3:=heap_cell Y2 3
 have z4:=heap_cell Y2 4
 simp only [List.getElem?_toArray,List.getElem?_cons_zero,List.getElem?_cons_succ] at z0 z1 z2 z3 z4
 rw [← hW2,← hg2]
 clear hW2 hg2
 go_wp2_with fail
 refine HPUT.out.mono ?_
 rintro e w3 ⟨Ap,cp,rfl,hsp,-,hb3⟩
 have hb03:=below_then hb02 hb3
 have Y1:=box_on Y1 hb3
 have Y2:=box_on Y2 hb3
 have D3:=box_on D2 hb3
 obtain ⟨y1,y2⟩:=box2' Y1
 obtain ⟨pb,hpb⟩:∃ b,putB no wire = b:=⟨_,rfl⟩
 rw [hpb]
 have HPB:=Lib.hid hpb
 have HC1:=Lib.hid (HDC.out A c _ z l _ hb03 (HR.out _ hb03).1 rfl HZ.out (by omega))
 clear z0 z1 z2 z3 z4 HPUT hb3 hb02 D2 hpb
 go_wp2_with fail
 refine HC1.out.mono ?_
 rintro e w4 ⟨⟨A4,n4,c4,rfl⟩,hb4⟩
 have N4:=below_new w4 (.cells #[.slice A4 n4 c4] 31)
 have b4:=below_then hb4 N4
 have hb04:=below_then hb03 b4
 have Y4:=box_on Y1 b4
 have Z4:=box_on Y2 b4
 have D4:=box_on D3 b4
 have hsp4:=hsp.on b4
 obtain ⟨W4,hW4⟩:∃ W,W = w4.alloc (.cells #[.slice A4 n4 c4] 31):=⟨_,rfl⟩
 rw [← hW4] at hb04 Y4 Z4 D4 hsp4
 clear y1 y2 hb4 N4 b4 hb03 Y1 Y2 D3 hsp HC1
 obtain ⟨y1,y2⟩:=box2' Y4
 go_upto_region 5 with fail
 rw [← hW4]
 clear hW4
 go_wp2_with fail
 refine (fews_any _ s _ _ W4 (Nat.le_refl _) (HS.out _ hb04)).mono ?_
 rintro e w6 ⟨rfl,hb6⟩
 have hb06:=below_then hb04 hb6
 have Y6:=box_on Y4 hb6
 have Z6:=box_on Z4 hb6
 have D6:=box_on D4 hb6
 have hsp6:=hsp4.on hb6
 clear y1 y2 hb6 hb04 Y4 Z4 D4 hsp4
 obtain ⟨fw,hfw⟩:∃ b,fewS s = b:=⟨_,rfl⟩
 rw [hfw]
 clear hfw
 cases fw with
 | false =>
  go_wp2
  go_ret
  exact ⟨rfl,hb06⟩
 | true =>
 by_cases hl:l.length ≤ 1000
 case neg =>
  have d1:decide ((1000:Int) < (l.length:Int)) = true:=by simp; omega
  go_wp2
  go_ret
  exact ⟨rfl,hb06⟩
 have d1:decide ((1000:Int) < (l.length:Int)) = false:=by simp; omega
 by_cases hl':run.length ≤ 1000
 case neg =>
  have d2:decide ((1000:Int) < (run.length:Int)) = true:=by simp; omega
  go_wp2
  go_ret
  exact ⟨rfl,hb06⟩
 have d2:decide ((1000:Int) < (run.length:Int)) = false:=by simp; omega
 cases is with
 | false =>
  go_wp2
  go_ret
  exact ⟨rfl,hb06⟩
 | true =>
 cases pb with
 | false =>
  go_wp2
  go_ret
  exact ⟨rfl,hb06⟩
 | true =>
 by_cases hz:z = 0
 case neg =>
  have b1:((z:Int) != 0) = true:=by simp [hz]
  go_wp2
  go_ret
  exact ⟨rfl,hb06⟩
 have b1:((z:Int) != 0) = false:=by simp [hz]
 have HTL2:=Lib.hid (HTL.out d (HO.out.trans (HDI.out rfl)) HPB.out hl' hz)
 have hpl:=HPL.out hl'
 obtain ⟨f0,f1,f2,f3,f4,f5,f6⟩:=bx7 D6
 have z1:=heap_cell Z6 1
 simp only [List.getElem?_toArray,List.getElem?_cons_zero,List.getElem?_cons_succ] at z1
 have HWI:=Lib.hid (rwire_any d.kind w6)
 have HOF:=Lib.hid (rof_any d.kind 0 (by decide) (by decide) w6)
 obtain ⟨cn,hcn⟩:∃ b,cnt d.kind = b:=⟨_,rfl⟩
 obtain ⟨rp,hrp⟩:∃ b,d.rep = b:=⟨_,rfl⟩
 rw [hcn] at HOF HTL2
 rw [hrp] at f4 HTL2
 have HRF:Hid (d.key ≠ -1 → rp = false):=Lib.hid (fun h=>by rw [← hrp]; exact HMF.out d (HO.out.trans (HDI.out rfl)) hz h)
 obtain ⟨wk,hwk⟩:∃ k,wireI d.kind = k:=⟨_,rfl⟩
 rw [hwk] at HWI
 obtain ⟨ofv,hofv⟩:∃ k,ofI d.kind 0 = k:=⟨_,rfl⟩
 rw [hofv] at HOF
 obtain ⟨P,hP⟩:∃ p,recL no wire num run = p:=⟨_,rfl⟩
 rw [hP] at HTL2 hsp6 hpl
 rw [hP]
 have HY:=Lib.hid (And.intro hb06 (And.intro Y6 hsp6))
 have HHW:Hid (wantI d = if d.key ≠ -1 then 2 else wk):=Lib.hid (by unfold wantI; rw [hwk])
 clear hcn hrp hwk hofv hP hb06 Y6 Z6 D6 hsp6 HTL HPL HMF HDI HO HPB hz f0 f1 f3 f6
 go_wp2_with fail
 refine HWI.out.mono ?_
 rintro e w7 ⟨rfl,rfl⟩
 by_cases hk:d.key = -1
 ·have b2:(d.key != -1) = false:=by rw [hk]; rfl
  have HW2:Hid (wantI d = wk):=Lib.hid (by rw [HHW.out,if_neg (fun h=>h hk)])
  clear hk HHW
  go_wp2_with fail
  refine HOF.out.mono ?_
  rintro e w8 ⟨rfl,rfl⟩
  by_cases hw:wire = wk
  ·have b3:((wire:Int) == wk) = true:=by rw [hw]; exact beq_self_eq_true _
   clear hw
   go_wp2
   go_ret
   exact ⟨rfl,HY.out.1⟩
  ·have b3:((wire:Int) == wk) = false:=by rw [beq_eq_false_iff_ne]; exact hw
   have HTL3:=Lib.hid (HTL2.out (by rw [HW2.out]; exact hw))
   clear hw HW2 HTL2
   cases rp with
   | false =>
    have HT8:=Lib.hid (HTL3.out (fun h=>by cases h.1))
    obtain ⟨z2,hz2⟩:∃ q,codeE (toldE s m (l ++ P)) = q:=⟨_,rfl⟩
    have b8:((z2:Int) == 8) = true:=by rw [← hz2,HT8.out]; rfl
    have HZ2:=Lib.hid hz2
    have HRA:=Lib.hid (HR.out _ HY.out.1).1
    have HRP:=Lib.hid HY.out.2.2
    have E1:Hid (0 + l.length + P.length = (l ++ P).length):=Lib.hid (by rw [List.length_append]; omega)
    have E2:Hid ([] ++ bs l ++ bs P = bs (l ++ P)):=Lib.hid (by simp [bs])
    have HSX:Hid (∀ wx,Below w6.heap.size w6 wx → wx.cell? ⟨w.heap.size,0,none⟩ = some (.slice A1 s.M.length q1) ∧ wx.cell? ⟨w.heap.size,1,none⟩ = some (.slice A2 s.E.length q2)):=Lib.hid (fun wx hx=>box2' (box_on HY.out.2.1 hx))
    clear hz2 HT8
    go_wp2_with fail
    refine wp_region_held_drew (S:=(fun w'=>w'.cell? ⟨w.heap.size,0,none⟩ = some (.slice A1 s.M.length q1) ∧ w'.cell? ⟨w.heap.size,1,none⟩ = some (.slice A2 s.E.length q2))) (by kernel_rfl) (HSX.out _ (Below.refl _ _).drew) (fun hHeld=>?_)
    refine tk 0 ?_
    refine tk 1 ?_
    refine tk 2 ?_
    refine tk 4 ?_
    obtain ⟨x0,hx0⟩:∃ x,x = w6.drew:=⟨_,rfl⟩
    rw [← hx0]
    have hB:Hid (Below w6.heap.size w6 x0):=Lib.hid (by rw [hx0]; exact (Below.refl _ _).drew)
    clear hx0
    refine wpAnyH_ready (rs:=[3,10]) (by kernel_rfl) (by simp) ?_
    refine AllReadyH.cons rfl (fun K hK=>?_) (AllReadyH.cons rfl (fun K hK=>?_) AllReadyH.nil)
    ·refine step_app_sl rfl _ _ 26 rfl w6.heap.size 5 i0 (.int .u8 0) 1 1 Tryz.underlying26 hi hz0 hz1 hz2 rfl (by omega) (.slice none 0 0) 0 [] (by simp [Act.eval,Act.put]) (World.ownsRow_nil _ _ _ _) A l.length c (bs l) (by simp [Act.eval,Act.put]) (HRA.out.on hB.out) (bs_one l) (by unfold maxLen; omega) (by omega) hB.out.size ?_
     intro v3 x1 hown hgr
     have hBa:Below x0.heap.size x0 x1:=(Below.refl _ _).grown hgr (Nat.le_refl _) (by intro k hk; cases hk)
     have hBn:=hB.out.trans (hBa.mono hB.out.size)
     have HOW:=Lib.hid hown
     refine hK.out _ _ (HSX.out _ hBn) (fun hHeld=>?_)
     clear hK K
     have hBm:=Lib.hid hBn
     clear hB hBa hBn hgr hown
     have hB:=hBm
     clear hBm
     refine wpAnyH_ready (rs:=[5,10]) (by kernel_rfl) (by simp) ?_
     refine AllReadyH.cons rfl (fun K hK=>?_) (AllReadyH.cons rfl (fun K hK=>?_) AllReadyH.nil)
     ·refine step_app_sl rfl _ _ 26 rfl w6.heap.size 5 i0 (.int .u8 0) 1 1 Tryz.underlying26 hi hz0 hz1 hz2 rfl (by omega) v3 (0 + l.length) ([] ++ bs l) (by simp [Act.eval,Act.put]) HOW.out Ap P.length cp (bs P) (by simp [Act.eval,Act.put]) (HRP.out.on hB.out) (bs_one P) (by unfold maxLen; omega) (by omega) hB.out.size ?_
      intro v5 x2 hown hgr
      have hBn:=hB.out.trans (below_app HOW.out hgr hB.out.size)
      rw [E1.out,E2.out] at hown
      obtain ⟨A5,c5,rfl,hsl⟩:=SlB.of_own hown
      have HSL:=Lib.hid hsl
      refine hK.out _ _ (HSX.out _ hBn) (fun hHeld=>?_)
      clear hK K
      have hBm:=Lib.hid hBn
      clear hB hBn hgr hown hsl HOW
      have hB:=hBm
      clear hBm
      refine wpAnyH_ready (rs:=[6,10]) (by kernel_rfl) (by simp) ?_
      refine AllReadyH.cons rfl (fun K hK=>?_) (AllReadyH.cons rfl (fun K hK=>?_) AllReadyH.nil)
      ·go_simp
       (go_at_call 14; refine (HDC.out A5 c5 (l.length + P.length) z2 (l ++ P) _ (below_then HY.out.1 hB.out) HSL.out List.length_append HZ2.out (by omega)).mono ?_; rintro e x3 ⟨⟨A6,n6,c6,rfl⟩,hBa⟩)
       have hBn:=hB.out.trans (hBa.mono hB.out.size)
       go_wp2_with fail
       refine hK.out _ _ (HSX.out _ hBn) (fun hHeld=>?_)
       clear hK K
       have hBm:=Lib.hid hBn
       clear hB hBa hBn HSL
       have hB:=hBm
       clear hBm
       refine tk 7 ?_
       refine tk 8 ?_
       refine tk 9 ?_
       refine wpAnyH_ready (rs:=[10]) (by kernel_rfl) (by simp) ?_
       refine AllReadyH.cons rfl (fun K hK=>?_) AllReadyH.nil
       go_simp
       have hBa:=below_new x3 (.cells #[.slice none 0 0] 31)
       have hBn:=hB.out.trans (hBa.mono hB.out.size)
       refine hK.out _ _ (HSX.out _ hBn) (fun hHeld=>?_)
       clear hK K
       obtain ⟨g,hg⟩:∃ q,q = x3.heap.size:=⟨_,rfl⟩
       obtain ⟨x4,hx4⟩:∃ q,q = x3.alloc (.cells #[.slice none 0 0] 31):=⟨_,rfl⟩
       rw [← hg,← hx4]
       rw [← hx4] at hBa hBn hHeld
       have HG:Hid (x4.heap[g]? = some (.cells #[.slice none 0 0] 31 (0,0)) ∧ w6.heap.size ≤ g):=Lib.hid ⟨by rw [hx4,hg]; exact heap_alloc_new _ _,by rw [hg]; exact hB.out.size⟩
       have hBm:=Lib.hid hBn
       clear hB hBa hBn hg hx4
       have hB:=hBm
       clear hBm
       have z0:=bx1 HG.out.1
       have fz:x4.frozen? ⟨g,0,none⟩ = false:=by simp [World.frozen?,HG.out.1]
       refine wpAnyH_ready (rs:=[11]) (by kernel_rfl) (by simp) ?_
       refine AllReadyH.cons rfl (fun K hK=>?_) AllReadyH.nil
       go_simp
       have HBZ:=Lib.hid ((show Below w6.heap.size w6 (World.setCell x4 ⟨g,0,none⟩ (.slice A6 n6 c6)) from hB.out.setCell HG.out.2 (.slice A6 n6 c6)))
       refine hK.out _ _ (HSX.out _ HBZ.out) (fun hHeld=>?_)
       clear hK K
       refine tk 12 ?_
       refine wpAnyH_done (by kernel_rfl) ?_ _
       have HBE:=Lib.hid (below_then HY.out.1 HBZ.out)
       clear HBZ z0 fz hB HG hHeld
       go_wp2
       go_ret
       first | exact ⟨rfl,HBE.out⟩ | exact ⟨by simp [b8],HBE.out⟩
      ·go_simp
       have hBa:=below_new x2 (.cells #[.slice none 0 0] 31)
       have hBn:=hB.out.trans (hBa.mono hB.out.size)
       refine hK.out _ _ (HSX.out _ hBn) (fun hHeld=>?_)
       clear hK K
       obtain ⟨g,hg⟩:∃ q,q = x2.heap.size:=⟨_,rfl⟩
       obtain ⟨x3,hx3⟩:∃ q,q = x2.alloc (.cells #[.slice none 0 0] 31):=⟨_,rfl⟩
       rw [← hg,← hx3]
       rw [← hx3] at hBa hBn hHeld
       have HG:Hid (x3.heap[g]? = some (.cells #[.slice none 0 0] 31 (0,0)) ∧ w6.heap.size ≤ g):=Lib.hid ⟨by rw [hx3,hg]; exact heap_alloc_new _ _,by rw [hg]; exact hB.out.size⟩
       have HSLn:=Lib.hid (HSL.out.on hBa)
       have hBm:=Lib.hid hBn
       clear hB hBa hBn hg hx3 HSL
       have hB:=hBm
       clear hBm
       have HSL:=HSLn
       clear HSLn
       refine wpAnyH_ready (rs:=[6]) (by kernel_rfl) (by simp) ?_
       refine AllReadyH.cons rfl (fun K hK=>?_) AllReadyH.nil
       go_simp
       (go_at_call 14; refine (HDC.out A5 c5 (l.length + P.length) z2 (l ++ P) _ (below_then HY.out.1 hB.out) HSL.out List.length_append HZ2.out (by omega)).mono ?_; rintro e x4 ⟨⟨A6,n6,c6,rfl⟩,hBa⟩)
       have hBn:=hB.out.trans (hBa.mono hB.out.size)
       have HGn:=Lib.hid (And.intro ((hBa.block _ (Array.getElem?_eq_some_iff.1 HG.out.1).1).trans HG.out.1) HG.out.2)
       go_wp2_with fail
       refine hK.out _ _ (HSX.out _ hBn) (fun hHeld=>?_)
       clear hK K
       have hBm:=Lib.hid hBn
       clear hB hBa hBn HSL HG
       have hB:=hBm
       clear hBm
       have HG:=HGn
       clear HGn
       refine tk 7 ?_
       refine tk 8 ?_
       refine tk 9 ?_
       have z0:=bx1 HG.out.1
       have fz:x4.frozen? ⟨g,0,none⟩ = false:=by simp [World.frozen?,HG.out.1]
       refine wpAnyH_ready (rs:=[11]) (by kernel_rfl) (by simp) ?_
       refine AllReadyH.cons rfl (fun K hK=>?_) AllReadyH.nil
       go_simp
       have HBZ:=Lib.hid ((show Below w6.heap.size w6 (World.setCell x4 ⟨g,0,none⟩ (.slice A6 n6 c6)) from hB.out.setCell HG.out.2 (.slice A6 n6 c6)))
       refine hK.out _ _ (HSX.out _ HBZ.out) (fun hHeld=>?_)
       clear hK K
       refine tk 12 ?_
       refine wpAnyH_done (by kernel_rfl) ?_ _
       have HBE:=Lib.hid (below_then HY.out.1 HBZ.out)
       clear HBZ z0 fz hB HG hHeld
       go_wp2
       go_ret
       first | exact ⟨rfl,HBE.out⟩ | exact ⟨by simp [b8],HBE.out⟩
     ·go_simp
      have hBa:=below_new x1 (.cells #[.slice none 0 0] 31)
      have hBn:=hB.out.trans (hBa.mono hB.out.size)
      refine hK.out _ _ (HSX.out _ hBn) (fun hHeld=>?_)
      clear hK K
      obtain ⟨g,hg⟩:∃ q,q = x1.heap.size:=⟨_,rfl⟩
      obtain ⟨x2,hx2⟩:∃ q,q = x1.alloc (.cells #[.slice none 0 0] 31):=⟨_,rfl⟩
      rw [← hg,← hx2]
      rw [← hx2] at hBa hBn hHeld
      have HG:Hid (x2.heap[g]? = some (.cells #[.slice none 0 0] 31 (0,0)) ∧ w6.heap.size ≤ g):=Lib.hid ⟨by rw [hx2,hg]; exact heap_alloc_new _ _,by rw [hg]; exact hB.out.size⟩
      have HOWn:=Lib.hid (own_hi HOW.out (hi_below w6.heap.size hBa))
      have hBm:=Lib.hid hBn
      clear hB hBa hBn hg hx2 HOW
      have hB:=hBm
      clear hBm
      have HOW:=HOWn
      clear HOWn
      refine wpAnyH_ready (rs:=[5]) (by kernel_rfl) (by simp) ?_
      refine AllReadyH.cons rfl (fun K hK=>?_) AllReadyH.nil
      refine step_app_sl rfl _ _ 26 rfl w6.heap.size 5 i0 (.int .u8 0) 1 1 Tryz.underlying26 hi hz0 hz1 hz2 rfl (by omega) v3 (0 + l.length) ([] ++ bs l) (by simp [Act.eval,Act.put]) HOW.out Ap P.length cp (bs P) (by simp [Act.eval,Act.put]) (HRP.out.on hB.out) (bs_one P) (by unfold maxLen; omega) (by omega) hB.out.size ?_
      intro v5 x3 hown hgr
      have hBn:=hB.out.trans (below_app HOW.out hgr hB.out.size)
      have HGn:=Lib.hid (And.intro (own_far11 HOW.out hgr HG.out.1 (by decide)) HG.out.2)
      rw [E1.out,E2.out] at hown
      obtain ⟨A5,c5,rfl,hsl⟩:=SlB.of_own hown
      have HSL:=Lib.hid hsl
      refine hK.out _ _ (HSX.out _ hBn) (fun hHeld=>?_)
      clear hK K
      have hBm:=Lib.hid hBn
      clear hB hBn hgr hown hsl HOW HG
      have hB:=hBm
      clear hBm
      have HG:=HGn
      clear HGn
      refine wpAnyH_ready (rs:=[6]) (by kernel_rfl) (by simp) ?_
      refine AllReadyH.cons rfl (fun K hK=>?_) AllReadyH.nil
      go_simp
      (go_at_call 14; refine (HDC.out A5 c5 (l.length + P.length) z2 (l ++ P) _ (below_then HY.out.1 hB.out) HSL.out List.length_append HZ2.out (by omega)).mono ?_; rintro e x4 ⟨⟨A6,n6,c6,rfl⟩,hBa⟩)
      have hBn:=hB.out.trans (hBa.mono hB.out.size)
      have HGn:=Lib.hid (And.intro ((hBa.block _ (Array.getElem?_eq_some_iff.1 HG.out.1).1).trans HG.out.1) HG.out.2)
      go_wp2_with fail
      refine hK.out _ _ (HSX.out _ hBn) (fun hHeld=>?_)
      clear hK K
      have hBm:=Lib.hid hBn
      clear hB hBa hBn HSL HG
      have hB:=hBm
      clear hBm
      have HG:=HGn
      clear HGn
      refine tk 7 ?_
      refine tk 8 ?_
      refine tk 9 ?_
      have z0:=bx1 HG.out.1
      have fz:x4.frozen? ⟨g,0,none⟩ = false:=by simp [World.frozen?,HG.out.1]
      refine wpAnyH_ready (rs:=[11]) (by kernel_rfl) (by simp) ?_
      refine AllReadyH.cons rfl (fun K hK=>?_) AllReadyH.nil
      go_simp
      have HBZ:=Lib.hid ((show Below w6.heap.size w6 (World.setCell x4 ⟨g,0,none⟩ (.slice A6 n6 c6)) from hB.out.setCell HG.out.2 (.slice A6 n6 c6)))
      refine hK.out _ _ (HSX.out _ HBZ.out) (fun hHeld=>?_)
      clear hK K
      refine tk 12 ?_
      refine wpAnyH_done (by kernel_rfl) ?_ _
      have HBE:=Lib.hid (below_then HY.out.1 HBZ.out)
      clear HBZ z0 fz hB HG hHeld
      go_wp2
      go_ret
      first | exact ⟨rfl,HBE.out⟩ | exact ⟨by simp [b8],HBE.out⟩
    ·go_simp
     have hBa:=below_new x0 (.cells #[.slice none 0 0] 31)
     have hBn:=hB.out.trans (hBa.mono hB.out.size)
     refine hK.out _ _ (HSX.out _ hBn) (fun hHeld=>?_)
     clear hK K
     obtain ⟨g,hg⟩:∃ q,q = x0.heap.size:=⟨_,rfl⟩
     obtain ⟨x1,hx1⟩:∃ q,q = x0.alloc (.cells #[.slice none 0 0] 31):=⟨_,rfl⟩
     rw [← hg,← hx1]
     rw [← hx1] at hBa hBn hHeld
     have HG:Hid (x1.heap[g]? = some (.cells #[.slice none 0 0] 31 (0,0)) ∧ w6.heap.size ≤ g):=Lib.hid ⟨by rw [hx1,hg]; exact heap_alloc_new _ _,by rw [hg]; exact hB.out.size⟩
     have hBm:=Lib.hid hBn
     clear hB hBa hBn hg hx1
     have hB:=hBm
     clear hBm
     refine wpAnyH_ready (rs:=[3]) (by kernel_rfl) (by simp) ?_
     refine AllReadyH.cons rfl (fun K hK=>?_) AllReadyH.nil
     refine step_app_sl rfl _ _ 26 rfl w6.heap.size 5 i0 (.int .u8 0) 1 1 Tryz.underlying26 hi hz0 hz1 hz2 rfl (by omega) (.slice none 0 0) 0 [] (by simp [Act.eval,Act.put]) (World.ownsRow_nil _ _ _ _) A l.length c (bs l) (by simp [Act.eval,Act.put]) (HRA.out.on hB.out) (bs_one l) (by unfold maxLen; omega) (by omega) hB.out.size ?_
     intro v3 x2 hown hgr
     have hBa:Below x1.heap.size x1 x2:=(Below.refl _ _).grown hgr (Nat.le_refl _) (by intro k hk; cases hk)
     have hBn:=hB.out.trans (hBa.mono hB.out.size)
     have HGn:=Lib.hid (And.intro ((hBa.block _ (Array.getElem?_eq_some_iff.1 HG.out.1).1).trans HG.out.1) HG.out.2)
     have HOW:=Lib.hid hown
     refine hK.out _ _ (HSX.out _ hBn) (fun hHeld=>?_)
     clear hK K
     have hBm:=Lib.hid hBn
     clear hB hBa hBn hgr hown HG
     have hB:=hBm
     clear hBm
     have HG:=HGn
     clear HGn
     refine wpAnyH_ready (rs:=[5]) (by kernel_rfl) (by simp) ?_
     refine AllReadyH.cons rfl (fun K hK=>?_) AllReadyH.nil
     refine step_app_sl rfl _ _ 26 rfl w6.heap.size 5 i0 (.int .u8 0) 1 1 Tryz.underlying26 hi hz0 hz1 hz2 rfl (by omega) v3 (0 + l.length) ([] ++ bs l) (by simp [Act.eval,Act.put]) HOW.out Ap P.length cp (bs P) (by simp [Act.eval,Act.put]) (HRP.out.on hB.out) (bs_one P) (by unfold maxLen; omega) (by omega) hB.out.size ?_
     intro v5 x3 hown hgr
     have hBn:=hB.out.trans (below_app HOW.out hgr hB.out.size)
     have HGn:=Lib.hid (And.intro (own_far11 HOW.out hgr HG.out.1 (by decide)) HG.out.2)
     rw [E1.out,E2.out] at hown
     obtain ⟨A5,c5,rfl,hsl⟩:=SlB.of_own hown
     have HSL:=Lib.hid hsl
     refine hK.out _ _ (HSX.out _ hBn) (fun hHeld=>?_)
     clear hK K
     have hBm:=Lib.hid hBn
     clear hB hBn hgr hown hsl HOW HG
     have hB:=hBm
     clear hBm
     have HG:=HGn
     clear HGn
     refine wpAnyH_ready (rs:=[6]) (by kernel_rfl) (by simp) ?_
     refine AllReadyH.cons rfl (fun K hK=>?_) AllReadyH.nil
     go_simp
     (go_at_call 14; refine (HDC.out A5 c5 (l.length + P.length) z2 (l ++ P) _ (below_then HY.out.1 hB.out) HSL.out List.length_append HZ2.out (by omega)).mono ?_; rintro e x4 ⟨⟨A6,n6,c6,rfl⟩,hBa⟩)
     have hBn:=hB.out.trans (hBa.mono hB.out.size)
     have HGn:=Lib.hid (And.intro ((hBa.block _ (Array.getElem?_eq_some_iff.1 HG.out.1).1).trans HG.out.1) HG.out.2)
     go_wp2_with fail
     refine hK.out _ _ (HSX.out _ hBn) (fun hHeld=>?_)
     clear hK K
     have hBm:=Lib.hid hBn
     clear hB hBa hBn HSL HG
     have hB:=hBm
     clear hBm
     have HG:=HGn
     clear HGn
     refine tk 7 ?_
     refine tk 8 ?_
     refine tk 9 ?_
     have z0:=bx1 HG.out.1
     have fz:x4.frozen? ⟨g,0,none⟩ = false:=by simp [World.frozen?,HG.out.1]
     refine wpAnyH_ready (rs:=[11]) (by kernel_rfl) (by simp) ?_
     refine AllReadyH.cons rfl (fun K hK=>?_) AllReadyH.nil
     go_simp
     have HBZ:=Lib.hid ((show Below w6.heap.size w6 (World.setCell x4 ⟨g,0,none⟩ (.slice A6 n6 c6)) from hB.out.setCell HG.out.2 (.slice A6 n6 c6)))
     refine hK.out _ _ (HSX.out _ HBZ.out) (fun hHeld=>?_)
     clear hK K
     refine tk 12 ?_
     refine wpAnyH_done (by kernel_rfl) ?_ _
     have HBE:=Lib.hid (below_then HY.out.1 HBZ.out)
     clear HBZ z0 fz hB HG hHeld
     go_wp2
     go_ret
     first | exact ⟨rfl,HBE.out⟩ | exact ⟨by simp [b8],HBE.out⟩
   | true =>
    cases cn with
    | false =>
     have HT8:=Lib.hid (HTL3.out (fun h=>by cases h.2.1))
     obtain ⟨z2,hz2⟩:∃ q,codeE (toldE s m (l ++ P)) = q:=⟨_,rfl⟩
     have b8:((z2:Int) == 8) = true:=by rw [← hz2,HT8.out]; rfl
     have HZ2:=Lib.hid hz2
     have HRA:=Lib.hid (HR.out _ HY.out.1).1
     have HRP:=Lib.hid HY.out.2.2
     have E1:Hid (0 + l.length + P.length = (l ++ P).length):=Lib.hid (by rw [List.length_append]; omega)
     have E2:Hid ([] ++ bs l ++ bs P = bs (l ++ P)):=Lib.hid (by simp [bs])
     have HSX:Hid (∀ wx,Below w6.heap.size w6 wx → wx.cell? ⟨w.heap.size,0,none⟩ = some (.slice A1 s.M.length q1) ∧ wx.cell? ⟨w.heap.size,1,none⟩ = some (.slice A2 s.E.length q2)):=Lib.hid (fun wx hx=>box2' (box_on HY.out.2.1 hx))
     clear hz2 HT8
     go_wp2_with fail
     refine wp_region_held_drew (S:=(fun w'=>w'.cell? ⟨w.heap.size,0,none⟩ = some (.slice A1 s.M.length q1) ∧ w'.cell? ⟨w.heap.size,1,none⟩ = some (.slice A2 s.E.length q2))) (by kernel_rfl) (HSX.out _ (Below.refl _ _).drew) (fun hHeld=>?_)
     refine tk 0 ?_
     refine tk 1 ?_
     refine tk 2 ?_
     refine tk 4 ?_
     obtain ⟨x0,hx0⟩:∃ x,x = w6.drew:=⟨_,rfl⟩
     rw [← hx0]
     have hB:Hid (Below w6.heap.size w6 x0):=Lib.hid (by rw [hx0]; exact (Below.refl _ _).drew)
     clear hx0
     refine wpAnyH_ready (rs:=[3,10]) (by kernel_rfl) (by simp) ?_
     refine AllReadyH.cons rfl (fun K hK=>?_) (AllReadyH.cons rfl (fun K hK=>?_) AllReadyH.nil)
     ·refine step_app_sl rfl _ _ 26 rfl w6.heap.size 5 i0 (.int .u8 0) 1 1 Tryz.underlying26 hi hz0 hz1 hz2 rfl (by omega) (.slice none 0 0) 0 [] (by simp [Act.eval,Act.put]) (World.ownsRow_nil _ _ _ _) A l.length c (bs l) (by simp [Act.eval,Act.put]) (HRA.out.on hB.out) (bs_one l) (by unfold maxLen; omega) (by omega) hB.out.size ?_
      intro v3 x1 hown hgr
      have hBa:Below x0.heap.size x0 x1:=(Below.refl _ _).grown hgr (Nat.le_refl _) (by intro k hk; cases hk)
      have hBn:=hB.out.trans (hBa.mono hB.out.size)
      have HOW:=Lib.hid hown
      refine hK.out _ _ (HSX.out _ hBn) (fun hHeld=>?_)
      clear hK K
      have hBm:=Lib.hid hBn
      clear hB hBa hBn hgr hown
      have hB:=hBm
      clear hBm
      refine wpAnyH_ready (rs:=[5,10]) (by kernel_rfl) (by simp) ?_
      refine AllReadyH.cons rfl (fun K hK=>?_) (AllReadyH.cons rfl (fun K hK=>?_) AllReadyH.nil)
      ·refine step_app_sl rfl _ _ 26 rfl w6.heap.size 5 i0 (.int .u8 0) 1 1 Tryz.underlying26 hi hz0 hz1 hz2 rfl (by omega) v3 (0 + l.length) ([] ++ bs l) (by simp [Act.eval,Act.put]) HOW.out Ap P.length cp (bs P) (by simp [Act.eval,Act.put]) (HRP.out.on hB.out) (bs_one P) (by unfold maxLen; omega) (by omega) hB.out.size ?_
       intro v5 x2 hown hgr
       have hBn:=hB.out.trans (below_app HOW.out hgr hB.out.size)
       rw [E1.out,E2.out] at hown
       obtain ⟨A5,c5,rfl,hsl⟩:=SlB.of_own hown
       have HSL:=Lib.hid hsl
       refine hK.out _ _ (HSX.out _ hBn) (fun hHeld=>?_)
       clear hK K
       have hBm:=Lib.hid hBn
       clear hB hBn hgr hown hsl HOW
       have hB:=hBm
       clear hBm
       refine wpAnyH_ready (rs:=[6,10]) (by kernel_rfl) (by simp) ?_
       refine AllReadyH.cons rfl (fun K hK=>?_) (AllReadyH.cons rfl (fun K hK=>?_) AllReadyH.nil)
       ·go_simp
        (go_at_call 14; refine (HDC.out A5 c5 (l.length + P.length) z2 (l ++ P) _ (below_then HY.out.1 hB.out) HSL.out List.length_append HZ2.out (by omega)).mono ?_; rintro e x3 ⟨⟨A6,n6,c6,rfl⟩,hBa⟩)
        have hBn:=hB.out.trans (hBa.mono hB.out.size)
        go_wp2_with fail
        refine hK.out _ _ (HSX.out _ hBn) (fun hHeld=>?_)
        clear hK K
        have hBm:=Lib.hid hBn
        clear hB hBa hBn HSL
        have hB:=hBm
        clear hBm
        refine tk 7 ?_
        refine tk 8 ?_
        refine tk 9 ?_
        refine wpAnyH_ready (rs:=[10]) (by kernel_rfl) (by simp) ?_
        refine AllReadyH.cons rfl (fun K hK=>?_) AllReadyH.nil
        go_simp
        have hBa:=below_new x3 (.cells #[.slice none 0 0] 31)
        have hBn:=hB.out.trans (hBa.mono hB.out.size)
        refine hK.out _ _ (HSX.out _ hBn) (fun hHeld=>?_)
        clear hK K
        obtain ⟨g,hg⟩:∃ q,q = x3.heap.size:=⟨_,rfl⟩
        obtain ⟨x4,hx4⟩:∃ q,q = x3.alloc (.cells #[.slice none 0 0] 31):=⟨_,rfl⟩
        rw [← hg,← hx4]
        rw [← hx4] at hBa hBn hHeld
        have HG:Hid (x4.heap[g]? = some (.cells #[.slice none 0 0] 31 (0,0)) ∧ w6.heap.size ≤ g):=Lib.hid ⟨by rw [hx4,hg]; exact heap_alloc_new _ _,by rw [hg]; exact hB.out.size⟩
        have hBm:=Lib.hid hBn
        clear hB hBa hBn hg hx4
        have hB:=hBm
        clear hBm
        have z0:=bx1 HG.out.1
        have fz:x4.frozen? ⟨g,0,none⟩ = false:=by simp [World.frozen?,HG.out.1]
        refine wpAnyH_ready (rs:=[11]) (by kernel_rfl) (by simp) ?_
        refine AllReadyH.cons rfl (fun K hK=>?_) AllReadyH.nil
        go_simp
        have HBZ:=Lib.hid ((show Below w6.heap.size w6 (World.setCell x4 ⟨g,0,none⟩ (.slice A6 n6 c6)) from hB.out.setCell HG.out.2 (.slice A6 n6 c6)))
        refine hK.out _ _ (HSX.out _ HBZ.out) (fun hHeld=>?_)
        clear hK K
        refine tk 12 ?_
        refine wpAnyH_done (by kernel_rfl) ?_ _
        have HBE:=Lib.hid (below_then HY.out.1 HBZ.out)
        clear HBZ z0 fz hB HG hHeld
        go_wp2
        go_ret
        first | exact ⟨rfl,HBE.out⟩ | exact ⟨by simp [b8],HBE.out⟩
       ·go_simp
        have hBa:=below_new x2 (.cells #[.slice none 0 0] 31)
        have hBn:=hB.out.trans (hBa.mono hB.out.size)
        refine hK.out _ _ (HSX.out _ hBn) (fun hHeld=>?_)
        clear hK K
        obtain ⟨g,hg⟩:∃ q,q = x2.heap.size:=⟨_,rfl⟩
        obtain ⟨x3,hx3⟩:∃ q,q = x2.alloc (.cells #[.slice none 0 0] 31):=⟨_,rfl⟩
        rw [← hg,← hx3]
        rw [← hx3] at hBa hBn hHeld
        have HG:Hid (x3.heap[g]? = some (.cells #[.slice none 0 0] 31 (0,0)) ∧ w6.heap.size ≤ g):=Lib.hid ⟨by rw [hx3,hg]; exact heap_alloc_new _ _,by rw [hg]; exact hB.out.size⟩
        have HSLn:=Lib.hid (HSL.out.on hBa)
        have hBm:=Lib.hid hBn
        clear hB hBa hBn hg hx3 HSL
        have hB:=hBm
        clear hBm
        have HSL:=HSLn
        clear HSLn
        refine wpAnyH_ready (rs:=[6]) (by kernel_rfl) (by simp) ?_
        refine AllReadyH.cons rfl (fun K hK=>?_) AllReadyH.nil
        go_simp
        (go_at_call 14; refine (HDC.out A5 c5 (l.length + P.length) z2 (l ++ P) _ (below_then HY.out.1 hB.out) HSL.out List.length_append HZ2.out (by omega)).mono ?_; rintro e x4 ⟨⟨A6,n6,c6,rfl⟩,hBa⟩)
        have hBn:=hB.out.trans (hBa.mono hB.out.size)
        have HGn:=Lib.hid (And.intro ((hBa.block _ (Array.getElem?_eq_some_iff.1 HG.out.1).1).trans HG.out.1) HG.out.2)
        go_wp2_with fail
        refine hK.out _ _ (HSX.out _ hBn) (fun hHeld=>?_)
        clear hK K
        have hBm:=Lib.hid hBn
        clear hB hBa hBn HSL HG
        have hB:=hBm
        clear hBm
        have HG:=HGn
        clear HGn
        refine tk 7 ?_
        refine tk 8 ?_
        refine tk 9 ?_
        have z0:=bx1 HG.out.1
        have fz:x4.frozen? ⟨g,0,none⟩ = false:=by simp [World.frozen?,HG.out.1]
        refine wpAnyH_ready (rs:=[11]) (by kernel_rfl) (by simp) ?_
        refine AllReadyH.cons rfl (fun K hK=>?_) AllReadyH.nil
        go_simp
        have HBZ:=Lib.hid ((show Below w6.heap.size w6 (World.setCell x4 ⟨g,0,none⟩ (.slice A6 n6 c6)) from hB.out.setCell HG.out.2 (.slice A6 n6 c6)))
        refine hK.out _ _ (HSX.out _ HBZ.out) (fun hHeld=>?_)
        clear hK K
        refine tk 12 ?_
        refine wpAnyH_done (by kernel_rfl) ?_ _
        have HBE:=Lib.hid (below_then HY.out.1 HBZ.out)
        clear HBZ z0 fz hB HG hHeld
        go_wp2
        go_ret
        first | exact ⟨rfl,HBE.out⟩ | exact ⟨by simp [b8],HBE.out⟩
      ·go_simp
       have hBa:=below_new x1 (.cells #[.slice none 0 0] 31)
       have hBn:=hB.out.trans (hBa.mono hB.out.size)
       refine hK.out _ _ (HSX.out _ hBn) (fun hHeld=>?_)
       clear hK K
       obtain ⟨g,hg⟩:∃ q,q = x1.heap.size:=⟨_,rfl⟩
       obtain ⟨x2,hx2⟩:∃ q,q = x1.alloc (.cells #[.slice none 0 0] 31):=⟨_,rfl⟩
       rw [← hg,← hx2]
       rw [← hx2] at hBa hBn hHeld
       have HG:Hid (x2.heap[g]? = some (.cells #[.slice none 0 0] 31 (0,0)) ∧ w6.heap.size ≤ g):=Lib.hid ⟨by rw [hx2,hg]; exact heap_alloc_new _ _,by rw [hg]; exact hB.out.size⟩
       have HOWn:=Lib.hid (own_hi HOW.out (hi_below w6.heap.size hBa))
       have hBm:=Lib.hid hBn
       clear hB hBa hBn hg hx2 HOW
       have hB:=hBm
       clear hBm
       have HOW:=HOWn
       clear HOWn
       refine wpAnyH_ready (rs:=[5]) (by kernel_rfl) (by simp) ?_
       refine AllReadyH.cons rfl (fun K hK=>?_) AllReadyH.nil
       refine step_app_sl rfl _ _ 26 rfl w6.heap.size 5 i0 (.int .u8 0) 1 1 Tryz.underlying26 hi hz0 hz1 hz2 rfl (by omega) v3 (0 + l.length) ([] ++ bs l) (by simp [Act.eval,Act.put]) HOW.out Ap P.length cp (bs P) (by simp [Act.eval,Act.put]) (HRP.out.on hB.out) (bs_one P) (by unfold maxLen; omega) (by omega) hB.out.size ?_
       intro v5 x3 hown hgr
       have hBn:=hB.out.trans (below_app HOW.out hgr hB.out.size)
       have HGn:=Lib.hid (And.intro (own_far11 HOW.out hgr HG.out.1 (by decide)) HG.out.2)
       rw [E1.out,E2.out] at hown
       obtain ⟨A5,c5,rfl,hsl⟩:=SlB.of_own hown
       have HSL:=Lib.hid hsl
       refine hK.out _ _ (HSX.out _ hBn) (fun hHeld=>?_)
       clear hK K
       have hBm:=Lib.hid hBn
       clear hB hBn hgr hown hsl HOW HG
       have hB:=hBm
       clear hBm
       have HG:=HGn
       clear HGn
       refine wpAnyH_ready (rs:=[6]) (by kernel_rfl) (by simp) ?_
       refine AllReadyH.cons rfl (fun K hK=>?_) AllReadyH.nil
       go_simp
       (go_at_call 14; refine (HDC.out A5 c5 (l.length + P.length) z2 (l ++ P) _ (below_then HY.out.1 hB.out) HSL.out List.length_append HZ2.out (by omega)).mono ?_; rintro e x4 ⟨⟨A6,n6,c6,rfl⟩,hBa⟩)
       have hBn:=hB.out.trans (hBa.mono hB.out.size)
       have HGn:=Lib.hid (And.intro ((hBa.block _ (Array.getElem?_eq_some_iff.1 HG.out.1).1).trans HG.out.1) HG.out.2)
       go_wp2_with fail
       refine hK.out _ _ (HSX.out _ hBn) (fun hHeld=>?_)
       clear hK K
       have hBm:=Lib.hid hBn
       clear hB hBa hBn HSL HG
       have hB:=hBm
       clear hBm
       have HG:=HGn
       clear HGn
       refine tk 7 ?_
       refine tk 8 ?_
       refine tk 9 ?_
       have z0:=bx1 HG.out.1
       have fz:x4.frozen? ⟨g,0,none⟩ = false:=by simp [World.frozen?,HG.out.1]
       refine wpAnyH_ready (rs:=[11]) (by kernel_rfl) (by simp) ?_
       refine AllReadyH.cons rfl (fun K hK=>?_) AllReadyH.nil
       go_simp
       have HBZ:=Lib.hid ((show Below w6.heap.size w6 (World.setCell x4 ⟨g,0,none⟩ (.slice A6 n6 c6)) from hB.out.setCell HG.out.2 (.slice A6 n6 c6)))
       refine hK.out _ _ (HSX.out _ HBZ.out) (fun hHeld=>?_)
       clear hK K
       refine tk 12 ?_
       refine wpAnyH_done (by kernel_rfl) ?_ _
       have HBE:=Lib.hid (below_then HY.out.1 HBZ.out)
       clear HBZ z0 fz hB HG hHeld
       go_wp2
       go_ret
       first | exact ⟨rfl,HBE.out⟩ | exact ⟨by simp [b8],HBE.out⟩
     ·go_simp
      have hBa:=below_new x0 (.cells #[.slice none 0 0] 31)
      have hBn:=hB.out.trans (hBa.mono hB.out.size)
      refine hK.out _ _ (HSX.out _ hBn) (fun hHeld=>?_)
      clear hK K
      obtain ⟨g,hg⟩:∃ q,q = x0.heap.size:=⟨_,rfl⟩
      obtain ⟨x1,hx1⟩:∃ q,q = x0.alloc (.cells #[.slice none 0 0] 31):=⟨_,rfl⟩
      rw [← hg,← hx1]
      rw [← hx1] at hBa hBn hHeld
      have HG:Hid (x1.heap[g]? = some (.cells #[.slice none 0 0] 31 (0,0)) ∧ w6.heap.size ≤ g):=Lib.hid ⟨by rw [hx1,hg]; exact heap_alloc_new _ _,by rw [hg]; exact hB.out.size⟩
      have hBm:=Lib.hid hBn
      clear hB hBa hBn hg hx1
      have hB:=hBm
      clear hBm
      refine wpAnyH_ready (rs:=[3]) (by kernel_rfl) (by simp) ?_
      refine AllReadyH.cons rfl (fun K hK=>?_) AllReadyH.nil
      refine step_app_sl rfl _ _ 26 rfl w6.heap.size 5 i0 (.int .u8 0) 1 1 Tryz.underlying26 hi hz0 hz1 hz2 rfl (by omega) (.slice none 0 0) 0 [] (by simp [Act.eval,Act.put]) (World.ownsRow_nil _ _ _ _) A l.length c (bs l) (by simp [Act.eval,Act.put]) (HRA.out.on hB.out) (bs_one l) (by unfold maxLen; omega) (by omega) hB.out.size ?_
      intro v3 x2 hown hgr
      have hBa:Below x1.heap.size x1 x2:=(Below.refl _ _).grown hgr (Nat.le_refl _) (by intro k hk; cases hk)
      have hBn:=hB.out.trans (hBa.mono hB.out.size)
      have HGn:=Lib.hid (And.intro ((hBa.block _ (Array.getElem?_eq_some_iff.1 HG.out.1).1).trans HG.out.1) HG.out.2)
      have HOW:=Lib.hid hown
      refine hK.out _ _ (HSX.out _ hBn) (fun hHeld=>?_)
      clear hK K
      have hBm:=Lib.hid hBn
      clear hB hBa hBn hgr hown HG
      have hB:=hBm
      clear hBm
      have HG:=HGn
      clear HGn
      refine wpAnyH_ready (rs:=[5]) (by kernel_rfl) (by simp) ?_
      refine AllReadyH.cons rfl (fun K hK=>?_) AllReadyH.nil
      refine step_app_sl rfl _ _ 26 rfl w6.heap.size 5 i0 (.int .u8 0) 1 1 Tryz.underlying26 hi hz0 hz1 hz2 rfl (by omega) v3 (0 + l.length) ([] ++ bs l) (by simp [Act.eval,Act.put]) HOW.out Ap P.length cp (bs P) (by simp [Act.eval,Act.put]) (HRP.out.on hB.out) (bs_one P) (by unfold maxLen; omega) (by omega) hB.out.size ?_
      intro v5 x3 hown hgr
      have hBn:=hB.out.trans (below_app HOW.out hgr hB.out.size)
      have HGn:=Lib.hid (And.intro (own_far11 HOW.out hgr HG.out.1 (by decide)) HG.out.2)
      rw [E1.out,E2.out] at hown
      obtain ⟨A5,c5,rfl,hsl⟩:=SlB.of_own hown
      have HSL:=Lib.hid hsl
      refine hK.out _ _ (HSX.out _ hBn) (fun hHeld=>?_)
      clear hK K
      have hBm:=Lib.hid hBn
      clear hB hBn hgr hown hsl HOW HG
      have hB:=hBm
      clear hBm
      have HG:=HGn
      clear HGn
      refine wpAnyH_ready (rs:=[6]) (by kernel_rfl) (by simp) ?_
      refine AllReadyH.cons rfl (fun K hK=>?_) AllReadyH.nil
      go_simp
      (go_at_call 14; refine (HDC.out A5 c5 (l.length + P.length) z2 (l ++ P) _ (below_then HY.out.1 hB.out) HSL.out List.length_append HZ2.out (by omega)).mono ?_; rintro e x4 ⟨⟨A6,n6,c6,rfl⟩,hBa⟩)
      have hBn:=hB.out.trans (hBa.mono hB.out.size)
      have HGn:=Lib.hid (And.intro ((hBa.block _ (Array.getElem?_eq_some_iff.1 HG.out.1).1).trans HG.out.1) HG.out.2)
      go_wp2_with fail
      refine hK.out _ _ (HSX.out _ hBn) (fun hHeld=>?_)
      clear hK K
      have hBm:=Lib.hid hBn
      clear hB hBa hBn HSL HG
      have hB:=hBm
      clear hBm
      have HG:=HGn
      clear HGn
      refine tk 7 ?_
      refine tk 8 ?_
      refine tk 9 ?_
      have z0:=bx1 HG.out.1
      have fz:x4.frozen? ⟨g,0,none⟩ = false:=by simp [World.frozen?,HG.out.1]
      refine wpAnyH_ready (rs:=[11]) (by kernel_rfl) (by simp) ?_
      refine AllReadyH.cons rfl (fun K hK=>?_) AllReadyH.nil
      go_simp
      have HBZ:=Lib.hid ((show Below w6.heap.size w6 (World.setCell x4 ⟨g,0,none⟩ (.slice A6 n6 c6)) from hB.out.setCell HG.out.2 (.slice A6 n6 c6)))
      refine hK.out _ _ (HSX.out _ HBZ.out) (fun hHeld=>?_)
      clear hK K
      refine tk 12 ?_
      refine wpAnyH_done (by kernel_rfl) ?_ _
      have HBE:=Lib.hid (below_then HY.out.1 HBZ.out)
      clear HBZ z0 fz hB HG hHeld
      go_wp2
      go_ret
      first | exact ⟨rfl,HBE.out⟩ | exact ⟨by simp [b8],HBE.out⟩
    | true =>
     by_cases h2:wire = 2
     ·have b4:((wire:Int) == 2) = true:=by rw [h2]; rfl
      clear h2
      go_wp2
      go_ret
      exact ⟨rfl,HY.out.1⟩
     ·have b4:((wire:Int) == 2) = false:=by rw [beq_eq_false_iff_ne]; exact h2
      have HT8:=Lib.hid (HTL3.out (fun h=>h2 h.2.2))
      obtain ⟨z2,hz2⟩:∃ q,codeE (toldE s m (l ++ P)) = q:=⟨_,rfl⟩
      have b8:((z2:Int) == 8) = true:=by rw [← hz2,HT8.out]; rfl
      have HZ2:=Lib.hid hz2
      have HRA:=Lib.hid (HR.out _ HY.out.1).1
      have HRP:=Lib.hid HY.out.2.2
      have E1:Hid (0 + l.length + P.length = (l ++ P).length):=Lib.hid (by rw [List.length_append]; omega)
      have E2:Hid ([] ++ bs l ++ bs P = bs (l ++ P)):=Lib.hid (by simp [bs])
      have HSX:Hid (∀ wx,Below w6.heap.size w6 wx → wx.cell? ⟨w.heap.size,0,none⟩ = some (.slice A1 s.M.length q1) ∧ wx.cell? ⟨w.heap.size,1,none⟩ = some (.slice A2 s.E.length q2)):=Lib.hid (fun wx hx=>box2' (box_on HY.out.2.1 hx))
      clear hz2 HT8
      go_wp2_with fail
      refine wp_region_held_drew (S:=(fun w'=>w'.cell? ⟨w.heap.size,0,none⟩ = some (.slice A1 s.M.length q1) ∧ w'.cell? ⟨w.heap.size,1,none⟩ = some (.slice A2 s.E.length q2))) (by kernel_rfl) (HSX.out _ (Below.refl _ _).drew) (fun hHeld=>?_)
      refine tk 0 ?_
      refine tk 1 ?_
      refine tk 2 ?_
      refine tk 4 ?_
      obtain ⟨x0,hx0⟩:∃ x,x = w6.drew:=⟨_,rfl⟩
      rw [← hx0]
      have hB:Hid (Below w6.heap.size w6 x0):=Lib.hid (by rw [hx0]; exact (Below.refl _ _).drew)
      clear hx0
      refine wpAnyH_ready (rs:=[3,10]) (by kernel_rfl) (by simp) ?_
      refine AllReadyH.cons rfl (fun K hK=>?_) (AllReadyH.cons rfl (fun K hK=>?_) AllReadyH.nil)
      ·refine step_app_sl rfl _ _ 26 rfl w6.heap.size 5 i0 (.int .u8 0) 1 1 Tryz.underlying26 hi hz0 hz1 hz2 rfl (by omega) (.slice none 0 0) 0 [] (by simp [Act.eval,Act.put]) (World.ownsRow_nil _ _ _ _) A l.length c (bs l) (by simp [Act.eval,Act.put]) (HRA.out.on hB.out) (bs_one l) (by unfold maxLen; omega) (by omega) hB.out.size ?_
       intro v3 x1 hown hgr
       have hBa:Below x0.heap.size x0 x1:=(Below.refl _ _).grown hgr (Nat.le_refl _) (by intro k hk; cases hk)
       have hBn:=hB.out.trans (hBa.mono hB.out.size)
       have HOW:=Lib.hid hown
       refine hK.out _ _ (HSX.out _ hBn) (fun hHeld=>?_)
       clear hK K
       have hBm:=Lib.hid hBn
       clear hB hBa hBn hgr hown
       have hB:=hBm
       clear hBm
       refine wpAnyH_ready (rs:=[5,10]) (by kernel_rfl) (by simp) ?_
       refine AllReadyH.cons rfl (fun K hK=>?_) (AllReadyH.cons rfl (fun K hK=>?_) AllReadyH.nil)
       ·refine step_app_sl rfl _ _ 26 rfl w6.heap.size 5 i0 (.int .u8 0) 1 1 Tryz.underlying26 hi hz0 hz1 hz2 rfl (by omega) v3 (0 + l.length) ([] ++ bs l) (by simp [Act.eval,Act.put]) HOW.out Ap P.length cp (bs P) (by simp [Act.eval,Act.put]) (HRP.out.on hB.out) (bs_one P) (by unfold maxLen; omega) (by omega) hB.out.size ?_
        intro v5 x2 hown hgr
        have hBn:=hB.out.trans (below_app HOW.out hgr hB.out.size)
        rw [E1.out,E2.out] at hown
        obtain ⟨A5,c5,rfl,hsl⟩:=SlB.of_own hown
        have HSL:=Lib.hid hsl
        refine hK.out _ _ (HSX.out _ hBn) (fun hHeld=>?_)
        clear hK K
        have hBm:=Lib.hid hBn
        clear hB hBn hgr hown hsl HOW
        have hB:=hBm
        clear hBm
        refine wpAnyH_ready (rs:=[6,10]) (by kernel_rfl) (by simp) ?_
        refine AllReadyH.cons rfl (fun K hK=>?_) (AllReadyH.cons rfl (fun K hK=>?_) AllReadyH.nil)
        ·go_simp
         (go_at_call 14; refine (HDC.out A5 c5 (l.length + P.length) z2 (l ++ P) _ (below_then HY.out.1 hB.out) HSL.out List.length_append HZ2.out (by omega)).mono ?_; rintro e x3 ⟨⟨A6,n6,c6,rfl⟩,hBa⟩)
         have hBn:=hB.out.trans (hBa.mono hB.out.size)
         go_wp2_with fail
         refine hK.out _ _ (HSX.out _ hBn) (fun hHeld=>?_)
         clear hK K
         have hBm:=Lib.hid hBn
         clear hB hBa hBn HSL
         have hB:=hBm
         clear hBm
         refine tk 7 ?_
         refine tk 8 ?_
         refine tk 9 ?_
         refine wpAnyH_ready (rs:=[10]) (by kernel_rfl) (by simp) ?_
         refine AllReadyH.cons rfl (fun K hK=>?_) AllReadyH.nil
         go_simp
         have hBa:=below_new x3 (.cells #[.slice none 0 0] 31)
         have hBn:=hB.out.trans (hBa.mono hB.out.size)
         refine hK.out _ _ (HSX.out _ hBn) (fun hHeld=>?_)
         clear hK K
         obtain ⟨g,hg⟩:∃ q,q = x3.heap.size:=⟨_,rfl⟩
         obtain ⟨x4,hx4⟩:∃ q,q = x3.alloc (.cells #[.slice none 0 0] 31):=⟨_,rfl⟩
         rw [← hg,← hx4]
         rw [← hx4] at hBa hBn hHeld
         have HG:Hid (x4.heap[g]? = some (.cells #[.slice none 0 0] 31 (0,0)) ∧ w6.heap.size ≤ g):=Lib.hid ⟨by rw [hx4,hg]; exact heap_alloc_new _ _,by rw [hg]; exact hB.out.size⟩
         have hBm:=Lib.hid hBn
         clear hB hBa hBn hg hx4
         have hB:=hBm
         clear hBm
         have z0:=bx1 HG.out.1
         have fz:x4.frozen? ⟨g,0,none⟩ = false:=by simp [World.frozen?,HG.out.1]
         refine wpAnyH_ready (rs:=[11]) (by kernel_rfl) (by simp) ?_
         refine AllReadyH.cons rfl (fun K hK=>?_) AllReadyH.nil
         go_simp
         have HBZ:=Lib.hid ((show Below w6.heap.size w6 (World.setCell x4 ⟨g,0,none⟩ (.slice A6 n6 c6)) from hB.out.setCell HG.out.2 (.slice A6 n6 c6)))
         refine hK.out _ _ (HSX.out _ HBZ.out) (fun hHeld=>?_)
         clear hK K
         refine tk 12 ?_
         refine wpAnyH_done (by kernel_rfl) ?_ _
         have HBE:=Lib.hid (below_then HY.out.1 HBZ.out)
         clear HBZ z0 fz hB HG hHeld
         go_wp2
         go_ret
         first | exact ⟨rfl,HBE.out⟩ | exact ⟨by simp [b8],HBE.out⟩
        ·go_simp
         have hBa:=below_new x2 (.cells #[.slice none 0 0] 31)
         have hBn:=hB.out.trans (hBa.mono hB.out.size)
         refine hK.out _ _ (HSX.out _ hBn) (fun hHeld=>?_)
         clear hK K
         obtain ⟨g,hg⟩:∃ q,q = x2.heap.size:=⟨_,rfl⟩
         obtain ⟨x3,hx3⟩:∃ q,q = x2.alloc (.cells #[.slice none 0 0] 31):=⟨_,rfl⟩
         rw [← hg,← hx3]
         rw [← hx3] at hBa hBn hHeld
         have HG:Hid (x3.heap[g]? = some (.cells #[.slice none 0 0] 31 (0,0)) ∧ w6.heap.size ≤ g):=Lib.hid ⟨by rw [hx3,hg]; exact heap_alloc_new _ _,by rw [hg]; exact hB.out.size⟩
         have HSLn:=Lib.hid (HSL.out.on hBa)
         have hBm:=Lib.hid hBn
         clear hB hBa hBn hg hx3 HSL
         have hB:=hBm
         clear hBm
         have HSL:=HSLn
         clear HSLn
         refine wpAnyH_ready (rs:=[6]) (by kernel_rfl) (by simp) ?_
         refine AllReadyH.cons rfl (fun K hK=>?_) AllReadyH.nil
         go_simp
         (go_at_call 14; refine (HDC.out A5 c5 (l.length + P.length) z2 (l ++ P) _ (below_then HY.out.1 hB.out) HSL.out List.length_append HZ2.out (by omega)).mono ?_; rintro e x4 ⟨⟨A6,n6,c6,rfl⟩,hBa⟩)
         have hBn:=hB.out.trans (hBa.mono hB.out.size)
         have HGn:=Lib.hid (And.intro ((hBa.block _ (Array.getElem?_eq_some_iff.1 HG.out.1).1).trans HG.out.1) HG.out.2)
         go_wp2_with fail
         refine hK.out _ _ (HSX.out _ hBn) (fun hHeld=>?_)
         clear hK K
         have hBm:=Lib.hid hBn
         clear hB hBa hBn HSL HG
         have hB:=hBm
         clear hBm
         have HG:=HGn
         clear HGn
         refine tk 7 ?_
         refine tk 8 ?_
         refine tk 9 ?_
         have z0:=bx1 HG.out.1
         have fz:x4.frozen? ⟨g,0,none⟩ = false:=by simp [World.frozen?,HG.out.1]
         refine wpAnyH_ready (rs:=[11]) (by kernel_rfl) (by simp) ?_
         refine AllReadyH.cons rfl (fun K hK=>?_) AllReadyH.nil
         go_simp
         have HBZ:=Lib.hid ((show Below w6.heap.size w6 (World.setCell x4 ⟨g,0,none⟩ (.slice A6 n6 c6)) from hB.out.setCell HG.out.2 (.slice A6 n6 c6)))
         refine hK.out _ _ (HSX.out _ HBZ.out) (fun hHeld=>?_)
         clear hK K
         refine tk 12 ?_
         refine wpAnyH_done (by kernel_rfl) ?_ _
         have HBE:=Lib.hid (below_then HY.out.1 HBZ.out)
         clear HBZ z0 fz hB HG hHeld
         go_wp2
         go_ret
         first | exact ⟨rfl,HBE.out⟩ | exact ⟨by simp [b8],HBE.out⟩
       ·go_simp
        have hBa:=below_new x1 (.cells #[.slice none 0 0] 31)
        have hBn:=hB.out.trans (hBa.mono hB.out.size)
        refine hK.out _ _ (HSX.out _ hBn) (fun hHeld=>?_)
        clear hK K
        obtain ⟨g,hg⟩:∃ q,q = x1.heap.size:=⟨_,rfl⟩
        obtain ⟨x2,hx2⟩:∃ q,q = x1.alloc (.cells #[.slice none 0 0] 31):=⟨_,rfl⟩
        rw [← hg,← hx2]
        rw [← hx2] at hBa hBn hHeld
        have HG:Hid (x2.heap[g]? = some (.cells #[.slice none 0 0] 31 (0,0)) ∧ w6.heap.size ≤ g):=Lib.hid ⟨by rw [hx2,hg]; exact heap_alloc_new _ _,by rw [hg]; exact hB.out.size⟩
        have HOWn:=Lib.hid (own_hi HOW.out (hi_below w6.heap.size hBa))
        have hBm:=Lib.hid hBn
        clear hB hBa hBn hg hx2 HOW
        have hB:=hBm
        clear hBm
        have HOW:=HOWn
        clear HOWn
        refine wpAnyH_ready (rs:=[5]) (by kernel_rfl) (by simp) ?_
        refine AllReadyH.cons rfl (fun K hK=>?_) AllReadyH.nil
        refine step_app_sl rfl _ _ 26 rfl w6.heap.size 5 i0 (.int .u8 0) 1 1 Tryz.underlying26 hi hz0 hz1 hz2 rfl (by omega) v3 (0 + l.length) ([] ++ bs l) (by simp [Act.eval,Act.put]) HOW.out Ap P.length cp (bs P) (by simp [Act.eval,Act.put]) (HRP.out.on hB.out) (bs_one P) (by unfold maxLen; omega) (by omega) hB.out.size ?_
        intro v5 x3 hown hgr
        have hBn:=hB.out.trans (below_app HOW.out hgr hB.out.size)
        have HGn:=Lib.hid (And.intro (own_far11 HOW.out hgr HG.out.1 (by decide)) HG.out.2)
        rw [E1.out,E2.out] at hown
        obtain ⟨A5,c5,rfl,hsl⟩:=SlB.of_own hown
        have HSL:=Lib.hid hsl
        refine hK.out _ _ (HSX.out _ hBn) (fun hHeld=>?_)
        clear hK K
        have hBm:=Lib.hid hBn
        clear hB hBn hgr hown hsl HOW HG
        have hB:=hBm
        clear hBm
        have HG:=HGn
        clear HGn
        refine wpAnyH_ready (rs:=[6]) (by kernel_rfl) (by simp) ?_
        refine AllReadyH.cons rfl (fun K hK=>?_) AllReadyH.nil
        go_simp
        (go_at_call 14; refine (HDC.out A5 c5 (l.length + P.length) z2 (l ++ P) _ (below_then HY.out.1 hB.out) HSL.out List.length_append HZ2.out (by omega)).mono ?_; rintro e x4 ⟨⟨A6,n6,c6,rfl⟩,hBa⟩)
        have hBn:=hB.out.trans (hBa.mono hB.out.size)
        have HGn:=Lib.hid (And.intro ((hBa.block _ (Array.getElem?_eq_some_iff.1 HG.out.1).1).trans HG.out.1) HG.out.2)
        go_wp2_with fail
        refine hK.out _ _ (HSX.out _ hBn) (fun hHeld=>?_)
        clear hK K
        have hBm:=Lib.hid hBn
        clear hB hBa hBn HSL HG
        have hB:=hBm
        clear hBm
        have HG:=HGn
        clear HGn
        refine tk 7 ?_
        refine tk 8 ?_
        refine tk 9 ?_
        have z0:=bx1 HG.out.1
        have fz:x4.frozen? ⟨g,0,none⟩ = false:=by simp [World.frozen?,HG.out.1]
        refine wpAnyH_ready (rs:=[11]) (by kernel_rfl) (by simp) ?_
        refine AllReadyH.cons rfl (fun K hK=>?_) AllReadyH.nil
        go_simp
        have HBZ:=Lib.hid ((show Below w6.heap.size w6 (World.setCell x4 ⟨g,0,none⟩ (.slice A6 n6 c6)) from hB.out.setCell HG.out.2 (.slice A6 n6 c6)))
        refine hK.out _ _ (HSX.out _ HBZ.out) (fun hHeld=>?_)
        clear hK K
        refine tk 12 ?_
        refine wpAnyH_done (by kernel_rfl) ?_ _
        have HBE:=Lib.hid (below_then HY.out.1 HBZ.out)
        clear HBZ z0 fz hB HG hHeld
        go_wp2
        go_ret
        first | exact ⟨rfl,HBE.out⟩ | exact ⟨by simp [b8],HBE.out⟩
      ·go_simp
       have hBa:=below_new x0 (.cells #[.slice none 0 0] 31)
       have hBn:=hB.out.trans (hBa.mono hB.out.size)
       refine hK.out _ _ (HSX.out _ hBn) (fun hHeld=>?_)
       clear hK K
       obtain ⟨g,hg⟩:∃ q,q = x0.heap.size:=⟨_,rfl⟩
       obtain ⟨x1,hx1⟩:∃ q,q = x0.alloc (.cells #[.slice none 0 0] 31):=⟨_,rfl⟩
       rw [← hg,← hx1]
       rw [← hx1] at hBa hBn hHeld
       have HG:Hid (x1.heap[g]? = some (.cells #[.slice none 0 0] 31 (0,0)) ∧ w6.heap.size ≤ g):=Lib.hid ⟨by rw [hx1,hg]; exact heap_alloc_new _ _,by rw [hg]; exact hB.out.size⟩
       have hBm:=Lib.hid hBn
       clear hB hBa hBn hg hx1
       have hB:=hBm
       clear hBm
       refine wpAnyH_ready (rs:=[3]) (by kernel_rfl) (by simp) ?_
       refine AllReadyH.cons rfl (fun K hK=>?_) AllReadyH.nil
       refine step_app_sl rfl _ _ 26 rfl w6.heap.size 5 i0 (.int .u8 0) 1 1 Tryz.underlying26 hi hz0 hz1 hz2 rfl (by omega) (.slice none 0 0) 0 [] (by simp [Act.eval,Act.put]) (World.ownsRow_nil _ _ _ _) A l.length c (bs l) (by simp [Act.eval,Act.put]) (HRA.out.on hB.out) (bs_one l) (by unfold maxLen; omega) (by omega) hB.out.size ?_
       intro v3 x2 hown hgr
       have hBa:Below x1.heap.size x1 x2:=(Below.refl _ _).grown hgr (Nat.le_refl _) (by intro k hk; cases hk)
       have hBn:=hB.out.trans (hBa.mono hB.out.size)
       have HGn:=Lib.hid (And.intro ((hBa.block _ (Array.getElem?_eq_some_iff.1 HG.out.1).1).trans HG.out.1) HG.out.2)
       have HOW:=Lib.hid hown
       refine hK.out _ _ (HSX.out _ hBn) (fun hHeld=>?_)
       clear hK K
       have hBm:=Lib.hid hBn
       clear hB hBa hBn hgr hown HG
       have hB:=hBm
       clear hBm
       have HG:=HGn
       clear HGn
       refine wpAnyH_ready (rs:=[5]) (by kernel_rfl) (by simp) ?_
       refine AllReadyH.cons rfl (fun K hK=>?_) AllReadyH.nil
       refine step_app_sl rfl _ _ 26 rfl w6.heap.size 5 i0 (.int .u8 0) 1 1 Tryz.underlying26 hi hz0 hz1 hz2 rfl (by omega) v3 (0 + l.length) ([] ++ bs l) (by simp [Act.eval,Act.put]) HOW.out Ap P.length cp (bs P) (by simp [Act.eval,Act.put]) (HRP.out.on hB.out) (bs_one P) (by unfold maxLen; omega) (by omega) hB.out.size ?_
       intro v5 x3 hown hgr
       have hBn:=hB.out.trans (below_app HOW.out hgr hB.out.size)
       have HGn:=Lib.hid (And.intro (own_far11 HOW.out hgr HG.out.1 (by decide)) HG.out.2)
       rw [E1.out,E2.out] at hown
       obtain ⟨A5,c5,rfl,hsl⟩:=SlB.of_own hown
       have HSL:=Lib.hid hsl
       refine hK.out _ _ (HSX.out _ hBn) (fun hHeld=>?_)
       clear hK K
       have hBm:=Lib.hid hBn
       clear hB hBn hgr hown hsl HOW HG
       have hB:=hBm
       clear hBm
       have HG:=HGn
       clear HGn
       refine wpAnyH_ready (rs:=[6]) (by kernel_rfl) (by simp) ?_
       refine AllReadyH.cons rfl (fun K hK=>?_) AllReadyH.nil
       go_simp
       (go_at_call 14; refine (HDC.out A5 c5 (l.length + P.length) z2 (l ++ P) _ (below_then HY.out.1 hB.out) HSL.out List.length_append HZ2.out (by omega)).mono ?_; rintro e x4 ⟨⟨A6,n6,c6,rfl⟩,hBa⟩)
       have hBn:=hB.out.trans (hBa.mono hB.out.size)
       have HGn:=Lib.hid (And.intro ((hBa.block _ (Array.getElem?_eq_some_iff.1 HG.out.1).1).trans HG.out.1) HG.out.2)
       go_wp2_with fail
       refine hK.out _ _ (HSX.out _ hBn) (fun hHeld=>?_)
       clear hK K
       have hBm:=Lib.hid hBn
       clear hB hBa hBn HSL HG
       have hB:=hBm
       clear hBm
       have HG:=HGn
       clear HGn
       refine tk 7 ?_
       refine tk 8 ?_
       refine tk 9 ?_
       have z0:=bx1 HG.out.1
       have fz:x4.frozen? ⟨g,0,none⟩ = false:=by simp [World.frozen?,HG.out.1]
       refine wpAnyH_ready (rs:=[11]) (by kernel_rfl) (by simp) ?_
       refine AllReadyH.cons rfl (fun K hK=>?_) AllReadyH.nil
       go_simp
       have HBZ:=Lib.hid ((show Below w6.heap.size w6 (World.setCell x4 ⟨g,0,none⟩ (.slice A6 n6 c6)) from hB.out.setCell HG.out.2 (.slice A6 n6 c6)))
       refine hK.out _ _ (HSX.out _ HBZ.out) (fun hHeld=>?_)
       clear hK K
       refine tk 12 ?_
       refine wpAnyH_done (by kernel_rfl) ?_ _
       have HBE:=Lib.hid (below_then HY.out.1 HBZ.out)
       clear HBZ z0 fz hB HG hHeld
       go_wp2
       go_ret
       first | exact ⟨rfl,HBE.out⟩ | exact ⟨by simp [b8],HBE.out⟩
 ·have b2:(d.key != -1) = true:=by rw [bne_iff_ne]; exact hk
  have hk2:=hk
  have HW2:Hid (wantI d = 2):=Lib.hid (by rw [HHW.out,if_pos hk])
  clear hk HHW
  go_wp2_with fail
  refine HOF.out.mono ?_
  rintro e w8 ⟨rfl,rfl⟩
  by_cases hw:wire = 2
  ·have b3:((wire:Int) == 2) = true:=by rw [hw]; rfl
   clear hw
   go_wp2
   go_ret
   exact ⟨rfl,HY.out.1⟩
  ·have b3:((wire:Int) == 2) = false:=by rw [beq_eq_false_iff_ne]; exact hw
   have HTL3:=Lib.hid (HTL2.out (by rw [HW2.out]; exact hw) (fun h=>hw h.2.2))
   clear hw HW2 HTL2
   obtain rfl:rp = false:=HRF.out hk2
   have HT8:=Lib.hid (HTL3.out)
   obtain ⟨z2,hz2⟩:∃ q,codeE (toldE s m (l ++ P)) = q:=⟨_,rfl⟩
   have b8:((z2:Int) == 8) = true:=by rw [← hz2,HT8.out]; rfl
   have HZ2:=Lib.hid hz2
   have HRA:=Lib.hid (HR.out _ HY.out.1).1
   have HRP:=Lib.hid HY.out.2.2
   have E1:Hid (0 + l.length + P.length = (l ++ P).length):=Lib.hid (by rw [List.length_append]; omega)
   have E2:Hid ([] ++ bs l ++ bs P = bs (l ++ P)):=Lib.hid (by simp [bs])
   have HSX:Hid (∀ wx,Below w6.heap.size w6 wx → wx.cell? ⟨w.heap.size,0,none⟩ = some (.slice A1 s.M.length q1) ∧ wx.cell? ⟨w.heap.size,1,none⟩ = some (.slice A2 s.E.length q2)):=Lib.hid (fun wx hx=>box2' (box_on HY.out.2.1 hx))
   clear hz2 HT8
   go_wp2_with fail
   refine wp_region_held_drew (S:=(fun w'=>w'.cell? ⟨w.heap.size,0,none⟩ = some (.slice A1 s.M.length q1) ∧ w'.cell? ⟨w.heap.size,1,none⟩ = some (.slice A2 s.E.length q2))) (by kernel_rfl) (HSX.out _ (Below.refl _ _).drew) (fun hHeld=>?_)
   refine tk 0 ?_
   refine tk 1 ?_
   refine tk 2 ?_
   refine tk 4 ?_
   obtain ⟨x0,hx0⟩:∃ x,x = w6.drew:=⟨_,rfl⟩
   rw [← hx0]
   have hB:Hid (Below w6.heap.size w6 x0):=Lib.hid (by rw [hx0]; exact (Below.refl _ _).drew)
   clear hx0
   refine wpAnyH_ready (rs:=[3,10]) (by kernel_rfl) (by simp) ?_
   refine AllReadyH.cons rfl (fun K hK=>?_) (AllReadyH.cons rfl (fun K hK=>?_) AllReadyH.nil)
   ·refine step_app_sl rfl _ _ 26 rfl w6.heap.size 5 i0 (.int .u8 0) 1 1 Tryz.underlying26 hi hz0 hz1 hz2 rfl (by omega) (.slice none 0 0) 0 [] (by simp [Act.eval,Act.put]) (World.ownsRow_nil _ _ _ _) A l.length c (bs l) (by simp [Act.eval,Act.put]) (HRA.out.on hB.out) (bs_one l) (by unfold maxLen; omega) (by omega) hB.out.size ?_
    intro v3 x1 hown hgr
    have hBa:Below x0.heap.size x0 x1:=(Below.refl _ _).grown hgr (Nat.le_refl _) (by intro k hk; cases hk)
    have hBn:=hB.out.trans (hBa.mono hB.out.size)
    have HOW:=Lib.hid hown
    refine hK.out _ _ (HSX.out _ hBn) (fun hHeld=>?_)
    clear hK K
    have hBm:=Lib.hid hBn
    clear hB hBa hBn hgr hown
    have hB:=hBm
    clear hBm
    refine wpAnyH_ready (rs:=[5,10]) (by kernel_rfl) (by simp) ?_
    refine AllReadyH.cons rfl (fun K hK=>?_) (AllReadyH.cons rfl (fun K hK=>?_) AllReadyH.nil)
    ·refine step_app_sl rfl _ _ 26 rfl w6.heap.size 5 i0 (.int .u8 0) 1 1 Tryz.underlying26 hi hz0 hz1 hz2 rfl (by omega) v3 (0 + l.length) ([] ++ bs l) (by simp [Act.eval,Act.put]) HOW.out Ap P.length cp (bs P) (by simp [Act.eval,Act.put]) (HRP.out.on hB.out) (bs_one P) (by unfold maxLen; omega) (by omega) hB.out.size ?_
     intro v5 x2 hown hgr
     have hBn:=hB.out.trans (below_app HOW.out hgr hB.out.size)
     rw [E1.out,E2.out] at hown
     obtain ⟨A5,c5,rfl,hsl⟩:=SlB.of_own hown
     have HSL:=Lib.hid hsl
     refine hK.out _ _ (HSX.out _ hBn) (fun hHeld=>?_)
     clear hK K
     have hBm:=Lib.hid hBn
     clear hB hBn hgr hown hsl HOW
     have hB:=hBm
     clear hBm
     refine wpAnyH_ready (rs:=[6,10]) (by kernel_rfl) (by simp) ?_
     refine AllReadyH.cons rfl (fun K hK=>?_) (AllReadyH.cons rfl (fun K hK=>?_) AllReadyH.nil)
     ·go_simp
      (go_at_call 14; refine (HDC.out A5 c5 (l.length + P.length) z2 (l ++ P) _ (below_then HY.out.1 hB.out) HSL.out List.length_append HZ2.out (by omega)).mono ?_; rintro e x3 ⟨⟨A6,n6,c6,rfl⟩,hBa⟩)
      have hBn:=hB.out.trans (hBa.mono hB.out.size)
      go_wp2_with fail
      refine hK.out _ _ (HSX.out _ hBn) (fun hHeld=>?_)
      clear hK K
      have hBm:=Lib.hid hBn
      clear hB hBa hBn HSL
      have hB:=hBm
      clear hBm
      refine tk 7 ?_
      refine tk 8 ?_
      refine tk 9 ?_
      refine wpAnyH_ready (rs:=[10]) (by kernel_rfl) (by simp) ?_
      refine AllReadyH.cons rfl (fun K hK=>?_) AllReadyH.nil
      go_simp
      have hBa:=below_new x3 (.cells #[.slice none 0 0] 31)
      have hBn:=hB.out.trans (hBa.mono hB.out.size)
      refine hK.out _ _ (HSX.out _ hBn) (fun hHeld=>?_)
      clear hK K
      obtain ⟨g,hg⟩:∃ q,q = x3.heap.size:=⟨_,rfl⟩
      obtain ⟨x4,hx4⟩:∃ q,q = x3.alloc (.cells #[.slice none 0 0] 31):=⟨_,rfl⟩
      rw [← hg,← hx4]
      rw [← hx4] at hBa hBn hHeld
      have HG:Hid (x4.heap[g]? = some (.cells #[.slice none 0 0] 31 (0,0)) ∧ w6.heap.size ≤ g):=Lib.hid ⟨by rw [hx4,hg]; exact heap_alloc_new _ _,by rw [hg]; exact hB.out.size⟩
      have hBm:=Lib.hid hBn
      clear hB hBa hBn hg hx4
      have hB:=hBm
      clear hBm
      have z0:=bx1 HG.out.1
      have fz:x4.frozen? ⟨g,0,none⟩ = false:=by simp [World.frozen?,HG.out.1]
      refine wpAnyH_ready (rs:=[11]) (by kernel_rfl) (by simp) ?_
      refine AllReadyH.cons rfl (fun K hK=>?_) AllReadyH.nil
      go_simp
      have HBZ:=Lib.hid ((show Below w6.heap.size w6 (World.setCell x4 ⟨g,0,none⟩ (.slice A6 n6 c6)) from hB.out.setCell HG.out.2 (.slice A6 n6 c6)))
      refine hK.out _ _ (HSX.out _ HBZ.out) (fun hHeld=>?_)
      clear hK K
      refine tk 12 ?_
      refine wpAnyH_done (by kernel_rfl) ?_ _
      have HBE:=Lib.hid (below_then HY.out.1 HBZ.out)
      clear HBZ z0 fz hB HG hHeld
      go_wp2
      go_ret
      first | exact ⟨rfl,HBE.out⟩ | exact ⟨by simp [b8],HBE.out⟩
     ·go_simp
      have hBa:=below_new x2 (.cells #[.slice none 0 0] 31)
      have hBn:=hB.out.trans (hBa.mono hB.out.size)
      refine hK.out _ _ (HSX.out _ hBn) (fun hHeld=>?_)
      clear hK K
      obtain ⟨g,hg⟩:∃ q,q = x2.heap.size:=⟨_,rfl⟩
      obtain ⟨x3,hx3⟩:∃ q,q = x2.alloc (.cells #[.slice none 0 0] 31):=⟨_,rfl⟩
      rw [← hg,← hx3]
      rw [← hx3] at hBa hBn hHeld
      have HG:Hid (x3.heap[g]? = some (.cells #[.slice none 0 0] 31 (0,0)) ∧ w6.heap.size ≤ g):=Lib.hid ⟨by rw [hx3,hg]; exact heap_alloc_new _ _,by rw [hg]; exact hB.out.size⟩
      have HSLn:=Lib.hid (HSL.out.on hBa)
      have hBm:=Lib.hid hBn
      clear hB hBa hBn hg hx3 HSL
      have hB:=hBm
      clear hBm
      have HSL:=HSLn
      clear HSLn
      refine wpAnyH_ready (rs:=[6]) (by kernel_rfl) (by simp) ?_
      refine AllReadyH.cons rfl (fun K hK=>?_) AllReadyH.nil
      go_simp
      (go_at_call 14; refine (HDC.out A5 c5 (l.length + P.length) z2 (l ++ P) _ (below_then HY.out.1 hB.out) HSL.out List.length_append HZ2.out (by omega)).mono ?_; rintro e x4 ⟨⟨A6,n6,c6,rfl⟩,hBa⟩)
      have hBn:=hB.out.trans (hBa.mono hB.out.size)
      have HGn:=Lib.hid (And.intro ((hBa.block _ (Array.getElem?_eq_some_iff.1 HG.out.1).1).trans HG.out.1) HG.out.2)
      go_wp2_with fail
      refine hK.out _ _ (HSX.out _ hBn) (fun hHeld=>?_)
      clear hK K
      have hBm:=Lib.hid hBn
      clear hB hBa hBn HSL HG
      have hB:=hBm
      clear hBm
      have HG:=HGn
      clear HGn
      refine tk 7 ?_
      refine tk 8 ?_
      refine tk 9 ?_
      have z0:=bx1 HG.out.1
      have fz:x4.frozen? ⟨g,0,none⟩ = false:=by simp [World.frozen?,HG.out.1]
      refine wpAnyH_ready (rs:=[11]) (by kernel_rfl) (by simp) ?_
      refine AllReadyH.cons rfl (fun K hK=>?_) AllReadyH.nil
      go_simp
      have HBZ:=Lib.hid ((show Below w6.heap.size w6 (World.setCell x4 ⟨g,0,none⟩ (.slice A6 n6 c6)) from hB.out.setCell HG.out.2 (.slice A6 n6 c6)))
      refine hK.out _ _ (HSX.out _ HBZ.out) (fun hHeld=>?_)
      clear hK K
      refine tk 12 ?_
      refine wpAnyH_done (by kernel_rfl) ?_ _
      have HBE:=Lib.hid (below_then HY.out.1 HBZ.out)
      clear HBZ z0 fz hB HG hHeld
      go_wp2
      go_ret
      first | exact ⟨rfl,HBE.out⟩ | exact ⟨by simp [b8],HBE.out⟩
    ·go_simp
     have hBa:=below_new x1 (.cells #[.slice none 0 0] 31)
     have hBn:=hB.out.trans (hBa.mono hB.out.size)
     refine hK.out _ _ (HSX.out _ hBn) (fun hHeld=>?_)
     clear hK K
     obtain ⟨g,hg⟩:∃ q,q = x1.heap.size:=⟨_,rfl⟩
     obtain ⟨x2,hx2⟩:∃ q,q = x1.alloc (.cells #[.slice none 0 0] 31):=⟨_,rfl⟩
     rw [← hg,← hx2]
     rw [← hx2] at hBa hBn hHeld
     have HG:Hid (x2.heap[g]? = some (.cells #[.slice none 0 0] 31 (0,0)) ∧ w6.heap.size ≤ g):=Lib.hid ⟨by rw [hx2,hg]; exact heap_alloc_new _ _,by rw [hg]; exact hB.out.size⟩
     have HOWn:=Lib.hid (own_hi HOW.out (hi_below w6.heap.size hBa))
     have hBm:=Lib.hid hBn
     clear hB hBa hBn hg hx2 HOW
     have hB:=hBm
     clear hBm
     have HOW:=HOWn
     clear HOWn
     refine wpAnyH_ready (rs:=[5]) (by kernel_rfl) (by simp) ?_
     refine AllReadyH.cons rfl (fun K hK=>?_) AllReadyH.nil
     refine step_app_sl rfl _ _ 26 rfl w6.heap.size 5 i0 (.int .u8 0) 1 1 Tryz.underlying26 hi hz0 hz1 hz2 rfl (by omega) v3 (0 + l.length) ([] ++ bs l) (by simp [Act.eval,Act.put]) HOW.out Ap P.length cp (bs P) (by simp [Act.eval,Act.put]) (HRP.out.on hB.out) (bs_one P) (by unfold maxLen; omega) (by omega) hB.out.size ?_
     intro v5 x3 hown hgr
     have hBn:=hB.out.trans (below_app HOW.out hgr hB.out.size)
     have HGn:=Lib.hid (And.intro (own_far11 HOW.out hgr HG.out.1 (by decide)) HG.out.2)
     rw [E1.out,E2.out] at hown
     obtain ⟨A5,c5,rfl,hsl⟩:=SlB.of_own hown
     have HSL:=Lib.hid hsl
     refine hK.out _ _ (HSX.out _ hBn) (fun hHeld=>?_)
     clear hK K
     have hBm:=Lib.hid hBn
     clear hB hBn hgr hown hsl HOW HG
     have hB:=hBm
     clear hBm
     have HG:=HGn
     clear HGn
     refine wpAnyH_ready (rs:=[6]) (by kernel_rfl) (by simp) ?_
     refine AllReadyH.cons rfl (fun K hK=>?_) AllReadyH.nil
     go_simp
     (go_at_call 14; refine (HDC.out A5 c5 (l.length + P.length) z2 (l ++ P) _ (below_then HY.out.1 hB.out) HSL.out List.length_append HZ2.out (by omega)).mono ?_; rintro e x4 ⟨⟨A6,n6,c6,rfl⟩,hBa⟩)
     have hBn:=hB.out.trans (hBa.mono hB.out.size)
     have HGn:=Lib.hid (And.intro ((hBa.block _ (Array.getElem?_eq_some_iff.1 HG.out.1).1).trans HG.out.1) HG.out.2)
     go_wp2_with fail
     refine hK.out _ _ (HSX.out _ hBn) (fun hHeld=>?_)
     clear hK K
     have hBm:=Lib.hid hBn
     clear hB hBa hBn HSL HG
     have hB:=hBm
     clear hBm
     have HG:=HGn
     clear HGn
     refine tk 7 ?_
     refine tk 8 ?_
     refine tk 9 ?_
     have z0:=bx1 HG.out.1
     have fz:x4.frozen? ⟨g,0,none⟩ = false:=by simp [World.frozen?,HG.out.1]
     refine wpAnyH_ready (rs:=[11]) (by kernel_rfl) (by simp) ?_
     refine AllReadyH.cons rfl (fun K hK=>?_) AllReadyH.nil
     go_simp
     have HBZ:=Lib.hid ((show Below w6.heap.size w6 (World.setCell x4 ⟨g,0,none⟩ (.slice A6 n6 c6)) from hB.out.setCell HG.out.2 (.slice A6 n6 c6)))
     refine hK.out _ _ (HSX.out _ HBZ.out) (fun hHeld=>?_)
     clear hK K
     refine tk 12 ?_
     refine wpAnyH_done (by kernel_rfl) ?_ _
     have HBE:=Lib.hid (below_then HY.out.1 HBZ.out)
     clear HBZ z0 fz hB HG hHeld
     go_wp2
     go_ret
     first | exact ⟨rfl,HBE.out⟩ | exact ⟨by simp [b8],HBE.out⟩
   ·go_simp
    have hBa:=below_new x0 (.cells #[.slice none 0 0] 31)
    have hBn:=hB.out.trans (hBa.mono hB.out.size)
    refine hK.out _ _ (HSX.out _ hBn) (fun hHeld=>?_)
    clear hK K
    obtain ⟨g,hg⟩:∃ q,q = x0.heap.size:=⟨_,rfl⟩
    obtain ⟨x1,hx1⟩:∃ q,q = x0.alloc (.cells #[.slice none 0 0] 31):=⟨_,rfl⟩
    rw [← hg,← hx1]
    rw [← hx1] at hBa hBn hHeld
    have HG:Hid (x1.heap[g]? = some (.cells #[.slice none 0 0] 31 (0,0)) ∧ w6.heap.size ≤ g):=Lib.hid ⟨by rw [hx1,hg]; exact heap_alloc_new _ _,by rw [hg]; exact hB.out.size⟩
    have hBm:=Lib.hid hBn
    clear hB hBa hBn hg hx1
    have hB:=hBm
    clear hBm
    refine wpAnyH_ready (rs:=[3]) (by kernel_rfl) (by simp) ?_
    refine AllReadyH.cons rfl (fun K hK=>?_) AllReadyH.nil
    refine step_app_sl rfl _ _ 26 rfl w6.heap.size 5 i0 (.int .u8 0) 1 1 Tryz.underlying26 hi hz0 hz1 hz2 rfl (by omega) (.slice none 0 0) 0 [] (by simp [Act.eval,Act.put]) (World.ownsRow_nil _ _ _ _) A l.length c (bs l) (by simp [Act.eval,Act.put]) (HRA.out.on hB.out) (bs_one l) (by unfold maxLen; omega) (by omega) hB.out.size ?_
    intro v3 x2 hown hgr
    have hBa:Below x1.heap.size x1 x2:=(Below.refl _ _).grown hgr (Nat.le_refl _) (by intro k hk; cases hk)
    have hBn:=hB.out.trans (hBa.mono hB.out.size)
    have HGn:=Lib.hid (And.intro ((hBa.block _ (Array.getElem?_eq_some_iff.1 HG.out.1).1).trans HG.out.1) HG.out.2)
    have HOW:=Lib.hid hown
    refine hK.out _ _ (HSX.out _ hBn) (fun hHeld=>?_)
    clear hK K
    have hBm:=Lib.hid hBn
    clear hB hBa hBn hgr hown HG
    have hB:=hBm
    clear hBm
    have HG:=HGn
    clear HGn
    refine wpAnyH_ready (rs:=[5]) (by kernel_rfl) (by simp) ?_
    refine AllReadyH.cons rfl (fun K hK=>?_) AllReadyH.nil
    refine step_app_sl rfl _ _ 26 rfl w6.heap.size 5 i0 (.int .u8 0) 1 1 Tryz.underlying26 hi hz0 hz1 hz2 rfl (by omega) v3 (0 + l.length) ([] ++ bs l) (by simp [Act.eval,Act.put]) HOW.out Ap P.length cp (bs P) (by simp [Act.eval,Act.put]) (HRP.out.on hB.out) (bs_one P) (by unfold maxLen; omega) (by omega) hB.out.size ?_
    intro v5 x3 hown hgr
    have hBn:=hB.out.trans (below_app HOW.out hgr hB.out.size)
    have HGn:=Lib.hid (And.intro (own_far11 HOW.out hgr HG.out.1 (by decide)) HG.out.2)
    rw [E1.out,E2.out] at hown
    obtain ⟨A5,c5,rfl,hsl⟩:=SlB.of_own hown
    have HSL:=Lib.hid hsl
    refine hK.out _ _ (HSX.out _ hBn) (fun hHeld=>?_)
    clear hK K
    have hBm:=Lib.hid hBn
    clear hB hBn hgr hown hsl HOW HG
    have hB:=hBm
    clear hBm
    have HG:=HGn
    clear HGn
    refine wpAnyH_ready (rs:=[6]) (by kernel_rfl) (by simp) ?_
    refine AllReadyH.cons rfl (fun K hK=>?_) AllReadyH.nil
    go_simp
    (go_at_call 14; refine (HDC.out A5 c5 (l.length + P.length) z2 (l ++ P) _ (below_then HY.out.1 hB.out) HSL.out List.length_append HZ2.out (by omega)).mono ?_; rintro e x4 ⟨⟨A6,n6,c6,rfl⟩,hBa⟩)
    have hBn:=hB.out.trans (hBa.mono hB.out.size)
    have HGn:=Lib.hid (And.intro ((hBa.block _ (Array.getElem?_eq_some_iff.1 HG.out.1).1).trans HG.out.1) HG.out.2)
    go_wp2_with fail
    refine hK.out _ _ (HSX.out _ hBn) (fun hHeld=>?_)
    clear hK K
    have hBm:=Lib.hid hBn
    clear hB hBa hBn HSL HG
    have hB:=hBm
    clear hBm
    have HG:=HGn
    clear HGn
    refine tk 7 ?_
    refine tk 8 ?_
    refine tk 9 ?_
    have z0:=bx1 HG.out.1
    have fz:x4.frozen? ⟨g,0,none⟩ = false:=by simp [World.frozen?,HG.out.1]
    refine wpAnyH_ready (rs:=[11]) (by kernel_rfl) (by simp) ?_
    refine AllReadyH.cons rfl (fun K hK=>?_) AllReadyH.nil
    go_simp
    have HBZ:=Lib.hid ((show Below w6.heap.size w6 (World.setCell x4 ⟨g,0,none⟩ (.slice A6 n6 c6)) from hB.out.setCell HG.out.2 (.slice A6 n6 c6)))
    refine hK.out _ _ (HSX.out _ HBZ.out) (fun hHeld=>?_)
    clear hK K
    refine tk 12 ?_
    refine wpAnyH_done (by kernel_rfl) ?_ _
    have HBE:=Lib.hid (below_then HY.out.1 HBZ.out)
    clear HBZ z0 fz hB HG hHeld
    go_wp2
    go_ret
    first | exact ⟨rfl,HBE.out⟩ | exact ⟨by simp [b8],HBE.out⟩
end Go.Proofs.YtckcojkpghiclaaGreatDoor.T11.lawDecodeWire
