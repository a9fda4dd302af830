/-
 A field,as bytes: the contract of field.
-/
import Derived.Test.YtckcojkpghiclaaGreatDoorEncEnt
import Derived.Test.YtckcojkpghiclaaGreatDoorTyNorm
import Derived.Test.YtckcojkpghiclaaGreatDoorEncPut
import Derived.Test.YtckcojkpghiclaaGreatDoorRecPut
import Derived.Test.YtckcojkpghiclaaGreatDoorTrRsame
namespace Go.Proofs.YtckcojkpghiclaaGreatDoor.T12
set_option maxRecDepth 100000
open Go.RowKit
open Go.Proofs.YtckcojkpghiclaaGreatDoor.T9 Go.Proofs.YtckcojkpghiclaaGreatDoor.T4
theorem bare_len {kind:Int} {l:List Vl'} (h:∀ v∈l,VIn v):(l.map fun v=>bareN kind v.n).flatten.length≤15 * l.length:=by
 induction l with
 | nil=>simp
 | cons x l ih =>
  have h1:=ih fun v hv=>h v (by simp [hv])
  have h2:=encN_len kind 1 x.n (h x (by simp)).1.1
  simp only [List.map_cons,List.flatten_cons,List.length_append,List.length_cons]
  have h3:(bareN kind x.n).length≤15:=by unfold bareN;rw [List.length_drop];omega
  omega
set_option maxRecDepth 1000000 in
set_option maxHeartbeats 8000000 in
theorem encField_any {s:Sc} {B D d:Nat} (H:EncH s B D d) (A1 A2:Option Addr) (q1 q2:Nat) (f:Df) (t:So) (A3 A4:Option Addr) (q3 q4:Nat) (w:World) (hB:B≤w.heap.size) (hs:SAt B w s (.slice A1 s.M.length q1) (.slice A2 s.E.length q2)) (ht:SAt' (Rd B w) D t [.int .i64 t.no,.slice A3 t.K.length q3,.slice A4 t.V.length q4]) (hi:SIn t) (hfill:fillG (isB s d) f t = true) (hc:cS t≤100000) (hwt:40 * cS t+tS t≤35184372088832) (hfn:inI f.no) (T:Wires w) :
  Calls Tryz.prog 87 #[.agg #[.slice A1 s.M.length q1,.slice A2 s.E.length q2],.agg #[.int .i64 f.no,.string (txt f.name),.int .i64 f.kind,.int .i64 f.ref,.bool f.rep,.int .i64 f.key,.int .i64 f.one],.agg #[.int .i64 t.no,.slice A3 t.K.length q3,.slice A4 t.V.length q4]] w fun e w'=>∃ v,e = .returned v∧By w.heap.size w' (fieldL (encB s d) f t) v∧Below w.heap.size w w':=by
 have HEN:=Lib.hid (fun wx (h:Below w.heap.size w wx) (hk:f.key≠-1)=>entries_any H A1 A2 q1 q2 f t A3 A4 q3 q4 wx (Nat.le_trans hB h.size) (SAt.lo hs h hB) (SRd.low (Lo.below h hB) ht) hi hfill hc hwt hfn (T.on h) hk)
 obtain ⟨T1,T2,T3,L3⟩:=three_boxes w (.cells #[.slice A1 s.M.length q1,.slice A2 s.E.length q2] 25) (dC f) (.cells #[.int .i64 t.no,.slice A3 t.K.length q3,.slice A4 t.V.length q4] 67)
 obtain ⟨g0,g1,g2,g3,g4,g5,g6⟩:=dc_cells T2
 obtain ⟨p0,p1,p2⟩:=bx3 T3
 obtain ⟨s0,s1⟩:=box2' T1
 obtain ⟨W3,hW3⟩:∃ W,W = (((w.alloc (.cells #[.slice A1 s.M.length q1,.slice A2 s.E.length q2] 25)).alloc (dC f)).alloc (.cells #[.int .i64 t.no,.slice A3 t.K.length q3,.slice A4 t.V.length q4] 67)):=⟨_,rfl⟩
 obtain ⟨u3,u4,hu,hK,hV⟩:=ht
 simp only [List.cons.injEq,and_true,true_and] at hu
 obtain ⟨rfl,rfl⟩:=hu
 rw [← hW3] at T1 T2 T3 L3
 have hBW:=Nat.le_trans hB L3.size
 have HS:=Lib.hid (fun wx (h:Below W3.heap.size W3 wx)=>SAt.lo (SAt.lo hs L3 hB) h hBW)
 have HKK:=Lib.hid (fun wx (h:Below W3.heap.size W3 wx)=>(hK.low (Lo.below L3 hB) fun a cs h=>VRd.low (Lo.below L3 hB) h).low (Lo.below h hBW) fun a cs hh=>VRd.low (Lo.below h hBW) hh)
 have HVV:=Lib.hid (fun wx (h:Below W3.heap.size W3 wx)=>(hV.low (Lo.below L3 hB) fun a cs h=>VRd.low (Lo.below L3 hB) h).low (Lo.below h hBW) fun a cs hh=>VRd.low (Lo.below h hBW) hh)
 have HSX:Hid (∀ wx,Below W3.heap.size W3 wx→(wx.cell? ⟨w.heap.size,0,none⟩ = some (.slice A1 s.M.length q1)∧wx.cell? ⟨w.heap.size,1,none⟩ = some (.slice A2 s.E.length q2))∧(wx.cell? ⟨w.heap.size+1,0,none⟩ = some (.int .i64 f.no)∧wx.cell? ⟨w.heap.size+1,1,none⟩ = some (.string (txt f.name))∧wx.cell? ⟨w.heap.size+1,2,none⟩ = some (.int .i64 f.kind)∧wx.cell? ⟨w.heap.size+1,3,none⟩ = some (.int .i64 f.ref)∧wx.cell? ⟨w.heap.size+1,4,none⟩ = some (.bool f.rep)∧wx.cell? ⟨w.heap.size+1,5,none⟩ = some (.int .i64 f.key)∧wx.cell? ⟨w.heap.size+1,6,none⟩ = some (.int .i64 f.one))∧(wx.cell? ⟨w.heap.size+2,0,none⟩ = some (.int .i64 t.no)∧wx.cell? ⟨w.heap.size+2,1,none⟩ = some (.slice A3 t.K.length q3)∧wx.cell? ⟨w.heap.size+2,2,none⟩ = some (.slice A4 t.V.length q4))):=Lib.hid fun wx h=>⟨box2' (box_on T1 h),dc_cells (box_on T2 h),bx3 (box_on T3 h)⟩
 have hD:Below W3.heap.size W3 W3.drew:=(Below.refl _ _).drew
 have HT:=Lib.hid (fun wx (h:Below W3.heap.size W3 wx)=>T.on (below_then L3 h))
 have HOV:=Lib.hid (okV_of hi hfill hc hwt)
 have HOK:=Lib.hid (okK_of hi hfill hc hwt)
 have HL3:=Lib.hid L3
 have hcl:=cS_len (s:=t)
 have hflen:=field_len (enc_len s d) f t hi (Nat.le_trans hwt (by decide))
 have HFN:Hid ((fieldL (encB s d) f t).length≤140737488351232):=Lib.hid (by omega)
 have HBW:=Lib.hid (fun (hk:cnt f.kind = true) wx (h:Below W3.heap.size W3 wx)=>bareWriter_any B D f.kind hk wx (Nat.le_trans hBW h.size) (HT.out wx h))
 have HVW:=Lib.hid (fun wx (h:Below W3.heap.size W3 wx)=>valueWriter_any H (.slice A1 s.M.length q1) (.slice A2 s.E.length q2) f.kind f.ref f.no wx (Nat.le_trans hBW h.size) (HS.out wx h) hfn (HT.out wx h))
 have HWA:=Lib.hid (fun (g:Vl'→List UInt8) (P:Vl'→Prop) (F:List UInt8) (hF:(t.V.map g).flatten = F) (hP:∀ v∈t.V,P v) (hn:F.length≤140737488351232) c wx (h:Below W3.heap.size W3 wx) (hcl:ClosW B D wx c g P)=>written_any B D g P t.V (.slice A4 t.V.length q4) c F hF wx (Nat.le_trans hBW h.size) (HVV.out wx h) hcl hP (by omega) hn)
 have HKI:=Lib.hid (fun wx=>isCounting_any f.kind wx)
 have HI:=Lib.hid hi
 clear hs hi hfill hK hV T1 T2 T3 L3 H hflen T hwt
 by_cases hkey:f.key = -1
 ·have b1:(f.key != -1) = false:=by rw [hkey];rfl
  have b2:(f.key == -1) = true:=by rw [hkey];rfl
  obtain ⟨br,hbr⟩:∃ b,f.rep = b:=⟨_,rfl⟩
  obtain ⟨bk,hbk⟩:∃ b,cnt f.kind = b:=⟨_,rfl⟩
  unfold dC at hW3
  rw [hbr] at hW3
  cases br with
  | true =>
   rw [hbk] at HKI HBW
   cases bk with
   | true =>
    obtain ⟨F7,hF7⟩:∃ F,(t.V.map fun v=>bareN f.kind v.n).flatten = F:=⟨_,rfl⟩
    have HFE:Hid (fieldL (encB s d) f t = runL f.no F7):=Lib.hid (by unfold fieldL;rw [if_pos hkey,hbr,hbk,if_pos (by rfl),hF7])
    have hF7n:F7.length≤140737488351232:=by have:=bare_len (kind:=f.kind) (l:=t.V) fun v hv=>HI.out.val (.inr hv);rw [hF7] at this;omega
    have HWR:=Lib.hid (fun c wx h (hcl:ClosW B D wx c (fun v=>bareN f.kind v.n) VIn)=>HWA.out (fun v=>bareN f.kind v.n) VIn F7 hF7 (fun v hv=>HI.out.val (.inr hv)) hF7n c wx h hcl)
    have HRU:=Lib.hid (fun v wx b (h:Below W3.heap.size W3 wx) (hy:By b wx F7 v)=>run1_any f.no F7 v b wx hfn hy hF7n (HT.out wx h))
    have HBW1:=Lib.hid (HBW.out rfl)
    clear hF7 hbk hkey HBW HEN HKK HWA HOK HVW
    go_enter Tryz.func87,Tryz.ntmps87
    go_wp2_with fail
    refine (HKI.out _).mono ?_
    rintro e wk ⟨rfl,hbk⟩
    rw [← hW3] at hbk
    have hDk:Below W3.heap.size W3 wk.drew:=hbk.drew
    go_wp2_with fail
    refine wp_region_held_drew (S:=(fun w'=>(w'.cell? ⟨w.heap.size,0,none⟩ = some (.slice A1 s.M.length q1)∧w'.cell? ⟨w.heap.size,1,none⟩ = some (.slice A2 s.E.length q2))∧(w'.cell? ⟨w.heap.size+1,0,none⟩ = some (.int .i64 f.no)∧w'.cell? ⟨w.heap.size+1,1,none⟩ = some (.string (txt f.name))∧w'.cell? ⟨w.heap.size+1,2,none⟩ = some (.int .i64 f.kind)∧w'.cell? ⟨w.heap.size+1,3,none⟩ = some (.int .i64 f.ref)∧w'.cell? ⟨w.heap.size+1,4,none⟩ = some (.bool f.rep)∧w'.cell? ⟨w.heap.size+1,5,none⟩ = some (.int .i64 f.key)∧w'.cell? ⟨w.heap.size+1,6,none⟩ = some (.int .i64 f.one))∧(w'.cell? ⟨w.heap.size+2,0,none⟩ = some (.int .i64 t.no)∧w'.cell? ⟨w.heap.size+2,1,none⟩ = some (.slice A3 t.K.length q3)∧w'.cell? ⟨w.heap.size+2,2,none⟩ = some (.slice A4 t.V.length q4)))) (by kernel_rfl) (HSX.out _ hDk) (fun hHeld=>?_)
    refine tk 0 ?_
    refine tk 1 ?_
    refine tk 2 ?_
    refine tk 3 ?_
    refine tk 4 ?_
    refine tk 5 ?_
    refine wpAnyH_ready (rs:=[6]) (by kernel_rfl) (by simp) ?_
    refine AllReadyH.cons rfl (fun K hK=>?_) AllReadyH.nil
    go_simp
    (go_at_call 125;refine (HBW1.out _ hDk).mono ?_;rintro e w4 ⟨cw,rfl,hcw,hb4⟩)
    have hb4d:=hDk.trans (hb4.mono hDk.size)
    have HW7:=Lib.hid (HWR.out cw w4 hb4d hcw)
    obtain ⟨fnw,capw,rfl,-⟩:=hcw
    go_wp2_with fail
    refine hK.out _ _ (HSX.out _ hb4d) (fun hHeld=>?_)
    clear hK K
    refine wpAnyH_ready (rs:=[7]) (by kernel_rfl) (by simp) ?_
    refine AllReadyH.cons rfl (fun K hK=>?_) AllReadyH.nil
    go_simp
    (go_at_call 124;refine HW7.out.mono ?_;rintro e w7 ⟨v7,rfl,hy7,hb7⟩)
    have hb7d:=below_then hb4d hb7
    have hb8:=below_then hb7d (below_new w7 (.cells #[v7] 26))
    have HRN:=Lib.hid (HRU.out v7 w7 _ hb7d hy7)
    obtain ⟨A7,c7,rfl,-⟩:=hy7
    go_wp2_with fail
    refine hK.out _ _ (HSX.out _ hb7d) (fun hHeld=>?_)
    clear hK K
    refine wpAnyH_ready (rs:=[8]) (by kernel_rfl) (by simp) ?_
    refine AllReadyH.cons rfl (fun K hK=>?_) AllReadyH.nil
    go_simp
    refine hK.out _ _ (HSX.out _ hb8) (fun hHeld=>?_)
    clear hK K
    refine wpAnyH_ready (rs:=[9]) (by kernel_rfl) (by simp) ?_
    refine AllReadyH.cons rfl (fun K hK=>?_) AllReadyH.nil
    go_simp
    (go_at_call 123;refine HRN.out.mono ?_;rintro e w9 ⟨v9,rfl,hy9,hb9⟩)
    have hb9d:=below_then hb8 hb9
    go_wp2_with fail
    refine hK.out _ _ (HSX.out _ hb9d) (fun hHeld=>?_)
    clear hK K
    refine tk 10 ?_
    refine wpAnyH_done (by kernel_rfl) ?_ _
    go_wp2
    go_ret
    refine ⟨v9,rfl,?_,below_then HL3.out hb9d⟩
    rw [HFE.out]
    exact hy9.less (Nat.le_trans HL3.out.size (Nat.le_trans hb7d.size (Nat.le_succ _)))
   | false =>
    obtain ⟨F7,hF7⟩:∃ F,(t.V.map (valL (encB s d) f.kind f.ref f.no)).flatten = F:=⟨_,rfl⟩
    have HFE:Hid (fieldL (encB s d) f t = F7):=Lib.hid (by unfold fieldL;rw [if_pos hkey,if_neg (by rw [hbk];simp),hF7])
    have hF7n:F7.length≤140737488351232:=by rw [← HFE.out];exact HFN.out
    have HWR:=Lib.hid (fun c wx h (hcl:ClosW B D wx c (valL (encB s d) f.kind f.ref f.no) (OkV s d f.kind f.ref))=>HWA.out _ _ F7 hF7 HOV.out hF7n c wx h hcl)
    clear hF7 hbk hkey HBW HEN HKK HWA HOK
    go_enter Tryz.func87,Tryz.ntmps87
    go_wp2_with fail
    refine (HKI.out _).mono ?_
    rintro e wk ⟨rfl,hbk⟩
    rw [← hW3] at hbk
    have hDk:Below W3.heap.size W3 wk.drew:=hbk.drew
    go_wp2_with fail
    refine wp_region_held_drew (S:=(fun w'=>(w'.cell? ⟨w.heap.size,0,none⟩ = some (.slice A1 s.M.length q1)∧w'.cell? ⟨w.heap.size,1,none⟩ = some (.slice A2 s.E.length q2))∧(w'.cell? ⟨w.heap.size+1,0,none⟩ = some (.int .i64 f.no)∧w'.cell? ⟨w.heap.size+1,1,none⟩ = some (.string (txt f.name))∧w'.cell? ⟨w.heap.size+1,2,none⟩ = some (.int .i64 f.kind)∧w'.cell? ⟨w.heap.size+1,3,none⟩ = some (.int .i64 f.ref)∧w'.cell? ⟨w.heap.size+1,4,none⟩ = some (.bool f.rep)∧w'.cell? ⟨w.heap.size+1,5,none⟩ = some (.int .i64 f.key)∧w'.cell? ⟨w.heap.size+1,6,none⟩ = some (.int .i64 f.one))∧(w'.cell? ⟨w.heap.size+2,0,none⟩ = some (.int .i64 t.no)∧w'.cell? ⟨w.heap.size+2,1,none⟩ = some (.slice A3 t.K.length q3)∧w'.cell? ⟨w.heap.size+2,2,none⟩ = some (.slice A4 t.V.length q4)))) (by kernel_rfl) (HSX.out _ hDk) (fun hHeld=>?_)
    refine tk 0 ?_
    refine tk 1 ?_
    refine tk 2 ?_
    refine tk 3 ?_
    refine tk 4 ?_
    refine tk 5 ?_
    refine tk 6 ?_
    refine tk 7 ?_
    refine tk 8 ?_
    refine wpAnyH_ready (rs:=[9]) (by kernel_rfl) (by simp) ?_
    refine AllReadyH.cons rfl (fun K hK=>?_) AllReadyH.nil
    go_simp
    (go_at_call 126;refine (HVW.out _ hDk).mono ?_;rintro e w4 ⟨cw,rfl,hcw,hb4⟩)
    have hb4d:=hDk.trans (hb4.mono hDk.size)
    have HW7:=Lib.hid (HWR.out cw w4 hb4d hcw)
    obtain ⟨fnw,capw,rfl,-⟩:=hcw
    go_wp2_with fail
    refine hK.out _ _ (HSX.out _ hb4d) (fun hHeld=>?_)
    clear hK K
    refine wpAnyH_ready (rs:=[10]) (by kernel_rfl) (by simp) ?_
    refine AllReadyH.cons rfl (fun K hK=>?_) AllReadyH.nil
    go_simp
    (go_at_call 124;refine HW7.out.mono ?_;rintro e w7 ⟨v7,rfl,hy7,hb7⟩)
    have hb7d:=below_then hb4d hb7
    go_wp2_with fail
    refine hK.out _ _ (HSX.out _ hb7d) (fun hHeld=>?_)
    clear hK K
    refine tk 11 ?_
    refine wpAnyH_done (by kernel_rfl) ?_ _
    go_wp2
    go_ret
    refine ⟨v7,rfl,?_,below_then HL3.out hb7d⟩
    rw [HFE.out]
    exact hy7.less (Nat.le_trans HL3.out.size hb4d.size)
  | false =>
   obtain ⟨F7,hF7⟩:∃ F,(t.V.map (valL (encB s d) f.kind f.ref f.no)).flatten = F:=⟨_,rfl⟩
   have HFE:Hid (fieldL (encB s d) f t = F7):=Lib.hid (by unfold fieldL;rw [if_pos hkey,if_neg (by rw [hbr];simp),hF7])
   have hF7n:F7.length≤140737488351232:=by rw [← HFE.out];exact HFN.out
   have HWR:=Lib.hid (fun c wx h (hcl:ClosW B D wx c (valL (encB s d) f.kind f.ref f.no) (OkV s d f.kind f.ref))=>HWA.out _ _ F7 hF7 HOV.out hF7n c wx h hcl)
   clear hF7 hbk hkey HBW HEN HKK HWA HOK
   go_enter Tryz.func87,Tryz.ntmps87
   go_wp2_with fail
   rw [← hW3]
   clear hW3
   have hDk:=hD
   refine wp_region_held_drew (S:=(fun w'=>(w'.cell? ⟨w.heap.size,0,none⟩ = some (.slice A1 s.M.length q1)∧w'.cell? ⟨w.heap.size,1,none⟩ = some (.slice A2 s.E.length q2))∧(w'.cell? ⟨w.heap.size+1,0,none⟩ = some (.int .i64 f.no)∧w'.cell? ⟨w.heap.size+1,1,none⟩ = some (.string (txt f.name))∧w'.cell? ⟨w.heap.size+1,2,none⟩ = some (.int .i64 f.kind)∧w'.cell? ⟨w.heap.size+1,3,none⟩ = some (.int .i64 f.ref)∧w'.cell? ⟨w.heap.size+1,4,none⟩ = some (.bool f.rep)∧w'.cell? ⟨w.heap.size+1,5,none⟩ = some (.int .i64 f.key)∧w'.cell? ⟨w.heap.size+1,6,none⟩ = some (.int .i64 f.one))∧(w'.cell? ⟨w.heap.size+2,0,none⟩ = some (.int .i64 t.no)∧w'.cell? ⟨w.heap.size+2,1,none⟩ = some (.slice A3 t.K.length q3)∧w'.cell? ⟨w.heap.size+2,2,none⟩ = some (.slice A4 t.V.length q4)))) (by kernel_rfl) (HSX.out _ hDk) (fun hHeld=>?_)
   refine tk 0 ?_
   refine tk 1 ?_
   refine tk 2 ?_
   refine tk 3 ?_
   refine tk 4 ?_
   refine tk 5 ?_
   refine tk 6 ?_
   refine tk 7 ?_
   refine tk 8 ?_
   refine wpAnyH_ready (rs:=[9]) (by kernel_rfl) (by simp) ?_
   refine AllReadyH.cons rfl (fun K hK=>?_) AllReadyH.nil
   go_simp
   (go_at_call 126;refine (HVW.out _ hDk).mono ?_;rintro e w4 ⟨cw,rfl,hcw,hb4⟩)
   have hb4d:=hDk.trans (hb4.mono hDk.size)
   have HW7:=Lib.hid (HWR.out cw w4 hb4d hcw)
   obtain ⟨fnw,capw,rfl,-⟩:=hcw
   go_wp2_with fail
   refine hK.out _ _ (HSX.out _ hb4d) (fun hHeld=>?_)
   clear hK K
   refine wpAnyH_ready (rs:=[10]) (by kernel_rfl) (by simp) ?_
   refine AllReadyH.cons rfl (fun K hK=>?_) AllReadyH.nil
   go_simp
   (go_at_call 124;refine HW7.out.mono ?_;rintro e w7 ⟨v7,rfl,hy7,hb7⟩)
   have hb7d:=below_then hb4d hb7
   go_wp2_with fail
   refine hK.out _ _ (HSX.out _ hb7d) (fun hHeld=>?_)
   clear hK K
   refine tk 11 ?_
   refine wpAnyH_done (by kernel_rfl) ?_ _
   go_wp2
   go_ret
   refine ⟨v7,rfl,?_,below_then HL3.out hb7d⟩
   rw [HFE.out]
   exact hy7.less (Nat.le_trans HL3.out.size hb4d.size)
 ·have b1:(f.key != -1) = true:=by simp [hkey]
  have b2:(f.key == -1) = false:=by simp [hkey]
  have HE2:=Lib.hid (HEN.out _ HL3.out hkey)
  clear HEN HWA HVW HBW HKK HVV
  go_enter Tryz.func87,Tryz.ntmps87
  go_wp2_with fail
  rw [← hW3]
  refine HE2.out.mono ?_
  rintro e w9 ⟨v9,rfl,hy9,hb9⟩
  have HY9:=Lib.hid (hy9.less HL3.out.size)
  clear hy9
  go_wp2
  go_ret
  exact ⟨v9,rfl,HY9.out,below_then HL3.out hb9⟩
set_option maxRecDepth 1000000 in
set_option maxHeartbeats 8000000 in
theorem encmsg_step {s:Sc} {B D d:Nat} (hin:ScIn s) (H:EncH s B D d):EncH s B (D+1) (d+1):=by
 rintro vM vE m x u w hB hs ⟨u',hu,hl⟩ hi hG hcm hwt T
 simp only [List.cons.injEq,and_true] at hu
 subst hu
 obtain ⟨i0,hi0,hz0,hz1,hz2⟩:=info_parts info_sl8
 obtain ⟨A1,q1,A2,q2,rfl,rfl⟩:=sat_shape hs
 obtain ⟨A,c,xs,rfl,hsl,hbl,hr,hn⟩:=hl.open_
 obtain ⟨X1,X2,LBD⟩:=two_boxes w (.cells #[.slice A1 s.M.length q1,.slice A2 s.E.length q2] 25) (.cells #[.slice A x.F.length c] 31)
 have hslots:∀ a∈x.F,∃ f,byS s m a.no = some f∧fillG (isB s d) f a = true:=(slots_iff.1 (isB_slots hG)).1
 have hlen:=enc_len s (d+1) m x hi (Nat.le_trans hwt (by decide))
 have HE:Hid (encB s (d+1) m x = (x.F.map (slotL (byS s m) (encB s d))).flatten):=Lib.hid rfl
 have hFn:(encB s (d+1) m x).length≤140737488351232:=by omega
 have hcF:x.F.length≤100000:=Nat.le_trans (cnt_F x) hcm
 have hcS:∀ a∈x.F,cS a≤x.cnt:=fun a ha=>cS_le ha
 have htS:∀ a∈x.F,tS a≤Mg.txt x:=fun a ha=>by rw [Mg.txt_eq];exact sm_mem ha
 have hwS:∀ a∈x.F,40 * cS a+tS a≤35184372088832:=fun a ha=>by
  rw [Mg.cnt_eq,Mg.txt_eq] at hwt
  have h1:=sm_mem (g:=cS) ha
  have h2:=sm_mem (g:=tS) ha
  omega
 have HS:=Lib.hid hsl
 have HR:=Lib.hid hr
 have HBB:=Lib.hid hbl
 have HH:=Lib.hid H
 have HSA:=Lib.hid hs
 have HI:=Lib.hid hi
 have HSL:=Lib.hid hslots
 have HCS:=Lib.hid (And.intro hcS hwS)
 have HCM:=Lib.hid hcm
 have p1:=bx1 X2
 have s1:=box2' X1
 clear hsl hr hbl hl H hs hi hslots hcS htS hwS hlen hwt hG hcm
 go_enter Tryz.func58,Tryz.ntmps58
 go_wp2
 obtain ⟨W0,hW0⟩:∃ W,W = (w.alloc (.cells #[.slice A1 s.M.length q1,.slice A2 s.E.length q2] 25)).alloc (.cells #[.slice A x.F.length c] 31):=⟨_,rfl⟩
 rw [← hW0] at X1 X2 LBD ⊢
 clear hW0 p1 s1
 have HL0:=Lib.hid LBD
 go_loopw [7,15] (fun v i wr=>∃ (k:Nat) (zs:List Value),i = .int .i64 k∧k≤x.F.length∧PB W0.heap.size wr v ((x.F.take k).map (slotL (byS s m) (encB s d))) zs∧Below W0.heap.size W0 wr) (fun _ i _=>x.F.length - (intOf i).toNat)
 case atStart=>exact ⟨0,[],rfl,by omega,PB.nil _ _,Below.refl _ _⟩
 case round =>
  obtain ⟨k,zs,rfl,hk,hpb,hbw⟩:=hrel
  have hw0:=hbw.size
  have hbw0:=below_then LBD hbw
  by_cases hlt:k < x.F.length
  ·obtain ⟨a,ha⟩:∃ a,x.F[k]? = some a:=⟨_,List.getElem?_eq_getElem hlt⟩
   obtain ⟨ad,x',y',z',rfl,hg,hca,c0,c1,c2⟩:=row3 sAt.len (sl_low HS.out HBB.out (Lo.below hbw0 hB)) (HR.out.imp fun a cs h=>SRd.low (Lo.below hbw0 hB) h) ha
   obtain ⟨AK,cK,AV,cV_,rfl,rfl,rfl⟩:=slot_shape hca
   have hmem:=List.mem_of_getElem? ha
   obtain ⟨f,hf,hfl⟩:=HSL.out a hmem
   obtain ⟨hfi,-,-⟩:=byS_in hin hf
   have N1:=below_new wr (.cells #[.int .i64 a.no,.slice AK a.K.length cK,.slice AV a.V.length cV_] 67)
   have Z1:=heap_alloc_new wr (.cells #[.int .i64 a.no,.slice AK a.K.length cK,.slice AV a.V.length cV_] 67)
   have y1:=box2' (box_on (box_on X1 hbw) N1)
   obtain ⟨z0,z1,z2⟩:=bx3 Z1
   have hbw2:=below_then hbw0 N1
   have hB1:B≤(wr.alloc (.cells #[.int .i64 a.no,.slice AK a.K.length cK,.slice AV a.V.length cV_] 67)).heap.size:=Nat.le_trans hB hbw2.size
   have HBY:=Lib.hid (by_found (B:=B) hf (wr.alloc (.cells #[.int .i64 a.no,.slice AK a.K.length cK,.slice AV a.V.length cV_] 67)) hB1 (SAt.lo HSA.out hbw2 hB))
   obtain ⟨L,hL⟩:∃ L,(x.F.take k).map (slotL (byS s m) (encB s d)) = L:=⟨_,rfl⟩
   have hLk:L.length = k:=by rw [← hL,List.length_map,List.length_take];omega
   rw [hL] at hpb
   obtain ⟨FL,hFL⟩:∃ FL,fieldL (encB s d) f a = FL:=⟨_,rfl⟩
   have HL:=Lib.hid (show L++[FL] = (x.F.take (k+1)).map (slotL (byS s m) (encB s d)) by
    have h:=map_snoc (slotL (byS s m) (encB s d)) ha
    rw [hL] at h
    rw [← h]
    unfold slotL
    rw [hf,← hFL])
   have hcs:=HCS.out.1 a hmem
   have hws:=HCS.out.2 a hmem
   have hcm:=HCM.out
   have HFD:=Lib.hid (fun wx (h:Below wr.heap.size wr wx)=>encField_any HH.out A1 A2 q1 q2 f a AK AV cK cV_ wx (Nat.le_trans hB (Nat.le_trans hbw0.size h.size)) (SAt.lo HSA.out (below_then hbw0 h) hB) (SRd.low (Lo.below h (Nat.le_trans hB hbw0.size)) hca) (HI.out.slot hmem) hfl (by omega) hws ⟨hfi.1.1,hfi.1.2⟩ (T.on (below_then hbw0 h)))
   have HPB:=Lib.hid hpb
   have HN1:=Lib.hid (And.intro N1 (And.intro Z1 (box_on X1 hbw)))
   have hv1:=hpb.lt
   clear hca ha hmem hL hpb hf hfl hfi hcs hws hcm hbw2 hB1 N1 Z1
   go_wp2_with fail
   refine HBY.out.mono ?_
   rintro e w2 ⟨rfl,hb2⟩
   have N2:=below_new w2 (dC f)
   have hr2:=below_then (below_then HN1.out.1 hb2) N2
   have Y1:=box2' (box_on (box_on (box_on HN1.out.2.2 HN1.out.1) hb2) N2)
   have Y2:=bx3 (box_on (box_on HN1.out.2.1 hb2) N2)
   obtain ⟨g0,g1,g2,g3,g4,g5,g6⟩:=dc_cells (heap_alloc_new w2 (dC f))
   rw [hFL] at HFD
   have HFD2:=Lib.hid (HFD.out _ hr2)
   have hwr2:wr.heap.size≤w2.heap.size:=Nat.le_trans HN1.out.1.size hb2.size
   clear y1 z0 z1 z2 c0 c1 c2
   go_wp2_with fail
   refine HFD2.out.mono ?_
   rintro e w3 ⟨v3,rfl,hy3,hb3⟩
   have hr3:=below_then hr2 hb3
   have HY3:=Lib.hid (hy3.on (below_new w3 (.cells #[v3] 26)))
   have HB3:=Lib.hid (below_then hr3 (below_new w3 (.cells #[v3] 26)))
   have HQ:=Lib.hid (HPB.out.on HB3.out)
   have hs3:=hr3.size
   obtain ⟨A3,c3,rfl,-⟩:=hy3
   clear Y1 Y2 g0 g1 g2 g3 g4 g5 g6
   go_wp2_with (at_builtin;refine wpList_append_lies _ rfl _ _ 139 rfl W0.heap.size 26 i0 _ 1 24 Tryz.underlying139 hi0 hz0 hz1 hz2 rfl (by decide) _ L.length zs rfl HQ.out.own ⟨w3.heap.size,0,none⟩ 1 1 [.slice A3 FL.length c3] rfl rfl (World.news_of_block (heap_alloc_new _ _)) (by simp [Value.oneCell']) (by decide) (by unfold maxLen;omega) (by omega) (by simp;omega) w3.heap.size.succ (by simp) ?_;intro g8 cap8 w8 hown8 hg8 hat8 hlt8)
   have hq:=HQ.out.app (b':=wr.heap.size) hv1 (HY3.out.less hr2.size) hown8 hg8 (hat8.imp id fun h=>by rw [h];simp)
   have hb8:Below W0.heap.size W0 w8:=(hbw.trans (HB3.out.mono hw0)).trans (below_row hg8 HQ.out.own (Nat.le_refl _) (by simp;omega))
   rw [HL.out,hLk] at hq
   refine ⟨⟨k+1,_,by go_num,by omega,hq,hb8⟩,by simp [intOf];omega⟩
  ·obtain rfl:k = x.F.length:=by omega
   rw [List.take_length] at hpb
   obtain ⟨ls,hls⟩:∃ ls,x.F.map (slotL (byS s m) (encB s d)) = ls:=⟨_,rfl⟩
   rw [hls] at hpb HE
   obtain ⟨F,hF⟩:∃ F,encB s (d+1) m x = F:=⟨_,rfl⟩
   have HEF:=Lib.hid hF
   have hFF:ls.flatten = F:=by rw [← HE.out,hF]
   rw [hF] at hFn
   obtain ⟨A9,c9,rfl,hs9⟩:=Sl.of_own hpb.own
   have HTG:=Lib.hid (together_any A9 c9 ls zs F hFF wr hs9 (hpb.rows.imp BL.any) hFn)
   clear hpb hs9 hF hls hFF
   go_wp2_with fail
   refine HTG.out.mono ?_
   rintro e w9 ⟨v9,rfl,hy9,hb9⟩
   have hbz:=below_then hbw0 hb9
   have HY9:Hid (By w.heap.size w9 (encB s (d+1) m x) v9):=Lib.hid (by rw [HEF.out];exact hy9.less hbw0.size)
   clear hy9
   go_wp2
   go_ret
   exact ⟨v9,rfl,HY9.out,hbz⟩
theorem encmsg_any {s:Sc} (hin:ScIn s) (B:Nat):∀ D d,EncH s B D d
 | 0,_=>fun _ _ _ _ _ _ _ _ h=>h.elim
 | _+1,0=>fun _ _ _ _ _ _ _ _ _ _ h=>by cases h
 | D+1,d+1=>encmsg_step hin (encmsg_any hin B D d)
theorem mayT_split {s:Sc} {m:Int} {x:Mg} (h:mayT s m x = true):ScMay s∧isB s 64 m x = true:=by
 unfold mayT at h
 rw [Bool.and_eq_true] at h
 exact ⟨@of_decide_eq_true _ (Classical.propDecidable _) h.1,h.2⟩
theorem sat_grow {B:Nat} {w w':World} {s:Sc} {vM vE:Value} (hs:SAt B w s vM vE) (hB:B≤w.heap.size) (hb:Below w.heap.size w w'):SAt w'.heap.size w' s vM vE:=SAt.mono (SAt.lo hs hb hB) (Nat.le_trans hB hb.size)
set_option maxRecDepth 1000000 in
set_option maxHeartbeats 4000000 in
theorem encode_yes {s:Sc} (hin:ScIn s) (B D:Nat) (vM vE:Value) (m:Int) (x:Mg) (u:Value) (w:World) (hB:B≤w.heap.size) (hs:SAt B w s vM vE) (hx:MRd B w D x u) (hi:MIn x) (hc:x.cnt≤100000) (hwt:40 * x.cnt+Mg.txt x≤35184372088832) (T:Tabs w) (TW:Wires w) (hm:mayT s m x = true) :
  Calls Tryz.prog 32 #[.agg #[vM,vE],.int .i64 m,.agg #[u]] w fun e w'=>∃ v,e = .returned (.tuple #[v,.int .i64 0])∧By w.heap.size w' (encB s 64 m (norB s 64 m x)) v∧Below w.heap.size w w':=by
 obtain ⟨A1,q1,A2,q2,rfl,rfl⟩:=sat_shape hs
 obtain ⟨A,c,rfl⟩:=rd_shape hx
 obtain ⟨X1,X2,LBD⟩:=two_boxes w (.cells #[.slice A1 s.M.length q1,.slice A2 s.E.length q2] 25) (.cells #[.slice A x.F.length c] 31)
 have HX:=Lib.hid X1
 have p1:=bx1 X2
 have s1:=box2' X1
 obtain ⟨hsm,hG⟩:=mayT_split hm
 have hgood:=norB_good (may_keys hsm) 64
 have hG2:=hgood.is m x hG
 have hi2:=hgood.in_ m x hG hi
 have hc2:=Nat.le_trans (hgood.cnt m x hG) hc
 have hw2:40 * (norB s 64 m x).cnt+Mg.txt (norB s 64 m x)≤35184372088832:=by
  have h1:=hgood.cnt m x hG
  have h2:=nor_txt s 64 m x hG
  omega
 have HN:=Lib.hid (fun wx (h:Below w.heap.size w wx)=>tnormal_any hin B D (.slice A1 s.M.length q1) (.slice A2 s.E.length q2) m x (.slice A x.F.length c) wx (Nat.le_trans hB h.size) (SAt.lo hs h hB) (MRd.low (Lo.below h hB) hx) hi hc (T.on h))
 rw [hm] at HN
 have HE:=Lib.hid (fun u' wx (h:Below w.heap.size w wx) (hx':MRd wx.heap.size wx D (norB s 64 m x) u')=>encmsg_any hin wx.heap.size D 64 (.slice A1 s.M.length q1) (.slice A2 s.E.length q2) m (norB s 64 m x) u' wx (Nat.le_refl _) (sat_grow hs hB h) hx' hi2 hG2 hc2 hw2 (TW.on h))
 obtain ⟨N,hN⟩:∃ N,norB s 64 m x = N:=⟨_,rfl⟩
 obtain ⟨F,hF⟩:∃ F,encB s 64 m N = F:=⟨_,rfl⟩
 rw [hN] at HN HE ⊢
 rw [hF] at HE ⊢
 clear hs hx hi hgood hG2 hi2 hc2 hw2 X1 X2 hm hG hN hF
 go_enter Tryz.func32,Tryz.ntmps32
 go_wp2_with fail
 refine (HN.out _ LBD).mono ?_
 rintro e w1 ⟨A',n',c',rfl,-,hrd,hb1⟩
 have hrd:=hrd (by trivial)
 have N1:=below_new w1 (.cells #[.slice A' n' c'] 31)
 have L1:=below_then (below_then LBD hb1) N1
 have Z1:=bx1 (heap_alloc_new w1 (.cells #[.slice A' n' c'] 31))
 have S1:=box2' (box_on (box_on HX.out hb1) N1)
 have HE1:=Lib.hid (HE.out _ _ L1 (rd_up N1 hrd))
 clear hrd p1 s1
 go_wp2_with fail
 refine HE1.out.mono ?_
 rintro e w2 ⟨v,rfl,hy,hb2⟩
 have HY:=Lib.hid (hy.less L1.size)
 clear hy
 go_wp2
 go_ret2
 exact ⟨v,rfl,HY.out,below_then L1 hb2⟩
set_option maxRecDepth 1000000 in
set_option maxHeartbeats 4000000 in
theorem encode_no {s:Sc} (hin:ScIn s) (B D:Nat) (vM vE:Value) (m:Int) (x:Mg) (u:Value) (w:World) (hB:B≤w.heap.size) (hs:SAt B w s vM vE) (hx:MRd B w D x u) (hi:MIn x) (hc:x.cnt≤100000) (T:Tabs w) (hm:mayT s m x = false) :
  Calls Tryz.prog 32 #[.agg #[vM,vE],.int .i64 m,.agg #[u]] w fun e w'=>e = .returned (.tuple #[.slice none 0 0,.int .i64 1])∧Below w.heap.size w w':=by
 obtain ⟨A1,q1,A2,q2,rfl,rfl⟩:=sat_shape hs
 obtain ⟨A,c,rfl⟩:=rd_shape hx
 obtain ⟨X1,X2,LBD⟩:=two_boxes w (.cells #[.slice A1 s.M.length q1,.slice A2 s.E.length q2] 25) (.cells #[.slice A x.F.length c] 31)
 have p1:=bx1 X2
 have s1:=box2' X1
 have HN:=Lib.hid (fun wx (h:Below w.heap.size w wx)=>tnormal_any hin B D (.slice A1 s.M.length q1) (.slice A2 s.E.length q2) m x (.slice A x.F.length c) wx (Nat.le_trans hB h.size) (SAt.lo hs h hB) (MRd.low (Lo.below h hB) hx) hi hc (T.on h))
 rw [hm] at HN
 clear hs hx hi X1 X2 hm
 go_enter Tryz.func32,Tryz.ntmps32
 go_wp2_with fail
 refine (HN.out _ LBD).mono ?_
 rintro e w1 ⟨A',n',c',rfl,-,-,hb1⟩
 go_wp2
 go_ret2
 exact ⟨rfl,below_then (below_then LBD hb1) (below_new _ _)⟩
end Go.Proofs.YtckcojkpghiclaaGreatDoor.T12
namespace Go.Proofs.YtckcojkpghiclaaGreatDoor.T12
set_option maxRecDepth 100000
open Go.RowKit Go.Maps
open Go.Proofs.YtckcojkpghiclaaGreatDoor.T9 Go.Proofs.YtckcojkpghiclaaGreatDoor.T4
def f0:Df:=⟨1,[97],0,0,false,-1,0⟩
def s0:Sc:=⟨[⟨[65],[f0]⟩],[]⟩
def v0:Vl':=⟨7,[],[]⟩
def t0:So:=⟨1,[],[v0]⟩
def x0:Mg:=.mk [t0]
theorem may_s0:ScMay s0:=by
 refine ⟨by decide,by decide,by decide,by decide,by decide,fun m hm=>?_,fun e he=>by cases he⟩
 obtain rfl:m = ⟨[65],[f0]⟩:=by simpa [s0] using hm
 refine ⟨by decide,by simp,by simp,fun d hd=>?_⟩
 obtain rfl:d = f0:=by simpa using hd
 exact ⟨by decide,by decide,by decide,by decide,by decide,by decide,by decide,.inl rfl,.inl rfl⟩
theorem may_x0:mayT s0 0 x0 = true:=by
 unfold mayT
 rw [Bool.and_eq_true]
 exact ⟨@decide_eq_true _ (Classical.propDecidable _) may_s0,by decide +kernel⟩
theorem in_s0:ScIn s0:=by
 refine ⟨fun m hm=>?_,fun e he=>by cases he⟩
 obtain rfl:m = ⟨[65],[f0]⟩:=by simpa [s0] using hm
 refine ⟨by unfold maxLen;decide,fun d hd=>?_⟩
 obtain rfl:d = f0:=by simpa using hd
 exact ⟨by unfold inr;decide,by unfold maxLen;decide,by unfold inr;decide,by unfold inr;decide,by unfold inr;decide,by unfold inr;decide⟩
theorem in_x0:MIn x0:=.of fun s hs=>by
 obtain rfl:s = t0:=by simpa [x0,Mg.F] using hs
 refine ⟨by unfold inI;decide,fun v hv=>?_⟩
 obtain rfl:v = v0:=by simpa [t0] using hv
 exact ⟨⟨by unfold inI;decide,by decide⟩,fun x hx=>by cases hx⟩
theorem sat0 {w:World} {g0 g1 B:Nat} {t0 t1:TypeId} {fr0 fr1:Nat × Nat} (h0:w.heap[g0]? = some (.cells #[.int .i64 1,.string ⟨#[97]⟩,.int .i64 0,.int .i64 0,.bool false,.int .i64 (-1),.int .i64 0] t0 fr0)) (h1:w.heap[g1]? = some (.cells #[.string ⟨#[65]⟩,.slice (some ⟨g0,0,none⟩) 1 1] t1 fr1)) (b0:g0 < B) (b1:g1 < B) :
  SAt B w s0 (.slice (some ⟨g1,0,none⟩) 1 1) (.slice none 0 0) :=
 ⟨_,[],(lit_row (n:=1) (size:=2) (xs:=[.string ⟨#[65]⟩,.slice (some ⟨g0,0,none⟩) 1 1]) h1 rfl (by decide) b1 56).1,⟨.slice (some ⟨g0,0,none⟩) 1 1,[],rfl,(lit_row (n:=1) (size:=7) (xs:=[.int .i64 1,.string ⟨#[97]⟩,.int .i64 0,.int .i64 0,.bool false,.int .i64 (-1),.int .i64 0]) h0 rfl (by decide) b0 45).1,rfl⟩,Rr.nil _ _ _,rfl⟩
theorem rd0 {w:World} {g3 g4:Nat} {t3 t4:TypeId} {fr3 fr4:Nat × Nat} (h3:w.heap[g3]? = some (.cells #[.int .i64 7,.string ⟨#[]⟩,.slice none 0 0] t3 fr3)) (h4:w.heap[g4]? = some (.cells #[.int .i64 1,.slice none 0 0,.slice (some ⟨g3,0,none⟩) 1 1] t4 fr4)) :
  MRd w.heap.size w 2 x0 (.slice (some ⟨g4,0,none⟩) 1 1) :=
 one_rd (D:=1) (s:=t0) ⟨.slice none 0 0,.slice (some ⟨g3,0,none⟩) 1 1,rfl,⟨[],⟨Rr.nil _ _ _,Nat.zero_le _⟩,rfl⟩,⟨_,lit_row (n:=1) (size:=3) (xs:=[.int .i64 7,.string ⟨#[]⟩,.slice none 0 0]) h3 rfl (by decide) (box_lt h3) _,T9.Rows.single ⟨_,rfl,[],⟨Rr.nil _ _ _,Nat.zero_le _⟩,rfl⟩⟩⟩ h4
theorem nor_x0:norB s0 64 0 x0 = x0:=by kernel_rfl
theorem enc_x0:encB s0 64 0 x0 = [8,7]:=by
 have h1:encB s0 64 0 x0 = (encN 0 1 7++[])++[]:=by kernel_rfl
 have h2:∀ n,n < 128→vput n = [UInt8.ofNat n]:=fun n h=>by unfold vput;rw [if_pos h]
 rw [h1]
 have h3:encN 0 1 7 = putL 1 0++restL 0 7 []:=recL_yes (by decide)
 have h4:putL 1 0 = [8]:=by rw [putL_yes (by decide)];exact h2 _ (by decide)
 have h5:restL 0 7 [] = [7]:=by unfold restL;exact h2 7 (by decide)
 rw [h3,h4,h5];rfl
theorem five_new (w:World) (o1 o2 o3 o4 o5:Obj):let W:=((((w.alloc o1).alloc o2).alloc o3).alloc o4).alloc o5
  W.heap[w.heap.size]? = some o1∧W.heap[w.heap.size+1]? = some o2∧W.heap[w.heap.size+1+1]? = some o3∧W.heap[w.heap.size+1+1+1]? = some o4∧W.heap[w.heap.size+1+1+1+1]? = some o5∧Below w.heap.size w W:=by
 intro W
 obtain ⟨a1,a2,a3,a4,L4⟩:=four_new w o1 o2 o3 o4
 have N5:=below_new ((((w.alloc o1).alloc o2).alloc o3).alloc o4) o5
 have e5:((((w.alloc o1).alloc o2).alloc o3).alloc o4).heap.size = w.heap.size+1+1+1+1:=by simp
 exact ⟨box_on a1 N5,box_on a2 N5,box_on a3 N5,box_on a4 N5,e5 ▸ heap_alloc_new _ o5,below_then L4 N5⟩
set_option maxRecDepth 1000000 in
set_option maxHeartbeats 4000000 in
theorem awake12_any (w:World) (T:Tabs w) (TW:Wires w):Calls Tryz.prog 30 #[] w fun e w'=>e = .returned (.bool true)∧Below w.heap.size w w':=by
 obtain ⟨h1,h2,h3,h4,h5,L5⟩:=five_new w (.cells #[.int .i64 1,.string ⟨#[97]⟩,.int .i64 0,.int .i64 0,.bool false,.int .i64 (-1),.int .i64 0] 45) (.cells #[.string ⟨#[65]⟩,.slice (some ⟨w.heap.size,0,none⟩) 1 1] 56) (.cells #[.slice (some ⟨w.heap.size+1,0,none⟩) 1 1,.slice none 0 0] 25) (.cells #[.int .i64 7,.string ⟨#[]⟩,.slice none 0 0] 81) (.cells #[.int .i64 1,.slice none 0 0,.slice (some ⟨w.heap.size+1+1+1,0,none⟩) 1 1] 67)
 have hT:=T.on L5
 have hTW:=TW.on L5
 clear T TW
 go_enter Tryz.func30,Tryz.ntmps30
 go_wp2_with fail
 generalize ((((w.alloc (.cells #[.int .i64 1,.string ⟨#[97]⟩,.int .i64 0,.int .i64 0,.bool false,.int .i64 (-1),.int .i64 0] 45)).alloc (.cells #[.string ⟨#[65]⟩,.slice (some ⟨w.heap.size,0,none⟩) 1 1] 56)).alloc (.cells #[.slice (some ⟨w.heap.size+1,0,none⟩) 1 1,.slice none 0 0] 25)).alloc (.cells #[.int .i64 7,.string ⟨#[]⟩,.slice none 0 0] 81)).alloc (.cells #[.int .i64 1,.slice none 0 0,.slice (some ⟨w.heap.size+1+1+1,0,none⟩) 1 1] 67) = W at *
 have HE:=Lib.hid (encode_yes in_s0 W.heap.size 2 _ _ 0 x0 _ W (Nat.le_refl _) (sat0 (B:=W.heap.size) h1 h2 (box_lt h1) (box_lt h2)) (rd0 h4 h5) in_x0 (by decide +kernel) (by decide +kernel) hT hTW may_x0)
 rw [nor_x0,enc_x0] at HE
 clear h1 h2 h3 h4 h5 hT hTW
 refine HE.out.mono ?_
 rintro e w1 ⟨v,rfl,⟨A,c,rfl,hr,-⟩,hb1⟩
 have HB:=Lib.hid (fun wx (h:Below w1.heap.size w1 wx) A' c' (h2:SlB wx A' c' [8,7])=>bytes_any A A' c c' [8,7] [8,7] wx (by decide) (by decide) (hr.on h) h2)
 have N1:=below_new w1 (.cells #[.int .u8 8,.int .u8 7] 5)
 have HB2:=Lib.hid (HB.out _ N1 (some ⟨w1.heap.size,0,none⟩) 2 (lit_reads w1 [8,7] (by decide)))
 clear hr
 go_wp2_with fail
 refine HB2.out.mono ?_
 rintro e w2 ⟨rfl,hb2⟩
 go_wp2
 go_ret
 exact ⟨by simp,L5.trans ((below_then (below_then hb1 N1) hb2).mono L5.size)⟩
theorem few12_any (B D:Nat) (s:Sc) (vM vE:Value) (x:Mg) (u:Value) (w:World) (hB:B≤w.heap.size) (hs:SAt B w s vM vE) (hx:MRd B w D x u) (hi:MIn x) :
  Calls Tryz.prog 31 #[.agg #[vM,vE],.agg #[u]] w fun e w'=>∃ r:Bool,e = .returned (.bool r)∧(r = true→Fit 3000 80 x∧Mg.txt x≤3000)∧Below w.heap.size w w':=by
 obtain ⟨X1,X2,LBD⟩:=two_boxes w (.cells #[vM,vE] 25) (.cells #[u] 31)
 have HF:=Lib.hid (fews_any B s vM vE _ (Nat.le_trans hB LBD.size) (SAt.lo hs LBD hB))
 have HO:=Lib.hid (fun wx (h:Below w.heap.size w wx)=>few_one B D x u 80 wx (Nat.le_trans hB h.size) (MRd.low (Lo.below h hB) hx) (by omega))
 have HX:=Lib.hid (fun wx (h:Below w.heap.size w wx) (hf:Fit 3000 80 x)=>txt_any B D x u wx (Nat.le_trans hB h.size) (MRd.low (Lo.below h hB) hx) (by have:=hf.1;omega) (by have h1:=txt_le x hi;have h2:=hf.1;omega))
 obtain ⟨A1,q1,A2,q2,rfl,rfl⟩:=sat_shape hs
 obtain ⟨A,c,rfl⟩:=rd_shape hx
 obtain ⟨x1,x2⟩:=box2' X1
 obtain ⟨d,hd⟩:∃ d,fewS s = d:=⟨_,rfl⟩
 rw [hd] at HF
 clear hs hx hd
 cases d with
 | false =>
  go_enter Tryz.func31,Tryz.ntmps31
  go_wp2_with fail
  refine HF.out.mono ?_
  rintro e w1 ⟨rfl,hb1⟩
  go_wp2
  go_ret
  exact ⟨false,rfl,(fun h=>(by cases h)),below_then LBD hb1⟩
 | true =>
  go_enter Tryz.func31,Tryz.ntmps31
  go_wp2_with fail
  refine HF.out.mono ?_
  rintro e w1 ⟨rfl,hb1⟩
  have z3:=bx1 (box_on X2 hb1)
  have HO2:=Lib.hid (HO.out _ (below_then LBD hb1))
  go_wp2_with fail
  refine HO2.out.mono ?_
  rintro e w2 ⟨r,rfl,hr,hb2⟩
  have HRR:=Lib.hid hr
  clear hr
  cases r with
  | false =>
   go_wp2
   go_ret
   exact ⟨false,rfl,(fun h=>(by cases h)),below_then (below_then LBD hb1) hb2⟩
  | true =>
   have z4:=bx1 (box_on (box_on X2 hb1) hb2)
   have hfit:=HRR.out rfl
   have HX2:=Lib.hid (HX.out _ (below_then (below_then LBD hb1) hb2) hfit)
   have HFI:=Lib.hid hfit
   obtain ⟨n,hn⟩:∃ n,Mg.txt x = n:=⟨_,rfl⟩
   have HNN:=Lib.hid hn
   rw [hn] at HX2
   clear hfit hn z3
   go_wp2_with fail
   refine HX2.out.mono ?_
   rintro e w3 ⟨rfl,hb3⟩
   by_cases hle:n≤3000
   ·have b1:((n:Int)≤3000):=by omega
    go_wp2
    go_ret
    exact ⟨true,by simp [b1],fun _=>⟨HFI.out,by rw [HNN.out];exact hle⟩,below_then (below_then (below_then LBD hb1) hb2) hb3⟩
   ·have b1:¬ ((n:Int)≤3000):=by omega
    go_wp2
    go_ret
    exact ⟨false,by simp [b1],(fun h=>by cases h),below_then (below_then (below_then LBD hb1) hb2) hb3⟩
end Go.Proofs.YtckcojkpghiclaaGreatDoor.T12
