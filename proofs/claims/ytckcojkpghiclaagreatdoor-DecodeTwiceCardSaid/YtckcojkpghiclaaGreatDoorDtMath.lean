/-
 message,of any message of one's own: the whole contract.
-/
import Derived.Test.YtckcojkpghiclaaGreatDoorDecFieldA
import Derived.Test.YtckcojkpghiclaaGreatDoorDecIs
import Derived.Test.YtckcojkpghiclaaGreatDoorDecUnk
import Derived.Test.YtckcojkpghiclaaGreatDoorEncVal
import Derived.Test.YtckcojkpghiclaaGreatDoorEncAw
import Derived.Test.YtckcojkpghiclaaGreatDoorTrSet
import Derived.Test.YtckcojkpghiclaaGreatDoorEncNor
import Derived.Test.YtckcojkpghiclaaGreatDoorDecNumc
import Derived.Deep.RegionHeld3
import Derived.Test.YtckcojkpghiclaaGreatDoorTyIs
import Derived.Test.YtckcojkpghiclaaGreatDoorVarPut
namespace Go.Proofs.YtckcojkpghiclaaGreatDoor.T11
set_option maxRecDepth 100000
open Go.RowKit
open Go.Proofs.YtckcojkpghiclaaGreatDoor.T9 Go.Proofs.YtckcojkpghiclaaGreatDoor.T4
theorem slotD_shift {n:Nat} {sub:Int → List UInt8 → Mg → Except Nat Mg} {f:Df} {l:List UInt8} {a u:Nat} {r:Rc} (h:r.upto ≤ u - a) (hf:r.frm ≤ r.upto):slotD n sub f l (shift a r) = slotD n sub f ((l.drop a).take (u - a)) r:=by
 have hw:winR l (shift a r) = winR ((l.drop a).take (u - a)) r:=(winR_at l a u r h hf).symm
 have h1:entryS n sub f l (shift a r) = entryS n sub f ((l.drop a).take (u - a)) r:=by funext t; unfold entryS; rw [hw]; rfl
 have h2:packedS f l (shift a r) = packedS f ((l.drop a).take (u - a)) r:=by funext t; unfold packedS; rw [hw]
 have h3:repS sub f l (shift a r) = repS sub f ((l.drop a).take (u - a)) r:=by funext t; unfold repS; rw [takeV_shift h hf]
 have h4:onlyS sub f l (shift a r) = onlyS sub f ((l.drop a).take (u - a)) r:=by funext t; unfold onlyS; rw [takeV_shift h hf]
 unfold slotD
 rw [h1,h2,h3,h4]
 rfl
theorem run_two {d:List UInt8} {r:Rc} {p:Nat} (h:wnext d = (r,p,0)):r.wire = 2 → 2 + (r.upto - r.frm) ≤ p:=fun hw=>by
 obtain ⟨m,k,nn,q,h1,h2,h3,h4,h5,h6⟩:=wnext_parts h
 have hv:=vget_parts h1
 have hq:=wnum_pos h3
 rcases h6 with ⟨g1,g2,g3,g4⟩ | ⟨g1,-⟩
 ·omega
 ·exact absurd hw g1
structure MsgI (wo:World) (s:Sc) (n:Nat) (m:Int) (l:List UInt8) (k i j:Nat) (p:Addr) (x:LM) (W:World) (a:Nat) (xa:LM) (w:World):Prop where
 dec:decR (fieldD (byS s m) n (decM s n)) ((l.drop i).take (j - i)) (x.F.map bareS) = decR (fieldD (byS s m) n (decM s n)) ((l.drop a).take (j - a)) (xa.F.map bareS)
 upd:Upd p xa.v (blocks x.rows) W w
 lies:Lies wo.heap.size (k + (a - i)) w xa.rows
 far:p.block ∉ blocks xa.rows
 old:∀ q ∈ blocks xa.rows,q < W.heap.size → q ∈ blocks x.rows
 full:Full s (n + 1) m xa
set_option maxRecDepth 1000000 in
set_option maxHeartbeats 8000000 in
theorem message_step {wo:World} {s:Sc} {vM vE:Value} {A:Option Addr} {c:Nat} {l:List UInt8} {K n:Nat} (HT:TakeH wo s vM vE A c l K n) (hr0:SlB wo A c l) (hl:l.length ≤ 1000000000) (TW:Wires wo) (hs:SAt wo.heap.size wo s vM vE) (hsm:ScMay s) (hKK:K ≤ 1000000000) (hn64:n + 1 ≤ 64):MsgH wo s vM vE A c l K (n + 1):=by
 intro m x p i j deep k w hbo hpo hp hsp hc hz hL hpn hful hij hj hK hn1 hdeep
 have LBD:=below_new w (.cells #[vM,vE,.slice A l.length c] 113)
 have X0:=heap_alloc_new w (.cells #[vM,vE,.slice A l.length c] 113)
 obtain ⟨W,hW⟩:∃ W,w.alloc (.cells #[vM,vE,.slice A l.length c] 113) = W:=⟨_,rfl⟩
 have hsz:W.heap.size = w.heap.size + 1:=by rw [← hW]; simp
 rw [hW] at LBD X0
 have hwo:=hbo.size
 have hpW:p.block < W.heap.size:=Nat.lt_of_lt_of_le hp LBD.size
 have hcW:W.cell? p = some x.v:=(LBD.cell hp).trans hc
 have hzW:W.frozen? p = false:=(LBD.frozen hp).trans hz
 have hxw:∀ q ∈ blocks x.rows,q < w.heap.size:=fun q hq=>(hL.old hq).2
 have hids:∀ q ∈ blocks x.rows,wo.heap.size ≤ q:=fun q hq=>(hL.old hq).1
 have hDM:decM s (n + 1) m ((l.drop i).take (j - i)) x.bare = mapE (fun L=>(.mk L:Mg)) (decR (fieldD (byS s m) n (decM s n)) ((l.drop i).take (j - i)) (x.F.map bareS)):=by
  rw [LM.bare_eq]; rfl
 have hUW:Upd p x.v (blocks x.rows) w W:=Upd.after (ids1:=[]) LBD (Upd.refl _ hcW hsp) (fun _ h=>by cases h)
 have HI0:Hid (MsgI wo s n m l k i j p x W i x W):=Lib.hid ⟨rfl,Upd.refl _ hcW hsp,by rw [Nat.sub_self]; exact hL.on LBD,hpn,fun q hq _=>hq,hful⟩
 have HBX:Hid (∀ (a:Nat) (xa:LM) (wr:World),MsgI wo s n m l k i j p x W a xa wr → wr.heap[w.heap.size]? = some (.cells #[vM,vE,.slice A l.length c] 113 (0,0)) ∧ Below wo.heap.size wo wr ∧ W.heap.size ≤ wr.heap.size):=Lib.hid fun a xa wr h=>by
  refine ⟨?_,(below_then hbo LBD).trans (upd_below h.upd (by omega) hpo hids),h.upd.size⟩
  rw [h.upd.block w.heap.size (by omega) (fun hm=>by have:=hxw _ hm; omega),setCell_at,X0]
  simp only [Option.map_some]
  rw [if_neg (by omega)]
 have HX:=Lib.hid (And.intro hUW (And.intro hDM (And.intro LBD (And.intro hcW (And.intro hzW (And.intro hpn hpW))))))
 clear hc hz hL hpn hful LBD X0 hcW hzW hxw hDM hUW hpW
 have hd0:0 ≤ deep:=by omega
 go_enter Tryz.func64,Tryz.ntmps64
 go_wp2
 clear hW
 go_loopw [3] (fun si wr=>∃ (a:Nat) (xa:LM),si = .int .i64 a ∧ i ≤ a ∧ a ≤ j ∧ MsgI wo s n m l k i j p x W a xa wr) (fun si _=>j - (intOf si).toNat)
 case atStart=>exact ⟨i,x,rfl,Nat.le_refl _,hij,HI0.out⟩
 case round =>
  obtain ⟨a,xa,rfl,ha1,ha2,hI⟩:=hrel
  obtain ⟨hbx,hbor,hWr⟩:=HBX.out _ _ _ hI
  obtain ⟨s0,s1,s2⟩:=bx3 hbx
  by_cases hlt:a < j
  ·have d1:decide ((a:Int) < (j:Int)) = true:=decide_eq_true (by omega)
   have HNX:=Lib.hid (next_any A c l a j hl wr (hr0.on hbor) (TW.on hbor))
   have HST:=Lib.hid (And.intro hI (And.intro hbx hbor))
   clear hI hbx hbor
   rcases next_cases ha2 hj with ⟨r1,p1,hw1,hnx⟩ | ⟨er,her,hwe,hnx⟩
   ·obtain ⟨q2,qd,qup,qfr,qfp⟩:=wnext_le hw1
    rw [win_len l ha2 hj] at qd
    obtain ⟨ra,hra⟩:∃ ra,a + r1.frm = ra:=⟨_,rfl⟩
    obtain ⟨rb,hrb⟩:∃ rb,a + r1.upto = rb:=⟨_,rfl⟩
    obtain ⟨ie,hie⟩:∃ ie,a + p1 = ie:=⟨_,rfl⟩
    have hi4:ie ≤ j:=by omega
    have HEQ:=Lib.hid (And.intro hra (And.intro hrb hie))
    have HLE:=Lib.hid (And.intro (show 2 ≤ p1 ∧ a + p1 ≤ j ∧ r1.upto = p1 ∧ 1 ≤ r1.frm ∧ r1.frm ≤ p1 from ⟨q2,by omega,qup,qfr,qfp⟩) hw1)
    rw [hnx] at HNX
    clear q2 qd qup qfr qfp hnx hw1 hra hrb hie
    go_wp2_with fail
    refine HNX.out.mono ?_
    rintro e w2 ⟨rfl,hb2⟩
    have hNV:NV (shift a r1,a + p1,0) = .tuple #[.agg #[.int .i64 r1.no,.int .i64 r1.wire,.int .u64 r1.num,.int .i64 (ra:Nat),.int .i64 (rb:Nat)],.int .i64 (ie:Nat),.int .i64 0]:=by rw [← HEQ.out.1,← HEQ.out.2.1,← HEQ.out.2.2]; rfl
    rw [hNV]
    have N2:=below_new w2 (.cells #[.int .i64 r1.no,.int .i64 r1.wire,.int .u64 r1.num,.int .i64 (ra:Nat),.int .i64 (rb:Nat)] 41)
    have Z2:=heap_alloc_new w2 (.cells #[.int .i64 r1.no,.int .i64 r1.wire,.int .u64 r1.num,.int .i64 (ra:Nat),.int .i64 (rb:Nat)] 41)
    obtain ⟨w4,hw4⟩:∃ w4,w4 = w2.alloc (.cells #[.int .i64 r1.no,.int .i64 r1.wire,.int .u64 r1.num,.int .i64 (ra:Nat),.int .i64 (rb:Nat)] 41):=⟨_,rfl⟩
    rw [← hw4] at N2 Z2
    have hb24:=below_then hb2 N2
    have hbx4:=box_on HST.out.2.1 hb24
    have hbo4:Below wo.heap.size wo w4:=HST.out.2.2.trans (hb24.mono (by omega))
    have HS4:=Lib.hid (And.intro hbx4 (And.intro Z2 (And.intro hb24 hbo4)))
    have hs4:W.heap.size ≤ w2.heap.size:=by have:=hb2.size; omega
    clear hb2 N2 Z2 hb24 hbx4 hbo4 HNX s0 s1 s2
    go_wp2_with fail
    rw [← hw4]
    clear hw4
    refine (fine_yes _).mono ?_
    rintro e w3 ⟨rfl,hw3⟩
    subst w3
    obtain ⟨hbx4,Z4,hb24,hbo4⟩:=HS4.out
    obtain ⟨s0,s1,s2⟩:=bx3 hbx4
    obtain ⟨u0,u1,u2,u3,u4⟩:=heap_cells Z4
    have hw4s:wo.heap.size ≤ w4.heap.size:=hbo4.size
    cases hf:byS s m r1.no with
    | none =>
     have HBY:=Lib.hid (by_none hf w4 hw4s (hs.low (Low.of hbo4)))
     have HF:=Lib.hid hf
     clear hf hbx4 Z4 hb24 hbo4
     go_wp2_with fail
     refine HBY.out.mono ?_
     rintro e w5 ⟨rfl,hb5⟩
     have hb55:=Lib.hid (below_then hb5 (below_new w5 (.cells #[.int .i64 0,.string ⟨#[]⟩,.int .i64 0,.int .i64 0,.bool false,.int .i64 0,.int .i64 0] 45)))
     clear hb5 s0 s1 s2 u0 u1 u2 u3 u4 HBY
     go_wp2
     obtain ⟨hI,hbx,hbor⟩:=HST.out
     obtain ⟨hle,hw1⟩:=HLE.out
     have hbz:=below_then HS4.out.2.2.1 hb55.out
     refine ⟨⟨ie,xa,rfl,by have:=HEQ.out.2.2; omega,hi4,⟨?_,hI.upd.then_below hbz,(hI.lies.on hbz).more (by have:=HEQ.out.2.2; omega),hI.far,hI.old,hI.full⟩⟩,by have:=HEQ.out.2.2; simp only [intOf]; omega⟩
     rw [hI.dec,decR_cons _ _ hw1,win_rest,HEQ.out.2.2]
     unfold fieldD
     rw [HF.out]
    | some f =>
     obtain ⟨hfm,hfn⟩:=by_may hsm hf
     have HBY:=Lib.hid (by_found hf w4 hw4s (hs.low (Low.of hbo4)))
     have HF:=Lib.hid (And.intro hf (And.intro hfm hfn))
     clear hf hfm hfn hbx4 Z4 hb24 hbo4
     go_wp2_with fail
     refine HBY.out.mono ?_
     rintro e w5 ⟨rfl,hb5⟩
     have N5:=below_new w5 (dC f)
     have Z5:=heap_alloc_new w5 (dC f)
     obtain ⟨hbx4,Z4,hb24,hbo4⟩:=HS4.out
     obtain ⟨hI,hbx,hbor⟩:=HST.out
     obtain ⟨hle,hw1⟩:=HLE.out
     obtain ⟨hf,hfm,hfn⟩:=HF.out
     have hb56:=below_then hb5 N5
     have hb6:=below_then hb24 hb56
     have hbo6:Below wo.heap.size wo (w5.alloc (dC f)):=hbo4.trans (hb56.mono (by omega))
     obtain ⟨s0,s1,s2⟩:=bx3 (box_on hbx4 hb56)
     obtain ⟨u0,u1,u2,u3,u4⟩:=heap_cells (box_on Z4 hb56)
     obtain ⟨g0,g1,g2,g3,g4,g5,g6⟩:=dc_cells Z5
     have hRS:RV (shift a r1) = .agg #[.int .i64 r1.no,.int .i64 r1.wire,.int .u64 r1.num,.int .i64 (ra:Nat),.int .i64 (rb:Nat)]:=by rw [← HEQ.out.1,← HEQ.out.2.1]; rfl
     have hpr:p.block < wr.heap.size:=by have:=HX.out.2.2.2.2.2.2; omega
     have hca:wr.cell? p = some xa.v:=cell_upd hI.upd HX.out.2.2.2.1 hsp HX.out.2.2.2.2.2.2 HX.out.2.2.2.2.2.1
     have hza:wr.frozen? p = false:=froz_upd hI.upd HX.out.2.2.2.2.1 hsp HX.out.2.2.2.2.2.2 HX.out.2.2.2.2.2.1
     have h0:=field_any HT hr0 hl TW hs m f (shift a r1) xa p (k + (a - i)) p1 deep (w5.alloc (dC f)) hfm hbo6 hpo (Nat.lt_of_lt_of_le hpr hb6.size) hsp ((hb6.cell hpr).trans hca) ((hb6.frozen hpr).trans hza) (hI.lies.on hb6) hI.far hI.full (by rw [hfn]; exact hf) (by show a + r1.frm ≤ a + r1.upto; omega) (by show a + r1.upto ≤ _; omega) (show r1.num < _ from wnext_num hw1) hle.1 (by show 1 + (a + r1.upto - (a + r1.frm)) ≤ p1; omega) (fun h=>by have h2:=run_two hw1 h; show 2 + (a + r1.upto - (a + r1.frm)) ≤ p1; omega) (by omega) hKK (by omega) hd0
     rw [hRS] at h0
     have HFD:=Lib.hid h0
     have hUr:Upd p xa.v (blocks x.rows) W (w5.alloc (dC f)):=hI.upd.then_below hb6
     have HST2:=Lib.hid (And.intro hUr (And.intro hI.old (And.intro hI.dec hb6.size)))
     clear h0 hRS hb5 N5 Z5 hbx4 Z4 hb24 hbo4 hI hbx hbor hle hw1 hf hfm hfn hb56 hb6 hbo6 hpr hca hza hUr HBY
     go_wp2_with fail
     refine HFD.out.mono ?_
     rintro e w7 (⟨er,h1,rfl,h3⟩ | ⟨x',h1,rfl,h3,h4,h5,h6,h7⟩)
     ·go_wp2_with fail
      obtain ⟨hUr,hold,hdec,hsz6⟩:=HST2.out
      obtain ⟨hle,hw1⟩:=HLE.out
      obtain ⟨hf,hfm,hfn⟩:=HF.out
      refine ⟨rfl,.inl ⟨er,?_,rfl,(upd_below HX.out.1 hwo hpo hids).trans ((upd_below hUr (by omega) hpo hids).trans h3)⟩⟩
      rw [HX.out.2.1,hdec,decR_cons _ _ hw1]
      unfold fieldD
      rw [hf]
      rw [slotD_shift (a:=a) (u:=j) (by omega) (by omega)] at h1
      simp only at h1 ⊢
      rw [h1]
      rfl
     ·obtain ⟨hUr,hold,hdec,hsz6⟩:=HST2.out
      obtain ⟨hle,hw1⟩:=HLE.out
      obtain ⟨hf,hfm,hfn⟩:=HF.out
      have hI2:MsgI wo s n m l k i j p x W ie x' w7:=by
       refine ⟨?_,hUr.trans h3 (fun q hq hlt=>hold q hq hlt),h4.more (by have:=HEQ.out.2.2; omega),h5,fun q hq hlt=>hold q (h6 q hq (by have:=hUr.size; omega)) hlt,h7⟩
       rw [hdec,decR_cons _ _ hw1,win_rest,HEQ.out.2.2]
       unfold fieldD
       rw [hf]
       rw [slotD_shift (a:=a) (u:=j) (by omega) (by omega)] at h1
       simp only at h1 ⊢
       rw [h1]
      have HI2:=Lib.hid hI2
      clear hI2 hUr hold hdec hsz6 hle hw1 hf hfm hfn h1 h3 h4 h5 h6 h7 HFD
      go_wp2
      exact ⟨⟨ie,x',rfl,by have:=HEQ.out.2.2; omega,hi4,HI2.out⟩,by have:=HEQ.out.2.2; have:=HLE.out.1; simp only [intOf]; omega⟩
   ·rw [hnx] at HNX
    have HE:=Lib.hid (And.intro her hwe)
    clear her hwe hnx
    go_wp2_with fail
    refine HNX.out.mono ?_
    rintro e w2 ⟨rfl,hb2⟩
    have hNV:NV (Rc.zero,0,er) = .tuple #[.agg #[.int .i64 0,.int .i64 0,.int .u64 0,.int .i64 0,.int .i64 0],.int .i64 0,.int .i64 (er:Nat)]:=rfl
    rw [hNV]
    have hb24:=Lib.hid (below_then hb2 (below_new w2 (.cells #[.int .i64 0,.int .i64 0,.int .u64 0,.int .i64 0,.int .i64 0] 41)))
    clear hb2 HNX
    go_wp2_with fail
    refine (fine_no er HE.out.1 _).mono ?_
    rintro e w3 ⟨rfl,rfl⟩
    go_wp2_with fail
    obtain ⟨hI,hbx,hbor⟩:=HST.out
    refine ⟨rfl,.inl ⟨er,?_,rfl,(upd_below HX.out.1 hwo hpo hids).trans ((upd_below hI.upd (by omega) hpo hids).trans (hb24.out.mono (by omega)))⟩⟩
    rw [HX.out.2.1,hI.dec,decR_err _ _ (fun e=>by have:=congrArg List.length e; rw [win_len l ha2 hj] at this; simp at this; omega) (by rw [HE.out.2]; exact HE.out.1),HE.out.2]
    rfl
  ·obtain rfl:a = j:=by omega
   have d1:decide ((a:Int) < (a:Int)) = false:=by simp
   have HI:=Lib.hid hI
   clear hI hbx hbor s0 s1 s2
   go_wp2
   go_end0
   obtain ⟨h1,h2,h3,h4,h5,h6⟩:=HI.out
   rw [Nat.sub_self,List.take_zero,decR_nil] at h1
   refine .inr ⟨xa,?_,rfl,HX.out.1.trans h2 (fun q hq _=>hq),h3,h4,fun q hq hlt=>h5 q hq (by omega),h6⟩
   rw [HX.out.2.1,h1,LM.bare_eq]
   rfl
theorem msgH {wo:World} {s:Sc} {vM vE:Value} {A:Option Addr} {c:Nat} {l:List UInt8} {K:Nat} (hr0:SlB wo A c l) (hl:l.length ≤ 1000000000) (TW:Wires wo) (hs:SAt wo.heap.size wo s vM vE) (hsm:ScMay s) (hKK:K ≤ 1000000000):∀ n,n ≤ 64 → MsgH wo s vM vE A c l K n
 | 0,_=>fun _ _ _ _ _ _ _ _ _ _ _ _ _ _ _ _ _ _ _ _ h _=>by omega
 | n + 1,h64=>message_step (takeH hr0 hl (fun _=>msgH hr0 hl TW hs hsm hKK n (by omega))) hr0 hl TW hs hsm hKK h64
theorem rows_flat {α β:Type} {C:β → List Value → Prop} (f:α → β) (g:α → List Value):∀ (l:List α),(∀ a ∈ l,C (f a) (g a)) → T9.Rows C (l.map f) (l.flatMap g)
 | [],_=>rfl
 | a :: l,h=>⟨g a,l.flatMap g,rfl,h a (List.mem_cons_self ..),rows_flat f g l fun b hb=>h b (List.mem_cons_of_mem _ hb)⟩
theorem flat_one {α:Type} (g:α → Value):∀ l:List α,(l.flatMap fun a=>[g a]) = l.map g
 | []=>rfl
 | a :: l=>by rw [List.flatMap_cons,flat_one g l]; rfl
theorem rows_one {α β:Type} {C:β → List Value → Prop} (f:α → β) (g:α → Value) (l:List α) (h:∀ a ∈ l,C (f a) [g a]):T9.Rows C (l.map f) (l.map g):=by
 have:=rows_flat (C:=C) f (fun a=>[g a]) l h
 rwa [flat_one] at this
theorem mem_rowsV {v:VL LM} {y:LM} (hy:y ∈ v.M) {r:Rw} (hr:r ∈ y.rows):r ∈ rowsV v:=List.mem_cons_of_mem _ (List.mem_flatten.2 ⟨y.rows,List.mem_map_of_mem hy,hr⟩)
theorem mem_rowsS {t:SLo LM} {v:VL LM} (hv:v ∈ t.K ∨ v ∈ t.V) {r:Rw} (hr:r ∈ rowsV v):r ∈ rowsS t:=by
 refine List.mem_cons_of_mem _ (List.mem_cons_of_mem _ (List.mem_append.2 ?_))
 rcases hv with hv | hv
 ·exact .inl (List.mem_flatten.2 ⟨rowsV v,List.mem_map_of_mem hv,hr⟩)
 ·exact .inr (List.mem_flatten.2 ⟨rowsV v,List.mem_map_of_mem hv,hr⟩)
theorem mem_rows {x:LM} {t:SLo LM} (ht:t ∈ x.F) {r:Rw} (hr:r ∈ rowsS t):r ∈ x.rows:=by
 rw [LM.rows_eq]
 exact List.mem_cons_of_mem _ (List.mem_flatten.2 ⟨rowsS t,List.mem_map_of_mem ht,hr⟩)
theorem LM.mat {b K:Nat} {w:World} (hK:K ≤ 10000000000000):∀ (D:Nat) (x:LM),x.bare.deep ≤ D → (∀ r ∈ x.rows,w.ownsRow b r.e r.size r.v r.n r.xs ∧ r.n ≤ K) → T9.MAt (Ow b w) D x.bare [x.v]
 | 0,x,hd,_=>by have:=x.bare.deep_pos; omega
 | D + 1,x,hd,h=>by
  have hsub:∀ t ∈ x.F,∀ v,v ∈ t.K ∨ v ∈ t.V → ∀ y ∈ v.M,T9.MAt (Ow b w) D y.bare [y.v]:=fun t ht v hv y hy=>by
   refine LM.mat hK D y ?_ fun r hr=>h r (mem_rows ht (mem_rowsS hv (mem_rowsV hy hr)))
   have h1:(bareS t) ∈ x.bare.F:=by rw [LM.bare_eq]; exact List.mem_map_of_mem ht
   have h2:bareV v ∈ (bareS t).K ∨ bareV v ∈ (bareS t).V:=hv.imp (fun h=>List.mem_map_of_mem h) (fun h=>List.mem_map_of_mem h)
   have h3:y.bare ∈ (bareV v).M:=List.mem_map_of_mem hy
   have:=deep_lt h1 h2 h3
   omega
  have hv:∀ t ∈ x.F,∀ v,v ∈ t.K ∨ v ∈ t.V → vAt (Ow b w) (T9.MAt (Ow b w) D) (bareV v) (cV' v):=fun t ht v hv=>by
   obtain ⟨h1,h2⟩:=h (rwV v) (mem_rows ht (mem_rowsS hv (List.mem_cons_self ..)))
   refine ⟨v.g,rfl,v.M.map LM.v,⟨?_,Nat.le_trans (show (v.M.map LM.bare).length ≤ K by rw [List.length_map]; exact h2) hK⟩,rows_one LM.bare LM.v v.M fun y hy=>hsub t ht v hv y hy⟩
   show w.ownsRow b _ 1 v.g (v.M.map LM.bare).length _
   rw [List.length_map]
   exact h1
  have hl:∀ t ∈ x.F,∀ (g:Value) (l:List (VL LM)),(∀ v ∈ l,v ∈ t.K ∨ v ∈ t.V) → rwS g l ∈ rowsS t → LsAt (Ow b w) 81 3 (vAt (Ow b w) (T9.MAt (Ow b w) D)) (l.map bareV) g:=fun t ht g l hlv hm=>by
   obtain ⟨h1,h2⟩:=h (rwS g l) (mem_rows ht hm)
   refine ⟨l.flatMap cV',⟨?_,Nat.le_trans (show (l.map bareV).length ≤ K by rw [List.length_map]; exact h2) hK⟩,rows_flat bareV cV' l fun v hm'=>hv t ht v (hlv v hm')⟩
   show w.ownsRow b _ 3 g (l.map bareV).length _
   rw [List.length_map]
   exact h1
  obtain ⟨h1,h2⟩:=h (rwM x) (by rw [LM.rows_eq]; exact List.mem_cons_self ..)
  rw [LM.bare_eq]
  refine ⟨x.v,rfl,x.F.flatMap cS',⟨?_,Nat.le_trans (show (x.F.map bareS).length ≤ K by rw [List.length_map]; exact h2) hK⟩,rows_flat bareS cS' x.F fun t ht=>?_⟩
  ·show w.ownsRow b _ 3 x.v (x.F.map bareS).length _
   rw [List.length_map]
   exact h1
  ·exact ⟨t.gK,t.gV,rfl,hl t ht t.gK t.K (fun v hv=>.inl hv) (List.mem_cons_self ..),hl t ht t.gV t.V (fun v hv=>.inr hv) (List.mem_cons_of_mem _ (List.mem_cons_self ..))⟩
end Go.Proofs.YtckcojkpghiclaaGreatDoor.T11
namespace Go.Proofs.YtckcojkpghiclaaGreatDoor.T11
set_option maxRecDepth 100000
open Go.RowKit
open Go.Proofs.YtckcojkpghiclaaGreatDoor.T9
set_option maxHeartbeats 4000000 in
set_option maxRecDepth 1000000 in
theorem caughtM_err (caps:Array Value) (er:Int) (w:World)
  (HF:∀ wx,Below w.heap.size w wx → w.heap.size + 2 ≤ wx.heap.size → Calls Tryz.prog 35 caps wx fun e w'=>e = .panicked [{ v:=errP er,recovered:=false }] ∧ Below wx.heap.size wx w') :
  Calls Tryz.prog 34 #[.func (.func 35) #[] caps] w fun e w'=>e = .returned (.tuple #[.agg #[.slice none 0 0],.int .i64 er]) ∧ Below w.heap.size w w':=by
 have hmf:∀ (fn:Fn) (first cap:Array Value) (w:World),(Instr.makeFunc fn first cap).run Tryz.prog w = .ok (.func fn first cap) w:=fun _ _ _ _=>rfl
 obtain ⟨X1,X2,LBD⟩:=two_boxes w (.cells #[.slice none 0 0] 31) (.cells #[.int .i64 0] 32)
 have HX:=Lib.hid (And.intro X1 X2)
 have HC:=Lib.hid (HF _ LBD (by simp))
 go_enter_defers Tryz.func34,Tryz.ntmps34
 go_wp2_with fail
 refine HC.out.mono ?_
 rintro e w1 ⟨rfl,hb1⟩
 have Y1:=box_on HX.out.1 hb1
 have Y2:=box_on HX.out.2 hb1
 have hb01:=below_then LBD hb1
 have c0:=bx1 Y1
 have c1:=bx1 Y2
 have f0:w1.frozen? ⟨w.heap.size,0,none⟩ = false:=by simp [World.frozen?,Y1]
 have f1:w1.frozen? ⟨w.heap.size + 1,0,none⟩ = false:=by simp [World.frozen?,Y2]
 obtain ⟨Z2,G2⟩:=cell1 Y2 (.int .i64 er)
 have hbz:=hb01.trans (below_own G2 (Nat.le_succ _) hb01.size)
 have z0:=bx1 ((Go.heap_setCell_other _ ⟨w.heap.size + 1,0,none⟩ w.heap.size (.int .i64 er) (by simp)).trans Y1)
 have z1:=bx1 Z2
 clear HF HC HX X1 X2 LBD hb1
 go_wp2
 refine leaves_cons (f:=61) (args:=#[.pointer (some ⟨w.heap.size + 1,0,none⟩)]) (by simp) (by simp [go_sem]) ?_
 refine (catch_panickingM _ 0 er [] _ c1 f1).mono ?_
 rintro e u' w'' ⟨rfl,rfl,rfl⟩
 simp [Leaves,settle,results,Tryz.results34,go_sem,c0,c1,f0,f1,z0,z1]
 exact hbz
set_option maxHeartbeats 4000000 in
set_option maxRecDepth 1000000 in
theorem decode1_err (P1 P2 P3:Nat) (vM vE:Value) (m:Int) (A:Option Addr) (n c:Nat) (er:Int) (w:World)
  (h1:w.heap[P1]? = some (.cells #[vM,vE] 25 (0,0))) (h2:w.heap[P2]? = some (.cells #[.int .i64 m] 3 (0,0))) (h3:w.heap[P3]? = some (.cells #[.slice A n c] 26 (0,0)))
  (HF:∀ wx,Below w.heap.size w wx → Calls Tryz.prog 36 #[.agg #[vM,vE],.int .i64 m,.slice A n c] wx fun e w'=>e = .panicked [{ v:=errP er,recovered:=false }] ∧ Below wx.heap.size wx w') :
  Calls Tryz.prog 35 #[.pointer (some ⟨P1,0,none⟩),.pointer (some ⟨P2,0,none⟩),.pointer (some ⟨P3,0,none⟩)] w fun e w'=>e = .panicked [{ v:=errP er,recovered:=false }] ∧ Below w.heap.size w w':=by
 have LBD:=below_new w (.cells #[.slice none 0 0] 31)
 have y1:=box2' (box_on h1 LBD)
 have y2:=bx1 (box_on h2 LBD)
 have y3:=bx1 (box_on h3 LBD)
 have HC:=Lib.hid (HF _ LBD)
 clear h1 h2 h3 HF
 go_enter Tryz.func35,Tryz.ntmps35
 go_wp2_with fail
 refine HC.out.mono ?_
 rintro e w1 ⟨rfl,hb1⟩
 go_wp2_with fail
 exact ⟨rfl,rfl,below_then LBD hb1⟩
set_option maxHeartbeats 4000000 in
set_option maxRecDepth 1000000 in
theorem decode_err (vM vE:Value) (m:Int) (A:Option Addr) (n c:Nat) (er:Int) (w:World)
  (HF:∀ wx,Below w.heap.size w wx → Calls Tryz.prog 36 #[.agg #[vM,vE],.int .i64 m,.slice A n c] wx fun e w'=>e = .panicked [{ v:=errP er,recovered:=false }] ∧ Below wx.heap.size wx w') :
  Calls Tryz.prog 14 #[.agg #[vM,vE],.int .i64 m,.slice A n c] w fun e w'=>e = .returned (.tuple #[.agg #[.slice none 0 0],.int .i64 er]) ∧ Below w.heap.size w w':=by
 have hmf:∀ (fn:Fn) (first cap:Array Value) (w:World),(Instr.makeFunc fn first cap).run Tryz.prog w = .ok (.func fn first cap) w:=fun _ _ _ _=>rfl
 obtain ⟨X1,X2,X3,X4,LBD,hsz⟩:=four_new (rfl:(((w.alloc (.cells #[vM,vE] 25)).alloc (.cells #[.int .i64 m] 3)).alloc (.cells #[.slice A n c] 26)).alloc (.cells #[.slice none 0 0] 31) = _)
 have HC:∀ wx,Below (w.heap.size + 4) ((((w.alloc (.cells #[vM,vE] 25)).alloc (.cells #[.int .i64 m] 3)).alloc (.cells #[.slice A n c] 26)).alloc (.cells #[.slice none 0 0] 31)) wx → w.heap.size + 4 + 2 ≤ wx.heap.size → Calls Tryz.prog 35 #[.pointer (some ⟨w.heap.size,0,none⟩),.pointer (some ⟨w.heap.size + 1,0,none⟩),.pointer (some ⟨w.heap.size + 1 + 1,0,none⟩)] wx fun e w'=>e = .panicked [{ v:=errP er,recovered:=false }] ∧ Below wx.heap.size wx w':=fun wx hx hs =>
  decode1_err w.heap.size (w.heap.size + 1) (w.heap.size + 1 + 1) vM vE m A n c er wx ((hx.block _ (by omega)).trans X1) ((hx.block _ (by omega)).trans X2) ((hx.block _ (by omega)).trans X3) (fun wy hy=>HF wy (LBD.trans ((hx.mono (by omega)).trans (hy.mono (by omega)))))
 have HC:=Lib.hid HC
 have HX:=Lib.hid X4
 have HL:=Lib.hid LBD
 have HZ:=Lib.hid hsz
 clear HF X1 X2 X3 X4 LBD hsz
 go_enter Tryz.func14,Tryz.ntmps14
 go_wp2_with fail
 refine (caughtM_err _ er _ (fun wx hx hs=>HC.out wx (by rw [HZ.out] at hx; exact hx) (by rw [HZ.out] at hs; exact hs))).mono ?_
 rintro e w1 ⟨rfl,hb1⟩
 rw [HZ.out] at hb1
 have Y1:=(hb1.block _ (show w.heap.size + 1 + 1 + 1 < w.heap.size + 4 by omega)).trans HX.out
 have hs1:w.heap.size + 4 ≤ w1.heap.size:=by have:=hb1.size; rw [HZ.out] at this; exact this
 have hb01:=HL.out.trans (hb1.mono (by omega))
 have c0:=bx1 Y1
 have f0:w1.frozen? ⟨w.heap.size + 1 + 1 + 1,0,none⟩ = false:=by simp [World.frozen?,Y1]
 obtain ⟨Z1,G1⟩:=cell1 Y1 (.slice none 0 0)
 have hbz:=hb01.trans (below_own G1 (by omega) (by omega))
 have z0:=bx1 Z1
 clear HC HX HL hb1 HZ
 go_wp2
 refine bodyPost_ret (results_row_tmp1 rfl _ _ (w.heap.size + 1 + 1 + 1) _ _ (0,0) _ rfl Z1 Tryz.underlying31 rfl sz_msg) rfl ?_
 exact ⟨rfl,hbz⟩
end Go.Proofs.YtckcojkpghiclaaGreatDoor.T11
namespace Go.Proofs.YtckcojkpghiclaaGreatDoor.T11
set_option maxRecDepth 100000
open Go.RowKit
open Go.Proofs.YtckcojkpghiclaaGreatDoor.T9 Go.Proofs.YtckcojkpghiclaaGreatDoor.T4 Go.Proofs.YtckcojkpghiclaaGreatDoor.T12
open Classical in
noncomputable def toldE (s:Sc) (m:Int) (l:List UInt8):Except Nat Mg :=
 if ScMay s ∧ 0 ≤ m ∧ m < s.M.length then (match decM s 64 m l (.mk []) with | .ok x=>.ok (norB s 64 m x) | .error e=>.error e) else .error 1
theorem told_of {s:Sc} {m:Int} {l:List UInt8} (h:ScMay s ∧ 0 ≤ m ∧ m < s.M.length):toldE s m l = (match decM s 64 m l (.mk []) with | .ok x=>.ok (norB s 64 m x) | .error e=>.error e):=by unfold toldE; rw [if_pos h]
theorem told_not {s:Sc} {m:Int} {l:List UInt8} (h:¬ (ScMay s ∧ 0 ≤ m ∧ m < s.M.length)):toldE s m l = .error 1:=by unfold toldE; rw [if_neg h]
theorem taken_is {s:Sc} {m:Int} {l:List UInt8} {x:Mg} (h:ScMay s ∧ 0 ≤ m ∧ m < s.M.length) (hl:l.length ≤ 10000) (hx:decM s 64 m l (.mk []) = .ok x):isB s 64 m x = true ∧ MIn x ∧ x.cnt ≤ 40000 ∧ x.deep ≤ 64 ∧ mayT s m x = true:=by
 obtain ⟨h1,h2,h3⟩:=isH h.1 l.length 64 m l (.mk []) x h.2.1 h.2.2 (Nat.le_refl _) (is_none (by decide) h.2.1 h.2.2) (StrL.none _) hx
 refine ⟨h1,isB_in h.1 (by omega) 64 m x h1 h2,?_,isB_deep h.1 64 m x h1,?_⟩
 ·have:(Mg.mk []).cnt = 0:=by simp [Mg.cnt_eq,Mg.F,sm]
  omega
 ·unfold mayT
  rw [Bool.and_eq_true]
  exact ⟨(@decide_eq_true_iff _ (Classical.propDecidable _)).2 h.1,h1⟩
set_option maxRecDepth 1000000 in
set_option maxHeartbeats 8000000 in
theorem whole_bad (B:Nat) {s:Sc} (vM vE:Value) (m:Int) (A:Option Addr) (n c:Nat) (w:World) (hv:¬ (ScMay s ∧ 0 ≤ m ∧ m < s.M.length)) (hB:B ≤ w.heap.size) (hs:SAt B w s vM vE) (hin:ScIn s) (TT:Tabs w) :
  Calls Tryz.prog 36 #[.agg #[vM,vE],.int .i64 m,.slice A n c] w fun e w'=>e = .panicked [{ v:=errP (1:Nat),recovered:=false }] ∧ Below w.heap.size w w':=by
 obtain ⟨X1,X2,LBD⟩:=two_boxes w (.cells #[vM,vE] 25) (.cells #[.slice none 0 0] 31)
 have HMAY:=Lib.hid (may_any B s vM vE _ (Nat.le_trans hB LBD.size) (SAt.lo hs LBD hB) hin (TT.on LBD))
 obtain ⟨A1,q1,A2,q2,rfl,rfl⟩:=sat_shape hs
 obtain ⟨x1,x2⟩:=box2' X1
 have HX:=Lib.hid (And.intro X1 (And.intro X2 LBD))
 clear hs TT X1 X2 LBD
 obtain ⟨v1,hv1⟩:∃ v,decide ((0:Int) ≤ m) = v:=⟨_,rfl⟩
 obtain ⟨v2,hv2⟩:∃ v,decide (m < (s.M.length:Int)) = v:=⟨_,rfl⟩
 have HVV:Hid (ScMay s → (v1 && v2) = false):=Lib.hid (fun h=>by
  rw [← hv1,← hv2,← Bool.decide_and,decide_eq_false_iff_not]
  exact fun h2=>hv ⟨h,h2⟩)
 clear hv
 go_enter Tryz.func36,Tryz.ntmps36
 go_wp2_with fail
 refine HMAY.out.mono ?_
 rintro e w1 ⟨b,rfl,hb,hb1⟩
 have HW:=Lib.hid (below_then HX.out.2.2 hb1)
 obtain ⟨x1,x2⟩:=box2' (box_on HX.out.1 hb1)
 have HBB:=Lib.hid hb
 clear hb hb1 HMAY
 cases b with
 | false =>
  go_wp2_with fail
  refine (must_no 1 _).mono ?_
  rintro e w2 ⟨rfl,rfl⟩
  go_wp2_with fail
  exact ⟨rfl,rfl,HW.out⟩
 | true =>
  have hvv:=HVV.out (HBB.out.1 rfl)
  cases v1 with
  | false =>
   clear hvv
   go_wp2_with fail
   refine (must_no 1 _).mono ?_
   rintro e w2 ⟨rfl,rfl⟩
   go_wp2_with fail
   exact ⟨rfl,rfl,HW.out⟩
  | true =>
   obtain rfl:v2 = false:=by simpa using hvv
   clear hvv
   go_wp2_with fail
   refine (must_no 1 _).mono ?_
   rintro e w2 ⟨rfl,rfl⟩
   go_wp2_with fail
   exact ⟨rfl,rfl,HW.out⟩
set_option maxRecDepth 1000000 in
set_option maxHeartbeats 8000000 in
theorem whole_good (B:Nat) {s:Sc} (vM vE:Value) (m:Int) (A:Option Addr) (c:Nat) (l:List UInt8) (w:World) (hv:ScMay s ∧ 0 ≤ m ∧ m < s.M.length) (hl:l.length ≤ 10000) (hB:B ≤ w.heap.size) (hs:SAt B w s vM vE) (hin:ScIn s) (hr:SlB w A c l) (TW:Wires w) (TT:Tabs w) :
  Calls Tryz.prog 36 #[.agg #[vM,vE],.int .i64 m,.slice A l.length c] w fun e w'=>(∃ er:Nat,toldE s m l = .error er ∧ e = .panicked [{ v:=errP er,recovered:=false }] ∧ Below w.heap.size w w') ∨ (∃ X,toldE s m l = .ok X ∧ ∃ A n c,e = .returned (.agg #[.slice A n c]) ∧ T9.MAt (Ow w.heap.size w') 64 X [.slice A n c] ∧ Below w.heap.size w w'):=by
 obtain ⟨X1,X2,LBD⟩:=two_boxes w (.cells #[vM,vE] 25) (.cells #[.slice none 0 0] 31)
 have HMAY:=Lib.hid (may_any B s vM vE _ (Nat.le_trans hB LBD.size) (SAt.lo hs LBD hB) hin (TT.on LBD))
 have HST:=Lib.hid (fun wx (h:Below w.heap.size w wx)=>And.intro (SAt.lo hs h hB) (And.intro (hr.on h) (And.intro (TW.on h) (TT.on h))))
 obtain ⟨A1,q1,A2,q2,rfl,rfl⟩:=sat_shape hs
 obtain ⟨x1,x2⟩:=box2' X1
 have HX:=Lib.hid (And.intro X1 (And.intro X2 LBD))
 have d1:decide ((0:Int) ≤ m) = true:=decide_eq_true hv.2.1
 have d2:decide (m < (s.M.length:Int)) = true:=decide_eq_true hv.2.2
 have hT:=told_of (l:=l) hv
 have hTK:=fun x=>taken_is (x:=x) hv hl
 have HV:=Lib.hid (And.intro hv (And.intro hT hTK))
 clear hs hr TW TT X1 X2 LBD hv hT hTK
 go_enter Tryz.func36,Tryz.ntmps36
 go_wp2_with fail
 refine HMAY.out.mono ?_
 rintro e w1 ⟨b,rfl,hb,hb1⟩
 obtain rfl:=hb.2 HV.out.1.1
 clear hb
 have hw01:=below_then HX.out.2.2 hb1
 have hsz1:w.heap.size + 2 ≤ w1.heap.size:=by
  have h1:=hb1.size
  have h2:((w.alloc (.cells #[.slice A1 s.M.length q1,.slice A2 s.E.length q2] 25)).alloc (.cells #[.slice none 0 0] 31)).heap.size = w.heap.size + 2:=by simp
  exact h2 ▸ h1
 have X1':=box_on HX.out.1 hb1
 have X2':=box_on HX.out.2.1 hb1
 obtain ⟨x1,x2⟩:=box2' X1'
 have HW:=Lib.hid (And.intro hw01 (And.intro X1' (And.intro X2' hsz1)))
 clear HMAY X1' X2' hb1 hw01 hsz1
 go_wp2_with fail
 refine (must_yes _ _).mono ?_
 rintro e w1' ⟨rfl,rfl⟩
 obtain ⟨hw01,X1',X2',hsz1⟩:=HW.out
 have N2:=below_new w1' (.cells #[.slice none 0 0] 31)
 have Z2:=heap_alloc_new w1' (.cells #[.slice none 0 0] 31)
 obtain ⟨k1,k2,k3,k4⟩:=HST.out _ hw01
 have hrw:(LM.mk (.slice none 0 0) []).rows = [⟨67,3,.slice none 0 0,0,[]⟩]:=rows_empty _
 have hLr:∀ wx:World,Lies w1'.heap.size 0 wx (LM.mk (.slice none 0 0) []).rows:=fun wx=>by
  rw [hrw]
  exact ⟨fun q hq=>by obtain rfl:=List.mem_singleton.1 hq; exact ⟨World.ownsRow_nil _ _ _ _,Nat.le_refl _⟩,by simp [blocks,Value.ownBlock]⟩
 have hbr:blocks (LM.mk (.slice none 0 0) []).rows = []:=by rw [hrw]; simp [blocks,Value.ownBlock]
 have hfz:(w1'.alloc (.cells #[.slice none 0 0] 31)).frozen? ⟨w1'.heap.size,0,none⟩ = false:=by unfold World.frozen?; rw [Z2]; simp
 have hM:=msgH (wo:=w1') (K:=l.length) k2 (by omega) k3 (SAt.mono k1 (Nat.le_trans hB hw01.size)) HV.out.1.1 (by omega) 64 (Nat.le_refl _) m (LM.mk (.slice none 0 0) []) ⟨w1'.heap.size,0,none⟩ 0 l.length 1 0 (w1'.alloc (.cells #[.slice none 0 0] 31)) N2 (Nat.le_refl _) (by simp) rfl (bx1 Z2) hfz (hLr _) (by rw [hbr]; simp) (full_empty s _ 64 m) (Nat.zero_le _) (Nat.le_refl _) (by omega) (by decide) (by decide)
 rw [hbr,bare_empty,List.drop_zero,Nat.sub_zero,List.take_length] at hM
 have HM:=Lib.hid hM
 obtain ⟨y1,y2⟩:=box2' (box_on X1' N2)
 have HN:=Lib.hid (And.intro N2 Z2)
 clear x1 x2 k1 k2 k3 k4 Z2 N2 X1' X2' hw01 hsz1 hM hrw hLr hbr hfz
 go_wp2_with fail
 refine HM.out.mono ?_
 rintro e w2 (⟨er,h1,rfl,h3⟩ | ⟨x',h1,rfl,h3,h4,h5,h6,h7⟩)
 ·go_wp2_with fail
  obtain ⟨hw01,X1',X2',hsz1⟩:=HW.out
  refine ⟨rfl,.inl ⟨er,by rw [HV.out.2.1,h1],rfl,hw01.trans ((HN.out.1.mono hw01.size).trans (h3.mono hw01.size))⟩⟩
 ·obtain ⟨hw01,X1',X2',hsz1⟩:=HW.out
  obtain ⟨t1,t2,t3,t4,t5⟩:=HV.out.2.2 x'.bare h1
  have hub:Below w1'.heap.size (w1'.alloc (.cells #[.slice none 0 0] 31)) w2:=upd_below h3 (by simp) (Nat.le_refl _) (fun k hk=>by cases hk)
  have hb12:=HN.out.1.trans hub
  have hgx:w2.heap[w1'.heap.size]? = some (.cells #[x'.v] 31 (0,0)):=by
   rw [h3.block _ (by simp) (by simp),setCell_at,HN.out.2]
   simp
  have hmat:=LM.mat (b:=w1'.heap.size) (by omega) 64 x' t4 (fun r hr=>h4.own r hr)
  obtain ⟨As,cs,hxv⟩:=msg_shape hmat
  have hb02:=below_then hw01 hb12
  obtain ⟨k1,-,-,k4⟩:=HST.out _ hb02
  have HNO:=tnormal_ow hin w2.heap.size 64 _ _ m x'.bare _ w2 (Nat.le_refl _) (SAt.mono k1 (Nat.le_trans hB hb02.size)) (own_rd hmat) t2 (by omega) k4 t5
  rw [hxv] at HNO hgx
  have HNO:=Lib.hid HNO
  obtain ⟨y1,y2⟩:=box2' (box_on X1' hb12)
  have c3:=bx1 hgx
  have HW:=Lib.hid (And.intro hb02 (And.intro (box_on X2' hb12) (And.intro hsz1 (And.intro hb12 h1))))
  clear hb12 hb02 k1 k4 hgx hmat hw01 X1' X2' hsz1 HN HM h1 h3 h4 h5 h6 h7 hub t1 t2 t3 t4 t5 hxv
  go_wp2_with fail
  refine HNO.out.mono ?_
  rintro e w3 ⟨An,nn,cn,rfl,hm3,hb3⟩
  obtain ⟨hb02,X2',hsz1,hb12,h1⟩:=HW.out
  have N4:=below_new w3 (.cells #[.slice An nn cn] 31)
  have Z4:=heap_alloc_new w3 (.cells #[.slice An nn cn] 31)
  have z4:=bx1 Z4
  have Y2:=box_on (box_on X2' hb3) N4
  have c2:=bx1 Y2
  have f2:(w3.alloc (.cells #[.slice An nn cn] 31)).frozen? ⟨w.heap.size + 1,0,none⟩ = false:=by simp [World.frozen?,Y2]
  obtain ⟨Z1,G1⟩:=cell1 Y2 (.slice An nn cn)
  have hb04:=below_then (below_then hb02 hb3) N4
  have hsw:w.heap.size + 1 < w2.heap.size:=by have:=hb12.size; omega
  have hbz:=hb04.trans (below_own G1 (by omega) (by have:=hb3.size; have:=N4.size; omega))
  have hmz:=T9.MAt.imp (Ow.hi' (hi_grown G1 (b:=w2.heap.size + 3) (by omega)) (b':=w.heap.size) (by omega)) 64 _ _ (T9.MAt.imp (Ow.hi (hi_below _ N4)) 64 _ _ hm3)
  have HZ:=Lib.hid (And.intro hbz (And.intro hmz (show toldE s m l = .ok (norB s 64 m x'.bare) by rw [HV.out.2.1,h1])))
  clear hb02 X2' hsz1 hb12 N4 Z4 Y2 G1 hb04 hsw hbz hmz hm3 hb3 y1 y2 c3 HNO h1
  go_wp2
  refine bodyPost_ret (results_cell_row rfl _ _ (w.heap.size + 1) _ _ (0,0) _ rfl Z1 Tryz.underlying31 rfl sz_msg) rfl ?_
  exact .inr ⟨_,HZ.out.2.2,An,nn,cn,rfl,HZ.out.2.1,HZ.out.1⟩
theorem decode_any (B:Nat) {s:Sc} (vM vE:Value) (m:Int) (A:Option Addr) (c:Nat) (l:List UInt8) (w:World) (hl:l.length ≤ 10000) (hB:B ≤ w.heap.size) (hs:SAt B w s vM vE) (hin:ScIn s) (hr:SlB w A c l) (TW:Wires w) (TT:Tabs w) :
  Calls Tryz.prog 14 #[.agg #[vM,vE],.int .i64 m,.slice A l.length c] w fun e w'=>((∃ er:Nat,toldE s m l = .error er ∧ e = .returned (.tuple #[.agg #[.slice none 0 0],.int .i64 (er:Nat)])) ∨ (∃ X,toldE s m l = .ok X ∧ ∃ A n c,e = .returned (.tuple #[.agg #[.slice A n c],.int .i64 0]) ∧ T9.MAt (Ow w.heap.size w') 64 X [.slice A n c])) ∧ Below w.heap.size w w':=by
 cases hD:toldE s m l with
 | error er =>
  refine (decode_err vM vE m A l.length c er w (fun wx hx=>?_)).mono ?_
  ·by_cases hv:ScMay s ∧ 0 ≤ m ∧ m < s.M.length
   ·refine (whole_good B vM vE m A c l wx hv hl (Nat.le_trans hB hx.size) (SAt.lo hs hx hB) hin (hr.on hx) (TW.on hx) (TT.on hx)).mono ?_
    rintro e w' (⟨er',h1,rfl,h2⟩ | ⟨X,h1,-⟩)
    ·rw [hD] at h1
     obtain rfl:=Except.error.inj h1
     exact ⟨rfl,h2⟩
    ·rw [hD] at h1; cases h1
   ·have h1:=told_not (l:=l) hv
    rw [hD] at h1
    obtain rfl:=Except.error.inj h1
    exact whole_bad B vM vE m A l.length c wx hv (Nat.le_trans hB hx.size) (SAt.lo hs hx hB) hin (TT.on hx)
  ·rintro e w' ⟨rfl,hb⟩
   exact ⟨.inl ⟨er,rfl,rfl⟩,hb⟩
 | ok X =>
  have hv:ScMay s ∧ 0 ≤ m ∧ m < s.M.length:=Classical.byContradiction fun h=>by rw [told_not h] at hD; cases hD
  refine (decode_ok vM vE m A l.length c (fun b v wa=>T9.MAt (Ow b wa) 64 X [v]) w (fun b v wa wb k hk h hg=>T9.MAt.imp (Ow.hi (hi_grown hg hk)) 64 X _ h) (fun wx hx hsz=>?_)).mono ?_
  ·refine (whole_good B vM vE m A c l wx hv hl (Nat.le_trans hB hx.size) (SAt.lo hs hx hB) hin (hr.on hx) (TW.on hx) (TT.on hx)).mono ?_
   rintro e w' (⟨er',h1,-⟩ | ⟨Y,h1,A',n',c',rfl,h2,h3⟩)
   ·rw [hD] at h1; cases h1
   ·rw [hD] at h1
    obtain rfl:=Except.ok.inj h1
    exact ⟨⟨A',n',c',rfl,h2⟩,h3⟩
  ·rintro e w' ⟨⟨A',n',c',rfl,b,hb,h2⟩,h3⟩
   exact ⟨.inr ⟨X,rfl,A',n',c',rfl,T9.MAt.imp (fun e size v n xs h=>⟨own_less2 h.1 (by omega),h.2⟩) 64 X _ h2⟩,h3⟩
end Go.Proofs.YtckcojkpghiclaaGreatDoor.T11
namespace Go.Proofs.YtckcojkpghiclaaGreatDoor.T11
set_option maxRecDepth 100000
open Go.Proofs.YtckcojkpghiclaaGreatDoor.T9 Go.Proofs.YtckcojkpghiclaaGreatDoor.T4 Go.Proofs.YtckcojkpghiclaaGreatDoor.T12
def Cd (e:Nat):Prop:=e = 1 ∨ e = 6 ∨ e = 7 ∨ e = 8 ∨ e = 9 ∨ e = 10 ∨ e = 11
theorem vget_cd (d:List UInt8):(vget d).2.2 = 0 ∨ Cd (vget d).2.2:=by
 unfold vget Cd
 split
 ·exact .inr (by decide)
 ·split
  ·exact .inr (by decide)
  ·exact .inl rfl
theorem wfix_cd (d:List UInt8) (S:Nat):(wfix d S).2.2 = 0 ∨ Cd (wfix d S).2.2:=by
 unfold wfix Cd
 split
 ·exact .inr (by decide)
 ·exact .inl rfl
theorem wnum_cd (wire:Nat) (d:List UInt8):(wnum wire d).2.2 = 0 ∨ Cd (wnum wire d).2.2:=by
 unfold wnum
 split
 ·exact wfix_cd _ _
 ·split
  ·exact wfix_cd _ _
  ·exact vget_cd _
theorem tellsN_cd (n:Nat):(tellsN n).2.2 = 0 ∨ Cd (tellsN n).2.2:=by
 unfold tellsN Cd
 split
 ·exact .inr (by decide)
 ·split
  ·exact .inl rfl
  ·exact .inr (by decide)
theorem wnext_cd (d:List UInt8):(wnext d).2.2 = 0 ∨ Cd (wnext d).2.2:=by
 unfold wnext
 split
 ·unfold wtell
  split
  ·unfold wrest
   split
   ·unfold wrun Cd
    split
    ·split
     ·exact .inl rfl
     ·exact .inr (by decide)
    ·exact .inl rfl
   ·exact wnum_cd _ _
  ·exact tellsN_cd _
 ·exact vget_cd _
theorem numsW_cd (wire:Nat) (k:Int):∀ (n:Nat) (d:List UInt8),(numsW wire k n d).2 = 0 ∨ Cd (numsW wire k n d).2:=by
 intro n
 induction n with
 | zero=>intro d; left; simp [numsW]
 | succ n ih =>
  intro d
  unfold numsW
  split
  ·left; rfl
  ·split
   ·split
    ·exact .inl rfl
    ·exact ih _
   ·exact wnum_cd _ _
theorem numsK_cd (k:Int) (d:List UInt8):(numsK k d).2 = 0 ∨ Cd (numsK k d).2:=by
 unfold numsK
 split
 ·exact numsW_cd _ _ _ _
 ·exact .inr (.inl rfl)
theorem mapE_cd {α β:Type} {f:α → β} {x:Except Nat α} {e:Nat} (h:mapE f x = .error e) (hx:x = .error e → Cd e):Cd e:=by
 cases x with
 | ok y=>cases h
 | error e'=>obtain rfl:=Except.error.inj h; exact hx rfl
theorem foldR_cd {α:Type} {g:List UInt8 → Rc → α → Except Nat α} (hg:∀ d r x e,g d r x = .error e → Cd e):∀ (n:Nat) (d:List UInt8) (x:α) (e:Nat),foldR g n d x = .error e → Cd e:=by
 intro n
 induction n with
 | zero=>intro d x e h; cases h
 | succ n ih =>
  intro d x e h
  unfold foldR at h
  split at h
  ·cases h
  ·split at h
   ·split at h
    ·exact ih _ _ _ h
    ·rename_i _ e' he
     obtain rfl:=Except.error.inj h
     exact hg _ _ _ _ he
   ·rename_i h1
    obtain rfl:=Except.error.inj h
    exact (wnext_cd d).resolve_left h1
theorem takeV_cd {sub:Int → List UInt8 → Mg → Except Nat Mg} (hs:∀ m d x e,sub m d x = .error e → Cd e) {k ref:Int} {d:List UInt8} {r:Rc} {v:Vl'} {e:Nat} (h:takeV sub k ref d r v = .error e):Cd e:=by
 unfold takeV at h
 split at h
 ·obtain rfl:=Except.error.inj h; unfold Cd; decide
 ·split at h
  ·exact mapE_cd h (hs _ _ _ _)
  ·split at h
   ·split at h
    ·cases h
    ·obtain rfl:=Except.error.inj h; unfold Cd; decide
   ·split at h <;> cases h
theorem onSlot_cd {no:Int} {g:So → Except Nat So} (hg:∀ t e,g t = .error e → Cd e):∀ (l:List So) (e:Nat),onSlot no g l = .error e → Cd e
 | [],e,h=>mapE_cd h (hg _ _)
 | t :: l,e,h=>by
  unfold onSlot at h
  split at h
  ·exact mapE_cd h (hg _ _)
  ·exact mapE_cd h (onSlot_cd hg l e)
theorem slotD_cd {n:Nat} {sub:Int → List UInt8 → Mg → Except Nat Mg} (hs:∀ m d x e,sub m d x = .error e → Cd e) {f:Df} {d:List UInt8} {r:Rc} (t:So) (e:Nat) (h:slotD n sub f d r t = .error e):Cd e:=by
 unfold slotD at h
 split at h
 ·unfold entryS at h
  split at h
  ·obtain rfl:=Except.error.inj h; unfold Cd; decide
  ·split at h
   ·obtain rfl:=Except.error.inj h; unfold Cd; decide
   ·refine mapE_cd h (foldR_cd (fun d r p e h=>?_) _ _ _ _)
    unfold pairD at h
    split at h
    ·exact mapE_cd h (takeV_cd hs)
    ·split at h
     ·exact mapE_cd h (takeV_cd hs)
     ·cases h
 ·split at h
  ·unfold packedS at h
   split at h
   ·cases h
   ·rename_i h1
    obtain rfl:=Except.error.inj h
    exact (numsK_cd _ _).resolve_left h1
  ·split at h
   ·exact mapE_cd h (takeV_cd hs)
   ·exact mapE_cd h (takeV_cd hs)
theorem decM_cd (s:Sc):∀ (n:Nat) (m:Int) (d:List UInt8) (x:Mg) (e:Nat),decM s n m d x = .error e → Cd e
 | 0,_,_,_,e,h=>by
  obtain rfl:=Except.error.inj h
  unfold Cd; decide
 | n + 1,m,d,x,e,h=>by
  refine mapE_cd h (foldR_cd (fun d r l e h=>?_) _ _ _ _)
  unfold fieldD at h
  split at h
  ·cases h
  ·exact onSlot_cd (fun t e h=>slotD_cd (decM_cd s n) t e h) _ _ h
theorem told_cd {s:Sc} {m:Int} {l:List UInt8} {e:Nat} (h:toldE s m l = .error e):Cd e:=by
 unfold toldE at h
 split at h
 ·split at h
  ·cases h
  ·rename_i _ e' he
   obtain rfl:=Except.error.inj h
   exact decM_cd _ _ _ _ _ _ he
 ·obtain rfl:=Except.error.inj h
  exact .inl rfl
end Go.Proofs.YtckcojkpghiclaaGreatDoor.T11
namespace Go.Proofs.YtckcojkpghiclaaGreatDoor.T11
set_option maxRecDepth 100000
open Go.RowKit
open Go.Proofs.YtckcojkpghiclaaGreatDoor.T9 Go.Proofs.YtckcojkpghiclaaGreatDoor.T4 Go.Proofs.YtckcojkpghiclaaGreatDoor.T12
theorem dec_eg:decM s0 64 0 [8,5,8,7] (.mk []) = .ok x0:=by kernel_rfl
theorem nor_eg:norB s0 64 0 x0 = x0:=by kernel_rfl
theorem told_eg:toldE s0 0 [8,5,8,7] = .ok x0:=by
 rw [told_of ⟨may_s0,by decide,by decide⟩,dec_eg]
 exact congrArg Except.ok nor_eg
theorem x0_reads {b:Nat} {w:World} {A:Option Addr} {n c:Nat} (h:T9.MAt (Ow b w) 64 x0 [.slice A n c]):∃ ad ad' c',A = some ad ∧ n = 1 ∧ w.cell? ⟨ad.block,ad.off + 2,none⟩ = some (.slice (some ad') 1 c') ∧ w.cell? ad' = some (.int .i64 7):=by
 obtain ⟨u,hu,hl⟩:=own_rd h
 obtain rfl:Value.slice A n c = u:=by simpa using hu
 obtain ⟨A1,c1,xs,e1,hs1,-,hr1,-⟩:=hl.open_
 obtain ⟨ad,x,y,z,rfl,-,⟨u1,u2,e2,-,hl2⟩,-,-,hz⟩:=row3 (k:=0) sAt.len hs1 hr1 (show x0.F[0]? = some t0 from rfl)
 injection e1 with e11 e12 e13
 subst e11 e13
 obtain ⟨rfl,rfl,rfl⟩:x = .int .i64 1 ∧ y = u1 ∧ z = u2:=by simpa [t0] using e2
 obtain ⟨A2,c2,ys,rfl,hs2,-,hr2,-⟩:=hl2.open_
 obtain ⟨ad2,x2,y2,z2,rfl,-,⟨u3,e3,-⟩,hx2,-,-⟩:=row3 (k:=0) vAt.len hs2 hr2 (show t0.V[0]? = some v0 from rfl)
 obtain ⟨rfl,-⟩:x2 = .int .i64 7 ∧ _:=by simpa [v0] using e3
 simp only [Nat.zero_mul,add_nothing] at hz hx2
 exact ⟨ad,ad2,c2,rfl,e12,hz,hx2⟩
set_option maxRecDepth 1000000 in
set_option maxHeartbeats 4000000 in
theorem awake11_any (w:World) (T:Tabs w) (TW:Wires w):Calls Tryz.prog 12 #[] w fun e w'=>e = .returned (.bool true) ∧ Below w.heap.size w w':=by
 obtain ⟨h1,h2,h3,h4,L5⟩:=T9.four_new w (.cells #[.int .i64 1,.string ⟨#[97]⟩,.int .i64 0,.int .i64 0,.bool false,.int .i64 (-1),.int .i64 0] 45) (.cells #[.string ⟨#[65]⟩,.slice (some ⟨w.heap.size,0,none⟩) 1 1] 56) (.cells #[.slice (some ⟨w.heap.size + 1,0,none⟩) 1 1,.slice none 0 0] 25) (.cells #[.int .u8 8,.int .u8 5,.int .u8 8,.int .u8 7] 5)
 have hS:=lit_reads (((w.alloc (.cells #[.int .i64 1,.string ⟨#[97]⟩,.int .i64 0,.int .i64 0,.bool false,.int .i64 (-1),.int .i64 0] 45)).alloc (.cells #[.string ⟨#[65]⟩,.slice (some ⟨w.heap.size,0,none⟩) 1 1] 56)).alloc (.cells #[.slice (some ⟨w.heap.size + 1,0,none⟩) 1 1,.slice none 0 0] 25)) [8,5,8,7] (by decide)
 have hsz:(((w.alloc (.cells #[.int .i64 1,.string ⟨#[97]⟩,.int .i64 0,.int .i64 0,.bool false,.int .i64 (-1),.int .i64 0] 45)).alloc (.cells #[.string ⟨#[65]⟩,.slice (some ⟨w.heap.size,0,none⟩) 1 1] 56)).alloc (.cells #[.slice (some ⟨w.heap.size + 1,0,none⟩) 1 1,.slice none 0 0] 25)).heap.size = w.heap.size + 1 + 1 + 1:=by simp
 rw [hsz] at hS
 clear hsz
 change SlB ((((w.alloc (.cells #[.int .i64 1,.string ⟨#[97]⟩,.int .i64 0,.int .i64 0,.bool false,.int .i64 (-1),.int .i64 0] 45)).alloc (.cells #[.string ⟨#[65]⟩,.slice (some ⟨w.heap.size,0,none⟩) 1 1] 56)).alloc (.cells #[.slice (some ⟨w.heap.size + 1,0,none⟩) 1 1,.slice none 0 0] 25)).alloc (.cells #[.int .u8 8,.int .u8 5,.int .u8 8,.int .u8 7] 5)) _ 4 _ at hS
 have hT:=T.on L5
 have hTW:=TW.on L5
 clear T TW
 go_enter Tryz.func12,Tryz.ntmps12
 go_wp2_with fail
 generalize ((((w.alloc (.cells #[.int .i64 1,.string ⟨#[97]⟩,.int .i64 0,.int .i64 0,.bool false,.int .i64 (-1),.int .i64 0] 45)).alloc (.cells #[.string ⟨#[65]⟩,.slice (some ⟨w.heap.size,0,none⟩) 1 1] 56)).alloc (.cells #[.slice (some ⟨w.heap.size + 1,0,none⟩) 1 1,.slice none 0 0] 25)).alloc (.cells #[.int .u8 8,.int .u8 5,.int .u8 8,.int .u8 7] 5)) = W at *
 have hsat:=sat0 (B:=W.heap.size) h1 h2 (box_lt h1) (box_lt h2)
 have HD:=Lib.hid (decode_any W.heap.size _ _ 0 _ 4 [8,5,8,7] W (by decide) (Nat.le_refl _) hsat in_s0 hS hTW hT)
 rw [told_eg] at HD
 clear h1 h2 h3 h4 hS hT hTW hsat
 refine HD.out.mono ?_
 rintro e w1 ⟨⟨er,h,-⟩ | ⟨X,h,A,n,c,rfl,hm⟩,hb1⟩
 ·cases h
 obtain rfl:=Except.ok.inj h
 obtain ⟨ad,ad',c',rfl,rfl,r1,r2⟩:=x0_reads hm
 have N1:=below_new w1 (.cells #[.slice (some ad) 1 c] 31)
 have s1:=cell_on N1 r1
 have s2:=cell_on N1 r2
 have hbz:=below_then (below_then L5 hb1) N1
 clear HD hm r1 r2 N1
 go_wp2
 go_ret
 exact ⟨rfl,hbz⟩
theorem laid11 {W:World} (h:laidMetH Tryz.prog [("truffle/tag.wires",Rows.laid_truffle_tag_wires),("truffle/table.plains",Rows.laid_truffle_table_plains),("truffle/table.stances",Rows.laid_truffle_table_stances)] W):Tabs W ∧ Wires W :=
 T12.laid12 h
theorem sat_up {w w':World} {s:Sc} {vM vE:Value} (h:SAt w.heap.size w s vM vE) (hb:Below w.heap.size w w'):SAt w'.heap.size w' s vM vE:=SAt.mono (SAt.lo h hb (Nat.le_refl _)) hb.size
def codeE:Except Nat Mg → Nat
 | .ok _=>0
 | .error e=>e
theorem own_far11 {w w':World} {b:Nat} {e:TypeId} {size:Nat} {v:Value} {n:Nat} {xs:List Value} (hr:w.ownsRow b e size v n xs) (hg:w.grownBy w' v.ownBlock) {B:Nat} {cs:Array Value} {t:TypeId} {fr:Nat × Nat} (hb:w.heap[B]? = some (.cells cs t fr)) (ht:t ≠ e):w'.heap[B]? = some (.cells cs t fr):=by
 refine (hg.block B (Array.getElem?_eq_some_iff.1 hb).1 ?_).trans hb
 rcases hr.2 with ⟨rfl,_⟩ | ⟨g',cap,cur,rfl,_,h2,_⟩
 ·simp [Value.ownBlock]
 ·simp only [Value.ownBlock,ne_eq,Option.some.injEq]
  rintro rfl
  rw [hb] at h2
  simp only [Option.some.injEq,Obj.cells.injEq] at h2
  exact ht h2.2.1
def msgE:Except Nat Mg → Mg
 | .ok X=>X
 | .error _=>.mk []
theorem dec_both {s:Sc} (vM vE:Value) (m:Int) (A:Option Addr) (c n z:Nat) (X:Mg) (l:List UInt8) (w:World) (hn:l.length = n) (hz:codeE (toldE s m l) = z) (hX:msgE (toldE s m l) = X) (hl:n ≤ 10000) (hs:SAt w.heap.size w s vM vE) (hin:ScIn s) (hr:SlB w A c l) (TW:Wires w) (TT:Tabs w) :
  Calls Tryz.prog 14 #[.agg #[vM,vE],.int .i64 m,.slice A n c] w fun e w'=>(∃ A n c,e = .returned (.tuple #[.agg #[.slice A n c],.int .i64 z]) ∧ T9.MAt (Ow w.heap.size w') 64 X [.slice A n c]) ∧ Below w.heap.size w w':=by
 subst hn
 refine (decode_any w.heap.size vM vE m A c l w hl (Nat.le_refl _) hs hin hr TW TT).mono ?_
 rintro e w' ⟨⟨er,h,rfl⟩ | ⟨Y,h,A',n',c',rfl,hm⟩,hb⟩
 ·rw [h] at hz hX
  obtain rfl:er = z:=hz
  obtain rfl:Mg.mk [] = X:=hX
  exact ⟨⟨_,_,_,rfl,⟨_,rfl,[],⟨World.ownsRow_nil _ _ _ _,Nat.zero_le _⟩,rfl⟩⟩,hb⟩
 ·rw [h] at hz hX
  obtain rfl:0 = z:=hz
  obtain rfl:Y = X:=hX
  exact ⟨⟨_,_,_,rfl,hm⟩,hb⟩
end Go.Proofs.YtckcojkpghiclaaGreatDoor.T11
namespace Go.Proofs.YtckcojkpghiclaaGreatDoor
set_option maxRecDepth 100000
open Go.RowKit
theorem not_next {α:Type} {l:List α} {k:Nat} {x:α} {P:α → Prop} (hk:l[k]? = some x) (hx:P x) (h:∀ j y,j < k → l[j]? = some y → P y):∀ j y,j < k + 1 → l[j]? = some y → P y:=by
 intro j y hj hy
 rcases Nat.lt_or_ge j k with h2 | h2
 ·exact h j y h2 hy
 ·obtain rfl:j = k:=by omega
  rw [hk] at hy
  obtain rfl:=Option.some.inj hy
  exact hx
set_option maxRecDepth 1000000 in
set_option maxHeartbeats 4000000 in
theorem rBy_any (B:Nat) (s:Sc) (vM vE:Value) (m:Int) (x:Int) (w:World) (hB:B ≤ w.heap.size) (hs:SAt B w s vM vE) :
  Calls Tryz.prog 18 #[.agg #[vM,vE],.int .i64 m,.int .i64 x] w fun e w'=>e = .returned (foundV (byS s m x)) ∧ Below w.heap.size w w':=by
 obtain ⟨xs,ys,⟨A1,q1,rfl,s1,b1⟩,h2,⟨A2,q2,rfl,s2,b2⟩,h4⟩:=hs
 have hb0:Below w.heap.size w ((w.alloc (.cells #[.slice A1 s.M.length q1,.slice A2 s.E.length q2] 25)).alloc (.cells #[.int .i64 0,.string ⟨#[]⟩,.int .i64 0,.int .i64 0,.bool false,.int .i64 0,.int .i64 0] 45)):=below_lit (below_new _ _) _
 have hx0:((w.alloc (.cells #[.slice A1 s.M.length q1,.slice A2 s.E.length q2] 25)).alloc (.cells #[.int .i64 0,.string ⟨#[]⟩,.int .i64 0,.int .i64 0,.bool false,.int .i64 0,.int .i64 0] 45)).heap[w.heap.size]? = some (.cells #[.slice A1 s.M.length q1,.slice A2 s.E.length q2] 25 (0,0)):=((below_new _ _).block _ (by simp)).trans (heap_alloc_new w _)
 have hr0:=heap_second w (.cells #[.slice A1 s.M.length q1,.slice A2 s.E.length q2] 25) (.cells #[.int .i64 0,.string ⟨#[]⟩,.int .i64 0,.int .i64 0,.bool false,.int .i64 0,.int .i64 0] 45)
 have hsm:s.M.length ≤ 9223372036854775807:=by have h1:=s1.le; have h2:=s1.cap; unfold maxLen at h2; omega
 have HM:=Lib.hid (s1.low b1 (Low.below hb0 hB))
 have HMA:=Lib.hid (h2.low (Low.below hb0 hB))
 have HB0:=Lib.hid hb0
 clear s1 h2 s2 h4 hB b1 b2
 go_enter Tryz.func18,Tryz.ntmps18
 go_upto_region 1 with fail
 obtain ⟨W0,hW0⟩:∃ W,W = ((w.alloc (.cells #[.slice A1 s.M.length q1,.slice A2 s.E.length q2] 25)).alloc (.cells #[.int .i64 0,.string ⟨#[]⟩,.int .i64 0,.int .i64 0,.bool false,.int .i64 0,.int .i64 0] 45)):=⟨_,rfl⟩
 rw [← hW0] at HM HMA HB0 hx0 hr0 ⊢
 clear hW0 hb0
 have v0:=heap_cell hx0 0
 simp at v0
 by_cases hm:0 ≤ m ∧ m < s.M.length
 ·obtain ⟨k,rfl⟩:∃ k:Nat,m = k:=⟨m.toNat,by omega⟩
  have hlt:k < s.M.length:=by omega
  obtain ⟨d,hd0⟩:∃ d,s.M[k]? = some d:=⟨_,List.getElem?_eq_getElem hlt⟩
  have hn:byS s (k:Int) x = d.F.find? (fun y=>y.no == x):=by
   have e:msgAt s (k:Int) = some d:=by unfold msgAt; rw [if_neg (by omega),Int.toNat_natCast,hd0]
   unfold byS
   rw [e]
   rfl
  obtain ⟨ad,vF,rfl,hg,hmr,c0,c1⟩:=mdr_at HM.out HMA.out hd0
  obtain ⟨AF,cF,rfl,sF,aF⟩:=hmr
  have hfl:d.F.length ≤ 9223372036854775807:=by have h1:=sF.le; have h2:=sF.cap; unfold maxLen at h2; omega
  have HSF:=Lib.hid sF
  have HN:=Lib.hid hn
  have HX0:=Lib.hid hx0
  have HR0:=Lib.hid hr0
  have h1:decide ((k:Int) < 0) = false:=by rw [decide_eq_false_iff_not]; omega
  have h2:decide ((s.M.length:Int) ≤ (k:Int)) = false:=by rw [decide_eq_false_iff_not]; omega
  have h3:decide ((k:Int) ≥ (s.M.length:Int)) = false:=by rw [decide_eq_false_iff_not]; omega
  clear hm hn sF hd0 hx0 hr0
  go_wp2
  go_loopw [8] (fun i wr=>∃ j:Nat,i = .int .i64 j ∧ j ≤ d.F.length ∧ (∀ i y,i < j → d.F[i]? = some y → (y.no == x) = false) ∧ wr = W0) (fun i _=>d.F.length - (intOf i).toNat)
  case atStart=>exact ⟨0,rfl,by omega,fun j y hj=>by omega,rfl⟩
  case round =>
   obtain ⟨j,rfl,hj,herr,rfl⟩:=hrel
   have HQ:=Lib.hid herr
   clear herr
   by_cases hlj:j < d.F.length
   ·obtain ⟨y,hy⟩:∃ d',d.F[j]? = some d':=⟨_,List.getElem?_eq_getElem hlj⟩
    obtain ⟨ad3,rfl,hg3,k0,k1,k2,k3,k4,k5,k6⟩:=dfr_at HSF.out hy
    have HY:=Lib.hid hy
    clear hy
    skip
    by_cases hx:y.no = x
    ·have he:(y.no == x) = true:=beq_iff_eq.2 hx
     have HF:=Lib.hid (HN.out.trans (find_first HQ.out HY.out (beq_iff_eq.2 hx)))
     clear hx
     go_wp2_with (refine wpList_store_df rfl _ _ rfl rfl (w.heap.size + 1) _ _ _ _ _ _ _ _ _ _ _ _ _ _ rfl rfl _ HR0.out ?_)
     refine bodyPost_ret (results_df1 rfl _ _ (w.heap.size + 1) _ _ _ _ _ _ _ _ (0,0) rfl (setRow_heap _ _ _ _ _ _ HR0.out)) rfl ?_
     exact ⟨by rw [HF.out]; rfl,below_setRow HB0.out (by omega) _⟩
    ·have he:(y.no == x) = false:=beq_eq_false_iff_ne.2 hx
     have HX:=Lib.hid (show (y.no == x) = false from beq_eq_false_iff_ne.2 hx)
     clear hx
     go_wp2
     exact ⟨⟨j + 1,by go_num,by omega,not_next (P:=fun y=>(y.no == x) = false) HY.out HX.out HQ.out,trivial⟩,by simp [intOf]; omega⟩
   ·obtain rfl:j = d.F.length:=by omega
    have HF:=Lib.hid (HN.out.trans (find_none HQ.out))
    go_wp2_with (refine wpList_store_df rfl _ _ rfl rfl (w.heap.size + 1) _ _ _ _ _ _ _ _ _ _ _ _ _ _ rfl rfl _ HR0.out ?_)
    refine bodyPost_ret (results_df1 rfl _ _ (w.heap.size + 1) _ _ _ _ _ _ _ _ (0,0) rfl (setRow_heap _ _ _ _ _ _ HR0.out)) rfl ?_
    exact ⟨by rw [HF.out]; rfl,below_setRow HB0.out (by omega) _⟩
 ·have HN:Hid (byS s m x = none):=Lib.hid (by
   have e:msgAt s m = none:=by
    unfold msgAt
    split
    ·rfl
    ·exact List.getElem?_eq_none (by omega)
   unfold byS
   rw [e]
   rfl)
  obtain ⟨v1,hv1⟩:∃ v,decide (m < 0) = v:=⟨_,rfl⟩
  obtain ⟨v2,hv2⟩:∃ v,decide ((s.M.length:Int) ≤ m) = v:=⟨_,rfl⟩
  have HV:Hid ((v1 || v2) = true):=Lib.hid (by rw [← hv1,← hv2]; simp only [Bool.or_eq_true,decide_eq_true_eq]; omega)
  have hv3:decide (m ≥ (s.M.length:Int)) = v2:=hv2
  clear hm
  cases v1 <;> cases v2
  ·exact absurd HV.out (by simp)
  all_goals
   go_wp2_with (refine wpList_store_df rfl _ _ rfl rfl (w.heap.size + 1) _ _ _ _ _ _ _ _ _ _ _ _ _ _ rfl rfl _ hr0 ?_)
   refine bodyPost_ret (results_df1 rfl _ _ (w.heap.size + 1) _ _ _ _ _ _ _ _ (0,0) rfl (setRow_heap _ _ _ _ _ _ hr0)) rfl ?_
   exact ⟨by rw [HN.out]; rfl,below_setRow HB0.out (by omega) _⟩
end Go.Proofs.YtckcojkpghiclaaGreatDoor
namespace Go.Proofs.YtckcojkpghiclaaGreatDoor.T11
set_option maxRecDepth 100000
open Go.Proofs.YtckcojkpghiclaaGreatDoor.T9 Go.Proofs.YtckcojkpghiclaaGreatDoor.T4
def vw:List So → Int → Option So
 | [],_=>none
 | t :: l,no=>if t.no = no then some t else vw l no
theorem vw_no:∀ {l:List So} {no:Int} {t:So},vw l no = some t → t.no = no ∧ t ∈ l
 | [],_,_,h=>by cases h
 | x :: l,no,t,h=>by
  unfold vw at h
  split at h
  ·rename_i e
   obtain rfl:=Option.some.inj h
   exact ⟨e,by simp⟩
  ·obtain ⟨h1,h2⟩:=vw_no h
   exact ⟨h1,List.mem_cons_of_mem x h2⟩
theorem vw_of:∀ {l:List So},(l.Pairwise fun a b=>a.no ≠ b.no) → ∀ {t:So},t ∈ l → vw l t.no = some t
 | [],_,t,ht=>by cases ht
 | x :: l,h,t,ht=>by
  obtain ⟨h1,h2⟩:=List.pairwise_cons.1 h
  unfold vw
  rcases List.mem_cons.1 ht with rfl | ht
  ·rw [if_pos rfl]
  ·rw [if_neg (h1 t ht)]
   exact vw_of h2 ht
theorem vw_on {no:Int} {g:So → Except Nat So} (hg:∀ t u,g t = .ok u → u.no = t.no):∀ {l l':List So},onSlot no g l = .ok l' → (∃ u,g ((vw l no).getD ⟨no,[],[]⟩) = .ok u ∧ vw l' no = some u) ∧ ∀ k,k ≠ no → vw l' k = vw l k
 | [],l',h=>by
  unfold onSlot at h
  cases hu:g ⟨no,[],[]⟩ with
  | error e=>rw [hu] at h; cases h
  | ok u =>
   rw [hu] at h
   obtain rfl:=Except.ok.inj h
   have e:u.no = no:=hg _ _ hu
   refine ⟨⟨u,hu,?_⟩,fun k hk=>?_⟩
   ·show (if u.no = no then some u else none) = _
    rw [if_pos e]
   ·show (if u.no = k then some u else none) = none
    rw [if_neg (by rw [e]; exact fun h=>hk h.symm)]
 | t :: l,l',h=>by
  unfold onSlot at h
  by_cases ht:t.no = no
  ·rw [if_pos ht] at h
   cases hu:g t with
   | error e=>rw [hu] at h; cases h
   | ok u =>
    rw [hu] at h
    obtain rfl:=Except.ok.inj h
    have e:u.no = no:=(hg _ _ hu).trans ht
    refine ⟨⟨u,?_,?_⟩,fun k hk=>?_⟩
    ·show g ((if t.no = no then some t else vw l no).getD _) = _
     rw [if_pos ht]
     exact hu
    ·show (if u.no = no then some u else vw l no) = _
     rw [if_pos e]
    ·show (if u.no = k then some u else vw l k) = (if t.no = k then some t else vw l k)
     rw [if_neg (by rw [e]; exact fun h=>hk h.symm),if_neg (by rw [ht]; exact fun h=>hk h.symm)]
  ·rw [if_neg ht] at h
   cases hl:onSlot no g l with
   | error e=>rw [hl] at h; cases h
   | ok l2 =>
    rw [hl] at h
    obtain rfl:=Except.ok.inj h
    obtain ⟨⟨u,h1,h2⟩,h3⟩:=vw_on hg hl
    refine ⟨⟨u,?_,?_⟩,fun k hk=>?_⟩
    ·show g ((if t.no = no then some t else vw l no).getD _) = _
     rw [if_neg ht]
     exact h1
    ·show (if t.no = no then some t else vw l2 no) = _
     rw [if_neg ht]
     exact h2
    ·show (if t.no = k then some t else vw l2 k) = (if t.no = k then some t else vw l k)
     rw [h3 k hk]
theorem vw_filter (p:Int → Bool):∀ (l:List So) (k:Int),vw (l.filter fun t=>p t.no) k = if p k = true then vw l k else none
 | [],k=>by
  show none = if p k = true then none else none
  split <;> rfl
 | t :: l,k=>by
  have ih:=vw_filter p l k
  rw [List.filter_cons]
  show _ = if p k = true then (if t.no = k then some t else vw l k) else none
  by_cases hp:p t.no = true
  ·rw [if_pos hp]
   show (if t.no = k then some t else vw (l.filter fun t=>p t.no) k) = _
   by_cases e:t.no = k
   ·subst e
    rw [if_pos rfl,if_pos hp,if_pos rfl]
   ·rw [if_neg e,if_neg e,ih]
  ·rw [if_neg hp,ih]
   by_cases e:t.no = k
   ·subst e
    rw [if_neg hp,if_neg hp]
   ·rw [if_neg e]
def keepB (fd:Int → Option Df) (f:Df) (no:Int):Bool:=!(match fd no with | none=>decide (0 = f.one ∧ 0 ≠ f.no) | some o=>decide (o.one = f.one ∧ o.no ≠ f.no))
theorem vw_leave (fd:Int → Option Df) (f:Df) (l:List So) (k:Int):vw (leaveL fd f l) k = if f.one = 0 ∨ keepB fd f k = true then vw l k else none:=by
 unfold leaveL
 by_cases h:f.one = 0
 ·rw [if_pos h,if_pos (.inl h)]
 ·rw [if_neg h]
  refine (vw_filter (keepB fd f) l k).trans ?_
  by_cases hk:keepB fd f k = true
  ·rw [if_pos hk,if_pos (.inr hk)]
  ·rw [if_neg hk,if_neg (fun e=>e.elim h hk)]
def Sim (f:Df):Option So → Option So → Prop
 | none,none=>True
 | some a,some b=>a.V.length = b.V.length ∧ (f.kind ≠ 9 → a.V = b.V)
 | _,_=>False
def kO (o:Option So):List Vl':=(o.map (·.K)).getD []
def vO (o:Option So):List Vl':=(o.map (·.V)).getD []
structure Cat (F A B:Option So):Prop where
 is:B.isSome = (F.isSome || A.isSome)
 K:kO B = kO F ++ kO A
 V:vO B = vO F ++ vO A
def Shv (kind:Int) (v:Vl'):Prop:=((kind = 7 ∨ kind = 8) → v.n = 0 ∧ v.M = []) ∧ (kind ≠ 7 → kind ≠ 8 → kind ≠ 9 → v.s = [] ∧ v.M = [])
def Shp (f:Df) (o:Option So):Prop:=∀ t,o = some t → t.V.length = 1 ∧ ∀ v ∈ t.V,Shv f.kind v
def Sngl (f:Df):Prop:=f.key = -1 ∧ f.rep = false
structure Two (fd:Int → Option Df) (F A B:List So):Prop where
 one:∀ no f,fd no = some f → Sngl f → Shp f (vw A no) ∧ Shp f (vw B no) ∧ (Sim f (vw A no) (vw B no) ∨ (vw A no = none ∧ vw B no = vw F no))
 many:∀ no f,fd no = some f → ¬ Sngl f → Cat (vw F no) (vw A no) (vw B no)
theorem blank_shape (kind:Int):Shv kind (blankV kind):=by
 unfold Shv blankV
 refine ⟨fun h=>?_,fun h7 h8 h9=>?_⟩
 ·rcases h with rfl | rfl <;> simp
 ·simp [h9]
theorem take_shape {sub:Int → List UInt8 → Mg → Except Nat Mg} {kind ref:Int} {d:List UInt8} {r:Rc} {v u:Vl'} (h:takeV sub kind ref d r v = .ok u) (hv:Shv kind v):Shv kind u:=by
 unfold takeV at h
 split at h
 ·cases h
 split at h
 ·rename_i h9
  subst h9
  exact ⟨fun h=>(by rcases h with h | h <;> cases h),fun _ _ h=>absurd rfl h⟩
 split at h
 ·rename_i h7
  split at h
  ·obtain rfl:=Except.ok.inj h
   exact ⟨fun e=>hv.1 e,fun e=>absurd h7 e⟩
  ·cases h
 split at h
 ·rename_i h8
  obtain rfl:=Except.ok.inj h
  exact ⟨fun e=>hv.1 e,fun _ e=>absurd h8 e⟩
 ·rename_i h7 h8
  obtain rfl:=Except.ok.inj h
  exact ⟨fun e=>(by rcases e with e | e <;> contradiction),fun a b c=>hv.2 a b c⟩
theorem take_same {sub:Int → List UInt8 → Mg → Except Nat Mg} {kind ref:Int} {d:List UInt8} {r:Rc} {v v':Vl'} (h9:kind ≠ 9) (hv:Shv kind v) (hv':Shv kind v'):takeV sub kind ref d r v = takeV sub kind ref d r v':=by
 unfold takeV
 by_cases w:(r.wire:Int) ≠ wireI kind
 ·rw [if_pos w,if_pos w]
 rw [if_neg w,if_neg w,if_neg h9,if_neg h9]
 by_cases h7:kind = 7
 ·rw [if_pos h7,if_pos h7,(hv.1 (.inl h7)).1,(hv.1 (.inl h7)).2,(hv'.1 (.inl h7)).1,(hv'.1 (.inl h7)).2]
 rw [if_neg h7,if_neg h7]
 by_cases h8:kind = 8
 ·rw [if_pos h8,if_pos h8,(hv.1 (.inr h8)).1,(hv.1 (.inr h8)).2,(hv'.1 (.inr h8)).1,(hv'.1 (.inr h8)).2]
 rw [if_neg h8,if_neg h8,(hv.2 h7 h8 h9).1,(hv.2 h7 h8 h9).2,(hv'.2 h7 h8 h9).1,(hv'.2 h7 h8 h9).2]
theorem only_out {sub:Int → List UInt8 → Mg → Except Nat Mg} {f:Df} {d:List UInt8} {r:Rc} {a a':So} (h:onlyS sub f d r a = .ok a') (hl:a.V.length ≤ 1) (hs:∀ v ∈ a.V,Shv f.kind v) :
  ∃ v0 v,Shv f.kind v0 ∧ takeV sub f.kind f.ref d r v0 = .ok v ∧ a' = ⟨a.no,a.K,[v]⟩:=by
 unfold onlyS at h
 obtain ⟨v,hv,rfl⟩:=mapE_ok h
 obtain ⟨no,K,V⟩:=a
 match V,hl,hs,hv with
 | [],_,_,hv=>exact ⟨_,v,blank_shape _,hv,rfl⟩
 | [x],_,hs,hv=>exact ⟨x,v,hs x (by simp),hv,rfl⟩
 | _ :: _ :: _,hl,_,_=>simp at hl
theorem many_out {n:Nat} {sub:Int → List UInt8 → Mg → Except Nat Mg} {f:Df} {d:List UInt8} {r:Rc} {a a':So} (hm:¬ Sngl f) (h:slotD n sub f d r a = .ok a') :
  ∃ dk dv,a' = ⟨a.no,a.K ++ dk,a.V ++ dv⟩ ∧ ∀ b,slotD n sub f d r b = .ok ⟨b.no,b.K ++ dk,b.V ++ dv⟩:=by
 unfold slotD at h ⊢
 by_cases hk:f.key ≠ -1
 ·rw [if_pos hk] at h
  unfold entryS at h
  split at h
  ·cases h
  split at h
  ·cases h
  rename_i h1 h2
  obtain ⟨p,hp,rfl⟩:=mapE_ok h
  refine ⟨[p.1],[p.2],rfl,fun b=>?_⟩
  rw [if_pos hk]
  unfold entryS
  rw [if_neg h1,if_neg h2,hp]
  rfl
 ·rw [if_neg hk] at h
  split at h
  ·rename_i h1
   unfold packedS at h
   split at h
   ·rename_i h2
    obtain rfl:=Except.ok.inj h
    refine ⟨[],_,by rw [List.append_nil],fun b=>?_⟩
    rw [if_neg hk,if_pos h1]
    unfold packedS
    rw [if_pos h2,List.append_nil]
   ·cases h
  ·rename_i h1
   split at h
   ·rename_i h2
    unfold repS at h
    obtain ⟨v,hv,rfl⟩:=mapE_ok h
    refine ⟨[],[v],by rw [List.append_nil],fun b=>?_⟩
    rw [if_neg hk,if_neg h1,if_pos h2]
    unfold repS
    rw [hv,List.append_nil]
    rfl
   ·rename_i h2
    exact absurd ⟨Classical.not_not.1 hk,by simpa using h2⟩ hm
theorem slotD_only {n:Nat} {sub:Int → List UInt8 → Mg → Except Nat Mg} {f:Df} (hm:Sngl f) (d:List UInt8) (r:Rc) (a:So):slotD n sub f d r a = onlyS sub f d r a:=by
 unfold slotD
 rw [if_neg (fun e=>e hm.1),if_neg (fun e=>by rw [hm.2] at e; cases e.1),if_neg (by rw [hm.2]; simp)]
theorem slotD_no {n:Nat} {sub:Int → List UInt8 → Mg → Except Nat Mg} {f:Df} {d:List UInt8} {r:Rc} (t u:So) (h:slotD n sub f d r t = .ok u):u.no = t.no:=by
 by_cases hm:Sngl f
 ·rw [slotD_only hm] at h
  unfold onlyS at h
  obtain ⟨v,-,rfl⟩:=mapE_ok h
  rfl
 ·obtain ⟨dk,dv,rfl,-⟩:=many_out hm h
  rfl
theorem get_K (o:Option So) (no:Int):(o.getD ⟨no,[],[]⟩).K = kO o:=by cases o <;> rfl
theorem get_V (o:Option So) (no:Int):(o.getD ⟨no,[],[]⟩).V = vO o:=by cases o <;> rfl
theorem shp_get {f:Df} {o:Option So} (h:Shp f o) (no:Int):(o.getD ⟨no,[],[]⟩).V.length ≤ 1 ∧ ∀ v ∈ (o.getD ⟨no,[],[]⟩).V,Shv f.kind v:=by
 cases o with
 | none=>exact ⟨by simp,fun v hv=>by cases hv⟩
 | some t=>exact ⟨Nat.le_of_eq (h t rfl).1,(h t rfl).2⟩
theorem field_two {fd:Int → Option Df} (hno:∀ no f,fd no = some f → f.no = no) (hal:∀ no f,fd no = some f → ¬ Sngl f → f.one = 0) (n:Nat) (sub:Int → List UInt8 → Mg → Except Nat Mg) (F:List So) (d:List UInt8) (r:Rc) (A B A' B':List So)
  (I:Two fd F A B) (hA:fieldD fd n sub d r A = .ok A') (hB:fieldD fd n sub d r B = .ok B'):Two fd F A' B':=by
 unfold fieldD at hA hB
 cases hf:fd r.no with
 | none =>
  rw [hf] at hA hB
  obtain rfl:=Except.ok.inj hA
  obtain rfl:=Except.ok.inj hB
  exact I
 | some h =>
  rw [hf] at hA hB
  simp only at hA hB
  have hn:=hno _ _ hf
  have hh:fd h.no = some h:=by rw [hn]; exact hf
  by_cases hs:h.key = -1 ∧ h.rep = false
  ·rw [if_pos hs] at hA hB
   have hs:Sngl h:=hs
   obtain ⟨⟨uA,a1,a2⟩,a3⟩:=vw_on slotD_no hA
   obtain ⟨⟨uB,b1,b2⟩,b3⟩:=vw_on slotD_no hB
   have hkeep:h.one = 0 ∨ keepB fd h h.no = true:=.inr (by unfold keepB; rw [hh]; simp)
   rw [vw_leave,if_pos hkeep,slotD_only hs] at a1 b1
   obtain ⟨sA,sB,-⟩:=I.one _ _ hh hs
   obtain ⟨v0,v,p1,p2,rfl⟩:=only_out a1 (shp_get sA _).1 (shp_get sA _).2
   obtain ⟨w0,w,q1,q2,rfl⟩:=only_out b1 (shp_get sB _).1 (shp_get sB _).2
   refine ⟨fun no f hff hsf=>?_,fun no f hff hsf=>?_⟩
   ·by_cases e:no = h.no
    ·subst e
     rw [hh] at hff
     obtain rfl:=Option.some.inj hff
     rw [a2,b2]
     refine ⟨fun t ht=>?_,fun t ht=>?_,.inl ⟨rfl,fun h9=>?_⟩⟩
     ·obtain rfl:=Option.some.inj ht
      refine ⟨rfl,fun x hx=>?_⟩
      obtain rfl:=List.mem_singleton.1 hx
      exact take_shape p2 p1
     ·obtain rfl:=Option.some.inj ht
      refine ⟨rfl,fun x hx=>?_⟩
      obtain rfl:=List.mem_singleton.1 hx
      exact take_shape q2 q1
     ·rw [take_same h9 p1 q1,q2] at p2
      rw [Except.ok.inj p2]
    ·rw [a3 no e,b3 no e,vw_leave,vw_leave]
     by_cases c:h.one = 0 ∨ keepB fd h no = true
     ·rw [if_pos c,if_pos c]
      exact I.one no f hff hsf
     ·rw [if_neg c,if_neg c]
      exact ⟨fun t ht=>(by cases ht),fun t ht=>(by cases ht),.inl trivial⟩
   ·have e:no ≠ h.no:=by
     rintro rfl
     rw [hh] at hff
     obtain rfl:=Option.some.inj hff
     exact hsf hs
    have c:h.one = 0 ∨ keepB fd h no = true:=by
     by_cases h0:h.one = 0
     ·exact .inl h0
     ·refine .inr ?_
      unfold keepB
      rw [hff]
      have:=hal no f hff hsf
      simp only [Bool.not_eq_true',decide_eq_false_iff_not]
      rintro ⟨e1,-⟩
      exact h0 (e1.symm.trans this)
    rw [a3 no e,b3 no e,vw_leave,vw_leave,if_pos c,if_pos c]
    exact I.many no f hff hsf
  ·rw [if_neg hs] at hA hB
   have hs:¬ Sngl h:=hs
   obtain ⟨⟨uA,a1,a2⟩,a3⟩:=vw_on slotD_no hA
   obtain ⟨⟨uB,b1,b2⟩,b3⟩:=vw_on slotD_no hB
   obtain ⟨dk,dv,rfl,hall⟩:=many_out hs a1
   rw [hall] at b1
   obtain rfl:=Except.ok.inj b1
   refine ⟨fun no f hff hsf=>?_,fun no f hff hsf=>?_⟩
   ·have e:no ≠ h.no:=by
     rintro rfl
     rw [hh] at hff
     obtain rfl:=Option.some.inj hff
     exact hs hsf
    rw [a3 no e,b3 no e]
    exact I.one no f hff hsf
   ·by_cases e:no = h.no
    ·subst e
     have c:=I.many _ _ hh hs
     rw [a2,b2]
     refine ⟨by simp,?_,?_⟩
     ·show (((vw B h.no).getD ⟨h.no,[],[]⟩).K ++ dk) = kO (vw F h.no) ++ (((vw A h.no).getD ⟨h.no,[],[]⟩).K ++ dk)
      rw [get_K,get_K,c.K,List.append_assoc]
     ·show (((vw B h.no).getD ⟨h.no,[],[]⟩).V ++ dv) = vO (vw F h.no) ++ (((vw A h.no).getD ⟨h.no,[],[]⟩).V ++ dv)
      rw [get_V,get_V,c.V,List.append_assoc]
    ·rw [a3 no e,b3 no e]
     exact I.many no f hff hsf
theorem decR_two {α:Type} {g:List UInt8 → Rc → α → Except Nat α} (hg:∀ d r x y,er (g d r x) = er (g d r y)) (I:α → α → Prop) (hs:∀ d r A B A' B',I A B → g d r A = .ok A' → g d r B = .ok B' → I A' B') :
  ∀ (n:Nat) (d:List UInt8) (A B A':α),d.length ≤ n → I A B → decR g d A = .ok A' → ∃ B',decR g d B = .ok B' ∧ I A' B':=by
 intro n
 induction n with
 | zero =>
  intro d A B A' hn hi h
  obtain rfl:d = []:=List.eq_nil_of_length_eq_zero (by omega)
  rw [decR_nil] at h
  obtain rfl:=Except.ok.inj h
  exact ⟨B,decR_nil g B,hi⟩
 | succ n ih =>
  intro d A B A' hn hi h
  by_cases hd:d = []
  ·subst hd
   rw [decR_nil] at h
   obtain rfl:=Except.ok.inj h
   exact ⟨B,decR_nil g B,hi⟩
  ·by_cases he:(wnext d).2.2 = 0
   ·have hw:wnext d = ((wnext d).1,(wnext d).2.1,0):=by rw [← he]
    obtain ⟨p1,p2⟩:=wnext_pos he
    rw [decR_cons g A hw] at h
    cases hA:g d (wnext d).1 A with
    | error e=>rw [hA] at h; cases h
    | ok A1 =>
     rw [hA] at h
     have h2:=hg d (wnext d).1 A B
     rw [hA] at h2
     cases hB:g d (wnext d).1 B with
     | error e=>rw [hB] at h2; cases h2
     | ok B1 =>
      obtain ⟨B',h3,h4⟩:=ih (d.drop (wnext d).2.1) A1 B1 A' (by rw [List.length_drop]; omega) (hs _ _ _ _ _ _ hi hA hB) h
      refine ⟨B',?_,h4⟩
      rw [decR_cons g B hw,hB]
      exact h3
   ·rw [decR_err g A hd he] at h; cases h
structure Rel (f:Df) (a c:So):Prop where
 no:c.no = a.no
 K:c.K = a.K
 rep:f.rep = true → c.V.length = 2 * a.V.length
 one:f.rep = false → c.V.length = a.V.length ∧ (f.kind ≠ 9 → c.V = a.V)
theorem risen_twice (K:List Vl'):risen (K ++ K) = risen K :=
 rise_unique' lv_irr lv_tr (rise_risen _) (rise_risen _) fun x=>by rw [mem_risen,mem_risen]; simp
theorem last_twice (P:List (Vl' × Vl')) (k:Vl'):lastV (P ++ P) k = lastV P k:=by
 unfold lastV lastP
 rw [List.reverse_append,List.find?_append]
 cases P.reverse.find? fun p=>sameK p.1 k <;> rfl
theorem nor_rel {G:Int → Mg → Bool} (N:Int → Mg → Mg) {f:Df} {a b:So} (ha:fillG G f a = true) (hb:fillG G f b = true) (hno:b.no = a.no) (hm:f.key ≠ -1 → f.rep = false)
  (h:(Sngl f ∧ Sim f (some a) (some b)) ∨ (¬ Sngl f ∧ b.K = a.K ++ a.K ∧ b.V = a.V ++ a.V)):toldB f a.V = toldB f b.V ∧ Rel f (norS N f a) (norS N f b):=by
 obtain ⟨no,K,V⟩:=a
 obtain ⟨no',K',V'⟩:=b
 simp only at hno
 subst hno
 unfold fillG at ha hb
 simp only [Bool.and_eq_true] at ha hb
 rcases h with ⟨hs,h1,h2⟩ | ⟨hs,h1,h2⟩
 ·simp only at h1 h2
  have la:V.length = 1:=by
   have:=ha.1
   unfold manyB at this
   rw [if_pos hs.1,hs.2] at this
   have h3:=(Bool.and_eq_true _ _ ▸ this).2
   simpa using h3
  refine ⟨?_,?_⟩
  ·by_cases h9:f.kind = 9
   ·match V,V',la,h1 with
    | [v],[v'],_,_=>unfold toldB; simp [h9]
   ·rw [h2 h9]
  ·unfold norS
   rw [if_pos hs.1,if_pos hs.1]
   refine ⟨rfl,rfl,fun e=>(by rw [hs.2] at e; cases e),fun _=>⟨?_,fun h9=>?_⟩⟩
   ·simp [h1]
   ·simp only
    rw [h2 h9]
 ·simp only at h1 h2
  subst h1 h2
  refine ⟨by cases V <;> rfl,?_⟩
  by_cases hk:f.key = -1
  ·unfold norS
   rw [if_pos hk,if_pos hk]
   refine ⟨rfl,rfl,fun _=>?_,fun e=>absurd ⟨hk,e⟩ hs⟩
   simp only [List.length_map,List.length_append]
   omega
  ·have la:K.length = V.length:=by
    have:=ha.1
    unfold manyB at this
    rw [if_neg hk] at this
    simpa using this
   have e:norS N f ⟨no',K ++ K,V ++ V⟩ = norS N f ⟨no',K,V⟩:=by
    unfold norS
    rw [if_neg hk,if_neg hk]
    simp only [risen_twice,List.zip_append la,last_twice]
   rw [e]
   exact ⟨rfl,rfl,fun e=>(by rw [hm hk] at e; cases e),fun _=>⟨rfl,fun _=>rfl⟩⟩
theorem slots_shp {G:Int → Mg → Bool} {fd:Int → Option Df} {F:List So} (h:slotsG fd (fillG G) [] F = true) {no:Int} {f:Df} (hf:fd no = some f) (hs:Sngl f):Shp f (vw F no):=by
 intro t ht
 obtain ⟨e,hm⟩:=vw_no ht
 obtain ⟨g,hg,hfill⟩:=(slots_iff.1 h).1 t hm
 rw [e,hf] at hg
 obtain rfl:=Option.some.inj hg
 unfold fillG at hfill
 simp only [Bool.and_eq_true,List.all_eq_true] at hfill
 obtain ⟨h1,-,h3⟩:=hfill
 unfold manyB at h1
 rw [if_pos hs.1,hs.2] at h1
 refine ⟨by have h5:=(Bool.and_eq_true _ _ ▸ h1).2; simpa using h5,fun v hv=>?_⟩
 have h4:=h3 v hv
 unfold askG at h4
 refine ⟨fun h=>?_,fun h7 h8 h9=>?_⟩
 ·rcases h with h | h
  ·rw [if_pos h] at h4
   simp only [Bool.and_eq_true,beq_iff_eq,List.isEmpty_iff] at h4
   exact ⟨h4.1,h4.2.2⟩
  ·rw [if_neg (by omega),if_pos h] at h4
   simp only [Bool.and_eq_true,beq_iff_eq,List.isEmpty_iff] at h4
   exact h4
 ·rw [if_neg h7,if_neg h8,if_neg h9] at h4
  simp only [Bool.and_eq_true,List.isEmpty_iff] at h4
  exact h4.2
theorem norF_two {G:Int → Mg → Bool} {fd:Int → Option Df} (N:Int → Mg → Mg) {F B:List So} (hm:∀ no f,fd no = some f → f.key ≠ -1 → f.rep = false) (hF:slotsG fd (fillG G) [] F = true) (hB:slotsG fd (fillG G) [] B = true) (I:Two fd F F B) :
  (norF fd N F).length = (norF fd N B).length ∧ ∀ (i:Nat) (a c:So),(norF fd N F)[i]? = some a → (norF fd N B)[i]? = some c → ∃ f,fd a.no = some f ∧ Rel f a c:=by
 have pF:=T9.slots_no hF
 have pB:=T9.slots_no hB
 have key:∀ a b f,a ∈ F → b ∈ B → b.no = a.no → fd a.no = some f → toldB f a.V = toldB f b.V ∧ Rel f (norS N f a) (norS N f b):=by
  intro a b f ha hb e hf
  obtain ⟨g,hg,fa⟩:=(slots_iff.1 hF).1 a ha
  rw [hf] at hg
  obtain rfl:=Option.some.inj hg
  obtain ⟨g,hg,fb⟩:=(slots_iff.1 hB).1 b hb
  rw [e,hf] at hg
  obtain rfl:=Option.some.inj hg
  have va:=vw_of pF ha
  have vb:=vw_of pB hb
  rw [e] at vb
  refine nor_rel N fa fb e (hm _ _ hf) ?_
  by_cases hs:Sngl f
  ·refine .inl ⟨hs,?_⟩
   rcases (I.one _ _ hf hs).2.2 with h | ⟨h,-⟩
   ·rwa [va,vb] at h
   ·rw [va] at h; cases h
  ·have c:=I.many _ _ hf hs
   rw [va,vb] at c
   exact .inr ⟨hs,c.K,c.V⟩
 have toB:∀ a ∈ F,∃ b ∈ B,b.no = a.no:=by
  intro a ha
  obtain ⟨f,hf,-⟩:=(slots_iff.1 hF).1 a ha
  have va:=vw_of pF ha
  cases hv:vw B a.no with
  | some b=>exact ⟨b,(vw_no hv).2,(vw_no hv).1⟩
  | none =>
   by_cases hs:Sngl f
   ·rcases (I.one _ _ hf hs).2.2 with h | ⟨h,-⟩
    ·rw [va,hv] at h; cases h
    ·rw [va] at h; cases h
   ·have c:=(I.many _ _ hf hs).is
    rw [va,hv] at c
    cases c
 have toF:∀ b ∈ B,∃ a ∈ F,b.no = a.no:=by
  intro b hb
  obtain ⟨f,hf,-⟩:=(slots_iff.1 hB).1 b hb
  have vb:=vw_of pB hb
  cases hv:vw F b.no with
  | some a=>exact ⟨a,(vw_no hv).2,(vw_no hv).1.symm⟩
  | none =>
   by_cases hs:Sngl f
   ·rcases (I.one _ _ hf hs).2.2 with h | ⟨-,h⟩
    ·rw [vb,hv] at h; cases h
    ·rw [vb,hv] at h; cases h
   ·have c:=(I.many _ _ hf hs).is
    rw [vb,hv] at c
    cases c
 have told:∀ a b f,a ∈ F → b ∈ B → b.no = a.no → fd a.no = some f → toldB f a.V = true → norO fd N a = some (norS N f a) ∧ norO fd N b = some (norS N f b):=by
  intro a b f ha hb e hf ht
  unfold norO
  rw [e,hf,Option.bind_some,Option.bind_some,if_pos ht,if_pos ((key a b f ha hb e hf).1 ▸ ht)]
  exact ⟨rfl,rfl⟩
 have nos:(norF fd N F).map (·.no) = (norF fd N B).map (·.no):=by
  refine rise_unique' (lt:=fun a b:Int=>decide (a < b)) (by simp) (fun a b c h h'=>by simp only [decide_eq_true_eq] at *; omega) ?_ ?_ fun x=>?_
  ·exact List.pairwise_map.2 (rise_norF fd N F)
  ·exact List.pairwise_map.2 (rise_norF fd N B)
  ·simp only [List.mem_map]
   constructor
   ·rintro ⟨y,hy,rfl⟩
    obtain ⟨a,ha,e⟩:=(mem_norF pF).1 hy
    obtain ⟨f,hf,ht,rfl⟩:=norO_some e
    obtain ⟨b,hb,eb⟩:=toB a ha
    exact ⟨_,(mem_norF pB).2 ⟨b,hb,(told a b f ha hb eb hf ht).2⟩,by rw [norS_no,norS_no,eb]⟩
   ·rintro ⟨y,hy,rfl⟩
    obtain ⟨b,hb,e⟩:=(mem_norF pB).1 hy
    obtain ⟨f,hf,ht,rfl⟩:=norO_some e
    obtain ⟨a,ha,eb⟩:=toF b hb
    rw [eb] at hf
    have ht':toldB f a.V = true:=(key a b f ha hb eb hf).1.trans ht
    exact ⟨_,(mem_norF pF).2 ⟨a,ha,(told a b f ha hb eb hf ht').1⟩,by rw [norS_no,norS_no,eb]⟩
 refine ⟨by have:=congrArg List.length nos; simpa using this,fun i x y hx hy=>?_⟩
 have exy:y.no = x.no:=by
  have h1:((norF fd N F).map (·.no))[i]? = some x.no:=by rw [List.getElem?_map,hx]; rfl
  have h2:((norF fd N B).map (·.no))[i]? = some y.no:=by rw [List.getElem?_map,hy]; rfl
  rw [nos,h2] at h1
  exact Option.some.inj h1
 obtain ⟨a,ha,ea⟩:=(mem_norF pF).1 (List.mem_of_getElem? hx)
 obtain ⟨b,hb,eb⟩:=(mem_norF pB).1 (List.mem_of_getElem? hy)
 obtain ⟨f,hf,-,rfl⟩:=norO_some ea
 obtain ⟨g,hg,-,rfl⟩:=norO_some eb
 rw [norS_no,norS_no] at exy
 rw [exy,hf] at hg
 obtain rfl:=Option.some.inj hg
 exact ⟨f,by rw [norS_no]; exact hf,(key a b f ha hb exy hf).2⟩
end Go.Proofs.YtckcojkpghiclaaGreatDoor.T11
