/-
 message,of any message of one's own: the whole contract.
-/
import Derived.Test.YtckcojkpghiclaaGreatDoorDecFieldA
import Derived.Test.YtckcojkpghiclaaGreatDoorDecIs
import Derived.Test.YtckcojkpghiclaaGreatDoorDecUnk
import Derived.Test.YtckcojkpghiclaaGreatDoorEncVal
import Derived.Test.YtckcojkpghiclaaGreatDoorEncAw
import Derived.Test.YtckcojkpghiclaaGreatDoorEncEnt
import Derived.Test.YtckcojkpghiclaaGreatDoorTrSet
import Derived.Test.YtckcojkpghiclaaGreatDoorDecMath
import Derived.Deep.RegionHeld3
import Derived.Test.YtckcojkpghiclaaGreatDoorEncPut
namespace Go.Proofs.YtckcojkpghiclaaGreatDoor.T11
set_option maxRecDepth 100000
open Go.RowKit
open Go.Proofs.YtckcojkpghiclaaGreatDoor.T9 Go.Proofs.YtckcojkpghiclaaGreatDoor.T4
theorem slotD_shift {n:Nat} {sub:Int→List UInt8→Mg→Except Nat Mg} {f:Df} {l:List UInt8} {a u:Nat} {r:Rc} (h:r.upto≤u - a) (hf:r.frm≤r.upto):slotD n sub f l (shift a r) = slotD n sub f ((l.drop a).take (u - a)) r:=by
 have hw:winR l (shift a r) = winR ((l.drop a).take (u - a)) r:=(winR_at l a u r h hf).symm
 have h1:entryS n sub f l (shift a r) = entryS n sub f ((l.drop a).take (u - a)) r:=by funext t;unfold entryS;rw [hw];rfl
 have h2:packedS f l (shift a r) = packedS f ((l.drop a).take (u - a)) r:=by funext t;unfold packedS;rw [hw]
 have h3:repS sub f l (shift a r) = repS sub f ((l.drop a).take (u - a)) r:=by funext t;unfold repS;rw [takeV_shift h hf]
 have h4:onlyS sub f l (shift a r) = onlyS sub f ((l.drop a).take (u - a)) r:=by funext t;unfold onlyS;rw [takeV_shift h hf]
 unfold slotD
 rw [h1,h2,h3,h4]
 rfl
theorem run_two {d:List UInt8} {r:Rc} {p:Nat} (h:wnext d = (r,p,0)):r.wire = 2→2+(r.upto - r.frm)≤p:=fun hw=>by
 obtain ⟨m,k,nn,q,h1,h2,h3,h4,h5,h6⟩:=wnext_parts h
 have hv:=vget_parts h1
 have hq:=wnum_pos h3
 rcases h6 with ⟨g1,g2,g3,g4⟩ | ⟨g1,-⟩
 ·omega
 ·exact absurd hw g1
structure MsgI (wo:World) (s:Sc) (n:Nat) (m:Int) (l:List UInt8) (k i j:Nat) (p:Addr) (x:LM) (W:World) (a:Nat) (xa:LM) (w:World):Prop where
 dec:decR (fieldD (byS s m) n (decM s n)) ((l.drop i).take (j - i)) (x.F.map bareS) = decR (fieldD (byS s m) n (decM s n)) ((l.drop a).take (j - a)) (xa.F.map bareS)
 upd:Upd p xa.v (blocks x.rows) W w
 lies:Lies wo.heap.size (k+(a - i)) w xa.rows
 far:p.block ∉ blocks xa.rows
 old:∀ q∈blocks xa.rows,q < W.heap.size→q∈blocks x.rows
 full:Full s (n+1) m xa
set_option maxRecDepth 1000000 in
set_option maxHeartbeats 8000000 in
theorem message_step {wo:World} {s:Sc} {vM vE:Value} {A:Option Addr} {c:Nat} {l:List UInt8} {K n:Nat} (HT:TakeH wo s vM vE A c l K n) (hr0:SlB wo A c l) (hl:l.length≤1000000000) (TW:Wires wo) (hs:SAt wo.heap.size wo s vM vE) (hsm:ScMay s) (hKK:K≤1000000000) (hn64:n+1≤64):MsgH wo s vM vE A c l K (n+1):=by
 intro m x p i j deep k w hbo hpo hp hsp hc hz hL hpn hful hij hj hK hn1 hdeep
 have LBD:=below_new w (.cells #[vM,vE,.slice A l.length c] 113)
 have X0:=heap_alloc_new w (.cells #[vM,vE,.slice A l.length c] 113)
 obtain ⟨W,hW⟩:∃ W,w.alloc (.cells #[vM,vE,.slice A l.length c] 113) = W:=⟨_,rfl⟩
 have hsz:W.heap.size = w.heap.size+1:=by rw [← hW];simp
 rw [hW] at LBD X0
 have hwo:=hbo.size
 have hpW:p.block < W.heap.size:=Nat.lt_of_lt_of_le hp LBD.size
 have hcW:W.cell? p = some x.v:=(LBD.cell hp).trans hc
 have hzW:W.frozen? p = false:=(LBD.frozen hp).trans hz
 have hxw:∀ q∈blocks x.rows,q < w.heap.size:=fun q hq=>(hL.old hq).2
 have hids:∀ q∈blocks x.rows,wo.heap.size≤q:=fun q hq=>(hL.old hq).1
 have hDM:decM s (n+1) m ((l.drop i).take (j - i)) x.bare = mapE (fun L=>(.mk L:Mg)) (decR (fieldD (byS s m) n (decM s n)) ((l.drop i).take (j - i)) (x.F.map bareS)):=by
  rw [LM.bare_eq];rfl
 have hUW:Upd p x.v (blocks x.rows) w W:=Upd.after (ids1:=[]) LBD (Upd.refl _ hcW hsp) (fun _ h=>by cases h)
 have HI0:Hid (MsgI wo s n m l k i j p x W i x W):=Lib.hid ⟨rfl,Upd.refl _ hcW hsp,by rw [Nat.sub_self];exact hL.on LBD,hpn,fun q hq _=>hq,hful⟩
 have HBX:Hid (∀ (a:Nat) (xa:LM) (wr:World),MsgI wo s n m l k i j p x W a xa wr→wr.heap[w.heap.size]? = some (.cells #[vM,vE,.slice A l.length c] 113 (0,0))∧Below wo.heap.size wo wr∧W.heap.size≤wr.heap.size):=Lib.hid fun a xa wr h=>by
  refine ⟨?_,(below_then hbo LBD).trans (upd_below h.upd (by omega) hpo hids),h.upd.size⟩
  rw [h.upd.block w.heap.size (by omega) (fun hm=>by have:=hxw _ hm;omega),setCell_at,X0]
  simp only [Option.map_some]
  rw [if_neg (by omega)]
 have HX:=Lib.hid (And.intro hUW (And.intro hDM (And.intro LBD (And.intro hcW (And.intro hzW (And.intro hpn hpW))))))
 clear hc hz hL hpn hful LBD X0 hcW hzW hxw hDM hUW hpW
 have hd0:0≤deep:=by omega
 go_enter Tryz.func64,Tryz.ntmps64
 go_wp2
 clear hW
 go_loopw [3] (fun si wr=>∃ (a:Nat) (xa:LM),si = .int .i64 a∧i≤a∧a≤j∧MsgI wo s n m l k i j p x W a xa wr) (fun si _=>j - (intOf si).toNat)
 case atStart=>exact ⟨i,x,rfl,Nat.le_refl _,hij,HI0.out⟩
 case round =>
  obtain ⟨a,xa,rfl,ha1,ha2,hI⟩:=hrel
  obtain ⟨hbx,hbor,hWr⟩:=HBX.out _ _ _ hI
  obtain ⟨s0,s1,s2⟩:=bx3 hbx
  by_cases hlt:a < j
  ·have d1:decide ((a:Int) < (j:Int)) = true:=decide_eq_true (by omega)
   have HNX:=Lib.hid (next_any A c l a j hl wr (hr0.on hbor) (TW.on hbor))
   have HST:=Lib.hid (And.intro hI (And.intro hbx hbor))
   clear hI hbx hbor
   rcases next_cases ha2 hj with ⟨r1,p1,hw1,hnx⟩ | ⟨er,her,hwe,hnx⟩
   ·obtain ⟨q2,qd,qup,qfr,qfp⟩:=wnext_le hw1
    rw [win_len l ha2 hj] at qd
    obtain ⟨ra,hra⟩:∃ ra,a+r1.frm = ra:=⟨_,rfl⟩
    obtain ⟨rb,hrb⟩:∃ rb,a+r1.upto = rb:=⟨_,rfl⟩
    obtain ⟨ie,hie⟩:∃ ie,a+p1 = ie:=⟨_,rfl⟩
    have hi4:ie≤j:=by omega
    have HEQ:=Lib.hid (And.intro hra (And.intro hrb hie))
    have HLE:=Lib.hid (And.intro (show 2≤p1∧a+p1≤j∧r1.upto = p1∧1≤r1.frm∧r1.frm≤p1 from ⟨q2,by omega,qup,qfr,qfp⟩) hw1)
    rw [hnx] at HNX
    clear q2 qd qup qfr qfp hnx hw1 hra hrb hie
    go_wp2_with fail
    refine HNX.out.mono ?_
    rintro e w2 ⟨rfl,hb2⟩
    have hNV:NV (shift a r1,a+p1,0) = .tuple #[.agg #[.int .i64 r1.no,.int .i64 r1.wire,.int .u64 r1.num,.int .i64 (ra:Nat),.int .i64 (rb:Nat)],.int .i64 (ie:Nat),.int .i64 0]:=by rw [← HEQ.out.1,← HEQ.out.2.1,← HEQ.out.2.2];rfl
    rw [hNV]
    have N2:=below_new w2 (.cells #[.int .i64 r1.no,.int .i64 r1.wire,.int .u64 r1.num,.int .i64 (ra:Nat),.int .i64 (rb:Nat)] 41)
    have Z2:=heap_alloc_new w2 (.cells #[.int .i64 r1.no,.int .i64 r1.wire,.int .u64 r1.num,.int .i64 (ra:Nat),.int .i64 (rb:Nat)] 41)
    obtain ⟨w4,hw4⟩:∃ w4,w4 = w2.alloc (.cells #[.int .i64 r1.no,.int .i64 r1.wire,.int .u64 r1.num,.int .i64 (ra:Nat),.int .i64 (rb:Nat)] 41):=⟨_,rfl⟩
    rw [← hw4] at N2 Z2
    have hb24:=below_then hb2 N2
    have hbx4:=box_on HST.out.2.1 hb24
    have hbo4:Below wo.heap.size wo w4:=HST.out.2.2.trans (hb24.mono (by omega))
    have HS4:=Lib.hid (And.intro hbx4 (And.intro Z2 (And.intro hb24 hbo4)))
    have hs4:W.heap.size≤w2.heap.size:=by have:=hb2.size;omega
    clear hb2 N2 Z2 hb24 hbx4 hbo4 HNX s0 s1 s2
    go_wp2_with fail
    rw [← hw4]
    clear hw4
    refine (fine_yes _).mono ?_
    rintro e w3 ⟨rfl,hw3⟩
    subst w3
    obtain ⟨hbx4,Z4,hb24,hbo4⟩:=HS4.out
    obtain ⟨s0,s1,s2⟩:=bx3 hbx4
    obtain ⟨u0,u1,u2,u3,u4⟩:=heap_cells Z4
    have hw4s:wo.heap.size≤w4.heap.size:=hbo4.size
    cases hf:byS s m r1.no with
    | none =>
     have HBY:=Lib.hid (by_none hf w4 hw4s (hs.low (Low.of hbo4)))
     have HF:=Lib.hid hf
     clear hf hbx4 Z4 hb24 hbo4
     go_wp2_with fail
     refine HBY.out.mono ?_
     rintro e w5 ⟨rfl,hb5⟩
     have hb55:=Lib.hid (below_then hb5 (below_new w5 (.cells #[.int .i64 0,.string ⟨#[]⟩,.int .i64 0,.int .i64 0,.bool false,.int .i64 0,.int .i64 0] 45)))
     clear hb5 s0 s1 s2 u0 u1 u2 u3 u4 HBY
     go_wp2
     obtain ⟨hI,hbx,hbor⟩:=HST.out
     obtain ⟨hle,hw1⟩:=HLE.out
     have hbz:=below_then HS4.out.2.2.1 hb55.out
     refine ⟨⟨ie,xa,rfl,by have:=HEQ.out.2.2;omega,hi4,⟨?_,hI.upd.then_below hbz,(hI.lies.on hbz).more (by have:=HEQ.out.2.2;omega),hI.far,hI.old,hI.full⟩⟩,by have:=HEQ.out.2.2;simp only [intOf];omega⟩
     rw [hI.dec,decR_cons _ _ hw1,win_rest,HEQ.out.2.2]
     unfold fieldD
     rw [HF.out]
    | some f =>
     obtain ⟨hfm,hfn⟩:=by_may hsm hf
     have HBY:=Lib.hid (by_found hf w4 hw4s (hs.low (Low.of hbo4)))
     have HF:=Lib.hid (And.intro hf (And.intro hfm hfn))
     clear hf hfm hfn hbx4 Z4 hb24 hbo4
     go_wp2_with fail
     refine HBY.out.mono ?_
     rintro e w5 ⟨rfl,hb5⟩
     have N5:=below_new w5 (dC f)
     have Z5:=heap_alloc_new w5 (dC f)
     obtain ⟨hbx4,Z4,hb24,hbo4⟩:=HS4.out
     obtain ⟨hI,hbx,hbor⟩:=HST.out
     obtain ⟨hle,hw1⟩:=HLE.out
     obtain ⟨hf,hfm,hfn⟩:=HF.out
     have hb56:=below_then hb5 N5
     have hb6:=below_then hb24 hb56
     have hbo6:Below wo.heap.size wo (w5.alloc (dC f)):=hbo4.trans (hb56.mono (by omega))
     obtain ⟨s0,s1,s2⟩:=bx3 (box_on hbx4 hb56)
     obtain ⟨u0,u1,u2,u3,u4⟩:=heap_cells (box_on Z4 hb56)
     obtain ⟨g0,g1,g2,g3,g4,g5,g6⟩:=dc_cells Z5
     have hRS:RV (shift a r1) = .agg #[.int .i64 r1.no,.int .i64 r1.wire,.int .u64 r1.num,.int .i64 (ra:Nat),.int .i64 (rb:Nat)]:=by rw [← HEQ.out.1,← HEQ.out.2.1];rfl
     have hpr:p.block < wr.heap.size:=by have:=HX.out.2.2.2.2.2.2;omega
     have hca:wr.cell? p = some xa.v:=cell_upd hI.upd HX.out.2.2.2.1 hsp HX.out.2.2.2.2.2.2 HX.out.2.2.2.2.2.1
     have hza:wr.frozen? p = false:=froz_upd hI.upd HX.out.2.2.2.2.1 hsp HX.out.2.2.2.2.2.2 HX.out.2.2.2.2.2.1
     have h0:=field_any HT hr0 hl TW hs m f (shift a r1) xa p (k+(a - i)) p1 deep (w5.alloc (dC f)) hfm hbo6 hpo (Nat.lt_of_lt_of_le hpr hb6.size) hsp ((hb6.cell hpr).trans hca) ((hb6.frozen hpr).trans hza) (hI.lies.on hb6) hI.far hI.full (by rw [hfn];exact hf) (by show a+r1.frm≤a+r1.upto;omega) (by show a+r1.upto≤_;omega) (show r1.num < _ from wnext_num hw1) hle.1 (by show 1+(a+r1.upto - (a+r1.frm))≤p1;omega) (fun h=>by have h2:=run_two hw1 h;show 2+(a+r1.upto - (a+r1.frm))≤p1;omega) (by omega) hKK (by omega) hd0
     rw [hRS] at h0
     have HFD:=Lib.hid h0
     have hUr:Upd p xa.v (blocks x.rows) W (w5.alloc (dC f)):=hI.upd.then_below hb6
     have HST2:=Lib.hid (And.intro hUr (And.intro hI.old (And.intro hI.dec hb6.size)))
     clear h0 hRS hb5 N5 Z5 hbx4 Z4 hb24 hbo4 hI hbx hbor hle hw1 hf hfm hfn hb56 hb6 hbo6 hpr hca hza hUr HBY
     go_wp2_with fail
     refine HFD.out.mono ?_
     rintro e w7 (⟨er,h1,rfl,h3⟩ | ⟨x',h1,rfl,h3,h4,h5,h6,h7⟩)
     ·go_wp2_with fail
      obtain ⟨hUr,hold,hdec,hsz6⟩:=HST2.out
      obtain ⟨hle,hw1⟩:=HLE.out
      obtain ⟨hf,hfm,hfn⟩:=HF.out
      refine ⟨rfl,.inl ⟨er,?_,rfl,(upd_below HX.out.1 hwo hpo hids).trans ((upd_below hUr (by omega) hpo hids).trans h3)⟩⟩
      rw [HX.out.2.1,hdec,decR_cons _ _ hw1]
      unfold fieldD
      rw [hf]
      rw [slotD_shift (a:=a) (u:=j) (by omega) (by omega)] at h1
      simp only at h1 ⊢
      rw [h1]
      rfl
     ·obtain ⟨hUr,hold,hdec,hsz6⟩:=HST2.out
      obtain ⟨hle,hw1⟩:=HLE.out
      obtain ⟨hf,hfm,hfn⟩:=HF.out
      have hI2:MsgI wo s n m l k i j p x W ie x' w7:=by
       refine ⟨?_,hUr.trans h3 (fun q hq hlt=>hold q hq hlt),h4.more (by have:=HEQ.out.2.2;omega),h5,fun q hq hlt=>hold q (h6 q hq (by have:=hUr.size;omega)) hlt,h7⟩
       rw [hdec,decR_cons _ _ hw1,win_rest,HEQ.out.2.2]
       unfold fieldD
       rw [hf]
       rw [slotD_shift (a:=a) (u:=j) (by omega) (by omega)] at h1
       simp only at h1 ⊢
       rw [h1]
      have HI2:=Lib.hid hI2
      clear hI2 hUr hold hdec hsz6 hle hw1 hf hfm hfn h1 h3 h4 h5 h6 h7 HFD
      go_wp2
      exact ⟨⟨ie,x',rfl,by have:=HEQ.out.2.2;omega,hi4,HI2.out⟩,by have:=HEQ.out.2.2;have:=HLE.out.1;simp only [intOf];omega⟩
   ·rw [hnx] at HNX
    have HE:=Lib.hid (And.intro her hwe)
    clear her hwe hnx
    go_wp2_with fail
    refine HNX.out.mono ?_
    rintro e w2 ⟨rfl,hb2⟩
    have hNV:NV (Rc.zero,0,er) = .tuple #[.agg #[.int .i64 0,.int .i64 0,.int .u64 0,.int .i64 0,.int .i64 0],.int .i64 0,.int .i64 (er:Nat)]:=rfl
    rw [hNV]
    have hb24:=Lib.hid (below_then hb2 (below_new w2 (.cells #[.int .i64 0,.int .i64 0,.int .u64 0,.int .i64 0,.int .i64 0] 41)))
    clear hb2 HNX
    go_wp2_with fail
    refine (fine_no er HE.out.1 _).mono ?_
    rintro e w3 ⟨rfl,rfl⟩
    go_wp2_with fail
    obtain ⟨hI,hbx,hbor⟩:=HST.out
    refine ⟨rfl,.inl ⟨er,?_,rfl,(upd_below HX.out.1 hwo hpo hids).trans ((upd_below hI.upd (by omega) hpo hids).trans (hb24.out.mono (by omega)))⟩⟩
    rw [HX.out.2.1,hI.dec,decR_err _ _ (fun e=>by have:=congrArg List.length e;rw [win_len l ha2 hj] at this;simp at this;omega) (by rw [HE.out.2];exact HE.out.1),HE.out.2]
    rfl
  ·obtain rfl:a = j:=by omega
   have d1:decide ((a:Int) < (a:Int)) = false:=by simp
   have HI:=Lib.hid hI
   clear hI hbx hbor s0 s1 s2
   go_wp2
   go_end0
   obtain ⟨h1,h2,h3,h4,h5,h6⟩:=HI.out
   rw [Nat.sub_self,List.take_zero,decR_nil] at h1
   refine .inr ⟨xa,?_,rfl,HX.out.1.trans h2 (fun q hq _=>hq),h3,h4,fun q hq hlt=>h5 q hq (by omega),h6⟩
   rw [HX.out.2.1,h1,LM.bare_eq]
   rfl
theorem msgH {wo:World} {s:Sc} {vM vE:Value} {A:Option Addr} {c:Nat} {l:List UInt8} {K:Nat} (hr0:SlB wo A c l) (hl:l.length≤1000000000) (TW:Wires wo) (hs:SAt wo.heap.size wo s vM vE) (hsm:ScMay s) (hKK:K≤1000000000):∀ n,n≤64→MsgH wo s vM vE A c l K n
 | 0,_=>fun _ _ _ _ _ _ _ _ _ _ _ _ _ _ _ _ _ _ _ _ h _=>by omega
 | n+1,h64=>message_step (takeH hr0 hl (fun _=>msgH hr0 hl TW hs hsm hKK n (by omega))) hr0 hl TW hs hsm hKK h64
theorem rows_flat {α β:Type} {C:β→List Value→Prop} (f:α→β) (g:α→List Value):∀ (l:List α),(∀ a∈l,C (f a) (g a))→T9.Rows C (l.map f) (l.flatMap g)
 | [],_=>rfl
 | a :: l,h=>⟨g a,l.flatMap g,rfl,h a (List.mem_cons_self ..),rows_flat f g l fun b hb=>h b (List.mem_cons_of_mem _ hb)⟩
theorem flat_one {α:Type} (g:α→Value):∀ l:List α,(l.flatMap fun a=>[g a]) = l.map g
 | []=>rfl
 | a :: l=>by rw [List.flatMap_cons,flat_one g l];rfl
theorem rows_one {α β:Type} {C:β→List Value→Prop} (f:α→β) (g:α→Value) (l:List α) (h:∀ a∈l,C (f a) [g a]):T9.Rows C (l.map f) (l.map g):=by
 have:=rows_flat (C:=C) f (fun a=>[g a]) l h
 rwa [flat_one] at this
theorem mem_rowsV {v:VL LM} {y:LM} (hy:y∈v.M) {r:Rw} (hr:r∈y.rows):r∈rowsV v:=List.mem_cons_of_mem _ (List.mem_flatten.2 ⟨y.rows,List.mem_map_of_mem hy,hr⟩)
theorem mem_rowsS {t:SLo LM} {v:VL LM} (hv:v∈t.K∨v∈t.V) {r:Rw} (hr:r∈rowsV v):r∈rowsS t:=by
 refine List.mem_cons_of_mem _ (List.mem_cons_of_mem _ (List.mem_append.2 ?_))
 rcases hv with hv | hv
 ·exact .inl (List.mem_flatten.2 ⟨rowsV v,List.mem_map_of_mem hv,hr⟩)
 ·exact .inr (List.mem_flatten.2 ⟨rowsV v,List.mem_map_of_mem hv,hr⟩)
theorem mem_rows {x:LM} {t:SLo LM} (ht:t∈x.F) {r:Rw} (hr:r∈rowsS t):r∈x.rows:=by
 rw [LM.rows_eq]
 exact List.mem_cons_of_mem _ (List.mem_flatten.2 ⟨rowsS t,List.mem_map_of_mem ht,hr⟩)
theorem LM.mat {b K:Nat} {w:World} (hK:K≤10000000000000):∀ (D:Nat) (x:LM),x.bare.deep≤D→(∀ r∈x.rows,w.ownsRow b r.e r.size r.v r.n r.xs∧r.n≤K)→T9.MAt (Ow b w) D x.bare [x.v]
 | 0,x,hd,_=>by have:=x.bare.deep_pos;omega
 | D+1,x,hd,h=>by
  have hsub:∀ t∈x.F,∀ v,v∈t.K∨v∈t.V→∀ y∈v.M,T9.MAt (Ow b w) D y.bare [y.v]:=fun t ht v hv y hy=>by
   refine LM.mat hK D y ?_ fun r hr=>h r (mem_rows ht (mem_rowsS hv (mem_rowsV hy hr)))
   have h1:(bareS t)∈x.bare.F:=by rw [LM.bare_eq];exact List.mem_map_of_mem ht
   have h2:bareV v∈(bareS t).K∨bareV v∈(bareS t).V:=hv.imp (fun h=>List.mem_map_of_mem h) (fun h=>List.mem_map_of_mem h)
   have h3:y.bare∈(bareV v).M:=List.mem_map_of_mem hy
   have:=deep_lt h1 h2 h3
   omega
  have hv:∀ t∈x.F,∀ v,v∈t.K∨v∈t.V→vAt (Ow b w) (T9.MAt (Ow b w) D) (bareV v) (cV' v):=fun t ht v hv=>by
   obtain ⟨h1,h2⟩:=h (rwV v) (mem_rows ht (mem_rowsS hv (List.mem_cons_self ..)))
   refine ⟨v.g,rfl,v.M.map LM.v,⟨?_,Nat.le_trans (show (v.M.map LM.bare).length≤K by rw [List.length_map];exact h2) hK⟩,rows_one LM.bare LM.v v.M fun y hy=>hsub t ht v hv y hy⟩
   show w.ownsRow b _ 1 v.g (v.M.map LM.bare).length _
   rw [List.length_map]
   exact h1
  have hl:∀ t∈x.F,∀ (g:Value) (l:List (VL LM)),(∀ v∈l,v∈t.K∨v∈t.V)→rwS g l∈rowsS t→LsAt (Ow b w) 81 3 (vAt (Ow b w) (T9.MAt (Ow b w) D)) (l.map bareV) g:=fun t ht g l hlv hm=>by
   obtain ⟨h1,h2⟩:=h (rwS g l) (mem_rows ht hm)
   refine ⟨l.flatMap cV',⟨?_,Nat.le_trans (show (l.map bareV).length≤K by rw [List.length_map];exact h2) hK⟩,rows_flat bareV cV' l fun v hm'=>hv t ht v (hlv v hm')⟩
   show w.ownsRow b _ 3 g (l.map bareV).length _
   rw [List.length_map]
   exact h1
  obtain ⟨h1,h2⟩:=h (rwM x) (by rw [LM.rows_eq];exact List.mem_cons_self ..)
  rw [LM.bare_eq]
  refine ⟨x.v,rfl,x.F.flatMap cS',⟨?_,Nat.le_trans (show (x.F.map bareS).length≤K by rw [List.length_map];exact h2) hK⟩,rows_flat bareS cS' x.F fun t ht=>?_⟩
  ·show w.ownsRow b _ 3 x.v (x.F.map bareS).length _
   rw [List.length_map]
   exact h1
  ·exact ⟨t.gK,t.gV,rfl,hl t ht t.gK t.K (fun v hv=>.inl hv) (List.mem_cons_self ..),hl t ht t.gV t.V (fun v hv=>.inr hv) (List.mem_cons_of_mem _ (List.mem_cons_self ..))⟩
end Go.Proofs.YtckcojkpghiclaaGreatDoor.T11
namespace Go.Proofs.YtckcojkpghiclaaGreatDoor.T11
set_option maxRecDepth 100000
open Go.RowKit
open Go.Proofs.YtckcojkpghiclaaGreatDoor.T9
set_option maxHeartbeats 4000000 in
set_option maxRecDepth 1000000 in
theorem caughtM_err (caps:Array Value) (er:Int) (w:World)
  (HF:∀ wx,Below w.heap.size w wx→w.heap.size+2≤wx.heap.size→Calls Tryz.prog 35 caps wx fun e w'=>e = .panicked [{ v:=errP er,recovered:=false }]∧Below wx.heap.size wx w') :
  Calls Tryz.prog 34 #[.func (.func 35) #[] caps] w fun e w'=>e = .returned (.tuple #[.agg #[.slice none 0 0],.int .i64 er])∧Below w.heap.size w w':=by
 have hmf:∀ (fn:Fn) (first cap:Array Value) (w:World),(Instr.makeFunc fn first cap).run Tryz.prog w = .ok (.func fn first cap) w:=fun _ _ _ _=>rfl
 obtain ⟨X1,X2,LBD⟩:=two_boxes w (.cells #[.slice none 0 0] 31) (.cells #[.int .i64 0] 32)
 have HX:=Lib.hid (And.intro X1 X2)
 have HC:=Lib.hid (HF _ LBD (by simp))
 go_enter_defers Tryz.func34,Tryz.ntmps34
 go_wp2_with fail
 refine HC.out.mono ?_
 rintro e w1 ⟨rfl,hb1⟩
 have Y1:=box_on HX.out.1 hb1
 have Y2:=box_on HX.out.2 hb1
 have hb01:=below_then LBD hb1
 have c0:=bx1 Y1
 have c1:=bx1 Y2
 have f0:w1.frozen? ⟨w.heap.size,0,none⟩ = false:=by simp [World.frozen?,Y1]
 have f1:w1.frozen? ⟨w.heap.size+1,0,none⟩ = false:=by simp [World.frozen?,Y2]
 obtain ⟨Z2,G2⟩:=cell1 Y2 (.int .i64 er)
 have hbz:=hb01.trans (below_own G2 (Nat.le_succ _) hb01.size)
 have z0:=bx1 ((Go.heap_setCell_other _ ⟨w.heap.size+1,0,none⟩ w.heap.size (.int .i64 er) (by simp)).trans Y1)
 have z1:=bx1 Z2
 clear HF HC HX X1 X2 LBD hb1
 go_wp2
 refine leaves_cons (f:=61) (args:=#[.pointer (some ⟨w.heap.size+1,0,none⟩)]) (by simp) (by simp [go_sem]) ?_
 refine (catch_panickingM _ 0 er [] _ c1 f1).mono ?_
 rintro e u' w'' ⟨rfl,rfl,rfl⟩
 simp [Leaves,settle,results,Tryz.results34,go_sem,c0,c1,f0,f1,z0,z1]
 exact hbz
set_option maxHeartbeats 4000000 in
set_option maxRecDepth 1000000 in
theorem decode1_err (P1 P2 P3:Nat) (vM vE:Value) (m:Int) (A:Option Addr) (n c:Nat) (er:Int) (w:World)
  (h1:w.heap[P1]? = some (.cells #[vM,vE] 25 (0,0))) (h2:w.heap[P2]? = some (.cells #[.int .i64 m] 3 (0,0))) (h3:w.heap[P3]? = some (.cells #[.slice A n c] 26 (0,0)))
  (HF:∀ wx,Below w.heap.size w wx→Calls Tryz.prog 36 #[.agg #[vM,vE],.int .i64 m,.slice A n c] wx fun e w'=>e = .panicked [{ v:=errP er,recovered:=false }]∧Below wx.heap.size wx w') :
  Calls Tryz.prog 35 #[.pointer (some ⟨P1,0,none⟩),.pointer (some ⟨P2,0,none⟩),.pointer (some ⟨P3,0,none⟩)] w fun e w'=>e = .panicked [{ v:=errP er,recovered:=false }]∧Below w.heap.size w w':=by
 have LBD:=below_new w (.cells #[.slice none 0 0] 31)
 have y1:=box2' (box_on h1 LBD)
 have y2:=bx1 (box_on h2 LBD)
 have y3:=bx1 (box_on h3 LBD)
 have HC:=Lib.hid (HF _ LBD)
 clear h1 h2 h3 HF
 go_enter Tryz.func35,Tryz.ntmps35
 go_wp2_with fail
 refine HC.out.mono ?_
 rintro e w1 ⟨rfl,hb1⟩
 go_wp2_with fail
 exact ⟨rfl,rfl,below_then LBD hb1⟩
set_option maxHeartbeats 4000000 in
set_option maxRecDepth 1000000 in
theorem decode_err (vM vE:Value) (m:Int) (A:Option Addr) (n c:Nat) (er:Int) (w:World)
  (HF:∀ wx,Below w.heap.size w wx→Calls Tryz.prog 36 #[.agg #[vM,vE],.int .i64 m,.slice A n c] wx fun e w'=>e = .panicked [{ v:=errP er,recovered:=false }]∧Below wx.heap.size wx w') :
  Calls Tryz.prog 14 #[.agg #[vM,vE],.int .i64 m,.slice A n c] w fun e w'=>e = .returned (.tuple #[.agg #[.slice none 0 0],.int .i64 er])∧Below w.heap.size w w':=by
 have hmf:∀ (fn:Fn) (first cap:Array Value) (w:World),(Instr.makeFunc fn first cap).run Tryz.prog w = .ok (.func fn first cap) w:=fun _ _ _ _=>rfl
 obtain ⟨X1,X2,X3,X4,LBD,hsz⟩:=four_new (rfl:(((w.alloc (.cells #[vM,vE] 25)).alloc (.cells #[.int .i64 m] 3)).alloc (.cells #[.slice A n c] 26)).alloc (.cells #[.slice none 0 0] 31) = _)
 have HC:∀ wx,Below (w.heap.size+4) ((((w.alloc (.cells #[vM,vE] 25)).alloc (.cells #[.int .i64 m] 3)).alloc (.cells #[.slice A n c] 26)).alloc (.cells #[.slice none 0 0] 31)) wx→w.heap.size+4+2≤wx.heap.size→Calls Tryz.prog 35 #[.pointer (some ⟨w.heap.size,0,none⟩),.pointer (some ⟨w.heap.size+1,0,none⟩),.pointer (some ⟨w.heap.size+1+1,0,none⟩)] wx fun e w'=>e = .panicked [{ v:=errP er,recovered:=false }]∧Below wx.heap.size wx w':=fun wx hx hs =>
  decode1_err w.heap.size (w.heap.size+1) (w.heap.size+1+1) vM vE m A n c er wx ((hx.block _ (by omega)).trans X1) ((hx.block _ (by omega)).trans X2) ((hx.block _ (by omega)).trans X3) (fun wy hy=>HF wy (LBD.trans ((hx.mono (by omega)).trans (hy.mono (by omega)))))
 have HC:=Lib.hid HC
 have HX:=Lib.hid X4
 have HL:=Lib.hid LBD
 have HZ:=Lib.hid hsz
 clear HF X1 X2 X3 X4 LBD hsz
 go_enter Tryz.func14,Tryz.ntmps14
 go_wp2_with fail
 refine (caughtM_err _ er _ (fun wx hx hs=>HC.out wx (by rw [HZ.out] at hx;exact hx) (by rw [HZ.out] at hs;exact hs))).mono ?_
 rintro e w1 ⟨rfl,hb1⟩
 rw [HZ.out] at hb1
 have Y1:=(hb1.block _ (show w.heap.size+1+1+1 < w.heap.size+4 by omega)).trans HX.out
 have hs1:w.heap.size+4≤w1.heap.size:=by have:=hb1.size;rw [HZ.out] at this;exact this
 have hb01:=HL.out.trans (hb1.mono (by omega))
 have c0:=bx1 Y1
 have f0:w1.frozen? ⟨w.heap.size+1+1+1,0,none⟩ = false:=by simp [World.frozen?,Y1]
 obtain ⟨Z1,G1⟩:=cell1 Y1 (.slice none 0 0)
 have hbz:=hb01.trans (below_own G1 (by omega) (by omega))
 have z0:=bx1 Z1
 clear HC HX HL hb1 HZ
 go_wp2
 refine bodyPost_ret (results_row_tmp1 rfl _ _ (w.heap.size+1+1+1) _ _ (0,0) _ rfl Z1 Tryz.underlying31 rfl sz_msg) rfl ?_
 exact ⟨rfl,hbz⟩
end Go.Proofs.YtckcojkpghiclaaGreatDoor.T11
namespace Go.Proofs.YtckcojkpghiclaaGreatDoor.T11
set_option maxRecDepth 100000
open Go.RowKit
open Go.Proofs.YtckcojkpghiclaaGreatDoor.T9 Go.Proofs.YtckcojkpghiclaaGreatDoor.T4 Go.Proofs.YtckcojkpghiclaaGreatDoor.T12
open Classical in
noncomputable def toldE (s:Sc) (m:Int) (l:List UInt8):Except Nat Mg :=
 if ScMay s∧0≤m∧m < s.M.length then (match decM s 64 m l (.mk []) with | .ok x=>.ok (norB s 64 m x) | .error e=>.error e) else .error 1
theorem told_of {s:Sc} {m:Int} {l:List UInt8} (h:ScMay s∧0≤m∧m < s.M.length):toldE s m l = (match decM s 64 m l (.mk []) with | .ok x=>.ok (norB s 64 m x) | .error e=>.error e):=by unfold toldE;rw [if_pos h]
theorem told_not {s:Sc} {m:Int} {l:List UInt8} (h:¬ (ScMay s∧0≤m∧m < s.M.length)):toldE s m l = .error 1:=by unfold toldE;rw [if_neg h]
theorem taken_is {s:Sc} {m:Int} {l:List UInt8} {x:Mg} (h:ScMay s∧0≤m∧m < s.M.length) (hl:l.length≤10000) (hx:decM s 64 m l (.mk []) = .ok x):isB s 64 m x = true∧MIn x∧x.cnt≤40000∧x.deep≤64∧mayT s m x = true:=by
 obtain ⟨h1,h2,h3⟩:=isH h.1 l.length 64 m l (.mk []) x h.2.1 h.2.2 (Nat.le_refl _) (is_none (by decide) h.2.1 h.2.2) (StrL.none _) hx
 refine ⟨h1,isB_in h.1 (by omega) 64 m x h1 h2,?_,isB_deep h.1 64 m x h1,?_⟩
 ·have:(Mg.mk []).cnt = 0:=by simp [Mg.cnt_eq,Mg.F,sm]
  omega
 ·unfold mayT
  rw [Bool.and_eq_true]
  exact ⟨(@decide_eq_true_iff _ (Classical.propDecidable _)).2 h.1,h1⟩
set_option maxRecDepth 1000000 in
set_option maxHeartbeats 8000000 in
theorem whole_bad (B:Nat) {s:Sc} (vM vE:Value) (m:Int) (A:Option Addr) (n c:Nat) (w:World) (hv:¬ (ScMay s∧0≤m∧m < s.M.length)) (hB:B≤w.heap.size) (hs:SAt B w s vM vE) (hin:ScIn s) (TT:Tabs w) :
  Calls Tryz.prog 36 #[.agg #[vM,vE],.int .i64 m,.slice A n c] w fun e w'=>e = .panicked [{ v:=errP (1:Nat),recovered:=false }]∧Below w.heap.size w w':=by
 obtain ⟨X1,X2,LBD⟩:=two_boxes w (.cells #[vM,vE] 25) (.cells #[.slice none 0 0] 31)
 have HMAY:=Lib.hid (may_any B s vM vE _ (Nat.le_trans hB LBD.size) (SAt.lo hs LBD hB) hin (TT.on LBD))
 obtain ⟨A1,q1,A2,q2,rfl,rfl⟩:=sat_shape hs
 obtain ⟨x1,x2⟩:=box2' X1
 have HX:=Lib.hid (And.intro X1 (And.intro X2 LBD))
 clear hs TT X1 X2 LBD
 obtain ⟨v1,hv1⟩:∃ v,decide ((0:Int)≤m) = v:=⟨_,rfl⟩
 obtain ⟨v2,hv2⟩:∃ v,decide (m < (s.M.length:Int)) = v:=⟨_,rfl⟩
 have HVV:Hid (ScMay s→(v1 && v2) = false):=Lib.hid (fun h=>by
  rw [← hv1,← hv2,← Bool.decide_and,decide_eq_false_iff_not]
  exact fun h2=>hv ⟨h,h2⟩)
 clear hv
 go_enter Tryz.func36,Tryz.ntmps36
 go_wp2_with fail
 refine HMAY.out.mono ?_
 rintro e w1 ⟨b,rfl,hb,hb1⟩
 have HW:=Lib.hid (below_then HX.out.2.2 hb1)
 obtain ⟨x1,x2⟩:=box2' (box_on HX.out.1 hb1)
 have HBB:=Lib.hid hb
 clear hb hb1 HMAY
 cases b with
 | false =>
  go_wp2_with fail
  refine (must_no 1 _).mono ?_
  rintro e w2 ⟨rfl,rfl⟩
  go_wp2_with fail
  exact ⟨rfl,rfl,HW.out⟩
 | true =>
  have hvv:=HVV.out (HBB.out.1 rfl)
  cases v1 with
  | false =>
   clear hvv
   go_wp2_with fail
   refine (must_no 1 _).mono ?_
   rintro e w2 ⟨rfl,rfl⟩
   go_wp2_with fail
   exact ⟨rfl,rfl,HW.out⟩
  | true =>
   obtain rfl:v2 = false:=by simpa using hvv
   clear hvv
   go_wp2_with fail
   refine (must_no 1 _).mono ?_
   rintro e w2 ⟨rfl,rfl⟩
   go_wp2_with fail
   exact ⟨rfl,rfl,HW.out⟩
set_option maxRecDepth 1000000 in
set_option maxHeartbeats 8000000 in
theorem whole_good (B:Nat) {s:Sc} (vM vE:Value) (m:Int) (A:Option Addr) (c:Nat) (l:List UInt8) (w:World) (hv:ScMay s∧0≤m∧m < s.M.length) (hl:l.length≤10000) (hB:B≤w.heap.size) (hs:SAt B w s vM vE) (hin:ScIn s) (hr:SlB w A c l) (TW:Wires w) (TT:Tabs w) :
  Calls Tryz.prog 36 #[.agg #[vM,vE],.int .i64 m,.slice A l.length c] w fun e w'=>(∃ er:Nat,toldE s m l = .error er∧e = .panicked [{ v:=errP er,recovered:=false }]∧Below w.heap.size w w')∨(∃ X,toldE s m l = .ok X∧∃ A n c,e = .returned (.agg #[.slice A n c])∧T9.MAt (Ow w.heap.size w') 64 X [.slice A n c]∧Below w.heap.size w w'):=by
 obtain ⟨X1,X2,LBD⟩:=two_boxes w (.cells #[vM,vE] 25) (.cells #[.slice none 0 0] 31)
 have HMAY:=Lib.hid (may_any B s vM vE _ (Nat.le_trans hB LBD.size) (SAt.lo hs LBD hB) hin (TT.on LBD))
 have HST:=Lib.hid (fun wx (h:Below w.heap.size w wx)=>And.intro (SAt.lo hs h hB) (And.intro (hr.on h) (And.intro (TW.on h) (TT.on h))))
 obtain ⟨A1,q1,A2,q2,rfl,rfl⟩:=sat_shape hs
 obtain ⟨x1,x2⟩:=box2' X1
 have HX:=Lib.hid (And.intro X1 (And.intro X2 LBD))
 have d1:decide ((0:Int)≤m) = true:=decide_eq_true hv.2.1
 have d2:decide (m < (s.M.length:Int)) = true:=decide_eq_true hv.2.2
 have hT:=told_of (l:=l) hv
 have hTK:=fun x=>taken_is (x:=x) hv hl
 have HV:=Lib.hid (And.intro hv (And.intro hT hTK))
 clear hs hr TW TT X1 X2 LBD hv hT hTK
 go_enter Tryz.func36,Tryz.ntmps36
 go_wp2_with fail
 refine HMAY.out.mono ?_
 rintro e w1 ⟨b,rfl,hb,hb1⟩
 obtain rfl:=hb.2 HV.out.1.1
 clear hb
 have hw01:=below_then HX.out.2.2 hb1
 have hsz1:w.heap.size+2≤w1.heap.size:=by
  have h1:=hb1.size
  have h2:((w.alloc (.cells #[.slice A1 s.M.length q1,.slice A2 s.E.length q2] 25)).alloc (.cells #[.slice none 0 0] 31)).heap.size = w.heap.size+2:=by simp
  exact h2 ▸ h1
 have X1':=box_on HX.out.1 hb1
 have X2':=box_on HX.out.2.1 hb1
 obtain ⟨x1,x2⟩:=box2' X1'
 have HW:=Lib.hid (And.intro hw01 (And.intro X1' (And.intro X2' hsz1)))
 clear HMAY X1' X2' hb1 hw01 hsz1
 go_wp2_with fail
 refine (must_yes _ _).mono ?_
 rintro e w1' ⟨rfl,rfl⟩
 obtain ⟨hw01,X1',X2',hsz1⟩:=HW.out
 have N2:=below_new w1' (.cells #[.slice none 0 0] 31)
 have Z2:=heap_alloc_new w1' (.cells #[.slice none 0 0] 31)
 obtain ⟨k1,k2,k3,k4⟩:=HST.out _ hw01
 have hrw:(LM.mk (.slice none 0 0) []).rows = [⟨67,3,.slice none 0 0,0,[]⟩]:=rows_empty _
 have hLr:∀ wx:World,Lies w1'.heap.size 0 wx (LM.mk (.slice none 0 0) []).rows:=fun wx=>by
  rw [hrw]
  exact ⟨fun q hq=>by obtain rfl:=List.mem_singleton.1 hq;exact ⟨World.ownsRow_nil _ _ _ _,Nat.le_refl _⟩,by simp [blocks,Value.ownBlock]⟩
 have hbr:blocks (LM.mk (.slice none 0 0) []).rows = []:=by rw [hrw];simp [blocks,Value.ownBlock]
 have hfz:(w1'.alloc (.cells #[.slice none 0 0] 31)).frozen? ⟨w1'.heap.size,0,none⟩ = false:=by unfold World.frozen?;rw [Z2];simp
 have hM:=msgH (wo:=w1') (K:=l.length) k2 (by omega) k3 (SAt.mono k1 (Nat.le_trans hB hw01.size)) HV.out.1.1 (by omega) 64 (Nat.le_refl _) m (LM.mk (.slice none 0 0) []) ⟨w1'.heap.size,0,none⟩ 0 l.length 1 0 (w1'.alloc (.cells #[.slice none 0 0] 31)) N2 (Nat.le_refl _) (by simp) rfl (bx1 Z2) hfz (hLr _) (by rw [hbr];simp) (full_empty s _ 64 m) (Nat.zero_le _) (Nat.le_refl _) (by omega) (by decide) (by decide)
 rw [hbr,bare_empty,List.drop_zero,Nat.sub_zero,List.take_length] at hM
 have HM:=Lib.hid hM
 obtain ⟨y1,y2⟩:=box2' (box_on X1' N2)
 have HN:=Lib.hid (And.intro N2 Z2)
 clear x1 x2 k1 k2 k3 k4 Z2 N2 X1' X2' hw01 hsz1 hM hrw hLr hbr hfz
 go_wp2_with fail
 refine HM.out.mono ?_
 rintro e w2 (⟨er,h1,rfl,h3⟩ | ⟨x',h1,rfl,h3,h4,h5,h6,h7⟩)
 ·go_wp2_with fail
  obtain ⟨hw01,X1',X2',hsz1⟩:=HW.out
  refine ⟨rfl,.inl ⟨er,by rw [HV.out.2.1,h1],rfl,hw01.trans ((HN.out.1.mono hw01.size).trans (h3.mono hw01.size))⟩⟩
 ·obtain ⟨hw01,X1',X2',hsz1⟩:=HW.out
  obtain ⟨t1,t2,t3,t4,t5⟩:=HV.out.2.2 x'.bare h1
  have hub:Below w1'.heap.size (w1'.alloc (.cells #[.slice none 0 0] 31)) w2:=upd_below h3 (by simp) (Nat.le_refl _) (fun k hk=>by cases hk)
  have hb12:=HN.out.1.trans hub
  have hgx:w2.heap[w1'.heap.size]? = some (.cells #[x'.v] 31 (0,0)):=by
   rw [h3.block _ (by simp) (by simp),setCell_at,HN.out.2]
   simp
  have hmat:=LM.mat (b:=w1'.heap.size) (by omega) 64 x' t4 (fun r hr=>h4.own r hr)
  obtain ⟨As,cs,hxv⟩:=msg_shape hmat
  have hb02:=below_then hw01 hb12
  obtain ⟨k1,-,-,k4⟩:=HST.out _ hb02
  have HNO:=tnormal_ow hin w2.heap.size 64 _ _ m x'.bare _ w2 (Nat.le_refl _) (SAt.mono k1 (Nat.le_trans hB hb02.size)) (own_rd hmat) t2 (by omega) k4 t5
  rw [hxv] at HNO hgx
  have HNO:=Lib.hid HNO
  obtain ⟨y1,y2⟩:=box2' (box_on X1' hb12)
  have c3:=bx1 hgx
  have HW:=Lib.hid (And.intro hb02 (And.intro (box_on X2' hb12) (And.intro hsz1 (And.intro hb12 h1))))
  clear hb12 hb02 k1 k4 hgx hmat hw01 X1' X2' hsz1 HN HM h1 h3 h4 h5 h6 h7 hub t1 t2 t3 t4 t5 hxv
  go_wp2_with fail
  refine HNO.out.mono ?_
  rintro e w3 ⟨An,nn,cn,rfl,hm3,hb3⟩
  obtain ⟨hb02,X2',hsz1,hb12,h1⟩:=HW.out
  have N4:=below_new w3 (.cells #[.slice An nn cn] 31)
  have Z4:=heap_alloc_new w3 (.cells #[.slice An nn cn] 31)
  have z4:=bx1 Z4
  have Y2:=box_on (box_on X2' hb3) N4
  have c2:=bx1 Y2
  have f2:(w3.alloc (.cells #[.slice An nn cn] 31)).frozen? ⟨w.heap.size+1,0,none⟩ = false:=by simp [World.frozen?,Y2]
  obtain ⟨Z1,G1⟩:=cell1 Y2 (.slice An nn cn)
  have hb04:=below_then (below_then hb02 hb3) N4
  have hsw:w.heap.size+1 < w2.heap.size:=by have:=hb12.size;omega
  have hbz:=hb04.trans (below_own G1 (by omega) (by have:=hb3.size;have:=N4.size;omega))
  have hmz:=T9.MAt.imp (Ow.hi' (hi_grown G1 (b:=w2.heap.size+3) (by omega)) (b':=w.heap.size) (by omega)) 64 _ _ (T9.MAt.imp (Ow.hi (hi_below _ N4)) 64 _ _ hm3)
  have HZ:=Lib.hid (And.intro hbz (And.intro hmz (show toldE s m l = .ok (norB s 64 m x'.bare) by rw [HV.out.2.1,h1])))
  clear hb02 X2' hsz1 hb12 N4 Z4 Y2 G1 hb04 hsw hbz hmz hm3 hb3 y1 y2 c3 HNO h1
  go_wp2
  refine bodyPost_ret (results_cell_row rfl _ _ (w.heap.size+1) _ _ (0,0) _ rfl Z1 Tryz.underlying31 rfl sz_msg) rfl ?_
  exact .inr ⟨_,HZ.out.2.2,An,nn,cn,rfl,HZ.out.2.1,HZ.out.1⟩
theorem decode_any (B:Nat) {s:Sc} (vM vE:Value) (m:Int) (A:Option Addr) (c:Nat) (l:List UInt8) (w:World) (hl:l.length≤10000) (hB:B≤w.heap.size) (hs:SAt B w s vM vE) (hin:ScIn s) (hr:SlB w A c l) (TW:Wires w) (TT:Tabs w) :
  Calls Tryz.prog 14 #[.agg #[vM,vE],.int .i64 m,.slice A l.length c] w fun e w'=>((∃ er:Nat,toldE s m l = .error er∧e = .returned (.tuple #[.agg #[.slice none 0 0],.int .i64 (er:Nat)]))∨(∃ X,toldE s m l = .ok X∧∃ A n c,e = .returned (.tuple #[.agg #[.slice A n c],.int .i64 0])∧T9.MAt (Ow w.heap.size w') 64 X [.slice A n c]))∧Below w.heap.size w w':=by
 cases hD:toldE s m l with
 | error er =>
  refine (decode_err vM vE m A l.length c er w (fun wx hx=>?_)).mono ?_
  ·by_cases hv:ScMay s∧0≤m∧m < s.M.length
   ·refine (whole_good B vM vE m A c l wx hv hl (Nat.le_trans hB hx.size) (SAt.lo hs hx hB) hin (hr.on hx) (TW.on hx) (TT.on hx)).mono ?_
    rintro e w' (⟨er',h1,rfl,h2⟩ | ⟨X,h1,-⟩)
    ·rw [hD] at h1
     obtain rfl:=Except.error.inj h1
     exact ⟨rfl,h2⟩
    ·rw [hD] at h1;cases h1
   ·have h1:=told_not (l:=l) hv
    rw [hD] at h1
    obtain rfl:=Except.error.inj h1
    exact whole_bad B vM vE m A l.length c wx hv (Nat.le_trans hB hx.size) (SAt.lo hs hx hB) hin (TT.on hx)
  ·rintro e w' ⟨rfl,hb⟩
   exact ⟨.inl ⟨er,rfl,rfl⟩,hb⟩
 | ok X =>
  have hv:ScMay s∧0≤m∧m < s.M.length:=Classical.byContradiction fun h=>by rw [told_not h] at hD;cases hD
  refine (decode_ok vM vE m A l.length c (fun b v wa=>T9.MAt (Ow b wa) 64 X [v]) w (fun b v wa wb k hk h hg=>T9.MAt.imp (Ow.hi (hi_grown hg hk)) 64 X _ h) (fun wx hx hsz=>?_)).mono ?_
  ·refine (whole_good B vM vE m A c l wx hv hl (Nat.le_trans hB hx.size) (SAt.lo hs hx hB) hin (hr.on hx) (TW.on hx) (TT.on hx)).mono ?_
   rintro e w' (⟨er',h1,-⟩ | ⟨Y,h1,A',n',c',rfl,h2,h3⟩)
   ·rw [hD] at h1;cases h1
   ·rw [hD] at h1
    obtain rfl:=Except.ok.inj h1
    exact ⟨⟨A',n',c',rfl,h2⟩,h3⟩
  ·rintro e w' ⟨⟨A',n',c',rfl,b,hb,h2⟩,h3⟩
   exact ⟨.inr ⟨X,rfl,A',n',c',rfl,T9.MAt.imp (fun e size v n xs h=>⟨own_less2 h.1 (by omega),h.2⟩) 64 X _ h2⟩,h3⟩
end Go.Proofs.YtckcojkpghiclaaGreatDoor.T11
namespace Go.Proofs.YtckcojkpghiclaaGreatDoor.T11
set_option maxRecDepth 100000
open Go.Proofs.YtckcojkpghiclaaGreatDoor.T9 Go.Proofs.YtckcojkpghiclaaGreatDoor.T4 Go.Proofs.YtckcojkpghiclaaGreatDoor.T12
end Go.Proofs.YtckcojkpghiclaaGreatDoor.T11
namespace Go.Proofs.YtckcojkpghiclaaGreatDoor.T11
set_option maxRecDepth 100000
open Go.RowKit
open Go.Proofs.YtckcojkpghiclaaGreatDoor.T9 Go.Proofs.YtckcojkpghiclaaGreatDoor.T4 Go.Proofs.YtckcojkpghiclaaGreatDoor.T12
theorem sat_up {w w':World} {s:Sc} {vM vE:Value} (h:SAt w.heap.size w s vM vE) (hb:Below w.heap.size w w'):SAt w'.heap.size w' s vM vE:=SAt.mono (SAt.lo h hb (Nat.le_refl _)) hb.size
def codeE:Except Nat Mg→Nat
 | .ok _=>0
 | .error e=>e
theorem dec_code {s:Sc} (vM vE:Value) (m:Int) (A:Option Addr) (c n z:Nat) (l:List UInt8) (w:World) (hn:l.length = n) (hz:codeE (toldE s m l) = z) (hl:n≤10000) (hs:SAt w.heap.size w s vM vE) (hin:ScIn s) (hr:SlB w A c l) (TW:Wires w) (TT:Tabs w) :
  Calls Tryz.prog 14 #[.agg #[vM,vE],.int .i64 m,.slice A n c] w fun e w'=>(∃ A n c,e = .returned (.tuple #[.agg #[.slice A n c],.int .i64 z]))∧Below w.heap.size w w':=by
 subst hn
 refine (decode_any w.heap.size vM vE m A c l w hl (Nat.le_refl _) hs hin hr TW TT).mono ?_
 rintro e w' ⟨⟨er,h,rfl⟩ | ⟨X,h,A',n',c',rfl,-⟩,hb⟩
 ·rw [h] at hz
  obtain rfl:er = z:=hz
  exact ⟨⟨_,_,_,rfl⟩,hb⟩
 ·rw [h] at hz
  obtain rfl:0 = z:=hz
  exact ⟨⟨_,_,_,rfl⟩,hb⟩
end Go.Proofs.YtckcojkpghiclaaGreatDoor.T11
namespace Go.Proofs.YtckcojkpghiclaaGreatDoor.T12
set_option maxRecDepth 100000
open Go.Proofs.YtckcojkpghiclaaGreatDoor.T9 Go.Proofs.YtckcojkpghiclaaGreatDoor.T4
end Go.Proofs.YtckcojkpghiclaaGreatDoor.T12
namespace Go.Proofs.YtckcojkpghiclaaGreatDoor
set_option maxRecDepth 100000
open Go.RowKit
def numQ (wire:Nat) (num:Nat) (run:List UInt8):Nat:=if wire = 2 then run.length else if wire = 5 then num % 4294967296 else num
def headL (no wire:Int) (run:List UInt8):Nat:=(putL no wire).length+(if wire = 2 then (vput run.length).length else 0)
theorem tells_put {no wire:Nat} (h:putB no wire = true):tellsN (putN no wire) = (no,wire,0):=by
 obtain ⟨h1,h2,h3⟩:=tellsN_yes h
 generalize tellsN (putN no wire) = x at *
 obtain ⟨a,b,c⟩:=x
 simp only [Prod.mk.injEq]
 simp only at h1 h2 h3
 omega
theorem wire_nat {wire:Nat} {no:Nat} (h:putB no wire = true):wire = 0∨wire = 1∨wire = 2∨wire = 5:=by
 have:=(putB_iff.1 h).2
 omega
theorem wnum_put {wire num:Nat} {run t:List UInt8} (hw:wire = 0∨wire = 1∨wire = 5) (hn:num < 18446744073709551616):wnum wire (restL wire num run++t) = (numQ wire num run,(restL wire num run).length,0):=by
 rcases hw with rfl | rfl | rfl
 ·have hr:restL ((0:Nat):Int) num run = vput num:=by simp [restL]
  rw [hr]
  unfold wnum numQ
  rw [if_neg (by decide),if_neg (by decide),if_neg (by decide),if_neg (by decide)]
  exact vget_vput hn t
 ·have hr:restL ((1:Nat):Int) num run = fixb num 8:=by simp [restL]
  rw [hr]
  unfold wnum numQ wfix
  rw [if_pos rfl,if_neg (show ¬ (fixb num 8++t).length < 8 by rw [List.length_append,fixb_length];omega),if_neg (by decide),if_neg (by decide),List.take_left' (fixb_length _ _),fixn_fixb,fixb_length]
  rw [Nat.mod_eq_of_lt (by omega)]
 ·have hr:restL ((5:Nat):Int) num run = fixb num 4:=by simp [restL]
  rw [hr]
  unfold wnum numQ wfix
  rw [if_neg (show ¬ 5 = 1 by decide),if_pos rfl,if_neg (show ¬ (fixb num 4++t).length < 4 by rw [List.length_append,fixb_length];omega),if_neg (show ¬ 5 = 2 by decide),if_pos rfl,List.take_left' (fixb_length _ _),fixn_fixb,fixb_length]
theorem wnext_put {no wire:Nat} (h:putB no wire = true) {num:Nat} (hn:num < 18446744073709551616) {run:List UInt8} (hr:run.length < 18446744073709551616) (t:List UInt8) :
  wnext (recL no wire num run++t) = (⟨no,wire,numQ wire num run,headL no wire run,(recL no wire num run).length⟩,(recL no wire num run).length,0):=by
 have hl:=putN_lt h
 have ht:=tells_put h
 rw [recL_yes h]
 have hp:putL no wire = vput (putN no wire):=putL_yes h
 have hv:vget (putL no wire++restL wire num run++t) = (putN no wire,(putL no wire).length,0):=by
  rw [hp,List.append_assoc];exact vget_vput (by omega) _
 have hd:(putL no wire++restL wire num run++t).drop (putL no wire).length = restL wire num run++t:=by rw [List.append_assoc,List.drop_left]
 by_cases h2:wire = 2
 ·subst h2
  have hq:restL ((2:Nat):Int) num run = vput run.length++run:=by simp [restL]
  have hw:wnum 2 ((putL no (2:Nat)++restL (2:Nat) num run++t).drop (putL no (2:Nat)).length) = (run.length,(vput run.length).length,0):=by
   rw [hd,hq]
   unfold wnum
   rw [if_neg (by decide),if_neg (by decide),List.append_assoc]
   exact vget_vput hr _
  rw [wnext_of hv ht hw]
  have e1:numQ 2 num run = run.length:=by simp [numQ]
  have e2:headL no (2:Nat) run = (putL no (2:Nat)).length+(vput run.length).length:=by simp [headL]
  unfold wrun
  rw [e1,e2,if_pos rfl,hq,if_pos (by simp only [List.length_append];omega)]
  simp only [Prod.mk.injEq,Rc.mk.injEq,true_and,and_true,List.length_append]
  omega
 ·have h3:wire = 0∨wire = 1∨wire = 5:=by have:=wire_nat h;omega
  have hw:wnum wire ((putL no wire++restL wire num run++t).drop (putL no wire).length) = (numQ wire num run,(restL wire num run).length,0):=by
   rw [hd];exact wnum_put h3 hn
  rw [wnext_of hv ht hw]
  have e2:headL no wire run = (putL no wire).length:=by unfold headL;rw [if_neg (by omega)];rfl
  unfold wrun
  rw [e2,if_neg h2]
  simp only [Prod.mk.injEq,Rc.mk.injEq,true_and,and_true,List.length_append]
theorem fixb_congr:∀ (k n m:Nat),n % 256 ^ k = m % 256 ^ k→fixb n k = fixb m k
 | 0,_,_,_=>rfl
 | k+1,n,m,h=>by
  rw [Nat.pow_succ',Nat.mod_mul,Nat.mod_mul] at h
  have h1:=Nat.mod_lt n (show 0 < 256 by omega)
  have h2:=Nat.mod_lt m (show 0 < 256 by omega)
  rw [fixb,fixb,fixb_congr k (n / 256) (m / 256) (by omega),show n % 256 = m % 256 by omega]
def oneQ (wire:Int) (n m:Nat) (x y:List UInt8):Prop:=if wire = 2 then x = y else if wire = 5 then n % 4294967296 = m % 4294967296 else n = m
theorem recL_iff {no wire no' wire':Nat} (h:putB no wire = true) (k:putB no' wire' = true) {n m:Nat} (hn:n < 18446744073709551616) (hm:m < 18446744073709551616) {x y:List UInt8} (hx:x.length < 18446744073709551616) (hy:y.length < 18446744073709551616) :
  recL no wire n x = recL no' wire' m y↔((no:Int) = no'∧(wire:Int) = wire'∧oneQ wire n m x y):=by
 constructor
 ·intro e
  have h1:=wnext_put h hn hx []
  have h2:=wnext_put k hm hy []
  rw [e] at h1
  rw [h1] at h2
  simp only [Prod.mk.injEq,Rc.mk.injEq] at h2
  obtain ⟨⟨rfl,rfl,hq,-,-⟩,-,-⟩:=h2
  refine ⟨rfl,rfl,?_⟩
  unfold oneQ
  unfold numQ at hq
  by_cases w2:wire = 2
  ·rw [if_pos w2,if_pos w2] at hq
   rw [if_pos (by omega)]
   rw [recL_yes h,recL_yes k] at e
   have e:=List.append_cancel_left e
   unfold restL at e
   rw [if_pos (by omega),if_pos (by omega),hq] at e
   exact List.append_cancel_left e
  ·rw [if_neg w2,if_neg w2] at hq
   rw [if_neg (by omega)]
   by_cases w5:wire = 5
   ·rw [if_pos w5,if_pos w5] at hq
    rw [if_pos (by omega)]
    exact hq
   ·rw [if_neg w5,if_neg w5] at hq
    rw [if_neg (by omega)]
    exact hq
 ·rintro ⟨h1,h2,h3⟩
  obtain rfl:no = no':=by omega
  obtain rfl:wire = wire':=by omega
  unfold oneQ at h3
  rw [recL_yes h,recL_yes h]
  congr 1
  unfold restL
  by_cases w2:(wire:Int) = 2
  ·rw [if_pos w2] at h3
   rw [if_pos w2,if_pos w2,h3]
  ·rw [if_neg w2] at h3
   rw [if_neg w2,if_neg w2]
   by_cases w1:(wire:Int) = 1
   ·rw [if_neg (by omega)] at h3
    rw [if_pos w1,if_pos w1,h3]
   ·rw [if_neg w1,if_neg w1]
    by_cases w5:(wire:Int) = 5
    ·rw [if_pos w5] at h3
     rw [if_pos w5,if_pos w5]
     exact fixb_congr 4 n m (by simpa using h3)
    ·rw [if_neg w5] at h3
     rw [if_neg w5,if_neg w5,h3]
end Go.Proofs.YtckcojkpghiclaaGreatDoor
