/-
 A slot that is got;a value that is less: value's Get and Less.
-/
import Derived.Test.YtckcojkpghiclaaGreatDoorTrSet
import Derived.Deep.AppendLies
import Derived.Deep.RegionLaw
import Derived.Deep.RegionHeldLaw
import Derived.BigQuiet
namespace Go.Proofs.YtckcojkpghiclaaGreatDoor.T9
set_option maxRecDepth 100000
open Go.RowKit
theorem results_pair {P:Program} {fn:Func} {p u:Tmp} {ty:TypeId} (h:fn.results = #[.cell p ty,.tmp u]) (tmps:Array Value) (w:World) (g:Nat) (t:TypeId) (cs:Array Value) (fr:Nat × Nat) (d:TypeDesc)
  (hp:tmps.getD p undef = .pointer (some ⟨g,0,none⟩)) (hg:w.heap[g]? = some (.cells cs t fr))
  (hu:P.underlying ty = some d) (hd:(match d with | .struct _ | .array _ _=>true | _=>false) = true) (hi:(P.info? ty).map (·.size) = some cs.size) :
  (results fn tmps).run P w = .ok (.tuple #[.agg cs,tmps.getD u undef]) w:=by
 have hp':tmps[p]?.getD undef = .pointer (some ⟨g,0,none⟩):=by simpa using hp
 simp [results,h,hp',asAddr,run_loadVar_row w g t ty cs fr d hg hu hd hi]
def lessV (a b:Vl'):Bool:=if a.n = b.n then Op.bytesLess a.s b.s else decide (a.n < b.n)
theorem below_app {w w':World} {B:Nat} {e:TypeId} {size:Nat} {v:Value} {n:Nat} {xs:List Value} (h:w.ownsRow B e size v n xs) (hg:w.grownBy w' v.ownBlock) (hs:B≤w.heap.size):Below B w w':=below_rows h hg hs
set_option maxRecDepth 1000000 in
set_option maxHeartbeats 4000000 in
theorem both_any (B d:Nat) (s:So) (u1 u2:Value) (w:World) (hB:B≤w.heap.size) (hs:SAt' (Rd B w) d s [.int .i64 s.no,u1,u2]) (hk:s.K.length≤1000000000) (hv:s.V.length≤1000000000) :
  Calls Tryz.prog 118 #[.agg #[.int .i64 s.no,u1,u2]] w fun e w'=>∃ v xs,e = .returned v∧w'.ownsRow w.heap.size 81 3 v (s.K++s.V).length xs∧Rows (VAt (Rd B w') d) (s.K++s.V) xs∧Below w.heap.size w w':=by
 obtain ⟨i0,hi,hz0,hz1,hz2⟩:=info_parts info_val
 obtain ⟨u1',u2',hu,hlk,hlv⟩:=hs
 simp only [List.cons.injEq,and_true,true_and] at hu
 obtain ⟨rfl,rfl⟩:=hu
 obtain ⟨A1,c1,xs1,rfl,hs1,hb1,hr1,-⟩:=hlk.open_
 obtain ⟨A2,c2,xs2,rfl,hs2,hb2,hr2,-⟩:=hlv.open_
 have hbw:=below_new w (.cells #[.int .i64 s.no,.slice A1 s.K.length c1,.slice A2 s.V.length c2] 67)
 have X1:=heap_alloc_new w (.cells #[.int .i64 s.no,.slice A1 s.K.length c1,.slice A2 s.V.length c2] 67)
 have hlt:=box_lt X1
 have hs1':=sl_low hs1 hb1 (Lo.below hbw hB)
 have h11:=Rows.one vAt.one hr1
 have h12:=Rows.one vAt.one hr2
 have HR1:=Lib.hid hr1
 have HR2:=Lib.hid hr2
 have HS2:=Lib.hid hs2
 clear hr1 hr2 hs1 hs2 hlk hlv
 obtain ⟨p0,p1,p2⟩:=bx3 X1
 go_enter Tryz.func118,Tryz.ntmps118
 go_wp2_with (at_builtin;first
  | (
    refine wpList_app_sl rfl _ _ 65 rfl w.heap.size 81 i0 (.agg #[.int .i64 0,.string ⟨#[]⟩,.slice none 0 0]) 3 48 Tryz.underlying65 hi hz0 hz1 hz2 rfl (by omega) (.slice none 0 0) 0 [] rfl (World.ownsRow_nil _ _ _ _) A1 s.K.length c1 xs1 rfl hs1' h11 (by unfold maxLen;omega) (by omega) hbw.size ?_;intro v2 w2 hown2 hg2
    have Y1:=(hg2.block w.heap.size hlt (by simp [Value.ownBlock])).trans X1
    have q2:=(bx3 Y1).2.2
    have hb02:=hbw.trans (below_own (g:=w2.heap.size+w.heap.size) ⟨hg2.os,hg2.tape,hg2.output,hg2.size,fun k hk _=>hg2.block k hk (by simp [Value.ownBlock])⟩ (by omega) hbw.size)
    have hs2':=sl_low HS2.out hb2 (Lo.below hb02 hB)
    rw [Nat.zero_add] at hown2)
  | (refine wpList_app_sl rfl _ _ 65 rfl w.heap.size 81 i0 (.agg #[.int .i64 0,.string ⟨#[]⟩,.slice none 0 0]) 3 48 Tryz.underlying65 hi hz0 hz1 hz2 rfl (by omega) _ s.K.length _ rfl hown2 A2 s.V.length c2 xs2 rfl hs2' h12 (by unfold maxLen;omega) (by omega) hb02.size ?_;intro v3 w3 hown3 hg3))
 go_ret
 have hb03:=hb02.trans (below_app hown2 hg3 hb02.size)
 refine ⟨_,_,rfl,by rw [List.length_append];exact hown3,?_,hb03⟩
 exact ((HR1.out.imp fun a cs h=>VRd.low (Lo.below hb03 hB) h).append (HR2.out.imp fun a cs h=>VRd.low (Lo.below hb03 hB) h))
def cS' (s:So):Nat:=sm ((s.K++s.V).map cV)
def cV' (v:Vl'):Nat:=sm (v.M.map fun x=>1+x.cnt)
theorem cS_eq (s:So):cS s = 1+cS' s:=by unfold cS cS';rw [List.map_append,sm_append]
theorem cV_eq (v:Vl'):cV v = 1+cV' v:=rfl
theorem cnt_split (m:Mg):m.cnt = m.F.length+sm (m.F.map cS'):=by
 rw [m.cnt_eq,← sm_one m.F,← sm_add]
 exact sm_congr fun s _=>cS_eq s
theorem cS_split (s:So):cS' s = (s.K++s.V).length+sm ((s.K++s.V).map cV'):=by
 unfold cS'
 rw [← sm_one (s.K++s.V),← sm_add]
 exact sm_congr fun v _=>cV_eq v
theorem cV_split (v:Vl'):cV' v = v.M.length+sm (v.M.map Mg.cnt):=by
 unfold cV'
 rw [← sm_one v.M,← sm_add]
def DpV (d:Nat) (v:Vl'):Prop:=∀ x∈v.M,x.deep+1≤d
def DpS (d:Nat) (s:So):Prop:=∀ v∈s.K++s.V,DpV d v
theorem deep_of {m:Mg} {d:Nat} (hd:1≤d) (h:∀ s∈m.F,DpS d s):m.deep≤d:=by
 rw [m.deep_eq]
 have h1:mx (m.F.map dS)≤d - 1:=by
  refine mx_le fun y hy=>?_
  obtain ⟨s,hs,rfl⟩:=List.mem_map.1 hy
  have h2:∀ v∈s.K++s.V,dV v≤d - 1:=fun v hv=>by
   refine mx_le fun z hz=>?_
   obtain ⟨x,hx,rfl⟩:=List.mem_map.1 hz
   have:=h s hs v hv x hx
   omega
  have h3:mx (s.K.map dV)≤d - 1:=mx_le fun z hz=>by
   obtain ⟨v,hv,rfl⟩:=List.mem_map.1 hz
   exact h2 v (List.mem_append.2 (.inl hv))
  have h4:mx (s.V.map dV)≤d - 1:=mx_le fun z hz=>by
   obtain ⟨v,hv,rfl⟩:=List.mem_map.1 hz
   exact h2 v (List.mem_append.2 (.inr hv))
  unfold dS
  omega
 omega
def NB (d:Nat):Nat:=20000000000000+10000 * d
def So1 (m:Mg) (d i N:Nat):Prop:=N≤3000→m.F.length+sm ((m.F.take i).map cS')≤N∧∀ s∈m.F.take i,DpS d s
def So2 (m:Mg) (d i:Nat) (L:List Vl') (k N:Nat):Prop:=N≤3000→(m.F.length+sm ((m.F.take i).map cS')+L.length+sm ((L.take k).map cV')≤N∧∀ s∈m.F.take i,DpS d s)∧∀ v∈L.take k,DpV d v
def So3 (m:Mg) (d i:Nat) (L:List Vl') (k:Nat) (M:List Mg) (j N:Nat):Prop:=N≤3000→((m.F.length+sm ((m.F.take i).map cS')+L.length+sm ((L.take k).map cV')+M.length+sm ((M.take j).map Mg.cnt)≤N∧∀ s∈m.F.take i,DpS d s)∧∀ v∈L.take k,DpV d v)∧∀ x∈M.take j,x.deep+1≤d
theorem mem_take_next {α:Type} {l:List α} {k:Nat} {a x:α} (h:l[k]? = some a) (hx:x∈l.take (k+1)):x∈l.take k∨x = a:=by
 rw [List.take_add_one,h] at hx
 simpa using hx
theorem So3.next {m:Mg} {d i:Nat} {L:List Vl'} {k:Nat} {M:List Mg} {j N c:Nat} {x:Mg} (h:So3 m d i L k M j N) (hN:N≤3000) (hx:M[j]? = some x) (hc:c≤3000→x.cnt≤c∧x.deep≤d - 1) (hd:1≤d):So3 m d i L k M (j+1) (N+c):=fun hn=>by
 obtain ⟨⟨⟨h1,h2⟩,h3⟩,h4⟩:=h hN
 obtain ⟨h5,h6⟩:=hc (by omega)
 refine ⟨⟨⟨?_,h2⟩,h3⟩,fun y hy=>?_⟩
 ·rw [sm_take_next Mg.cnt hx];omega
 ·rcases mem_take_next hx hy with hy | rfl
  ·exact h4 y hy
  ·omega
theorem So3.start {m:Mg} {d i:Nat} {L:List Vl'} {k:Nat} {M:List Mg} {N:Nat} (h:So2 m d i L k N) (hN:N≤3000):So3 m d i L k M 0 (N+M.length):=fun hn=>by
 obtain ⟨⟨h1,h2⟩,h3⟩:=h hN
 exact ⟨⟨⟨by simp only [List.take_zero,List.map_nil,sm];omega,h2⟩,h3⟩,fun y hy=>by simp at hy⟩
theorem So3.done {m:Mg} {d i:Nat} {L:List Vl'} {k:Nat} {v:Vl'} {j N:Nat} (h:So3 m d i L k v.M j N) (hv:L[k]? = some v) (hj:N≤3000→j = v.M.length):So2 m d i L (k+1) N:=fun hn=>by
 obtain ⟨⟨⟨h1,h2⟩,h3⟩,h4⟩:=h hn
 obtain rfl:=hj hn
 rw [List.take_length] at h1 h4
 refine ⟨⟨?_,h2⟩,fun y hy=>?_⟩
 ·rw [sm_take_next cV' hv,cV_split v];omega
 ·rcases mem_take_next hv hy with hy | rfl
  ·exact h3 y hy
  ·exact h4
theorem So2.start {m:Mg} {d i:Nat} {L:List Vl'} {N:Nat} (h:So1 m d i N) (hN:N≤3000):So2 m d i L 0 (N+L.length):=fun hn=>by
 obtain ⟨h1,h2⟩:=h hN
 exact ⟨⟨by simp only [List.take_zero,List.map_nil,sm];omega,h2⟩,fun y hy=>by simp at hy⟩
theorem So2.done {m:Mg} {d i:Nat} {s:So} {k N:Nat} (h:So2 m d i (s.K++s.V) k N) (hs:m.F[i]? = some s) (hk:N≤3000→k = (s.K++s.V).length):So1 m d (i+1) N:=fun hn=>by
 obtain ⟨⟨h1,h2⟩,h3⟩:=h hn
 obtain rfl:=hk hn
 rw [List.take_length] at h1 h3
 refine ⟨?_,fun y hy=>?_⟩
 ·rw [sm_take_next cS' hs,cS_split s];omega
 ·rcases mem_take_next hs hy with hy | rfl
  ·exact h2 y hy
  ·exact h3
theorem So1.start (m:Mg) (d:Nat):So1 m d 0 m.F.length:=fun _=>⟨by simp [sm],fun y hy=>by simp at hy⟩
theorem So1.done {m:Mg} {d i N:Nat} (h:So1 m d i N) (hi:N≤3000→i = m.F.length) (hd:1≤d):N≤3000→m.cnt≤N∧m.deep≤d:=fun hn=>by
 obtain ⟨h1,h2⟩:=h hn
 obtain rfl:=hi hn
 rw [List.take_length] at h1 h2
 exact ⟨by rw [cnt_split];exact h1,deep_of hd h2⟩
def CountH (B D:Nat):Prop:=∀ (m:Mg) (u:Value) (d:Nat) (w:World),B≤w.heap.size→MRd B w D m u→d≤1000→Calls Tryz.prog 85 #[.agg #[u],.int .i64 d] w fun e w'=>∃ n:Nat,e = .returned (.int .i64 n)∧n≤NB d∧(n≤3000→m.cnt≤n∧m.deep≤d)∧Below w.heap.size w w'
set_option maxRecDepth 1000000 in
set_option maxHeartbeats 8000000 in
theorem count_step {B D:Nat} (H:CountH B D):CountH B (D+1):=by
 rintro m u d w hB ⟨u',hu,hl⟩ hd
 simp only [List.cons.injEq,and_true] at hu
 subst hu
 obtain ⟨A,c,xs,rfl,hs,hbl,hr,hn⟩:=hl.open_
 have X1:=heap_alloc_new w (.cells #[.slice A m.F.length c] 31)
 have LBD:=below_new w (.cells #[.slice A m.F.length c] 31)
 have HS:=Lib.hid hs
 have HR:=Lib.hid hr
 have HBB:=Lib.hid hbl
 have HH:=Lib.hid H
 clear hs hr hl hbl H
 by_cases hd0:d = 0
 ·subst hd0
  go_enter Tryz.func85,Tryz.ntmps85
  go_wp2
  go_ret
  exact ⟨10000,rfl,by unfold NB;omega,fun h=>by omega,LBD⟩
 ·have hd1:1≤d:=by omega
  have hdl:decide ((d:Int)≤0) = false:=by rw [decide_eq_false_iff_not];omega
  by_cases hF:m.F.length≤3000
  ·have hfl:decide ((3000:Int) < (m.F.length:Int)) = false:=by rw [decide_eq_false_iff_not];omega
   have hfl2:decide (3000 < m.F.length) = false:=by rw [decide_eq_false_iff_not];omega
   clear hd0
   go_enter Tryz.func85,Tryz.ntmps85
   go_wp2
   obtain ⟨W0,hW0⟩:∃ W,W = w.alloc (.cells #[.slice A m.F.length c] 31):=⟨_,rfl⟩
   rw [← hW0] at X1 LBD ⊢
   have hX:=box_lt X1
   clear hW0
   go_loopw [5,6,7,8,9] (fun n i l k j wr=>∃ (p N:Nat),i = .int .i64 p∧p≤m.F.length∧n = .int .i64 N∧N≤NB d∧So1 m d p N∧Below W0.heap.size W0 wr) (fun _ i _ _ _ _=>m.F.length - (intOf i).toNat)
   case atStart=>exact ⟨0,m.F.length,rfl,by omega,rfl,by unfold NB;omega,So1.start m d,Below.refl _ _⟩
   case round =>
    obtain ⟨p,N,rfl,hp,rfl,hNB,hso,hbw⟩:=hrel
    have HSO:=Lib.hid hso
    have g0:=bx1 (box_on X1 hbw)
    have HBW:=Lib.hid (LBD.trans (hbw.mono LBD.size))
    clear hso
    by_cases hlt:p < m.F.length
    ·by_cases hN:N≤3000
     ·have hN3:decide ((N:Int)≤3000) = true:=by rw [decide_eq_true_iff];omega
      have hN4:decide (N≤3000) = true:=by rw [decide_eq_true_iff];omega
      obtain ⟨s,hs⟩:∃ s,m.F[p]? = some s:=⟨_,List.getElem?_eq_getElem hlt⟩
      obtain ⟨ad,x,y,z,rfl,hga,hcc,c0,c1,c2⟩:=row3 sAt.len (sl_low HS.out HBB.out (Lo.below HBW.out hB)) (HR.out.imp fun a cs h=>SRd.low (Lo.below HBW.out hB) h) hs
      have HCC:=Lib.hid hcc
      obtain ⟨u1,u2,hu,hlk,hlv⟩:=hcc
      simp only [List.cons.injEq,and_true] at hu
      obtain ⟨rfl,rfl,rfl⟩:=hu
      obtain ⟨AK,cK,xsK,rfl,-⟩:=hlk.open_
      obtain ⟨AV,cV_,xsV,rfl,-⟩:=hlv.open_
      have HSs:=Lib.hid hs
      clear hlk hlv hs
      by_cases hK:s.K.length≤3000
      ·have hK1:decide ((3000:Int) < (s.K.length:Int)) = false:=by rw [decide_eq_false_iff_not];omega
       have hK2:decide (3000 < s.K.length) = false:=by rw [decide_eq_false_iff_not];omega
       by_cases hV:s.V.length≤3000
       ·have hV1:decide ((3000:Int) < (s.V.length:Int)) = false:=by rw [decide_eq_false_iff_not];omega
        have hV2:decide (3000 < s.V.length) = false:=by rw [decide_eq_false_iff_not];omega
        have HB7:=Lib.hid (both_any B D s _ _ wr (Nat.le_trans hB HBW.out.size) HCC.out (by omega) (by omega))
        have HLL:=Lib.hid (show (s.K++s.V).length≤6000 by rw [List.length_append];omega)
        go_wp2_with fail
        refine HB7.out.mono ?_
        rintro e w2 ⟨v7,ys,rfl,ho7,hr7,hb2⟩
        have HSO2:=Lib.hid (fun q M=>@So2.done m d p s q M)
        have HST:=Lib.hid (So2.start (L:=s.K++s.V) HSO.out hN)
        obtain ⟨L,hL⟩:∃ L,s.K++s.V = L:=⟨_,rfl⟩
        rw [hL] at ho7 hr7 HSO2 HST HLL
        obtain ⟨A7,c7,rfl,hs7⟩:=Sl.of_own ho7
        have HS7:=Lib.hid hs7
        have HR7:=Lib.hid hr7
        have HB2:=Lib.hid (below_then HBW.out hb2)
        have HB3:=Lib.hid (below_then hbw hb2)
        have hll:=HLL.out
        have hw1:IntKind.i64.wrap ((N:Int)+(L.length:Int)) = ((N+L.length:Nat):Int):=by rw [IntKind.wrap_i64];omega
        have hn2:N+L.length≤NB d:=by unfold NB;omega
        clear ho7 hr7 hs7 hL hb2 g0 c0 c1 c2 hK hK1 hK2 hV hV1 hV2 hbw hN3 hN4 HB7
        go_wp2
        go_loopw [5,8,9] (fun n k j wx=>∃ (q M:Nat),k = .int .i64 q∧q≤L.length∧n = .int .i64 M∧M≤NB d∧So2 m d p L q M∧Below w2.heap.size w2 wx) (fun _ k _ _=>L.length - (intOf k).toNat)
        case atStart=>exact ⟨0,N+L.length,rfl,by omega,by go_num,hn2,HST.out,Below.refl _ _⟩
        case round =>
         obtain ⟨q,M,rfl,hq,rfl,hMB,hso2,hbx⟩:=hrel
         have HSOX:=Lib.hid hso2
         clear hso2
         by_cases hql:q < L.length
         ·by_cases hM:M≤3000
          ·have hM3:decide ((M:Int)≤3000) = true:=by rw [decide_eq_true_iff];omega
           have hM4:decide (M≤3000) = true:=by rw [decide_eq_true_iff];omega
           obtain ⟨v,hv⟩:∃ v,L[q]? = some v:=⟨_,List.getElem?_eq_getElem hql⟩
           obtain ⟨a7,x,y,z,rfl,hga7,hcc,c0,c1,c2⟩:=row3 vAt.len (HS7.out.on hbx) (HR7.out.imp fun a cs h=>VRd.low (Lo.below hbx (Nat.le_trans hB HB2.out.size)) h) hv
           obtain ⟨um,hu,hlm⟩:=hcc
           simp only [List.cons.injEq,and_true] at hu
           obtain ⟨rfl,rfl,rfl⟩:=hu
           obtain ⟨AM,cM,xsM,rfl,hsM,hbM,hrM,hnM⟩:=hlm.open_
           have HSM:=Lib.hid hsM
           have HRM:=Lib.hid hrM
           have HBM:=Lib.hid hbM
           have HVV:=Lib.hid hv
           have HST3:=Lib.hid (So3.start (M:=v.M) HSOX.out hM)
           have HBX:=Lib.hid hbx
           have hw3:IntKind.i64.wrap ((M:Int)+(v.M.length:Int)) = ((M+v.M.length:Nat):Int):=by rw [IntKind.wrap_i64];omega
           have hn3:M+v.M.length≤NB d:=by unfold NB;omega
           have C2:=Lib.hid c2
           have hlt7:a7.block < wr.heap.size:=hga7
           clear hsM hrM hbM hlm hv c0 c1 hbx
           go_wp2
           go_loopw [5,9] (fun n j wy=>∃ (t M3:Nat),j = .int .i64 t∧t≤v.M.length∧n = .int .i64 M3∧M3≤NB d∧So3 m d p L q v.M t M3∧Below wr.heap.size wr wy) (fun _ j _=>v.M.length - (intOf j).toNat)
           case atStart=>exact ⟨0,M+v.M.length,rfl,by omega,by go_num,hn3,HST3.out,Below.refl _ _⟩
           case round =>
            obtain ⟨t,M3,rfl,ht,rfl,hM3B,hso3,hby⟩:=hrel
            have HSO3:=Lib.hid hso3
            have k2:=cell_on hby C2.out
            clear hso3 c2
            by_cases htl:t < v.M.length
            ·by_cases hM5:M3≤3000
             ·have hM6:decide ((M3:Int)≤3000) = true:=by rw [decide_eq_true_iff];omega
              have hM7:decide (M3≤3000) = true:=by rw [decide_eq_true_iff];omega
              obtain ⟨x,hx⟩:∃ x,v.M[t]? = some x:=⟨_,List.getElem?_eq_getElem htl⟩
              obtain ⟨am,ux,rfl,hgam,hcx,k0⟩:=row1 MAt.len (sl_low HSM.out HBM.out (Lo.below hby (Nat.le_trans hB (Nat.le_trans HB2.out.size HBX.out.size)))) (HRM.out.imp fun a cs h=>MRd.low (Lo.below hby (Nat.le_trans hB (Nat.le_trans HB2.out.size HBX.out.size))) h) hx
              have HCX:=Lib.hid (HH.out x ux (d - 1) wr (Nat.le_trans hB (Nat.le_trans HB2.out.size (Nat.le_trans HBX.out.size hby.size))) hcx (by omega))
              have hw4:IntKind.i64.wrap ((d:Int) - 1) = ((d - 1:Nat):Int):=by rw [IntKind.wrap_i64];omega
              have HX:=Lib.hid hx
              have HBY:=Lib.hid hby
              clear hcx hx hby
              go_wp2_with (go_at_call 85;refine HCX.out.mono ?_;rintro e w9 ⟨cn,rfl,hcn,hcf,hb9⟩;have hw5:IntKind.i64.wrap ((M3:Int)+(cn:Int)) = ((M3+cn:Nat):Int):=(by unfold NB at hcn;rw [IntKind.wrap_i64];omega))
              refine ⟨⟨t+1,M3+cn,by go_num,by omega,by go_num,by unfold NB at hcn ⊢;omega,So3.next HSO3.out hM5 HX.out (fun h=>hcf h) hd1,HBY.out.trans (hb9.mono HBY.out.size)⟩,by simp [intOf];omega⟩
             ·have hM6:decide ((M3:Int)≤3000) = false:=by rw [decide_eq_false_iff_not];omega
              have hM7:decide (M3≤3000) = false:=by rw [decide_eq_false_iff_not];omega
              go_wp2
              exact ⟨⟨q+1,M3,by go_num,by omega,rfl,hM3B,So3.done HSO3.out HVV.out (fun h=>absurd h hM5),HBX.out.trans (hby.mono HBX.out.size)⟩,by simp [intOf];omega⟩
            ·obtain rfl:t = v.M.length:=by omega
             go_wp2
             exact ⟨⟨q+1,M3,by go_num,by omega,rfl,hM3B,So3.done HSO3.out HVV.out (fun _=>rfl),HBX.out.trans (hby.mono HBX.out.size)⟩,by simp [intOf];omega⟩
          ·have hM6:decide ((M:Int)≤3000) = false:=by rw [decide_eq_false_iff_not];omega
           have hM7:decide (M≤3000) = false:=by rw [decide_eq_false_iff_not];omega
           go_wp2
           exact ⟨⟨p+1,M,by go_num,by omega,rfl,hMB,HSO2.out q M HSOX.out HSs.out (fun h=>absurd h hM),HB3.out.trans (hbx.mono HB3.out.size)⟩,by simp [intOf];omega⟩
         ·obtain rfl:q = L.length:=by omega
          go_wp2
          exact ⟨⟨p+1,M,by go_num,by omega,rfl,hMB,HSO2.out _ M HSOX.out HSs.out (fun _=>rfl),HB3.out.trans (hbx.mono HB3.out.size)⟩,by simp [intOf];omega⟩
       ·have hV1:decide ((3000:Int) < (s.V.length:Int)) = true:=by rw [decide_eq_true_iff];omega
        have hV2:decide (3000 < s.V.length) = true:=by rw [decide_eq_true_iff];omega
        go_wp2
        go_ret
        exact ⟨10000,rfl,by unfold NB;omega,fun h=>by omega,HBW.out⟩
      ·have hK1:decide ((3000:Int) < (s.K.length:Int)) = true:=by rw [decide_eq_true_iff];omega
       have hK2:decide (3000 < s.K.length) = true:=by rw [decide_eq_true_iff];omega
       go_wp2
       go_ret
       exact ⟨10000,rfl,by unfold NB;omega,fun h=>by omega,HBW.out⟩
     ·have hN3:decide ((N:Int)≤3000) = false:=by rw [decide_eq_false_iff_not];omega
      have hN4:decide (N≤3000) = false:=by rw [decide_eq_false_iff_not];omega
      go_wp2
      go_ret
      exact ⟨N,rfl,hNB,So1.done HSO.out (fun h=>absurd h hN) hd1,HBW.out⟩
    ·obtain rfl:p = m.F.length:=by omega
     go_wp2
     go_ret
     exact ⟨N,rfl,hNB,So1.done HSO.out (fun _=>rfl) hd1,HBW.out⟩
  ·have hfl:decide ((3000:Int) < (m.F.length:Int)) = true:=by rw [decide_eq_true_iff];omega
   have hfl2:decide (3000 < m.F.length) = true:=by rw [decide_eq_true_iff];omega
   clear hd0
   go_enter Tryz.func85,Tryz.ntmps85
   go_wp2
   go_ret
   exact ⟨10000,rfl,by unfold NB;omega,fun h=>by omega,LBD⟩
theorem count_any (B:Nat):∀ D,CountH B D
 | 0=>fun _ _ _ _ _ h _=>h.elim
 | D+1=>count_step (count_any B D)
theorem few_one (B D:Nat) (m:Mg) (u:Value) (d:Nat) (w:World) (hB:B≤w.heap.size) (hm:MRd B w D m u) (hd:d≤1000) :
  Calls Tryz.prog 56 #[.agg #[u],.int .i64 d] w fun e w'=>∃ r:Bool,e = .returned (.bool r)∧(r = true→Fit 3000 d m)∧Below w.heap.size w w':=by
 have X1:=heap_alloc_new w (.cells #[u] 31)
 have LBD:=below_new w (.cells #[u] 31)
 have HC:=Lib.hid (count_any B D m u d _ (Nat.le_trans hB LBD.size) (MRd.low (Lo.below LBD hB) hm) hd)
 clear hm
 have y0:=bx1 X1
 go_enter Tryz.func56,Tryz.ntmps56
 go_wp2_with fail
 refine HC.out.mono ?_
 rintro e w1 ⟨n,rfl,hn,hf,hb1⟩
 have HF:=Lib.hid hf
 clear hf
 go_wp2
 go_ret
 exact ⟨_,rfl,fun h=>by
  have h1:n≤3000:=by have h2:=of_decide_eq_true h;omega
  exact ⟨Nat.le_trans (HF.out h1).1 h1,(HF.out h1).2⟩,below_then LBD hb1⟩
theorem lit_row {w:World} {g B n size:Nat} {xs:List Value} {t:TypeId} {fr:Nat × Nat} (h:w.heap[g]? = some (.cells xs.toArray t fr)) (hl:xs.length = n * size) (hn:n≤1000000) (hB:g < B) (e:TypeId):Rd B w e size (.slice (some ⟨g,0,none⟩) n n) n xs:=by
 refine ⟨⟨some ⟨g,0,none⟩,n,rfl,⟨hl,Nat.le_refl _,by unfold maxLen;omega,by simp,fun ad ha _=>?_,fun ad ha k u hu=>?_⟩,fun ad ha _=>?_⟩,by omega⟩
 ·obtain rfl:=Option.some.inj ha
  exact box_lt h
 ·obtain rfl:=Option.some.inj ha
  rw [Addr.add_lit,Nat.zero_add,box_cell h]
  simpa using hu
 ·obtain rfl:=Option.some.inj ha
  exact hB
theorem msg_shape {b D:Nat} {w:World} {m:Mg} {x:Value} (h:MAt (Ow b w) D m [x]):∃ A c,x = .slice A m.F.length c:=by
 cases D with
 | zero=>exact h.elim
 | succ D =>
  obtain ⟨u,hu,xs,⟨hown,-⟩,-⟩:=h
  obtain rfl:x = u:=by simpa using hu
  obtain ⟨A,c,rfl,-⟩:=Sl.of_own hown
  exact ⟨A,c,rfl⟩
theorem rd_shape {B D:Nat} {w:World} {m:Mg} {x:Value} (h:MRd B w D m x):∃ A c,x = .slice A m.F.length c:=by
 cases D with
 | zero=>exact h.elim
 | succ D =>
  obtain ⟨u,hu,hl⟩:=h
  obtain rfl:x = u:=by simpa using hu
  obtain ⟨A,c,xs,rfl,-⟩:=hl.open_
  exact ⟨A,c,rfl⟩
theorem slot_shape {B D:Nat} {w:World} {s:So} {x y z:Value} (h:SAt' (Rd B w) D s [x,y,z]):∃ A1 c1 A2 c2,x = .int .i64 s.no∧y = .slice A1 s.K.length c1∧z = .slice A2 s.V.length c2:=by
 obtain ⟨u1,u2,hu,hk,hv⟩:=h
 simp only [List.cons.injEq,and_true] at hu
 obtain ⟨rfl,rfl,rfl⟩:=hu
 obtain ⟨A1,c1,_,rfl,-⟩:=hk.open_
 obtain ⟨A2,c2,_,rfl,-⟩:=hv.open_
 exact ⟨A1,c1,A2,c2,rfl,rfl,rfl⟩
theorem own_rd {b D:Nat} {w:World} {m:Mg} {x:Value} (h:MAt (Ow b w) D m [x]):MRd w.heap.size w D m x:=MAt.imp (fun e size v n xs h=>Rd.of_own e size v n xs h) D _ _ h
theorem rd_up {D:Nat} {w w':World} {m:Mg} {x:Value} (hb:Below w.heap.size w w') (h:MRd w.heap.size w D m x):MRd w'.heap.size w' D m x:=MRd.mono hb.size (MRd.low (Lo.below hb (Nat.le_refl _)) h)
theorem one_rd {D g:Nat} {w:World} {s:So} {x y z:Value} {t:TypeId} {fr:Nat × Nat} (hs:SAt' (Rd w.heap.size w) D s [x,y,z]) (h:w.heap[g]? = some (.cells #[x,y,z] t fr)):MRd w.heap.size w (D+1) (.mk [s]) (.slice (some ⟨g,0,none⟩) 1 1) :=
 ⟨_,rfl,[x,y,z],lit_row (xs:=[x,y,z]) h rfl (by decide) (box_lt h) _,Rows.single hs⟩
def Ap (b:Nat) (r:Option Nat) (w:World):RP:=fun e size v n xs=>w.ownsRow b e size v n xs∧(∀ k,v.ownBlock = some k→r≠some k)∧n≤10000000000000
theorem own_kept {w w':World} {b:Nat} {e:TypeId} {size:Nat} {v:Value} {n:Nat} {xs:List Value} (h:w.ownsRow b e size v n xs) (hk:∀ k,v.ownBlock = some k→k < w.heap.size→w'.heap[k]? = w.heap[k]?):w'.ownsRow b e size v n xs:=by
 rcases h with ⟨hl,⟨rfl,rfl⟩ | ⟨g,cap,cur,rfl,h1,h2,h3⟩⟩
 ·exact ⟨hl,.inl ⟨rfl,rfl⟩⟩
 ·exact ⟨hl,.inr ⟨g,cap,cur,rfl,h1,(hk g rfl (box_lt h2)).trans h2,h3⟩⟩
theorem own_blk {w:World} {b:Nat} {e:TypeId} {size:Nat} {v:Value} {n:Nat} {xs:List Value} (h:w.ownsRow b e size v n xs) (k:Nat) (hk:v.ownBlock = some k):b≤k∧k < w.heap.size:=by
 rcases h with ⟨hl,⟨rfl,rfl⟩ | ⟨g,cap,cur,rfl,h1,h2,h3⟩⟩
 ·simp [Value.ownBlock] at hk
 ·simp only [Value.ownBlock,Option.some.injEq] at hk
  subst hk
  exact ⟨h1,box_lt h2⟩
theorem Ap.ow {b:Nat} {r:Option Nat} {w:World} (e:TypeId) (size:Nat) (v:Value) (n:Nat) (xs:List Value) (h:Ap b r w e size v n xs):Ow b w e size v n xs:=⟨h.1,h.2.2⟩
theorem Ap.of {b b':Nat} {r:Option Nat} {w:World} (hb:b≤b') (hr:∀ k,r = some k→k < b') (e:TypeId) (size:Nat) (v:Value) (n:Nat) (xs:List Value) (h:Ow b' w e size v n xs):Ap b r w e size v n xs :=
 ⟨own_less h.1 hb,fun k hk e=>by have:=(own_blk h.1 k hk).1;have:=hr k e;omega,h.2⟩
theorem Ap.on {b:Nat} {r:Option Nat} {w w':World} (hb:Below w.heap.size w w') (e:TypeId) (size:Nat) (v:Value) (n:Nat) (xs:List Value) (h:Ap b r w e size v n xs):Ap b r w' e size v n xs :=
 ⟨own_kept h.1 fun k _ hk=>hb.block k hk,h.2⟩
theorem Ap.grown {b g:Nat} {r:Option Nat} {w w':World} (hg:w.grownBy w' r) (hn:r = some g∨w.heap.size≤g) (e:TypeId) (size:Nat) (v:Value) (n:Nat) (xs:List Value) (h:Ap b r w e size v n xs):Ap b (some g) w' e size v n xs:=by
 refine ⟨own_kept h.1 fun k hk hlt=>hg.block k hlt fun e=>h.2.1 k hk e.symm,fun k hk e=>?_,h.2.2⟩
 obtain rfl:=Option.some.inj e
 rcases hn with hn | hn
 ·exact h.2.1 g hk hn
 ·have:=(own_blk h.1 g hk).2
  omega
theorem Ap.box {b g:Nat} {r:Option Nat} {w w':World} (hg:w.grownBy w' (some g)) (hgb:g < b) (e:TypeId) (size:Nat) (v:Value) (n:Nat) (xs:List Value) (h:Ap b r w e size v n xs):Ap b r w' e size v n xs :=
 ⟨own_kept h.1 fun k hk hlt=>hg.block k hlt fun e=>by have:=(own_blk h.1 k hk).1;injection e with e;omega,h.2⟩
abbrev EC (α:Type):=RP→α→List Value→Prop
def Mono {α:Type} (C:EC α):Prop:=∀ {R R':RP},(∀ e size v n xs,R e size v n xs→R' e size v n xs)→∀ a cs,C R a cs→C R' a cs
theorem mono_m (d:Nat):Mono fun R=>MAt R d:=fun h a cs=>MAt.imp h d a cs
theorem mono_v (d:Nat):Mono fun R=>VAt R d:=fun h a cs=>vAt.imp h (fun m cs=>MAt.imp h d m cs) a cs
theorem mono_s (d:Nat):Mono fun R=>SAt' R d:=fun h a cs=>sAt.imp h (fun m cs=>MAt.imp h d m cs) a cs
structure Grow {α:Type} (C:EC α) (e:TypeId) (size b:Nat) (w:World) (v:Value) (l:List α) (xs:List Value):Prop where
 own:w.ownsRow b e size v l.length xs
 rows:Rows (C (Ap b v.ownBlock w)) l xs
section
variable {α:Type} {C:EC α} {e:TypeId} {size b:Nat} {w w':World} {v:Value} {l:List α} {xs:List Value}
theorem Grow.nil (C:EC α) (e:TypeId) (size b:Nat) (w:World):Grow C e size b w (.slice none 0 0) [] []:=⟨World.ownsRow_nil _ _ _ _,rfl⟩
theorem Grow.on (hC:Mono C) (h:Grow C e size b w v l xs) (hb:Below w.heap.size w w'):Grow C e size b w' v l xs :=
 ⟨own_hi h.own (hi_below b hb),h.rows.imp (hC (Ap.on hb))⟩
theorem Grow.box (hC:Mono C) (h:Grow C e size b w v l xs) {g:Nat} (hg:w.grownBy w' (some g)) (hgb:g < b):Grow C e size b w' v l xs :=
 ⟨own_hi h.own (hi_grown hg hgb),h.rows.imp (hC (Ap.box hg hgb))⟩
theorem Grow.less (hC:Mono C) (h:Grow C e size b w v l xs) {b':Nat} (hb:b'≤b):Grow C e size b' w v l xs :=
 ⟨own_less h.own hb,h.rows.imp (hC fun e size v n xs h=>⟨own_less h.1 hb,h.2⟩)⟩
theorem Grow.lt (h:Grow C e size b w v l xs) (k:Nat) (hk:v.ownBlock = some k):k < w.heap.size:=(own_blk h.own k hk).2
theorem Grow.app (hC:Mono C) (h:Grow C e size b w v l xs) {a:α} {cs:List Value} {b':Nat} (hbb:b≤b') (hv:∀ k,v.ownBlock = some k→k < b') (ha:C (Ow b' w) a cs) {g cap:Nat}
  (hrow:w'.ownsRow b e size (.slice (some ⟨g,0,none⟩) (l.length+1) cap) (l.length+1) (xs++cs)) (hg:w.grownBy w' v.ownBlock) (hat:v.ownBlock = some g∨w.heap.size≤g):Grow C e size b w' (.slice (some ⟨g,0,none⟩) (l.length+1) cap) (l++[a]) (xs++cs) :=
 ⟨by rw [List.length_append];exact hrow,(h.rows.imp (hC (Ap.grown hg hat))).append (Rows.single (hC (Ap.grown hg hat) _ _ (hC (Ap.of hbb hv) _ _ ha)))⟩
theorem Grow.ow (hC:Mono C) (h:Grow C e size b w v l xs) (hl:l.length≤10000000000000):LsAt (Ow b w) e size (C (Ow b w)) l v:=⟨xs,⟨h.own,hl⟩,h.rows.imp (hC Ap.ow)⟩
end
theorem one_msg_ow {b:Nat} {w:World} {d:Nat} {m:Mg} {x:Value} (h:MAt (Ow b w) d m [x]):∀ u∈[x],u.oneCell' = true:=MAt.oneO m [x] h
theorem cell3 {w:World} {g:Nat} {a b c:Value} {t:TypeId} (h:w.heap[g]? = some (.cells #[a,b,c] t (0,0))) (x:Value) :
  (w.setCell ⟨g,2,none⟩ x).heap[g]? = some (.cells #[a,b,x] t (0,0))∧w.grownBy (w.setCell ⟨g,2,none⟩ x) (some g) :=
 ⟨heap_setCell_same w g 2 #[a,b,c] t x h,rfl,rfl,rfl,by simp,fun k _ hk=>heap_setCell_other _ ⟨g,2,none⟩ k _ (fun e=>hk (by simp [e]))⟩
theorem box_far {w w':World} {g:Nat} {t:TypeId} {cs:Array Value} {fr:Nat × Nat} {v:Value} {b e size n:Nat} {xs:List Value} (X:w.heap[g]? = some (.cells cs t fr)) (hg:w.grownBy w' v.ownBlock) (hown:w.ownsRow b e size v n xs) (hlt:g < b):w'.heap[g]? = some (.cells cs t fr) :=
 (hg.block g (box_lt X) fun e=>by have:=(own_blk hown g e.symm).1;omega).trans X
theorem below_row {w w':World} {v:Value} {b e size n B:Nat} {xs:List Value} (hg:w.grownBy w' v.ownBlock) (hown:w.ownsRow b e size v n xs) (hB:B≤b) (hs:B≤w.heap.size):Below B w w' :=
 ⟨hg.os,hg.tape,hg.output,hg.size,fun k hk=>hg.block k (by omega) fun e=>by have:=(own_blk hown k e.symm).1;omega⟩
theorem take_snoc {α:Type} {l:List α} {k:Nat} {a:α} (h:l[k]? = some a):l.take k++[a] = l.take (k+1):=by rw [List.take_add_one,h];rfl
theorem cell1 {w:World} {g:Nat} {a:Value} {t:TypeId} (h:w.heap[g]? = some (.cells #[a] t (0,0))) (x:Value) :
  (w.setCell ⟨g,0,none⟩ x).heap[g]? = some (.cells #[x] t (0,0))∧w.grownBy (w.setCell ⟨g,0,none⟩ x) (some g) :=
 ⟨heap_setCell_same w g 0 #[a] t x h,rfl,rfl,rfl,by simp,fun k _ hk=>heap_setCell_other _ ⟨g,0,none⟩ k _ (fun e=>hk (by simp [e]))⟩
end Go.Proofs.YtckcojkpghiclaaGreatDoor.T9
namespace Go.Proofs.YtckcojkpghiclaaGreatDoor.T9
set_option maxRecDepth 100000
open Go.RowKit
def RSameH (B d:Nat):Prop:=∀ (a b:Mg) (u1 u2:Value) (w:World),B≤w.heap.size→MRd B w d a u1→MRd B w d b u2→Calls Tryz.prog 20 #[.agg #[u1],.agg #[u2]] w fun e w'=>e = .returned (.bool (eqB a b))∧Below w.heap.size w w'
theorem vAt.parts {R:RP} {G:Mg→List Value→Prop} {v:Vl'} {x y z:Value} (h:vAt R G v [x,y,z]):x = .int .i64 v.n∧y = .string (tx v.s)∧LsAt R 31 1 G v.M z:=by
 obtain ⟨u,hu,hl⟩:=h
 simp only [List.cons.injEq,and_true] at hu
 obtain ⟨rfl,rfl,rfl⟩:=hu
 exact ⟨rfl,rfl,hl⟩
theorem sAt.parts {R:RP} {G:Mg→List Value→Prop} {s:So} {x y z:Value} (h:sAt R G s [x,y,z]):x = .int .i64 s.no∧LsAt R 81 3 (vAt R G) s.K y∧LsAt R 81 3 (vAt R G) s.V z:=by
 obtain ⟨u1,u2,hu,h1,h2⟩:=h
 simp only [List.cons.injEq,and_true] at hu
 obtain ⟨rfl,rfl,rfl⟩:=hu
 exact ⟨rfl,h1,h2⟩
def Q4 (p q r t:Addr) (a b c d:Value) (w:World):Prop:=w.cell? p = some a∧w.cell? q = some b∧w.cell? r = some c∧w.cell? t = some d
theorem Q4.on {p q r t:Addr} {a b c d:Value} {w w':World} (h:Q4 p q r t a b c d w) (hb:Below w.heap.size w w'):Q4 p q r t a b c d w':=⟨cell_on hb h.1,cell_on hb h.2.1,cell_on hb h.2.2.1,cell_on hb h.2.2.2⟩
set_option maxRecDepth 1000000 in
set_option maxHeartbeats 8000000 in
theorem vals_any {B d:Nat} (H:RSameH B d) (l m:List Vl') (u1 u2:Value) (w:World) (hB:B≤w.heap.size) (hl:LsAt (Rd B w) 81 3 (VAt (Rd B w) d) l u1) (hm:LsAt (Rd B w) 81 3 (VAt (Rd B w) d) m u2) :
  Calls Tryz.prog 29 #[u1,u2] w fun e w'=>e = .returned (.bool (eqB l m))∧Below w.heap.size w w':=by
 obtain ⟨A1,d1,xs1,rfl,hs1,hb1,hr1,hn1⟩:=hl.open_
 obtain ⟨A2,d2,xs2,rfl,hs2,hb2,hr2,hn2⟩:=hm.open_
 have HS1:=Lib.hid hs1
 have HR1:=Lib.hid hr1
 have HB1:=Lib.hid hb1
 have HS2:=Lib.hid hs2
 have HR2:=Lib.hid hr2
 have HB2:=Lib.hid hb2
 have HH:=Lib.hid H
 clear hs1 hr1 hs2 hr2 hl hm hb1 hb2 H
 by_cases hlen:l.length = m.length
 ·have HLEN:=Lib.hid hlen
  rw [← hlen]
  clear hlen
  go_enter Tryz.func29,Tryz.ntmps29
  go_wp2
  go_loopw [5,6,7] (fun i j r wr=>∃ k:Nat,i = .int .i64 k∧k≤l.length∧l.take k = m.take k∧Below w.heap.size w wr) (fun i _ _ _=>l.length - (intOf i).toNat)
  case atStart=>exact ⟨0,rfl,by omega,rfl,Below.refl _ _⟩
  case round =>
   obtain ⟨k,rfl,hk,htk,hbw⟩:=hrel
   have HTK:=Lib.hid htk
   have HBW:=Lib.hid hbw
   clear htk
   by_cases hlt:k < l.length
   ·have hlt2:k < m.length:=by rw [← HLEN.out];exact hlt
    obtain ⟨a,ha⟩:∃ a,l[k]? = some a:=⟨_,List.getElem?_eq_getElem hlt⟩
    obtain ⟨b,hb⟩:∃ b,m[k]? = some b:=⟨_,List.getElem?_eq_getElem hlt2⟩
    obtain ⟨ad1,x1,y1,z1,rfl,hg1,hc1,p0,p1,p2⟩:=row3 vAt.len (sl_low HS1.out HB1.out (Lo.below hbw hB)) (HR1.out.imp fun a cs h=>VRd.low (Lo.below hbw hB) h) ha
    obtain ⟨ad2,x2,y2,z2,rfl,hg2,hc2,q0,q1,q2⟩:=row3 vAt.len (sl_low HS2.out HB2.out (Lo.below hbw hB)) (HR2.out.imp fun a cs h=>VRd.low (Lo.below hbw hB) h) hb
    obtain ⟨rfl,rfl,hla⟩:=hc1.parts
    obtain ⟨rfl,rfl,hlb⟩:=hc2.parts
    obtain ⟨B1,e1,ys1,rfl,hsa,hba,hra,hna⟩:=hla.open_
    obtain ⟨B2,e2,ys2,rfl,hsb,hbb,hrb,hnb⟩:=hlb.open_
    have HSA:=Lib.hid hsa
    have HBA:=Lib.hid hba
    have HRA:=Lib.hid hra
    have HSB:=Lib.hid hsb
    have HBB:=Lib.hid hbb
    have HRB:=Lib.hid hrb
    have HA:=Lib.hid ha
    have HBv:=Lib.hid hb
    have HNE:Hid (¬ a = b→eqB l m = false):=Lib.hid (fun h=>eqB_no (eq_ne_at ha hb h))
    clear hc1 hc2 hla hlb hsa hba hra hsb hbb hrb ha hb hbw hlt2
    by_cases hn:a.n = b.n
    ·have hnq:(a.n != b.n) = false:=by simp [hn]
     by_cases hs:a.s = b.s
     ·have hsq:(!((tx a.s).toList == (tx b.s).toList)) = false:=by rw [hs,beq_self_eq_true];rfl
      by_cases hl:a.M.length = b.M.length
      ·have hlq:((a.M.length:Int) != (b.M.length:Int)) = false:=by rw [hl];exact bne_self_eq_false _
       have HL:=Lib.hid hl
       have HN:=Lib.hid hn
       have HSs:=Lib.hid hs
       clear hn hs hl
       go_wp2_with fail
       go_quiet (fail)
       have hb1:Below wr.heap.size wr (wr.drewN nq):=below_draws (Below.refl _ _) nq
       have r1:=cell_on hb1 p2
       have r2:=cell_on hb1 q2
       have HBW1:=Lib.hid (HBW.out.trans (hb1.mono HBW.out.size))
       have HBQ:=Lib.hid hb1
       obtain ⟨W1,hW1⟩:∃ W,W = wr.drewN nq:=⟨_,rfl⟩
       rw [← hW1] at r1 r2 HBW1 HBQ ⊢
       clear p0 p1 p2 q0 q1 q2 hW1 hb1
       go_wp2
       go_loopw [6,7] (fun j r wx=>∃ t:Nat,j = .int .i64 t∧t≤a.M.length∧a.M.take t = b.M.take t∧Below W1.heap.size W1 wx) (fun j _ _=>a.M.length - (intOf j).toNat)
       case atStart=>exact ⟨0,rfl,by omega,rfl,Below.refl _ _⟩
       case round =>
        obtain ⟨t,rfl,ht,htt,hbx⟩:=hrel
        have HTT:=Lib.hid htt
        have p2:=cell_on hbx r1
        have q2:=cell_on hbx r2
        have HB3:=Lib.hid (HBW1.out.trans (hbx.mono HBW1.out.size))
        clear htt
        by_cases htl:t < a.M.length
        ·have htl2:t < b.M.length:=by have:=HL.out;omega
         obtain ⟨x,hx⟩:∃ x,a.M[t]? = some x:=⟨_,List.getElem?_eq_getElem htl⟩
         obtain ⟨y,hy⟩:∃ y,b.M[t]? = some y:=⟨_,List.getElem?_eq_getElem htl2⟩
         have hlo:=Lo.below (HBQ.out.trans (hbx.mono HBQ.out.size)) (Nat.le_trans hB HBW.out.size)
         obtain ⟨am1,ux,rfl,hga1,hcx,c0⟩:=row1 MAt.len (sl_low HSA.out HBA.out hlo) (HRA.out.imp fun a cs h=>MRd.low hlo h) hx
         obtain ⟨am2,uy,rfl,hga2,hcy,c1⟩:=row1 MAt.len (sl_low HSB.out HBB.out hlo) (HRB.out.imp fun a cs h=>MRd.low hlo h) hy
         have HC:=Lib.hid (HH.out x y ux uy wr.drew (Nat.le_trans hB HB3.out.size) (MRd.low (Lo.below (Below.refl _ _).drew (Nat.le_trans hB HB3.out.size)) hcx) (MRd.low (Lo.below (Below.refl _ _).drew (Nat.le_trans hB HB3.out.size)) hcy))
         have HX:=Lib.hid hx
         have HY:=Lib.hid hy
         have HBX:=Lib.hid hbx
         obtain ⟨r,hr⟩:∃ r,eqB x y = r:=⟨_,rfl⟩
         rw [hr] at HC
         have HRR:=Lib.hid hr
         have hS:Q4 ⟨(ad1.add (k * 3)).block,(ad1.add (k * 3)).off+2,none⟩ ⟨(ad2.add (k * 3)).block,(ad2.add (k * 3)).off+2,none⟩ (am1.add t) (am2.add t) (.slice (some am1) a.M.length e1) (.slice (some am2) b.M.length e2) ux uy wr.drew:=⟨p2,q2,c0,c1⟩
         clear hcx hcy hx hy hbx hr hlo
         go_wp2_with fail
         go_region_held3 (fun w'=>w'.cell? ⟨(ad1.add (k * 3)).block,(ad1.add (k * 3)).off+2,none⟩ = some (.slice (some am1) a.M.length e1)∧w'.cell? ⟨(ad2.add (k * 3)).block,(ad2.add (k * 3)).off+2,none⟩ = some (.slice (some am2) b.M.length e2)∧w'.cell? (am1.add t) = some ux∧w'.cell? (am2.add t) = some uy)
          (first | exact hS | exact hS.on h1 | go_keep)
          ((first
           | (go_at_call 20;refine HC.out.mono ?_;rintro e w9 ⟨rfl,h1⟩)
           | fail))
         have hb9:Below wr.heap.size wr w9:=(Below.refl _ _).drew.trans h1
         clear p2 q2 c0 c1
         cases r with
         | true =>
          go_wp2
          obtain rfl:=eqB_iff.1 HRR.out
          refine ⟨⟨t+1,?_,by omega,eq_take_next HX.out HY.out HTT.out,HBX.out.trans (hb9.mono HBX.out.size)⟩,?_⟩
          ·go_num
          ·simp [intOf];omega
         | false =>
          go_wp2
          go_ret
          have hne:¬ a = b:=fun e=>eq_ne_at HX.out HY.out (eqB_false HRR.out) (by rw [e])
          exact ⟨by rw [HNE.out hne];rfl,HB3.out.trans (hb9.mono HB3.out.size)⟩
        ·obtain rfl:t = a.M.length:=by omega
         have hM:a.M = b.M:=by
          have h:=HTT.out
          rwa [List.take_length,HL.out,List.take_length] at h
         have hab:a = b:=by
          obtain ⟨n1,s1,M1⟩:=a
          obtain ⟨n2,s2,M2⟩:=b
          have h1:=HN.out
          have h2:=HSs.out
          simp only at h1 h2 hM
          rw [h1,h2,hM]
         have HAB:=Lib.hid hab
         clear hM hab
         go_wp2
         refine ⟨⟨k+1,?_,by omega,eq_take_next HA.out (by rw [HAB.out];exact HBv.out) HTK.out,HB3.out⟩,?_⟩
         ·go_num
         ·simp [intOf];omega
      ·have hlq:((a.M.length:Int) != (b.M.length:Int)) = true:=by rw [bne_iff_ne];omega
       have he:=HNE.out (fun e=>hl (by rw [e]))
       clear hn hs hl
       go_wp2_with fail
       go_quiet (fail)
       go_wp2
       go_ret
       exact ⟨by rw [he];rfl,below_draws HBW.out _⟩
     ·have hsq:(!((tx a.s).toList == (tx b.s).toList)) = true:=by
       have h:((tx a.s).toList == (tx b.s).toList) = false:=by
        rw [beq_eq_false_iff_ne,ByteArray.toList_eq,ByteArray.toList_eq,tx_list,tx_list]
        exact hs
       rw [h];rfl
      have he:=HNE.out (fun e=>hs (by rw [e]))
      clear hn hs
      go_wp2_with fail
      go_quiet (fail)
      go_wp2
      go_ret
      exact ⟨by rw [he];rfl,below_draws HBW.out _⟩
    ·have hnq:(a.n != b.n) = true:=by simp [hn]
     have he:=HNE.out (fun e=>hn (by rw [e]))
     clear hn
     go_wp2_with fail
     go_quiet (fail)
     go_wp2
     go_ret
     exact ⟨by rw [he];rfl,below_draws HBW.out _⟩
   ·obtain rfl:k = l.length:=by omega
    have e:l = m:=by
     have h:=HTK.out
     rwa [List.take_length,HLEN.out,List.take_length] at h
    go_wp2
    go_ret
    exact ⟨by rw [eqB_yes e];rfl,hbw⟩
 ·have hne:((l.length:Int) == (m.length:Int)) = false:=by rw [beq_eq_false_iff_ne];omega
  have HE:=Lib.hid (eqB_no (fun e:l = m=>hlen (by rw [e])))
  go_enter Tryz.func29,Tryz.ntmps29
  go_wp2
  go_ret
  exact ⟨by rw [HE.out];rfl,Below.refl _ _⟩
theorem eqB_ne {x y:So} {l m:List So} {k:Nat} (hx:l[k]? = some x) (hy:m[k]? = some y) (h:¬ x = y):eqB l m = false:=eqB_no (eq_ne_at hx hy h)
set_option maxRecDepth 1000000 in
set_option maxHeartbeats 8000000 in
theorem rsame_step {B d:Nat} (H:RSameH B d):RSameH B (d+1):=by
 rintro a b u1 u2 w hB ⟨u,hu,hl⟩ ⟨u',hu',hm⟩
 simp only [List.cons.injEq,and_true] at hu hu'
 subst hu hu'
 obtain ⟨A1,d1,xs1,rfl,hs1,hb1,hr1,hn1⟩:=hl.open_
 obtain ⟨A2,d2,xs2,rfl,hs2,hb2,hr2,hn2⟩:=hm.open_
 obtain ⟨X1,X2,LBD⟩:=two_boxes w (.cells #[.slice A1 a.F.length d1] 31) (.cells #[.slice A2 b.F.length d2] 31)
 have HS1:=Lib.hid hs1
 have HR1:=Lib.hid hr1
 have HB1:=Lib.hid hb1
 have HS2:=Lib.hid hs2
 have HR2:=Lib.hid hr2
 have HB2:=Lib.hid hb2
 have HH:=Lib.hid H
 rw [eqB_msg]
 clear hs1 hr1 hs2 hr2 hl hm hb1 hb2 H
 by_cases hlen:a.F.length = b.F.length
 ·have HLEN:=Lib.hid hlen
  have hlq:((a.F.length:Int) != (b.F.length:Int)) = false:=by rw [hlen];exact bne_self_eq_false _
  clear hlen
  go_enter Tryz.func20,Tryz.ntmps20
  go_wp2
  obtain ⟨W0,hW0⟩:∃ W,W = (w.alloc (.cells #[.slice A1 a.F.length d1] 31)).alloc (.cells #[.slice A2 b.F.length d2] 31):=⟨_,rfl⟩
  rw [← hW0] at X1 X2 LBD ⊢
  clear hW0
  go_loopw [5,6,7] (fun i p q wr=>∃ k:Nat,i = .int .i64 k∧k≤a.F.length∧a.F.take k = b.F.take k∧Below W0.heap.size W0 wr) (fun i _ _ _=>a.F.length - (intOf i).toNat)
  case atStart=>exact ⟨0,rfl,by omega,rfl,Below.refl _ _⟩
  case round =>
   obtain ⟨k,rfl,hk,htk,hbw⟩:=hrel
   have HTK:=Lib.hid htk
   have HBW:=Lib.hid (LBD.trans (hbw.mono LBD.size))
   have HBX:=Lib.hid hbw
   have g1:=bx1 (box_on X1 hbw)
   have g2:=bx1 (box_on X2 hbw)
   clear htk
   by_cases hlt:k < a.F.length
   ·have hlt2:k < b.F.length:=by rw [← HLEN.out];exact hlt
    obtain ⟨x,ha⟩:∃ x,a.F[k]? = some x:=⟨_,List.getElem?_eq_getElem hlt⟩
    obtain ⟨y,hb⟩:∃ x,b.F[k]? = some x:=⟨_,List.getElem?_eq_getElem hlt2⟩
    obtain ⟨ad1,x1,k1,v1,rfl,hg1,hc1,p0,p1,p2⟩:=row3 sAt.len (sl_low HS1.out HB1.out (Lo.below HBW.out hB)) (HR1.out.imp fun a cs h=>SRd.low (Lo.below HBW.out hB) h) ha
    obtain ⟨ad2,x2,k2,v2,rfl,hg2,hc2,q0,q1,q2⟩:=row3 sAt.len (sl_low HS2.out HB2.out (Lo.below HBW.out hB)) (HR2.out.imp fun a cs h=>SRd.low (Lo.below HBW.out hB) h) hb
    obtain ⟨rfl,hk1,hv1⟩:=hc1.parts
    obtain ⟨rfl,hk2,hv2⟩:=hc2.parts
    have hB2:=Nat.le_trans hB HBW.out.size
    have HK:=Lib.hid (fun wx (hx:Below wr.heap.size wr wx)=>vals_any HH.out x.K y.K k1 k2 wx (Nat.le_trans hB2 hx.size) (hk1.low (Lo.below hx hB2) fun a cs h=>VRd.low (Lo.below hx hB2) h) (hk2.low (Lo.below hx hB2) fun a cs h=>VRd.low (Lo.below hx hB2) h))
    have HV:=Lib.hid (fun wx (hx:Below wr.heap.size wr wx)=>vals_any HH.out x.V y.V v1 v2 wx (Nat.le_trans hB2 hx.size) (hv1.low (Lo.below hx hB2) fun a cs h=>VRd.low (Lo.below hx hB2) h) (hv2.low (Lo.below hx hB2) fun a cs h=>VRd.low (Lo.below hx hB2) h))
    have HA:=Lib.hid ha
    have HBb:=Lib.hid hb
    have HEQ:=Lib.hid (eqB_slot x y)
    obtain ⟨rk,hrk⟩:∃ r,eqB x.K y.K = r:=⟨_,rfl⟩
    obtain ⟨rv,hrv⟩:∃ r,eqB x.V y.V = r:=⟨_,rfl⟩
    rw [hrk] at HK HEQ
    rw [hrv] at HV HEQ
    have L0:Below wr.heap.size wr wr.drew:=(Below.refl _ _).drew
    have hS1:Q4 ⟨w.heap.size,0,none⟩ ⟨w.heap.size+1,0,none⟩ ⟨(ad1.add (k * 3)).block,(ad1.add (k * 3)).off+1,none⟩ ⟨(ad2.add (k * 3)).block,(ad2.add (k * 3)).off+1,none⟩ (.slice (some ad1) a.F.length d1) (.slice (some ad2) b.F.length d2) k1 k2 wr.drew:=⟨g1,g2,p1,q1⟩
    clear hc1 hc2 hk1 hv1 hk2 hv2 ha hb hbw hrk hrv hB2
    go_wp2_with fail
    go_region_held3 (fun w'=>w'.cell? ⟨w.heap.size,0,none⟩ = some (.slice (some ad1) a.F.length d1)∧w'.cell? ⟨w.heap.size+1,0,none⟩ = some (.slice (some ad2) b.F.length d2)∧w'.cell? ⟨(ad1.add (k * 3)).block,(ad1.add (k * 3)).off+1,none⟩ = some k1∧w'.cell? ⟨(ad2.add (k * 3)).block,(ad2.add (k * 3)).off+1,none⟩ = some k2)
     (first | exact hS1 | exact Q4.on hS1 h6 | go_keep)
     ((first
      | (go_at_call 29;refine (HK.out _ L0).mono ?_;rintro e w6 ⟨rfl,h6⟩)
      | fail))
    have L6:=below_then L0 h6
    have p2':=cell_on L6 p2
    have q2':=cell_on L6 q2
    have g1':=cell_on L6 g1
    have g2':=cell_on L6 g2
    have p0':=cell_on L6 p0
    have q0':=cell_on L6 q0
    have L6d:Below wr.heap.size wr w6.drew:=L6.trans (Below.refl _ _).drew
    have hS2:Q4 ⟨w.heap.size,0,none⟩ ⟨w.heap.size+1,0,none⟩ ⟨(ad1.add (k * 3)).block,(ad1.add (k * 3)).off+2,none⟩ ⟨(ad2.add (k * 3)).block,(ad2.add (k * 3)).off+2,none⟩ (.slice (some ad1) a.F.length d1) (.slice (some ad2) b.F.length d2) v1 v2 w6.drew:=⟨g1',g2',p2',q2'⟩
    clear g1 g2 p0 p1 p2 q0 q1 q2 h6 L0
    go_wp2_with fail
    go_region_held3 (fun w'=>w'.cell? ⟨w.heap.size,0,none⟩ = some (.slice (some ad1) a.F.length d1)∧w'.cell? ⟨w.heap.size+1,0,none⟩ = some (.slice (some ad2) b.F.length d2)∧w'.cell? ⟨(ad1.add (k * 3)).block,(ad1.add (k * 3)).off+2,none⟩ = some v1∧w'.cell? ⟨(ad2.add (k * 3)).block,(ad2.add (k * 3)).off+2,none⟩ = some v2)
     (first | exact hS2 | exact Q4.on hS2 h7 | go_keep)
     ((first
      | (go_at_call 29;refine (HV.out _ L6d).mono ?_;rintro e w7 ⟨rfl,h7⟩)
      | fail))
    have L7:=below_then L6d h7
    have h67:Below w6.heap.size w6 w7:=(Below.refl _ _).drew.trans h7
    have p0:=cell_on h67 p0'
    have q0:=cell_on h67 q0'
    have g1:=cell_on h67 g1'
    have g2:=cell_on h67 g2'
    have hlt3:k < b.F.length:=by rw [← HLEN.out];exact hlt
    clear g1' g2' p0' q0' p2' q2' h7 h67 L6 L6d hS1 hS2
    cases rk with
    | false =>
     go_wp2_with fail
     go_quiet (fail)
     go_wp2
     go_ret
     have he:eqB x y = false:=by rw [HEQ.out];simp
     exact ⟨by rw [eqB_ne HA.out HBb.out (eqB_false he)];rfl,(HBW.out.trans (L7.mono HBW.out.size)).trans (below_draws (Below.refl _ _) _)⟩
    | true =>
     cases rv with
     | false =>
      go_wp2_with fail
      go_quiet (fail)
      go_wp2
      go_ret
      have he:eqB x y = false:=by rw [HEQ.out];simp
      exact ⟨by rw [eqB_ne HA.out HBb.out (eqB_false he)];rfl,(HBW.out.trans (L7.mono HBW.out.size)).trans (below_draws (Below.refl _ _) _)⟩
     | true =>
      by_cases hno:x.no = y.no
      ·have hq:(x.no != y.no) = false:=by simp [hno]
       have he:eqB x y = true:=by rw [HEQ.out];simp [hno]
       have HE:=Lib.hid he
       clear hno he
       go_wp2_with fail
       go_quiet (fail)
       go_wp2
       refine ⟨⟨k+1,?_,by omega,eq_take_next HA.out (by rw [eqB_iff.1 HE.out];exact HBb.out) HTK.out,(HBX.out.trans (L7.mono HBX.out.size)).trans (below_draws (Below.refl _ _) _)⟩,?_⟩
       ·go_num
       ·simp [intOf];omega
      ·have hq:(x.no != y.no) = true:=by simp [hno]
       have he:eqB x y = false:=by rw [HEQ.out];simp [hno]
       have HE:=Lib.hid he
       clear hno he
       go_wp2_with fail
       go_quiet (fail)
       go_wp2
       go_ret
       exact ⟨by rw [eqB_ne HA.out HBb.out (eqB_false HE.out)];rfl,(HBW.out.trans (L7.mono HBW.out.size)).trans (below_draws (Below.refl _ _) _)⟩
   ·obtain rfl:k = a.F.length:=by omega
    have e:a.F = b.F:=by
     have h:=HTK.out
     rwa [List.take_length,HLEN.out,List.take_length] at h
    have HE:=Lib.hid (eqB_yes e)
    clear e
    go_wp2
    go_ret
    exact ⟨by rw [HE.out];rfl,HBW.out⟩
 ·have hlq:((a.F.length:Int) != (b.F.length:Int)) = true:=by rw [bne_iff_ne];omega
  have HE:=Lib.hid (eqB_no (fun e:a.F = b.F=>hlen (by rw [e])))
  clear hlen
  go_enter Tryz.func20,Tryz.ntmps20
  go_wp2
  go_ret
  exact ⟨by rw [HE.out];rfl,LBD⟩
theorem rsame_any9 (B:Nat):∀ d,RSameH B d
 | 0=>fun _ _ _ _ _ _ h _=>h.elim
 | d+1=>rsame_step (rsame_any9 B d)
end Go.Proofs.YtckcojkpghiclaaGreatDoor.T9
