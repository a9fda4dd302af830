/-
 A slot that is got; a value that is less: value's Get and Less.
-/
import Derived.Test.YtckcojkpghiclaaGreatDoorTrSet
import Derived.BigQuiet
namespace Go.Proofs.YtckcojkpghiclaaGreatDoor.T9
set_option maxRecDepth 100000
open Go.RowKit
theorem results_pair {P:Program} {fn:Func} {p u:Tmp} {ty:TypeId} (h:fn.results = #[.cell p ty,.tmp u]) (tmps:Array Value) (w:World) (g:Nat) (t:TypeId) (cs:Array Value) (fr:Nat × Nat) (d:TypeDesc)
  (hp:tmps.getD p undef = .pointer (some ⟨g,0,none⟩)) (hg:w.heap[g]? = some (.cells cs t fr))
  (hu:P.underlying ty = some d) (hd:(match d with | .struct _ | .array _ _=>true | _=>false) = true) (hi:(P.info? ty).map (·.size) = some cs.size) :
  (results fn tmps).run P w = .ok (.tuple #[.agg cs,tmps.getD u undef]) w:=by
 have hp':tmps[p]?.getD undef = .pointer (some ⟨g,0,none⟩):=by simpa using hp
 simp [results,h,hp',asAddr,run_loadVar_row w g t ty cs fr d hg hu hd hi]
def lessV (a b:Vl'):Bool:=if a.n = b.n then Op.bytesLess a.s b.s else decide (a.n < b.n)
theorem below_app {w w':World} {B:Nat} {e:TypeId} {size:Nat} {v:Value} {n:Nat} {xs:List Value} (h:w.ownsRow B e size v n xs) (hg:w.grownBy w' v.ownBlock) (hs:B ≤ w.heap.size):Below B w w':=below_rows h hg hs
theorem lit_row {w:World} {g B n size:Nat} {xs:List Value} {t:TypeId} {fr:Nat × Nat} (h:w.heap[g]? = some (.cells xs.toArray t fr)) (hl:xs.length = n * size) (hn:n ≤ 1000000) (hB:g < B) (e:TypeId):Rd B w e size (.slice (some ⟨g,0,none⟩) n n) n xs:=by
 refine ⟨⟨some ⟨g,0,none⟩,n,rfl,⟨hl,Nat.le_refl _,by unfold maxLen; omega,by simp,fun ad ha _=>?_,fun ad ha k u hu=>?_⟩,fun ad ha _=>?_⟩,by omega⟩
 ·obtain rfl:=Option.some.inj ha
  exact box_lt h
 ·obtain rfl:=Option.some.inj ha
  rw [Addr.add_lit,Nat.zero_add,box_cell h]
  simpa using hu
 ·obtain rfl:=Option.some.inj ha
  exact hB
theorem msg_shape {b D:Nat} {w:World} {m:Mg} {x:Value} (h:MAt (Ow b w) D m [x]):∃ A c,x = .slice A m.F.length c:=by
 cases D with
 | zero=>exact h.elim
 | succ D =>
  obtain ⟨u,hu,xs,⟨hown,-⟩,-⟩:=h
  obtain rfl:x = u:=by simpa using hu
  obtain ⟨A,c,rfl,-⟩:=Sl.of_own hown
  exact ⟨A,c,rfl⟩
theorem rd_shape {B D:Nat} {w:World} {m:Mg} {x:Value} (h:MRd B w D m x):∃ A c,x = .slice A m.F.length c:=by
 cases D with
 | zero=>exact h.elim
 | succ D =>
  obtain ⟨u,hu,hl⟩:=h
  obtain rfl:x = u:=by simpa using hu
  obtain ⟨A,c,xs,rfl,-⟩:=hl.open_
  exact ⟨A,c,rfl⟩
theorem slot_shape {B D:Nat} {w:World} {s:So} {x y z:Value} (h:SAt' (Rd B w) D s [x,y,z]):∃ A1 c1 A2 c2,x = .int .i64 s.no ∧ y = .slice A1 s.K.length c1 ∧ z = .slice A2 s.V.length c2:=by
 obtain ⟨u1,u2,hu,hk,hv⟩:=h
 simp only [List.cons.injEq,and_true] at hu
 obtain ⟨rfl,rfl,rfl⟩:=hu
 obtain ⟨A1,c1,_,rfl,-⟩:=hk.open_
 obtain ⟨A2,c2,_,rfl,-⟩:=hv.open_
 exact ⟨A1,c1,A2,c2,rfl,rfl,rfl⟩
theorem own_rd {b D:Nat} {w:World} {m:Mg} {x:Value} (h:MAt (Ow b w) D m [x]):MRd w.heap.size w D m x:=MAt.imp (fun e size v n xs h=>Rd.of_own e size v n xs h) D _ _ h
theorem rd_up {D:Nat} {w w':World} {m:Mg} {x:Value} (hb:Below w.heap.size w w') (h:MRd w.heap.size w D m x):MRd w'.heap.size w' D m x:=MRd.mono hb.size (MRd.low (Lo.below hb (Nat.le_refl _)) h)
def RSameH (B d:Nat):Prop:=∀ (a b:Mg) (u1 u2:Value) (w:World),B ≤ w.heap.size → MRd B w d a u1 → MRd B w d b u2 → Calls Tryz.prog 20 #[.agg #[u1],.agg #[u2]] w fun e w'=>e = .returned (.bool (eqB a b)) ∧ Below w.heap.size w w'
theorem vAt.parts {R:RP} {G:Mg → List Value → Prop} {v:Vl'} {x y z:Value} (h:vAt R G v [x,y,z]):x = .int .i64 v.n ∧ y = .string (tx v.s) ∧ LsAt R 31 1 G v.M z:=by
 obtain ⟨u,hu,hl⟩:=h
 simp only [List.cons.injEq,and_true] at hu
 obtain ⟨rfl,rfl,rfl⟩:=hu
 exact ⟨rfl,rfl,hl⟩
theorem sAt.parts {R:RP} {G:Mg → List Value → Prop} {s:So} {x y z:Value} (h:sAt R G s [x,y,z]):x = .int .i64 s.no ∧ LsAt R 81 3 (vAt R G) s.K y ∧ LsAt R 81 3 (vAt R G) s.V z:=by
 obtain ⟨u1,u2,hu,h1,h2⟩:=h
 simp only [List.cons.injEq,and_true] at hu
 obtain ⟨rfl,rfl,rfl⟩:=hu
 exact ⟨rfl,h1,h2⟩
def Q4 (p q r t:Addr) (a b c d:Value) (w:World):Prop:=w.cell? p = some a ∧ w.cell? q = some b ∧ w.cell? r = some c ∧ w.cell? t = some d
theorem Q4.on {p q r t:Addr} {a b c d:Value} {w w':World} (h:Q4 p q r t a b c d w) (hb:Below w.heap.size w w'):Q4 p q r t a b c d w':=⟨cell_on hb h.1,cell_on hb h.2.1,cell_on hb h.2.2.1,cell_on hb h.2.2.2⟩
set_option maxRecDepth 1000000 in
set_option maxHeartbeats 8000000 in
theorem vals_any {B d:Nat} (H:RSameH B d) (l m:List Vl') (u1 u2:Value) (w:World) (hB:B ≤ w.heap.size) (hl:LsAt (Rd B w) 81 3 (VAt (Rd B w) d) l u1) (hm:LsAt (Rd B w) 81 3 (VAt (Rd B w) d) m u2) :
  Calls Tryz.prog 29 #[u1,u2] w fun e w'=>e = .returned (.bool (eqB l m)) ∧ Below w.heap.size w w':=by
 obtain ⟨A1,d1,xs1,rfl,hs1,hb1,hr1,hn1⟩:=hl.open_
 obtain ⟨A2,d2,xs2,rfl,hs2,hb2,hr2,hn2⟩:=hm.open_
 have HS1:=Lib.hid hs1
 have HR1:=Lib.hid hr1
 have HB1:=Lib.hid hb1
 have HS2:=Lib.hid hs2
 have HR2:=Lib.hid hr2
 have HB2:=Lib.hid hb2
 have HH:=Lib.hid H
 clear hs1 hr1 hs2 hr2 hl hm hb1 hb2 H
 by_cases hlen:l.length = m.length
 ·have HLEN:=Lib.hid hlen
  rw [← hlen]
  clear hlen
  go_enter Tryz.func29,Tryz.ntmps29
  go_wp2
  go_loopw [5,6,7] (fun i j r wr=>∃ k:Nat,i = .int .i64 k ∧ k ≤ l.length ∧ l.take k = m.take k ∧ Below w.heap.size w wr) (fun i _ _ _=>l.length - (intOf i).toNat)
  case atStart=>exact ⟨0,rfl,by omega,rfl,Below.refl _ _⟩
  case round =>
   obtain ⟨k,rfl,hk,htk,hbw⟩:=hrel
   have HTK:=Lib.hid htk
   have HBW:=Lib.hid hbw
   clear htk
   by_cases hlt:k < l.length
   ·have hlt2:k < m.length:=by rw [← HLEN.out]; exact hlt
    obtain ⟨a,ha⟩:∃ a,l[k]? = some a:=⟨_,List.getElem?_eq_getElem hlt⟩
    obtain ⟨b,hb⟩:∃ b,m[k]? = some b:=⟨_,List.getElem?_eq_getElem hlt2⟩
    obtain ⟨ad1,x1,y1,z1,rfl,hg1,hc1,p0,p1,p2⟩:=row3 vAt.len (sl_low HS1.out HB1.out (Lo.below hbw hB)) (HR1.out.imp fun a cs h=>VRd.low (Lo.below hbw hB) h) ha
    obtain ⟨ad2,x2,y2,z2,rfl,hg2,hc2,q0,q1,q2⟩:=row3 vAt.len (sl_low HS2.out HB2.out (Lo.below hbw hB)) (HR2.out.imp fun a cs h=>VRd.low (Lo.below hbw hB) h) hb
    obtain ⟨rfl,rfl,hla⟩:=hc1.parts
    obtain ⟨rfl,rfl,hlb⟩:=hc2.parts
    obtain ⟨B1,e1,ys1,rfl,hsa,hba,hra,hna⟩:=hla.open_
    obtain ⟨B2,e2,ys2,rfl,hsb,hbb,hrb,hnb⟩:=hlb.open_
    have HSA:=Lib.hid hsa
    have HBA:=Lib.hid hba
    have HRA:=Lib.hid hra
    have HSB:=Lib.hid hsb
    have HBB:=Lib.hid hbb
    have HRB:=Lib.hid hrb
    have HA:=Lib.hid ha
    have HBv:=Lib.hid hb
    have HNE:Hid (¬ a = b → eqB l m = false):=Lib.hid (fun h=>eqB_no (eq_ne_at ha hb h))
    clear hc1 hc2 hla hlb hsa hba hra hsb hbb hrb ha hb hbw hlt2
    by_cases hn:a.n = b.n
    ·have hnq:(a.n != b.n) = false:=by simp [hn]
     by_cases hs:a.s = b.s
     ·have hsq:(!((tx a.s).toList == (tx b.s).toList)) = false:=by rw [hs,beq_self_eq_true]; rfl
      by_cases hl:a.M.length = b.M.length
      ·have hlq:((a.M.length:Int) != (b.M.length:Int)) = false:=by rw [hl]; exact bne_self_eq_false _
       have HL:=Lib.hid hl
       have HN:=Lib.hid hn
       have HSs:=Lib.hid hs
       clear hn hs hl
       go_wp2_with fail
       go_quiet (fail)
       have hb1:Below wr.heap.size wr (wr.drewN nq):=below_draws (Below.refl _ _) nq
       have r1:=cell_on hb1 p2
       have r2:=cell_on hb1 q2
       have HBW1:=Lib.hid (HBW.out.trans (hb1.mono HBW.out.size))
       have HBQ:=Lib.hid hb1
       obtain ⟨W1,hW1⟩:∃ W,W = wr.drewN nq:=⟨_,rfl⟩
       rw [← hW1] at r1 r2 HBW1 HBQ ⊢
       clear p0 p1 p2 q0 q1 q2 hW1 hb1
       go_wp2
       go_loopw [6,7] (fun j r wx=>∃ t:Nat,j = .int .i64 t ∧ t ≤ a.M.length ∧ a.M.take t = b.M.take t ∧ Below W1.heap.size W1 wx) (fun j _ _=>a.M.length - (intOf j).toNat)
       case atStart=>exact ⟨0,rfl,by omega,rfl,Below.refl _ _⟩
       case round =>
        obtain ⟨t,rfl,ht,htt,hbx⟩:=hrel
        have HTT:=Lib.hid htt
        have p2:=cell_on hbx r1
        have q2:=cell_on hbx r2
        have HB3:=Lib.hid (HBW1.out.trans (hbx.mono HBW1.out.size))
        clear htt
        by_cases htl:t < a.M.length
        ·have htl2:t < b.M.length:=by have:=HL.out; omega
         obtain ⟨x,hx⟩:∃ x,a.M[t]? = some x:=⟨_,List.getElem?_eq_getElem htl⟩
         obtain ⟨y,hy⟩:∃ y,b.M[t]? = some y:=⟨_,List.getElem?_eq_getElem htl2⟩
         have hlo:=Lo.below (HBQ.out.trans (hbx.mono HBQ.out.size)) (Nat.le_trans hB HBW.out.size)
         obtain ⟨am1,ux,rfl,hga1,hcx,c0⟩:=row1 MAt.len (sl_low HSA.out HBA.out hlo) (HRA.out.imp fun a cs h=>MRd.low hlo h) hx
         obtain ⟨am2,uy,rfl,hga2,hcy,c1⟩:=row1 MAt.len (sl_low HSB.out HBB.out hlo) (HRB.out.imp fun a cs h=>MRd.low hlo h) hy
         have HC:=Lib.hid (HH.out x y ux uy wr.drew (Nat.le_trans hB HB3.out.size) (MRd.low (Lo.below (Below.refl _ _).drew (Nat.le_trans hB HB3.out.size)) hcx) (MRd.low (Lo.below (Below.refl _ _).drew (Nat.le_trans hB HB3.out.size)) hcy))
         have HX:=Lib.hid hx
         have HY:=Lib.hid hy
         have HBX:=Lib.hid hbx
         obtain ⟨r,hr⟩:∃ r,eqB x y = r:=⟨_,rfl⟩
         rw [hr] at HC
         have HRR:=Lib.hid hr
         have hS:Q4 ⟨(ad1.add (k * 3)).block,(ad1.add (k * 3)).off + 2,none⟩ ⟨(ad2.add (k * 3)).block,(ad2.add (k * 3)).off + 2,none⟩ (am1.add t) (am2.add t) (.slice (some am1) a.M.length e1) (.slice (some am2) b.M.length e2) ux uy wr.drew:=⟨p2,q2,c0,c1⟩
         clear hcx hcy hx hy hbx hr hlo
         go_wp2_with fail
         go_region_held3 (fun w'=>w'.cell? ⟨(ad1.add (k * 3)).block,(ad1.add (k * 3)).off + 2,none⟩ = some (.slice (some am1) a.M.length e1) ∧ w'.cell? ⟨(ad2.add (k * 3)).block,(ad2.add (k * 3)).off + 2,none⟩ = some (.slice (some am2) b.M.length e2) ∧ w'.cell? (am1.add t) = some ux ∧ w'.cell? (am2.add t) = some uy)
          (first | exact hS | exact hS.on h1 | go_keep)
          ((first
           | (go_at_call 20; refine HC.out.mono ?_; rintro e w9 ⟨rfl,h1⟩)
           | fail))
         have hb9:Below wr.heap.size wr w9:=(Below.refl _ _).drew.trans h1
         clear p2 q2 c0 c1
         cases r with
         | true =>
          go_wp2
          obtain rfl:=eqB_iff.1 HRR.out
          refine ⟨⟨t + 1,?_,by omega,eq_take_next HX.out HY.out HTT.out,HBX.out.trans (hb9.mono HBX.out.size)⟩,?_⟩
          ·go_num
          ·simp [intOf]; omega
         | false =>
          go_wp2
          go_ret
          have hne:¬ a = b:=fun e=>eq_ne_at HX.out HY.out (eqB_false HRR.out) (by rw [e])
          exact ⟨by rw [HNE.out hne]; rfl,HB3.out.trans (hb9.mono HB3.out.size)⟩
        ·obtain rfl:t = a.M.length:=by omega
         have hM:a.M = b.M:=by
          have h:=HTT.out
          rwa [List.take_length,HL.out,List.take_length] at h
         have hab:a = b:=by
          obtain ⟨n1,s1,M1⟩:=a
          obtain ⟨n2,s2,M2⟩:=b
          have h1:=HN.out
          have h2:=HSs.out
          simp only at h1 h2 hM
          rw [h1,h2,hM]
         have HAB:=Lib.hid hab
         clear hM hab
         go_wp2
         refine ⟨⟨k + 1,?_,by omega,eq_take_next HA.out (by rw [HAB.out]; exact HBv.out) HTK.out,HB3.out⟩,?_⟩
         ·go_num
         ·simp [intOf]; omega
      ·have hlq:((a.M.length:Int) != (b.M.length:Int)) = true:=by rw [bne_iff_ne]; omega
       have he:=HNE.out (fun e=>hl (by rw [e]))
       clear hn hs hl
       go_wp2_with fail
       go_quiet (fail)
       go_wp2
       go_ret
       exact ⟨by rw [he]; rfl,below_draws HBW.out _⟩
     ·have hsq:(!((tx a.s).toList == (tx b.s).toList)) = true:=by
       have h:((tx a.s).toList == (tx b.s).toList) = false:=by
        rw [beq_eq_false_iff_ne,ByteArray.toList_eq,ByteArray.toList_eq,tx_list,tx_list]
        exact hs
       rw [h]; rfl
      have he:=HNE.out (fun e=>hs (by rw [e]))
      clear hn hs
      go_wp2_with fail
      go_quiet (fail)
      go_wp2
      go_ret
      exact ⟨by rw [he]; rfl,below_draws HBW.out _⟩
    ·have hnq:(a.n != b.n) = true:=by simp [hn]
     have he:=HNE.out (fun e=>hn (by rw [e]))
     clear hn
     go_wp2_with fail
     go_quiet (fail)
     go_wp2
     go_ret
     exact ⟨by rw [he]; rfl,below_draws HBW.out _⟩
   ·obtain rfl:k = l.length:=by omega
    have e:l = m:=by
     have h:=HTK.out
     rwa [List.take_length,HLEN.out,List.take_length] at h
    go_wp2
    go_ret
    exact ⟨by rw [eqB_yes e]; rfl,hbw⟩
 ·have hne:((l.length:Int) == (m.length:Int)) = false:=by rw [beq_eq_false_iff_ne]; omega
  have HE:=Lib.hid (eqB_no (fun e:l = m=>hlen (by rw [e])))
  go_enter Tryz.func29,Tryz.ntmps29
  go_wp2
  go_ret
  exact ⟨by rw [HE.out]; rfl,Below.refl _ _⟩
theorem eqB_ne {x y:So} {l m:List So} {k:Nat} (hx:l[k]? = some x) (hy:m[k]? = some y) (h:¬ x = y):eqB l m = false:=eqB_no (eq_ne_at hx hy h)
set_option maxRecDepth 1000000 in
set_option maxHeartbeats 8000000 in
theorem rsame_step {B d:Nat} (H:RSameH B d):RSameH B (d + 1):=by
 rintro a b u1 u2 w hB ⟨u,hu,hl⟩ ⟨u',hu',hm⟩
 simp only [List.cons.injEq,and_true] at hu hu'
 subst hu hu'
 obtain ⟨A1,d1,xs1,rfl,hs1,hb1,hr1,hn1⟩:=hl.open_
 obtain ⟨A2,d2,xs2,rfl,hs2,hb2,hr2,hn2⟩:=hm.open_
 obtain ⟨X1,X2,LBD⟩:=two_boxes w (.cells #[.slice A1 a.F.length d1] 31) (.cells #[.slice A2 b.F.length d2] 31)
 have HS1:=Lib.hid hs1
 have HR1:=Lib.hid hr1
 have HB1:=Lib.hid hb1
 have HS2:=Lib.hid hs2
 have HR2:=Lib.hid hr2
 have HB2:=Lib.hid hb2
 have HH:=Lib.hid H
 rw [eqB_msg]
 clear hs1 hr1 hs2 hr2 hl hm hb1 hb2 H
 by_cases hlen:a.F.length = b.F.length
 ·have HLEN:=Lib.hid hlen
  have hlq:((a.F.length:Int) != (b.F.length:Int)) = false:=by rw [hlen]; exact bne_self_eq_false _
  clear hlen
  go_enter Tryz.func20,Tryz.ntmps20
  go_wp2
  obtain ⟨W0,hW0⟩:∃ W,W = (w.alloc (.cells #[.slice A1 a.F.length d1] 31)).alloc (.cells #[.slice A2 b.F.length d2] 31):=⟨_,rfl⟩
  rw [← hW0] at X1 X2 LBD ⊢
  clear hW0
  go_loopw [5,6,7] (fun i p q wr=>∃ k:Nat,i = .int .i64 k ∧ k ≤ a.F.length ∧ a.F.take k = b.F.take k ∧ Below W0.heap.size W0 wr) (fun i _ _ _=>a.F.length - (intOf i).toNat)
  case atStart=>exact ⟨0,rfl,by omega,rfl,Below.refl _ _⟩
  case round =>
   obtain ⟨k,rfl,hk,htk,hbw⟩:=hrel
   have HTK:=Lib.hid htk
   have HBW:=Lib.hid (LBD.trans (hbw.mono LBD.size))
   have HBX:=Lib.hid hbw
   have g1:=bx1 (box_on X1 hbw)
   have g2:=bx1 (box_on X2 hbw)
   clear htk
   by_cases hlt:k < a.F.length
   ·have hlt2:k < b.F.length:=by rw [← HLEN.out]; exact hlt
    obtain ⟨x,ha⟩:∃ x,a.F[k]? = some x:=⟨_,List.getElem?_eq_getElem hlt⟩
    obtain ⟨y,hb⟩:∃ x,b.F[k]? = some x:=⟨_,List.getElem?_eq_getElem hlt2⟩
    obtain ⟨ad1,x1,k1,v1,rfl,hg1,hc1,p0,p1,p2⟩:=row3 sAt.len (sl_low HS1.out HB1.out (Lo.below HBW.out hB)) (HR1.out.imp fun a cs h=>SRd.low (Lo.below HBW.out hB) h) ha
    obtain ⟨ad2,x2,k2,v2,rfl,hg2,hc2,q0,q1,q2⟩:=row3 sAt.len (sl_low HS2.out HB2.out (Lo.below HBW.out hB)) (HR2.out.imp fun a cs h=>SRd.low (Lo.below HBW.out hB) h) hb
    obtain ⟨rfl,hk1,hv1⟩:=hc1.parts
    obtain ⟨rfl,hk2,hv2⟩:=hc2.parts
    have hB2:=Nat.le_trans hB HBW.out.size
    have HK:=Lib.hid (fun wx (hx:Below wr.heap.size wr wx)=>vals_any HH.out x.K y.K k1 k2 wx (Nat.le_trans hB2 hx.size) (hk1.low (Lo.below hx hB2) fun a cs h=>VRd.low (Lo.below hx hB2) h) (hk2.low (Lo.below hx hB2) fun a cs h=>VRd.low (Lo.below hx hB2) h))
    have HV:=Lib.hid (fun wx (hx:Below wr.heap.size wr wx)=>vals_any HH.out x.V y.V v1 v2 wx (Nat.le_trans hB2 hx.size) (hv1.low (Lo.below hx hB2) fun a cs h=>VRd.low (Lo.below hx hB2) h) (hv2.low (Lo.below hx hB2) fun a cs h=>VRd.low (Lo.below hx hB2) h))
    have HA:=Lib.hid ha
    have HBb:=Lib.hid hb
    have HEQ:=Lib.hid (eqB_slot x y)
    obtain ⟨rk,hrk⟩:∃ r,eqB x.K y.K = r:=⟨_,rfl⟩
    obtain ⟨rv,hrv⟩:∃ r,eqB x.V y.V = r:=⟨_,rfl⟩
    rw [hrk] at HK HEQ
    rw [hrv] at HV HEQ
    have L0:Below wr.heap.size wr wr.drew:=(Below.refl _ _).drew
    have hS1:Q4 ⟨w.heap.size,0,none⟩ ⟨w.heap.size + 1,0,none⟩ ⟨(ad1.add (k * 3)).block,(ad1.add (k * 3)).off + 1,none⟩ ⟨(ad2.add (k * 3)).block,(ad2.add (k * 3)).off + 1,none⟩ (.slice (some ad1) a.F.length d1) (.slice (some ad2) b.F.length d2) k1 k2 wr.drew:=⟨g1,g2,p1,q1⟩
    clear hc1 hc2 hk1 hv1 hk2 hv2 ha hb hbw hrk hrv hB2
    go_wp2_with fail
    go_region_held3 (fun w'=>w'.cell? ⟨w.heap.size,0,none⟩ = some (.slice (some ad1) a.F.length d1) ∧ w'.cell? ⟨w.heap.size + 1,0,none⟩ = some (.slice (some ad2) b.F.length d2) ∧ w'.cell? ⟨(ad1.add (k * 3)).block,(ad1.add (k * 3)).off + 1,none⟩ = some k1 ∧ w'.cell? ⟨(ad2.add (k * 3)).block,(ad2.add (k * 3)).off + 1,none⟩ = some k2)
     (first | exact hS1 | exact Q4.on hS1 h6 | go_keep)
     ((first
      | (go_at_call 29; refine (HK.out _ L0).mono ?_; rintro e w6 ⟨rfl,h6⟩)
      | fail))
    have L6:=below_then L0 h6
    have p2':=cell_on L6 p2
    have q2':=cell_on L6 q2
    have g1':=cell_on L6 g1
    have g2':=cell_on L6 g2
    have p0':=cell_on L6 p0
    have q0':=cell_on L6 q0
    have L6d:Below wr.heap.size wr w6.drew:=L6.trans (Below.refl _ _).drew
    have hS2:Q4 ⟨w.heap.size,0,none⟩ ⟨w.heap.size + 1,0,none⟩ ⟨(ad1.add (k * 3)).block,(ad1.add (k * 3)).off + 2,none⟩ ⟨(ad2.add (k * 3)).block,(ad2.add (k * 3)).off + 2,none⟩ (.slice (some ad1) a.F.length d1) (.slice (some ad2) b.F.length d2) v1 v2 w6.drew:=⟨g1',g2',p2',q2'⟩
    clear g1 g2 p0 p1 p2 q0 q1 q2 h6 L0
    go_wp2_with fail
    go_region_held3 (fun w'=>w'.cell? ⟨w.heap.size,0,none⟩ = some (.slice (some ad1) a.F.length d1) ∧ w'.cell? ⟨w.heap.size + 1,0,none⟩ = some (.slice (some ad2) b.F.length d2) ∧ w'.cell? ⟨(ad1.add (k * 3)).block,(ad1.add (k * 3)).off + 2,none⟩ = some v1 ∧ w'.cell? ⟨(ad2.add (k * 3)).block,(ad2.add (k * 3)).off + 2,none⟩ = some v2)
     (first | exact hS2 | exact Q4.on hS2 h7 | go_keep)
     ((first
      | (go_at_call 29; refine (HV.out _ L6d).mono ?_; rintro e w7 ⟨rfl,h7⟩)
      | fail))
    have L7:=below_then L6d h7
    have h67:Below w6.heap.size w6 w7:=(Below.refl _ _).drew.trans h7
    have p0:=cell_on h67 p0'
    have q0:=cell_on h67 q0'
    have g1:=cell_on h67 g1'
    have g2:=cell_on h67 g2'
    have hlt3:k < b.F.length:=by rw [← HLEN.out]; exact hlt
    clear g1' g2' p0' q0' p2' q2' h7 h67 L6 L6d hS1 hS2
    cases rk with
    | false =>
     go_wp2_with fail
     go_quiet (fail)
     go_wp2
     go_ret
     have he:eqB x y = false:=by rw [HEQ.out]; simp
     exact ⟨by rw [eqB_ne HA.out HBb.out (eqB_false he)]; rfl,(HBW.out.trans (L7.mono HBW.out.size)).trans (below_draws (Below.refl _ _) _)⟩
    | true =>
     cases rv with
     | false =>
      go_wp2_with fail
      go_quiet (fail)
      go_wp2
      go_ret
      have he:eqB x y = false:=by rw [HEQ.out]; simp
      exact ⟨by rw [eqB_ne HA.out HBb.out (eqB_false he)]; rfl,(HBW.out.trans (L7.mono HBW.out.size)).trans (below_draws (Below.refl _ _) _)⟩
     | true =>
      by_cases hno:x.no = y.no
      ·have hq:(x.no != y.no) = false:=by simp [hno]
       have he:eqB x y = true:=by rw [HEQ.out]; simp [hno]
       have HE:=Lib.hid he
       clear hno he
       go_wp2_with fail
       go_quiet (fail)
       go_wp2
       refine ⟨⟨k + 1,?_,by omega,eq_take_next HA.out (by rw [eqB_iff.1 HE.out]; exact HBb.out) HTK.out,(HBX.out.trans (L7.mono HBX.out.size)).trans (below_draws (Below.refl _ _) _)⟩,?_⟩
       ·go_num
       ·simp [intOf]; omega
      ·have hq:(x.no != y.no) = true:=by simp [hno]
       have he:eqB x y = false:=by rw [HEQ.out]; simp [hno]
       have HE:=Lib.hid he
       clear hno he
       go_wp2_with fail
       go_quiet (fail)
       go_wp2
       go_ret
       exact ⟨by rw [eqB_ne HA.out HBb.out (eqB_false HE.out)]; rfl,(HBW.out.trans (L7.mono HBW.out.size)).trans (below_draws (Below.refl _ _) _)⟩
   ·obtain rfl:k = a.F.length:=by omega
    have e:a.F = b.F:=by
     have h:=HTK.out
     rwa [List.take_length,HLEN.out,List.take_length] at h
    have HE:=Lib.hid (eqB_yes e)
    clear e
    go_wp2
    go_ret
    exact ⟨by rw [HE.out]; rfl,HBW.out⟩
 ·have hlq:((a.F.length:Int) != (b.F.length:Int)) = true:=by rw [bne_iff_ne]; omega
  have HE:=Lib.hid (eqB_no (fun e:a.F = b.F=>hlen (by rw [e])))
  clear hlen
  go_enter Tryz.func20,Tryz.ntmps20
  go_wp2
  go_ret
  exact ⟨by rw [HE.out]; rfl,LBD⟩
theorem rsame_any9 (B:Nat):∀ d,RSameH B d
 | 0=>fun _ _ _ _ _ _ h _=>h.elim
 | d + 1=>rsame_step (rsame_any9 B d)
end Go.Proofs.YtckcojkpghiclaaGreatDoor.T9
namespace Go.Proofs.YtckcojkpghiclaaGreatDoor
set_option maxRecDepth 100000
namespace S
end S
open S
end Go.Proofs.YtckcojkpghiclaaGreatDoor
