/-
 A slot,made normal: the contract of normalSlot.
-/
import Derived.Test.YtckcojkpghiclaaGreatDoorTyRising
import Derived.Test.YtckcojkpghiclaaGreatDoorTyIs
import Derived.Test.YtckcojkpghiclaaGreatDoorVarMay
import Derived.Test.YtckcojkpghiclaaGreatDoorTokMath
import Derived.Test.YtckcojkpghiclaaGreatDoorTabFld
namespace Go.Proofs.YtckcojkpghiclaaGreatDoor.T9
set_option maxRecDepth 100000
open Go.Proofs.YtckcojkpghiclaaGreatDoor.T4
open Go.RowKit Go.Maps
structure Keep (g b:Nat) (w w':World):Prop where
 os:w'.os = w.os
 tape:w'.tape = w.tape
 output:w'.output = w.output
 size:w.heap.size ≤ w'.heap.size
 block:∀ q,q < b → q ≠ g → w'.heap[q]? = w.heap[q]?
theorem Keep.refl (g b:Nat) (w:World):Keep g b w w:=⟨rfl,rfl,rfl,Nat.le_refl _,fun _ _ _=>rfl⟩
theorem Keep.trans {g b:Nat} {a c d:World} (h:Keep g b a c) (k:Keep g b c d):Keep g b a d:=⟨k.os.trans h.os,k.tape.trans h.tape,k.output.trans h.output,Nat.le_trans h.size k.size,fun q h1 h2=>(k.block q h1 h2).trans (h.block q h1 h2)⟩
theorem Keep.below {g b:Nat} {w w':World} (h:Below w.heap.size w w') (hb:b ≤ w.heap.size):Keep g b w w':=⟨h.os,h.tape,h.output,h.size,fun q h1 _=>h.block q (by omega)⟩
theorem Keep.row {g b base:Nat} {w w':World} {e:TypeId} {size n:Nat} {v:Value} {xs:List Value} (hg:w.grownBy w' v.ownBlock) (hown:w.ownsRow base e size v n xs) (hb:b ≤ base) (hs:b ≤ w.heap.size):Keep g b w w' :=
 ⟨hg.os,hg.tape,hg.output,hg.size,fun q h1 _=>hg.block q (by omega) fun e=>by have:=(own_blk hown q e.symm).1; omega⟩
theorem Keep.box {g b:Nat} {w w':World} (hg:w.grownBy w' (some g)) (hs:b ≤ w.heap.size):Keep g b w w':=⟨hg.os,hg.tape,hg.output,hg.size,fun q h1 h2=>hg.block q (by omega) (by simpa using h2)⟩
theorem Keep.lo {g b B:Nat} {w w':World} (h:Keep g b w w') (hB:B ≤ b) (hg:B ≤ g):Below B w w':=⟨h.os,h.tape,h.output,h.size,fun q hq=>h.block q (by omega) (by omega)⟩
theorem five_boxes (w:World) (o1 o2 o3 o4 o5:Obj):(((((w.alloc o1).alloc o2).alloc o3).alloc o4).alloc o5).heap[w.heap.size]? = some o1 ∧ (((((w.alloc o1).alloc o2).alloc o3).alloc o4).alloc o5).heap[w.heap.size + 1]? = some o2 ∧ (((((w.alloc o1).alloc o2).alloc o3).alloc o4).alloc o5).heap[w.heap.size + 2]? = some o3 ∧ (((((w.alloc o1).alloc o2).alloc o3).alloc o4).alloc o5).heap[w.heap.size + 3]? = some o4 ∧ (((((w.alloc o1).alloc o2).alloc o3).alloc o4).alloc o5).heap[w.heap.size + 4]? = some o5 ∧ Below w.heap.size w (((((w.alloc o1).alloc o2).alloc o3).alloc o4).alloc o5) ∧ (((((w.alloc o1).alloc o2).alloc o3).alloc o4).alloc o5).heap.size = w.heap.size + 5:=by
 obtain ⟨h1,h2,h3,h4,hb⟩:=four_new w o1 o2 o3 o4
 have e:((((w.alloc o1).alloc o2).alloc o3).alloc o4).heap.size = w.heap.size + 4:=by simp
 have N:=below_new ((((w.alloc o1).alloc o2).alloc o3).alloc o4) o5
 exact ⟨box_on h1 N,box_on h2 N,box_on h3 N,box_on h4 N,e ▸ heap_alloc_new ((((w.alloc o1).alloc o2).alloc o3).alloc o4) o5,below_then hb N,by simp⟩
theorem ask_msgs {G:Int → Mg → Bool} {kind ref:Int} {v:Vl'} (h:askG G kind ref v = true):∀ x ∈ v.M,G ref x = true:=by
 by_cases h9:kind = 9
 ·subst h9
  obtain ⟨_,_,x,hM,hx⟩:=ask_nine h
  rw [hM]
  intro y hy
  obtain rfl:y = x:=by simpa using hy
  exact hx
 ·rw [ask_of h h9]
  intro x hx
  cases hx
theorem key_sameK {a b:Vl'}:keyV a = keyV b ↔ sameK a b = true:=by
 rw [same_iff]
 unfold keyV
 simp
theorem last_rel {B D:Nat} {w:World} {K V:List Vl'} {vals:List Value} (hv:Vals B D w V vals) (hl:K.length = V.length) (k:Vl'):∀ j,j ≤ K.length →
  (((K.zip V).take j).reverse.find? (fun p=>sameK p.1 k) = none ∧ lastA ((K.zip vals).take j) (keyV k) = none) ∨
  ∃ p A c,((K.zip V).take j).reverse.find? (fun p=>sameK p.1 k) = some p ∧ lastA ((K.zip vals).take j) (keyV k) = some (.agg #[.int .i64 p.2.n,.string (tx p.2.s),.slice A p.2.M.length c]) ∧ VAt (Rd B w) D p.2 [.int .i64 p.2.n,.string (tx p.2.s),.slice A p.2.M.length c]:=by
 intro j
 induction j with
 | zero=>intro _; exact .inl ⟨rfl,rfl⟩
 | succ j ih =>
  intro hj
  obtain ⟨q,hq⟩:∃ q,K[j]? = some q:=⟨_,List.getElem?_eq_getElem (by omega)⟩
  obtain ⟨v,hV⟩:∃ v,V[j]? = some v:=⟨_,List.getElem?_eq_getElem (by omega)⟩
  obtain ⟨A,c,h1,h2⟩:=hv.at_ j v hV
  have z1:(K.zip V)[j]? = some (q,v):=by rw [List.getElem?_zip_eq_some]; exact ⟨hq,hV⟩
  have z2:(K.zip vals)[j]? = some (q,.agg #[.int .i64 v.n,.string (tx v.s),.slice A v.M.length c]):=by rw [List.getElem?_zip_eq_some]; exact ⟨hq,h1⟩
  rw [← take_snoc z1,← take_snoc z2,List.reverse_append,lastA_snoc]
  show ((((q,v) :: ((K.zip V).take j).reverse).find? _ = none) ∧ _) ∨ _
  by_cases he:sameK q k = true
  ·right
   refine ⟨(q,v),A,c,?_,?_,h2⟩
   ·show ((q,v) :: ((K.zip V).take j).reverse).find? _ = _
    rw [List.find?_cons_of_pos (by simpa using he)]
   ·rw [if_pos (key_sameK.2 he)]
  ·have hne:¬ keyV q = keyV k:=fun e=>he (key_sameK.1 e)
   simp only [if_neg hne]
   rw [List.find?_cons_of_neg (by simpa using he)]
   rcases ih (by omega) with h | ⟨p,A',c',e1,e2,e3⟩
   ·exact .inl h
   ·right
    refine ⟨p,A',c',?_,e2,e3⟩
    show ((q,v) :: ((K.zip V).take j).reverse).find? _ = _
    rw [List.find?_cons_of_neg (by simpa using he)]
    exact e1
theorem last_val {B D:Nat} {w:World} {K V:List Vl'} {vals:List Value} (hv:Vals B D w V vals) (hl:K.length = V.length) {k:Vl'} (hk:k ∈ risen K) :
  ∃ A c,lastA (K.zip vals) (keyV k) = some (.agg #[.int .i64 (lastV (K.zip V) k).n,.string (tx (lastV (K.zip V) k).s),.slice A (lastV (K.zip V) k).M.length c]) ∧ VAt (Rd B w) D (lastV (K.zip V) k) [.int .i64 (lastV (K.zip V) k).n,.string (tx (lastV (K.zip V) k).s),.slice A (lastV (K.zip V) k).M.length c]:=by
 obtain ⟨h1,h2⟩:=last_risen hl hk
 have h:=last_rel hv hl k K.length (Nat.le_refl _)
 rw [List.take_of_length_le (by rw [List.length_zip]; omega),List.take_of_length_le (by rw [List.length_zip,hv.len]; omega)] at h
 rcases h with ⟨h3,-⟩ | ⟨p,A,c,e1,e2,e3⟩
 ·rw [List.find?_eq_none] at h3
  exact absurd h2 (h3 _ (List.mem_reverse.2 h1))
 ·have e:lastV (K.zip V) k = p.2:=by
   unfold lastV lastP
   rw [e1]; rfl
  rw [e]
  exact ⟨A,c,e2,e3⟩
theorem cell3b {w:World} {g:Nat} {a b c:Value} {t:TypeId} (h:w.heap[g]? = some (.cells #[a,b,c] t (0,0))) (x:Value) :
  (w.setCell ⟨g,1,none⟩ x).heap[g]? = some (.cells #[a,x,c] t (0,0)) ∧ w.grownBy (w.setCell ⟨g,1,none⟩ x) (some g) :=
 ⟨by have:=heap_setCell_same (j:=1) h x; simpa using this,rfl,rfl,rfl,by simp,fun k _ hk=>heap_setCell_other _ ⟨g,1,none⟩ k _ (fun e=>hk (by simp [e]))⟩
set_option maxRecDepth 1000000 in
set_option maxHeartbeats 8000000 in
theorem nslot_any {s:Sc} {B D:Nat} {G:Int → Mg → Bool} {N:Int → Mg → Mg} (H:NormH s B D G N) (vM vE:Value) (f:Df) (a:So) (u1 u2:Value) (w:World) (hB:B ≤ w.heap.size) (hs:SAt B w s vM vE) (ha:SAt' (Rd B w) D a [.int .i64 a.no,u1,u2]) (hi:SIn a) (hc:cS a ≤ 10000000) (hf:fillG G f a = true) (b:Nat) (hb:b ≤ w.heap.size) :
  Calls Tryz.prog 91 #[.agg #[vM,vE],.agg #[.int .i64 f.no,.string (txt f.name),.int .i64 f.kind,.int .i64 f.ref,.bool f.rep,.int .i64 f.key,.int .i64 f.one],.agg #[.int .i64 a.no,u1,u2]] w fun e w'=>∃ x1 x2 x3,e = .returned (.agg #[x1,x2,x3]) ∧ SAt' (Ow b w') D (norS N f a) [x1,x2,x3] ∧ Below w.heap.size w w':=by
 have ha0:=ha
 obtain ⟨u3,u4,hu,hk,hv⟩:=ha
 simp only [List.cons.injEq,and_true,true_and] at hu
 obtain ⟨rfl,rfl⟩:=hu
 obtain ⟨A1,c1,xs1,rfl,hs1,hb1,hr1,hn1⟩:=hk.open_
 obtain ⟨A2,c2,xs2,rfl,hs2,hb2,hr2,hn2⟩:=hv.open_
 obtain ⟨i0,hi0,hz0,hz1,hz2⟩:=info_parts info_val
 have hln:=cS_len (s:=a)
 unfold fillG at hf
 simp only [Bool.and_eq_true,List.all_eq_true] at hf
 obtain ⟨hmany,-,hask⟩:=hf
 obtain ⟨X1,X2,X3,X4,X5,LBD,hsz⟩:=five_boxes w (.cells #[vM,vE] 25) (dC f) (.cells #[.int .i64 a.no,.slice A1 a.K.length c1,.slice A2 a.V.length c2] 67) (.cells #[.int .i64 0,.slice none 0 0,.slice none 0 0] 67) (.cells #[.int .i64 a.no,.slice none 0 0,.slice none 0 0] 67)
 obtain ⟨W0,hW0⟩:∃ W,W = (((((w.alloc (.cells #[vM,vE] 25)).alloc (dC f)).alloc (.cells #[.int .i64 a.no,.slice A1 a.K.length c1,.slice A2 a.V.length c2] 67)).alloc (.cells #[.int .i64 0,.slice none 0 0,.slice none 0 0] 67)).alloc (.cells #[.int .i64 a.no,.slice none 0 0,.slice none 0 0] 67)):=⟨_,rfl⟩
 have HS2:=Lib.hid hs2
 have HR2:=Lib.hid hr2
 have HB2:=Lib.hid hb2
 have HA0:=Lib.hid ha0
 have HH:=Lib.hid H
 have HSA:=Lib.hid hs
 have HI:=Lib.hid hi
 have HASK:=Lib.hid hask
 have HMAP:=Lib.hid (fun wx=>isMap_any f wx)
 have HLN:=Lib.hid hln
 obtain ⟨s0,s1,s2⟩:=bx3 X3
 have g3:=heap_cell X2
 have f0:=g3 0
 have f1:=g3 1
 have f2:=g3 2
 have f3:=g3 3
 have f4:=g3 4
 have f5:=g3 5
 have f6:=g3 6
 simp only [List.getElem?_toArray,List.getElem?_cons_zero,List.getElem?_cons_succ] at f0 f1 f2 f3 f4 f5 f6
 clear hs1 hr1 hb1 hs2 hr2 hb2 hk hv H hs hi hask ha0 g3 hln
 by_cases hkey:f.key = -1
 ·have hno:(f.key != -1) = false:=by simp [hkey]
  rw [hno] at HMAP
  have HK:=Lib.hid hkey
  have hK0:a.K = []:=by
   unfold manyB at hmany
   rw [if_pos hkey] at hmany
   simp only [Bool.and_eq_true,beq_iff_eq] at hmany
   exact List.eq_nil_of_length_eq_zero hmany.1
  have HK0:=Lib.hid hK0
  clear hkey hno hmany hK0
  go_enter Tryz.func91,Tryz.ntmps91
  go_wp2_with fail
  rw [← hW0] at X1 X2 X3 X4 X5 LBD hsz ⊢
  clear hW0 s0 s1 s2 f0 f1 f2 f3 f4 f5 f6
  refine (HMAP.out _).mono ?_
  rintro e w1 ⟨rfl,hb1⟩
  have LBD1:=below_then LBD hb1
  have Y1:=box_on X1 hb1
  have Y2:=box_on X2 hb1
  have Y3:=box_on X3 hb1
  have Y4:=box_on X4 hb1
  have Y5:=box_on X5 hb1
  have hsz1:w.heap.size + 5 ≤ w1.heap.size:=by have:=hb1.size; omega
  obtain ⟨s0,s1,s2⟩:=bx3 Y3
  clear X1 X2 X3 X4 X5 LBD hsz hb1
  go_wp2_with fail
  clear s0 s1 s2
  go_loopw [22] (fun i wr=>∃ (k:Nat) (v':Value) (zs:List Value),i = .int .i64 k ∧ k ≤ a.V.length ∧ wr.heap[w.heap.size + 4]? = some (.cells #[.int .i64 a.no,.slice none 0 0,v'] 67 (0,0)) ∧ Grow (fun R=>VAt R D) 81 3 (w.heap.size + 5) wr v' ((a.V.take k).map (norV N f.ref)) zs ∧ Below (w.heap.size + 4) w1 wr ∧ w.heap.size + 5 ≤ wr.heap.size) (fun i _=>a.V.length - (intOf i).toNat)
  case atStart=>exact ⟨0,_,[],rfl,by omega,Y5,Grow.nil _ _ _ _ _,Below.refl _ _,hsz1⟩
  case round =>
   obtain ⟨k,v',zs,rfl,hk,hX,hgx,hbx,hsx⟩:=hrel
   have hm1:=(hbx.block _ (show w.heap.size < w.heap.size + 4 by omega)).trans Y1
   have hm2:=(hbx.block _ (show w.heap.size + 1 < w.heap.size + 4 by omega)).trans Y2
   have hm4:=(hbx.block _ (show w.heap.size + 3 < w.heap.size + 4 by omega)).trans Y4
   have hbw:Below w.heap.size w wr:=LBD1.trans (hbx.mono (by omega))
   have hBw:B ≤ wr.heap.size:=by omega
   have hlo:Lo B w wr:=Lo.of (hbw.mono hB)
   by_cases hlt:k < a.V.length
   ·obtain ⟨v,hv⟩:∃ v,a.V[k]? = some v:=⟨_,List.getElem?_eq_getElem hlt⟩
    obtain ⟨am,x,y,z,rfl,hga,hca,e0,e1,e2⟩:=row3 vAt.len (sl_low HS2.out HB2.out hlo) (HR2.out.imp fun a cs h=>VRd.low hlo h) hv
    obtain ⟨AM,cM,rfl,rfl,rfl⟩:=val_shape hca
    have hmem:=List.mem_of_getElem? hv
    have hcv:=cV_le (s:=a) (.inr hmem)
    have hvl:a.V.length ≤ 10000000:=by have:=HLN.out; omega
    have N1:=below_new wr (.cells #[.int .i64 v.n,.string (tx v.s),.slice AM v.M.length cM] 81)
    have T1:=heap_alloc_new wr (.cells #[.int .i64 v.n,.string (tx v.s),.slice AM v.M.length cM] 81)
    obtain ⟨L,hL⟩:∃ L,(a.V.take k).map (norV N f.ref) = L:=⟨_,rfl⟩
    have hlq:L.length = k:=by rw [← hL,List.length_map,List.length_take]; omega
    rw [hL] at hgx
    have HL:=Lib.hid (hL ▸ map_take_snoc (norV N f.ref) hv:L ++ [norV N f.ref v] = (a.V.take (k + 1)).map (norV N f.ref))
    obtain ⟨W1,hW1⟩:∃ W,W = wr.alloc (.cells #[.int .i64 v.n,.string (tx v.s),.slice AM v.M.length cM] 81):=⟨_,rfl⟩
    rw [← hW1] at N1 T1
    have hs1:W1.heap.size = wr.heap.size + 1:=by rw [hW1]; simp
    have hD:Below W1.heap.size W1 W1.drew:=(Below.refl _ _).drew
    have hb1:=below_then hbw N1
    have HCX:=Lib.hid (nval_any HH.out vM vE f.ref v (.slice AM v.M.length cM) W1.drew (show B ≤ W1.heap.size by omega) (SAt.lo HSA.out hb1.drew hB) (VRd.low (Lo.below N1.drew hBw) hca) (HI.out.2 v (.inr hmem)) (by omega) (ask_msgs (HASK.out v hmem)) W1.heap.size (Nat.le_refl _))
    have HGX:=Lib.hid (hgx.on (mono_v D) N1)
    have HGO:=Lib.hid hgx
    have HX:=Lib.hid (box_on hX N1)
    have HM:=Lib.hid (And.intro (box_on hm1 N1) (And.intro (box_on hm2 N1) T1))
    have HB1:=Lib.hid (And.intro hbx N1)
    have g2:=(bx3 HX.out).2.2
    have hS0:(W1.cell? ⟨w.heap.size,0,none⟩ = some vM ∧ W1.cell? ⟨w.heap.size,1,none⟩ = some vE) ∧ W1.cell? ⟨w.heap.size + 1,3,none⟩ = some (.int .i64 f.ref) ∧ (W1.cell? ⟨wr.heap.size,0,none⟩ = some (.int .i64 v.n) ∧ W1.cell? ⟨wr.heap.size,1,none⟩ = some (.string (tx v.s)) ∧ W1.cell? ⟨wr.heap.size,2,none⟩ = some (.slice AM v.M.length cM)):=⟨box2' HM.out.1,heap_cell HM.out.2.1 3,bx3 HM.out.2.2⟩
    clear hX hgx hbx hm1 hm2 hm4 hca hv hL
    go_wp2_with fail
    rw [← hW1]
    clear hW1 e0 e1 e2
    refine wp_region_held_drew (S:=(fun w'=>(w'.cell? ⟨w.heap.size,0,none⟩ = some vM ∧ w'.cell? ⟨w.heap.size,1,none⟩ = some vE) ∧ w'.cell? ⟨w.heap.size + 1,3,none⟩ = some (.int .i64 f.ref) ∧ (w'.cell? ⟨wr.heap.size,0,none⟩ = some (.int .i64 v.n) ∧ w'.cell? ⟨wr.heap.size,1,none⟩ = some (.string (tx v.s)) ∧ w'.cell? ⟨wr.heap.size,2,none⟩ = some (.slice AM v.M.length cM)))) (by kernel_rfl) (hS0) (fun hHeld=>?_)
    refine tk 0 ?_
    refine tk 2 ?_
    refine tk 3 ?_
    refine tk 4 ?_
    refine tk 5 ?_
    refine wpAnyH_ready (rs:=[1,6]) (by kernel_rfl) (by simp) ?_
    refine AllReadyH.cons rfl (fun K hK=>?_) (AllReadyH.cons rfl (fun K hK=>?_) AllReadyH.nil)
    ·go_simp
     refine hK.out _ _ (hS0) (fun hHeld=>?_)
     clear hK K
     refine wpAnyH_ready (rs:=[6]) (by kernel_rfl) (by simp) ?_
     refine AllReadyH.cons rfl (fun K hK=>?_) AllReadyH.nil
     go_simp
     (go_at_call 132; refine HCX.out.mono ?_; rintro e w7 ⟨x1,x2,x3,rfl,ho7,hb7⟩; have hb7d:=Lib.hid (hD.trans hb7); have HX7:=Lib.hid (box_on HX.out hb7d.out); have c7:=(bx3 HX7.out).2.2; have c7b:=(bx3 (box_on HX7.out (below_new w7 (.cells #[x1,x2,x3] 81)))).2.2; have HG8:=Lib.hid ((HGX.out.on (mono_v D) hb7d.out).on (mono_v D) (below_new w7 (.cells #[x1,x2,x3] 81))); have hs7:W1.heap.size ≤ w7.heap.size:=hb7d.out.size; have HM7:=Lib.hid (And.intro (box_on HM.out.1 hb7d.out) (And.intro (box_on HM.out.2.1 hb7d.out) (box_on HM.out.2.2 hb7d.out))))
     go_wp2_with fail
     refine hK.out _ _ (And.intro (box2' (HM7.out.1)) (And.intro (heap_cell (HM7.out.2.1) 3) (bx3 (HM7.out.2.2)))) (fun hHeld=>?_)
     clear hK K
     refine wpAnyH_ready (rs:=[7]) (by kernel_rfl) (by simp) ?_
     refine AllReadyH.cons rfl (fun K hK=>?_) AllReadyH.nil
     go_simp
     refine hK.out _ _ (And.intro (box2' (box_on HM7.out.1 (below_new w7 (.cells #[x1,x2,x3] 81)))) (And.intro (heap_cell (box_on HM7.out.2.1 (below_new w7 (.cells #[x1,x2,x3] 81))) 3) (bx3 (box_on HM7.out.2.2 (below_new w7 (.cells #[x1,x2,x3] 81)))))) (fun hHeld=>?_)
     clear hK K
     refine wpAnyH_ready (rs:=[8]) (by kernel_rfl) (by simp) ?_
     refine AllReadyH.cons rfl (fun K hK=>?_) AllReadyH.nil
     (refine step_append_lies _ rfl _ _ 65 rfl (w.heap.size + 5) 81 i0 _ 3 48 Tryz.underlying65 hi0 hz0 hz1 hz2 rfl (by decide) v' L.length zs (by simp [Act.eval,Act.put]) HG8.out.own ⟨w7.heap.size,0,none⟩ 1 1 [x1,x2,x3] (by simp [Act.eval,Act.put]) rfl (World.news_of_block (heap_alloc_new _ _)) (vAt.oneO _ _ ho7) (by decide) (by unfold maxLen; omega) (by omega) (by simp; omega) w7.heap.size.succ (by simp) ?_; intro g8 cap8 w8 hown8 hg8 hat8 hlt8; have hX8:=Lib.hid (box_far (box_on HX7.out (below_new w7 (.cells #[x1,x2,x3] 81))) hg8 HG8.out.own (Nat.lt_succ_self (w.heap.size + 4))); have f8:w8.frozen? ⟨w.heap.size + 4,2,none⟩ = false:=(by simp [World.frozen?,hX8.out]); have c8:=(bx3 hX8.out).2.2; have HM8:=Lib.hid (And.intro (box_far (box_on HM7.out.1 (below_new w7 (.cells #[x1,x2,x3] 81))) hg8 HG8.out.own (show w.heap.size < w.heap.size + 5 by omega)) (And.intro (box_far (box_on HM7.out.2.1 (below_new w7 (.cells #[x1,x2,x3] 81))) hg8 HG8.out.own (show w.heap.size + 1 < w.heap.size + 5 by omega)) (box_new (box_on HM7.out.2.2 (below_new w7 (.cells #[x1,x2,x3] 81))) hg8 fun q hq=>HGO.out.lt q hq))))
     refine hK.out _ _ (And.intro (box2' (HM8.out.1)) (And.intro (heap_cell (HM8.out.2.1) 3) (bx3 (HM8.out.2.2)))) (fun hHeld=>?_)
     clear hK K
     refine tk 9 ?_
     refine wpAnyH_ready (rs:=[10]) (by kernel_rfl) (by simp) ?_
     refine AllReadyH.cons rfl (fun K hK=>?_) AllReadyH.nil
     go_simp
     refine hK.out _ _ (And.intro (box2' (box_set (g:=w.heap.size + 4) (j:=2) HM8.out.1 (by omega) _)) (And.intro (heap_cell (box_set (g:=w.heap.size + 4) (j:=2) HM8.out.2.1 (by omega) _) 3) (bx3 (box_set (g:=w.heap.size + 4) (j:=2) HM8.out.2.2 (by omega) _)))) (fun hHeld=>?_)
     clear hK K
     refine wpAnyH_done (by kernel_rfl) ?_ _
     obtain ⟨Z1,Z2⟩:=cell3 hX8.out (.slice (some ⟨g8,0,none⟩) (L.length + 1) cap8)
     have hnew:=(Grow.app (mono_v D) HG8.out (a:=norV N f.ref v) (b':=W1.heap.size) (by omega) (fun k hk=>HGX.out.lt k hk) (mono_v D (Ow.hi (hi_below _ (below_new w7 (.cells #[x1,x2,x3] 81)))) _ _ ho7) hown8 hg8 (hat8.imp id fun h=>by rw [h]; simp)).box (mono_v D) Z2 (Nat.lt_succ_self (w.heap.size + 4))
     rw [HL.out] at hnew
     rw [hlq] at hnew Z1 Z2
     have hbz:Below (w.heap.size + 4) wr _:=((HB1.out.2.mono (by omega)).trans ((hb7d.out.mono (by omega)).trans ((below_new w7 (.cells #[x1,x2,x3] 81)).mono (by omega)))).trans ((below_row hg8 HG8.out.own (Nat.le_succ _) (by simp; omega)).trans (below_own Z2 (Nat.le_refl _) (by have:=hg8.size; simp at this; omega)))
     try rw [hlq]
     go_wp2
     refine ⟨⟨k + 1,_,_,by go_num,by omega,Z1,hnew,HB1.out.1.trans hbz,by have h1:=hbz.size; have h2:=hg8.size; simp at h1 h2 ⊢; omega⟩,by simp [intOf]; omega⟩
    ·go_simp
     (go_at_call 132; refine HCX.out.mono ?_; rintro e w7 ⟨x1,x2,x3,rfl,ho7,hb7⟩; have hb7d:=Lib.hid (hD.trans hb7); have HX7:=Lib.hid (box_on HX.out hb7d.out); have c7:=(bx3 HX7.out).2.2; have c7b:=(bx3 (box_on HX7.out (below_new w7 (.cells #[x1,x2,x3] 81)))).2.2; have HG8:=Lib.hid ((HGX.out.on (mono_v D) hb7d.out).on (mono_v D) (below_new w7 (.cells #[x1,x2,x3] 81))); have hs7:W1.heap.size ≤ w7.heap.size:=hb7d.out.size; have HM7:=Lib.hid (And.intro (box_on HM.out.1 hb7d.out) (And.intro (box_on HM.out.2.1 hb7d.out) (box_on HM.out.2.2 hb7d.out))))
     go_wp2_with fail
     refine hK.out _ _ (And.intro (box2' (HM7.out.1)) (And.intro (heap_cell (HM7.out.2.1) 3) (bx3 (HM7.out.2.2)))) (fun hHeld=>?_)
     clear hK K
     refine wpAnyH_ready (rs:=[1,7]) (by kernel_rfl) (by simp) ?_
     refine AllReadyH.cons rfl (fun K hK=>?_) (AllReadyH.cons rfl (fun K hK=>?_) AllReadyH.nil)
     ·go_simp
      refine hK.out _ _ (And.intro (box2' (HM7.out.1)) (And.intro (heap_cell (HM7.out.2.1) 3) (bx3 (HM7.out.2.2)))) (fun hHeld=>?_)
      clear hK K
      refine wpAnyH_ready (rs:=[7]) (by kernel_rfl) (by simp) ?_
      refine AllReadyH.cons rfl (fun K hK=>?_) AllReadyH.nil
      go_simp
      refine hK.out _ _ (And.intro (box2' (box_on HM7.out.1 (below_new w7 (.cells #[x1,x2,x3] 81)))) (And.intro (heap_cell (box_on HM7.out.2.1 (below_new w7 (.cells #[x1,x2,x3] 81))) 3) (bx3 (box_on HM7.out.2.2 (below_new w7 (.cells #[x1,x2,x3] 81)))))) (fun hHeld=>?_)
      clear hK K
      refine wpAnyH_ready (rs:=[8]) (by kernel_rfl) (by simp) ?_
      refine AllReadyH.cons rfl (fun K hK=>?_) AllReadyH.nil
      (refine step_append_lies _ rfl _ _ 65 rfl (w.heap.size + 5) 81 i0 _ 3 48 Tryz.underlying65 hi0 hz0 hz1 hz2 rfl (by decide) v' L.length zs (by simp [Act.eval,Act.put]) HG8.out.own ⟨w7.heap.size,0,none⟩ 1 1 [x1,x2,x3] (by simp [Act.eval,Act.put]) rfl (World.news_of_block (heap_alloc_new _ _)) (vAt.oneO _ _ ho7) (by decide) (by unfold maxLen; omega) (by omega) (by simp; omega) w7.heap.size.succ (by simp) ?_; intro g8 cap8 w8 hown8 hg8 hat8 hlt8; have hX8:=Lib.hid (box_far (box_on HX7.out (below_new w7 (.cells #[x1,x2,x3] 81))) hg8 HG8.out.own (Nat.lt_succ_self (w.heap.size + 4))); have f8:w8.frozen? ⟨w.heap.size + 4,2,none⟩ = false:=(by simp [World.frozen?,hX8.out]); have c8:=(bx3 hX8.out).2.2; have HM8:=Lib.hid (And.intro (box_far (box_on HM7.out.1 (below_new w7 (.cells #[x1,x2,x3] 81))) hg8 HG8.out.own (show w.heap.size < w.heap.size + 5 by omega)) (And.intro (box_far (box_on HM7.out.2.1 (below_new w7 (.cells #[x1,x2,x3] 81))) hg8 HG8.out.own (show w.heap.size + 1 < w.heap.size + 5 by omega)) (box_new (box_on HM7.out.2.2 (below_new w7 (.cells #[x1,x2,x3] 81))) hg8 fun q hq=>HGO.out.lt q hq))))
      refine hK.out _ _ (And.intro (box2' (HM8.out.1)) (And.intro (heap_cell (HM8.out.2.1) 3) (bx3 (HM8.out.2.2)))) (fun hHeld=>?_)
      clear hK K
      refine tk 9 ?_
      refine wpAnyH_ready (rs:=[10]) (by kernel_rfl) (by simp) ?_
      refine AllReadyH.cons rfl (fun K hK=>?_) AllReadyH.nil
      go_simp
      refine hK.out _ _ (And.intro (box2' (box_set (g:=w.heap.size + 4) (j:=2) HM8.out.1 (by omega) _)) (And.intro (heap_cell (box_set (g:=w.heap.size + 4) (j:=2) HM8.out.2.1 (by omega) _) 3) (bx3 (box_set (g:=w.heap.size + 4) (j:=2) HM8.out.2.2 (by omega) _)))) (fun hHeld=>?_)
      clear hK K
      refine wpAnyH_done (by kernel_rfl) ?_ _
      obtain ⟨Z1,Z2⟩:=cell3 hX8.out (.slice (some ⟨g8,0,none⟩) (L.length + 1) cap8)
      have hnew:=(Grow.app (mono_v D) HG8.out (a:=norV N f.ref v) (b':=W1.heap.size) (by omega) (fun k hk=>HGX.out.lt k hk) (mono_v D (Ow.hi (hi_below _ (below_new w7 (.cells #[x1,x2,x3] 81)))) _ _ ho7) hown8 hg8 (hat8.imp id fun h=>by rw [h]; simp)).box (mono_v D) Z2 (Nat.lt_succ_self (w.heap.size + 4))
      rw [HL.out] at hnew
      rw [hlq] at hnew Z1 Z2
      have hbz:Below (w.heap.size + 4) wr _:=((HB1.out.2.mono (by omega)).trans ((hb7d.out.mono (by omega)).trans ((below_new w7 (.cells #[x1,x2,x3] 81)).mono (by omega)))).trans ((below_row hg8 HG8.out.own (Nat.le_succ _) (by simp; omega)).trans (below_own Z2 (Nat.le_refl _) (by have:=hg8.size; simp at this; omega)))
      try rw [hlq]
      go_wp2
      refine ⟨⟨k + 1,_,_,by go_num,by omega,Z1,hnew,HB1.out.1.trans hbz,by have h1:=hbz.size; have h2:=hg8.size; simp at h1 h2 ⊢; omega⟩,by simp [intOf]; omega⟩
     ·go_simp
      refine hK.out _ _ (And.intro (box2' (box_on HM7.out.1 (below_new w7 (.cells #[x1,x2,x3] 81)))) (And.intro (heap_cell (box_on HM7.out.2.1 (below_new w7 (.cells #[x1,x2,x3] 81))) 3) (bx3 (box_on HM7.out.2.2 (below_new w7 (.cells #[x1,x2,x3] 81)))))) (fun hHeld=>?_)
      clear hK K
      refine wpAnyH_ready (rs:=[1]) (by kernel_rfl) (by simp) ?_
      refine AllReadyH.cons rfl (fun K hK=>?_) AllReadyH.nil
      go_simp
      refine hK.out _ _ (And.intro (box2' (box_on HM7.out.1 (below_new w7 (.cells #[x1,x2,x3] 81)))) (And.intro (heap_cell (box_on HM7.out.2.1 (below_new w7 (.cells #[x1,x2,x3] 81))) 3) (bx3 (box_on HM7.out.2.2 (below_new w7 (.cells #[x1,x2,x3] 81)))))) (fun hHeld=>?_)
      clear hK K
      refine wpAnyH_ready (rs:=[8]) (by kernel_rfl) (by simp) ?_
      refine AllReadyH.cons rfl (fun K hK=>?_) AllReadyH.nil
      (refine step_append_lies _ rfl _ _ 65 rfl (w.heap.size + 5) 81 i0 _ 3 48 Tryz.underlying65 hi0 hz0 hz1 hz2 rfl (by decide) v' L.length zs (by simp [Act.eval,Act.put]) HG8.out.own ⟨w7.heap.size,0,none⟩ 1 1 [x1,x2,x3] (by simp [Act.eval,Act.put]) rfl (World.news_of_block (heap_alloc_new _ _)) (vAt.oneO _ _ ho7) (by decide) (by unfold maxLen; omega) (by omega) (by simp; omega) w7.heap.size.succ (by simp) ?_; intro g8 cap8 w8 hown8 hg8 hat8 hlt8; have hX8:=Lib.hid (box_far (box_on HX7.out (below_new w7 (.cells #[x1,x2,x3] 81))) hg8 HG8.out.own (Nat.lt_succ_self (w.heap.size + 4))); have f8:w8.frozen? ⟨w.heap.size + 4,2,none⟩ = false:=(by simp [World.frozen?,hX8.out]); have c8:=(bx3 hX8.out).2.2; have HM8:=Lib.hid (And.intro (box_far (box_on HM7.out.1 (below_new w7 (.cells #[x1,x2,x3] 81))) hg8 HG8.out.own (show w.heap.size < w.heap.size + 5 by omega)) (And.intro (box_far (box_on HM7.out.2.1 (below_new w7 (.cells #[x1,x2,x3] 81))) hg8 HG8.out.own (show w.heap.size + 1 < w.heap.size + 5 by omega)) (box_new (box_on HM7.out.2.2 (below_new w7 (.cells #[x1,x2,x3] 81))) hg8 fun q hq=>HGO.out.lt q hq))))
      refine hK.out _ _ (And.intro (box2' (HM8.out.1)) (And.intro (heap_cell (HM8.out.2.1) 3) (bx3 (HM8.out.2.2)))) (fun hHeld=>?_)
      clear hK K
      refine tk 9 ?_
      refine wpAnyH_ready (rs:=[10]) (by kernel_rfl) (by simp) ?_
      refine AllReadyH.cons rfl (fun K hK=>?_) AllReadyH.nil
      go_simp
      refine hK.out _ _ (And.intro (box2' (box_set (g:=w.heap.size + 4) (j:=2) HM8.out.1 (by omega) _)) (And.intro (heap_cell (box_set (g:=w.heap.size + 4) (j:=2) HM8.out.2.1 (by omega) _) 3) (bx3 (box_set (g:=w.heap.size + 4) (j:=2) HM8.out.2.2 (by omega) _)))) (fun hHeld=>?_)
      clear hK K
      refine wpAnyH_done (by kernel_rfl) ?_ _
      obtain ⟨Z1,Z2⟩:=cell3 hX8.out (.slice (some ⟨g8,0,none⟩) (L.length + 1) cap8)
      have hnew:=(Grow.app (mono_v D) HG8.out (a:=norV N f.ref v) (b':=W1.heap.size) (by omega) (fun k hk=>HGX.out.lt k hk) (mono_v D (Ow.hi (hi_below _ (below_new w7 (.cells #[x1,x2,x3] 81)))) _ _ ho7) hown8 hg8 (hat8.imp id fun h=>by rw [h]; simp)).box (mono_v D) Z2 (Nat.lt_succ_self (w.heap.size + 4))
      rw [HL.out] at hnew
      rw [hlq] at hnew Z1 Z2
      have hbz:Below (w.heap.size + 4) wr _:=((HB1.out.2.mono (by omega)).trans ((hb7d.out.mono (by omega)).trans ((below_new w7 (.cells #[x1,x2,x3] 81)).mono (by omega)))).trans ((below_row hg8 HG8.out.own (Nat.le_succ _) (by simp; omega)).trans (below_own Z2 (Nat.le_refl _) (by have:=hg8.size; simp at this; omega)))
      try rw [hlq]
      go_wp2
      refine ⟨⟨k + 1,_,_,by go_num,by omega,Z1,hnew,HB1.out.1.trans hbz,by have h1:=hbz.size; have h2:=hg8.size; simp at h1 h2 ⊢; omega⟩,by simp [intOf]; omega⟩
   ·obtain rfl:k = a.V.length:=by omega
    rw [List.take_length] at hgx
    obtain ⟨Av,cv,rfl,-⟩:=Sl.of_own hgx.own
    rw [List.length_map] at hX hgx
    obtain ⟨g0,g1,g2⟩:=bx3 hX
    obtain ⟨⟨q0,q1,q2⟩,q3,q4,q5⟩:=wr3 hm4
    go_wp2
    obtain ⟨Z1,Z2⟩:=three_set hm4 (.int .i64 a.no) (.slice none 0 0) (.slice Av a.V.length cv)
    refine bodyPost_ret (results_cell_row rfl _ _ (w.heap.size + 3) _ _ (0,0) _ rfl Z1 Tryz.underlying67 rfl sz_slot) rfl ?_
    have h1:=(hgx.box (mono_v D) Z2 (show w.heap.size + 3 < w.heap.size + 5 by omega)).less (mono_v D) (show b ≤ w.heap.size + 5 by omega)
    have e:norS N f a = ⟨a.no,[],a.V.map (norV N f.ref)⟩:=by unfold norS; rw [if_pos HK.out]
    rw [e]
    exact ⟨_,_,_,rfl,⟨_,_,rfl,⟨[],⟨World.ownsRow_nil _ _ _ _,Nat.zero_le _⟩,rfl⟩,h1.ow (mono_v D) (by rw [List.length_map]; exact hn2)⟩,hbw.trans (below_own Z2 (by omega) (by omega))⟩
 ·have hyes:(f.key != -1) = true:=by simp [hkey]
  rw [hyes] at HMAP
  have hlen:a.K.length = a.V.length:=by
   unfold manyB at hmany
   rw [if_neg hkey] at hmany
   simpa using hmany
  have HK:=Lib.hid hkey
  have HLEN:=Lib.hid hlen
  have HLO:=Lib.hid (fun wx (hx:Below w.heap.size w wx)=>lastOnes_any B D a _ _ wx (Nat.le_trans hB hx.size) (SRd.low (Lo.below hx hB) HA0.out) HI.out hlen hc)
  clear hkey hyes hmany hlen
  go_enter Tryz.func91,Tryz.ntmps91
  go_wp2_with fail
  rw [← hW0] at X1 X2 X3 X4 X5 LBD hsz ⊢
  clear hW0 s0 s1 s2 f0 f1 f2 f3 f4 f5 f6
  refine (HMAP.out _).mono ?_
  rintro e w1 ⟨rfl,hb1⟩
  have LBD1:=below_then LBD hb1
  have Y1:=box_on X1 hb1
  have Y2:=box_on X2 hb1
  have Y3:=box_on X3 hb1
  have Y4:=box_on X4 hb1
  have Y5:=box_on X5 hb1
  have hsz1:w.heap.size + 5 ≤ w1.heap.size:=by have:=hb1.size; omega
  obtain ⟨s0,s1,s2⟩:=bx3 Y3
  clear X1 X2 X3 X4 X5 LBD hsz hb1
  go_wp2_with fail
  refine (HLO.out _ LBD1).mono ?_
  rintro e w2 ⟨vals,rfl,hvals,hlm,hb2⟩
  have LBD2:=below_then LBD1 hb2
  have hmb:=hlm.lt
  have hzk:(a.K.zip vals).map (·.1) = a.K:=by rw [List.map_fst_zip]; rw [hvals.len,HLEN.out]; exact Nat.le_refl _
  have HRI:=Lib.hid (rising_any (w1.heap.size + 1) a.K.length (a.K.zip vals) w2 hlm (by have:=HLN.out; omega) (fun p hp=>by
   have h1:=(HI.out.2 p.1 (.inl (List.of_mem_zip (show (p.1,p.2) ∈ _ from hp)).1)).1
   exact ⟨by unfold inr; exact h1.1,by have:=h1.2; unfold maxLen; omega⟩) w2.heap.size (Nat.le_refl _) D)
  rw [hzk] at HRI
  have hsz2:w.heap.size + 5 ≤ w2.heap.size:=by have:=hb2.size; omega
  go_wp2_with fail
  refine HRI.out.mono ?_
  rintro e w3 ⟨uK,rfl,hrk,hb3⟩
  have Y1:=box_on (box_on Y1 hb2) hb3
  have Y2:=box_on (box_on Y2 hb2) hb3
  have Y4:=box_on (box_on Y4 hb2) hb3
  have Y5:=box_on (box_on Y5 hb2) hb3
  have hlm3:=hlm.on hb3
  have LBD3:=below_then LBD2 hb3
  have hrkl:(risen a.K).length ≤ 10000000000000:=by
   obtain ⟨zs,⟨-,h⟩,-⟩:=hrk
   exact h
  obtain ⟨zK,hoK,hRK⟩:=id hrk
  obtain ⟨AK,cK,rfl,-⟩:=Sl.of_own hoK.1
  clear hoK hRK zK
  obtain ⟨R,hR⟩:∃ R,risen a.K = R:=⟨_,rfl⟩
  have HRR:=Lib.hid hR
  have HRB:Hid (∀ k ∈ R,bare k = k):=Lib.hid (by rw [← hR]; exact fun k hk=>bare_risen hk)
  have HVL:Hid (∀ k ∈ R,∃ A c,lastA (a.K.zip vals) (keyV k) = some (.agg #[.int .i64 (lastV (a.K.zip a.V) k).n,.string (tx (lastV (a.K.zip a.V) k).s),.slice A (lastV (a.K.zip a.V) k).M.length c]) ∧ VAt (Rd B w1) D (lastV (a.K.zip a.V) k) [.int .i64 (lastV (a.K.zip a.V) k).n,.string (tx (lastV (a.K.zip a.V) k).s),.slice A (lastV (a.K.zip a.V) k).M.length c] ∧ lastV (a.K.zip a.V) k ∈ a.V ∧ inr k.n ∧ k.s.length ≤ maxLen):=Lib.hid (by
   rw [← hR]
   intro k hk
   obtain ⟨A,c,h1,h2⟩:=last_val hvals HLEN.out hk
   obtain ⟨x,hx,rfl⟩:=mem_risen.1 hk
   have h3:=(HI.out.2 x (.inl hx)).1
   exact ⟨A,c,h1,h2,last_V HLEN.out hk,by unfold inr; exact h3.1,by have:=h3.2; show x.s.length ≤ _; unfold maxLen; omega⟩)
  rw [hR] at hrk hrkl ⊢
  have hrl:R.length ≤ 10000000:=by
   have h1:=meas_map (N:=N) (ref:=f.ref) HLEN.out (fun _=>1) (fun _=>Nat.le_refl _) (fun _ _=>Nat.le_refl _)
   rw [sm_one,sm_one,sm_one,sm_one,hR] at h1
   have:=HLN.out
   omega
  have hsz3:w2.heap.size ≤ w3.heap.size:=hb3.size
  obtain ⟨⟨q0,q1,q2⟩,q3,q4,q5⟩:=wr3 Y5
  obtain ⟨Z1,Z2⟩:=cell3b Y5 (.slice AK R.length cK)
  have hszW:(w3.setCell ⟨w.heap.size + 4,1,none⟩ (.slice AK R.length cK)).heap.size = w3.heap.size:=by simp
  obtain ⟨W3,hW3⟩:∃ W,W = w3.setCell ⟨w.heap.size + 4,1,none⟩ (.slice AK R.length cK):=⟨_,rfl⟩
  go_wp2_with fail
  rw [← hW3] at Z1 Z2 hszW ⊢
  clear hW3 q0 q1 q2 q3 q4 q5
  have V1:=(Z2.block (w.heap.size) (by omega) (by simp)).trans Y1
  have V2:=(Z2.block (w.heap.size + 1) (by omega) (by simp)).trans Y2
  have V4:=(Z2.block (w.heap.size + 3) (by omega) (by simp)).trans Y4
  have VM:=hlm3.block (Z2.block (w1.heap.size + 1) (by omega) (by simp; omega))
  have VK:LsAt (Ow w2.heap.size W3) 81 3 (VAt (Ow w2.heap.size W3) D) R (.slice AK R.length cK):=hrk.imp (Ow.hi (hi_grown Z2 (by omega))) fun m cs h=>mono_v D (Ow.hi (hi_grown Z2 (by omega))) m cs h
  have VB:Below w.heap.size w W3:=LBD3.trans (below_own Z2 (by omega) (by omega))
  have VB1:Below w.heap.size w1 W3:=(hb2.mono (by omega)).trans ((hb3.mono (by omega)).trans (below_own Z2 (by omega) (by omega)))
  obtain ⟨Hf,hHf⟩:∃ Hf:Vl' → Vl',Hf = fun k=>norV N f.ref (lastV (a.K.zip a.V) k):=⟨_,rfl⟩
  have HHF:=Lib.hid hHf
  have HVM:=Lib.hid VM
  have HVK:=Lib.hid VK
  have hmbW:w1.heap.size + 1 < W3.heap.size:=by omega
  have hKsz:w2.heap.size ≤ W3.heap.size:=by omega
  clear hHf VM VK Y1 Y2 Y3 Y4 Y5 s0 s1 s2 Z2 hrk hlm3 hvals hlm HRI HLO LBD1 LBD2 LBD3 hb2 hb3 hR HMAP hzk
  go_loopw [46] (fun i wr=>∃ (k:Nat) (v':Value) (zs:List Value),i = .int .i64 k ∧ k ≤ R.length ∧ wr.heap[w.heap.size + 4]? = some (.cells #[.int .i64 a.no,.slice AK R.length cK,v'] 67 (0,0)) ∧ Grow (fun R=>VAt R D) 81 3 W3.heap.size wr v' ((R.take k).map Hf) zs ∧ Keep (w.heap.size + 4) W3.heap.size W3 wr) (fun i _=>R.length - (intOf i).toNat)
  case atStart=>exact ⟨0,_,[],rfl,by omega,Z1,Grow.nil _ _ _ _ _,Keep.refl _ _ _⟩
  case round =>
   obtain ⟨k,v',zs,rfl,hk,hX,hgx,hkp⟩:=hrel
   have hm1:=(hkp.block (w.heap.size) (by omega) (by omega)).trans V1
   have hm2:=(hkp.block (w.heap.size + 1) (by omega) (by omega)).trans V2
   have hm4:=(hkp.block (w.heap.size + 3) (by omega) (by omega)).trans V4
   have hmm:=HVM.out.block (hkp.block (w1.heap.size + 1) hmbW (by omega))
   have hmk:LsAt (Rd wr.heap.size wr) 81 3 (VAt (Rd wr.heap.size wr) D) R (.slice AK R.length cK):=(HVK.out.imp (Ow.hi fun q h1 h2=>hkp.block q h2 (by omega)) fun m cs h=>mono_v D (Ow.hi fun q h1 h2=>hkp.block q h2 (by omega)) m cs h).imp (fun e size v n xs h=>Rd.of_own e size v n xs h) fun m cs h=>mono_v D (fun e size v n xs h=>Rd.of_own e size v n xs h) m cs h
   have hsx:W3.heap.size ≤ wr.heap.size:=hkp.size
   have hbw:Below w.heap.size w wr:=VB.trans (hkp.lo (by omega) (by omega))
   have hBw:B ≤ wr.heap.size:=by omega
   by_cases hlt:k < R.length
   ·obtain ⟨q,hq⟩:∃ q,R[k]? = some q:=⟨_,List.getElem?_eq_getElem hlt⟩
    obtain ⟨AK2,cK2,xsK,hAK,hsK,hbK,hrK,-⟩:=hmk.open_
    simp only [Value.slice.injEq,true_and] at hAK
    obtain ⟨rfl,rfl⟩:=hAK
    obtain ⟨am,x,y,z,rfl,hga,hca,e0,e1,e2⟩:=row3 vAt.len hsK hrK hq
    obtain ⟨AM,cM,rfl,rfl,rfl⟩:=val_shape hca
    have hmem:=List.mem_of_getElem? hq
    obtain ⟨AV,cV2,hla,hvat,hvin,hq1,hq2⟩:=HVL.out q hmem
    obtain ⟨v,hv⟩:∃ v,lastV (a.K.zip a.V) q = v:=⟨_,rfl⟩
    rw [hv] at hla hvat hvin
    have hHv:Hf q = norV N f.ref v:=by rw [HHF.out,← hv]
    have hcv:=cV_le (s:=a) (.inr hvin)
    have N1:=below_new wr (.cells #[.int .i64 q.n,.string (tx q.s),.slice AM q.M.length cM] 81)
    have T1:=heap_alloc_new wr (.cells #[.int .i64 q.n,.string (tx q.s),.slice AM q.M.length cM] 81)
    obtain ⟨L,hL⟩:∃ L,(R.take k).map Hf = L:=⟨_,rfl⟩
    have hlq:L.length = k:=by rw [← hL,List.length_map,List.length_take]; omega
    rw [hL] at hgx
    have HL:=Lib.hid (show L ++ [norV N f.ref v] = (R.take (k + 1)).map Hf by rw [← hL,← hHv]; exact map_take_snoc Hf hq)
    obtain ⟨W1,hW1⟩:∃ W,W = wr.alloc (.cells #[.int .i64 q.n,.string (tx q.s),.slice AM q.M.length cM] 81):=⟨_,rfl⟩
    rw [← hW1] at N1 T1
    have hs1:W1.heap.size = wr.heap.size + 1:=by rw [hW1]; simp
    have hD:Below W1.heap.size W1 W1.drew:=(Below.refl _ _).drew
    have hb1:=below_then hbw N1
    have HKO:=Lib.hid (fun wx=>keyOf_any q (.slice AM q.M.length cM) wx)
    have HLK:=Lib.hid (fun wx (hx:Below W1.heap.size W1 wx)=>(hmm.on (N1.trans (hx.mono (by omega)))).look q ⟨hq1,hq2⟩ hla)
    have HCX:=Lib.hid (fun wx (hx:Below W1.heap.size W1 wx)=>nval_any HH.out vM vE f.ref v (.slice AV v.M.length cV2) wx (show B ≤ wx.heap.size by have:=hx.size; omega) (SAt.lo HSA.out (hb1.trans (hx.mono hb1.size)) hB) (VRd.low (Lo.of (((hkp.lo (B:=w.heap.size) (by omega) (by omega)).trans ((N1.mono (by omega)).trans (hx.mono (by omega)))).mono hB)) (VRd.low (Lo.of (VB1.mono hB)) hvat)) (HI.out.2 v (.inr hvin)) (by omega) (ask_msgs (HASK.out v hvin)) wx.heap.size (Nat.le_refl _))
    have HGX:=Lib.hid (hgx.on (mono_v D) N1)
    have HGO:=Lib.hid hgx
    have HX:=Lib.hid (box_on hX N1)
    have HM:=Lib.hid (And.intro (box_on hm1 N1) (And.intro (box_on hm2 N1) T1))
    have HB1:=Lib.hid (And.intro hkp N1)
    have g2:=(bx3 HX.out).2.2
    have hS0:(W1.cell? ⟨w.heap.size,0,none⟩ = some vM ∧ W1.cell? ⟨w.heap.size,1,none⟩ = some vE) ∧ W1.cell? ⟨w.heap.size + 1,3,none⟩ = some (.int .i64 f.ref) ∧ (W1.cell? ⟨wr.heap.size,0,none⟩ = some (.int .i64 q.n) ∧ W1.cell? ⟨wr.heap.size,1,none⟩ = some (.string (tx q.s)) ∧ W1.cell? ⟨wr.heap.size,2,none⟩ = some (.slice AM q.M.length cM)):=⟨box2' HM.out.1,heap_cell HM.out.2.1 3,bx3 HM.out.2.2⟩
    clear hX hgx hkp hm1 hm2 hm4 hca hq hL hmm hmk hla hvat hv hsK hrK hbK V1 V2 V4 Z1
    go_wp2_with fail
    rw [← hW1]
    clear hW1 e0 e1 e2
    refine wp_region_held_drew (S:=(fun w'=>(w'.cell? ⟨w.heap.size,0,none⟩ = some vM ∧ w'.cell? ⟨w.heap.size,1,none⟩ = some vE) ∧ w'.cell? ⟨w.heap.size + 1,3,none⟩ = some (.int .i64 f.ref) ∧ (w'.cell? ⟨wr.heap.size,0,none⟩ = some (.int .i64 q.n) ∧ w'.cell? ⟨wr.heap.size,1,none⟩ = some (.string (tx q.s)) ∧ w'.cell? ⟨wr.heap.size,2,none⟩ = some (.slice AM q.M.length cM)))) (by kernel_rfl) (hS0) (fun hHeld=>?_)
    refine tk 0 ?_
    refine tk 2 ?_
    refine tk 3 ?_
    refine tk 4 ?_
    refine tk 5 ?_
    refine tk 6 ?_
    refine wpAnyH_ready (rs:=[1,7]) (by kernel_rfl) (by simp) ?_
    refine AllReadyH.cons rfl (fun K hK=>?_) (AllReadyH.cons rfl (fun K hK=>?_) AllReadyH.nil)
    ·go_simp
     refine hK.out _ _ (hS0) (fun hHeld=>?_)
     clear hK K
     refine wpAnyH_ready (rs:=[7]) (by kernel_rfl) (by simp) ?_
     refine AllReadyH.cons rfl (fun K hK=>?_) AllReadyH.nil
     go_simp
     (go_at_call 135; refine (HKO.out _).mono ?_; rintro e w6 ⟨rfl,hb6⟩; have hb6d:=Lib.hid (hD.trans hb6); have hlk:=HLK.out _ hb6d.out; have HX6:=Lib.hid (box_on HX.out hb6d.out); have c6:=(bx3 HX6.out).2.2; have HM6:=Lib.hid (And.intro (box_on HM.out.1 hb6d.out) (And.intro (box_on HM.out.2.1 hb6d.out) (box_on HM.out.2.2 hb6d.out))))
     go_wp2_with fail
     refine hK.out _ _ (And.intro (box2' (HM6.out.1)) (And.intro (heap_cell (HM6.out.2.1) 3) (bx3 (HM6.out.2.2)))) (fun hHeld=>?_)
     clear hK K
     refine wpAnyH_ready (rs:=[8]) (by kernel_rfl) (by simp) ?_
     refine AllReadyH.cons rfl (fun K hK=>?_) AllReadyH.nil
     go_simp
     refine hK.out _ _ (And.intro (box2' (HM6.out.1)) (And.intro (heap_cell (HM6.out.2.1) 3) (bx3 (HM6.out.2.2)))) (fun hHeld=>?_)
     clear hK K
     refine wpAnyH_ready (rs:=[9]) (by kernel_rfl) (by simp) ?_
     refine AllReadyH.cons rfl (fun K hK=>?_) AllReadyH.nil
     go_simp
     (go_at_call 132; refine (HCX.out _ hb6d.out).mono ?_; rintro e w7 ⟨x1,x2,x3,rfl,ho7,hb7⟩; have hb7d:=Lib.hid (hb6d.out.trans (hb7.mono hb6d.out.size)); have hs67:=hb6d.out.size; have HX7:=Lib.hid (box_on HX.out hb7d.out); have c7:=(bx3 HX7.out).2.2; have c7b:=(bx3 (box_on HX7.out (below_new w7 (.cells #[x1,x2,x3] 81)))).2.2; have HG8:=Lib.hid ((HGX.out.on (mono_v D) hb7d.out).on (mono_v D) (below_new w7 (.cells #[x1,x2,x3] 81))); have hs7:W1.heap.size ≤ w7.heap.size:=hb7d.out.size; have HM7:=Lib.hid (And.intro (box_on HM.out.1 hb7d.out) (And.intro (box_on HM.out.2.1 hb7d.out) (box_on HM.out.2.2 hb7d.out))))
     go_wp2_with fail
     refine hK.out _ _ (And.intro (box2' (HM7.out.1)) (And.intro (heap_cell (HM7.out.2.1) 3) (bx3 (HM7.out.2.2)))) (fun hHeld=>?_)
     clear hK K
     refine wpAnyH_ready (rs:=[10]) (by kernel_rfl) (by simp) ?_
     refine AllReadyH.cons rfl (fun K hK=>?_) AllReadyH.nil
     go_simp
     refine hK.out _ _ (And.intro (box2' (box_on HM7.out.1 (below_new w7 (.cells #[x1,x2,x3] 81)))) (And.intro (heap_cell (box_on HM7.out.2.1 (below_new w7 (.cells #[x1,x2,x3] 81))) 3) (bx3 (box_on HM7.out.2.2 (below_new w7 (.cells #[x1,x2,x3] 81)))))) (fun hHeld=>?_)
     clear hK K
     refine wpAnyH_ready (rs:=[11]) (by kernel_rfl) (by simp) ?_
     refine AllReadyH.cons rfl (fun K hK=>?_) AllReadyH.nil
     (refine step_append_lies _ rfl _ _ 65 rfl W3.heap.size 81 i0 _ 3 48 Tryz.underlying65 hi0 hz0 hz1 hz2 rfl (by decide) v' L.length zs (by simp [Act.eval,Act.put]) HG8.out.own ⟨w7.heap.size,0,none⟩ 1 1 [x1,x2,x3] (by simp [Act.eval,Act.put]) rfl (World.news_of_block (heap_alloc_new _ _)) (vAt.oneO _ _ ho7) (by decide) (by unfold maxLen; omega) (by omega) (by simp; omega) w7.heap.size.succ (by simp) ?_; intro g8 cap8 w8 hown8 hg8 hat8 hlt8; have hX8:=Lib.hid (box_far (box_on HX7.out (below_new w7 (.cells #[x1,x2,x3] 81))) hg8 HG8.out.own (show w.heap.size + 4 < W3.heap.size by omega)); have f8:w8.frozen? ⟨w.heap.size + 4,2,none⟩ = false:=(by simp [World.frozen?,hX8.out]); have c8:=(bx3 hX8.out).2.2; have HM8:=Lib.hid (And.intro (box_far (box_on HM7.out.1 (below_new w7 (.cells #[x1,x2,x3] 81))) hg8 HG8.out.own (show w.heap.size < W3.heap.size by omega)) (And.intro (box_far (box_on HM7.out.2.1 (below_new w7 (.cells #[x1,x2,x3] 81))) hg8 HG8.out.own (show w.heap.size + 1 < W3.heap.size by omega)) (box_new (box_on HM7.out.2.2 (below_new w7 (.cells #[x1,x2,x3] 81))) hg8 fun q hq=>HGO.out.lt q hq))))
     refine hK.out _ _ (And.intro (box2' (HM8.out.1)) (And.intro (heap_cell (HM8.out.2.1) 3) (bx3 (HM8.out.2.2)))) (fun hHeld=>?_)
     clear hK K
     refine tk 12 ?_
     refine wpAnyH_ready (rs:=[13]) (by kernel_rfl) (by simp) ?_
     refine AllReadyH.cons rfl (fun K hK=>?_) AllReadyH.nil
     go_simp
     refine hK.out _ _ (And.intro (box2' (box_set (g:=w.heap.size + 4) (j:=2) HM8.out.1 (by omega) _)) (And.intro (heap_cell (box_set (g:=w.heap.size + 4) (j:=2) HM8.out.2.1 (by omega) _) 3) (bx3 (box_set (g:=w.heap.size + 4) (j:=2) HM8.out.2.2 (by omega) _)))) (fun hHeld=>?_)
     clear hK K
     refine wpAnyH_done (by kernel_rfl) ?_ _
     obtain ⟨Z1,Z2⟩:=cell3 hX8.out (.slice (some ⟨g8,0,none⟩) (L.length + 1) cap8)
     have hnew:=(Grow.app (mono_v D) HG8.out (a:=norV N f.ref v) (b':=w6.heap.size) (by omega) (fun k hk=>Nat.lt_of_lt_of_le (HGX.out.lt k hk) hs67) (mono_v D (Ow.hi (hi_below _ (below_new w7 (.cells #[x1,x2,x3] 81)))) _ _ ho7) hown8 hg8 (hat8.imp id fun h=>by rw [h]; simp)).box (mono_v D) Z2 (show w.heap.size + 4 < W3.heap.size by omega)
     rw [HL.out] at hnew
     rw [hlq] at hnew Z1 Z2
     have hbz:Keep (w.heap.size + 4) W3.heap.size wr _:=(Keep.below HB1.out.2 (by omega)).trans ((Keep.below hb7d.out (by omega)).trans ((Keep.below (below_new w7 (.cells #[x1,x2,x3] 81)) (by omega)).trans ((Keep.row hg8 HG8.out.own (Nat.le_refl _) (by simp; omega)).trans (Keep.box Z2 (by have:=hg8.size; simp at this; omega)))))
     try rw [hlq]
     go_wp2
     refine ⟨⟨k + 1,_,_,by go_num,by omega,Z1,hnew,HB1.out.1.trans hbz⟩,by simp [intOf]; omega⟩
    ·go_simp
     (go_at_call 135; refine (HKO.out _).mono ?_; rintro e w6 ⟨rfl,hb6⟩; have hb6d:=Lib.hid (hD.trans hb6); have hlk:=HLK.out _ hb6d.out; have HX6:=Lib.hid (box_on HX.out hb6d.out); have c6:=(bx3 HX6.out).2.2; have HM6:=Lib.hid (And.intro (box_on HM.out.1 hb6d.out) (And.intro (box_on HM.out.2.1 hb6d.out) (box_on HM.out.2.2 hb6d.out))))
     go_wp2_with fail
     refine hK.out _ _ (And.intro (box2' (HM6.out.1)) (And.intro (heap_cell (HM6.out.2.1) 3) (bx3 (HM6.out.2.2)))) (fun hHeld=>?_)
     clear hK K
     refine wpAnyH_ready (rs:=[1,8]) (by kernel_rfl) (by simp) ?_
     refine AllReadyH.cons rfl (fun K hK=>?_) (AllReadyH.cons rfl (fun K hK=>?_) AllReadyH.nil)
     ·go_simp
      refine hK.out _ _ (And.intro (box2' (HM6.out.1)) (And.intro (heap_cell (HM6.out.2.1) 3) (bx3 (HM6.out.2.2)))) (fun hHeld=>?_)
      clear hK K
      refine wpAnyH_ready (rs:=[8]) (by kernel_rfl) (by simp) ?_
      refine AllReadyH.cons rfl (fun K hK=>?_) AllReadyH.nil
      go_simp
      refine hK.out _ _ (And.intro (box2' (HM6.out.1)) (And.intro (heap_cell (HM6.out.2.1) 3) (bx3 (HM6.out.2.2)))) (fun hHeld=>?_)
      clear hK K
      refine wpAnyH_ready (rs:=[9]) (by kernel_rfl) (by simp) ?_
      refine AllReadyH.cons rfl (fun K hK=>?_) AllReadyH.nil
      go_simp
      (go_at_call 132; refine (HCX.out _ hb6d.out).mono ?_; rintro e w7 ⟨x1,x2,x3,rfl,ho7,hb7⟩; have hb7d:=Lib.hid (hb6d.out.trans (hb7.mono hb6d.out.size)); have hs67:=hb6d.out.size; have HX7:=Lib.hid (box_on HX.out hb7d.out); have c7:=(bx3 HX7.out).2.2; have c7b:=(bx3 (box_on HX7.out (below_new w7 (.cells #[x1,x2,x3] 81)))).2.2; have HG8:=Lib.hid ((HGX.out.on (mono_v D) hb7d.out).on (mono_v D) (below_new w7 (.cells #[x1,x2,x3] 81))); have hs7:W1.heap.size ≤ w7.heap.size:=hb7d.out.size; have HM7:=Lib.hid (And.intro (box_on HM.out.1 hb7d.out) (And.intro (box_on HM.out.2.1 hb7d.out) (box_on HM.out.2.2 hb7d.out))))
      go_wp2_with fail
      refine hK.out _ _ (And.intro (box2' (HM7.out.1)) (And.intro (heap_cell (HM7.out.2.1) 3) (bx3 (HM7.out.2.2)))) (fun hHeld=>?_)
      clear hK K
      refine wpAnyH_ready (rs:=[10]) (by kernel_rfl) (by simp) ?_
      refine AllReadyH.cons rfl (fun K hK=>?_) AllReadyH.nil
      go_simp
      refine hK.out _ _ (And.intro (box2' (box_on HM7.out.1 (below_new w7 (.cells #[x1,x2,x3] 81)))) (And.intro (heap_cell (box_on HM7.out.2.1 (below_new w7 (.cells #[x1,x2,x3] 81))) 3) (bx3 (box_on HM7.out.2.2 (below_new w7 (.cells #[x1,x2,x3] 81)))))) (fun hHeld=>?_)
      clear hK K
      refine wpAnyH_ready (rs:=[11]) (by kernel_rfl) (by simp) ?_
      refine AllReadyH.cons rfl (fun K hK=>?_) AllReadyH.nil
      (refine step_append_lies _ rfl _ _ 65 rfl W3.heap.size 81 i0 _ 3 48 Tryz.underlying65 hi0 hz0 hz1 hz2 rfl (by decide) v' L.length zs (by simp [Act.eval,Act.put]) HG8.out.own ⟨w7.heap.size,0,none⟩ 1 1 [x1,x2,x3] (by simp [Act.eval,Act.put]) rfl (World.news_of_block (heap_alloc_new _ _)) (vAt.oneO _ _ ho7) (by decide) (by unfold maxLen; omega) (by omega) (by simp; omega) w7.heap.size.succ (by simp) ?_; intro g8 cap8 w8 hown8 hg8 hat8 hlt8; have hX8:=Lib.hid (box_far (box_on HX7.out (below_new w7 (.cells #[x1,x2,x3] 81))) hg8 HG8.out.own (show w.heap.size + 4 < W3.heap.size by omega)); have f8:w8.frozen? ⟨w.heap.size + 4,2,none⟩ = false:=(by simp [World.frozen?,hX8.out]); have c8:=(bx3 hX8.out).2.2; have HM8:=Lib.hid (And.intro (box_far (box_on HM7.out.1 (below_new w7 (.cells #[x1,x2,x3] 81))) hg8 HG8.out.own (show w.heap.size < W3.heap.size by omega)) (And.intro (box_far (box_on HM7.out.2.1 (below_new w7 (.cells #[x1,x2,x3] 81))) hg8 HG8.out.own (show w.heap.size + 1 < W3.heap.size by omega)) (box_new (box_on HM7.out.2.2 (below_new w7 (.cells #[x1,x2,x3] 81))) hg8 fun q hq=>HGO.out.lt q hq))))
      refine hK.out _ _ (And.intro (box2' (HM8.out.1)) (And.intro (heap_cell (HM8.out.2.1) 3) (bx3 (HM8.out.2.2)))) (fun hHeld=>?_)
      clear hK K
      refine tk 12 ?_
      refine wpAnyH_ready (rs:=[13]) (by kernel_rfl) (by simp) ?_
      refine AllReadyH.cons rfl (fun K hK=>?_) AllReadyH.nil
      go_simp
      refine hK.out _ _ (And.intro (box2' (box_set (g:=w.heap.size + 4) (j:=2) HM8.out.1 (by omega) _)) (And.intro (heap_cell (box_set (g:=w.heap.size + 4) (j:=2) HM8.out.2.1 (by omega) _) 3) (bx3 (box_set (g:=w.heap.size + 4) (j:=2) HM8.out.2.2 (by omega) _)))) (fun hHeld=>?_)
      clear hK K
      refine wpAnyH_done (by kernel_rfl) ?_ _
      obtain ⟨Z1,Z2⟩:=cell3 hX8.out (.slice (some ⟨g8,0,none⟩) (L.length + 1) cap8)
      have hnew:=(Grow.app (mono_v D) HG8.out (a:=norV N f.ref v) (b':=w6.heap.size) (by omega) (fun k hk=>Nat.lt_of_lt_of_le (HGX.out.lt k hk) hs67) (mono_v D (Ow.hi (hi_below _ (below_new w7 (.cells #[x1,x2,x3] 81)))) _ _ ho7) hown8 hg8 (hat8.imp id fun h=>by rw [h]; simp)).box (mono_v D) Z2 (show w.heap.size + 4 < W3.heap.size by omega)
      rw [HL.out] at hnew
      rw [hlq] at hnew Z1 Z2
      have hbz:Keep (w.heap.size + 4) W3.heap.size wr _:=(Keep.below HB1.out.2 (by omega)).trans ((Keep.below hb7d.out (by omega)).trans ((Keep.below (below_new w7 (.cells #[x1,x2,x3] 81)) (by omega)).trans ((Keep.row hg8 HG8.out.own (Nat.le_refl _) (by simp; omega)).trans (Keep.box Z2 (by have:=hg8.size; simp at this; omega)))))
      try rw [hlq]
      go_wp2
      refine ⟨⟨k + 1,_,_,by go_num,by omega,Z1,hnew,HB1.out.1.trans hbz⟩,by simp [intOf]; omega⟩
     ·go_simp
      refine hK.out _ _ (And.intro (box2' (HM6.out.1)) (And.intro (heap_cell (HM6.out.2.1) 3) (bx3 (HM6.out.2.2)))) (fun hHeld=>?_)
      clear hK K
      refine wpAnyH_ready (rs:=[1,9]) (by kernel_rfl) (by simp) ?_
      refine AllReadyH.cons rfl (fun K hK=>?_) (AllReadyH.cons rfl (fun K hK=>?_) AllReadyH.nil)
      ·go_simp
       refine hK.out _ _ (And.intro (box2' (HM6.out.1)) (And.intro (heap_cell (HM6.out.2.1) 3) (bx3 (HM6.out.2.2)))) (fun hHeld=>?_)
       clear hK K
       refine wpAnyH_ready (rs:=[9]) (by kernel_rfl) (by simp) ?_
       refine AllReadyH.cons rfl (fun K hK=>?_) AllReadyH.nil
       go_simp
       (go_at_call 132; refine (HCX.out _ hb6d.out).mono ?_; rintro e w7 ⟨x1,x2,x3,rfl,ho7,hb7⟩; have hb7d:=Lib.hid (hb6d.out.trans (hb7.mono hb6d.out.size)); have hs67:=hb6d.out.size; have HX7:=Lib.hid (box_on HX.out hb7d.out); have c7:=(bx3 HX7.out).2.2; have c7b:=(bx3 (box_on HX7.out (below_new w7 (.cells #[x1,x2,x3] 81)))).2.2; have HG8:=Lib.hid ((HGX.out.on (mono_v D) hb7d.out).on (mono_v D) (below_new w7 (.cells #[x1,x2,x3] 81))); have hs7:W1.heap.size ≤ w7.heap.size:=hb7d.out.size; have HM7:=Lib.hid (And.intro (box_on HM.out.1 hb7d.out) (And.intro (box_on HM.out.2.1 hb7d.out) (box_on HM.out.2.2 hb7d.out))))
       go_wp2_with fail
       refine hK.out _ _ (And.intro (box2' (HM7.out.1)) (And.intro (heap_cell (HM7.out.2.1) 3) (bx3 (HM7.out.2.2)))) (fun hHeld=>?_)
       clear hK K
       refine wpAnyH_ready (rs:=[10]) (by kernel_rfl) (by simp) ?_
       refine AllReadyH.cons rfl (fun K hK=>?_) AllReadyH.nil
       go_simp
       refine hK.out _ _ (And.intro (box2' (box_on HM7.out.1 (below_new w7 (.cells #[x1,x2,x3] 81)))) (And.intro (heap_cell (box_on HM7.out.2.1 (below_new w7 (.cells #[x1,x2,x3] 81))) 3) (bx3 (box_on HM7.out.2.2 (below_new w7 (.cells #[x1,x2,x3] 81)))))) (fun hHeld=>?_)
       clear hK K
       refine wpAnyH_ready (rs:=[11]) (by kernel_rfl) (by simp) ?_
       refine AllReadyH.cons rfl (fun K hK=>?_) AllReadyH.nil
       (refine step_append_lies _ rfl _ _ 65 rfl W3.heap.size 81 i0 _ 3 48 Tryz.underlying65 hi0 hz0 hz1 hz2 rfl (by decide) v' L.length zs (by simp [Act.eval,Act.put]) HG8.out.own ⟨w7.heap.size,0,none⟩ 1 1 [x1,x2,x3] (by simp [Act.eval,Act.put]) rfl (World.news_of_block (heap_alloc_new _ _)) (vAt.oneO _ _ ho7) (by decide) (by unfold maxLen; omega) (by omega) (by simp; omega) w7.heap.size.succ (by simp) ?_; intro g8 cap8 w8 hown8 hg8 hat8 hlt8; have hX8:=Lib.hid (box_far (box_on HX7.out (below_new w7 (.cells #[x1,x2,x3] 81))) hg8 HG8.out.own (show w.heap.size + 4 < W3.heap.size by omega)); have f8:w8.frozen? ⟨w.heap.size + 4,2,none⟩ = false:=(by simp [World.frozen?,hX8.out]); have c8:=(bx3 hX8.out).2.2; have HM8:=Lib.hid (And.intro (box_far (box_on HM7.out.1 (below_new w7 (.cells #[x1,x2,x3] 81))) hg8 HG8.out.own (show w.heap.size < W3.heap.size by omega)) (And.intro (box_far (box_on HM7.out.2.1 (below_new w7 (.cells #[x1,x2,x3] 81))) hg8 HG8.out.own (show w.heap.size + 1 < W3.heap.size by omega)) (box_new (box_on HM7.out.2.2 (below_new w7 (.cells #[x1,x2,x3] 81))) hg8 fun q hq=>HGO.out.lt q hq))))
       refine hK.out _ _ (And.intro (box2' (HM8.out.1)) (And.intro (heap_cell (HM8.out.2.1) 3) (bx3 (HM8.out.2.2)))) (fun hHeld=>?_)
       clear hK K
       refine tk 12 ?_
       refine wpAnyH_ready (rs:=[13]) (by kernel_rfl) (by simp) ?_
       refine AllReadyH.cons rfl (fun K hK=>?_) AllReadyH.nil
       go_simp
       refine hK.out _ _ (And.intro (box2' (box_set (g:=w.heap.size + 4) (j:=2) HM8.out.1 (by omega) _)) (And.intro (heap_cell (box_set (g:=w.heap.size + 4) (j:=2) HM8.out.2.1 (by omega) _) 3) (bx3 (box_set (g:=w.heap.size + 4) (j:=2) HM8.out.2.2 (by omega) _)))) (fun hHeld=>?_)
       clear hK K
       refine wpAnyH_done (by kernel_rfl) ?_ _
       obtain ⟨Z1,Z2⟩:=cell3 hX8.out (.slice (some ⟨g8,0,none⟩) (L.length + 1) cap8)
       have hnew:=(Grow.app (mono_v D) HG8.out (a:=norV N f.ref v) (b':=w6.heap.size) (by omega) (fun k hk=>Nat.lt_of_lt_of_le (HGX.out.lt k hk) hs67) (mono_v D (Ow.hi (hi_below _ (below_new w7 (.cells #[x1,x2,x3] 81)))) _ _ ho7) hown8 hg8 (hat8.imp id fun h=>by rw [h]; simp)).box (mono_v D) Z2 (show w.heap.size + 4 < W3.heap.size by omega)
       rw [HL.out] at hnew
       rw [hlq] at hnew Z1 Z2
       have hbz:Keep (w.heap.size + 4) W3.heap.size wr _:=(Keep.below HB1.out.2 (by omega)).trans ((Keep.below hb7d.out (by omega)).trans ((Keep.below (below_new w7 (.cells #[x1,x2,x3] 81)) (by omega)).trans ((Keep.row hg8 HG8.out.own (Nat.le_refl _) (by simp; omega)).trans (Keep.box Z2 (by have:=hg8.size; simp at this; omega)))))
       try rw [hlq]
       go_wp2
       refine ⟨⟨k + 1,_,_,by go_num,by omega,Z1,hnew,HB1.out.1.trans hbz⟩,by simp [intOf]; omega⟩
      ·go_simp
       (go_at_call 132; refine (HCX.out _ hb6d.out).mono ?_; rintro e w7 ⟨x1,x2,x3,rfl,ho7,hb7⟩; have hb7d:=Lib.hid (hb6d.out.trans (hb7.mono hb6d.out.size)); have hs67:=hb6d.out.size; have HX7:=Lib.hid (box_on HX.out hb7d.out); have c7:=(bx3 HX7.out).2.2; have c7b:=(bx3 (box_on HX7.out (below_new w7 (.cells #[x1,x2,x3] 81)))).2.2; have HG8:=Lib.hid ((HGX.out.on (mono_v D) hb7d.out).on (mono_v D) (below_new w7 (.cells #[x1,x2,x3] 81))); have hs7:W1.heap.size ≤ w7.heap.size:=hb7d.out.size; have HM7:=Lib.hid (And.intro (box_on HM.out.1 hb7d.out) (And.intro (box_on HM.out.2.1 hb7d.out) (box_on HM.out.2.2 hb7d.out))))
       go_wp2_with fail
       refine hK.out _ _ (And.intro (box2' (HM7.out.1)) (And.intro (heap_cell (HM7.out.2.1) 3) (bx3 (HM7.out.2.2)))) (fun hHeld=>?_)
       clear hK K
       refine wpAnyH_ready (rs:=[1,10]) (by kernel_rfl) (by simp) ?_
       refine AllReadyH.cons rfl (fun K hK=>?_) (AllReadyH.cons rfl (fun K hK=>?_) AllReadyH.nil)
       ·go_simp
        refine hK.out _ _ (And.intro (box2' (HM7.out.1)) (And.intro (heap_cell (HM7.out.2.1) 3) (bx3 (HM7.out.2.2)))) (fun hHeld=>?_)
        clear hK K
        refine wpAnyH_ready (rs:=[10]) (by kernel_rfl) (by simp) ?_
        refine AllReadyH.cons rfl (fun K hK=>?_) AllReadyH.nil
        go_simp
        refine hK.out _ _ (And.intro (box2' (box_on HM7.out.1 (below_new w7 (.cells #[x1,x2,x3] 81)))) (And.intro (heap_cell (box_on HM7.out.2.1 (below_new w7 (.cells #[x1,x2,x3] 81))) 3) (bx3 (box_on HM7.out.2.2 (below_new w7 (.cells #[x1,x2,x3] 81)))))) (fun hHeld=>?_)
        clear hK K
        refine wpAnyH_ready (rs:=[11]) (by kernel_rfl) (by simp) ?_
        refine AllReadyH.cons rfl (fun K hK=>?_) AllReadyH.nil
        (refine step_append_lies _ rfl _ _ 65 rfl W3.heap.size 81 i0 _ 3 48 Tryz.underlying65 hi0 hz0 hz1 hz2 rfl (by decide) v' L.length zs (by simp [Act.eval,Act.put]) HG8.out.own ⟨w7.heap.size,0,none⟩ 1 1 [x1,x2,x3] (by simp [Act.eval,Act.put]) rfl (World.news_of_block (heap_alloc_new _ _)) (vAt.oneO _ _ ho7) (by decide) (by unfold maxLen; omega) (by omega) (by simp; omega) w7.heap.size.succ (by simp) ?_; intro g8 cap8 w8 hown8 hg8 hat8 hlt8; have hX8:=Lib.hid (box_far (box_on HX7.out (below_new w7 (.cells #[x1,x2,x3] 81))) hg8 HG8.out.own (show w.heap.size + 4 < W3.heap.size by omega)); have f8:w8.frozen? ⟨w.heap.size + 4,2,none⟩ = false:=(by simp [World.frozen?,hX8.out]); have c8:=(bx3 hX8.out).2.2; have HM8:=Lib.hid (And.intro (box_far (box_on HM7.out.1 (below_new w7 (.cells #[x1,x2,x3] 81))) hg8 HG8.out.own (show w.heap.size < W3.heap.size by omega)) (And.intro (box_far (box_on HM7.out.2.1 (below_new w7 (.cells #[x1,x2,x3] 81))) hg8 HG8.out.own (show w.heap.size + 1 < W3.heap.size by omega)) (box_new (box_on HM7.out.2.2 (below_new w7 (.cells #[x1,x2,x3] 81))) hg8 fun q hq=>HGO.out.lt q hq))))
        refine hK.out _ _ (And.intro (box2' (HM8.out.1)) (And.intro (heap_cell (HM8.out.2.1) 3) (bx3 (HM8.out.2.2)))) (fun hHeld=>?_)
        clear hK K
        refine tk 12 ?_
        refine wpAnyH_ready (rs:=[13]) (by kernel_rfl) (by simp) ?_
        refine AllReadyH.cons rfl (fun K hK=>?_) AllReadyH.nil
        go_simp
        refine hK.out _ _ (And.intro (box2' (box_set (g:=w.heap.size + 4) (j:=2) HM8.out.1 (by omega) _)) (And.intro (heap_cell (box_set (g:=w.heap.size + 4) (j:=2) HM8.out.2.1 (by omega) _) 3) (bx3 (box_set (g:=w.heap.size + 4) (j:=2) HM8.out.2.2 (by omega) _)))) (fun hHeld=>?_)
        clear hK K
        refine wpAnyH_done (by kernel_rfl) ?_ _
        obtain ⟨Z1,Z2⟩:=cell3 hX8.out (.slice (some ⟨g8,0,none⟩) (L.length + 1) cap8)
        have hnew:=(Grow.app (mono_v D) HG8.out (a:=norV N f.ref v) (b':=w6.heap.size) (by omega) (fun k hk=>Nat.lt_of_lt_of_le (HGX.out.lt k hk) hs67) (mono_v D (Ow.hi (hi_below _ (below_new w7 (.cells #[x1,x2,x3] 81)))) _ _ ho7) hown8 hg8 (hat8.imp id fun h=>by rw [h]; simp)).box (mono_v D) Z2 (show w.heap.size + 4 < W3.heap.size by omega)
        rw [HL.out] at hnew
        rw [hlq] at hnew Z1 Z2
        have hbz:Keep (w.heap.size + 4) W3.heap.size wr _:=(Keep.below HB1.out.2 (by omega)).trans ((Keep.below hb7d.out (by omega)).trans ((Keep.below (below_new w7 (.cells #[x1,x2,x3] 81)) (by omega)).trans ((Keep.row hg8 HG8.out.own (Nat.le_refl _) (by simp; omega)).trans (Keep.box Z2 (by have:=hg8.size; simp at this; omega)))))
        try rw [hlq]
        go_wp2
        refine ⟨⟨k + 1,_,_,by go_num,by omega,Z1,hnew,HB1.out.1.trans hbz⟩,by simp [intOf]; omega⟩
       ·go_simp
        refine hK.out _ _ (And.intro (box2' (box_on HM7.out.1 (below_new w7 (.cells #[x1,x2,x3] 81)))) (And.intro (heap_cell (box_on HM7.out.2.1 (below_new w7 (.cells #[x1,x2,x3] 81))) 3) (bx3 (box_on HM7.out.2.2 (below_new w7 (.cells #[x1,x2,x3] 81)))))) (fun hHeld=>?_)
        clear hK K
        refine wpAnyH_ready (rs:=[1]) (by kernel_rfl) (by simp) ?_
        refine AllReadyH.cons rfl (fun K hK=>?_) AllReadyH.nil
        go_simp
        refine hK.out _ _ (And.intro (box2' (box_on HM7.out.1 (below_new w7 (.cells #[x1,x2,x3] 81)))) (And.intro (heap_cell (box_on HM7.out.2.1 (below_new w7 (.cells #[x1,x2,x3] 81))) 3) (bx3 (box_on HM7.out.2.2 (below_new w7 (.cells #[x1,x2,x3] 81)))))) (fun hHeld=>?_)
        clear hK K
        refine wpAnyH_ready (rs:=[11]) (by kernel_rfl) (by simp) ?_
        refine AllReadyH.cons rfl (fun K hK=>?_) AllReadyH.nil
        (refine step_append_lies _ rfl _ _ 65 rfl W3.heap.size 81 i0 _ 3 48 Tryz.underlying65 hi0 hz0 hz1 hz2 rfl (by decide) v' L.length zs (by simp [Act.eval,Act.put]) HG8.out.own ⟨w7.heap.size,0,none⟩ 1 1 [x1,x2,x3] (by simp [Act.eval,Act.put]) rfl (World.news_of_block (heap_alloc_new _ _)) (vAt.oneO _ _ ho7) (by decide) (by unfold maxLen; omega) (by omega) (by simp; omega) w7.heap.size.succ (by simp) ?_; intro g8 cap8 w8 hown8 hg8 hat8 hlt8; have hX8:=Lib.hid (box_far (box_on HX7.out (below_new w7 (.cells #[x1,x2,x3] 81))) hg8 HG8.out.own (show w.heap.size + 4 < W3.heap.size by omega)); have f8:w8.frozen? ⟨w.heap.size + 4,2,none⟩ = false:=(by simp [World.frozen?,hX8.out]); have c8:=(bx3 hX8.out).2.2; have HM8:=Lib.hid (And.intro (box_far (box_on HM7.out.1 (below_new w7 (.cells #[x1,x2,x3] 81))) hg8 HG8.out.own (show w.heap.size < W3.heap.size by omega)) (And.intro (box_far (box_on HM7.out.2.1 (below_new w7 (.cells #[x1,x2,x3] 81))) hg8 HG8.out.own (show w.heap.size + 1 < W3.heap.size by omega)) (box_new (box_on HM7.out.2.2 (below_new w7 (.cells #[x1,x2,x3] 81))) hg8 fun q hq=>HGO.out.lt q hq))))
        refine hK.out _ _ (And.intro (box2' (HM8.out.1)) (And.intro (heap_cell (HM8.out.2.1) 3) (bx3 (HM8.out.2.2)))) (fun hHeld=>?_)
        clear hK K
        refine tk 12 ?_
        refine wpAnyH_ready (rs:=[13]) (by kernel_rfl) (by simp) ?_
        refine AllReadyH.cons rfl (fun K hK=>?_) AllReadyH.nil
        go_simp
        refine hK.out _ _ (And.intro (box2' (box_set (g:=w.heap.size + 4) (j:=2) HM8.out.1 (by omega) _)) (And.intro (heap_cell (box_set (g:=w.heap.size + 4) (j:=2) HM8.out.2.1 (by omega) _) 3) (bx3 (box_set (g:=w.heap.size + 4) (j:=2) HM8.out.2.2 (by omega) _)))) (fun hHeld=>?_)
        clear hK K
        refine wpAnyH_done (by kernel_rfl) ?_ _
        obtain ⟨Z1,Z2⟩:=cell3 hX8.out (.slice (some ⟨g8,0,none⟩) (L.length + 1) cap8)
        have hnew:=(Grow.app (mono_v D) HG8.out (a:=norV N f.ref v) (b':=w6.heap.size) (by omega) (fun k hk=>Nat.lt_of_lt_of_le (HGX.out.lt k hk) hs67) (mono_v D (Ow.hi (hi_below _ (below_new w7 (.cells #[x1,x2,x3] 81)))) _ _ ho7) hown8 hg8 (hat8.imp id fun h=>by rw [h]; simp)).box (mono_v D) Z2 (show w.heap.size + 4 < W3.heap.size by omega)
        rw [HL.out] at hnew
        rw [hlq] at hnew Z1 Z2
        have hbz:Keep (w.heap.size + 4) W3.heap.size wr _:=(Keep.below HB1.out.2 (by omega)).trans ((Keep.below hb7d.out (by omega)).trans ((Keep.below (below_new w7 (.cells #[x1,x2,x3] 81)) (by omega)).trans ((Keep.row hg8 HG8.out.own (Nat.le_refl _) (by simp; omega)).trans (Keep.box Z2 (by have:=hg8.size; simp at this; omega)))))
        try rw [hlq]
        go_wp2
        refine ⟨⟨k + 1,_,_,by go_num,by omega,Z1,hnew,HB1.out.1.trans hbz⟩,by simp [intOf]; omega⟩
   ·obtain rfl:k = R.length:=by omega
    rw [List.take_length] at hgx
    obtain ⟨Av,cv,rfl,-⟩:=Sl.of_own hgx.own
    rw [List.length_map] at hX hgx
    obtain ⟨g0,g1,g2⟩:=bx3 hX
    obtain ⟨⟨q0,q1,q2⟩,q3,q4,q5⟩:=wr3 hm4
    have hbK:LsAt (Ow w2.heap.size wr) 81 3 (VAt (Ow w2.heap.size wr) D) R (.slice AK R.length cK):=HVK.out.imp (Ow.hi fun q h1 h2=>hkp.block q h2 (by omega)) fun m cs h=>mono_v D (Ow.hi fun q h1 h2=>hkp.block q h2 (by omega)) m cs h
    go_wp2
    obtain ⟨Z1,Z2⟩:=three_set hm4 (.int .i64 a.no) (.slice AK R.length cK) (.slice Av R.length cv)
    refine bodyPost_ret (results_cell_row rfl _ _ (w.heap.size + 3) _ _ (0,0) _ rfl Z1 Tryz.underlying67 rfl sz_slot) rfl ?_
    have h1:=(hgx.box (mono_v D) Z2 (show w.heap.size + 3 < W3.heap.size by omega)).less (mono_v D) (show b ≤ W3.heap.size by omega)
    have h2:=hbK.imp (Ow.hi' (hi_grown Z2 (by omega)) (show b ≤ w2.heap.size by omega)) fun m cs h=>mono_v D (Ow.hi' (hi_grown Z2 (by omega)) (show b ≤ w2.heap.size by omega)) m cs h
    have e:norS N f a = ⟨a.no,R,R.map Hf⟩:=by unfold norS; rw [if_neg HK.out,HRR.out,HHF.out]
    rw [e]
    exact ⟨_,_,_,rfl,⟨_,_,rfl,h2,h1.ow (mono_v D) (by rw [List.length_map]; omega)⟩,hbw.trans (below_own Z2 (by omega) (by omega))⟩
set_option maxRecDepth 1000000 in
set_option maxHeartbeats 2000000 in
theorem isDefault_any (v:Vl') (A:Option Addr) (c:Nat) (w:World) :
  Calls Tryz.prog 131 #[.agg #[.int .i64 v.n,.string (tx v.s),.slice A v.M.length c]] w fun e w'=>e = .returned (.bool (defB v)) ∧ Below w.heap.size w w':=by
 have LBD:=below_new w (.cells #[.int .i64 v.n,.string (tx v.s),.slice A v.M.length c] 81)
 have HB:Hid (defB v = ((v.n == 0) && ((tx v.s).toList.isEmpty && ((v.M.length:Int) == 0)))):=Lib.hid (by unfold defB; rw [emp_str v.s,emp_len v.M])
 obtain ⟨d1,hd1⟩:∃ d,(v.n == 0) = d:=⟨_,rfl⟩
 obtain ⟨d2,hd2⟩:∃ d,(tx v.s).toList.isEmpty = d:=⟨_,rfl⟩
 obtain ⟨d3,hd3⟩:∃ d,((v.M.length:Int) == 0) = d:=⟨_,rfl⟩
 rw [hd1,hd2,hd3] at HB
 cases d1 <;> cases d2 <;> cases d3
 all_goals
  go_enter Tryz.func131,Tryz.ntmps131
  go_wp2
  go_ret
  exact ⟨by rw [HB.out]; rfl,LBD⟩
set_option maxRecDepth 1000000 in
set_option maxHeartbeats 4000000 in
theorem isTold_any (B D:Nat) (f:Df) (l:List Vl') (u:Value) (w:World) (hB:B ≤ w.heap.size) (hl:LsAt (Rd B w) 81 3 (VAt (Rd B w) D) l u) :
  Calls Tryz.prog 90 #[.agg #[.int .i64 f.no,.string (txt f.name),.int .i64 f.kind,.int .i64 f.ref,.bool f.rep,.int .i64 f.key,.int .i64 f.one],u] w fun e w'=>e = .returned (.bool (toldB f l)) ∧ Below w.heap.size w w':=by
 obtain ⟨A,c,xs,rfl,hs,hb,hr,hn⟩:=hl.open_
 have LBD:=below_new w (dC f)
 have X1:=heap_alloc_new w (dC f)
 cases l with
 | nil =>
  go_enter Tryz.func90,Tryz.ntmps90
  go_wp2
  go_ret
  exact ⟨rfl,LBD⟩
 | cons v l =>
  have hlo:Lo B w (w.alloc (dC f)):=Lo.below LBD hB
  obtain ⟨ad,x,y,z,rfl,hg,hca,c0,c1,c2⟩:=row3 (k:=0) vAt.len (sl_low hs hb hlo) (hr.imp fun a cs h=>VRd.low hlo h) (show (v :: l)[0]? = some v from rfl)
  rw [Nat.zero_mul,add_nothing] at c0 c1 c2
  obtain ⟨AM,cM,rfl,rfl,rfl⟩:=val_shape hca
  have HM:=Lib.hid (fun wx=>isMap_any f wx)
  have HDF:=Lib.hid (fun wx=>isDefault_any v AM cM wx)
  have HB:Hid (toldB f (v :: l) = (f.rep || (f.key != -1 || (f.one != 0 || (f.kind == 9 || !defB v))))):=Lib.hid rfl
  obtain ⟨n,hN⟩:∃ n,n = (v :: l).length:=⟨_,rfl⟩
  have hnz:((n:Int) == 0) = false:=by rw [hN,beq_eq_false_iff_ne]; simp; omega
  rw [← hN]
  have hX:(w.alloc (dC f)).cell? ⟨w.heap.size,4,none⟩ = some (.bool f.rep):=by first | simp | exact heap_cell X1 4
  have HX6:Hid (∀ w1,Below (w.alloc (dC f)).heap.size (w.alloc (dC f)) w1 → w1.cell? ⟨w.heap.size,6,none⟩ = some (.int .i64 f.one) ∧ w1.cell? ⟨w.heap.size,2,none⟩ = some (.int .i64 f.kind)):=Lib.hid (fun w1 h=>by
   have h6:=heap_cell (box_on X1 h) 6
   have h2:=heap_cell (box_on X1 h) 2
   simp at h6 h2
   exact ⟨h6,h2⟩)
  obtain ⟨d1,hd1⟩:∃ d,f.rep = d:=⟨_,rfl⟩
  obtain ⟨d2,hd2⟩:∃ d,(f.key != -1) = d:=⟨_,rfl⟩
  obtain ⟨d3,hd3⟩:∃ d,(f.one != 0) = d:=⟨_,rfl⟩
  obtain ⟨d4,hd4⟩:∃ d,(f.kind == 9) = d:=⟨_,rfl⟩
  obtain ⟨d5,hd5⟩:∃ d,defB v = d:=⟨_,rfl⟩
  rw [hd1,hd2,hd3,hd4,hd5] at HB
  rw [hd2,hd1] at HM
  rw [hd5] at HDF
  rw [hd1] at hX
  have HC:=Lib.hid (And.intro c0 (And.intro c1 c2))
  clear hs hb hr hl hn hca hN hd2 hd5 hlo hd1
  have hlt:(0:Int) < n:=by rw [beq_eq_false_iff_ne] at hnz; omega
  have hlt2:0 < n:=by omega
  cases d1 with
  | true =>
   go_enter Tryz.func90,Tryz.ntmps90
   go_wp2
   go_ret
   exact ⟨by rw [HB.out]; rfl,LBD⟩
  | false =>
   cases d2 with
   | true =>
    go_enter Tryz.func90,Tryz.ntmps90
    go_wp2_with (go_at_call 130; refine (HM.out _).mono ?_; rintro e w1 ⟨rfl,hb1⟩)
    go_ret
    exact ⟨by rw [HB.out]; rfl,below_then LBD hb1⟩
   | false =>
    cases d3 <;> cases d4 <;> cases d5
    all_goals
     go_enter Tryz.func90,Tryz.ntmps90
     go_wp2_with (first
      | (go_at_call 130; refine (HM.out _).mono ?_; rintro e w1 ⟨rfl,hb1⟩; obtain ⟨e6,e2⟩:=HX6.out _ hb1; have k0:=cell_on hb1 HC.out.1; have k1:=cell_on hb1 HC.out.2.1; have k2:=cell_on hb1 HC.out.2.2)
      | (go_at_call 131; refine (HDF.out _).mono ?_; rintro e w2 ⟨rfl,hb2⟩; have L2:=below_then hb1 hb2)
      | fail)
     go_ret
     exact ⟨by rw [HB.out]; rfl,by first | exact LBD.trans (L2.mono LBD.size) | exact below_then LBD hb1⟩
theorem three_szd (w:World) (o1 o2 o3:Obj):(((w.alloc o1).alloc o2).alloc o3).heap.size = w.heap.size + 3:=by simp
set_option maxRecDepth 1000000 in
set_option maxHeartbeats 4000000 in
theorem tnormal_of {s:Sc} (hin:ScIn s) (B D:Nat) (vM vE:Value) (m:Int) (x:Mg) (u:Value) (w:World) (hB:B ≤ w.heap.size) (hs:SAt B w s vM vE) (hx:MRd B w D x u) (hi:MIn x) (hc:x.cnt ≤ 10000000) (T:Tabs w)
  (Q:Value → World → Prop) (hQ:∀ v wa wb,Q v wa → wa.grownBy wb (some (w.heap.size + 2)) → Q v wb)
  (HN:mayT s m x = true → ∀ wx,Below w.heap.size w wx → w.heap.size + 3 ≤ wx.heap.size → Calls Tryz.prog 60 #[.agg #[vM,vE],.int .i64 m,.agg #[u]] wx fun e w'=>∃ A n c,e = .returned (.agg #[.slice A n c]) ∧ Q (.slice A n c) w' ∧ Below wx.heap.size wx w') :
  Calls Tryz.prog 33 #[.agg #[vM,vE],.int .i64 m,.agg #[u]] w fun e w'=>∃ A n c,e = .returned (.tuple #[.agg #[.slice A n c],.bool (mayT s m x)]) ∧ (mayT s m x = false → A = none ∧ n = 0 ∧ c = 0) ∧ (mayT s m x = true → Q (.slice A n c) w') ∧ Below w.heap.size w w':=by
 obtain ⟨T1,T2,T3,L3⟩:=three_boxes w (.cells #[vM,vE] 25) (.cells #[u] 31) (.cells #[.slice none 0 0] 31)
 have hsz:=three_szd w (.cells #[vM,vE] 25) (.cells #[u] 31) (.cells #[.slice none 0 0] 31)
 obtain ⟨W0,hW0⟩:∃ W,W = ((w.alloc (.cells #[vM,vE] 25)).alloc (.cells #[u] 31)).alloc (.cells #[.slice none 0 0] 31):=⟨_,rfl⟩
 obtain ⟨A1,q1,A2,q2,rfl,rfl⟩:=sat_shape hs
 obtain ⟨A,c,rfl⟩:=rd_shape hx
 rw [← hW0] at T1 T2 T3 L3 hsz
 have hBW:B ≤ W0.heap.size:=Nat.le_trans hB L3.size
 have hmay:=tmay_any hin B D _ _ m x _ W0 hBW (SAt.lo hs L3 hB) (MRd.low (Lo.below L3 hB) hx) hi hc (T.on L3)
 have HX:=Lib.hid (And.intro T1 (And.intro T2 T3))
 have HNN:=Lib.hid HN
 have HQ:=Lib.hid hQ
 have HL:=Lib.hid L3
 have HZ:=Lib.hid hsz
 obtain ⟨d,hd⟩:∃ d,mayT s m x = d:=⟨_,rfl⟩
 rw [hd] at hmay HNN ⊢
 have HM:=Lib.hid hmay
 obtain ⟨x1,x2⟩:=box2' T1
 have x3:=bx1 T2
 clear hs hx hi hc T HN hQ hmay T1 T2 T3 L3 hd hsz
 cases d with
 | false =>
  go_enter Tryz.func33,Tryz.ntmps33
  simp only [hW0] at x1 x2 x3
  go_wp2_with fail
  rw [← hW0]
  clear hW0 x1 x2 x3
  refine HM.out.mono ?_
  rintro e w1 ⟨rfl,hb1⟩
  have Y3:=box_on HX.out.2.2 hb1
  have ff:w1.frozen? ⟨w.heap.size + 2,0,none⟩ = false:=by simp [World.frozen?,Y3]
  have y3:=bx1 Y3
  obtain ⟨Z1,Z2⟩:=cell1 Y3 (.slice none 0 0)
  have hlt:=box_lt Y3
  go_wp2
  refine bodyPost_ret (results_pair rfl _ _ (w.heap.size + 2) _ _ (0,0) _ rfl Z1 Tryz.underlying31 rfl sz_msg) rfl ?_
  exact ⟨none,0,0,rfl,fun _=>⟨rfl,rfl,rfl⟩,fun h=>by simp at h,(below_then HL.out hb1).trans (below_own Z2 (by omega) (by omega))⟩
 | true =>
  go_enter Tryz.func33,Tryz.ntmps33
  simp only [hW0] at x1 x2 x3
  go_wp2_with fail
  rw [← hW0]
  clear hW0 x1 x2 x3
  refine HM.out.mono ?_
  rintro e w1 ⟨rfl,hb1⟩
  obtain ⟨z1,z2⟩:=box2' (box_on HX.out.1 hb1)
  have z3:=bx1 (box_on HX.out.2.1 hb1)
  have Y3:=box_on HX.out.2.2 hb1
  have hb01:=below_then HL.out hb1
  have HC:=Lib.hid (HNN.out (by trivial) w1 hb01 (box_lt Y3))
  clear HNN HM
  go_wp2_with fail
  refine HC.out.mono ?_
  rintro e w2 ⟨A9,n9,c9,rfl,hq,hb2⟩
  have Y4:=box_on Y3 hb2
  have ff:w2.frozen? ⟨w.heap.size + 2,0,none⟩ = false:=by simp [World.frozen?,Y4]
  have y3:=bx1 Y4
  obtain ⟨Z1,Z2⟩:=cell1 Y4 (.slice A9 n9 c9)
  have hlt:=box_lt Y4
  have HQQ:=Lib.hid (HQ.out _ _ _ hq Z2)
  clear Y3 hq
  go_wp2
  refine bodyPost_ret (results_pair rfl _ _ (w.heap.size + 2) _ _ (0,0) _ rfl Z1 Tryz.underlying31 rfl sz_msg) rfl ?_
  exact ⟨A9,n9,c9,rfl,fun h=>by simp at h,fun _=>HQQ.out,(below_then hb01 hb2).trans (below_own Z2 (by omega) (by omega))⟩
end Go.Proofs.YtckcojkpghiclaaGreatDoor.T9
