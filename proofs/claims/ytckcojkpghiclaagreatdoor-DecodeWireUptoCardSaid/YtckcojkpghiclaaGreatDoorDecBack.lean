/-
 What is taken from bytes is of its message: slots,and all of it. Pure.
-/
import Derived.Test.YtckcojkpghiclaaGreatDoorDecIs
import Derived.Test.YtckcojkpghiclaaGreatDoorEncVal
import Derived.Test.YtckcojkpghiclaaGreatDoorDecUnk
import Derived.Lib.SliceRun
namespace Go.Proofs.YtckcojkpghiclaaGreatDoor.T11
set_option maxRecDepth 100000
open Go.Proofs.YtckcojkpghiclaaGreatDoor.T9 Go.Proofs.YtckcojkpghiclaaGreatDoor.T4
theorem cS_snoc (no:Int) (K V:List Vl') (v:Vl'):cS ⟨no,K,V ++ [v]⟩ = cS ⟨no,K,V⟩ + cV v:=by
 unfold cS
 simp only [List.map_append,sm_append,List.map_cons,List.map_nil,sm]
 omega
theorem cV_num (x:Int):cV ⟨x,[],[]⟩ = 1:=by simp [cV,sm]
theorem sm_const {α:Type} (l:List α) (g:α → Nat) (h:∀ x ∈ l,g x = 1):sm (l.map g) = l.length:=by
 rw [sm_congr (g:=fun _=>1) h,sm_one]
def PreS (s:Sc) (n:Nat) (f:Df) (t:So):Prop:=t = ⟨f.no,[],[]⟩ ∨ (t.no = f.no ∧ fillG (isB s n) f t = true)
theorem pre_K {s:Sc} {n:Nat} {f:Df} {t:So} (h:PreS s n f t) (hk:f.key = -1):t.K = []:=by
 rcases h with rfl | ⟨_,h⟩
 ·rfl
 ·unfold fillG manyB at h
  rw [if_pos hk] at h
  simp at h
  exact h.1.1
theorem pre_V {s:Sc} {n:Nat} {f:Df} {t:So} (h:PreS s n f t):∀ v ∈ t.V,askG (isB s n) f.kind f.ref v = true:=by
 rcases h with rfl | ⟨_,h⟩
 ·intro v hv; cases hv
 ·unfold fillG at h
  simp only [Bool.and_eq_true,List.all_eq_true] at h
  exact h.2.2
theorem pre_key {s:Sc} {n:Nat} {f:Df} {t:So} (h:PreS s n f t):∀ v ∈ t.K,askG (isB s n) f.key 0 v = true:=by
 rcases h with rfl | ⟨_,h⟩
 ·intro v hv; cases hv
 ·unfold fillG at h
  simp only [Bool.and_eq_true,List.all_eq_true] at h
  exact h.2.1
theorem pre_len {s:Sc} {n:Nat} {f:Df} {t:So} (h:PreS s n f t) (hk:f.key ≠ -1):t.K.length = t.V.length:=by
 rcases h with rfl | ⟨_,h⟩
 ·rfl
 ·unfold fillG manyB at h
  rw [if_neg hk] at h
  simp at h
  exact h.1
theorem fill_of {s:Sc} {n:Nat} {f:Df} {t:So} (h1:manyB f t.K.length t.V.length = true) (h2:∀ v ∈ t.K,askG (isB s n) f.key 0 v = true) (h3:∀ v ∈ t.V,askG (isB s n) f.kind f.ref v = true):fillG (isB s n) f t = true:=by
 unfold fillG
 simp only [Bool.and_eq_true,List.all_eq_true]
 exact ⟨h1,h2,h3⟩
theorem slotD_is {s:Sc} {L n:Nat} (H:IsH s L n) {f:Df} (hf:DfMay s f) {d:List UInt8} {r:Rc} {p:Nat} {t t':So} (hd:d.length ≤ L) (hw:wnext d = (r,p,0)) (ht:PreS s n f t) (hst:StS L t) (h:slotD n (decM s n) f d r t = .ok t') :
  t'.no = f.no ∧ fillG (isB s n) f t' = true ∧ StS L t' ∧ cS t' + 1 ≤ cS t + 4 * p:=by
 obtain ⟨p2,pd,hup,hfr,hfp⟩:=wnext_le hw
 have hnum:=wnext_num hw
 have hwin:=winR_le d r
 have hwl:=winR_len d r
 have hno:t.no = f.no:=by
  rcases ht with rfl | ⟨h,_⟩
  ·rfl
  ·exact h
 unfold slotD at h
 split at h
 ·-- an entry
  rename_i hkey
  obtain ⟨ky0,ky9,kyn,hrep,hone⟩:=may_key hf hkey
  unfold entryS at h
  split at h
  ·cases h
  ·split at h
   ·cases h
   ·rename_i hw2 hdeep
    obtain ⟨⟨a,b⟩,hp,rfl⟩:=mapE_ok h
    have hn:f.kind = 9 → 1 ≤ n:=fun h9=>by
     rcases Nat.eq_zero_or_pos n with h0 | h0
     ·exact absurd ⟨h9,h0⟩ hdeep
     ·exact h0
    have hinv:=decR_inv (g:=pairD (decM s n) f) L (fun k (x:Vl' × Vl')=>(askG (isB s n) f.key 0 x.1 = true ∧ askG (isB s n) f.kind f.ref x.2 = true) ∧ (StV L x.1 ∧ StV L x.2) ∧ cV x.1 + cV x.2 ≤ 4 + 4 * k) (fun d' r' p' x y k hd' hw' hi hg=>by
     obtain ⟨⟨i1,i2⟩,⟨i3,i4⟩,i5⟩:=hi
     obtain ⟨q2,qd,qup,qfr,qfp⟩:=wnext_le hw'
     have hwin':=winR_le d' r'
     unfold pairD at hg
     split at hg
     ·obtain ⟨z,hz,rfl⟩:=mapE_ok hg
      obtain ⟨j1,j2,j3⟩:=takeV_is H (by omega) (by omega) (fun h=>absurd h kyn) hd' (wnext_num hw') (fun _=>i1) i3 hz
      exact ⟨⟨j1,i2⟩,⟨j2,i4⟩,by simp only; omega⟩
     ·split at hg
      ·obtain ⟨z,hz,rfl⟩:=mapE_ok hg
       obtain ⟨j1,j2,j3⟩:=takeV_is H hf.k0 hf.k9 (may_ref hf) hd' (wnext_num hw') (fun _=>i2) i4 hz
       exact ⟨⟨i1,j1⟩,⟨i3,j2⟩,by simp only; omega⟩
      ·obtain rfl:=Except.ok.inj hg
       exact ⟨⟨i1,i2⟩,⟨i3,i4⟩,by omega⟩) (k:=0) (Nat.le_trans hwl hd) ⟨⟨ask_blank ky0 ky9 (fun h=>absurd h kyn) (fun h=>absurd h kyn),ask_blank hf.k0 hf.k9 (may_ref hf) hn⟩,⟨st_blank L _,st_blank L _⟩,by have:=cV_blank f.key; have:=cV_blank f.kind; simp only; omega⟩ hp
    obtain ⟨⟨i1,i2⟩,⟨i3,i4⟩,i5⟩:=hinv
    simp only at i1 i2 i3 i4 i5
    refine ⟨hno,fill_of ?_ ?_ ?_,?_,?_⟩
    ·unfold manyB
     rw [if_neg hkey]
     simp [pre_len ht hkey]
    ·intro v hv
     rcases List.mem_append.1 hv with hv | hv
     ·exact pre_key ht v hv
     ·obtain rfl:=List.mem_singleton.1 hv
      exact i1
    ·intro v hv
     rcases List.mem_append.1 hv with hv | hv
     ·exact pre_V ht v hv
     ·obtain rfl:=List.mem_singleton.1 hv
      exact i2
    ·rintro v (hv | hv)
     ·rcases List.mem_append.1 hv with hv | hv
      ·exact hst v (.inl hv)
      ·obtain rfl:=List.mem_singleton.1 hv
       exact i3
     ·rcases List.mem_append.1 hv with hv | hv
      ·exact hst v (.inr hv)
      ·obtain rfl:=List.mem_singleton.1 hv
       exact i4
    ·unfold cS
     simp only [List.map_append,sm_append,List.map_cons,List.map_nil,sm]
     have:(winR d r).length + 2 ≤ p:=by
      obtain ⟨m,k,nn,q,h1,h2,h3,h4,h5,h6⟩:=wnext_parts hw
      have hv:=vget_parts h1
      have hq:=wnum_pos h3
      rcases h6 with ⟨g1,g2,g3,g4⟩ | ⟨g1,-⟩
      ·omega
      ·exact absurd (Decidable.not_not.1 hw2) g1
     omega
 ·rename_i hkey
  have hkey:f.key = -1:=Decidable.not_not.1 hkey
  have hK:=pre_K ht hkey
  split at h
  ·-- packed
   rename_i hpk
   unfold packedS at h
   split at h
   ·obtain rfl:=Except.ok.inj h
    have hlen:=numsK_len f.kind (winR d r)
    refine ⟨hno,fill_of ?_ ?_ ?_,?_,?_⟩
    ·unfold manyB
     rw [if_pos hkey]
     simp [hK,hpk.1]
    ·intro v hv; rw [hK] at hv; cases hv
    ·intro v hv
     rcases List.mem_append.1 hv with hv | hv
     ·exact pre_V ht v hv
     ·obtain ⟨x,hx,rfl⟩:=List.mem_map.1 hv
      have hfi:=numsK_fits hpk.2.2 hx
      have h79:f.kind ≠ 7 ∧ f.kind ≠ 8 ∧ f.kind ≠ 9:=by
       refine ⟨?_,?_,?_⟩ <;> · intro e; have:=hpk.2.2; rw [e] at this; exact absurd this (by decide)
      unfold askG
      rw [if_neg h79.1,if_neg h79.2.1,if_neg h79.2.2,hfi]
      rfl
    ·rintro v (hv | hv)
     ·exact hst v (.inl hv)
     ·rcases List.mem_append.1 hv with hv | hv
      ·exact hst v (.inr hv)
      ·obtain ⟨x,hx,rfl⟩:=List.mem_map.1 hv
       exact ⟨⟨numsK_in hx,Nat.zero_le _⟩,fun y hy=>by cases hy⟩
    ·unfold cS
     simp only [List.map_append,sm_append,List.map_map]
     have hsm:sm (List.map (cV ∘ fun (n:Int)=>(⟨n,[],[]⟩:Vl')) (numsK f.kind (winR d r)).1) = (numsK f.kind (winR d r)).1.length:=sm_const _ _ (fun x _=>cV_num x)
     rw [hsm]
     omega
   ·cases h
  ·split at h
   ·-- a value more
    rename_i hrep
    unfold repS at h
    obtain ⟨v,hv,rfl⟩:=mapE_ok h
    obtain ⟨j1,j2,j3⟩:=takeV_is H hf.k0 hf.k9 (may_ref hf) hd hnum (fun hn=>ask_blank hf.k0 hf.k9 (may_ref hf) hn) (st_blank L _) hv
    have hb:=cV_blank f.kind
    refine ⟨hno,fill_of ?_ ?_ ?_,?_,?_⟩
    ·unfold manyB
     rw [if_pos hkey]
     simp [hK,hrep]
    ·intro v hv; rw [hK] at hv; cases hv
    ·intro u hu
     rcases List.mem_append.1 hu with hu | hu
     ·exact pre_V ht u hu
     ·obtain rfl:=List.mem_singleton.1 hu
      exact j1
    ·rintro u (hu | hu)
     ·exact hst u (.inl hu)
     ·rcases List.mem_append.1 hu with hu | hu
      ·exact hst u (.inr hu)
      ·obtain rfl:=List.mem_singleton.1 hu
       exact j2
    ·rw [cS_snoc]
     show cS t + cV v + 1 ≤ _
     omega
   ·-- the only value
    rename_i hrep
    have hrep:f.rep = false:=by simpa using hrep
    unfold onlyS at h
    obtain ⟨v,hv,rfl⟩:=mapE_ok h
    have hV:t.V = [] ∨ ∃ u,t.V = [u]:=by
     rcases ht with rfl | ⟨_,h⟩
     ·exact .inl rfl
     ·unfold fillG manyB at h
      rw [if_pos hkey] at h
      simp [hrep] at h
      exact .inr (List.length_eq_one_iff.1 h.1.2)
    rcases hV with hV | ⟨u,hV⟩
    ·rw [hV] at hv
     obtain ⟨j1,j2,j3⟩:=takeV_is H hf.k0 hf.k9 (may_ref hf) hd hnum (fun hn=>ask_blank hf.k0 hf.k9 (may_ref hf) hn) (st_blank L _) hv
     have hb:=cV_blank f.kind
     rw [hV]
     refine ⟨hno,fill_of ?_ ?_ ?_,?_,?_⟩
     ·unfold manyB
      rw [if_pos hkey]
      simp [hK]
     ·intro v hv; rw [hK] at hv; cases hv
     ·intro z hz
      obtain rfl:=List.mem_singleton.1 hz
      exact j1
     ·rintro z (hz | hz)
      ·exact hst z (.inl hz)
      ·obtain rfl:=List.mem_singleton.1 hz
       exact j2
     ·unfold cS
      rw [hV,hK]
      simp only [List.tail_nil,List.tail_cons,List.map_cons,List.map_nil,sm]
      omega
    ·rw [hV] at hv
     have hu:=pre_V ht u (by rw [hV]; simp)
     obtain ⟨j1,j2,j3⟩:=takeV_is H hf.k0 hf.k9 (may_ref hf) hd hnum (fun _=>hu) (hst u (.inr (by rw [hV]; simp))) hv
     rw [hV]
     refine ⟨hno,fill_of ?_ ?_ ?_,?_,?_⟩
     ·unfold manyB
      rw [if_pos hkey]
      simp [hK]
     ·intro v hv; rw [hK] at hv; cases hv
     ·intro z hz
      obtain rfl:=List.mem_singleton.1 hz
      exact j1
     ·rintro z (hz | hz)
      ·exact hst z (.inl hz)
      ·obtain rfl:=List.mem_singleton.1 hz
       exact j2
     ·unfold cS
      rw [hV,hK]
      simp only [List.tail_nil,List.tail_cons,List.map_cons,List.map_nil,sm]
      omega
theorem onSlot_split (no:Int) (g:So → Except Nat So):∀ (l:List So),(∃ l1 t l2,l = l1 ++ t :: l2 ∧ t.no = no ∧ (∀ u ∈ l1,u.no ≠ no) ∧ onSlot no g l = mapE (fun u=>l1 ++ u :: l2) (g t)) ∨ ((∀ u ∈ l,u.no ≠ no) ∧ onSlot no g l = mapE (fun u=>l ++ [u]) (g ⟨no,[],[]⟩))
 | []=>.inr ⟨(fun u hu=>by cases hu),rfl⟩
 | a :: l=>by
  by_cases ha:a.no = no
  ·refine .inl ⟨[],a,l,rfl,ha,(fun u hu=>by cases hu),?_⟩
   unfold onSlot
   rw [if_pos ha]
   rfl
  ·rcases onSlot_split no g l with ⟨l1,t,l2,h1,h2,h3,h4⟩ | ⟨h1,h2⟩
   ·refine .inl ⟨a :: l1,t,l2,by rw [h1]; rfl,h2,fun u hu=>(List.mem_cons.1 hu).elim (fun e=>e ▸ ha) (h3 u),?_⟩
    unfold onSlot
    rw [if_neg ha,h4,mapE_map]
    rfl
   ·refine .inr ⟨fun u hu=>(List.mem_cons.1 hu).elim (fun e=>e ▸ ha) (h1 u),?_⟩
    unfold onSlot
    rw [if_neg ha,h2,mapE_map]
    rfl
theorem leaveL_sub (fd:Int → Option Df) (f:Df) (l:List So):(leaveL fd f l).Sublist l:=by
 unfold leaveL
 split
 ·exact List.Sublist.refl _
 ·exact List.filter_sublist
theorem leave_dj {fd:Int → Option Df} {fill:Df → So → Bool} {f:Df} (hfd:fd f.no = some f) (hn:∀ no g,fd no = some g → g.no = no) (hone:f.one ≠ 0) {l:List So} (h:slotsG fd fill [] l = true):∀ a ∈ leaveL fd f l,a.no ≠ f.no → Dj fd a ⟨f.no,[],[]⟩:=by
 intro a ha hne c hc hc'
 unfold leaveL at ha
 rw [if_neg hone] at ha
 obtain ⟨hal,hap⟩:=List.mem_filter.1 ha
 obtain ⟨g,hg,-⟩:=(slots_iff.1 h).1 a hal
 have hgn:=hn _ _ hg
 rw [hg] at hap
 unfold clsOf at hc hc'
 simp only [hg] at hc
 simp only [hfd] at hc'
 have hap:g.one ≠ f.one ∨ g.no = f.no:=by simpa using hap
 obtain ⟨c1,c2⟩:=c
 unfold claimsOf at hc hc'
 rw [if_neg hone] at hc'
 simp only [List.mem_cons,List.not_mem_nil,or_false,Prod.mk.injEq] at hc'
 split at hc <;> simp only [List.mem_cons,List.not_mem_nil,or_false,Prod.mk.injEq] at hc <;> omega
theorem no_dj {fd:Int → Option Df} {fill:Df → So → Bool} {f:Df} (hfd:fd f.no = some f) (hn:∀ no g,fd no = some g → g.no = no) (hone:f.one = 0) {l:List So} (h:slotsG fd fill [] l = true):∀ a ∈ l,a.no ≠ f.no → Dj fd a ⟨f.no,[],[]⟩:=by
 intro a ha hne c hc hc'
 obtain ⟨g,hg,-⟩:=(slots_iff.1 h).1 a ha
 have hgn:=hn _ _ hg
 unfold clsOf at hc hc'
 simp only [hg] at hc
 simp only [hfd] at hc'
 obtain ⟨c1,c2⟩:=c
 unfold claimsOf at hc hc'
 rw [if_pos hone] at hc'
 simp only [List.mem_cons,List.not_mem_nil,or_false,Prod.mk.injEq] at hc'
 split at hc <;> simp only [List.mem_cons,List.not_mem_nil,or_false,Prod.mk.injEq] at hc <;> omega
theorem onSlot_is {fd:Int → Option Df} {fill:Df → So → Bool} {f:Df} (hfd:fd f.no = some f) {g:So → Except Nat So} {F F':List So} (h:slotsG fd fill [] F = true) (hg:∀ t t',(t = ⟨f.no,[],[]⟩ ∨ (t ∈ F ∧ t.no = f.no)) → g t = .ok t' → t'.no = f.no ∧ fill f t' = true) (hone:∀ a ∈ F,a.no ≠ f.no → Dj fd a ⟨f.no,[],[]⟩) (he:onSlot f.no g F = .ok F'):slotsG fd fill [] F' = true:=by
 obtain ⟨h1,-,h3⟩:=slots_iff.1 h
 rcases onSlot_split f.no g F with ⟨l1,t,l2,rfl,ht,hl1,ho⟩ | ⟨hF,ho⟩
 ·rw [ho] at he
  obtain ⟨t',ht',rfl⟩:=mapE_ok he
  obtain ⟨k1,k2⟩:=hg t t' (.inr ⟨by simp,ht⟩) ht'
  refine slots_iff.2 ⟨fun a ha=>?_,(fun _ _ _ _ h=>by cases h),?_⟩
  ·rcases List.mem_append.1 ha with ha | ha
   ·exact h1 a (List.mem_append_left _ ha)
   ·rcases List.mem_cons.1 ha with rfl | ha
    ·exact ⟨f,by rw [k1]; exact hfd,k2⟩
    ·exact h1 a (List.mem_append_right _ (List.mem_cons_of_mem _ ha))
  ·rw [List.pairwise_append,List.pairwise_cons] at h3 ⊢
   obtain ⟨p1,⟨p2,p3⟩,p4⟩:=h3
   have hnn:t'.no = t.no:=k1.trans ht.symm
   refine ⟨p1,⟨fun a ha=>dj_cong (p2 a ha) hnn rfl,p3⟩,fun a ha b hb=>?_⟩
   rcases List.mem_cons.1 hb with rfl | hb
   ·exact dj_cong (p4 a ha t (List.mem_cons_self ..)) rfl hnn
   ·exact p4 a ha b (List.mem_cons_of_mem _ hb)
 ·rw [ho] at he
  obtain ⟨t',ht',rfl⟩:=mapE_ok he
  obtain ⟨k1,k2⟩:=hg _ t' (.inl rfl) ht'
  refine slots_iff.2 ⟨fun a ha=>?_,(fun _ _ _ _ h=>by cases h),?_⟩
  ·rcases List.mem_append.1 ha with ha | ha
   ·exact h1 a ha
   ·obtain rfl:=List.mem_singleton.1 ha
    exact ⟨f,by rw [k1]; exact hfd,k2⟩
  ·rw [List.pairwise_append]
   refine ⟨h3,List.pairwise_singleton _ _,fun a ha b hb=>?_⟩
   obtain rfl:=List.mem_singleton.1 hb
   exact dj_cong (hone a ha (hF a ha)) rfl k1
theorem onSlot_more {L:Nat} {f:Df} {g:So → Except Nat So} {F F':List So} {c:Nat} (hst:∀ t ∈ F,StS L t) (hg:∀ t t',(t = ⟨f.no,[],[]⟩ ∨ (t ∈ F ∧ t.no = f.no)) → g t = .ok t' → StS L t' ∧ cS t' + 1 ≤ cS t + c) (he:onSlot f.no g F = .ok F'):(∀ t ∈ F',StS L t) ∧ sm (F'.map cS) ≤ sm (F.map cS) + c:=by
 rcases onSlot_split f.no g F with ⟨l1,t,l2,rfl,ht,hl1,ho⟩ | ⟨hF,ho⟩
 ·rw [ho] at he
  obtain ⟨t',ht',rfl⟩:=mapE_ok he
  obtain ⟨k1,k2⟩:=hg t t' (.inr ⟨by simp,ht⟩) ht'
  refine ⟨fun a ha=>?_,?_⟩
  ·rcases List.mem_append.1 ha with ha | ha
   ·exact hst a (List.mem_append_left _ ha)
   ·rcases List.mem_cons.1 ha with rfl | ha
    ·exact k1
    ·exact hst a (List.mem_append_right _ (List.mem_cons_of_mem _ ha))
  ·simp only [List.map_append,sm_append,List.map_cons,sm]
   omega
 ·rw [ho] at he
  obtain ⟨t',ht',rfl⟩:=mapE_ok he
  obtain ⟨k1,k2⟩:=hg _ t' (.inl rfl) ht'
  refine ⟨fun a ha=>?_,?_⟩
  ·rcases List.mem_append.1 ha with ha | ha
   ·exact hst a ha
   ·obtain rfl:=List.mem_singleton.1 ha
    exact k1
  ·have h0:cS (⟨f.no,[],[]⟩:So) = 1:=by simp [cS,sm]
   rw [h0] at k2
   simp only [List.map_append,sm_append,List.map_cons,List.map_nil,sm]
   omega
theorem sm_sub {α:Type} (g:α → Nat) {l l':List α} (h:l'.Sublist l):sm (l'.map g) ≤ sm (l.map g):=by
 induction h with
 | slnil=>exact Nat.le_refl _
 | cons a _ ih=>simp only [List.map_cons,sm]; omega
 | cons_cons a _ ih=>simp only [List.map_cons,sm]; omega
theorem fieldD_is {s:Sc} (hs:ScMay s) {L n:Nat} (H:IsH s L n) {m:Int} {d:List UInt8} {r:Rc} {p:Nat} {F F':List So} (hd:d.length ≤ L) (hw:wnext d = (r,p,0)) (h:slotsG (byS s m) (fillG (isB s n)) [] F = true) (hst:∀ t ∈ F,StS L t) (he:fieldD (byS s m) n (decM s n) d r F = .ok F') :
  slotsG (byS s m) (fillG (isB s n)) [] F' = true ∧ (∀ t ∈ F',StS L t) ∧ sm (F'.map cS) ≤ sm (F.map cS) + 4 * p:=by
 have hn:∀ no g,byS s m no = some g → g.no = no:=fun no g hg=>(by_may hs hg).2
 unfold fieldD at he
 cases hf:byS s m r.no with
 | none =>
  rw [hf] at he
  obtain rfl:=Except.ok.inj he
  exact ⟨h,hst,Nat.le_add_right _ _⟩
 | some f =>
  rw [hf] at he
  simp only at he
  obtain ⟨hfm,hfn⟩:=by_may hs hf
  have hfd:byS s m f.no = some f:=by rw [hfn]; exact hf
  obtain ⟨G,hG⟩:∃ G,(if f.key = -1 ∧ f.rep = false then leaveL (byS s m) f F else F) = G:=⟨_,rfl⟩
  rw [hG] at he
  have hsub:G.Sublist F:=by
   rw [← hG]
   split
   ·exact leaveL_sub _ _ _
   ·exact List.Sublist.refl _
  have hG1:=slots_sub h hsub
  have hdj:∀ a ∈ G,a.no ≠ f.no → Dj (byS s m) a ⟨f.no,[],[]⟩:=by
   by_cases h1:f.one = 0
   ·exact no_dj hfd hn h1 hG1
   ·have h2:=hfm.alone.resolve_left h1
    rw [if_pos ⟨h2.2,h2.1⟩] at hG
    rw [← hG]
    exact leave_dj hfd hn h1 h
  have hpre:∀ t,(t = ⟨f.no,[],[]⟩ ∨ (t ∈ G ∧ t.no = f.no)) → PreS s n f t ∧ StS L t:=by
   rintro t (rfl | ⟨h1,h2⟩)
   ·exact ⟨.inl rfl,by rintro v (hv | hv) <;> cases hv⟩
   ·obtain ⟨g,hg,hfi⟩:=(slots_iff.1 hG1).1 t h1
    obtain rfl:f = g:=by rw [h2] at hg; exact Option.some.inj (hfd.symm.trans hg)
    exact ⟨.inr ⟨h2,hfi⟩,hst t (hsub.subset h1)⟩
  refine ⟨onSlot_is hfd hG1 (fun t t' ht hg=>?_) hdj he,?_⟩
  ·obtain ⟨h1,h2⟩:=hpre t ht
   obtain ⟨k1,k2,-,-⟩:=slotD_is H hfm hd hw h1 h2 hg
   exact ⟨k1,k2⟩
  ·obtain ⟨k1,k2⟩:=onSlot_more (L:=L) (c:=4 * p) (fun t ht=>hst t (hsub.subset ht)) (fun t t' ht hg=>by
    obtain ⟨h1,h2⟩:=hpre t ht
    obtain ⟨-,-,k3,k4⟩:=slotD_is H hfm hd hw h1 h2 hg
    exact ⟨k3,k4⟩) he
   exact ⟨k1,Nat.le_trans k2 (by have:=sm_sub cS hsub; omega)⟩
theorem isH {s:Sc} (hs:ScMay s) (L:Nat):∀ n,IsH s L n
 | 0=>fun m d x y _ _ _ _ _ h=>by cases h
 | n + 1=>fun m d x y h0 h1 hd hx hst h=>by
  have H:=isH hs L n
  have hG:slotsG (byS s m) (fillG (isB s n)) [] x.F = true:=by
   have h2:(decide (0 ≤ m ∧ m < s.M.length) && slotsG (byS s m) (fillG (isB s n)) [] x.F) = true:=hx
   exact (Bool.and_eq_true _ _ ▸ h2).2
  obtain ⟨F,hF,rfl⟩:=mapE_ok (show mapE (fun l=>Mg.mk l) (decR (fieldD (byS s m) n (decM s n)) d x.F) = .ok y from h)
  have hinv:=decR_inv (g:=fieldD (byS s m) n (decM s n)) L (fun k F=>slotsG (byS s m) (fillG (isB s n)) [] F = true ∧ (∀ t ∈ F,StS L t) ∧ sm (F.map cS) ≤ sm (x.F.map cS) + 4 * k) (fun d' r' p' F1 F2 k hd' hw' hi hg=>by
   obtain ⟨i1,i2,i3⟩:=hi
   obtain ⟨j1,j2,j3⟩:=fieldD_is hs H hd' hw' i1 i2 hg
   exact ⟨j1,j2,by omega⟩) (k:=0) hd ⟨hG,fun t ht=>hst.slot ht,by omega⟩ hF
  obtain ⟨i1,i2,i3⟩:=hinv
  refine ⟨?_,.of i2,?_⟩
  ·show (decide (0 ≤ m ∧ m < s.M.length) && slotsG (byS s m) (fillG (isB s n)) [] F) = true
   simp [h0,h1,i1]
  ·rw [Mg.cnt_eq,Mg.cnt_eq]
   show sm (F.map cS) ≤ _
   omega
theorem isB_in {s:Sc} (hs:ScMay s) {L:Nat} (hL:L ≤ 140737488351232):∀ (n:Nat) (m:Int) (x:Mg),isB s n m x = true → StrL L x → MIn x
 | 0,_,_,h,_=>by cases h
 | n + 1,m,x,h,hst=>by
  have h2:(decide (0 ≤ m ∧ m < s.M.length) && slotsG (byS s m) (fillG (isB s n)) [] x.F) = true:=h
  rw [Bool.and_eq_true] at h2
  have h3:=(slots_iff.1 h2.2).1
  have ask:∀ {kind ref:Int} {v:Vl'},askG (isB s n) kind ref v = true → StV L v → (inI v.n ∧ v.s.length ≤ 140737488351232) ∧ ∀ y ∈ v.M,MIn y:=fun {kind ref v} hv hs'=>by
   refine ⟨⟨hs'.1.1,Nat.le_trans hs'.1.2 hL⟩,fun y hy=>?_⟩
   ·by_cases h9:kind = 9
    ·subst h9
     obtain ⟨-,-,z,hz,hG⟩:=ask_nine hv
     rw [hz] at hy
     obtain rfl:=List.mem_singleton.1 hy
     exact isB_in hs hL n ref y hG (hs'.2 y (by rw [hz]; simp))
    ·rw [ask_of hv h9] at hy; cases hy
  refine MIn.of fun t ht=>?_
  obtain ⟨f,hf,hfi⟩:=h3 t ht
  obtain ⟨hfm,hfn⟩:=by_may hs hf
  have hfi':=hfi
  unfold fillG at hfi'
  simp only [Bool.and_eq_true,List.all_eq_true] at hfi'
  refine ⟨?_,fun v hv=>?_⟩
  ·have:=hfm.num
   unfold numberB at this
   simp at this
   rw [← hfn]
   unfold inI
   omega
  ·rcases hv with hv | hv
   ·exact ask (hfi'.2.1 v hv) (hst.slot ht v (.inl hv))
   ·exact ask (hfi'.2.2 v hv) (hst.slot ht v (.inr hv))
theorem isB_deep {s:Sc} (hs:ScMay s):∀ (n:Nat) (m:Int) (x:Mg),isB s n m x = true → x.deep ≤ n
 | 0,_,_,h=>by cases h
 | n + 1,m,x,h=>by
  have h2:(decide (0 ≤ m ∧ m < s.M.length) && slotsG (byS s m) (fillG (isB s n)) [] x.F) = true:=h
  rw [Bool.and_eq_true] at h2
  have h3:=(slots_iff.1 h2.2).1
  have ask:∀ {kind ref:Int} {v:Vl'},askG (isB s n) kind ref v = true → dV v ≤ n:=fun {kind ref v} hv=>by
   unfold dV
   refine mx_le fun k hk=>?_
   obtain ⟨y,hy,rfl⟩:=List.mem_map.1 hk
   by_cases h9:kind = 9
   ·subst h9
    obtain ⟨-,-,z,hz,hG⟩:=ask_nine hv
    rw [hz] at hy
    obtain rfl:=List.mem_singleton.1 hy
    exact isB_deep hs n ref y hG
   ·rw [ask_of hv h9] at hy; cases hy
  rw [Mg.deep_eq]
  have:mx (x.F.map dS) ≤ n:=mx_le fun k hk=>by
   obtain ⟨t,ht,rfl⟩:=List.mem_map.1 hk
   obtain ⟨f,hf,hfi⟩:=h3 t ht
   unfold fillG at hfi
   simp only [Bool.and_eq_true,List.all_eq_true] at hfi
   unfold dS
   refine Nat.max_le.2 ⟨mx_le fun k hk=>?_,mx_le fun k hk=>?_⟩
   ·obtain ⟨v,hv,rfl⟩:=List.mem_map.1 hk
    exact ask (hfi.2.1 v hv)
   ·obtain ⟨v,hv,rfl⟩:=List.mem_map.1 hk
    exact ask (hfi.2.2 v hv)
  omega
end Go.Proofs.YtckcojkpghiclaaGreatDoor.T11
namespace Go.Proofs.YtckcojkpghiclaaGreatDoor.T11
set_option maxRecDepth 100000
open Go.RowKit
open Go.Proofs.YtckcojkpghiclaaGreatDoor.T9 Go.Proofs.YtckcojkpghiclaaGreatDoor.T4
theorem cells_len:∀ l:List (SLo LM),(l.flatMap cS').length = l.length * 3
 | []=>rfl
 | a :: l=>by rw [List.flatMap_cons,List.length_append,cells_len l,List.length_cons]; show 3 + _ = _; omega
structure Got1 (b K:Nat) (p:Addr) (no:Int) (x:LM) (w:World) (g c:Nat) (l1:List (SLo LM)) (t:SLo LM) (l2:List (SLo LM)) (w1:World):Prop where
 nume:t.no = no
 upd:Upd p (.slice (some ⟨g,0,none⟩) (l1 ++ t :: l2).length c) (blocks x.rows) w w1
 lies:Lies b K w1 (LM.mk (.slice (some ⟨g,0,none⟩) (l1 ++ t :: l2).length c) (l1 ++ t :: l2)).rows
 far:p.block ∉ blocks (LM.mk (.slice (some ⟨g,0,none⟩) (l1 ++ t :: l2).length c) (l1 ++ t :: l2)).rows
 old:∀ q ∈ blocks (LM.mk (.slice (some ⟨g,0,none⟩) (l1 ++ t :: l2).length c) (l1 ++ t :: l2)).rows,q < w.heap.size → q ∈ blocks x.rows
 cell:w1.cell? p = some (.slice (some ⟨g,0,none⟩) (l1 ++ t :: l2).length c)
 froz:w1.frozen? p = false
 step:∀ G:So → Except Nat So,onSlot no G (x.F.map bareS) = mapE (fun u=>l1.map bareS ++ u :: l2.map bareS) (G (bareS t))
 from_:(t ∈ x.F) ∨ (t = newS no ∧ l1 = x.F ∧ l2 = [])
 rest:∀ u,u ∈ l1 ∨ u ∈ l2 → u ∈ x.F
 len:K ≤ K
theorem split_at {α:Type} {l:List α} {i:Nat} {t:α} (h:l[i]? = some t):∃ l1 l2,l = l1 ++ t :: l2 ∧ l1.length = i:=by
 obtain ⟨hi,rfl⟩:=List.getElem?_eq_some_iff.1 h
 refine ⟨l.take i,l.drop (i + 1),?_,by rw [List.length_take]; omega⟩
 rw [← List.drop_eq_getElem_cons hi,List.take_append_drop]
theorem cell_upd {w w':World} {p:Addr} {v u:Value} {ids:List Nat} (hU:Upd p v ids w w') (hc:w.cell? p = some u) (hs:p.spot = none) (hp:p.block < w.heap.size) (hn:p.block ∉ ids):w'.cell? p = some v:=by
 have h:=hU.block p.block hp hn
 exact (World.cell?_of_block h).trans (World.cell?_setCell_same' w p v (by rw [hc]; rfl))
theorem froz_upd {w w':World} {p:Addr} {v:Value} {ids:List Nat} {z:Bool} (hU:Upd p v ids w w') (hz:w.frozen? p = z) (hs:p.spot = none) (hp:p.block < w.heap.size) (hn:p.block ∉ ids):w'.frozen? p = z:=by
 obtain ⟨pb,po,ps⟩:=p
 obtain rfl:ps = none:=hs
 have h:=hU.block pb hp hn
 exact (froz_of (a:=⟨pb,po,none⟩) h).trans ((froz_put w pb po v ⟨pb,po,none⟩).trans hz)
set_option maxHeartbeats 1000000 in
theorem slotOf_got {b K:Nat} {w:World} {x:LM} {p:Addr} {no:Int} (hb:b ≤ w.heap.size) (hL:Lies b K w x.rows) (hc:w.cell? p = some x.v) (hz:w.frozen? p = false) (hs:p.spot = none) (hp:p.block < w.heap.size) (hpn:p.block ∉ blocks x.rows) (hK:K ≤ 1000000000) :
  Calls Tryz.prog 149 #[.pointer (some p),.int .i64 no] w fun e w'=>∃ g c l1 t l2,e = .returned (.pointer (some ⟨g,l1.length * 3,none⟩)) ∧ Got1 b (K + 1) p no x w g c l1 t l2 w':=by
 rcases slot_cases no (x.F.map bareS) with ⟨i,u,hi,hu,hfst⟩ | hnone
 ·rw [List.getElem?_map] at hi
  obtain ⟨t,ht,rfl⟩:=Option.map_eq_some_iff.1 hi
  have hno:t.no = no:=hu
  have hf:∀ (k:Nat) (u:SLo LM),k < i → x.F[k]? = some u → u.no ≠ no:=fun k u hk hu=>hfst k (bareS u) hk (by rw [List.getElem?_map,hu]; rfl)
  refine (slotL_old hL hc hK ht hno hf).mono ?_
  rintro e w' ⟨⟨g,c,hv,rfl⟩,rfl⟩
  obtain ⟨l1,l2,hF,hl⟩:=split_at ht
  have hx:LM.mk (.slice (some ⟨g,0,none⟩) (l1 ++ t :: l2).length c) (l1 ++ t :: l2) = x:=by rw [← hF,← hv]; exact x.eta.symm
  refine ⟨g,c,l1,t,l2,by rw [hl],hno,?_,?_,?_,?_,?_,hz,fun G=>?_,.inl (by rw [hF]; simp),fun u hu=>?_,Nat.le_refl _⟩
  ·rw [← hF,← hv]
   exact Upd.refl _ hc hs
  ·rw [hx]; exact hL.more (Nat.le_succ _)
  ·rw [hx]; exact hpn
  ·rw [hx]; exact fun q hq _=>hq
  ·rw [← hF,← hv]; exact hc
  ·have hi2:(x.F.map bareS)[i]? = some (bareS t):=by rw [List.getElem?_map]; exact hi
   rw [onSlot_at no G _ i (bareS t) hi2 hu hfst,hF]
   congr 1
   funext u
   rw [List.map_append,List.map_cons,List.set_append_right _ _ (by rw [List.length_map]; omega),List.length_map,hl,Nat.sub_self]
   rfl
  ·rw [hF]
   rcases hu with hu | hu
   ·exact List.mem_append_left _ hu
   ·exact List.mem_append_right _ (List.mem_cons_of_mem _ hu)
 ·have hf:∀ u ∈ x.F,u.no ≠ no:=fun u hu=>hnone (bareS u) (List.mem_map_of_mem hu)
  refine (slotL_new hb hL hc hz hp hpn hK hf).mono ?_
  rintro e w' ⟨g,c,rfl,hU,hL',hp',ho⟩
  have hlen:(x.F ++ newS no :: []).length = x.F.length + 1:=by simp
  refine ⟨g,c,x.F,newS no,[],rfl,rfl,?_,?_,?_,?_,?_,?_,fun G=>?_,.inr ⟨rfl,rfl,rfl⟩,fun u hu=>?_,Nat.le_refl _⟩
  ·rw [hlen]; exact hU
  ·rw [hlen]; exact hL'
  ·rw [hlen]; exact hp'
  ·rw [hlen]; exact ho
  ·rw [hlen]; exact cell_upd hU hc hs hp hpn
  ·exact froz_upd hU hz hs hp hpn
  ·rw [onSlot_new no G _ hnone]
   rfl
  ·rcases hu with hu | hu
   ·exact hu
   ·cases hu
theorem Got1.at {b K:Nat} {p:Addr} {no:Int} {x:LM} {w w1:World} {g c:Nat} {l1 l2:List (SLo LM)} {t:SLo LM} (h:Got1 b K p no x w g c l1 t l2 w1) :
  g < w1.heap.size ∧ b ≤ g ∧ AtSlo g (l1.length * 3) t w1 ∧ Lies b K w1 (rowsS t) ∧ g ∉ blocks (rowsS t) ∧ (l1 ++ t :: l2).length ≤ K:=by
 have hL:=h.lies
 rw [rows_of] at hL
 obtain ⟨hrow,hrn⟩:=hL.own (rwM _) (List.mem_cons_self ..)
 have hrow:w1.ownsRow b 67 3 (.slice (some ⟨g,0,none⟩) (l1 ++ t :: l2).length c) (l1 ++ t :: l2).length ((l1 ++ t :: l2).flatMap cS'):=hrow
 obtain ⟨hg,hLl⟩:=hL.head
 have hg:=hg g rfl
 rw [rowsF_append,rowsF_cons] at hg hLl
 have hl3:=cells_len l1
 have hcell:∀ k u,(cS' t)[k]? = some u → w1.cell? ⟨g,l1.length * 3 + k,none⟩ = some u:=fun k u hu=>by
  have h3:=hrow.cells (g:=g) rfl (l1.length * 3 + k) u (by
   rw [List.flatMap_append,List.getElem?_append_right (by omega),hl3,show l1.length * 3 + k - l1.length * 3 = k by omega,List.flatMap_cons,List.getElem?_append_left (List.getElem?_eq_some_iff.1 hu).1]
   exact hu)
  rwa [Addr.add_lit,Nat.zero_add] at h3
 refine ⟨(own_blk hrow g rfl).2,(own_blk hrow g rfl).1,⟨hcell 0 _ rfl,hcell 1 _ rfl,hcell 2 _ rfl,fun k=>own_froz hrow k⟩,hLl.right.left,fun hm=>hg (mem_three.2 (.inr (.inl hm))),hrn⟩
theorem Got1.done {b K K':Nat} {p:Addr} {no:Int} {x:LM} {w w1 w2:World} {g c:Nat} {l1 l2:List (SLo LM)} {t t':SLo LM} (h:Got1 b K p no x w g c l1 t l2 w1) (hs:p.spot = none) (hp:p.block < w.heap.size) (hno:t'.no = t.no) (hU:UpdS g (l1.length * 3) t' (blocks (rowsS t)) w1 w2) (hL':Lies b K' w2 (rowsS t')) (hg:g ∉ blocks (rowsS t')) (hq:∀ q ∈ blocks (rowsS t'),q < w1.heap.size → q ∈ blocks (rowsS t)) (hK:K ≤ K') :
  Upd p (.slice (some ⟨g,0,none⟩) (l1 ++ t' :: l2).length c) (blocks x.rows) w w2 ∧ Lies b K' w2 (LM.mk (.slice (some ⟨g,0,none⟩) (l1 ++ t' :: l2).length c) (l1 ++ t' :: l2)).rows ∧ p.block ∉ blocks (LM.mk (.slice (some ⟨g,0,none⟩) (l1 ++ t' :: l2).length c) (l1 ++ t' :: l2)).rows ∧ (∀ q ∈ blocks (LM.mk (.slice (some ⟨g,0,none⟩) (l1 ++ t' :: l2).length c) (l1 ++ t' :: l2)).rows,q < w.heap.size → q ∈ blocks x.rows):=by
 have hlen:(l1 ++ t' :: l2).length = (l1 ++ t :: l2).length:=by simp
 have hp1:p.block < w1.heap.size:=Nat.lt_of_lt_of_le hp h.upd.size
 obtain ⟨k1,k2,k3,k4⟩:=slot_lift (x:=LM.mk (.slice (some ⟨g,0,none⟩) (l1 ++ t :: l2).length c) (l1 ++ t :: l2)) h.lies rfl rfl rfl hno hU hL' hg hq hK hp1 h.far h.cell hs
 rw [hlen]
 refine ⟨h.upd.trans k1 h.old,k2,k3,fun q hq hlt=>h.old q (k4 q hq (Nat.lt_of_lt_of_le hlt h.upd.size)) hlt⟩
def goneO (f:Df):Option Df → Bool
 | none=>decide (0 = f.one ∧ 0 ≠ f.no)
 | some o=>decide (o.one = f.one ∧ o.no ≠ f.no)
theorem goneO_none (f:Df):goneO f none = (((0:Int) == f.one) && ((0:Int) != f.no)):=by rw [Bool.eq_iff_iff]; simp [goneO]
theorem goneO_some (f o:Df):goneO f (some o) = ((o.one == f.one) && (o.no != f.no)):=by rw [Bool.eq_iff_iff]; simp [goneO]
def goneB (fd:Int → Option Df) (f:Df) (no:Int):Bool:=goneO f (fd no)
theorem leaveL_eq (fd:Int → Option Df) (f:Df) (h:f.one ≠ 0) (l:List So):leaveL fd f l = l.filter fun t=>!goneB fd f t.no:=by
 unfold leaveL
 rw [if_neg h]
 congr 1
set_option maxRecDepth 1000000 in
set_option maxHeartbeats 4000000 in
theorem leave1_any {B:Nat} {s:Sc} {vM vE vB uK uV:Value} {m no:Int} (f:Df) (P1 P2 P3:Nat) (w:World) (hB:B ≤ w.heap.size) (hs:SAt B w s vM vE) (X1:w.heap[P1]? = some (.cells #[vM,vE,vB] 113 (0,0))) (X2:w.heap[P2]? = some (.cells #[.int .i64 m] 3 (0,0))) (X3:w.heap[P3]? = some (dC f)) :
  Calls Tryz.prog 217 #[.agg #[.int .i64 no,uK,uV],.pointer (some ⟨P1,0,none⟩),.pointer (some ⟨P2,0,none⟩),.pointer (some ⟨P3,0,none⟩)] w fun e w'=>e = .returned (.bool (goneB (byS s m) f no)) ∧ Below w.heap.size w w':=by
 have T1:=heap_alloc_new w (.cells #[.int .i64 no,uK,uV] 67)
 have LBD:=below_new w (.cells #[.int .i64 no,uK,uV] 67)
 obtain ⟨s0,s1,s2⟩:=bx3 T1
 obtain ⟨x0,x1,x2⟩:=bx3 (box_on X1 LBD)
 have y0:=bx1 (box_on X2 LBD)
 have hs1:=SAt.lo hs LBD hB
 have hB1:=Nat.le_trans hB LBD.size
 obtain ⟨o,ho⟩:∃ o,byS s m no = o:=⟨_,rfl⟩
 have HG:Hid (goneB (byS s m) f no = goneO f o):=Lib.hid (by unfold goneB; rw [ho])
 obtain ⟨R,hR⟩:∃ R,goneB (byS s m) f no = R:=⟨_,rfl⟩
 rw [hR] at HG ⊢
 clear hR
 have HX:=Lib.hid (And.intro (box_on X3 LBD) LBD)
 cases o with
 | none =>
  have HBY:=Lib.hid (by_none ho _ hB1 hs1)
  clear ho hs hs1 X1 X2 X3 T1 LBD hB hB1
  go_enter Tryz.func217,Tryz.ntmps217
  go_wp2_with fail
  refine HBY.out.mono ?_
  rintro e w1 ⟨rfl,hb1⟩
  obtain ⟨X3,LBD⟩:=HX.out
  have N2:=below_new w1 (.cells #[.int .i64 0,.string ⟨#[]⟩,.int .i64 0,.int .i64 0,.bool false,.int .i64 0,.int .i64 0] 45)
  have Z2:=heap_alloc_new w1 (.cells #[.int .i64 0,.string ⟨#[]⟩,.int .i64 0,.int .i64 0,.bool false,.int .i64 0,.int .i64 0] 45)
  obtain ⟨z0,z1,z2,z3,z4,z5,z6⟩:=dc_cells (f:=⟨0,[],0,0,false,0,0⟩) Z2
  simp only at z0 z6
  obtain ⟨g0,g1,g2,g3,g4,g5,g6⟩:=dc_cells (box_on (box_on X3 hb1) N2)
  have hbz:=Lib.hid (below_then (below_then LBD hb1) N2)
  clear Z2 N2 z1 z2 z3 z4 z5 g1 g2 g3 g4 g5 X3 LBD hb1 s0 s1 s2 x0 x1 x2 y0 HBY HX
  obtain ⟨b1,hb1⟩:∃ b,((0:Int) == f.one) = b:=⟨_,rfl⟩
  obtain ⟨b2,hb2⟩:∃ b,((0:Int) != f.no) = b:=⟨_,rfl⟩
  have HR:Hid (R = (b1 && b2)):=Lib.hid (by rw [HG.out,goneO_none,hb1,hb2])
  cases b1 <;> cases b2 <;>
  ·go_wp2
   go_ret
   exact ⟨by rw [HR.out]; rfl,hbz.out⟩
 | some o =>
  have HBY:=Lib.hid (by_found ho _ hB1 hs1)
  clear ho hs hs1 X1 X2 X3 T1 LBD hB hB1
  go_enter Tryz.func217,Tryz.ntmps217
  go_wp2_with fail
  refine HBY.out.mono ?_
  rintro e w1 ⟨rfl,hb1⟩
  obtain ⟨X3,LBD⟩:=HX.out
  have N2:=below_new w1 (.cells #[.int .i64 o.no,.string (txt o.name),.int .i64 o.kind,.int .i64 o.ref,.bool o.rep,.int .i64 o.key,.int .i64 o.one] 45)
  have Z2:=heap_alloc_new w1 (.cells #[.int .i64 o.no,.string (txt o.name),.int .i64 o.kind,.int .i64 o.ref,.bool o.rep,.int .i64 o.key,.int .i64 o.one] 45)
  obtain ⟨z0,z1,z2,z3,z4,z5,z6⟩:=dc_cells Z2
  obtain ⟨g0,g1,g2,g3,g4,g5,g6⟩:=dc_cells (box_on (box_on X3 hb1) N2)
  have hbz:=Lib.hid (below_then (below_then LBD hb1) N2)
  clear Z2 N2 z1 z2 z3 z4 z5 g1 g2 g3 g4 g5 X3 LBD hb1 s0 s1 s2 x0 x1 x2 y0 HBY HX
  obtain ⟨b1,hb1⟩:∃ b,(o.one == f.one) = b:=⟨_,rfl⟩
  obtain ⟨b2,hb2⟩:∃ b,(o.no != f.no) = b:=⟨_,rfl⟩
  have HR:Hid (R = (b1 && b2)):=Lib.hid (by rw [HG.out,goneO_some,hb1,hb2])
  cases b1 <;> cases b2 <;>
  ·go_wp2
   go_ret
   exact ⟨by rw [HR.out]; rfl,hbz.out⟩
theorem slo_list {F:List (SLo LM)} {k:Nat} {t:SLo LM} (h:F[k]? = some t):∀ j u,(cS' t)[j]? = some u → (F.flatMap cS')[k * 3 + j]? = some u:=by
 induction F generalizing k with
 | nil=>simp at h
 | cons a l ih =>
  intro j u hu
  rw [List.flatMap_cons]
  cases k with
  | zero =>
   obtain rfl:a = t:=by simpa using h
   rw [Nat.zero_mul,Nat.zero_add,List.getElem?_append_left (List.getElem?_eq_some_iff.1 hu).1]
   exact hu
  | succ k =>
   rw [List.getElem?_append_right (by show 3 ≤ _; omega),show (k + 1) * 3 + j - (cS' a).length = k * 3 + j by show (k + 1) * 3 + j - 3 = _; omega]
   exact ih (by simpa using h) j u hu
theorem slo_at {w:World} {A:Option Addr} {c:Nat} {F:List (SLo LM)} (h:Sl w A F.length c 3 (F.flatMap cS')) {k:Nat} {t:SLo LM} (hk:F[k]? = some t) :
  ∃ ad,A = some ad ∧ ad.block < w.heap.size ∧ w.cell? (ad.add (k * 3)) = some (.int .i64 t.no) ∧ w.cell? ⟨(ad.add (k * 3)).block,(ad.add (k * 3)).off + 1,none⟩ = some t.gK ∧ w.cell? ⟨(ad.add (k * 3)).block,(ad.add (k * 3)).off + 2,none⟩ = some t.gV:=by
 have hx:=slo_list hk
 obtain ⟨ad,rfl,hb,h0,hj⟩:=Sl.elem h (List.getElem?_eq_some_iff.1 hk).1
 exact ⟨ad,rfl,hb,h0 _ (by have:=hx 0 _ rfl; rwa [Nat.add_zero] at this),hj 1 _ (by omega) (hx 1 _ rfl),hj 2 _ (by omega) (hx 2 _ rfl)⟩
set_option maxRecDepth 1000000 in
set_option maxHeartbeats 4000000 in
theorem index_slo {q:Int → Bool} {P1 P2 P3:Nat} (A:Option Addr) (c:Nat) (F:List (SLo LM)) (w:World) (hs:Sl w A F.length c 3 (F.flatMap cS'))
  (HP:∀ (wx:World) (no:Int) (uK uV:Value),Below w.heap.size w wx → Calls Tryz.prog 217 #[.agg #[.int .i64 no,uK,uV],.pointer (some ⟨P1,0,none⟩),.pointer (some ⟨P2,0,none⟩),.pointer (some ⟨P3,0,none⟩)] wx fun e w'=>e = .returned (.bool (q no)) ∧ Below wx.heap.size wx w') :
  Calls Tryz.prog 228 #[.slice A F.length c,.func (.func 217) #[] #[.pointer (some ⟨P1,0,none⟩),.pointer (some ⟨P2,0,none⟩),.pointer (some ⟨P3,0,none⟩)]] w fun e w'=>∃ r:Int,e = .returned (.int .i64 r) ∧ ((r = -1 ∧ ∀ t ∈ F,q t.no = false) ∨ ∃ (l1 l2:List (SLo LM)) (t:SLo LM),r = l1.length ∧ F = l1 ++ t :: l2 ∧ (∀ u ∈ l1,q u.no = false) ∧ q t.no = true) ∧ Below w.heap.size w w':=by
 have hsm:F.length ≤ 9223372036854775807:=by have h1:=hs.le; have h2:=hs.cap; unfold maxLen at h2; omega
 have HS:=Lib.hid hs
 have HC:=Lib.hid HP
 clear hs HP
 go_enter Tryz.func228,Tryz.ntmps228
 go_wp2
 go_loopw [8] (fun i wr=>∃ k:Nat,i = .int .i64 k ∧ k ≤ F.length ∧ (∀ u ∈ F.take k,q u.no = false) ∧ Below w.heap.size w wr) (fun i _=>F.length - (intOf i).toNat)
 case atStart=>exact ⟨0,rfl,by omega,fun u hu=>by simp at hu,Below.refl _ _⟩
 case round =>
  obtain ⟨k,rfl,hk,herr,hb⟩:=hrel
  have HQ:=Lib.hid herr
  clear herr
  by_cases hlt:k < F.length
  ·obtain ⟨t,ht⟩:∃ t,F[k]? = some t:=⟨_,List.getElem?_eq_getElem hlt⟩
   obtain ⟨ad,rfl,hg,c0,c1,c2⟩:=slo_at (HS.out.on hb) ht
   have HCL:=HC.out wr t.no t.gK t.gV hb
   have HD0:=Lib.hid ht
   clear ht
   obtain ⟨v,hv⟩:∃ v,q t.no = v:=⟨_,rfl⟩
   rw [hv] at HCL
   have HV:=Lib.hid hv
   have HCL2:=Lib.hid HCL
   clear hv HCL
   cases v with
   | true =>
    go_wp2_with (go_at_call 217; refine HCL2.out.mono ?_; rintro e w1 ⟨rfl,hb1⟩)
    go_ret
    obtain ⟨l1,l2,hF,hl⟩:=split_at HD0.out
    refine ⟨k,rfl,.inr ⟨l1,l2,t,by rw [hl],hF,fun u hu=>HQ.out u ?_,HV.out⟩,hb.trans (hb1.mono hb.size)⟩
    rw [hF,← hl,List.take_left]
    exact hu
   | false =>
    go_wp2_with (go_at_call 217; refine HCL2.out.mono ?_; rintro e w1 ⟨rfl,hb1⟩)
    refine ⟨⟨k + 1,by go_num,by omega,fun u hu=>?_,hb.trans (hb1.mono hb.size)⟩,by simp [intOf]; omega⟩
    rw [List.take_add_one,HD0.out] at hu
    rcases List.mem_append.1 hu with hu | hu
    ·exact HQ.out u hu
    ·obtain rfl:u = t:=by simpa using hu
     exact HV.out
  ·obtain rfl:k = F.length:=by omega
   go_wp2
   go_ret
   exact ⟨-1,rfl,.inl ⟨rfl,fun u hu=>HQ.out u (by rw [List.take_length]; exact hu)⟩,hb⟩
theorem run_clear_row {P:Program} (w:World) (t e ty:TypeId) (z:Value) (ht:P.underlying t = some (.slice e)) (hv:∀ w,(zeroValue e).run P w = .ok z w) (b o n c:Nat) (hn:0 < n) (h1:∀ v ∈ (Builtin.zeroCells z.cells n).toList,v.oneCell' = true)
  (hc:∀ j,j < (Builtin.zeroCells z.cells n).toList.length → (w.cell? ⟨b,o + j,none⟩).isSome = true) (hf:∀ j,j < (Builtin.zeroCells z.cells n).toList.length → w.frozen? ⟨b,o + j,none⟩ = false) :
  (Builtin.clear_ #[t] ty #[.slice (some ⟨b,o,none⟩) n c]).run P w = .ok (.tuple #[]) (w.setCells b o (Builtin.zeroCells z.cells n).toList):=by
 have hst:=run_storeCells_cells (P:=P) b o (Builtin.zeroCells z.cells n).toList 0 w (by simpa using hc) (by simpa using hf) h1
 simp only [Nat.add_zero] at hst
 obtain ⟨m,rfl⟩:∃ m,n = m + 1:=⟨n - 1,by omega⟩
 simp [Builtin.clear_,run_underlying ht,hv,hst]
theorem own_cut {w:World} {b:Nat} {e:TypeId} {size g n cap k:Nat} {xs:List Value} (h:w.ownsRow b e size (.slice (some ⟨g,0,none⟩) n cap) n xs) (hk:k ≤ n):w.ownsRow b e size (.slice (some ⟨g,0,none⟩) k cap) k (xs.take (k * size)):=by
 rcases h with ⟨hl,⟨h1,_⟩ | ⟨g',cap',cur,h1,h2,h3,h4,h5,h6,h7⟩⟩
 ·cases h1
 ·simp only [Value.slice.injEq,Option.some.injEq,Addr.mk.injEq,and_true,true_and] at h1
  obtain ⟨rfl,rfl⟩:=h1
  have hle:k * size ≤ n * size:=Nat.mul_le_mul_right _ hk
  exact ⟨by rw [List.length_take,hl]; omega,.inr ⟨g,cap,cur,rfl,h2,h3,by omega,h5,h6,by rw [← h7,List.take_take,Nat.min_eq_left hle]⟩⟩
theorem own_sets {b:Nat} {e:TypeId} {size g n cap:Nat}:∀ (vs:List Value) (o k:Nat) (w:World) (xs:List Value),w.ownsRow b e size (.slice (some ⟨g,0,none⟩) n cap) n xs → k ≤ o → ∃ xs',(w.setCells g o vs).ownsRow b e size (.slice (some ⟨g,0,none⟩) n cap) n xs' ∧ xs'.take k = xs.take k ∧ w.grownBy (w.setCells g o vs) (some g)
 | [],o,k,w,xs,h,_=>⟨xs,h,rfl,⟨rfl,rfl,rfl,Nat.le_refl _,fun _ _ _=>rfl⟩⟩
 | v :: vs,o,k,w,xs,h,hk=>by
  obtain ⟨h1,h2⟩:=h.stored o v
  obtain ⟨xs',h3,h4,h5⟩:=own_sets vs (o + 1) k _ _ h1 (by omega)
  refine ⟨xs',h3,h4.trans ?_,⟨h5.os.trans h2.os,h5.tape.trans h2.tape,h5.output.trans h2.output,Nat.le_trans h2.size h5.size,fun j hj hne=>(h5.block j (Nat.lt_of_lt_of_le hj h2.size) hne).trans (h2.block j hj hne)⟩⟩
  rw [List.take_set_of_le hk]
theorem grown_trans {w w1 w2:World} {g:Nat} (h:w.grownBy w1 (some g)) (k:w1.grownBy w2 (some g)):w.grownBy w2 (some g) :=
 ⟨k.os.trans h.os,k.tape.trans h.tape,k.output.trans h.output,Nat.le_trans h.size k.size,fun j hj hne=>(k.block j (Nat.lt_of_lt_of_le hj h.size) hne).trans (h.block j hj hne)⟩
theorem grown_below {w w1:World} {g:Nat} (h:Below w.heap.size w w1):w.grownBy w1 (some g):=⟨h.os,h.tape,h.output,h.size,fun j hj _=>h.block j hj⟩
theorem keep_take {q:Int → Bool} {l:List (SLo LM)} {m:Nat} {t:SLo LM} (h:l[m]? = some t):(l.take (m + 1)).filter (fun t=>!q t.no) = (l.take m).filter (fun t=>!q t.no) ++ (if q t.no = true then [] else [t]):=by
 rw [List.take_add_one,h,List.filter_append]
 cases hq:q t.no <;> simp [hq]
theorem keep_le {q:Int → Bool} (l:List (SLo LM)) (m:Nat):((l.take m).filter (fun t=>!q t.no)).length ≤ m:=Nat.le_trans (List.length_filter_le _ _) (by rw [List.length_take]; omega)
theorem row_move {K1 rest:List (SLo LM)} {t:SLo LM} {mid:List Value} (hm:3 ≤ mid.length):(((K1.flatMap cS' ++ mid ++ (t :: rest).flatMap cS').set (K1.length * 3) (.int .i64 t.no)).set (K1.length * 3 + 1) t.gK).set (K1.length * 3 + 2) t.gV = (K1 ++ [t]).flatMap cS' ++ (mid.drop 3 ++ cS' t) ++ rest.flatMap cS':=by
 obtain ⟨a,b,c,mid',rfl⟩:∃ a b c mid',mid = a :: b :: c :: mid':=by
  match mid,hm with
  | a :: b :: c :: mid',_=>exact ⟨a,b,c,mid',rfl⟩
 rw [List.flatMap_append,List.flatMap_cons,List.flatMap_cons,List.flatMap_nil,List.append_nil]
 have hl:=cells_len K1
 simp only [List.append_assoc]
 rw [List.set_append_right _ _ (by omega),List.set_append_right _ _ (by omega),List.set_append_right _ _ (by omega),hl,show K1.length * 3 - K1.length * 3 = 0 by omega,show K1.length * 3 + 1 - K1.length * 3 = 1 by omega,show K1.length * 3 + 2 - K1.length * 3 = 2 by omega]
 rfl
theorem zero_slot:∀ w,(zeroValue 67).run Tryz.prog w = .ok (.agg #[.int .i64 0,.slice none 0 0,.slice none 0 0]) w:=fun w=>by
 obtain ⟨i0,hi,hz0,-,-⟩:=info_parts T9.info_slot
 simp [zeroValue,typeInfo,hi,hz0]
set_option maxRecDepth 1000000 in
set_option maxHeartbeats 8000000 in
theorem delete_slo {q:Int → Bool} {P1 P2 P3:Nat} (b g c:Nat) (F:List (SLo LM)) (w:World) (hsh:∀ t ∈ F,(∃ A n c,t.gK = .slice A n c) ∧ ∃ A n c,t.gV = .slice A n c) (ho:w.ownsRow b 67 3 (.slice (some ⟨g,0,none⟩) F.length c) F.length (F.flatMap cS'))
  (HP:∀ (wx:World) (no:Int) (uK uV:Value),w.grownBy wx (some g) → Calls Tryz.prog 217 #[.agg #[.int .i64 no,uK,uV],.pointer (some ⟨P1,0,none⟩),.pointer (some ⟨P2,0,none⟩),.pointer (some ⟨P3,0,none⟩)] wx fun e w'=>e = .returned (.bool (q no)) ∧ Below wx.heap.size wx w') :
  Calls Tryz.prog 216 #[.slice (some ⟨g,0,none⟩) F.length c,.func (.func 217) #[] #[.pointer (some ⟨P1,0,none⟩),.pointer (some ⟨P2,0,none⟩),.pointer (some ⟨P3,0,none⟩)]] w fun e w'=>e = .returned (.slice (some ⟨g,0,none⟩) (F.filter fun t=>!q t.no).length c) ∧
   w'.ownsRow b 67 3 (.slice (some ⟨g,0,none⟩) (F.filter fun t=>!q t.no).length c) (F.filter fun t=>!q t.no).length ((F.filter fun t=>!q t.no).flatMap cS') ∧ w.grownBy w' (some g):=by
 obtain ⟨R,hR⟩:∃ R,(F.filter fun t=>!q t.no) = R:=⟨_,rfl⟩
 rw [hR]
 have HR:=Lib.hid hR
 clear hR
 obtain ⟨A,c',e1,hsl⟩:=Sl.of_own ho
 injection e1 with e11 e12 e13
 subst e11 e13
 have hFc:F.length ≤ c:=hsl.le
 have hcm:c ≤ 9223372036854775807:=by have h2:=hsl.cap; unfold maxLen at h2; omega
 have HI:=Lib.hid (index_slo (q:=q) (some ⟨g,0,none⟩) c F w hsl (fun wx no uK uV h=>HP wx no uK uV (grown_below h)))
 have HO:=Lib.hid ho
 have HC:=Lib.hid HP
 clear ho HP hsl
 go_enter Tryz.func216,Tryz.ntmps216
 go_wp2_with fail
 refine HI.out.mono ?_
 rintro e w1 ⟨r,rfl,⟨rfl,hall⟩ | ⟨l1,l2,t0,rfl,hF,hno,hyes⟩,hb1⟩
 ·have hfil:F = R:=(List.filter_eq_self.2 fun t ht=>by rw [hall t ht]; rfl).symm.trans HR.out
  subst hfil
  have HB:=Lib.hid hb1
  clear hall hb1
  go_wp2
  go_ret
  exact ⟨rfl,own_hi HO.out (hi_below b HB.out),grown_below HB.out⟩
 ·have hn:F.length = l1.length + 1 + l2.length:=by rw [hF]; simp; omega
  have hne:(((l1.length:Nat):Int) == -1) = false:=beq_eq_false_iff_ne.2 (by omega)
  have hf1:(l1.filter fun t=>!q t.no) = l1:=List.filter_eq_self.2 fun t ht=>by rw [hno t ht]; rfl
  have hfil:(F.filter fun t=>!q t.no) = l1 ++ l2.filter fun t=>!q t.no:=by
   rw [hF,List.filter_append,hf1,List.filter_cons,hyes]
   rfl
  have HSH:Hid (∀ t ∈ l2,(∃ A n c,t.gK = .slice A n c) ∧ ∃ A n c,t.gV = .slice A n c):=Lib.hid (fun t ht=>hsh t (by rw [hF]; simp [ht]))
  clear hsh
  have HF:Hid (R = l1 ++ l2.filter fun t=>!q t.no):=Lib.hid (HR.out.symm.trans hfil)
  have HO1:Hid (w1.ownsRow b 67 3 (.slice (some ⟨g,0,none⟩) F.length c) F.length (l1.flatMap cS' ++ cS' t0 ++ l2.flatMap cS')):=Lib.hid (by
   have h:=own_hi HO.out (hi_below b hb1)
   have hx:F.flatMap cS' = l1.flatMap cS' ++ cS' t0 ++ l2.flatMap cS':=by rw [hF,List.flatMap_append,List.flatMap_cons,List.append_assoc]
   rwa [hx] at h)
  have HB:=Lib.hid hb1
  have HN:=Lib.hid hn
  obtain ⟨n,hnn⟩:∃ n,F.length = n:=⟨_,rfl⟩
  rw [hnn] at HN HO1 hFc ⊢
  have HNN:=Lib.hid hnn
  clear hF hno hyes hf1 hfil hb1 hn hnn HI HO HR
  have HL1:Hid (l1.length < n):=Lib.hid (by have:=HN.out; omega)
  go_wp2
  go_loopw [5,6] (fun si sj wr=>∃ (m:Nat) (K1:List (SLo LM)) (mid:List Value),K1 = l1 ++ (l2.take m).filter (fun t=>!q t.no) ∧ si = .int .i64 (K1.length:Nat) ∧ sj = .int .i64 ((l1.length + 1 + m:Nat):Int) ∧ m ≤ l2.length ∧ mid.length + K1.length * 3 = (l1.length + 1 + m) * 3 ∧ wr.ownsRow b 67 3 (.slice (some ⟨g,0,none⟩) n c) n (K1.flatMap cS' ++ mid ++ (l2.drop m).flatMap cS') ∧ w.grownBy wr (some g)) (fun _ sj _=>n - (intOf sj).toNat)
  case atStart =>
   refine ⟨0,l1,cS' t0,by simp,rfl,(by have:=HL1.out; refine congrArg _ ?_; unfold wrap64; omega),Nat.zero_le _,by show 3 + _ = _; omega,?_,grown_below HB.out⟩
   rw [List.drop_zero]
   exact HO1.out
  case round =>
   obtain ⟨m,K1,mid,hK1,rfl,rfl,hm,hmid,hown,hgw⟩:=hrel
   have hKl:K1.length ≤ l1.length + m:=by rw [hK1,List.length_append]; have:=keep_le (q:=q) l2 m; omega
   have hN:=HN.out
   by_cases hlt:m < l2.length
   ·obtain ⟨t,ht⟩:∃ t,l2[m]? = some t:=⟨_,List.getElem?_eq_getElem hlt⟩
    have hdrop:l2.drop m = t :: l2.drop (m + 1):=drop_cons ht
    obtain ⟨⟨Ak,nk,ck,hk⟩,⟨Av,nv,cv,hv⟩⟩:=HSH.out t (List.mem_of_getElem? ht)
    rw [hdrop] at hown
    have hcl:=cells_len K1
    have hcell:∀ k u,(cS' t)[k]? = some u → wr.cell? ⟨g,(l1.length + 1 + m) * 3 + k,none⟩ = some u:=fun k u hu=>by
     have h3:=hown.cells (g:=g) rfl ((l1.length + 1 + m) * 3 + k) u (by
      rw [List.getElem?_append_right (by rw [List.length_append,hcl]; omega),List.length_append,hcl,List.flatMap_cons,List.getElem?_append_left (by have:=(List.getElem?_eq_some_iff.1 hu).1; omega),show (l1.length + 1 + m) * 3 + k - (K1.length * 3 + mid.length) = k by omega]
      exact hu)
     rwa [Addr.add_lit,Nat.zero_add] at h3
    obtain ⟨j,hj⟩:∃ j,l1.length + 1 + m = j:=⟨_,rfl⟩
    obtain ⟨i,hi⟩:∃ i,K1.length = i:=⟨_,rfl⟩
    have hjn:j < n:=by omega
    have hin:i < n:=by omega
    have c0:wr.cell? ⟨g,(l1.length + 1 + m) * 3,none⟩ = _:=hcell 0 _ rfl
    have c1:=hcell 1 _ rfl
    have c2:=hcell 2 _ rfl
    rw [hj] at c0 c1 c2
    rw [hk] at c1
    rw [hv] at c2
    have HKV:=Lib.hid (And.intro hk hv)
    clear hk hv
    rw [hj,hi]
    have hg:=own_blk hown g rfl
    have N2:=below_new wr (.cells #[.int .i64 t.no,(.slice Ak nk ck),(.slice Av nv cv)] 67)
    have Z2:=heap_alloc_new wr (.cells #[.int .i64 t.no,(.slice Ak nk ck),(.slice Av nv cv)] 67)
    obtain ⟨z0,z1,z2⟩:=bx3 Z2
    have HCL:=HC.out (wr.alloc (.cells #[.int .i64 t.no,(.slice Ak nk ck),(.slice Av nv cv)] 67)) t.no (.slice Ak nk ck) (.slice Av nv cv) (grown_trans hgw (grown_below N2))
    have HW:=Lib.hid (And.intro hown (And.intro hgw (And.intro N2 (And.intro Z2 (And.intro hK1 (And.intro hmid (And.intro ht (And.intro hj (And.intro hi (And.intro hlt (And.intro hg.1 (And.intro hg.2 (And.intro hN (And.intro hKl hdrop))))))))))))))
    have hgl:=hg.2
    clear hown hgw N2 Z2 hK1 hmid ht hj hi hlt hcell hdrop hcl hg hN hKl hm
    obtain ⟨v,hv⟩:∃ v,q t.no = v:=⟨_,rfl⟩
    rw [hv] at HCL
    have HV:=Lib.hid hv
    have HCL2:=Lib.hid HCL
    clear hv HCL
    cases v with
    | true =>
     go_wp2_with (go_at_call 217; refine HCL2.out.mono ?_; rintro e w3 ⟨rfl,hb3⟩)
     obtain ⟨hown,hgw,N2,Z2,hK1,hmid,ht,hj,hi,hlt,hgb,hgl,hN,hKl,hdrop⟩:=HW.out
     have hjj:l1.length + 1 + (m + 1) = j + 1:=by omega
     refine ⟨⟨m + 1,K1,mid ++ cS' t,?_,by rw [hi],by rw [hjj]; go_num,by omega,?_,?_,?_⟩,by simp [intOf]; omega⟩
     ·rw [keep_take ht,HV.out,if_pos rfl,List.append_nil]; exact hK1
     ·rw [List.length_append]; show _ + 3 + _ = _; omega
     ·have h:=own_hi (own_hi hown (hi_below b N2)) (hi_below b hb3)
      rwa [List.flatMap_cons,← List.append_assoc,List.append_assoc (K1.flatMap cS')] at h
     ·exact grown_trans hgw (grown_below (below_then N2 hb3))
    | false =>
     go_wp2_with fail
     refine HCL2.out.mono ?_
     rintro e w3 ⟨rfl,hb3⟩
     obtain ⟨hown,hgw,N2,Z2,hK1,hmid,ht,hj,hi,hlt,hgb,hgl,hN,hKl,hdrop⟩:=HW.out
     have hown3:=own_hi (own_hi hown (hi_below b N2)) (hi_below b hb3)
     have hg3:=grown_trans hgw (grown_below (below_then N2 hb3))
     obtain ⟨y0,y1,y2⟩:=bx3 (box_on Z2 hb3)
     have hcl:=cells_len K1
     have hex:∀ k,k < 3 → ∃ u,w3.cell? ⟨g,i * 3 + k,none⟩ = some u:=fun k hk=>by
      have hl:=hown3.1
      obtain ⟨u,hu⟩:∃ u,(K1.flatMap cS' ++ mid ++ (t :: l2.drop (m + 1)).flatMap cS')[i * 3 + k]? = some u:=⟨_,List.getElem?_eq_getElem (by omega)⟩
      have h3:=hown3.cells (g:=g) rfl (i * 3 + k) u hu
      rw [Addr.add_lit,Nat.zero_add] at h3
      exact ⟨u,h3⟩
     obtain ⟨u0,x0⟩:=hex 0 (by omega)
     obtain ⟨u1,x1⟩:=hex 1 (by omega)
     obtain ⟨u2,x2⟩:=hex 2 (by omega)
     rw [Nat.add_zero] at x0
     have f3:∀ k,w3.frozen? ⟨g,k,none⟩ = false:=fun k=>own_froz hown3 k
     have hg3s:g < w3.heap.size:=(own_blk hown3 g rfl).2
     have HM:=Lib.hid (And.intro hown3 (And.intro hg3 (And.intro hK1 (And.intro hmid (And.intro ht (And.intro hj (And.intro hi (And.intro hlt (And.intro hN hKl)))))))))
     clear hown hgw N2 Z2 hK1 hmid ht hj hi hlt hgb hgl hN hKl hdrop hown3 hg3 hcl hex hb3 z0 z1 z2 c0 c1 c2
     go_wp2
     obtain ⟨hown3,hg3,hK1,hmid,ht,hj,hi,hlt,hN,hKl⟩:=HM.out
     have hjj:l1.length + 1 + (m + 1) = j + 1:=by omega
     obtain ⟨s1,e1⟩:=hown3.stored (i * 3) (.int .i64 t.no)
     obtain ⟨s2,e2⟩:=s1.stored (i * 3 + 1) (.slice Ak nk ck)
     obtain ⟨s3,e3⟩:=s2.stored (i * 3 + 2) (.slice Av nv cv)
     have hmv:=row_move (K1:=K1) (rest:=l2.drop (m + 1)) (t:=t) (mid:=mid) (by omega)
     rw [hi,HKV.out.1,HKV.out.2] at hmv
     rw [hmv] at s3
     refine ⟨⟨m + 1,K1 ++ [t],mid.drop 3 ++ cS' t,?_,by rw [List.length_append,hi]; go_num,by rw [hjj]; go_num,by omega,?_,s3,grown_trans (grown_trans (grown_trans hg3 e1) e2) e3⟩,by simp [intOf]; omega⟩
     ·rw [keep_take ht,HV.out,if_neg (by decide),hK1,List.append_assoc]
     ·rw [List.length_append,List.length_append,List.length_drop]; show mid.length - 3 + 3 + (K1.length + 1) * 3 = _; omega
   ·obtain rfl:m = l2.length:=by omega
    have hK:K1 = R:=by rw [hK1,List.take_length,HF.out]
    subst hK
    obtain ⟨i,hi⟩:∃ i,K1.length = i:=⟨_,rfl⟩
    have hin:i < n:=by omega
    have hj:l1.length + 1 + l2.length = n:=by omega
    rw [hi,hj]
    have hic:¬ i = c:=by omega
    have hzl:(Builtin.zeroCells (Value.agg #[.int .i64 0,.slice none 0 0,.slice none 0 0]).cells (n - i)).toList.length = (n - i) * 3:=by rw [Array.length_toList,size_zeroCells]; rfl
    have hex:∀ k,k < n * 3 → (wr.cell? ⟨g,k,none⟩).isSome = true:=fun k hk=>by
     have hl:=hown.1
     obtain ⟨u,hu⟩:∃ u,(K1.flatMap cS' ++ mid ++ (l2.drop l2.length).flatMap cS')[k]? = some u:=⟨_,List.getElem?_eq_getElem (by omega)⟩
     have h3:=hown.cells (g:=g) rfl k u hu
     rw [Addr.add_lit,Nat.zero_add] at h3
     rw [h3]; rfl
    have hone:∀ v ∈ (Builtin.zeroCells (Value.agg #[.int .i64 0,.slice none 0 0,.slice none 0 0]).cells (n - i)).toList,v.oneCell' = true:=fun v hv=>by
     rw [Array.mem_toList_iff] at hv
     unfold Builtin.zeroCells at hv
     obtain ⟨k,-,rfl⟩:=Array.mem_map.1 hv
     have hk:k % 3 = 0 ∨ k % 3 = 1 ∨ k % 3 = 2:=by omega
     show Value.oneCell' ((#[Value.int .i64 0,.slice none 0 0,.slice none 0 0]:Array Value)[k % 3]!) = true
     rcases hk with h | h | h <;> (rw [h]; rfl)
    have hcl:∀ ty,(Builtin.clear_ #[29] ty #[.slice (some ⟨g,i * 3,none⟩) (n - i) (c - i)]).run Tryz.prog wr = .ok (.tuple #[]) (wr.setCells g (i * 3) (Builtin.zeroCells #[.int .i64 0,.slice none 0 0,.slice none 0 0] (n - i)).toList):=fun ty =>
     run_clear_row wr _ 67 ty _ Tryz.underlying29 zero_slot g (i * 3) (n - i) (c - i) (by omega) hone (fun k hk=>hex _ (by rw [hzl] at hk; omega)) (fun k _=>own_froz hown _)
    obtain ⟨xs',o1,o2,o3⟩:=own_sets (Builtin.zeroCells #[.int .i64 0,.slice none 0 0,.slice none 0 0] (n - i)).toList (i * 3) (i * 3) wr _ hown (Nat.le_refl _)
    have o4:=own_cut o1 (Nat.le_of_lt hin)
    rw [o2] at o4
    have hcells:(K1.flatMap cS' ++ mid ++ (l2.drop l2.length).flatMap cS').take (i * 3) = K1.flatMap cS':=by
     rw [List.append_assoc,List.take_left' (by rw [cells_len,hi])]
    rw [hcells] at o4
    have hgz:=grown_trans hgw o3
    have HZ:=Lib.hid (And.intro o4 hgz)
    clear hown hgw hmid hKl hN hlt hzl hex hone o1 o2 o3 o4 hgz hcells hK1 hj
    go_wp2
    go_ret
    subst hi
    exact ⟨rfl,HZ.out.1,HZ.out.2⟩
def SPost (wo:World) (s:Sc) (n:Nat) (f:Df) (K g o:Nat) (t:SLo LM) (D:Except Nat So) (w:World) (e:Ending) (w':World):Prop :=
 (∃ er:Nat,D = .error er ∧ e = .panicked [{ v:=errP er,recovered:=false }] ∧ Below wo.heap.size w w') ∨
 (∃ t':SLo LM,D = .ok (bareS t') ∧ t'.no = t.no ∧ e = .returned (.tuple #[]) ∧ UpdS g o t' (blocks (rowsS t)) w w' ∧ Lies wo.heap.size K w' (rowsS t') ∧ g ∉ blocks (rowsS t') ∧ (∀ q ∈ blocks (rowsS t'),q < w.heap.size → q ∈ blocks (rowsS t)) ∧ (f.kind = 9 → ∀ v ∈ t'.V,∃ y,v.M = [y] ∧ Full s n f.ref y))
def MPost (wo:World) (s:Sc) (n:Nat) (m:Int) (K:Nat) (p:Addr) (x:LM) (D:Except Nat (List So)) (w:World) (e:Ending) (w':World):Prop :=
 (∃ er:Nat,D = .error er ∧ e = .panicked [{ v:=errP er,recovered:=false }] ∧ Below wo.heap.size w w') ∨
 (∃ x':LM,D = .ok (x'.F.map bareS) ∧ e = .returned (.tuple #[]) ∧ Upd p x'.v (blocks x.rows) w w' ∧ Lies wo.heap.size K w' x'.rows ∧ p.block ∉ blocks x'.rows ∧ (∀ q ∈ blocks x'.rows,q < w.heap.size → q ∈ blocks x.rows) ∧ Full s n m x')
theorem upd_below {b:Nat} {w w':World} {p:Addr} {v:Value} {ids:List Nat} (h:Upd p v ids w w') (hb:b ≤ w.heap.size) (hp:b ≤ p.block) (hi:∀ k ∈ ids,b ≤ k):Below b w w':=by
 refine ⟨h.os,h.tape,h.output,h.size,fun k hk=>?_⟩
 rw [h.block k (Nat.lt_of_lt_of_le hk hb) (fun hm=>by have:=hi k hm; omega),setCell_at]
 cases w.heap[k]? with
 | none=>rfl
 | some z=>simp only [Option.map_some]; rw [if_neg (by omega)]
theorem Got1.post {wo:World} {s:Sc} {n:Nat} {m:Int} {f:Df} {K K':Nat} {p:Addr} {no:Int} {x:LM} {w w1 w2:World} {g c:Nat} {l1 l2:List (SLo LM)} {t:SLo LM} {e:Ending} {G:So → Except Nat So} (h:Got1 wo.heap.size K p no x w g c l1 t l2 w1) (hbo:wo.heap.size ≤ w.heap.size) (hpo:wo.heap.size ≤ p.block) (hs:p.spot = none) (hp:p.block < w.heap.size) (hids:∀ k ∈ blocks x.rows,wo.heap.size ≤ k) (hf:byS s m no = some f) (hful:Full s (n + 1) m x) (hK:K ≤ K')
  (hS:SPost wo s n f K' g (l1.length * 3) t (G (bareS t)) w1 e w2):MPost wo s (n + 1) m K' p x (onSlot no G (x.F.map bareS)) w e w2:=by
 rw [h.step G]
 rcases hS with ⟨er,h1,h2,h3⟩ | ⟨t',h1,h2,h3,h4,h5,h6,h7,h8⟩
 ·exact .inl ⟨er,by rw [h1]; rfl,h2,(upd_below h.upd hbo hpo hids).trans h3⟩
 ·obtain ⟨k1,k2,k3,k4⟩:=h.done hs hp h2 h4 h5 h6 h7 hK
  refine .inr ⟨LM.mk (.slice (some ⟨g,0,none⟩) (l1 ++ t' :: l2).length c) (l1 ++ t' :: l2),?_,h3,k1,k2,k3,k4,fun u hu f' hf' h9 v hv=>?_⟩
  ·rw [h1]
   show Except.ok _ = Except.ok _
   congr 1
   show _ = (l1 ++ t' :: l2).map bareS
   rw [List.map_append,List.map_cons]
  ·rcases List.mem_append.1 hu with hu | hu
   ·exact hful u (h.rest u (.inl hu)) f' hf' h9 v hv
   ·rcases List.mem_cons.1 hu with rfl | hu
    ·rw [h2,h.nume] at hf'
     obtain rfl:f = f':=Option.some.inj (hf.symm.trans hf')
     exact h8 h9 v hv
    ·exact hful u (h.rest u (.inr hu)) f' hf' h9 v hv
theorem Got1.full {b:Nat} {s:Sc} {n:Nat} {m:Int} {f:Df} {K:Nat} {p:Addr} {no:Int} {x:LM} {w w1:World} {g c:Nat} {l1 l2:List (SLo LM)} {t:SLo LM} (h:Got1 b K p no x w g c l1 t l2 w1) (hf:byS s m no = some f) (hful:Full s (n + 1) m x):f.kind = 9 → ∀ v ∈ t.V,∃ y,v.M = [y] ∧ Full s n f.ref y:=by
 intro h9 v hv
 rcases h.from_ with ht | ⟨rfl,-,-⟩
 ·exact hful t ht f (by rw [h.nume]; exact hf) h9 v hv
 ·cases hv
def numV (n:Int):VL LM:=⟨n,[],.slice none 0 0,[]⟩
theorem numV_rows (l:List Int):((l.map numV).map rowsV).flatten = l.map fun _=>(⟨31,1,.slice none 0 0,0,[]⟩:Rw):=by
 induction l with
 | nil=>rfl
 | cons a l ih=>rw [List.map_cons,List.map_cons,List.flatten_cons,ih]; rfl
theorem numV_cells (l:List Int):(l.map numV).flatMap cV' = nums3 l:=by
 induction l with
 | nil=>rfl
 | cons a l ih=>rw [List.map_cons,List.flatMap_cons,ih]; rfl
theorem nil_blocks (l:List Int):blocks (l.map fun _=>(⟨31,1,.slice none 0 0,0,[]⟩:Rw)) = []:=by
 induction l with
 | nil=>rfl
 | cons a l ih=>rw [List.map_cons]; unfold blocks at ih ⊢; rw [List.filterMap_cons]; exact ih
theorem blocks_of {r:Rw} {l:List Rw} {q:Nat}:q ∈ blocks (r :: l) ↔ r.v.ownBlock = some q ∨ q ∈ blocks l:=by
 unfold blocks
 rw [List.filterMap_cons]
 cases h:r.v.ownBlock with
 | none=>simp
 | some k=>simp [List.mem_cons,eq_comm]
set_option maxHeartbeats 1000000 in
theorem packedL {wo:World} {s:Sc} {vM vE:Value} {A:Option Addr} {c:Nat} {l:List UInt8} (n:Nat) (f:Df) (r:Rc) (g o:Nat) (t:SLo LM) (K:Nat) (w:World) (hr:SlB w A c l) (hl:l.length ≤ 1000000000) (hb:wo.heap.size ≤ w.heap.size) (hg:g < w.heap.size) (hA:AtSlo g o t w) (hL:Lies wo.heap.size K w (rowsS t)) (hgn:g ∉ blocks (rowsS t)) (hf1:r.frm ≤ r.upto) (hf2:r.upto ≤ l.length) (hK:K ≤ 1000000000) (h9:f.kind ≠ 9) :
  Calls Tryz.prog 150 #[.agg #[vM,vE,.slice A l.length c],.pointer (some ⟨g,o,none⟩),.agg #[.int .i64 f.no,.string (txt f.name),.int .i64 f.kind,.int .i64 f.ref,.bool f.rep,.int .i64 f.key,.int .i64 f.one],RV r] w fun e w'=>SPost wo s n f (K + (r.upto - r.frm)) g o t (packedS f l r (bareS t)) w e w':=by
 have hS:rowsS t = rwS t.gK t.K :: rwS t.gV t.V :: ((t.K.map rowsV).flatten ++ (t.V.map rowsV).flatten):=rowsS_eq t
 obtain ⟨hrow,hrn⟩:=hL.own (rwS t.gV t.V) (by rw [hS]; exact List.mem_cons_of_mem _ (List.mem_cons_self ..))
 have hrow:w.ownsRow wo.heap.size 81 3 t.gV t.V.length (t.V.flatMap cV'):=hrow
 have hrn:t.V.length ≤ K:=hrn
 have hmem:∀ k,t.gV.ownBlock = some k → k ∈ blocks (rowsS t):=fun k hk=>mem_blocks (r:=rwS t.gV t.V) (by rw [hS]; exact List.mem_cons_of_mem _ (List.mem_cons_self ..)) hk
 have hAV:AtV wo.heap.size g o w t.gV.ownBlock.toList t.V.length (t.V.flatMap cV') w:=⟨⟨t.gV,hA.c2,hrow,Upd.refl _ hA.c2 rfl,fun k hk=>⟨fun e=>hgn (e ▸ hmem k hk),fun _=>by rw [hk]; simp⟩⟩,hA.froz _⟩
 have hNl:=numsK_len f.kind (winR l r)
 have hwl:=winR_le l r
 refine (packed_any vM vE A c l g o wo.heap.size f r.no r.wire r.num r.frm r.upto hf1 hf2 hl w hr t.gV.ownBlock.toList t.V.length (t.V.flatMap cV') hb hg (by omega) hAV).mono ?_
 rintro e w' (⟨h0,rfl,⟨⟨v,hc,hv,hU,hk⟩,hz⟩⟩ | ⟨h0,rfl,hbw⟩)
 ·obtain ⟨N,hN⟩:∃ N,(numsK f.kind (winR l r)).1 = N:=⟨_,rfl⟩
  have hN':(numsK f.kind ((l.drop r.frm).take (r.upto - r.frm))).1 = N:=hN
  rw [hN'] at hv
  rw [hN] at hNl
  have hD:packedS f l r (bareS t) = .ok (bareS ⟨t.no,t.gK,t.K,v,t.V ++ N.map numV⟩):=by
   unfold packedS
   rw [if_pos (show (numsK f.kind (winR l r)).2 = 0 from h0),hN]
   congr 1
   unfold bareS
   simp only [List.map_append,List.map_map]
   congr 2
  have hR:rowsS (⟨t.no,t.gK,t.K,v,t.V ++ N.map numV⟩:SLo LM) = rwS t.gK t.K :: rwS v (t.V ++ N.map numV) :: (((t.K.map rowsV).flatten ++ (t.V.map rowsV).flatten) ++ N.map fun _=>(⟨31,1,.slice none 0 0,0,[]⟩:Rw)):=by
   rw [rowsS_eq]
   simp only [List.map_append,List.flatten_append,numV_rows,List.append_assoc]
  have hbk:∀ q,q ∈ blocks (rowsS (⟨t.no,t.gK,t.K,v,t.V ++ N.map numV⟩:SLo LM)) ↔ t.gK.ownBlock = some q ∨ v.ownBlock = some q ∨ q ∈ blocks ((t.K.map rowsV).flatten ++ (t.V.map rowsV).flatten):=fun q=>by
   rw [hR,blocks_of,blocks_of,blocks_append,nil_blocks,List.append_nil]
   rfl
  have hbk0:∀ q,q ∈ blocks (rowsS t) ↔ t.gK.ownBlock = some q ∨ t.gV.ownBlock = some q ∨ q ∈ blocks ((t.K.map rowsV).flatten ++ (t.V.map rowsV).flatten):=fun q=>by
   rw [hS,blocks_of,blocks_of]
   rfl
  have hold:∀ q,v.ownBlock = some q → q < w.heap.size → t.gV.ownBlock = some q:=fun q hq hlt=>by
   have:=(hk q hq).2 hlt
   simpa using this
  have hsub:∀ q ∈ blocks (rowsS (⟨t.no,t.gK,t.K,v,t.V ++ N.map numV⟩:SLo LM)),q < w.heap.size → q ∈ blocks (rowsS t):=fun q hq hlt=>by
   rw [hbk] at hq
   rw [hbk0]
   rcases hq with h | h | h
   ·exact .inl h
   ·exact .inr (.inl (hold q h hlt))
   ·exact .inr (.inr h)
  have hg':g ∉ blocks (rowsS (⟨t.no,t.gK,t.K,v,t.V ++ N.map numV⟩:SLo LM)):=fun h=>hgn (hsub g h hg)
  have hkeep:∀ q,q < w.heap.size → t.gV.ownBlock ≠ some q → q ≠ g → w'.heap[q]? = w.heap[q]?:=fun q hq hn hne=>by
   rw [hU.block q hq (fun hm=>hn (by simpa using hm)),set_far (fun e=>hne e.symm)]
  refine .inr ⟨⟨t.no,t.gK,t.K,v,t.V ++ N.map numV⟩,hD,rfl,rfl,⟨hU.os,hU.tape,hU.output,hU.size,fun q hq hn=>?_⟩,?_,hg',hsub,fun h=>absurd h h9⟩
  ·rw [hU.block q hq (fun hm=>hn (hmem q (by simpa using hm)))]
   exact setCell_same (set_idle hA.c1 q hq).symm _ _
  ·have hLm:=hL.more (show K ≤ K + (r.upto - r.frm) by omega)
   rw [hS] at hLm
   obtain ⟨d1,hL1⟩:=hLm.head
   obtain ⟨d2,hL2⟩:=hL1.head
   have far:∀ q,q ∈ blocks ((t.K.map rowsV).flatten ++ (t.V.map rowsV).flatten) ∨ t.gK.ownBlock = some q → q < w.heap.size ∧ t.gV.ownBlock ≠ some q ∧ q ≠ g:=fun q hq=>by
    have hqS:q ∈ blocks (rowsS t):=(hbk0 q).2 (hq.elim (fun h=>.inr (.inr h)) .inl)
    refine ⟨(hL.old hqS).2,fun e=>?_,fun e=>hgn (e ▸ hqS)⟩
    rcases hq with h | h
    ·exact d2 q e h
    ·exact d1 q h (by rw [blocks_of]; exact .inl e)
   have hL3:Lies wo.heap.size (K + (r.upto - r.frm)) w' ((t.K.map rowsV).flatten ++ (t.V.map rowsV).flatten):=hL2.kept fun q hq=>hkeep q (far q (.inl hq)).1 (far q (.inl hq)).2.1 (far q (.inl hq)).2.2
   have hL4:=hL3.app (m:=N.map fun _=>(⟨31,1,.slice none 0 0,0,[]⟩:Rw)) ⟨fun q hq=>by
    obtain ⟨_,_,rfl⟩:=List.mem_map.1 hq
    exact ⟨World.ownsRow_nil _ _ _ _,Nat.zero_le _⟩,by rw [nil_blocks]; exact List.nodup_nil⟩ (fun i _ hm=>by rw [nil_blocks] at hm; cases hm)
   have hown':=hL4.cons (r:=rwS v (t.V ++ N.map numV)) (show w'.ownsRow _ _ 3 v (t.V ++ N.map numV).length ((t.V ++ N.map numV).flatMap cV') by
    rw [List.flatMap_append,numV_cells,List.length_append,List.length_map]; exact hv) (show (t.V ++ N.map numV).length ≤ _ by rw [List.length_append,List.length_map]; omega) (fun q hq hm=>by
     rw [blocks_append,nil_blocks,List.append_nil] at hm
     have hqw:=(far q (.inl hm)).1
     exact (far q (.inl hm)).2.1 (hold q hq hqw))
   rw [hR]
   refine hown'.cons ?_ (hLm.own _ (List.mem_cons_self ..)).2 (fun q hq hm=>?_)
   ·refine T9.own_kept (hLm.own _ (List.mem_cons_self ..)).1 fun q hq _=>?_
    exact hkeep q (far q (.inr hq)).1 (far q (.inr hq)).2.1 (far q (.inr hq)).2.2
   ·rw [blocks_of,blocks_append,nil_blocks,List.append_nil] at hm
    rcases hm with hm | hm
    ·exact (far q (.inr hq)).2.1 (hold q hm (far q (.inr hq)).1)
    ·exact d1 q hq (blocks_cons_le hm)
 ·refine .inl ⟨_,?_,rfl,hbw.mono hb⟩
  unfold packedS
  rw [if_neg (show ¬ (numsK f.kind (winR l r)).2 = 0 from h0)]
  rfl
theorem Lies.sub {b K:Nat} {w:World} {l l':List Rw} (h:Lies b K w l) (hs:l'.Sublist l):Lies b K w l' :=
 ⟨fun r hr=>h.own r (hs.subset hr),h.apart.sublist (hs.filterMap _)⟩
theorem blocks_sub {l l':List Rw} (hs:l'.Sublist l) {q:Nat} (h:q ∈ blocks l'):q ∈ blocks l:=(hs.filterMap _).subset h
theorem rowsF_sub {l l':List (SLo LM)} (hs:l'.Sublist l):(rowsF l').Sublist (rowsF l):=by
 induction hs with
 | slnil=>exact List.Sublist.refl _
 | cons a _ ih=>rw [rowsF_cons]; exact ih.trans (List.sublist_append_right _ _)
 | cons_cons a _ ih=>rw [rowsF_cons,rowsF_cons]; exact (List.Sublist.refl _).append ih
theorem slot_shape {b K:Nat} {w:World} {l:List (SLo LM)} (h:Lies b K w (rowsF l)):∀ t ∈ l,(∃ A n c,t.gK = .slice A n c) ∧ ∃ A n c,t.gV = .slice A n c:=fun t ht=>by
 have hm:∀ r ∈ rowsS t,r ∈ rowsF l:=fun r hr=>List.mem_flatten.2 ⟨rowsS t,List.mem_map_of_mem ht,hr⟩
 obtain ⟨A1,c1,e1,-⟩:=Sl.of_own (h.own (rwS t.gK t.K) (hm _ (List.mem_cons_self ..))).1
 obtain ⟨A2,c2,e2,-⟩:=Sl.of_own (h.own (rwS t.gV t.V) (hm _ (List.mem_cons_of_mem _ (List.mem_cons_self ..)))).1
 exact ⟨⟨A1,_,c1,e1⟩,⟨A2,_,c2,e2⟩⟩
set_option maxRecDepth 1000000 in
set_option maxHeartbeats 4000000 in
theorem delete_nil {q:Int → Bool} {P1 P2 P3:Nat} (w:World) (HP:∀ (wx:World) (no:Int) (uK uV:Value),Below w.heap.size w wx → Calls Tryz.prog 217 #[.agg #[.int .i64 no,uK,uV],.pointer (some ⟨P1,0,none⟩),.pointer (some ⟨P2,0,none⟩),.pointer (some ⟨P3,0,none⟩)] wx fun e w'=>e = .returned (.bool (q no)) ∧ Below wx.heap.size wx w') :
  Calls Tryz.prog 216 #[.slice none 0 0,.func (.func 217) #[] #[.pointer (some ⟨P1,0,none⟩),.pointer (some ⟨P2,0,none⟩),.pointer (some ⟨P3,0,none⟩)]] w fun e w'=>e = .returned (.slice none 0 0) ∧ Below w.heap.size w w':=by
 have HI:=Lib.hid (index_slo (q:=q) (P1:=P1) (P2:=P2) (P3:=P3) none 0 [] w (Sl.nothing _ _) HP)
 clear HP
 go_enter Tryz.func216,Tryz.ntmps216
 go_wp2_with fail
 refine HI.out.mono ?_
 rintro e w1 ⟨r,rfl,⟨rfl,hall⟩ | ⟨l1,l2,t0,rfl,hF,hno,hyes⟩,hb1⟩
 ·clear hall
  have HB:=Lib.hid hb1
  clear hb1
  go_wp2
  go_ret
  exact ⟨rfl,HB.out⟩
 ·simp at hF
theorem bare_filter (q:Int → Bool) (l:List (SLo LM)):(l.filter fun t=>!q t.no).map bareS = (l.map bareS).filter fun t=>!q t.no:=by
 rw [List.filter_map]
 rfl
set_option maxRecDepth 1000000 in
set_option maxHeartbeats 8000000 in
theorem leave_loc {s:Sc} {vM vE vB:Value} {m:Int} (f:Df) (x:LM) (p:Addr) (b k:Nat) (w:World) (hb:b ≤ w.heap.size) (hs:SAt b w s vM vE) (hL:Lies b k w x.rows) (hc:w.cell? p = some x.v) (hz:w.frozen? p = false) (hsp:p.spot = none) (hp:p.block < w.heap.size) (hpn:p.block ∉ blocks x.rows) (hone:f.one ≠ 0) :
  Calls Tryz.prog 199 #[.agg #[vM,vE,vB],.pointer (some p),.int .i64 m,.agg #[.int .i64 f.no,.string (txt f.name),.int .i64 f.kind,.int .i64 f.ref,.bool f.rep,.int .i64 f.key,.int .i64 f.one]] w fun e w'=>e = .returned (.tuple #[]) ∧ ∃ x':LM,x'.F.map bareS = leaveL (byS s m) f (x.F.map bareS) ∧ x'.F.Sublist x.F ∧ Upd p x'.v (blocks x.rows) w w' ∧ Lies b k w' x'.rows ∧ p.block ∉ blocks x'.rows ∧ (∀ q ∈ blocks x'.rows,q ∈ blocks x.rows):=by
 obtain ⟨T1,T2,T3,L3⟩:=three_boxes w (.cells #[vM,vE,vB] 113) (.cells #[.int .i64 m] 3) (dC f)
 obtain ⟨W3,hW3⟩:∃ W,W = (((w.alloc (.cells #[vM,vE,vB] 113)).alloc (.cells #[.int .i64 m] 3)).alloc (dC f)):=⟨_,rfl⟩
 have hs3:W3.heap.size = w.heap.size + 3:=by rw [hW3]; simp
 rw [← hW3] at T1 T2 T3 L3
 have hx:x.rows = rwM x :: rowsF x.F:=LM.rows_eq x
 obtain ⟨hrow,hrn⟩:=hL.own (rwM x) (by rw [hx]; exact List.mem_cons_self ..)
 have hmf:∀ (fn:Fn) (first cap:Array Value) (w:World),(Instr.makeFunc fn first cap).run Tryz.prog w = .ok (.func fn first cap) w:=fun _ _ _ _=>rfl
 have hc3:W3.cell? p = some x.v:=by rw [L3.cell hp]; exact hc
 have hz3:W3.frozen? p = false:=by rw [L3.frozen hp]; exact hz
 have hp3:p.block < W3.heap.size:=Nat.lt_of_lt_of_le hp L3.size
 obtain ⟨xv,xF⟩:=x
 have hrow3:W3.ownsRow b 67 3 xv xF.length (xF.flatMap cS'):=own_hi hrow (hi_below b L3)
 have hcases:(xv = .slice none 0 0 ∧ xF = []) ∨ ∃ g c,xv = .slice (some ⟨g,0,none⟩) xF.length c:=by
  rcases hrow with ⟨hl,⟨h1,h2⟩ | ⟨g,c,cur,h1,-⟩⟩
  ·have h2:xF.length = 0:=h2
   exact .inl ⟨h1,List.eq_nil_of_length_eq_zero h2⟩
  ·exact .inr ⟨g,c,h1⟩
 have hpm:∀ (wx:World) (no:Int) (uK uV:Value),Below b W3 wx → (∀ j,w.heap.size ≤ j → j < w.heap.size + 3 → wx.heap[j]? = W3.heap[j]?) → Calls Tryz.prog 217 #[.agg #[.int .i64 no,uK,uV],.pointer (some ⟨w.heap.size,0,none⟩),.pointer (some ⟨w.heap.size + 1,0,none⟩),.pointer (some ⟨w.heap.size + 1 + 1,0,none⟩)] wx fun e w'=>e = .returned (.bool (goneB (byS s m) f no)) ∧ Below wx.heap.size wx w':=fun wx no uK uV hbx hk =>
  leave1_any f w.heap.size (w.heap.size + 1) (w.heap.size + 1 + 1) wx (Nat.le_trans hb (Nat.le_trans L3.size hbx.size)) ((SAt.lo hs L3 hb).low (Low.of hbx)) ((hk _ (by omega) (by omega)).trans T1) ((hk _ (by omega) (by omega)).trans T2) ((hk _ (by omega) (by omega)).trans T3)
 have hpg:p.block ≠ w.heap.size ∧ p.block ≠ w.heap.size + 1 ∧ p.block ≠ w.heap.size + 2:=by omega
 have hL3:=hL.on L3
 have HK:=Lib.hid hone
 clear hone
 rcases hcases with ⟨rfl,rfl⟩ | ⟨g,c,rfl⟩
 ·have HD:=Lib.hid (delete_nil (P1:=w.heap.size) (P2:=w.heap.size + 1) (P3:=w.heap.size + 1 + 1) W3 (fun wx no uK uV h=>hpm wx no uK uV (h.mono (Nat.le_trans hb L3.size)) (fun j h1 h2=>h.block j (by omega))))
  have HX:=Lib.hid (And.intro L3 (And.intro hL hpn))
  have hc4:(((w.alloc (.cells #[vM,vE,vB] 113)).alloc (.cells #[.int .i64 m] 3)).alloc (dC f)).cell? p = some (.slice none 0 0):=hW3 ▸ hc3
  clear hL3 T1 T2 T3 hs hL hrow hrow3 hpm hx hc hz L3 hrn hpn
  go_enter Tryz.func199,Tryz.ntmps199
  go_wp2_with fail
  rw [← hW3]
  refine HD.out.mono ?_
  rintro e w4 ⟨rfl,hb4⟩
  have hc5:w4.cell? p = some (.slice none 0 0):=(hb4.cell hp3).trans hc3
  have hz5:w4.frozen? p = false:=(hb4.frozen hp3).trans hz3
  have hp5:p.block < w4.heap.size:=Nat.lt_of_lt_of_le hp3 hb4.size
  have HB:=Lib.hid hb4
  clear hb4 hc4 HD
  go_wp2
  go_end0
  obtain ⟨L3,hL,hpn⟩:=HX.out
  have hbb:=below_then L3 HB.out
  refine ⟨rfl,LM.mk (.slice none 0 0) [],?_,List.Sublist.refl _,⟨hbb.os,hbb.tape,hbb.output,by rw [set_size]; exact hbb.size,fun j hj _=>setCell_same (hbb.block j hj) _ _⟩,?_,hpn,fun q h=>h⟩
  ·rw [leaveL_eq _ f HK.out]; rfl
  ·refine hL.kept fun j hj=>?_
   rw [rows_empty] at hj
   simp [blocks,Value.ownBlock] at hj
 ·have hgx:g ∈ blocks (LM.mk (.slice (some ⟨g,0,none⟩) xF.length c) xF).rows:=by rw [hx]; exact mem_blocks (List.mem_cons_self ..) rfl
  have hgp:g ≠ p.block:=fun e=>hpn (e ▸ hgx)
  have hgo:=hL.old hgx
  have HD:=Lib.hid (delete_slo (q:=goneB (byS s m) f) (P1:=w.heap.size) (P2:=w.heap.size + 1) (P3:=w.heap.size + 1 + 1) b g c xF W3 (slot_shape (by rw [hx] at hL3; exact hL3.head.2)) hrow3 (fun wx no uK uV h=>hpm wx no uK uV (below_own h hgo.1 (Nat.le_trans hb L3.size)) (fun j h1 h2=>h.block j (by omega) (by simp; omega))))
  obtain ⟨R,hR⟩:∃ R,(xF.filter fun t=>!goneB (byS s m) f t.no) = R:=⟨_,rfl⟩
  rw [hR] at HD
  have HX:=Lib.hid (And.intro L3 (And.intro hL (And.intro hx (And.intro hR (And.intro hpn (And.intro hgo (And.intro hgp (And.intro hrow hrn))))))))
  have hc4:(((w.alloc (.cells #[vM,vE,vB] 113)).alloc (.cells #[.int .i64 m] 3)).alloc (dC f)).cell? p = some (.slice (some ⟨g,0,none⟩) xF.length c):=hW3 ▸ hc3
  clear hL3 T1 T2 T3 hs hL hrow hrow3 hpm hx hc hz hR L3 hrn hgx hgo hpn
  go_enter Tryz.func199,Tryz.ntmps199
  go_wp2_with fail
  rw [← hW3]
  refine HD.out.mono ?_
  rintro e w4 ⟨rfl,hown,hgr⟩
  obtain ⟨L3,hL,hx,hR,hpn,hgo,hgp,hrow,hrn⟩:=HX.out
  have hc5:w4.cell? p = some (.slice (some ⟨g,0,none⟩) xF.length c):=(World.cell?_of_block (hgr.block p.block hp3 (by simpa using fun e=>hgp e.symm))).trans hc3
  have hz5:w4.frozen? p = false:=by
   obtain ⟨pb,po,ps⟩:=p
   exact (froz_of (a:=⟨pb,po,ps⟩) (hgr.block pb hp3 (by simpa using fun e=>hgp e.symm))).trans hz3
  have hp5:p.block < w4.heap.size:=Nat.lt_of_lt_of_le hp3 hgr.size
  have HY:=Lib.hid (And.intro hown (And.intro hgr (And.intro L3 (And.intro hL (And.intro hx (And.intro hR (And.intro hpn (And.intro hgo (And.intro hgp (And.intro hrow hrn))))))))))
  clear hown hgr L3 hL hx hR hpn hgo hgp hrow hrn hc4 HX HD
  go_wp2
  go_end0
  obtain ⟨hown,hgr,L3,hL,hx,hR,hpn,hgo,hgp,hrow,hrn⟩:=HY.out
  have hkeep:∀ j,j < w.heap.size → j ≠ g → w4.heap[j]? = w.heap[j]?:=fun j hj hne=>(hgr.block j (by have:=L3.size; omega) (by simpa using hne)).trans (L3.block j hj)
  have hsub:R.Sublist xF:=by rw [← hR]; exact List.filter_sublist
  have hgb:(rwM (LM.mk (.slice (some ⟨g,0,none⟩) xF.length c) xF)).v.ownBlock = some g:=rfl
  have hLF:Lies b k w (rowsF xF):=by rw [hx] at hL; exact hL.head.2
  have hgF:g ∉ blocks (rowsF xF):=by rw [hx] at hL; exact hL.head.1 g hgb
  have hpF:p.block ∉ blocks (rowsF xF):=fun h=>hpn (by rw [hx]; exact blocks_cons_le h)
  have hset:∀ j,j ≠ p.block → (w4.setCell p (.slice (some ⟨g,0,none⟩) R.length c)).heap[j]? = w4.heap[j]?:=fun j hj=>by
   rw [setCell_at]
   cases w4.heap[j]? with
   | none=>rfl
   | some z=>simp only [Option.map_some]; rw [if_neg (fun e=>hj e.symm)]
  have hLR:Lies b k (w4.setCell p (.slice (some ⟨g,0,none⟩) R.length c)) (rowsF R):=(hLF.sub (rowsF_sub hsub)).kept fun j hj=>by
   have hj2:=blocks_sub (rowsF_sub hsub) hj
   rw [hset j (fun e=>hpF (e ▸ hj2))]
   exact hkeep j (hLF.old hj2).2 (fun e=>hgF (e ▸ hj2))
  have hrl:R.length ≤ xF.length:=hsub.length_le
  refine ⟨rfl,LM.mk (.slice (some ⟨g,0,none⟩) R.length c) R,?_,hsub,⟨hgr.os.trans L3.os,hgr.tape.trans L3.tape,hgr.output.trans L3.output,by rw [set_size]; exact Nat.le_trans L3.size hgr.size,fun j hj hn=>?_⟩,?_,?_,?_⟩
  ·rw [leaveL_eq _ f HK.out,← bare_filter]
   show R.map bareS = (xF.filter fun t=>!goneB (byS s m) f t.no).map bareS
   rw [hR]
  ·refine setCell_same (hkeep j hj (fun e=>hn ?_)) _ _
   rw [hx,e]; exact mem_blocks (List.mem_cons_self ..) hgb
  ·rw [rows_of]
   refine hLR.cons ?_ (Nat.le_trans hrl hrn) (fun j hj=>?_)
   ·refine T9.own_kept (show w4.ownsRow b 67 3 (.slice (some ⟨g,0,none⟩) R.length c) R.length (R.flatMap cS') from hown) fun j hj _=>?_
    obtain rfl:g = j:=Option.some.inj hj
    exact hset g hgp
   ·obtain rfl:g = j:=Option.some.inj hj
    exact fun h=>hgF (blocks_sub (rowsF_sub hsub) h)
  ·rw [rows_of,blocks_of]
   rintro (h | h)
   ·exact hgp (Option.some.inj h)
   ·exact hpF (blocks_sub (rowsF_sub hsub) h)
  ·intro j hj
   rw [rows_of,blocks_of] at hj
   rw [hx,blocks_of]
   exact hj.imp id (fun h=>blocks_sub (rowsF_sub hsub) h)
theorem MPost.back {wo:World} {s:Sc} {n:Nat} {m:Int} {K:Nat} {p:Addr} {x x1:LM} {D:Except Nat (List So)} {w V1 w':World} {e:Ending} (hU:Upd p x1.v (blocks x.rows) w V1) (hbo:wo.heap.size ≤ w.heap.size) (hpo:wo.heap.size ≤ p.block) (hids:∀ k ∈ blocks x.rows,wo.heap.size ≤ k) (hold:∀ q ∈ blocks x1.rows,q < w.heap.size → q ∈ blocks x.rows) (h:MPost wo s n m K p x1 D V1 e w'):MPost wo s n m K p x D w e w':=by
 rcases h with ⟨er,h1,h2,h3⟩ | ⟨x',h1,h2,h3,h4,h5,h6,h7⟩
 ·exact .inl ⟨er,h1,h2,(upd_below hU hbo hpo hids).trans h3⟩
 ·exact .inr ⟨x',h1,h2,hU.trans h3 hold,h4,h5,fun q hq hlt=>hold q (h6 q hq (Nat.lt_of_lt_of_le hlt hU.size)) hlt,h7⟩
theorem SPost.back {wo:World} {s:Sc} {n:Nat} {f:Df} {K g o:Nat} {t t1:SLo LM} {D D':Except Nat So} {w V1 w':World} {e:Ending} (hno:t1.no = t.no) (hU:UpdS g o t1 (blocks (rowsS t)) w V1) (hbo:wo.heap.size ≤ w.heap.size) (hgo:wo.heap.size ≤ g) (hids:∀ k ∈ blocks (rowsS t),wo.heap.size ≤ k) (hold:∀ q ∈ blocks (rowsS t1),q < w.heap.size → q ∈ blocks (rowsS t)) (hD:D = D') (h:SPost wo s n f K g o t1 D V1 e w'):SPost wo s n f K g o t D' w e w':=by
 subst hD
 rcases h with ⟨er,h1,h2,h3⟩ | ⟨t',h1,h2,h3,h4,h5,h6,h7,h8⟩
 ·refine .inl ⟨er,h1,h2,Below.trans ⟨hU.os,hU.tape,hU.output,hU.size,fun k hk=>?_⟩ h3⟩
  exact hU.far (Nat.lt_of_lt_of_le hk hbo) (fun hm=>by have:=hids k hm; omega) (by omega)
 ·exact .inr ⟨t',h1,h2.trans hno,h3,hU.trans h4 hold,h5,h6,fun q hq hlt=>hold q (h7 q hq (Nat.lt_of_lt_of_le hlt hU.size)) hlt,h8⟩
theorem s_blk {w wx:World} {a:Nat} {vM vE vB:Value} {f:Df} {no' wire:Int} {num:Nat} {frm upto:Int} (h:(w.cell? ⟨a,0,none⟩ = some vM ∧ w.cell? ⟨a,1,none⟩ = some vE ∧ w.cell? ⟨a,2,none⟩ = some vB) ∧ (w.cell? ⟨a + 1,0,none⟩ = some (.int .i64 f.no) ∧ w.cell? ⟨a + 1,1,none⟩ = some (.string (txt f.name)) ∧ w.cell? ⟨a + 1,2,none⟩ = some (.int .i64 f.kind) ∧ w.cell? ⟨a + 1,3,none⟩ = some (.int .i64 f.ref) ∧ w.cell? ⟨a + 1,4,none⟩ = some (.bool f.rep) ∧ w.cell? ⟨a + 1,5,none⟩ = some (.int .i64 f.key) ∧ w.cell? ⟨a + 1,6,none⟩ = some (.int .i64 f.one)) ∧ (w.cell? ⟨a + 2,0,none⟩ = some (.int .i64 no') ∧ w.cell? ⟨a + 2,1,none⟩ = some (.int .i64 wire) ∧ w.cell? ⟨a + 2,2,none⟩ = some (.int .u64 num) ∧ w.cell? ⟨a + 2,3,none⟩ = some (.int .i64 frm) ∧ w.cell? ⟨a + 2,4,none⟩ = some (.int .i64 upto))) (hk:∀ k,a ≤ k → k < a + 3 → wx.heap[k]? = w.heap[k]?):(wx.cell? ⟨a,0,none⟩ = some vM ∧ wx.cell? ⟨a,1,none⟩ = some vE ∧ wx.cell? ⟨a,2,none⟩ = some vB) ∧ (wx.cell? ⟨a + 1,0,none⟩ = some (.int .i64 f.no) ∧ wx.cell? ⟨a + 1,1,none⟩ = some (.string (txt f.name)) ∧ wx.cell? ⟨a + 1,2,none⟩ = some (.int .i64 f.kind) ∧ wx.cell? ⟨a + 1,3,none⟩ = some (.int .i64 f.ref) ∧ wx.cell? ⟨a + 1,4,none⟩ = some (.bool f.rep) ∧ wx.cell? ⟨a + 1,5,none⟩ = some (.int .i64 f.key) ∧ wx.cell? ⟨a + 1,6,none⟩ = some (.int .i64 f.one)) ∧ (wx.cell? ⟨a + 2,0,none⟩ = some (.int .i64 no') ∧ wx.cell? ⟨a + 2,1,none⟩ = some (.int .i64 wire) ∧ wx.cell? ⟨a + 2,2,none⟩ = some (.int .u64 num) ∧ wx.cell? ⟨a + 2,3,none⟩ = some (.int .i64 frm) ∧ wx.cell? ⟨a + 2,4,none⟩ = some (.int .i64 upto)):=by
 have h0:∀ o v,w.cell? ⟨a,o,none⟩ = some v → wx.cell? ⟨a,o,none⟩ = some v:=fun o v h=>(World.cell?_of_block (hk a (by omega) (by omega))).trans h
 have h1:∀ o v,w.cell? ⟨a + 1,o,none⟩ = some v → wx.cell? ⟨a + 1,o,none⟩ = some v:=fun o v h=>(World.cell?_of_block (hk (a + 1) (by omega) (by omega))).trans h
 have h2:∀ o v,w.cell? ⟨a + 2,o,none⟩ = some v → wx.cell? ⟨a + 2,o,none⟩ = some v:=fun o v h=>(World.cell?_of_block (hk (a + 2) (by omega) (by omega))).trans h
 obtain ⟨⟨a1,a2,a3⟩,⟨b1,b2,b3,b4,b5,b6,b7⟩,c1,c2,c3,c4,c5⟩:=h
 exact ⟨⟨h0 _ _ a1,h0 _ _ a2,h0 _ _ a3⟩,⟨h1 _ _ b1,h1 _ _ b2,h1 _ _ b3,h1 _ _ b4,h1 _ _ b5,h1 _ _ b6,h1 _ _ b7⟩,h2 _ _ c1,h2 _ _ c2,h2 _ _ c3,h2 _ _ c4,h2 _ _ c5⟩
theorem first_at {b K:Nat} {w:World} {t:SLo LM} {v:VL LM} {rest:List (VL LM)} (hL:Lies b K w (rowsS t)) (hV:t.V = v :: rest):∃ gv cv,t.gV = .slice (some ⟨gv,0,none⟩) t.V.length cv ∧ b ≤ gv ∧ gv < w.heap.size ∧ AtVal gv 0 v w ∧ Lies b K w (rowsV v) ∧ gv ∉ blocks (rowsV v) ∧ gv ∈ blocks (rowsS t) ∧ (∀ q ∈ blocks (rowsV v),q ∈ blocks (rowsS t)):=by
 have hS:rowsS t = rwS t.gK t.K :: rwS t.gV t.V :: ((t.K.map rowsV).flatten ++ (rowsV v ++ (rest.map rowsV).flatten)):=by rw [rowsS_eq,hV]; rfl
 obtain ⟨hrow,hrn⟩:=hL.own (rwS t.gV t.V) (by rw [hS]; exact List.mem_cons_of_mem _ (List.mem_cons_self ..))
 have hrow:w.ownsRow b 81 3 t.gV t.V.length (t.V.flatMap cV'):=hrow
 obtain ⟨gv,cv,hg⟩:∃ gv cv,t.gV = .slice (some ⟨gv,0,none⟩) t.V.length cv:=by
  rcases hrow with ⟨_,⟨_,h2⟩ | ⟨gg,cc,cur,h1,_⟩⟩
  ·rw [hV] at h2; simp at h2
  ·exact ⟨gg,cc,h1⟩
 have hob:(rwS t.gV t.V).v.ownBlock = some gv:=by show t.gV.ownBlock = _; rw [hg]; rfl
 have hL1:=hL
 rw [hS] at hL1
 obtain ⟨-,hL2⟩:=hL1.head
 obtain ⟨d2,hL3⟩:=hL2.head
 have hd:=d2 gv hob
 have hcell:∀ k u,(cV' v)[k]? = some u → w.cell? ⟨gv,0 + k,none⟩ = some u:=fun k u hu=>by
  have h3:=hrow.cells (g:=gv) (by rw [hg]; rfl) k u (by rw [hV,List.flatMap_cons,List.getElem?_append_left (List.getElem?_eq_some_iff.1 hu).1]; exact hu)
  rwa [Addr.add_lit] at h3
 have hown:=hrow
 rw [hg] at hown
 refine ⟨gv,cv,hg,(own_blk hrow gv hob).1,(own_blk hrow gv hob).2,⟨hcell 0 _ rfl,hcell 1 _ rfl,hcell 2 _ rfl,fun k=>own_froz hown k⟩,hL3.right.left,fun h=>hd (mem_three.2 (.inr (.inl h))),?_,fun q hq=>?_⟩
 ·rw [hS]; exact blocks_cons_le (blocks_of.2 (.inl hob))
 ·rw [hS]; exact blocks_cons_le (blocks_cons_le (mem_three.2 (.inr (.inl hq))))
theorem take_post {wo:World} {s:Sc} {n:Nat} {f:Df} {l:List UInt8} {r:Rc} {K K' g o gv cv:Nat} {w w':World} {t:SLo LM} {v:VL LM} {rest:List (VL LM)} {e:Ending} (hgw:g < w.heap.size) (hA:AtSlo g o t w) (hL:Lies wo.heap.size K w (rowsS t)) (hgn:g ∉ blocks (rowsS t)) (hV:t.gV = .slice (some ⟨gv,0,none⟩) t.V.length cv) (hVl:t.V = v :: rest) (hK:K ≤ K')
  (hful:f.kind = 9 → ∀ u ∈ t.V,∃ y,u.M = [y] ∧ Full s n f.ref y)
  (h:(∃ er:Nat,takeV (decM s n) f.kind f.ref l r (bareV v) = .error er ∧ e = .panicked [{ v:=errP er,recovered:=false }] ∧ Below wo.heap.size w w') ∨
   (∃ x',takeV (decM s n) f.kind f.ref l r (bareV v) = .ok (bareV x') ∧ e = .returned (.tuple #[]) ∧ UpdV gv 0 x' (blocks (rowsV v)) w w' ∧ Lies wo.heap.size K' w' (rowsV x') ∧ gv ∉ blocks (rowsV x') ∧ (∀ q ∈ blocks (rowsV x'),q < w.heap.size → q ∈ blocks (rowsV v)) ∧ (f.kind = 9 → ∃ y,x'.M = [y] ∧ Full s n f.ref y))) :
  SPost wo s n f K' g o t (onlyS (decM s n) f l r (bareS t)) w e w':=by
 have hh:(bareS t).V = bareV v :: rest.map bareV:=by show t.V.map bareV = _; rw [hVl]; rfl
 have hD:onlyS (decM s n) f l r (bareS t) = mapE (fun v=>⟨t.no,t.K.map bareV,v :: rest.map bareV⟩) (takeV (decM s n) f.kind f.ref l r (bareV v)):=by
  unfold onlyS
  rw [hh]
  rfl
 rw [hD]
 rcases h with ⟨er,h1,h2,h3⟩ | ⟨x',h1,h2,h3,h4,h5,h6,h7⟩
 ·exact .inl ⟨er,by rw [h1]; rfl,h2,h3⟩
 ·obtain ⟨k1,k2,k3,k4⟩:=val_lift hgw hA hL hgn hV hVl h3 h4 h5 h6 hK
  refine .inr ⟨⟨t.no,t.gK,t.K,t.gV,x' :: rest⟩,by rw [h1]; rfl,rfl,h2,k1,k2,k3,k4,fun h9 u hu=>?_⟩
  rcases List.mem_cons.1 hu with rfl | hu
  ·exact h7 h9
  ·exact hful h9 u (by rw [hVl]; exact List.mem_cons_of_mem _ hu)
theorem onlyS_blank {sub:Int → List UInt8 → Mg → Except Nat Mg} {f:Df} {l:List UInt8} {r:Rc} {t:SLo LM} {b:VL LM} (g:Value) (hV:t.V = []) (hb:bareV b = blankV f.kind):onlyS sub f l r (bareS ⟨t.no,t.gK,t.K,g,t.V ++ [b]⟩) = onlyS sub f l r (bareS t):=by
 obtain ⟨no,gK,K,gV,V⟩:=t
 obtain rfl:V = []:=hV
 have h1:bareS (⟨no,gK,K,g,[] ++ [b]⟩:SLo LM) = ⟨no,K.map bareV,[bareV b]⟩:=rfl
 have h2:bareS (⟨no,gK,K,gV,[]⟩:SLo LM) = ⟨no,K.map bareV,[]⟩:=rfl
 show onlyS sub f l r (bareS (⟨no,gK,K,g,[] ++ [b]⟩:SLo LM)) = _
 rw [h1,h2,hb]
 rfl
end Go.Proofs.YtckcojkpghiclaaGreatDoor.T11
