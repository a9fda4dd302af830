/-
 only,of any message of one's own.
-/
import Derived.Test.YtckcojkpghiclaaGreatDoorDecBack
namespace Go.Proofs.YtckcojkpghiclaaGreatDoor.T11
set_option maxRecDepth 100000
open Go.RowKit
open Go.Proofs.YtckcojkpghiclaaGreatDoor.T9 Go.Proofs.YtckcojkpghiclaaGreatDoor.T4
set_option maxRecDepth 1000000 in
set_option maxHeartbeats 8000000 in
theorem onlyL0 {wo:World} {s:Sc} {vM vE:Value} {A:Option Addr} {c:Nat} {l:List UInt8} {K n:Nat} (HT:TakeH wo s vM vE A c l K n) (hs:SAt wo.heap.size wo s vM vE) (m:Int) (f:Df) (r:Rc) (x:LM) (p:Addr) (k:Nat) (deep:Int) (w:World) (hone:f.one = 0) (hk0:0 ≤ f.kind) (hk9:f.kind ≤ 9) (hbo:Below wo.heap.size wo w) (hpo:wo.heap.size ≤ p.block) (hp:p.block < w.heap.size) (hsp:p.spot = none) (hc:w.cell? p = some x.v) (hz:w.frozen? p = false) (hL:Lies wo.heap.size k w x.rows) (hpn:p.block ∉ blocks x.rows) (hful:Full s (n + 1) m x) (hf:byS s m f.no = some f) (hf1:r.frm ≤ r.upto) (hf2:r.upto ≤ l.length) (hnum:r.num < 18446744073709551616) (hK:k + 1 + (r.upto - r.frm) ≤ K) (hKK:K ≤ 1000000000) (hdeep:deep + n = 64) (hd0:0 ≤ deep) :
  Calls Tryz.prog 152 #[.agg #[vM,vE,.slice A l.length c],.pointer (some p),.int .i64 m,.agg #[.int .i64 f.no,.string (txt f.name),.int .i64 f.kind,.int .i64 f.ref,.bool f.rep,.int .i64 f.key,.int .i64 f.one],RV r,.int .i64 deep] w fun e w'=>MPost wo s (n + 1) m (k + 1 + (r.upto - r.frm)) p x (onSlot f.no (onlyS (decM s n) f l r) (leaveL (byS s m) f (x.F.map bareS))) w e w':=by
 obtain ⟨j0,hj,hy0,hy1,hy2⟩:=info_parts T9.info_val
 have hRV:RV r = .agg #[.int .i64 r.no,.int .i64 r.wire,.int .u64 r.num,.int .i64 r.frm,.int .i64 r.upto]:=rfl
 rw [hRV]
 obtain ⟨T1,T2,T3,L3⟩:=three_boxes w (.cells #[vM,vE,.slice A l.length c] 113) (dC f) (.cells #[.int .i64 r.no,.int .i64 r.wire,.int .u64 r.num,.int .i64 r.frm,.int .i64 r.upto] 41)
 obtain ⟨g0,g1,g2,g3,g4,g5,g6⟩:=dc_cells T2
 obtain ⟨s0,s1,s2⟩:=bx3 T1
 obtain ⟨r0,r1,r2,r3,r4⟩:=heap_cells T3
 obtain ⟨W3,hW3⟩:∃ W,W = (((w.alloc (.cells #[vM,vE,.slice A l.length c] 113)).alloc (dC f)).alloc (.cells #[.int .i64 r.no,.int .i64 r.wire,.int .u64 r.num,.int .i64 r.frm,.int .i64 r.upto] 41)):=⟨_,rfl⟩
 have hs3:W3.heap.size = w.heap.size + 3:=by rw [hW3]; simp
 rw [← hW3] at T1 T2 T3 L3
 have hPW:=Lib.hid (show (W3.cell? ⟨w.heap.size,0,none⟩ = some vM ∧ W3.cell? ⟨w.heap.size,1,none⟩ = some vE ∧ W3.cell? ⟨w.heap.size,2,none⟩ = some (.slice A l.length c)) ∧ (W3.cell? ⟨w.heap.size + 1,0,none⟩ = some (.int .i64 f.no) ∧ W3.cell? ⟨w.heap.size + 1,1,none⟩ = some (.string (txt f.name)) ∧ W3.cell? ⟨w.heap.size + 1,2,none⟩ = some (.int .i64 f.kind) ∧ W3.cell? ⟨w.heap.size + 1,3,none⟩ = some (.int .i64 f.ref) ∧ W3.cell? ⟨w.heap.size + 1,4,none⟩ = some (.bool f.rep) ∧ W3.cell? ⟨w.heap.size + 1,5,none⟩ = some (.int .i64 f.key) ∧ W3.cell? ⟨w.heap.size + 1,6,none⟩ = some (.int .i64 f.one)) ∧ (W3.cell? ⟨w.heap.size + 2,0,none⟩ = some (.int .i64 r.no) ∧ W3.cell? ⟨w.heap.size + 2,1,none⟩ = some (.int .i64 r.wire) ∧ W3.cell? ⟨w.heap.size + 2,2,none⟩ = some (.int .u64 r.num) ∧ W3.cell? ⟨w.heap.size + 2,3,none⟩ = some (.int .i64 r.frm) ∧ W3.cell? ⟨w.heap.size + 2,4,none⟩ = some (.int .i64 r.upto)) from ⟨bx3 T1,dc_cells T2,heap_cells T3⟩)
 have hwo:=hbo.size
 have hbo3:=below_then hbo L3
 have hc3:W3.cell? p = some x.v:=(L3.cell hp).trans hc
 have hz3:W3.frozen? p = false:=(L3.frozen hp).trans hz
 have hp3:p.block < W3.heap.size:=Nat.lt_of_lt_of_le hp L3.size
 have hL3:=hL.on L3
 have hids:∀ q ∈ blocks x.rows,wo.heap.size ≤ q:=fun q hq=>(hL.old hq).1
 have hxw:∀ q ∈ blocks x.rows,q < w.heap.size:=fun q hq=>(hL.old hq).2
 have b1:(f.one != 0) = false:=by rw [hone]; rfl
 have hlv:leaveL (byS s m) f (x.F.map bareS) = x.F.map bareS:=by unfold leaveL; rw [if_pos hone]
 have HU1:Hid (Upd p x.v (blocks x.rows) w W3):=Lib.hid (Upd.after (ids1:=[]) L3 (Upd.refl _ hc3 hsp) (fun _ h=>by cases h))
 have HSL:=Lib.hid (slotOf_got (no:=f.no) (Nat.le_trans hwo L3.size) hL3 hc3 hz3 hsp hp3 hpn (by omega))
 have HALL:=Lib.hid (And.intro hPW.out (And.intro hids (And.intro hxw (And.intro hful (And.intro hbo3 (And.intro hlv (And.intro hL hpn)))))))
 clear T1 T2 T3 hc hz hL3 hids hxw hful hlv hone hPW hc3 hz3 hL hpn
 go_enter Tryz.func152,Tryz.ntmps152
 go_wp2_with fail
 rw [← hW3]
 refine HSL.out.mono ?_
 rintro e V2 ⟨g,c',l1,t,l2,rfl,HG⟩
 obtain ⟨hPW,hids,hxw,hful,hbo3,hlv,hL,hpn⟩:=HALL.out
 have hUV:=HU1.out.trans HG.upd (fun i hi hlt=>hi)
 have hfull:=HG.full hf hful
 have HEND:Hid (∀ (e:Ending) (w':World),SPost wo s n f (k + 1 + (r.upto - r.frm)) g (l1.length * 3) t (onlyS (decM s n) f l r (bareS t)) V2 e w' → MPost wo s (n + 1) m (k + 1 + (r.upto - r.frm)) p x (onSlot f.no (onlyS (decM s n) f l r) (leaveL (byS s m) f (x.F.map bareS))) w e w'):=Lib.hid fun e w' h=>by
  rw [hlv]
  exact MPost.back (x1:=x) HU1.out hwo hpo hids (fun q hq _=>hq) (Got1.post HG (Nat.le_trans hwo L3.size) hpo hsp hp3 hids hf hful (by omega) h)
 have hfarB:∀ q,w.heap.size ≤ q → q < w.heap.size + 3 → V2.heap[q]? = W3.heap[q]? ∧ q ∉ blocks (LM.mk (.slice (some ⟨g,0,none⟩) (l1 ++ t :: l2).length c') (l1 ++ t :: l2)).rows:=fun q h1 h2=>by
  refine ⟨?_,fun h=>by have:=hxw q (HG.old q h (by omega)); omega⟩
  rw [HG.upd.block q (by omega) (fun h=>by have:=hxw q h; omega),setCell_at]
  cases W3.heap[q]? with
  | none=>rfl
  | some z=>simp only [Option.map_some]; rw [if_neg (by omega)]
 obtain ⟨hgw,hgo,hA2,hL2,hgn2,hFl⟩:=HG.at
 have hP2:Hid ((V2.cell? ⟨w.heap.size,0,none⟩ = some vM ∧ V2.cell? ⟨w.heap.size,1,none⟩ = some vE ∧ V2.cell? ⟨w.heap.size,2,none⟩ = some (.slice A l.length c)) ∧ (V2.cell? ⟨w.heap.size + 1,0,none⟩ = some (.int .i64 f.no) ∧ V2.cell? ⟨w.heap.size + 1,1,none⟩ = some (.string (txt f.name)) ∧ V2.cell? ⟨w.heap.size + 1,2,none⟩ = some (.int .i64 f.kind) ∧ V2.cell? ⟨w.heap.size + 1,3,none⟩ = some (.int .i64 f.ref) ∧ V2.cell? ⟨w.heap.size + 1,4,none⟩ = some (.bool f.rep) ∧ V2.cell? ⟨w.heap.size + 1,5,none⟩ = some (.int .i64 f.key) ∧ V2.cell? ⟨w.heap.size + 1,6,none⟩ = some (.int .i64 f.one)) ∧ (V2.cell? ⟨w.heap.size + 2,0,none⟩ = some (.int .i64 r.no) ∧ V2.cell? ⟨w.heap.size + 2,1,none⟩ = some (.int .i64 r.wire) ∧ V2.cell? ⟨w.heap.size + 2,2,none⟩ = some (.int .u64 r.num) ∧ V2.cell? ⟨w.heap.size + 2,3,none⟩ = some (.int .i64 r.frm) ∧ V2.cell? ⟨w.heap.size + 2,4,none⟩ = some (.int .i64 r.upto))):=Lib.hid (s_blk hPW fun q h1 h2=>(hfarB q h1 h2).1)
 have hfarS:∀ q,w.heap.size ≤ q → q < w.heap.size + 3 → q ∉ blocks (rowsS t):=fun q h1 h2 h3=>(hfarB q h1 h2).2 (by
  rw [rows_of,rowsF_append,rowsF_cons]
  exact blocks_cons_le (mem_three.2 (.inr (.inl h3))))
 have hfarG:∀ q,w.heap.size ≤ q → q < w.heap.size + 3 → g ≠ q:=fun q h1 h2 h3=>(hfarB q h1 h2).2 (by
  rw [rows_of,blocks_of]
  exact .inl (by rw [← h3]; rfl))
 have hWs:w.heap.size + 3 ≤ V2.heap.size:=by have:=hUV.size; have:=HG.upd.size; omega
 have hwoV:wo.heap.size ≤ V2.heap.size:=by omega
 have hboV:Below wo.heap.size wo V2:=hbo.trans (upd_below hUV hwo hpo hids)
 obtain ⟨Ag,cg,hgV,-⟩:=Sl.of_own (hL2.own (rwS t.gV t.V) (List.mem_cons_of_mem _ (List.mem_cons_self ..))).1
 have hgV:t.gV = .slice Ag t.V.length cg:=hgV
 obtain ⟨o,ho⟩:∃ o,l1.length * 3 = o:=⟨_,rfl⟩
 rw [ho] at hA2 HEND ⊢
 have hom:l1.length ≤ K:=by rw [List.length_append] at hFl; omega
 have ho9:o ≤ 3000000000:=by omega
 have HRV0:Hid (V2.ownsRow wo.heap.size 81 3 t.gV t.V.length (t.V.flatMap cV')):=Lib.hid (hL2.own (rwS t.gV t.V) (List.mem_cons_of_mem _ (List.mem_cons_self ..))).1
 have hsgv:∀ q,t.gV.ownBlock = some q → q ∈ blocks (rowsS t):=fun q hq=>blocks_cons_le (blocks_of.2 (.inl hq))
 clear HG hUV hfarB ho HU1 HSL hFl hom
 rcases hVc:t.V with _ | ⟨v,rest⟩
 ·-- nothing is there yet
  have c20:V2.cell? ⟨g,o + 2,none⟩ = some (.slice Ag 0 cg):=by have:=hA2.c2; rw [hgV,hVc] at this; exact this
  have C2:=Lib.hid c20
  obtain ⟨A0,hA0⟩:∃ A0,Ag = A0:=⟨_,rfl⟩
  obtain ⟨c0,hc0⟩:∃ c0,cg = c0:=⟨_,rfl⟩
  rw [hA0,hc0] at c20 C2 hgV
  rw [hVc] at hgV
  have HGV:=Lib.hid (And.intro (show t.gV = .slice A0 0 c0 from hgV) hVc)
  have HRV:Hid (V2.ownsRow wo.heap.size 81 3 (.slice A0 0 c0) 0 []):=Lib.hid (by have:=HRV0.out; rw [HGV.out.1,hVc] at this; exact this)
  have HAS:=Lib.hid hA2
  have HLS:=Lib.hid (hL2.more (Nat.le_refl (k + 1)))
  have HGN:=Lib.hid hgn2
  have HPX:=hP2
  have HFV:Hid (∀ q,w.heap.size ≤ q → q < w.heap.size + 3 → q < V2.heap.size ∧ (Value.slice A0 0 c0).ownBlock ≠ some q):=Lib.hid fun q h1 h2=>⟨by omega,fun e=>hfarS q h1 h2 (hsgv q (by rw [HGV.out.1]; exact e))⟩
  have HFG:=Lib.hid hfarG
  have HNE:Hid ((Value.slice A0 0 c0).ownBlock ≠ some g):=Lib.hid fun e=>hgn2 (hsgv g (by rw [HGV.out.1]; exact e))
  have hgV2:=hgw
  have hDV:Below V2.heap.size V2 V2.drew:=(Below.refl _ _).drew
  obtain ⟨⟨s0',s1',s2'⟩,⟨g0',g1',g2',g3',g4',g5',g6'⟩,r0',r1',r2',r3',r4'⟩:=hP2.out
  clear hgV hVc hA2 hL2 hgn2 hP2 hfarG hsgv HRV0 hA0 hc0 hgw hfull
  go_wp2_with fail
  apply once
  ·intro HGO
   refine wp_region_held_drew (S:=(fun w'=>(w'.cell? ⟨w.heap.size,0,none⟩ = some vM ∧ w'.cell? ⟨w.heap.size,1,none⟩ = some vE ∧ w'.cell? ⟨w.heap.size,2,none⟩ = some (.slice A l.length c)) ∧ (w'.cell? ⟨w.heap.size + 1,0,none⟩ = some (.int .i64 f.no) ∧ w'.cell? ⟨w.heap.size + 1,1,none⟩ = some (.string (txt f.name)) ∧ w'.cell? ⟨w.heap.size + 1,2,none⟩ = some (.int .i64 f.kind) ∧ w'.cell? ⟨w.heap.size + 1,3,none⟩ = some (.int .i64 f.ref) ∧ w'.cell? ⟨w.heap.size + 1,4,none⟩ = some (.bool f.rep) ∧ w'.cell? ⟨w.heap.size + 1,5,none⟩ = some (.int .i64 f.key) ∧ w'.cell? ⟨w.heap.size + 1,6,none⟩ = some (.int .i64 f.one)) ∧ (w'.cell? ⟨w.heap.size + 2,0,none⟩ = some (.int .i64 r.no) ∧ w'.cell? ⟨w.heap.size + 2,1,none⟩ = some (.int .i64 r.wire) ∧ w'.cell? ⟨w.heap.size + 2,2,none⟩ = some (.int .u64 r.num) ∧ w'.cell? ⟨w.heap.size + 2,3,none⟩ = some (.int .i64 r.frm) ∧ w'.cell? ⟨w.heap.size + 2,4,none⟩ = some (.int .i64 r.upto)))) (by kernel_rfl) (s_on HPX.out (hDV)) (fun hHeld=>?_)
   refine tk 0 ?_
   refine tk 1 ?_
   refine tk 2 ?_
   refine tk 3 ?_
   refine tk 5 ?_
   refine tk 6 ?_
   refine wpAnyH_ready (rs:=[4,7]) (by kernel_rfl) (by simp) ?_
   refine AllReadyH.cons rfl (fun K hK=>?_) (AllReadyH.cons rfl (fun K hK=>?_) AllReadyH.nil)
   ·go_simp
    clear hHeld
    refine hK.out _ _ (s_on HPX.out (hDV)) (fun hHeld=>?_)
    clear hK K
    refine wpAnyH_ready (rs:=[7]) (by kernel_rfl) (by simp) ?_
    refine AllReadyH.cons rfl (fun K hK=>?_) AllReadyH.nil
    go_simp
    (go_at_call 197; refine (blank_any f.kind _).mono ?_; rintro e w7 ⟨⟨bn,bs,bg,bM⟩,rfl,hbb,hbL,hbM,hb7⟩; obtain ⟨Ab,cb,hbg,-⟩:=Sl.of_own (hbL.own (rwV ⟨bn,bs,bg,bM⟩) (List.mem_cons_self ..)).1; obtain ⟨nb,hnb⟩:∃ nb,(rwV (⟨bn,bs,bg,bM⟩:VL LM)).n = nb:=⟨_,rfl⟩; rw [hnb] at hbg; obtain rfl:bg = .slice Ab nb cb:=hbg; clear hnb; have HBV:=Lib.hid (And.intro hbb (And.intro hbL hbM)); clear hbb hbL hbM; have hb7d:=Lib.hid (hDV.trans (hb7.mono hDV.size)); have c7:=cell_on hb7d.out C2.out; have hb8:=Lib.hid (below_then hb7d.out (below_new w7 (.cells #[.int .i64 bn,.string (tx bs),.slice Ab nb cb] 81))); have c7b:=cell_on hb8.out C2.out; have hs7:V2.heap.size ≤ w7.heap.size:=hb7d.out.size)
    go_wp2_with fail
    clear hHeld
    refine hK.out _ _ (s_on HPX.out (hb7d.out)) (fun hHeld=>?_)
    clear hK K
    refine wpAnyH_ready (rs:=[8]) (by kernel_rfl) (by simp) ?_
    refine AllReadyH.cons rfl (fun K hK=>?_) AllReadyH.nil
    go_simp
    clear hHeld
    refine hK.out _ _ (s_on HPX.out (hb8.out)) (fun hHeld=>?_)
    clear hK K
    clear hHeld
    revert hs7; revert c7b; revert hb8; revert c7; revert hb7d; revert HBV; revert hb7; revert bM; revert nb; revert cb; revert Ab; revert bs; revert bn; revert w7
    exact HGO.out
   ·go_simp
    (go_at_call 197; refine (blank_any f.kind _).mono ?_; rintro e w7 ⟨⟨bn,bs,bg,bM⟩,rfl,hbb,hbL,hbM,hb7⟩; obtain ⟨Ab,cb,hbg,-⟩:=Sl.of_own (hbL.own (rwV ⟨bn,bs,bg,bM⟩) (List.mem_cons_self ..)).1; obtain ⟨nb,hnb⟩:∃ nb,(rwV (⟨bn,bs,bg,bM⟩:VL LM)).n = nb:=⟨_,rfl⟩; rw [hnb] at hbg; obtain rfl:bg = .slice Ab nb cb:=hbg; clear hnb; have HBV:=Lib.hid (And.intro hbb (And.intro hbL hbM)); clear hbb hbL hbM; have hb7d:=Lib.hid (hDV.trans (hb7.mono hDV.size)); have c7:=cell_on hb7d.out C2.out; have hb8:=Lib.hid (below_then hb7d.out (below_new w7 (.cells #[.int .i64 bn,.string (tx bs),.slice Ab nb cb] 81))); have c7b:=cell_on hb8.out C2.out; have hs7:V2.heap.size ≤ w7.heap.size:=hb7d.out.size)
    go_wp2_with fail
    clear hHeld
    refine hK.out _ _ (s_on HPX.out (hb7d.out)) (fun hHeld=>?_)
    clear hK K
    refine wpAnyH_ready (rs:=[4,8]) (by kernel_rfl) (by simp) ?_
    refine AllReadyH.cons rfl (fun K hK=>?_) (AllReadyH.cons rfl (fun K hK=>?_) AllReadyH.nil)
    ·go_simp
     clear hHeld
     refine hK.out _ _ (s_on HPX.out (hb7d.out)) (fun hHeld=>?_)
     clear hK K
     refine wpAnyH_ready (rs:=[8]) (by kernel_rfl) (by simp) ?_
     refine AllReadyH.cons rfl (fun K hK=>?_) AllReadyH.nil
     go_simp
     clear hHeld
     refine hK.out _ _ (s_on HPX.out (hb8.out)) (fun hHeld=>?_)
     clear hK K
     clear hHeld
     exact HGO.out w7 bn bs Ab cb nb bM hb7 HBV hb7d c7 hb8 c7b hs7
    ·go_simp
     clear hHeld
     refine hK.out _ _ (s_on HPX.out (hb8.out)) (fun hHeld=>?_)
     clear hK K
     refine wpAnyH_ready (rs:=[4]) (by kernel_rfl) (by simp) ?_
     refine AllReadyH.cons rfl (fun K hK=>?_) AllReadyH.nil
     go_simp
     clear hHeld
     refine hK.out _ _ (s_on HPX.out (hb8.out)) (fun hHeld=>?_)
     clear hK K
     clear hHeld
     exact HGO.out w7 bn bs Ab cb nb bM hb7 HBV hb7d c7 hb8 c7b hs7
  intro w7 bn bs Ab cb nb bM hb7 HBV hb7d c7 hb8 c7b hs7
  have hHeld:=s_on HPX.out (hb8.out)
  refine wpAnyH_ready (rs:=[9]) (by kernel_rfl) (by simp) ?_
  refine AllReadyH.cons rfl (fun K hK=>?_) AllReadyH.nil
  (refine step_append_lies _ rfl _ _ 65 rfl wo.heap.size 81 j0 _ 3 48 Tryz.underlying65 hj hy0 hy1 hy2 rfl (by decide) (.slice A0 0 c0) 0 [] (by simp [Act.eval,Act.put]) (own_hi HRV.out (hi_below wo.heap.size hb8.out)) ⟨w7.heap.size,0,none⟩ 1 1 [.int .i64 bn,.string (tx bs),.slice Ab nb cb] (by simp [Act.eval,Act.put]) rfl (World.news_of_block (heap_alloc_new _ _)) (by simp [Value.oneCell']) (by decide) (by unfold maxLen; omega) (by omega) (by simp; omega) w7.heap.size.succ (by simp) ?_; intro g8 c8 w8 hown8 hg8 hat8 hlt8; have hgne:(Value.slice A0 0 c0).ownBlock ≠ some g:=HNE.out; have e8:=grown_block hg8 (Nat.lt_of_lt_of_le hgV2 hb8.out.size) hgne; have c8b:w8.cell? ⟨g,o + 2,none⟩ = some (.slice A0 0 c0):=(World.cell?_of_block (a:=⟨g,o + 2,none⟩) e8).trans c7b; have f8:w8.frozen? ⟨g,o + 2,none⟩ = false:=(froz_of (a:=⟨g,o + 2,none⟩) e8).trans ((hb8.out.frozen hgV2).trans (HAS.out.froz _)); have HG8:=Lib.hid (And.intro hown8 (And.intro hg8 (And.intro hat8 hlt8))); clear hown8 hg8 hat8 hlt8 e8 hgne)
  clear hHeld
  refine hK.out _ _ (s_blk HPX.out (fun q h1 h2=>(HG8.out.2.1.block q (Nat.lt_of_lt_of_le (HFV.out q h1 h2).1 hb8.out.size) (fun e=>(HFV.out q h1 h2).2 e.symm)).trans (hb8.out.block q (HFV.out q h1 h2).1))) (fun hHeld=>?_)
  clear hK K
  refine tk 10 ?_
  refine tk 11 ?_
  refine wpAnyH_ready (rs:=[12]) (by kernel_rfl) (by simp) ?_
  refine AllReadyH.cons rfl (fun K hK=>?_) AllReadyH.nil
  go_simp
  clear hHeld
  refine hK.out _ _ (s_blk HPX.out (fun q h1 h2=>(set_far (HFG.out q h1 h2)).trans ((HG8.out.2.1.block q (Nat.lt_of_lt_of_le (HFV.out q h1 h2).1 hb8.out.size) (fun e=>(HFV.out q h1 h2).2 e.symm)).trans (hb8.out.block q (HFV.out q h1 h2).1)))) (fun hHeld=>?_)
  clear hK K
  refine wpAnyH_done (by kernel_rfl) ?_ _
  obtain ⟨hbb,hbL,hbM⟩:=HBV.out
  obtain ⟨b,hbe⟩:∃ b:VL LM,b = ⟨bn,bs,.slice Ab nb cb,bM⟩:=⟨_,rfl⟩
  have hbc:cV' b = [.int .i64 bn,.string (tx bs),.slice Ab nb cb]:=by rw [hbe]; rfl
  have hbb:bareV b = blankV f.kind:=by rw [hbe]; exact hbb
  have hbL:Lies V2.drew.heap.size 1 w7 (rowsV b):=by rw [hbe]; exact hbL
  have hbM:f.kind = 9 → ∃ v,b.M = [.mk v []]:=by rw [hbe]; exact hbM
  clear hbe
  obtain ⟨hown8,hg8,hat8,hlt8⟩:=HG8.out
  have hpush:=slot_push (K':=k + 1) (x:=b) (wa:=w7.alloc (.cells #[.int .i64 bn,.string (tx bs),.slice Ab nb cb] 81)) hgV2 HAS.out HLS.out HGN.out hb8.out ((hbL.more (Nat.le_add_left 1 k)).on (below_new w7 (.cells #[.int .i64 bn,.string (tx bs),.slice Ab nb cb] 81)) |> fun h=>(⟨fun q hq=>⟨own_less2 (h.own q hq).1 hwoV,(h.own q hq).2⟩,h.apart⟩:Lies wo.heap.size (k + 1) _ _)) (fun q hq=>(hbL.old hq).1) (by rw [HGV.out.1]; exact hg8) (by rw [HGV.out.2]; show w8.ownsRow _ _ _ (.slice _ (0 + 1) _) (0 + 1) ([] ++ cV' b); rw [hbc]; exact hown8) (by rw [HGV.out.1]; exact hat8.imp id (fun h=>by rw [h]; simp)) (Nat.le_refl _) (by rw [HGV.out.2]; show 0 + 1 ≤ _; omega)
  have hV0:t.V = []:=HGV.out.2
  have hlen1:t.V.length + 1 = 1:=by rw [hV0]; rfl
  rw [hlen1] at hpush
  obtain ⟨t3,ht3⟩:∃ t3:SLo LM,t3 = ⟨t.no,t.gK,t.K,.slice (some ⟨g8,0,none⟩) 1 c8,t.V ++ [b]⟩:=⟨_,rfl⟩
  obtain ⟨V3,hV3w⟩:∃ V,V = w8.setCell ⟨g,o + 2,none⟩ (.slice (some ⟨g8,0,none⟩) 1 c8):=⟨_,rfl⟩
  rw [← ht3,← hV3w] at hpush
  rw [← hV3w]
  obtain ⟨hU3,hL3,hgn3,ho3⟩:=hpush
  have hP3:Hid ((V3.cell? ⟨w.heap.size,0,none⟩ = some vM ∧ V3.cell? ⟨w.heap.size,1,none⟩ = some vE ∧ V3.cell? ⟨w.heap.size,2,none⟩ = some (.slice A l.length c)) ∧ (V3.cell? ⟨w.heap.size + 1,0,none⟩ = some (.int .i64 f.no) ∧ V3.cell? ⟨w.heap.size + 1,1,none⟩ = some (.string (txt f.name)) ∧ V3.cell? ⟨w.heap.size + 1,2,none⟩ = some (.int .i64 f.kind) ∧ V3.cell? ⟨w.heap.size + 1,3,none⟩ = some (.int .i64 f.ref) ∧ V3.cell? ⟨w.heap.size + 1,4,none⟩ = some (.bool f.rep) ∧ V3.cell? ⟨w.heap.size + 1,5,none⟩ = some (.int .i64 f.key) ∧ V3.cell? ⟨w.heap.size + 1,6,none⟩ = some (.int .i64 f.one)) ∧ (V3.cell? ⟨w.heap.size + 2,0,none⟩ = some (.int .i64 r.no) ∧ V3.cell? ⟨w.heap.size + 2,1,none⟩ = some (.int .i64 r.wire) ∧ V3.cell? ⟨w.heap.size + 2,2,none⟩ = some (.int .u64 r.num) ∧ V3.cell? ⟨w.heap.size + 2,3,none⟩ = some (.int .i64 r.frm) ∧ V3.cell? ⟨w.heap.size + 2,4,none⟩ = some (.int .i64 r.upto))):=Lib.hid (by rw [hV3w]; exact s_blk HPX.out (fun q h1 h2=>(set_far (HFG.out q h1 h2)).trans ((HG8.out.2.1.block q (Nat.lt_of_lt_of_le (HFV.out q h1 h2).1 hb8.out.size) (fun e=>(HFV.out q h1 h2).2 e.symm)).trans (hb8.out.block q (HFV.out q h1 h2).1))))
  have hV3:t3.V = b :: []:=by rw [ht3,hV0]; rfl
  have hno3:t3.no = t.no:=by rw [ht3]
  have hgw3:g < V3.heap.size:=Nat.lt_of_lt_of_le hgV2 hU3.size
  have hA3:AtSlo g o t3 V3:=hU3.at HAS.out hno3 hgV2 HGN.out
  have hbo3:Below wo.heap.size wo V3:=hboV.trans ⟨hU3.os,hU3.tape,hU3.output,hU3.size,fun q hq=>hU3.far (Nat.lt_of_lt_of_le hq hwoV) (fun hm=>by have:=(HLS.out.old hm).1; omega) (by omega)⟩
  have hful3:f.kind = 9 → ∀ u ∈ t3.V,∃ y,u.M = [y] ∧ Full s n f.ref y:=fun h9 u hu=>by
   rw [hV3] at hu
   obtain rfl:=List.mem_singleton.1 hu
   obtain ⟨v0,hv0⟩:=hbM h9
   exact ⟨_,hv0,full_empty s v0 n f.ref⟩
  have hW3s:w.heap.size + 3 ≤ V3.heap.size:=Nat.le_trans hWs hU3.size
  have hfar3:∀ q,w.heap.size ≤ q → q < w.heap.size + 3 → q ∉ blocks (rowsS t3):=fun q h1 h2 h3=>hfarS q h1 h2 (ho3 q h3 (HFV.out q h1 h2).1)
  have HEND3:Hid (∀ (e:Ending) (w':World),SPost wo s n f (k + 1 + (r.upto - r.frm)) g o t3 (onlyS (decM s n) f l r (bareS t3)) V3.drew e w' → MPost wo s (n + 1) m (k + 1 + (r.upto - r.frm)) p x (onSlot f.no (onlyS (decM s n) f l r) (leaveL (byS s m) f (x.F.map bareS))) w e w'):=Lib.hid fun e w' h=>HEND.out e w' (SPost.back (V1:=V3.drew) hno3 (hU3.then_below (Below.refl _ _).drew) hwoV hgo (fun q hq=>(HLS.out.old hq).1) ho3 (by
   rw [ht3]
   exact onlyS_blank _ hV0 hbb) h)
  clear HEND
  have HEND:=HEND3
  clear HEND3
  clear hbb hbL hbM hbc hown8 hg8 hat8 hlt8 hU3 ho3 ht3 hno3 hV3w HG8 HBV c7 c7b c8b f8 hb8 hb7d hs7 hb7
  obtain ⟨v,hvb⟩:∃ v,v = b:=⟨_,rfl⟩
  obtain ⟨rest,hre⟩:∃ rest:List (VL LM),rest = []:=⟨_,rfl⟩
  rw [← hvb,← hre] at hV3
  clear hvb hre
  obtain ⟨gv,cv,hgV,hgvo,hgvw,hAv,hLv,hgvn,hgvS,hvS⟩:=first_at hL3 hV3
  have hlen3:t3.V.length = rest.length + 1:=by rw [hV3]; rfl
  rw [hlen3] at hgV
  have hggv:g ≠ gv:=fun e=>hgn3 (e ▸ hgvS)
  have hc92:V3.cell? ⟨g,o + 2,none⟩ = some (.slice (some ⟨gv,0,none⟩) (rest.length + 1) cv):=by rw [← hgV]; exact hA3.c2
  have hD9:Below V3.heap.size V3 V3.drew:=(Below.refl _ _).drew
  have HS6:Hid (∀ wx,Below V3.heap.size V3 wx → ((wx.cell? ⟨w.heap.size,0,none⟩ = some vM ∧ wx.cell? ⟨w.heap.size,1,none⟩ = some vE ∧ wx.cell? ⟨w.heap.size,2,none⟩ = some (.slice A l.length c)) ∧ (wx.cell? ⟨w.heap.size + 1,0,none⟩ = some (.int .i64 f.no) ∧ wx.cell? ⟨w.heap.size + 1,1,none⟩ = some (.string (txt f.name)) ∧ wx.cell? ⟨w.heap.size + 1,2,none⟩ = some (.int .i64 f.kind) ∧ wx.cell? ⟨w.heap.size + 1,3,none⟩ = some (.int .i64 f.ref) ∧ wx.cell? ⟨w.heap.size + 1,4,none⟩ = some (.bool f.rep) ∧ wx.cell? ⟨w.heap.size + 1,5,none⟩ = some (.int .i64 f.key) ∧ wx.cell? ⟨w.heap.size + 1,6,none⟩ = some (.int .i64 f.one)) ∧ (wx.cell? ⟨w.heap.size + 2,0,none⟩ = some (.int .i64 r.no) ∧ wx.cell? ⟨w.heap.size + 2,1,none⟩ = some (.int .i64 r.wire) ∧ wx.cell? ⟨w.heap.size + 2,2,none⟩ = some (.int .u64 r.num) ∧ wx.cell? ⟨w.heap.size + 2,3,none⟩ = some (.int .i64 r.frm) ∧ wx.cell? ⟨w.heap.size + 2,4,none⟩ = some (.int .i64 r.upto))) ∧ wx.cell? ⟨g,o + 2,none⟩ = some (.slice (some ⟨gv,0,none⟩) (rest.length + 1) cv)):=Lib.hid fun wx h=>⟨s_on (hP3.out) h,cell_on h hc92⟩
  have hwn:∀ q,w.heap.size ≤ q → q < w.heap.size + 3 → q < V3.heap.size ∧ q ≠ gv ∧ q ∉ blocks (rowsV v):=fun q h1 h2=>⟨Nat.lt_of_lt_of_le (by omega) hW3s,fun e=>hfar3 q h1 h2 (e ▸ hgvS),fun h=>hfar3 q h1 h2 (hvS q h)⟩
  have HTF:Hid (∀ (x':VL LM) wt,UpdV gv 0 x' (blocks (rowsV v)) V3.drew wt → ((wt.cell? ⟨w.heap.size,0,none⟩ = some vM ∧ wt.cell? ⟨w.heap.size,1,none⟩ = some vE ∧ wt.cell? ⟨w.heap.size,2,none⟩ = some (.slice A l.length c)) ∧ (wt.cell? ⟨w.heap.size + 1,0,none⟩ = some (.int .i64 f.no) ∧ wt.cell? ⟨w.heap.size + 1,1,none⟩ = some (.string (txt f.name)) ∧ wt.cell? ⟨w.heap.size + 1,2,none⟩ = some (.int .i64 f.kind) ∧ wt.cell? ⟨w.heap.size + 1,3,none⟩ = some (.int .i64 f.ref) ∧ wt.cell? ⟨w.heap.size + 1,4,none⟩ = some (.bool f.rep) ∧ wt.cell? ⟨w.heap.size + 1,5,none⟩ = some (.int .i64 f.key) ∧ wt.cell? ⟨w.heap.size + 1,6,none⟩ = some (.int .i64 f.one)) ∧ (wt.cell? ⟨w.heap.size + 2,0,none⟩ = some (.int .i64 r.no) ∧ wt.cell? ⟨w.heap.size + 2,1,none⟩ = some (.int .i64 r.wire) ∧ wt.cell? ⟨w.heap.size + 2,2,none⟩ = some (.int .u64 r.num) ∧ wt.cell? ⟨w.heap.size + 2,3,none⟩ = some (.int .i64 r.frm) ∧ wt.cell? ⟨w.heap.size + 2,4,none⟩ = some (.int .i64 r.upto))) ∧ wt.cell? ⟨g,o + 2,none⟩ = some (.slice (some ⟨gv,0,none⟩) (rest.length + 1) cv)):=Lib.hid fun x' wt hu=>by
   have hk:∀ q,q < V3.heap.size → q ≠ gv → q ∉ blocks (rowsV v) → wt.heap[q]? = V3.heap[q]?:=fun q h1 h2 h3=>by
    rw [hu.block q h1 h3,set_far (fun e=>h2 e.symm),set_far (fun e=>h2 e.symm),set_far (fun e=>h2 e.symm)]
    rfl
   exact ⟨s_blk hP3.out fun q h1 h2=>hk q (hwn q h1 h2).1 (hwn q h1 h2).2.1 (hwn q h1 h2).2.2,(World.cell?_of_block (hk g hgw3 hggv (fun h=>hgn3 (hvS g h)))).trans hc92⟩
  have HTK:=Lib.hid (HT f.kind f.ref r v gv 0 deep (k + 1) V3.drew hk0 hk9 (hbo3.trans (hD9.mono hbo3.size)) hgvo hgvw ⟨hAv.c0,hAv.c1,hAv.c2,hAv.froz⟩ (hLv.on hD9) hgvn (fun h9=>hful3 h9 v (by rw [hV3]; exact List.mem_cons_self ..)) hf1 hf2 hnum hK hdeep hd0)
  have HFIN:Hid (∀ (e:Ending) (w':World),_ → MPost wo s (n + 1) m (k + 1 + (r.upto - r.frm)) p x (onSlot f.no (onlyS (decM s n) f l r) (leaveL (byS s m) f (x.F.map bareS))) w e w'):=Lib.hid fun e w' h=>HEND.out e w' (take_post (K:=k + 1) (w:=V3.drew) hgw3 (AtSlo.on hA3 hD9 hgw3) (hL3.on hD9) hgn3 (by rw [hlen3]; exact hgV) hV3 (Nat.le_add_right _ _) hful3 h)
  clear hgV hAv hLv hgvn hgvS hvS hwn hA3 hL3 hgn3 hP3 hbo3 hful3 hfar3 hlen3 hgvo HEND
  go_wp2_with fail
  refine wp_region_held_drew (S:=(fun w'=>((w'.cell? ⟨w.heap.size,0,none⟩ = some vM ∧ w'.cell? ⟨w.heap.size,1,none⟩ = some vE ∧ w'.cell? ⟨w.heap.size,2,none⟩ = some (.slice A l.length c)) ∧ (w'.cell? ⟨w.heap.size + 1,0,none⟩ = some (.int .i64 f.no) ∧ w'.cell? ⟨w.heap.size + 1,1,none⟩ = some (.string (txt f.name)) ∧ w'.cell? ⟨w.heap.size + 1,2,none⟩ = some (.int .i64 f.kind) ∧ w'.cell? ⟨w.heap.size + 1,3,none⟩ = some (.int .i64 f.ref) ∧ w'.cell? ⟨w.heap.size + 1,4,none⟩ = some (.bool f.rep) ∧ w'.cell? ⟨w.heap.size + 1,5,none⟩ = some (.int .i64 f.key) ∧ w'.cell? ⟨w.heap.size + 1,6,none⟩ = some (.int .i64 f.one)) ∧ (w'.cell? ⟨w.heap.size + 2,0,none⟩ = some (.int .i64 r.no) ∧ w'.cell? ⟨w.heap.size + 2,1,none⟩ = some (.int .i64 r.wire) ∧ w'.cell? ⟨w.heap.size + 2,2,none⟩ = some (.int .u64 r.num) ∧ w'.cell? ⟨w.heap.size + 2,3,none⟩ = some (.int .i64 r.frm) ∧ w'.cell? ⟨w.heap.size + 2,4,none⟩ = some (.int .i64 r.upto))) ∧ w'.cell? ⟨g,o + 2,none⟩ = some (.slice (some ⟨gv,0,none⟩) (rest.length + 1) cv))) (by kernel_rfl) (HS6.out _ hD9) (fun hHeld=>?_)
  refine tk 0 ?_
  refine tk 1 ?_
  refine tk 2 ?_
  refine tk 3 ?_
  refine tk 4 ?_
  refine tk 5 ?_
  refine tk 6 ?_
  refine tk 7 ?_
  refine tk 8 ?_
  refine tk 9 ?_
  refine tk 10 ?_
  refine tk 11 ?_
  refine wpAnyH_ready (rs:=[12]) (by kernel_rfl) (by simp) ?_
  refine AllReadyH.cons rfl (fun K hK=>?_) AllReadyH.nil
  go_simp
  (go_at_call 198; refine HTK.out.mono ?_; rintro e wt hp)
  rcases hp with ⟨er,h1,rfl,h3⟩ | ⟨x',h1,rfl,h3,h4,h5,h6,h7⟩
  ·go_wp2_with fail
   exact ⟨rfl,HFIN.out _ _ (.inl ⟨er,h1,rfl,h3⟩)⟩
  ·have HT9:=HTF.out _ _ h3
   have HQ9:=Lib.hid (HFIN.out (.returned (.tuple #[])) _ (.inr ⟨x',h1,rfl,h3,h4,h5,h6,h7⟩))
   clear h1 h3 h4 h5 h6 h7
   go_wp2_with fail
   refine hK.out _ _ HT9 (fun hHeld=>?_)
   clear hK K
   refine wpAnyH_done (by kernel_rfl) ?_ _
   go_wp2
   go_end0
   exact HQ9.out
 ·-- the first value
  have hgV':t.gV = .slice Ag (rest.length + 1) cg:=by rw [hgV,hVc]; rfl
  have c20:V2.cell? ⟨g,o + 2,none⟩ = some (.slice Ag (rest.length + 1) cg):=by rw [← hgV']; exact hA2.c2
  have hz0:(((rest.length + 1:Nat):Int) == 0) = false:=beq_eq_false_iff_ne.2 (by omega)
  obtain ⟨t3,ht3⟩:∃ t3,t3 = t:=⟨_,rfl⟩
  obtain ⟨V3,hV3w⟩:∃ V3,V3 = V2:=⟨_,rfl⟩
  have HEND3:Hid (∀ (e:Ending) (w':World),SPost wo s n f (k + 1 + (r.upto - r.frm)) g o t3 (onlyS (decM s n) f l r (bareS t3)) V3.drew e w' → MPost wo s (n + 1) m (k + 1 + (r.upto - r.frm)) p x (onSlot f.no (onlyS (decM s n) f l r) (leaveL (byS s m) f (x.F.map bareS))) w e w'):=Lib.hid fun e w' h=>HEND.out e w' (by
   subst ht3 hV3w
   exact SPost.back (V1:=V3.drew) rfl (UpdS.idle _ hA2 (Below.refl _ _).drew) hwoV hgo (fun q hq=>(hL2.old hq).1) (fun q hq _=>hq) rfl h)
  clear HEND
  have HEND:=HEND3
  clear HEND3
  have hLm:=hL2
  obtain ⟨⟨s0',s1',s2'⟩,⟨g0',g1',g2',g3',g4',g5',g6'⟩,r0',r1',r2',r3',r4'⟩:=hP2.out
  rw [← ht3] at hVc hA2 hLm hgn2 hfull hgV' hfarS
  rw [← hV3w] at hA2 hLm hP2 hgw hboV hWs
  have hV3:=hVc
  have hA3:=hA2
  have hL3:=hLm
  have hgn3:=hgn2
  have hP3:=hP2
  have hgw3:=hgw
  have hbo3:=hboV
  have hful3:=hfull
  have hW3s:=hWs
  have hfar3:=hfarS
  have HC20:=Lib.hid c20
  clear hVc hA2 hL2 hLm hgn2 hP2 hgw hboV hfull hWs hfarS hgV' hfarG hsgv HRV0 hgV ht3
  obtain ⟨gv,cv,hgV,hgvo,hgvw,hAv,hLv,hgvn,hgvS,hvS⟩:=first_at hL3 hV3
  have hlen3:t3.V.length = rest.length + 1:=by rw [hV3]; rfl
  rw [hlen3] at hgV
  have hggv:g ≠ gv:=fun e=>hgn3 (e ▸ hgvS)
  have hc92:V3.cell? ⟨g,o + 2,none⟩ = some (.slice (some ⟨gv,0,none⟩) (rest.length + 1) cv):=by rw [← hgV]; exact hA3.c2
  have hD9:Below V3.heap.size V3 V3.drew:=(Below.refl _ _).drew
  have HS6:Hid (∀ wx,Below V3.heap.size V3 wx → ((wx.cell? ⟨w.heap.size,0,none⟩ = some vM ∧ wx.cell? ⟨w.heap.size,1,none⟩ = some vE ∧ wx.cell? ⟨w.heap.size,2,none⟩ = some (.slice A l.length c)) ∧ (wx.cell? ⟨w.heap.size + 1,0,none⟩ = some (.int .i64 f.no) ∧ wx.cell? ⟨w.heap.size + 1,1,none⟩ = some (.string (txt f.name)) ∧ wx.cell? ⟨w.heap.size + 1,2,none⟩ = some (.int .i64 f.kind) ∧ wx.cell? ⟨w.heap.size + 1,3,none⟩ = some (.int .i64 f.ref) ∧ wx.cell? ⟨w.heap.size + 1,4,none⟩ = some (.bool f.rep) ∧ wx.cell? ⟨w.heap.size + 1,5,none⟩ = some (.int .i64 f.key) ∧ wx.cell? ⟨w.heap.size + 1,6,none⟩ = some (.int .i64 f.one)) ∧ (wx.cell? ⟨w.heap.size + 2,0,none⟩ = some (.int .i64 r.no) ∧ wx.cell? ⟨w.heap.size + 2,1,none⟩ = some (.int .i64 r.wire) ∧ wx.cell? ⟨w.heap.size + 2,2,none⟩ = some (.int .u64 r.num) ∧ wx.cell? ⟨w.heap.size + 2,3,none⟩ = some (.int .i64 r.frm) ∧ wx.cell? ⟨w.heap.size + 2,4,none⟩ = some (.int .i64 r.upto))) ∧ wx.cell? ⟨g,o + 2,none⟩ = some (.slice (some ⟨gv,0,none⟩) (rest.length + 1) cv)):=Lib.hid fun wx h=>⟨s_on (hP3.out) h,cell_on h hc92⟩
  have hwn:∀ q,w.heap.size ≤ q → q < w.heap.size + 3 → q < V3.heap.size ∧ q ≠ gv ∧ q ∉ blocks (rowsV v):=fun q h1 h2=>⟨Nat.lt_of_lt_of_le (by omega) hW3s,fun e=>hfar3 q h1 h2 (e ▸ hgvS),fun h=>hfar3 q h1 h2 (hvS q h)⟩
  have HTF:Hid (∀ (x':VL LM) wt,UpdV gv 0 x' (blocks (rowsV v)) V3.drew wt → ((wt.cell? ⟨w.heap.size,0,none⟩ = some vM ∧ wt.cell? ⟨w.heap.size,1,none⟩ = some vE ∧ wt.cell? ⟨w.heap.size,2,none⟩ = some (.slice A l.length c)) ∧ (wt.cell? ⟨w.heap.size + 1,0,none⟩ = some (.int .i64 f.no) ∧ wt.cell? ⟨w.heap.size + 1,1,none⟩ = some (.string (txt f.name)) ∧ wt.cell? ⟨w.heap.size + 1,2,none⟩ = some (.int .i64 f.kind) ∧ wt.cell? ⟨w.heap.size + 1,3,none⟩ = some (.int .i64 f.ref) ∧ wt.cell? ⟨w.heap.size + 1,4,none⟩ = some (.bool f.rep) ∧ wt.cell? ⟨w.heap.size + 1,5,none⟩ = some (.int .i64 f.key) ∧ wt.cell? ⟨w.heap.size + 1,6,none⟩ = some (.int .i64 f.one)) ∧ (wt.cell? ⟨w.heap.size + 2,0,none⟩ = some (.int .i64 r.no) ∧ wt.cell? ⟨w.heap.size + 2,1,none⟩ = some (.int .i64 r.wire) ∧ wt.cell? ⟨w.heap.size + 2,2,none⟩ = some (.int .u64 r.num) ∧ wt.cell? ⟨w.heap.size + 2,3,none⟩ = some (.int .i64 r.frm) ∧ wt.cell? ⟨w.heap.size + 2,4,none⟩ = some (.int .i64 r.upto))) ∧ wt.cell? ⟨g,o + 2,none⟩ = some (.slice (some ⟨gv,0,none⟩) (rest.length + 1) cv)):=Lib.hid fun x' wt hu=>by
   have hk:∀ q,q < V3.heap.size → q ≠ gv → q ∉ blocks (rowsV v) → wt.heap[q]? = V3.heap[q]?:=fun q h1 h2 h3=>by
    rw [hu.block q h1 h3,set_far (fun e=>h2 e.symm),set_far (fun e=>h2 e.symm),set_far (fun e=>h2 e.symm)]
    rfl
   exact ⟨s_blk hP3.out fun q h1 h2=>hk q (hwn q h1 h2).1 (hwn q h1 h2).2.1 (hwn q h1 h2).2.2,(World.cell?_of_block (hk g hgw3 hggv (fun h=>hgn3 (hvS g h)))).trans hc92⟩
  have HTK:=Lib.hid (HT f.kind f.ref r v gv 0 deep (k + 1) V3.drew hk0 hk9 (hbo3.trans (hD9.mono hbo3.size)) hgvo hgvw ⟨hAv.c0,hAv.c1,hAv.c2,hAv.froz⟩ (hLv.on hD9) hgvn (fun h9=>hful3 h9 v (by rw [hV3]; exact List.mem_cons_self ..)) hf1 hf2 hnum hK hdeep hd0)
  have HFIN:Hid (∀ (e:Ending) (w':World),_ → MPost wo s (n + 1) m (k + 1 + (r.upto - r.frm)) p x (onSlot f.no (onlyS (decM s n) f l r) (leaveL (byS s m) f (x.F.map bareS))) w e w'):=Lib.hid fun e w' h=>HEND.out e w' (take_post (K:=k + 1) (w:=V3.drew) hgw3 (AtSlo.on hA3 hD9 hgw3) (hL3.on hD9) hgn3 (by rw [hlen3]; exact hgV) hV3 (Nat.le_add_right _ _) hful3 h)
  clear hgV hAv hLv hgvn hgvS hvS hwn hA3 hL3 hgn3 hP3 hbo3 hful3 hfar3 hlen3 hgvo HEND
  obtain rfl:Ag = some ⟨gv,0,none⟩:=by
   have h:=HC20.out
   rw [← hV3w] at h
   have h2:=Option.some.inj (h.symm.trans hc92)
   injection h2
  obtain rfl:cv = cg:=by
   have h:=HC20.out
   rw [← hV3w] at h
   have h2:=Option.some.inj (hc92.symm.trans h)
   injection h2
  clear HC20
  subst hV3w
  go_wp2_with fail
  refine wp_region_held_drew (S:=(fun w'=>((w'.cell? ⟨w.heap.size,0,none⟩ = some vM ∧ w'.cell? ⟨w.heap.size,1,none⟩ = some vE ∧ w'.cell? ⟨w.heap.size,2,none⟩ = some (.slice A l.length c)) ∧ (w'.cell? ⟨w.heap.size + 1,0,none⟩ = some (.int .i64 f.no) ∧ w'.cell? ⟨w.heap.size + 1,1,none⟩ = some (.string (txt f.name)) ∧ w'.cell? ⟨w.heap.size + 1,2,none⟩ = some (.int .i64 f.kind) ∧ w'.cell? ⟨w.heap.size + 1,3,none⟩ = some (.int .i64 f.ref) ∧ w'.cell? ⟨w.heap.size + 1,4,none⟩ = some (.bool f.rep) ∧ w'.cell? ⟨w.heap.size + 1,5,none⟩ = some (.int .i64 f.key) ∧ w'.cell? ⟨w.heap.size + 1,6,none⟩ = some (.int .i64 f.one)) ∧ (w'.cell? ⟨w.heap.size + 2,0,none⟩ = some (.int .i64 r.no) ∧ w'.cell? ⟨w.heap.size + 2,1,none⟩ = some (.int .i64 r.wire) ∧ w'.cell? ⟨w.heap.size + 2,2,none⟩ = some (.int .u64 r.num) ∧ w'.cell? ⟨w.heap.size + 2,3,none⟩ = some (.int .i64 r.frm) ∧ w'.cell? ⟨w.heap.size + 2,4,none⟩ = some (.int .i64 r.upto))) ∧ w'.cell? ⟨g,o + 2,none⟩ = some (.slice (some ⟨gv,0,none⟩) (rest.length + 1) cv))) (by kernel_rfl) (HS6.out _ hD9) (fun hHeld=>?_)
  refine tk 0 ?_
  refine tk 1 ?_
  refine tk 2 ?_
  refine tk 3 ?_
  refine tk 4 ?_
  refine tk 5 ?_
  refine tk 6 ?_
  refine tk 7 ?_
  refine tk 8 ?_
  refine tk 9 ?_
  refine tk 10 ?_
  refine tk 11 ?_
  refine wpAnyH_ready (rs:=[12]) (by kernel_rfl) (by simp) ?_
  refine AllReadyH.cons rfl (fun K hK=>?_) AllReadyH.nil
  go_simp
  (go_at_call 198; refine HTK.out.mono ?_; rintro e wt hp)
  rcases hp with ⟨er,h1,rfl,h3⟩ | ⟨x',h1,rfl,h3,h4,h5,h6,h7⟩
  ·go_wp2_with fail
   exact ⟨rfl,HFIN.out _ _ (.inl ⟨er,h1,rfl,h3⟩)⟩
  ·have HT9:=HTF.out _ _ h3
   have HQ9:=Lib.hid (HFIN.out (.returned (.tuple #[])) _ (.inr ⟨x',h1,rfl,h3,h4,h5,h6,h7⟩))
   clear h1 h3 h4 h5 h6 h7
   go_wp2_with fail
   refine hK.out _ _ HT9 (fun hHeld=>?_)
   clear hK K
   refine wpAnyH_done (by kernel_rfl) ?_ _
   go_wp2
   go_end0
   exact HQ9.out
set_option maxRecDepth 1000000 in
set_option maxHeartbeats 8000000 in
theorem onlyL1 {wo:World} {s:Sc} {vM vE:Value} {A:Option Addr} {c:Nat} {l:List UInt8} {K n:Nat} (HT:TakeH wo s vM vE A c l K n) (hs:SAt wo.heap.size wo s vM vE) (m:Int) (f:Df) (r:Rc) (x:LM) (p:Addr) (k:Nat) (deep:Int) (w:World) (hone:f.one ≠ 0) (hk0:0 ≤ f.kind) (hk9:f.kind ≤ 9) (hbo:Below wo.heap.size wo w) (hpo:wo.heap.size ≤ p.block) (hp:p.block < w.heap.size) (hsp:p.spot = none) (hc:w.cell? p = some x.v) (hz:w.frozen? p = false) (hL:Lies wo.heap.size k w x.rows) (hpn:p.block ∉ blocks x.rows) (hful:Full s (n + 1) m x) (hf:byS s m f.no = some f) (hf1:r.frm ≤ r.upto) (hf2:r.upto ≤ l.length) (hnum:r.num < 18446744073709551616) (hK:k + 1 + (r.upto - r.frm) ≤ K) (hKK:K ≤ 1000000000) (hdeep:deep + n = 64) (hd0:0 ≤ deep) :
  Calls Tryz.prog 152 #[.agg #[vM,vE,.slice A l.length c],.pointer (some p),.int .i64 m,.agg #[.int .i64 f.no,.string (txt f.name),.int .i64 f.kind,.int .i64 f.ref,.bool f.rep,.int .i64 f.key,.int .i64 f.one],RV r,.int .i64 deep] w fun e w'=>MPost wo s (n + 1) m (k + 1 + (r.upto - r.frm)) p x (onSlot f.no (onlyS (decM s n) f l r) (leaveL (byS s m) f (x.F.map bareS))) w e w':=by
 obtain ⟨j0,hj,hy0,hy1,hy2⟩:=info_parts T9.info_val
 have hRV:RV r = .agg #[.int .i64 r.no,.int .i64 r.wire,.int .u64 r.num,.int .i64 r.frm,.int .i64 r.upto]:=rfl
 rw [hRV]
 obtain ⟨T1,T2,T3,L3⟩:=three_boxes w (.cells #[vM,vE,.slice A l.length c] 113) (dC f) (.cells #[.int .i64 r.no,.int .i64 r.wire,.int .u64 r.num,.int .i64 r.frm,.int .i64 r.upto] 41)
 obtain ⟨g0,g1,g2,g3,g4,g5,g6⟩:=dc_cells T2
 obtain ⟨s0,s1,s2⟩:=bx3 T1
 obtain ⟨r0,r1,r2,r3,r4⟩:=heap_cells T3
 obtain ⟨W3,hW3⟩:∃ W,W = (((w.alloc (.cells #[vM,vE,.slice A l.length c] 113)).alloc (dC f)).alloc (.cells #[.int .i64 r.no,.int .i64 r.wire,.int .u64 r.num,.int .i64 r.frm,.int .i64 r.upto] 41)):=⟨_,rfl⟩
 have hs3:W3.heap.size = w.heap.size + 3:=by rw [hW3]; simp
 rw [← hW3] at T1 T2 T3 L3
 have hPW:=Lib.hid (show (W3.cell? ⟨w.heap.size,0,none⟩ = some vM ∧ W3.cell? ⟨w.heap.size,1,none⟩ = some vE ∧ W3.cell? ⟨w.heap.size,2,none⟩ = some (.slice A l.length c)) ∧ (W3.cell? ⟨w.heap.size + 1,0,none⟩ = some (.int .i64 f.no) ∧ W3.cell? ⟨w.heap.size + 1,1,none⟩ = some (.string (txt f.name)) ∧ W3.cell? ⟨w.heap.size + 1,2,none⟩ = some (.int .i64 f.kind) ∧ W3.cell? ⟨w.heap.size + 1,3,none⟩ = some (.int .i64 f.ref) ∧ W3.cell? ⟨w.heap.size + 1,4,none⟩ = some (.bool f.rep) ∧ W3.cell? ⟨w.heap.size + 1,5,none⟩ = some (.int .i64 f.key) ∧ W3.cell? ⟨w.heap.size + 1,6,none⟩ = some (.int .i64 f.one)) ∧ (W3.cell? ⟨w.heap.size + 2,0,none⟩ = some (.int .i64 r.no) ∧ W3.cell? ⟨w.heap.size + 2,1,none⟩ = some (.int .i64 r.wire) ∧ W3.cell? ⟨w.heap.size + 2,2,none⟩ = some (.int .u64 r.num) ∧ W3.cell? ⟨w.heap.size + 2,3,none⟩ = some (.int .i64 r.frm) ∧ W3.cell? ⟨w.heap.size + 2,4,none⟩ = some (.int .i64 r.upto)) from ⟨bx3 T1,dc_cells T2,heap_cells T3⟩)
 have hwo:=hbo.size
 have hbo3:=below_then hbo L3
 have hc3:W3.cell? p = some x.v:=(L3.cell hp).trans hc
 have hz3:W3.frozen? p = false:=(L3.frozen hp).trans hz
 have hp3:p.block < W3.heap.size:=Nat.lt_of_lt_of_le hp L3.size
 have hL3:=hL.on L3
 have hids:∀ q ∈ blocks x.rows,wo.heap.size ≤ q:=fun q hq=>(hL.old hq).1
 have hxw:∀ q ∈ blocks x.rows,q < w.heap.size:=fun q hq=>(hL.old hq).2
 have b1:(f.one != 0) = true:=by simpa using hone
 have HLV:=Lib.hid (leave_loc (m:=m) (vB:=.slice A l.length c) f x p wo.heap.size k W3 (Nat.le_trans hwo L3.size) (hs.low (Low.of hbo3)) hL3 hc3 hz3 hsp hp3 hpn hone)
 have HALL:=Lib.hid (And.intro hPW.out (And.intro hids (And.intro hxw (And.intro hful (And.intro hbo3 (And.intro hc3 (And.intro hz3 (And.intro hL hpn))))))))
 clear T1 T2 T3 hc hz hL3 hids hxw hful hone hPW hc3 hz3 hL hpn
 go_enter Tryz.func152,Tryz.ntmps152
 go_wp2_with fail
 rw [← hW3]
 refine HLV.out.mono ?_
 rintro e V1 ⟨rfl,x1,hx1,hsub,hU1,hL1,hpn1,hold1⟩
 obtain ⟨hPW,hids,hxw,hful,hbo3,hc3,hz3,hL,hpn⟩:=HALL.out
 have hc1:=cell_upd hU1 hc3 hsp hp3 hpn
 have hz1:=froz_upd hU1 hz3 hsp hp3 hpn
 have hp1:p.block < V1.heap.size:=Nat.lt_of_lt_of_le hp3 hU1.size
 have hwo1:wo.heap.size ≤ V1.heap.size:=Nat.le_trans hwo (Nat.le_trans L3.size hU1.size)
 have HU1:Hid (Upd p x1.v (blocks x.rows) w V1):=Lib.hid (Upd.after L3 hU1 (fun i hi _=>hi))
 have HSL:=Lib.hid (slotOf_got (no:=f.no) hwo1 hL1 hc1 hz1 hsp hp1 hpn1 (by omega))
 have hful1:Full s (n + 1) m x1:=fun u hu=>hful u (hsub.subset hu)
 have hfarA:∀ q,w.heap.size ≤ q → q < w.heap.size + 3 → V1.heap[q]? = W3.heap[q]?:=fun q h1 h2=>by
  rw [hU1.block q (by omega) (fun h=>by have:=hxw q h; omega),setCell_at]
  cases W3.heap[q]? with
  | none=>rfl
  | some z=>simp only [Option.map_some]; rw [if_neg (by omega)]
 obtain ⟨⟨s0',s1',s2'⟩,⟨g0',g1',g2',g3',g4',g5',g6'⟩,r0',r1',r2',r3',r4'⟩:=s_blk hPW hfarA
 have HAL2:=Lib.hid (And.intro hPW (And.intro hids (And.intro hxw (And.intro hful1 (And.intro hbo3 (And.intro hx1 (And.intro hold1 (And.intro hfarA hU1))))))))
 have hV1s:w.heap.size + 3 ≤ V1.heap.size:=by have:=hU1.size; omega
 clear hPW hids hxw hful hbo3 hc3 hz3 hL hpn hx1 hsub hU1 hL1 hpn1 hold1 hc1 hz1 hful1 hfarA HALL HLV
 go_wp2_with fail
 refine HSL.out.mono ?_
 rintro e V2 ⟨g,c',l1,t,l2,rfl,HG⟩
 obtain ⟨hPW,hids,hxw,hful1,hbo3,hx1,hold1,hfarA,hU1⟩:=HAL2.out
 have hUV:=HU1.out.trans HG.upd (fun i hi hlt=>hold1 i hi)
 have hfull:=HG.full hf hful1
 have HEND:Hid (∀ (e:Ending) (w':World),SPost wo s n f (k + 1 + (r.upto - r.frm)) g (l1.length * 3) t (onlyS (decM s n) f l r (bareS t)) V2 e w' → MPost wo s (n + 1) m (k + 1 + (r.upto - r.frm)) p x (onSlot f.no (onlyS (decM s n) f l r) (leaveL (byS s m) f (x.F.map bareS))) w e w'):=Lib.hid fun e w' h=>by
  rw [← hx1]
  exact MPost.back (x1:=x1) HU1.out hwo hpo hids (fun q hq _=>hold1 q hq) (Got1.post HG hwo1 hpo hsp hp1 (fun q hq=>hids q (hold1 q hq)) hf hful1 (by omega) h)
 have hfarB:∀ q,w.heap.size ≤ q → q < w.heap.size + 3 → V2.heap[q]? = W3.heap[q]? ∧ q ∉ blocks (LM.mk (.slice (some ⟨g,0,none⟩) (l1 ++ t :: l2).length c') (l1 ++ t :: l2)).rows:=fun q h1 h2=>by
  refine ⟨?_,fun h=>by have:=hxw q (hold1 q (HG.old q h (by omega))); omega⟩
  rw [← hfarA q h1 h2,HG.upd.block q (by omega) (fun h=>by have:=hxw q (hold1 q h); omega),setCell_at]
  cases V1.heap[q]? with
  | none=>rfl
  | some z=>simp only [Option.map_some]; rw [if_neg (by omega)]
 clear s0' s1' s2' g0' g1' g2' g3' g4' g5' g6' r0' r1' r2' r3' r4' HAL2
 obtain ⟨hgw,hgo,hA2,hL2,hgn2,hFl⟩:=HG.at
 have hP2:Hid ((V2.cell? ⟨w.heap.size,0,none⟩ = some vM ∧ V2.cell? ⟨w.heap.size,1,none⟩ = some vE ∧ V2.cell? ⟨w.heap.size,2,none⟩ = some (.slice A l.length c)) ∧ (V2.cell? ⟨w.heap.size + 1,0,none⟩ = some (.int .i64 f.no) ∧ V2.cell? ⟨w.heap.size + 1,1,none⟩ = some (.string (txt f.name)) ∧ V2.cell? ⟨w.heap.size + 1,2,none⟩ = some (.int .i64 f.kind) ∧ V2.cell? ⟨w.heap.size + 1,3,none⟩ = some (.int .i64 f.ref) ∧ V2.cell? ⟨w.heap.size + 1,4,none⟩ = some (.bool f.rep) ∧ V2.cell? ⟨w.heap.size + 1,5,none⟩ = some (.int .i64 f.key) ∧ V2.cell? ⟨w.heap.size + 1,6,none⟩ = some (.int .i64 f.one)) ∧ (V2.cell? ⟨w.heap.size + 2,0,none⟩ = some (.int .i64 r.no) ∧ V2.cell? ⟨w.heap.size + 2,1,none⟩ = some (.int .i64 r.wire) ∧ V2.cell? ⟨w.heap.size + 2,2,none⟩ = some (.int .u64 r.num) ∧ V2.cell? ⟨w.heap.size + 2,3,none⟩ = some (.int .i64 r.frm) ∧ V2.cell? ⟨w.heap.size + 2,4,none⟩ = some (.int .i64 r.upto))):=Lib.hid (s_blk hPW fun q h1 h2=>(hfarB q h1 h2).1)
 have hfarS:∀ q,w.heap.size ≤ q → q < w.heap.size + 3 → q ∉ blocks (rowsS t):=fun q h1 h2 h3=>(hfarB q h1 h2).2 (by
  rw [rows_of,rowsF_append,rowsF_cons]
  exact blocks_cons_le (mem_three.2 (.inr (.inl h3))))
 have hfarG:∀ q,w.heap.size ≤ q → q < w.heap.size + 3 → g ≠ q:=fun q h1 h2 h3=>(hfarB q h1 h2).2 (by
  rw [rows_of,blocks_of]
  exact .inl (by rw [← h3]; rfl))
 have hWs:w.heap.size + 3 ≤ V2.heap.size:=by have:=hUV.size; have:=HG.upd.size; omega
 have hwoV:wo.heap.size ≤ V2.heap.size:=by omega
 have hboV:Below wo.heap.size wo V2:=hbo.trans (upd_below hUV hwo hpo hids)
 obtain ⟨Ag,cg,hgV,-⟩:=Sl.of_own (hL2.own (rwS t.gV t.V) (List.mem_cons_of_mem _ (List.mem_cons_self ..))).1
 have hgV:t.gV = .slice Ag t.V.length cg:=hgV
 obtain ⟨o,ho⟩:∃ o,l1.length * 3 = o:=⟨_,rfl⟩
 rw [ho] at hA2 HEND ⊢
 have hom:l1.length ≤ K:=by rw [List.length_append] at hFl; omega
 have ho9:o ≤ 3000000000:=by omega
 have HRV0:Hid (V2.ownsRow wo.heap.size 81 3 t.gV t.V.length (t.V.flatMap cV')):=Lib.hid (hL2.own (rwS t.gV t.V) (List.mem_cons_of_mem _ (List.mem_cons_self ..))).1
 have hsgv:∀ q,t.gV.ownBlock = some q → q ∈ blocks (rowsS t):=fun q hq=>blocks_cons_le (blocks_of.2 (.inl hq))
 clear HG hUV hfarB ho HU1 HSL hFl hom
 rcases hVc:t.V with _ | ⟨v,rest⟩
 ·-- nothing is there yet
  have c20:V2.cell? ⟨g,o + 2,none⟩ = some (.slice Ag 0 cg):=by have:=hA2.c2; rw [hgV,hVc] at this; exact this
  have C2:=Lib.hid c20
  obtain ⟨A0,hA0⟩:∃ A0,Ag = A0:=⟨_,rfl⟩
  obtain ⟨c0,hc0⟩:∃ c0,cg = c0:=⟨_,rfl⟩
  rw [hA0,hc0] at c20 C2 hgV
  rw [hVc] at hgV
  have HGV:=Lib.hid (And.intro (show t.gV = .slice A0 0 c0 from hgV) hVc)
  have HRV:Hid (V2.ownsRow wo.heap.size 81 3 (.slice A0 0 c0) 0 []):=Lib.hid (by have:=HRV0.out; rw [HGV.out.1,hVc] at this; exact this)
  have HAS:=Lib.hid hA2
  have HLS:=Lib.hid (hL2.more (Nat.le_refl (k + 1)))
  have HGN:=Lib.hid hgn2
  have HPX:=hP2
  have HFV:Hid (∀ q,w.heap.size ≤ q → q < w.heap.size + 3 → q < V2.heap.size ∧ (Value.slice A0 0 c0).ownBlock ≠ some q):=Lib.hid fun q h1 h2=>⟨by omega,fun e=>hfarS q h1 h2 (hsgv q (by rw [HGV.out.1]; exact e))⟩
  have HFG:=Lib.hid hfarG
  have HNE:Hid ((Value.slice A0 0 c0).ownBlock ≠ some g):=Lib.hid fun e=>hgn2 (hsgv g (by rw [HGV.out.1]; exact e))
  have hgV2:=hgw
  have hDV:Below V2.heap.size V2 V2.drew:=(Below.refl _ _).drew
  obtain ⟨⟨s0',s1',s2'⟩,⟨g0',g1',g2',g3',g4',g5',g6'⟩,r0',r1',r2',r3',r4'⟩:=hP2.out
  clear hgV hVc hA2 hL2 hgn2 hP2 hfarG hsgv HRV0 hA0 hc0 hgw hfull
  go_wp2_with fail
  apply once
  ·intro HGO
   refine wp_region_held_drew (S:=(fun w'=>(w'.cell? ⟨w.heap.size,0,none⟩ = some vM ∧ w'.cell? ⟨w.heap.size,1,none⟩ = some vE ∧ w'.cell? ⟨w.heap.size,2,none⟩ = some (.slice A l.length c)) ∧ (w'.cell? ⟨w.heap.size + 1,0,none⟩ = some (.int .i64 f.no) ∧ w'.cell? ⟨w.heap.size + 1,1,none⟩ = some (.string (txt f.name)) ∧ w'.cell? ⟨w.heap.size + 1,2,none⟩ = some (.int .i64 f.kind) ∧ w'.cell? ⟨w.heap.size + 1,3,none⟩ = some (.int .i64 f.ref) ∧ w'.cell? ⟨w.heap.size + 1,4,none⟩ = some (.bool f.rep) ∧ w'.cell? ⟨w.heap.size + 1,5,none⟩ = some (.int .i64 f.key) ∧ w'.cell? ⟨w.heap.size + 1,6,none⟩ = some (.int .i64 f.one)) ∧ (w'.cell? ⟨w.heap.size + 2,0,none⟩ = some (.int .i64 r.no) ∧ w'.cell? ⟨w.heap.size + 2,1,none⟩ = some (.int .i64 r.wire) ∧ w'.cell? ⟨w.heap.size + 2,2,none⟩ = some (.int .u64 r.num) ∧ w'.cell? ⟨w.heap.size + 2,3,none⟩ = some (.int .i64 r.frm) ∧ w'.cell? ⟨w.heap.size + 2,4,none⟩ = some (.int .i64 r.upto)))) (by kernel_rfl) (s_on HPX.out (hDV)) (fun hHeld=>?_)
   refine tk 0 ?_
   refine tk 1 ?_
   refine tk 2 ?_
   refine tk 3 ?_
   refine tk 5 ?_
   refine tk 6 ?_
   refine wpAnyH_ready (rs:=[4,7]) (by kernel_rfl) (by simp) ?_
   refine AllReadyH.cons rfl (fun K hK=>?_) (AllReadyH.cons rfl (fun K hK=>?_) AllReadyH.nil)
   ·go_simp
    clear hHeld
    refine hK.out _ _ (s_on HPX.out (hDV)) (fun hHeld=>?_)
    clear hK K
    refine wpAnyH_ready (rs:=[7]) (by kernel_rfl) (by simp) ?_
    refine AllReadyH.cons rfl (fun K hK=>?_) AllReadyH.nil
    go_simp
    (go_at_call 197; refine (blank_any f.kind _).mono ?_; rintro e w7 ⟨⟨bn,bs,bg,bM⟩,rfl,hbb,hbL,hbM,hb7⟩; obtain ⟨Ab,cb,hbg,-⟩:=Sl.of_own (hbL.own (rwV ⟨bn,bs,bg,bM⟩) (List.mem_cons_self ..)).1; obtain ⟨nb,hnb⟩:∃ nb,(rwV (⟨bn,bs,bg,bM⟩:VL LM)).n = nb:=⟨_,rfl⟩; rw [hnb] at hbg; obtain rfl:bg = .slice Ab nb cb:=hbg; clear hnb; have HBV:=Lib.hid (And.intro hbb (And.intro hbL hbM)); clear hbb hbL hbM; have hb7d:=Lib.hid (hDV.trans (hb7.mono hDV.size)); have c7:=cell_on hb7d.out C2.out; have hb8:=Lib.hid (below_then hb7d.out (below_new w7 (.cells #[.int .i64 bn,.string (tx bs),.slice Ab nb cb] 81))); have c7b:=cell_on hb8.out C2.out; have hs7:V2.heap.size ≤ w7.heap.size:=hb7d.out.size)
    go_wp2_with fail
    clear hHeld
    refine hK.out _ _ (s_on HPX.out (hb7d.out)) (fun hHeld=>?_)
    clear hK K
    refine wpAnyH_ready (rs:=[8]) (by kernel_rfl) (by simp) ?_
    refine AllReadyH.cons rfl (fun K hK=>?_) AllReadyH.nil
    go_simp
    clear hHeld
    refine hK.out _ _ (s_on HPX.out (hb8.out)) (fun hHeld=>?_)
    clear hK K
    clear hHeld
    revert hs7; revert c7b; revert hb8; revert c7; revert hb7d; revert HBV; revert hb7; revert bM; revert nb; revert cb; revert Ab; revert bs; revert bn; revert w7
    exact HGO.out
   ·go_simp
    (go_at_call 197; refine (blank_any f.kind _).mono ?_; rintro e w7 ⟨⟨bn,bs,bg,bM⟩,rfl,hbb,hbL,hbM,hb7⟩; obtain ⟨Ab,cb,hbg,-⟩:=Sl.of_own (hbL.own (rwV ⟨bn,bs,bg,bM⟩) (List.mem_cons_self ..)).1; obtain ⟨nb,hnb⟩:∃ nb,(rwV (⟨bn,bs,bg,bM⟩:VL LM)).n = nb:=⟨_,rfl⟩; rw [hnb] at hbg; obtain rfl:bg = .slice Ab nb cb:=hbg; clear hnb; have HBV:=Lib.hid (And.intro hbb (And.intro hbL hbM)); clear hbb hbL hbM; have hb7d:=Lib.hid (hDV.trans (hb7.mono hDV.size)); have c7:=cell_on hb7d.out C2.out; have hb8:=Lib.hid (below_then hb7d.out (below_new w7 (.cells #[.int .i64 bn,.string (tx bs),.slice Ab nb cb] 81))); have c7b:=cell_on hb8.out C2.out; have hs7:V2.heap.size ≤ w7.heap.size:=hb7d.out.size)
    go_wp2_with fail
    clear hHeld
    refine hK.out _ _ (s_on HPX.out (hb7d.out)) (fun hHeld=>?_)
    clear hK K
    refine wpAnyH_ready (rs:=[4,8]) (by kernel_rfl) (by simp) ?_
    refine AllReadyH.cons rfl (fun K hK=>?_) (AllReadyH.cons rfl (fun K hK=>?_) AllReadyH.nil)
    ·go_simp
     clear hHeld
     refine hK.out _ _ (s_on HPX.out (hb7d.out)) (fun hHeld=>?_)
     clear hK K
     refine wpAnyH_ready (rs:=[8]) (by kernel_rfl) (by simp) ?_
     refine AllReadyH.cons rfl (fun K hK=>?_) AllReadyH.nil
     go_simp
     clear hHeld
     refine hK.out _ _ (s_on HPX.out (hb8.out)) (fun hHeld=>?_)
     clear hK K
     clear hHeld
     exact HGO.out w7 bn bs Ab cb nb bM hb7 HBV hb7d c7 hb8 c7b hs7
    ·go_simp
     clear hHeld
     refine hK.out _ _ (s_on HPX.out (hb8.out)) (fun hHeld=>?_)
     clear hK K
     refine wpAnyH_ready (rs:=[4]) (by kernel_rfl) (by simp) ?_
     refine AllReadyH.cons rfl (fun K hK=>?_) AllReadyH.nil
     go_simp
     clear hHeld
     refine hK.out _ _ (s_on HPX.out (hb8.out)) (fun hHeld=>?_)
     clear hK K
     clear hHeld
     exact HGO.out w7 bn bs Ab cb nb bM hb7 HBV hb7d c7 hb8 c7b hs7
  intro w7 bn bs Ab cb nb bM hb7 HBV hb7d c7 hb8 c7b hs7
  have hHeld:=s_on HPX.out (hb8.out)
  refine wpAnyH_ready (rs:=[9]) (by kernel_rfl) (by simp) ?_
  refine AllReadyH.cons rfl (fun K hK=>?_) AllReadyH.nil
  (refine step_append_lies _ rfl _ _ 65 rfl wo.heap.size 81 j0 _ 3 48 Tryz.underlying65 hj hy0 hy1 hy2 rfl (by decide) (.slice A0 0 c0) 0 [] (by simp [Act.eval,Act.put]) (own_hi HRV.out (hi_below wo.heap.size hb8.out)) ⟨w7.heap.size,0,none⟩ 1 1 [.int .i64 bn,.string (tx bs),.slice Ab nb cb] (by simp [Act.eval,Act.put]) rfl (World.news_of_block (heap_alloc_new _ _)) (by simp [Value.oneCell']) (by decide) (by unfold maxLen; omega) (by omega) (by simp; omega) w7.heap.size.succ (by simp) ?_; intro g8 c8 w8 hown8 hg8 hat8 hlt8; have hgne:(Value.slice A0 0 c0).ownBlock ≠ some g:=HNE.out; have e8:=grown_block hg8 (Nat.lt_of_lt_of_le hgV2 hb8.out.size) hgne; have c8b:w8.cell? ⟨g,o + 2,none⟩ = some (.slice A0 0 c0):=(World.cell?_of_block (a:=⟨g,o + 2,none⟩) e8).trans c7b; have f8:w8.frozen? ⟨g,o + 2,none⟩ = false:=(froz_of (a:=⟨g,o + 2,none⟩) e8).trans ((hb8.out.frozen hgV2).trans (HAS.out.froz _)); have HG8:=Lib.hid (And.intro hown8 (And.intro hg8 (And.intro hat8 hlt8))); clear hown8 hg8 hat8 hlt8 e8 hgne)
  clear hHeld
  refine hK.out _ _ (s_blk HPX.out (fun q h1 h2=>(HG8.out.2.1.block q (Nat.lt_of_lt_of_le (HFV.out q h1 h2).1 hb8.out.size) (fun e=>(HFV.out q h1 h2).2 e.symm)).trans (hb8.out.block q (HFV.out q h1 h2).1))) (fun hHeld=>?_)
  clear hK K
  refine tk 10 ?_
  refine tk 11 ?_
  refine wpAnyH_ready (rs:=[12]) (by kernel_rfl) (by simp) ?_
  refine AllReadyH.cons rfl (fun K hK=>?_) AllReadyH.nil
  go_simp
  clear hHeld
  refine hK.out _ _ (s_blk HPX.out (fun q h1 h2=>(set_far (HFG.out q h1 h2)).trans ((HG8.out.2.1.block q (Nat.lt_of_lt_of_le (HFV.out q h1 h2).1 hb8.out.size) (fun e=>(HFV.out q h1 h2).2 e.symm)).trans (hb8.out.block q (HFV.out q h1 h2).1)))) (fun hHeld=>?_)
  clear hK K
  refine wpAnyH_done (by kernel_rfl) ?_ _
  obtain ⟨hbb,hbL,hbM⟩:=HBV.out
  obtain ⟨b,hbe⟩:∃ b:VL LM,b = ⟨bn,bs,.slice Ab nb cb,bM⟩:=⟨_,rfl⟩
  have hbc:cV' b = [.int .i64 bn,.string (tx bs),.slice Ab nb cb]:=by rw [hbe]; rfl
  have hbb:bareV b = blankV f.kind:=by rw [hbe]; exact hbb
  have hbL:Lies V2.drew.heap.size 1 w7 (rowsV b):=by rw [hbe]; exact hbL
  have hbM:f.kind = 9 → ∃ v,b.M = [.mk v []]:=by rw [hbe]; exact hbM
  clear hbe
  obtain ⟨hown8,hg8,hat8,hlt8⟩:=HG8.out
  have hpush:=slot_push (K':=k + 1) (x:=b) (wa:=w7.alloc (.cells #[.int .i64 bn,.string (tx bs),.slice Ab nb cb] 81)) hgV2 HAS.out HLS.out HGN.out hb8.out ((hbL.more (Nat.le_add_left 1 k)).on (below_new w7 (.cells #[.int .i64 bn,.string (tx bs),.slice Ab nb cb] 81)) |> fun h=>(⟨fun q hq=>⟨own_less2 (h.own q hq).1 hwoV,(h.own q hq).2⟩,h.apart⟩:Lies wo.heap.size (k + 1) _ _)) (fun q hq=>(hbL.old hq).1) (by rw [HGV.out.1]; exact hg8) (by rw [HGV.out.2]; show w8.ownsRow _ _ _ (.slice _ (0 + 1) _) (0 + 1) ([] ++ cV' b); rw [hbc]; exact hown8) (by rw [HGV.out.1]; exact hat8.imp id (fun h=>by rw [h]; simp)) (Nat.le_refl _) (by rw [HGV.out.2]; show 0 + 1 ≤ _; omega)
  have hV0:t.V = []:=HGV.out.2
  have hlen1:t.V.length + 1 = 1:=by rw [hV0]; rfl
  rw [hlen1] at hpush
  obtain ⟨t3,ht3⟩:∃ t3:SLo LM,t3 = ⟨t.no,t.gK,t.K,.slice (some ⟨g8,0,none⟩) 1 c8,t.V ++ [b]⟩:=⟨_,rfl⟩
  obtain ⟨V3,hV3w⟩:∃ V,V = w8.setCell ⟨g,o + 2,none⟩ (.slice (some ⟨g8,0,none⟩) 1 c8):=⟨_,rfl⟩
  rw [← ht3,← hV3w] at hpush
  rw [← hV3w]
  obtain ⟨hU3,hL3,hgn3,ho3⟩:=hpush
  have hP3:Hid ((V3.cell? ⟨w.heap.size,0,none⟩ = some vM ∧ V3.cell? ⟨w.heap.size,1,none⟩ = some vE ∧ V3.cell? ⟨w.heap.size,2,none⟩ = some (.slice A l.length c)) ∧ (V3.cell? ⟨w.heap.size + 1,0,none⟩ = some (.int .i64 f.no) ∧ V3.cell? ⟨w.heap.size + 1,1,none⟩ = some (.string (txt f.name)) ∧ V3.cell? ⟨w.heap.size + 1,2,none⟩ = some (.int .i64 f.kind) ∧ V3.cell? ⟨w.heap.size + 1,3,none⟩ = some (.int .i64 f.ref) ∧ V3.cell? ⟨w.heap.size + 1,4,none⟩ = some (.bool f.rep) ∧ V3.cell? ⟨w.heap.size + 1,5,none⟩ = some (.int .i64 f.key) ∧ V3.cell? ⟨w.heap.size + 1,6,none⟩ = some (.int .i64 f.one)) ∧ (V3.cell? ⟨w.heap.size + 2,0,none⟩ = some (.int .i64 r.no) ∧ V3.cell? ⟨w.heap.size + 2,1,none⟩ = some (.int .i64 r.wire) ∧ V3.cell? ⟨w.heap.size + 2,2,none⟩ = some (.int .u64 r.num) ∧ V3.cell? ⟨w.heap.size + 2,3,none⟩ = some (.int .i64 r.frm) ∧ V3.cell? ⟨w.heap.size + 2,4,none⟩ = some (.int .i64 r.upto))):=Lib.hid (by rw [hV3w]; exact s_blk HPX.out (fun q h1 h2=>(set_far (HFG.out q h1 h2)).trans ((HG8.out.2.1.block q (Nat.lt_of_lt_of_le (HFV.out q h1 h2).1 hb8.out.size) (fun e=>(HFV.out q h1 h2).2 e.symm)).trans (hb8.out.block q (HFV.out q h1 h2).1))))
  have hV3:t3.V = b :: []:=by rw [ht3,hV0]; rfl
  have hno3:t3.no = t.no:=by rw [ht3]
  have hgw3:g < V3.heap.size:=Nat.lt_of_lt_of_le hgV2 hU3.size
  have hA3:AtSlo g o t3 V3:=hU3.at HAS.out hno3 hgV2 HGN.out
  have hbo3:Below wo.heap.size wo V3:=hboV.trans ⟨hU3.os,hU3.tape,hU3.output,hU3.size,fun q hq=>hU3.far (Nat.lt_of_lt_of_le hq hwoV) (fun hm=>by have:=(HLS.out.old hm).1; omega) (by omega)⟩
  have hful3:f.kind = 9 → ∀ u ∈ t3.V,∃ y,u.M = [y] ∧ Full s n f.ref y:=fun h9 u hu=>by
   rw [hV3] at hu
   obtain rfl:=List.mem_singleton.1 hu
   obtain ⟨v0,hv0⟩:=hbM h9
   exact ⟨_,hv0,full_empty s v0 n f.ref⟩
  have hW3s:w.heap.size + 3 ≤ V3.heap.size:=Nat.le_trans hWs hU3.size
  have hfar3:∀ q,w.heap.size ≤ q → q < w.heap.size + 3 → q ∉ blocks (rowsS t3):=fun q h1 h2 h3=>hfarS q h1 h2 (ho3 q h3 (HFV.out q h1 h2).1)
  have HEND3:Hid (∀ (e:Ending) (w':World),SPost wo s n f (k + 1 + (r.upto - r.frm)) g o t3 (onlyS (decM s n) f l r (bareS t3)) V3.drew e w' → MPost wo s (n + 1) m (k + 1 + (r.upto - r.frm)) p x (onSlot f.no (onlyS (decM s n) f l r) (leaveL (byS s m) f (x.F.map bareS))) w e w'):=Lib.hid fun e w' h=>HEND.out e w' (SPost.back (V1:=V3.drew) hno3 (hU3.then_below (Below.refl _ _).drew) hwoV hgo (fun q hq=>(HLS.out.old hq).1) ho3 (by
   rw [ht3]
   exact onlyS_blank _ hV0 hbb) h)
  clear HEND
  have HEND:=HEND3
  clear HEND3
  clear hbb hbL hbM hbc hown8 hg8 hat8 hlt8 hU3 ho3 ht3 hno3 hV3w HG8 HBV c7 c7b c8b f8 hb8 hb7d hs7 hb7
  obtain ⟨v,hvb⟩:∃ v,v = b:=⟨_,rfl⟩
  obtain ⟨rest,hre⟩:∃ rest:List (VL LM),rest = []:=⟨_,rfl⟩
  rw [← hvb,← hre] at hV3
  clear hvb hre
  obtain ⟨gv,cv,hgV,hgvo,hgvw,hAv,hLv,hgvn,hgvS,hvS⟩:=first_at hL3 hV3
  have hlen3:t3.V.length = rest.length + 1:=by rw [hV3]; rfl
  rw [hlen3] at hgV
  have hggv:g ≠ gv:=fun e=>hgn3 (e ▸ hgvS)
  have hc92:V3.cell? ⟨g,o + 2,none⟩ = some (.slice (some ⟨gv,0,none⟩) (rest.length + 1) cv):=by rw [← hgV]; exact hA3.c2
  have hD9:Below V3.heap.size V3 V3.drew:=(Below.refl _ _).drew
  have HS6:Hid (∀ wx,Below V3.heap.size V3 wx → ((wx.cell? ⟨w.heap.size,0,none⟩ = some vM ∧ wx.cell? ⟨w.heap.size,1,none⟩ = some vE ∧ wx.cell? ⟨w.heap.size,2,none⟩ = some (.slice A l.length c)) ∧ (wx.cell? ⟨w.heap.size + 1,0,none⟩ = some (.int .i64 f.no) ∧ wx.cell? ⟨w.heap.size + 1,1,none⟩ = some (.string (txt f.name)) ∧ wx.cell? ⟨w.heap.size + 1,2,none⟩ = some (.int .i64 f.kind) ∧ wx.cell? ⟨w.heap.size + 1,3,none⟩ = some (.int .i64 f.ref) ∧ wx.cell? ⟨w.heap.size + 1,4,none⟩ = some (.bool f.rep) ∧ wx.cell? ⟨w.heap.size + 1,5,none⟩ = some (.int .i64 f.key) ∧ wx.cell? ⟨w.heap.size + 1,6,none⟩ = some (.int .i64 f.one)) ∧ (wx.cell? ⟨w.heap.size + 2,0,none⟩ = some (.int .i64 r.no) ∧ wx.cell? ⟨w.heap.size + 2,1,none⟩ = some (.int .i64 r.wire) ∧ wx.cell? ⟨w.heap.size + 2,2,none⟩ = some (.int .u64 r.num) ∧ wx.cell? ⟨w.heap.size + 2,3,none⟩ = some (.int .i64 r.frm) ∧ wx.cell? ⟨w.heap.size + 2,4,none⟩ = some (.int .i64 r.upto))) ∧ wx.cell? ⟨g,o + 2,none⟩ = some (.slice (some ⟨gv,0,none⟩) (rest.length + 1) cv)):=Lib.hid fun wx h=>⟨s_on (hP3.out) h,cell_on h hc92⟩
  have hwn:∀ q,w.heap.size ≤ q → q < w.heap.size + 3 → q < V3.heap.size ∧ q ≠ gv ∧ q ∉ blocks (rowsV v):=fun q h1 h2=>⟨Nat.lt_of_lt_of_le (by omega) hW3s,fun e=>hfar3 q h1 h2 (e ▸ hgvS),fun h=>hfar3 q h1 h2 (hvS q h)⟩
  have HTF:Hid (∀ (x':VL LM) wt,UpdV gv 0 x' (blocks (rowsV v)) V3.drew wt → ((wt.cell? ⟨w.heap.size,0,none⟩ = some vM ∧ wt.cell? ⟨w.heap.size,1,none⟩ = some vE ∧ wt.cell? ⟨w.heap.size,2,none⟩ = some (.slice A l.length c)) ∧ (wt.cell? ⟨w.heap.size + 1,0,none⟩ = some (.int .i64 f.no) ∧ wt.cell? ⟨w.heap.size + 1,1,none⟩ = some (.string (txt f.name)) ∧ wt.cell? ⟨w.heap.size + 1,2,none⟩ = some (.int .i64 f.kind) ∧ wt.cell? ⟨w.heap.size + 1,3,none⟩ = some (.int .i64 f.ref) ∧ wt.cell? ⟨w.heap.size + 1,4,none⟩ = some (.bool f.rep) ∧ wt.cell? ⟨w.heap.size + 1,5,none⟩ = some (.int .i64 f.key) ∧ wt.cell? ⟨w.heap.size + 1,6,none⟩ = some (.int .i64 f.one)) ∧ (wt.cell? ⟨w.heap.size + 2,0,none⟩ = some (.int .i64 r.no) ∧ wt.cell? ⟨w.heap.size + 2,1,none⟩ = some (.int .i64 r.wire) ∧ wt.cell? ⟨w.heap.size + 2,2,none⟩ = some (.int .u64 r.num) ∧ wt.cell? ⟨w.heap.size + 2,3,none⟩ = some (.int .i64 r.frm) ∧ wt.cell? ⟨w.heap.size + 2,4,none⟩ = some (.int .i64 r.upto))) ∧ wt.cell? ⟨g,o + 2,none⟩ = some (.slice (some ⟨gv,0,none⟩) (rest.length + 1) cv)):=Lib.hid fun x' wt hu=>by
   have hk:∀ q,q < V3.heap.size → q ≠ gv → q ∉ blocks (rowsV v) → wt.heap[q]? = V3.heap[q]?:=fun q h1 h2 h3=>by
    rw [hu.block q h1 h3,set_far (fun e=>h2 e.symm),set_far (fun e=>h2 e.symm),set_far (fun e=>h2 e.symm)]
    rfl
   exact ⟨s_blk hP3.out fun q h1 h2=>hk q (hwn q h1 h2).1 (hwn q h1 h2).2.1 (hwn q h1 h2).2.2,(World.cell?_of_block (hk g hgw3 hggv (fun h=>hgn3 (hvS g h)))).trans hc92⟩
  have HTK:=Lib.hid (HT f.kind f.ref r v gv 0 deep (k + 1) V3.drew hk0 hk9 (hbo3.trans (hD9.mono hbo3.size)) hgvo hgvw ⟨hAv.c0,hAv.c1,hAv.c2,hAv.froz⟩ (hLv.on hD9) hgvn (fun h9=>hful3 h9 v (by rw [hV3]; exact List.mem_cons_self ..)) hf1 hf2 hnum hK hdeep hd0)
  have HFIN:Hid (∀ (e:Ending) (w':World),_ → MPost wo s (n + 1) m (k + 1 + (r.upto - r.frm)) p x (onSlot f.no (onlyS (decM s n) f l r) (leaveL (byS s m) f (x.F.map bareS))) w e w'):=Lib.hid fun e w' h=>HEND.out e w' (take_post (K:=k + 1) (w:=V3.drew) hgw3 (AtSlo.on hA3 hD9 hgw3) (hL3.on hD9) hgn3 (by rw [hlen3]; exact hgV) hV3 (Nat.le_add_right _ _) hful3 h)
  clear hgV hAv hLv hgvn hgvS hvS hwn hA3 hL3 hgn3 hP3 hbo3 hful3 hfar3 hlen3 hgvo HEND
  go_wp2_with fail
  refine wp_region_held_drew (S:=(fun w'=>((w'.cell? ⟨w.heap.size,0,none⟩ = some vM ∧ w'.cell? ⟨w.heap.size,1,none⟩ = some vE ∧ w'.cell? ⟨w.heap.size,2,none⟩ = some (.slice A l.length c)) ∧ (w'.cell? ⟨w.heap.size + 1,0,none⟩ = some (.int .i64 f.no) ∧ w'.cell? ⟨w.heap.size + 1,1,none⟩ = some (.string (txt f.name)) ∧ w'.cell? ⟨w.heap.size + 1,2,none⟩ = some (.int .i64 f.kind) ∧ w'.cell? ⟨w.heap.size + 1,3,none⟩ = some (.int .i64 f.ref) ∧ w'.cell? ⟨w.heap.size + 1,4,none⟩ = some (.bool f.rep) ∧ w'.cell? ⟨w.heap.size + 1,5,none⟩ = some (.int .i64 f.key) ∧ w'.cell? ⟨w.heap.size + 1,6,none⟩ = some (.int .i64 f.one)) ∧ (w'.cell? ⟨w.heap.size + 2,0,none⟩ = some (.int .i64 r.no) ∧ w'.cell? ⟨w.heap.size + 2,1,none⟩ = some (.int .i64 r.wire) ∧ w'.cell? ⟨w.heap.size + 2,2,none⟩ = some (.int .u64 r.num) ∧ w'.cell? ⟨w.heap.size + 2,3,none⟩ = some (.int .i64 r.frm) ∧ w'.cell? ⟨w.heap.size + 2,4,none⟩ = some (.int .i64 r.upto))) ∧ w'.cell? ⟨g,o + 2,none⟩ = some (.slice (some ⟨gv,0,none⟩) (rest.length + 1) cv))) (by kernel_rfl) (HS6.out _ hD9) (fun hHeld=>?_)
  refine tk 0 ?_
  refine tk 1 ?_
  refine tk 2 ?_
  refine tk 3 ?_
  refine tk 4 ?_
  refine tk 5 ?_
  refine tk 6 ?_
  refine tk 7 ?_
  refine tk 8 ?_
  refine tk 9 ?_
  refine tk 10 ?_
  refine tk 11 ?_
  refine wpAnyH_ready (rs:=[12]) (by kernel_rfl) (by simp) ?_
  refine AllReadyH.cons rfl (fun K hK=>?_) AllReadyH.nil
  go_simp
  (go_at_call 198; refine HTK.out.mono ?_; rintro e wt hp)
  rcases hp with ⟨er,h1,rfl,h3⟩ | ⟨x',h1,rfl,h3,h4,h5,h6,h7⟩
  ·go_wp2_with fail
   exact ⟨rfl,HFIN.out _ _ (.inl ⟨er,h1,rfl,h3⟩)⟩
  ·have HT9:=HTF.out _ _ h3
   have HQ9:=Lib.hid (HFIN.out (.returned (.tuple #[])) _ (.inr ⟨x',h1,rfl,h3,h4,h5,h6,h7⟩))
   clear h1 h3 h4 h5 h6 h7
   go_wp2_with fail
   refine hK.out _ _ HT9 (fun hHeld=>?_)
   clear hK K
   refine wpAnyH_done (by kernel_rfl) ?_ _
   go_wp2
   go_end0
   exact HQ9.out
 ·-- the first value
  have hgV':t.gV = .slice Ag (rest.length + 1) cg:=by rw [hgV,hVc]; rfl
  have c20:V2.cell? ⟨g,o + 2,none⟩ = some (.slice Ag (rest.length + 1) cg):=by rw [← hgV']; exact hA2.c2
  have hz0:(((rest.length + 1:Nat):Int) == 0) = false:=beq_eq_false_iff_ne.2 (by omega)
  obtain ⟨t3,ht3⟩:∃ t3,t3 = t:=⟨_,rfl⟩
  obtain ⟨V3,hV3w⟩:∃ V3,V3 = V2:=⟨_,rfl⟩
  have HEND3:Hid (∀ (e:Ending) (w':World),SPost wo s n f (k + 1 + (r.upto - r.frm)) g o t3 (onlyS (decM s n) f l r (bareS t3)) V3.drew e w' → MPost wo s (n + 1) m (k + 1 + (r.upto - r.frm)) p x (onSlot f.no (onlyS (decM s n) f l r) (leaveL (byS s m) f (x.F.map bareS))) w e w'):=Lib.hid fun e w' h=>HEND.out e w' (by
   subst ht3 hV3w
   exact SPost.back (V1:=V3.drew) rfl (UpdS.idle _ hA2 (Below.refl _ _).drew) hwoV hgo (fun q hq=>(hL2.old hq).1) (fun q hq _=>hq) rfl h)
  clear HEND
  have HEND:=HEND3
  clear HEND3
  have hLm:=hL2
  obtain ⟨⟨s0',s1',s2'⟩,⟨g0',g1',g2',g3',g4',g5',g6'⟩,r0',r1',r2',r3',r4'⟩:=hP2.out
  rw [← ht3] at hVc hA2 hLm hgn2 hfull hgV' hfarS
  rw [← hV3w] at hA2 hLm hP2 hgw hboV hWs
  have hV3:=hVc
  have hA3:=hA2
  have hL3:=hLm
  have hgn3:=hgn2
  have hP3:=hP2
  have hgw3:=hgw
  have hbo3:=hboV
  have hful3:=hfull
  have hW3s:=hWs
  have hfar3:=hfarS
  have HC20:=Lib.hid c20
  clear hVc hA2 hL2 hLm hgn2 hP2 hgw hboV hfull hWs hfarS hgV' hfarG hsgv HRV0 hgV ht3
  obtain ⟨gv,cv,hgV,hgvo,hgvw,hAv,hLv,hgvn,hgvS,hvS⟩:=first_at hL3 hV3
  have hlen3:t3.V.length = rest.length + 1:=by rw [hV3]; rfl
  rw [hlen3] at hgV
  have hggv:g ≠ gv:=fun e=>hgn3 (e ▸ hgvS)
  have hc92:V3.cell? ⟨g,o + 2,none⟩ = some (.slice (some ⟨gv,0,none⟩) (rest.length + 1) cv):=by rw [← hgV]; exact hA3.c2
  have hD9:Below V3.heap.size V3 V3.drew:=(Below.refl _ _).drew
  have HS6:Hid (∀ wx,Below V3.heap.size V3 wx → ((wx.cell? ⟨w.heap.size,0,none⟩ = some vM ∧ wx.cell? ⟨w.heap.size,1,none⟩ = some vE ∧ wx.cell? ⟨w.heap.size,2,none⟩ = some (.slice A l.length c)) ∧ (wx.cell? ⟨w.heap.size + 1,0,none⟩ = some (.int .i64 f.no) ∧ wx.cell? ⟨w.heap.size + 1,1,none⟩ = some (.string (txt f.name)) ∧ wx.cell? ⟨w.heap.size + 1,2,none⟩ = some (.int .i64 f.kind) ∧ wx.cell? ⟨w.heap.size + 1,3,none⟩ = some (.int .i64 f.ref) ∧ wx.cell? ⟨w.heap.size + 1,4,none⟩ = some (.bool f.rep) ∧ wx.cell? ⟨w.heap.size + 1,5,none⟩ = some (.int .i64 f.key) ∧ wx.cell? ⟨w.heap.size + 1,6,none⟩ = some (.int .i64 f.one)) ∧ (wx.cell? ⟨w.heap.size + 2,0,none⟩ = some (.int .i64 r.no) ∧ wx.cell? ⟨w.heap.size + 2,1,none⟩ = some (.int .i64 r.wire) ∧ wx.cell? ⟨w.heap.size + 2,2,none⟩ = some (.int .u64 r.num) ∧ wx.cell? ⟨w.heap.size + 2,3,none⟩ = some (.int .i64 r.frm) ∧ wx.cell? ⟨w.heap.size + 2,4,none⟩ = some (.int .i64 r.upto))) ∧ wx.cell? ⟨g,o + 2,none⟩ = some (.slice (some ⟨gv,0,none⟩) (rest.length + 1) cv)):=Lib.hid fun wx h=>⟨s_on (hP3.out) h,cell_on h hc92⟩
  have hwn:∀ q,w.heap.size ≤ q → q < w.heap.size + 3 → q < V3.heap.size ∧ q ≠ gv ∧ q ∉ blocks (rowsV v):=fun q h1 h2=>⟨Nat.lt_of_lt_of_le (by omega) hW3s,fun e=>hfar3 q h1 h2 (e ▸ hgvS),fun h=>hfar3 q h1 h2 (hvS q h)⟩
  have HTF:Hid (∀ (x':VL LM) wt,UpdV gv 0 x' (blocks (rowsV v)) V3.drew wt → ((wt.cell? ⟨w.heap.size,0,none⟩ = some vM ∧ wt.cell? ⟨w.heap.size,1,none⟩ = some vE ∧ wt.cell? ⟨w.heap.size,2,none⟩ = some (.slice A l.length c)) ∧ (wt.cell? ⟨w.heap.size + 1,0,none⟩ = some (.int .i64 f.no) ∧ wt.cell? ⟨w.heap.size + 1,1,none⟩ = some (.string (txt f.name)) ∧ wt.cell? ⟨w.heap.size + 1,2,none⟩ = some (.int .i64 f.kind) ∧ wt.cell? ⟨w.heap.size + 1,3,none⟩ = some (.int .i64 f.ref) ∧ wt.cell? ⟨w.heap.size + 1,4,none⟩ = some (.bool f.rep) ∧ wt.cell? ⟨w.heap.size + 1,5,none⟩ = some (.int .i64 f.key) ∧ wt.cell? ⟨w.heap.size + 1,6,none⟩ = some (.int .i64 f.one)) ∧ (wt.cell? ⟨w.heap.size + 2,0,none⟩ = some (.int .i64 r.no) ∧ wt.cell? ⟨w.heap.size + 2,1,none⟩ = some (.int .i64 r.wire) ∧ wt.cell? ⟨w.heap.size + 2,2,none⟩ = some (.int .u64 r.num) ∧ wt.cell? ⟨w.heap.size + 2,3,none⟩ = some (.int .i64 r.frm) ∧ wt.cell? ⟨w.heap.size + 2,4,none⟩ = some (.int .i64 r.upto))) ∧ wt.cell? ⟨g,o + 2,none⟩ = some (.slice (some ⟨gv,0,none⟩) (rest.length + 1) cv)):=Lib.hid fun x' wt hu=>by
   have hk:∀ q,q < V3.heap.size → q ≠ gv → q ∉ blocks (rowsV v) → wt.heap[q]? = V3.heap[q]?:=fun q h1 h2 h3=>by
    rw [hu.block q h1 h3,set_far (fun e=>h2 e.symm),set_far (fun e=>h2 e.symm),set_far (fun e=>h2 e.symm)]
    rfl
   exact ⟨s_blk hP3.out fun q h1 h2=>hk q (hwn q h1 h2).1 (hwn q h1 h2).2.1 (hwn q h1 h2).2.2,(World.cell?_of_block (hk g hgw3 hggv (fun h=>hgn3 (hvS g h)))).trans hc92⟩
  have HTK:=Lib.hid (HT f.kind f.ref r v gv 0 deep (k + 1) V3.drew hk0 hk9 (hbo3.trans (hD9.mono hbo3.size)) hgvo hgvw ⟨hAv.c0,hAv.c1,hAv.c2,hAv.froz⟩ (hLv.on hD9) hgvn (fun h9=>hful3 h9 v (by rw [hV3]; exact List.mem_cons_self ..)) hf1 hf2 hnum hK hdeep hd0)
  have HFIN:Hid (∀ (e:Ending) (w':World),_ → MPost wo s (n + 1) m (k + 1 + (r.upto - r.frm)) p x (onSlot f.no (onlyS (decM s n) f l r) (leaveL (byS s m) f (x.F.map bareS))) w e w'):=Lib.hid fun e w' h=>HEND.out e w' (take_post (K:=k + 1) (w:=V3.drew) hgw3 (AtSlo.on hA3 hD9 hgw3) (hL3.on hD9) hgn3 (by rw [hlen3]; exact hgV) hV3 (Nat.le_add_right _ _) hful3 h)
  clear hgV hAv hLv hgvn hgvS hvS hwn hA3 hL3 hgn3 hP3 hbo3 hful3 hfar3 hlen3 hgvo HEND
  obtain rfl:Ag = some ⟨gv,0,none⟩:=by
   have h:=HC20.out
   rw [← hV3w] at h
   have h2:=Option.some.inj (h.symm.trans hc92)
   injection h2
  obtain rfl:cv = cg:=by
   have h:=HC20.out
   rw [← hV3w] at h
   have h2:=Option.some.inj (hc92.symm.trans h)
   injection h2
  clear HC20
  subst hV3w
  go_wp2_with fail
  refine wp_region_held_drew (S:=(fun w'=>((w'.cell? ⟨w.heap.size,0,none⟩ = some vM ∧ w'.cell? ⟨w.heap.size,1,none⟩ = some vE ∧ w'.cell? ⟨w.heap.size,2,none⟩ = some (.slice A l.length c)) ∧ (w'.cell? ⟨w.heap.size + 1,0,none⟩ = some (.int .i64 f.no) ∧ w'.cell? ⟨w.heap.size + 1,1,none⟩ = some (.string (txt f.name)) ∧ w'.cell? ⟨w.heap.size + 1,2,none⟩ = some (.int .i64 f.kind) ∧ w'.cell? ⟨w.heap.size + 1,3,none⟩ = some (.int .i64 f.ref) ∧ w'.cell? ⟨w.heap.size + 1,4,none⟩ = some (.bool f.rep) ∧ w'.cell? ⟨w.heap.size + 1,5,none⟩ = some (.int .i64 f.key) ∧ w'.cell? ⟨w.heap.size + 1,6,none⟩ = some (.int .i64 f.one)) ∧ (w'.cell? ⟨w.heap.size + 2,0,none⟩ = some (.int .i64 r.no) ∧ w'.cell? ⟨w.heap.size + 2,1,none⟩ = some (.int .i64 r.wire) ∧ w'.cell? ⟨w.heap.size + 2,2,none⟩ = some (.int .u64 r.num) ∧ w'.cell? ⟨w.heap.size + 2,3,none⟩ = some (.int .i64 r.frm) ∧ w'.cell? ⟨w.heap.size + 2,4,none⟩ = some (.int .i64 r.upto))) ∧ w'.cell? ⟨g,o + 2,none⟩ = some (.slice (some ⟨gv,0,none⟩) (rest.length + 1) cv))) (by kernel_rfl) (HS6.out _ hD9) (fun hHeld=>?_)
  refine tk 0 ?_
  refine tk 1 ?_
  refine tk 2 ?_
  refine tk 3 ?_
  refine tk 4 ?_
  refine tk 5 ?_
  refine tk 6 ?_
  refine tk 7 ?_
  refine tk 8 ?_
  refine tk 9 ?_
  refine tk 10 ?_
  refine tk 11 ?_
  refine wpAnyH_ready (rs:=[12]) (by kernel_rfl) (by simp) ?_
  refine AllReadyH.cons rfl (fun K hK=>?_) AllReadyH.nil
  go_simp
  (go_at_call 198; refine HTK.out.mono ?_; rintro e wt hp)
  rcases hp with ⟨er,h1,rfl,h3⟩ | ⟨x',h1,rfl,h3,h4,h5,h6,h7⟩
  ·go_wp2_with fail
   exact ⟨rfl,HFIN.out _ _ (.inl ⟨er,h1,rfl,h3⟩)⟩
  ·have HT9:=HTF.out _ _ h3
   have HQ9:=Lib.hid (HFIN.out (.returned (.tuple #[])) _ (.inr ⟨x',h1,rfl,h3,h4,h5,h6,h7⟩))
   clear h1 h3 h4 h5 h6 h7
   go_wp2_with fail
   refine hK.out _ _ HT9 (fun hHeld=>?_)
   clear hK K
   refine wpAnyH_done (by kernel_rfl) ?_ _
   go_wp2
   go_end0
   exact HQ9.out
structure Fr (ids:List Nat) (w w':World):Prop where
 os:w'.os = w.os
 tape:w'.tape = w.tape
 output:w'.output = w.output
 size:w.heap.size ≤ w'.heap.size
 block:∀ k,k < w.heap.size → k ∉ ids → w'.heap[k]? = w.heap[k]?
theorem Fr.refl (ids:List Nat) (w:World):Fr ids w w:=⟨rfl,rfl,rfl,Nat.le_refl _,fun _ _ _=>rfl⟩
theorem Fr.trans {ids:List Nat} {w w1 w2:World} (h:Fr ids w w1) (k:Fr ids w1 w2):Fr ids w w2 :=
 ⟨k.os.trans h.os,k.tape.trans h.tape,k.output.trans h.output,Nat.le_trans h.size k.size,fun i hi hn=>(k.block i (Nat.lt_of_lt_of_le hi h.size) hn).trans (h.block i hi hn)⟩
theorem Fr.below {ids:List Nat} {w w1 w2:World} (h:Fr ids w w1) (k:Below w1.heap.size w1 w2):Fr ids w w2 :=
 ⟨k.os.trans h.os,k.tape.trans h.tape,k.output.trans h.output,Nat.le_trans h.size k.size,fun i hi hn=>(k.block i (Nat.lt_of_lt_of_le hi h.size)).trans (h.block i hi hn)⟩
theorem Fr.grown {ids:List Nat} {w w1 w2:World} {r:Option Nat} (h:Fr ids w w1) (k:w1.grownBy w2 r) (hr:∀ i,r = some i → i < w.heap.size → i ∈ ids):Fr ids w w2 :=
 ⟨k.os.trans h.os,k.tape.trans h.tape,k.output.trans h.output,Nat.le_trans h.size k.size,fun i hi hn=>(k.block i (Nat.lt_of_lt_of_le hi h.size) (fun e=>hn (hr i e.symm hi))).trans (h.block i hi hn)⟩
theorem Fr.cell {ids:List Nat} {w w1:World} (h:Fr ids w w1) {g o:Nat} {v:Value} (hg:g < w.heap.size) (hn:g ∉ ids) (hc:w.cell? ⟨g,o,none⟩ = some v):w1.cell? ⟨g,o,none⟩ = some v:=(World.cell?_of_block (h.block g hg hn)).trans hc
theorem Fr.froz {ids:List Nat} {w w1:World} (h:Fr ids w w1) {g o:Nat} {z:Bool} (hg:g < w.heap.size) (hn:g ∉ ids) (hc:w.frozen? ⟨g,o,none⟩ = z):w1.frozen? ⟨g,o,none⟩ = z:=(froz_of (a:=⟨g,o,none⟩) (h.block g hg hn)).trans hc
def shift (a:Nat) (r:Rc):Rc:=⟨r.no,r.wire,r.num,a + r.frm,a + r.upto⟩
theorem takeV_shift {sub:Int → List UInt8 → Mg → Except Nat Mg} {kind ref:Int} {l:List UInt8} {a u:Nat} {r:Rc} {v:Vl'} (h:r.upto ≤ u - a) (hf:r.frm ≤ r.upto):takeV sub kind ref l (shift a r) v = takeV sub kind ref ((l.drop a).take (u - a)) r v:=by
 have hw:winR l (shift a r) = winR ((l.drop a).take (u - a)) r:=(winR_at l a u r h hf).symm
 unfold takeV
 rw [hw]
 rfl
theorem win_rest (l:List UInt8) (i u p:Nat):((l.drop i).take (u - i)).drop p = (l.drop (i + p)).take (u - (i + p)):=by
 rw [List.drop_take,List.drop_drop,Nat.sub_sub]
theorem win_len (l:List UInt8) {i u:Nat} (hi:i ≤ u) (hu:u ≤ l.length):((l.drop i).take (u - i)).length = u - i:=by rw [List.length_take,List.length_drop]; omega
theorem next_cases {l:List UInt8} {i u:Nat} (hi:i ≤ u) (hu:u ≤ l.length):(∃ r p,wnext ((l.drop i).take (u - i)) = (r,p,0) ∧ nextR l i u = (shift i r,i + p,0)) ∨ (∃ e:Nat,e ≠ 0 ∧ (wnext ((l.drop i).take (u - i))).2.2 = e ∧ nextR l i u = (Rc.zero,0,e)):=by
 have h:=next_win l i u hi hu
 obtain ⟨r,p,e,hw⟩:∃ r p e,wnext ((l.drop i).take (u - i)) = (r,p,e):=⟨_,_,_,rfl⟩
 rw [hw] at h ⊢
 unfold shR at h
 by_cases he:e = 0
 ·subst he
  exact .inl ⟨r,p,rfl,h⟩
 ·refine .inr ⟨e,he,rfl,?_⟩
  rw [h]
  simp only
  rw [if_neg he]
def boxV (x:VL LM):Obj:=.cells #[.int .i64 x.n,.string (tx x.s),x.g] 81 (0,0)
structure PairAt (b B K gk gv:Nat) (xk xv:VL LM) (w:World):Prop where
 ck:w.heap[gk]? = some (boxV xk)
 cv:w.heap[gv]? = some (boxV xv)
 lies:Lies b K w (rowsV xk ++ rowsV xv)
 fark:gk ∉ blocks (rowsV xk ++ rowsV xv)
 farv:gv ∉ blocks (rowsV xk ++ rowsV xv)
 new:∀ q ∈ blocks (rowsV xk ++ rowsV xv),B ≤ q
 bk:B ≤ gk
 bv:B ≤ gv
 ne:gk ≠ gv
theorem box_at {x:VL LM} {g:Nat} {w:World} (h:w.heap[g]? = some (boxV x)):AtVal g 0 x w:=by
 obtain ⟨h0,h1,h2⟩:=bx3 h
 exact ⟨h0,h1,h2,fun k=>by simp [World.frozen?,h,boxV]⟩
theorem PairAt.on {b B K gk gv:Nat} {xk xv:VL LM} {w w':World} (h:PairAt b B K gk gv xk xv w) (hb:Below w.heap.size w w'):PairAt b B K gk gv xk xv w' :=
 ⟨box_on h.ck hb,box_on h.cv hb,h.lies.on hb,h.fark,h.farv,h.new,h.bk,h.bv,h.ne⟩
theorem box_put {x x':VL LM} {g:Nat} {ids:List Nat} {w w':World} (h:w.heap[g]? = some (boxV x)) (hn:g ∉ ids) (hU:UpdV g 0 x' ids w w'):w'.heap[g]? = some (boxV x'):=by
 rw [hU.block g (box_lt h) hn,setCell_at,setCell_at,setCell_at,h]
 simp [boxV]
theorem UpdV.far {g o:Nat} {x:VL LM} {ids:List Nat} {w w':World} (h:UpdV g o x ids w w') {k:Nat} (hk:k < w.heap.size) (hn:k ∉ ids) (hg:g ≠ k):w'.heap[k]? = w.heap[k]?:=by
 rw [h.block k hk hn,set_far hg,set_far hg,set_far hg]
theorem PairAt.key {b B K K' gk gv:Nat} {xk xk' xv:VL LM} {w w':World} (h:PairAt b B K gk gv xk xv w) (hBw:B ≤ w.heap.size) (hU:UpdV gk 0 xk' (blocks (rowsV xk)) w w') (hL:Lies b K' w' (rowsV xk')) (hg:gk ∉ blocks (rowsV xk')) (hq:∀ q ∈ blocks (rowsV xk'),q < w.heap.size → q ∈ blocks (rowsV xk)) (hK:K ≤ K'):PairAt b B K' gk gv xk' xv w' ∧ Below B w w':=by
 have f1:=h.fark
 have f2:=h.farv
 rw [blocks_append,List.mem_append] at f1 f2
 have far:∀ q,q ∈ blocks (rowsV xv) → q < w.heap.size ∧ q ∉ blocks (rowsV xk) ∧ gk ≠ q:=fun q hm=>⟨(h.lies.right.old hm).2,fun h'=>h.lies.far h' hm,fun e=>f1 (.inr (e ▸ hm))⟩
 have hgvw:=box_lt h.cv
 refine ⟨⟨box_put h.ck (fun h'=>f1 (.inl h')) hU,(hU.far hgvw (fun h'=>f2 (.inl h')) h.ne).trans h.cv,?_,?_,?_,?_,h.bk,h.bv,h.ne⟩,⟨hU.os,hU.tape,hU.output,hU.size,fun q hlt=>hU.far (Nat.lt_of_lt_of_le hlt hBw) (fun h'=>by have:=h.new q (by rw [blocks_append]; exact List.mem_append_left _ h'); omega) (by have:=h.bk; omega)⟩⟩
 ·exact Lies.swap (l1:=[]) (T:=rowsV xk) h.lies hL hK (fun q hm=>hm.elim (fun h'=>by cases h') (fun h'=>hU.far (far q h').1 (far q h').2.1 (far q h').2.2)) hq
 ·rw [blocks_append,List.mem_append]
  exact fun hm=>hm.elim hg (fun h'=>f1 (.inr h'))
 ·rw [blocks_append,List.mem_append]
  exact fun hm=>hm.elim (fun h'=>f2 (.inl (hq gv h' hgvw))) (fun h'=>f2 (.inr h'))
 ·intro q hm
  rw [blocks_append,List.mem_append] at hm
  rcases hm with hm | hm
  ·by_cases hlt:q < w.heap.size
   ·exact h.new q (by rw [blocks_append]; exact List.mem_append_left _ (hq q hm hlt))
   ·omega
  ·exact h.new q (by rw [blocks_append]; exact List.mem_append_right _ hm)
theorem PairAt.val {b B K K' gk gv:Nat} {xk xv xv':VL LM} {w w':World} (h:PairAt b B K gk gv xk xv w) (hBw:B ≤ w.heap.size) (hU:UpdV gv 0 xv' (blocks (rowsV xv)) w w') (hL:Lies b K' w' (rowsV xv')) (hg:gv ∉ blocks (rowsV xv')) (hq:∀ q ∈ blocks (rowsV xv'),q < w.heap.size → q ∈ blocks (rowsV xv)) (hK:K ≤ K'):PairAt b B K' gk gv xk xv' w' ∧ Below B w w':=by
 have f1:=h.fark
 have f2:=h.farv
 rw [blocks_append,List.mem_append] at f1 f2
 have far:∀ q,q ∈ blocks (rowsV xk) → q < w.heap.size ∧ q ∉ blocks (rowsV xv) ∧ gv ≠ q:=fun q hm=>⟨(h.lies.left.old hm).2,fun h'=>h.lies.far hm h',fun e=>f2 (.inl (e ▸ hm))⟩
 have hgkw:=box_lt h.ck
 refine ⟨⟨(hU.far hgkw (fun h'=>f1 (.inr h')) (fun e=>h.ne e.symm)).trans h.ck,box_put h.cv (fun h'=>f2 (.inr h')) hU,?_,?_,?_,?_,h.bk,h.bv,h.ne⟩,⟨hU.os,hU.tape,hU.output,hU.size,fun q hlt=>hU.far (Nat.lt_of_lt_of_le hlt hBw) (fun h'=>by have:=h.new q (by rw [blocks_append]; exact List.mem_append_right _ h'); omega) (by have:=h.bv; omega)⟩⟩
 ·have h0:Lies b K w (rowsV xk ++ (rowsV xv ++ [])):=by rw [List.append_nil]; exact h.lies
  have:=Lies.swap (l1:=rowsV xk) (T:=rowsV xv) (l2:=[]) h0 hL hK (fun q hm=>hm.elim (fun h'=>hU.far (far q h').1 (far q h').2.1 (far q h').2.2) (fun h'=>by cases h')) hq
  rwa [List.append_nil] at this
 ·rw [blocks_append,List.mem_append]
  exact fun hm=>hm.elim (fun h'=>f1 (.inl h')) (fun h'=>f1 (.inr (hq gk h' hgkw)))
 ·rw [blocks_append,List.mem_append]
  exact fun hm=>hm.elim (fun h'=>f2 (.inl h')) hg
 ·intro q hm
  rw [blocks_append,List.mem_append] at hm
  rcases hm with hm | hm
  ·exact h.new q (by rw [blocks_append]; exact List.mem_append_left _ hm)
  ·by_cases hlt:q < w.heap.size
   ·exact h.new q (by rw [blocks_append]; exact List.mem_append_right _ (hq q hm hlt))
   ·omega
def rowsKV (RK RV:Rw) (t:SLo LM) (xk xv:VL LM):List Rw:=RK :: RV :: (((t.K.map rowsV).flatten ++ (t.V.map rowsV).flatten) ++ (rowsV xk ++ rowsV xv))
theorem rowsKV_start (t:SLo LM) (xk xv:VL LM):rowsKV (rwS t.gK t.K) (rwS t.gV t.V) t xk xv = rowsS t ++ (rowsV xk ++ rowsV xv):=rfl
theorem Lies.pushK {b K w8s:Nat} {w w8:World} {RK RV:Rw} {t:SLo LM} {xk xv:VL LM} {g8 c8:Nat} {xs':List Value} (h:Lies b K w (rowsKV RK RV t xk xv)) (hg:w.grownBy w8 RK.v.ownBlock) (ho:w8.ownsRow b RK.e RK.size (.slice (some ⟨g8,0,none⟩) w8s c8) w8s xs') (hat:RK.v.ownBlock = some g8 ∨ g8 = w.heap.size) (hn:w8s ≤ K):Lies b K w8 (rowsKV ⟨RK.e,RK.size,.slice (some ⟨g8,0,none⟩) w8s c8,w8s,xs'⟩ RV t xk xv) :=
 Lies.push (l1:=[]) h hg ho (hat.imp id (fun h=>by omega)) hn (Nat.le_refl _)
theorem Lies.pushV {b K w8s:Nat} {w w8:World} {RK RV:Rw} {t:SLo LM} {xk xv:VL LM} {g8 c8:Nat} {xs':List Value} (h:Lies b K w (rowsKV RK RV t xk xv)) (hg:w.grownBy w8 RV.v.ownBlock) (ho:w8.ownsRow b RV.e RV.size (.slice (some ⟨g8,0,none⟩) w8s c8) w8s xs') (hat:RV.v.ownBlock = some g8 ∨ g8 = w.heap.size) (hn:w8s ≤ K):Lies b K w8 (rowsKV RK ⟨RV.e,RV.size,.slice (some ⟨g8,0,none⟩) w8s c8,w8s,xs'⟩ t xk xv) :=
 Lies.push (l1:=[RK]) h hg ho (hat.imp id (fun h=>by omega)) hn (Nat.le_refl _)
theorem perm4 {α:Type} (a b c d:List α):((a ++ b) ++ (c ++ d)).Perm ((a ++ c) ++ (b ++ d)):=by
 rw [List.append_assoc,List.append_assoc]
 refine List.Perm.append_left a ?_
 rw [← List.append_assoc,← List.append_assoc]
 exact List.Perm.append_right d List.perm_append_comm
theorem pair_post {wo:World} {s:Sc} {n:Nat} {f:Df} {K g o gK8 cK8 gV8 cV8:Nat} {w w8:World} {t:SLo LM} {xk xv:VL LM} {D:Except Nat So} (hgw:g < w.heap.size) (hA:AtSlo g o t w) (hLt:Lies wo.heap.size K w (rowsS t)) (hgn:g ∉ blocks (rowsS t)) (hfr:Fr (blocks (rowsS t)) w w8) (hnew:∀ q ∈ blocks (rowsV xk ++ rowsV xv),w.heap.size ≤ q)
  (hK8:t.gK.ownBlock = some gK8 ∨ w.heap.size ≤ gK8) (hV8:t.gV.ownBlock = some gV8 ∨ w.heap.size ≤ gV8)
  (hL:Lies wo.heap.size K w8 (rowsKV ⟨81,3,.slice (some ⟨gK8,0,none⟩) (t.K.length + 1) cK8,t.K.length + 1,t.K.flatMap cV' ++ cV' xk⟩ ⟨81,3,.slice (some ⟨gV8,0,none⟩) (t.V.length + 1) cV8,t.V.length + 1,t.V.flatMap cV' ++ cV' xv⟩ t xk xv))
  (hful:f.kind = 9 → ∀ v ∈ t.V,∃ y,v.M = [y] ∧ Full s n f.ref y) (hfv:f.kind = 9 → ∃ y,xv.M = [y] ∧ Full s n f.ref y) (hD:D = .ok ⟨t.no,t.K.map bareV ++ [bareV xk],t.V.map bareV ++ [bareV xv]⟩) :
  SPost wo s n f K g o t D w (.returned (.tuple #[])) ((w8.setCell ⟨g,o + 1,none⟩ (.slice (some ⟨gK8,0,none⟩) (t.K.length + 1) cK8)).setCell ⟨g,o + 2,none⟩ (.slice (some ⟨gV8,0,none⟩) (t.V.length + 1) cV8)):=by
 obtain ⟨t',ht'⟩:∃ t':SLo LM,t' = ⟨t.no,.slice (some ⟨gK8,0,none⟩) (t.K.length + 1) cK8,t.K ++ [xk],.slice (some ⟨gV8,0,none⟩) (t.V.length + 1) cV8,t.V ++ [xv]⟩:=⟨_,rfl⟩
 have hR:(rowsKV ⟨81,3,.slice (some ⟨gK8,0,none⟩) (t.K.length + 1) cK8,t.K.length + 1,t.K.flatMap cV' ++ cV' xk⟩ ⟨81,3,.slice (some ⟨gV8,0,none⟩) (t.V.length + 1) cV8,t.V.length + 1,t.V.flatMap cV' ++ cV' xv⟩ t xk xv).Perm (rowsS t'):=by
  rw [ht',rowsS_eq]
  unfold rowsKV rwS
  simp only [List.map_append,List.flatten_append,List.length_append,List.flatMap_append,List.map_cons,List.map_nil,List.flatten_cons,List.flatten_nil,List.append_nil,List.flatMap_cons,List.flatMap_nil,List.length_cons,List.length_nil,Nat.zero_add]
  exact (perm4 _ _ _ _).cons _ |>.cons _
 have hL':=hL.perm hR
 have hold:∀ q ∈ blocks (rowsS t'),q < w.heap.size → q ∈ blocks (rowsS t):=fun q hq hlt=>by
  rw [← blocks_perm hR] at hq
  unfold rowsKV at hq
  rw [blocks_of,blocks_of,blocks_append,List.mem_append] at hq
  rw [rowsS_eq,blocks_of,blocks_of]
  rcases hq with h | h | h | h
  ·have h:gK8 = q:=Option.some.inj h
   rcases hK8 with e | e
   ·exact .inl (by show t.gK.ownBlock = _; rw [e,h])
   ·omega
  ·have h:gV8 = q:=Option.some.inj h
   rcases hV8 with e | e
   ·exact .inr (.inl (by show t.gV.ownBlock = _; rw [e,h]))
   ·omega
  ·exact .inr (.inr h)
  ·have:=hnew q h; omega
 have hg':g ∉ blocks (rowsS t'):=fun h=>hgn (hold g h hgw)
 refine .inr ⟨t',?_,by rw [ht'],rfl,⟨hfr.os,hfr.tape,hfr.output,by rw [set_size,set_size]; exact hfr.size,fun q hq hn=>?_⟩,?_,hg',hold,fun h9 v hv=>?_⟩
 ·rw [hD,ht']
  unfold bareS
  simp only [List.map_append,List.map_cons,List.map_nil]
 ·rw [ht']
  exact setCell_same (setCell_same (hfr.block q hq hn) _ _) _ _
 ·exact hL'.kept fun q hq=>by
   have hne:g ≠ q:=fun e=>hg' (e ▸ hq)
   rw [set_far hne,set_far hne]
 ·rw [ht'] at hv
  rcases List.mem_append.1 hv with hv | hv
  ·exact hful h9 v hv
  ·obtain rfl:=List.mem_singleton.1 hv
   exact hfv h9
end Go.Proofs.YtckcojkpghiclaaGreatDoor.T11
