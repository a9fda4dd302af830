/-
 entry,of any slot of one's own.
-/
import Derived.Test.YtckcojkpghiclaaGreatDoorDecPair
namespace Go.Proofs.YtckcojkpghiclaaGreatDoor.T11
set_option maxRecDepth 100000
open Go.RowKit
open Go.Proofs.YtckcojkpghiclaaGreatDoor.T9 Go.Proofs.YtckcojkpghiclaaGreatDoor.T4
theorem onceV {P:Value → Value → Value → Prop} {G:Prop} (f:Hid (∀ a b c,P a b c) → G) (h:∀ a b c,P a b c):G:=f (Lib.hid h)
set_option maxRecDepth 1000000 in
set_option maxHeartbeats 8000000 in
theorem entryL {wo:World} {s:Sc} {vM vE:Value} {A:Option Addr} {c:Nat} {l:List UInt8} {K n:Nat} (HT:TakeH wo s vM vE A c l K n) (hr0:SlB wo A c l) (hl:l.length ≤ 1000000000) (TW:Wires wo) (f:Df) (r:Rc) (g o:Nat) (t:SLo LM) (k:Nat) (deep:Int) (w:World) (h9:f.kind ≠ 9 ∨ f.kind = 9 ∧ 1 ≤ n) (hw2:r.wire = 2) (hy0:0 ≤ f.key) (hy9:f.key ≤ 9) (hyn:f.key ≠ 9) (hk0:0 ≤ f.kind) (hk9:f.kind ≤ 9) (hbo:Below wo.heap.size wo w) (hgo:wo.heap.size ≤ g) (hgw:g < w.heap.size) (ho9:o ≤ 3000000000) (hA:AtSlo g o t w) (hL:Lies wo.heap.size k w (rowsS t)) (hgn:g ∉ blocks (rowsS t)) (hful:f.kind = 9 → ∀ v ∈ t.V,∃ y,v.M = [y] ∧ Full s n f.ref y) (hf1:r.frm ≤ r.upto) (hf2:r.upto ≤ l.length) (hK:k + 1 + (r.upto - r.frm) ≤ K) (hKK:K ≤ 1000000000) (hdeep:deep + n = 64) (hd0:0 ≤ deep) :
  Calls Tryz.prog 148 #[.agg #[vM,vE,.slice A l.length c],.pointer (some ⟨g,o,none⟩),.agg #[.int .i64 f.no,.string (txt f.name),.int .i64 f.kind,.int .i64 f.ref,.bool f.rep,.int .i64 f.key,.int .i64 f.one],RV r,.int .i64 deep] w fun e w'=>SPost wo s n f (k + 1 + (r.upto - r.frm)) g o t (entryS n (decM s n) f l r (bareS t)) w e w':=by
 obtain ⟨j0,hj,hyz0,hyz1,hyz2⟩:=info_parts T9.info_val
 have hRV:RV r = .agg #[.int .i64 r.no,.int .i64 r.wire,.int .u64 r.num,.int .i64 r.frm,.int .i64 r.upto]:=rfl
 rw [hRV]
 obtain ⟨T1,T2,T3,L3⟩:=three_boxes w (.cells #[vM,vE,.slice A l.length c] 113) (dC f) (.cells #[.int .i64 r.no,.int .i64 r.wire,.int .u64 r.num,.int .i64 r.frm,.int .i64 r.upto] 41)
 obtain ⟨g0,g1,g2,g3,g4,g5,g6⟩:=dc_cells T2
 obtain ⟨s0,s1,s2⟩:=bx3 T1
 obtain ⟨r0,r1,r2,r3,r4⟩:=heap_cells T3
 obtain ⟨W3,hW3⟩:∃ W,W = (((w.alloc (.cells #[vM,vE,.slice A l.length c] 113)).alloc (dC f)).alloc (.cells #[.int .i64 r.no,.int .i64 r.wire,.int .u64 r.num,.int .i64 r.frm,.int .i64 r.upto] 41)):=⟨_,rfl⟩
 have hs3:W3.heap.size = w.heap.size + 3:=by rw [hW3]; simp
 rw [← hW3] at T1 T2 T3 L3
 have hPW:=Lib.hid (show (W3.cell? ⟨w.heap.size,0,none⟩ = some vM ∧ W3.cell? ⟨w.heap.size,1,none⟩ = some vE ∧ W3.cell? ⟨w.heap.size,2,none⟩ = some (.slice A l.length c)) ∧ (W3.cell? ⟨w.heap.size + 1,0,none⟩ = some (.int .i64 f.no) ∧ W3.cell? ⟨w.heap.size + 1,1,none⟩ = some (.string (txt f.name)) ∧ W3.cell? ⟨w.heap.size + 1,2,none⟩ = some (.int .i64 f.kind) ∧ W3.cell? ⟨w.heap.size + 1,3,none⟩ = some (.int .i64 f.ref) ∧ W3.cell? ⟨w.heap.size + 1,4,none⟩ = some (.bool f.rep) ∧ W3.cell? ⟨w.heap.size + 1,5,none⟩ = some (.int .i64 f.key) ∧ W3.cell? ⟨w.heap.size + 1,6,none⟩ = some (.int .i64 f.one)) ∧ (W3.cell? ⟨w.heap.size + 2,0,none⟩ = some (.int .i64 r.no) ∧ W3.cell? ⟨w.heap.size + 2,1,none⟩ = some (.int .i64 r.wire) ∧ W3.cell? ⟨w.heap.size + 2,2,none⟩ = some (.int .u64 r.num) ∧ W3.cell? ⟨w.heap.size + 2,3,none⟩ = some (.int .i64 r.frm) ∧ W3.cell? ⟨w.heap.size + 2,4,none⟩ = some (.int .i64 r.upto)) from ⟨bx3 T1,dc_cells T2,heap_cells T3⟩)
 have hwo:=hbo.size
 have hbo3:=below_then hbo L3
 have bw:(((r.wire:Nat):Int) == 2) = true:=by rw [hw2]; rfl
 have HPX:Hid (∀ wx,Below W3.heap.size W3 wx → (wx.cell? ⟨w.heap.size,0,none⟩ = some vM ∧ wx.cell? ⟨w.heap.size,1,none⟩ = some vE ∧ wx.cell? ⟨w.heap.size,2,none⟩ = some (.slice A l.length c)) ∧ (wx.cell? ⟨w.heap.size + 1,0,none⟩ = some (.int .i64 f.no) ∧ wx.cell? ⟨w.heap.size + 1,1,none⟩ = some (.string (txt f.name)) ∧ wx.cell? ⟨w.heap.size + 1,2,none⟩ = some (.int .i64 f.kind) ∧ wx.cell? ⟨w.heap.size + 1,3,none⟩ = some (.int .i64 f.ref) ∧ wx.cell? ⟨w.heap.size + 1,4,none⟩ = some (.bool f.rep) ∧ wx.cell? ⟨w.heap.size + 1,5,none⟩ = some (.int .i64 f.key) ∧ wx.cell? ⟨w.heap.size + 1,6,none⟩ = some (.int .i64 f.one)) ∧ (wx.cell? ⟨w.heap.size + 2,0,none⟩ = some (.int .i64 r.no) ∧ wx.cell? ⟨w.heap.size + 2,1,none⟩ = some (.int .i64 r.wire) ∧ wx.cell? ⟨w.heap.size + 2,2,none⟩ = some (.int .u64 r.num) ∧ wx.cell? ⟨w.heap.size + 2,3,none⟩ = some (.int .i64 r.frm) ∧ wx.cell? ⟨w.heap.size + 2,4,none⟩ = some (.int .i64 r.upto))):=Lib.hid fun wx h=>s_on hPW.out h
 have HSX:Hid (∀ wx,Below W3.heap.size W3 wx → wx.cell? ⟨w.heap.size + 1,0,none⟩ = some (.int .i64 f.no) ∧ wx.cell? ⟨w.heap.size + 1,1,none⟩ = some (.string (txt f.name)) ∧ wx.cell? ⟨w.heap.size + 1,2,none⟩ = some (.int .i64 f.kind) ∧ wx.cell? ⟨w.heap.size + 1,3,none⟩ = some (.int .i64 f.ref) ∧ wx.cell? ⟨w.heap.size + 1,4,none⟩ = some (.bool f.rep) ∧ wx.cell? ⟨w.heap.size + 1,5,none⟩ = some (.int .i64 f.key) ∧ wx.cell? ⟨w.heap.size + 1,6,none⟩ = some (.int .i64 f.one)):=Lib.hid fun wx h=>(s_on hPW.out h).2.1
 have HSB:Hid (∀ (wa wx:World),Below W3.heap.size W3 wa → (∀ q,q < W3.heap.size → wx.heap[q]? = wa.heap[q]?) → wx.cell? ⟨w.heap.size + 1,0,none⟩ = some (.int .i64 f.no) ∧ wx.cell? ⟨w.heap.size + 1,1,none⟩ = some (.string (txt f.name)) ∧ wx.cell? ⟨w.heap.size + 1,2,none⟩ = some (.int .i64 f.kind) ∧ wx.cell? ⟨w.heap.size + 1,3,none⟩ = some (.int .i64 f.ref) ∧ wx.cell? ⟨w.heap.size + 1,4,none⟩ = some (.bool f.rep) ∧ wx.cell? ⟨w.heap.size + 1,5,none⟩ = some (.int .i64 f.key) ∧ wx.cell? ⟨w.heap.size + 1,6,none⟩ = some (.int .i64 f.one)):=Lib.hid fun wa wx h hk=>(s_blk (s_on hPW.out h) (fun q h1 h2=>hk q (by omega))).2.1
 have HAS:=Lib.hid (And.intro hA (And.intro hL (And.intro hgn hful)))
 have HDD:Hid (entryS n (decM s n) f l r (bareS t) = mapE (fun p=>⟨t.no,t.K.map bareV ++ [p.1],t.V.map bareV ++ [p.2]⟩) (decR (pairD (decM s n) f) (winR l r) (blankV f.key,blankV f.kind)) ∧ True):=Lib.hid ⟨by unfold entryS; rw [if_neg (by rw [hw2]; decide),if_neg (by rintro ⟨h1,h2⟩; rcases h9 with h9 | h9; exact h9 h1; omega)]; rfl,trivial⟩
 clear T1 T2 T3 hA hL hgn hful hPW hw2
 go_enter Tryz.func148,Tryz.ntmps148
 go_wp2_with fail
 rw [← hW3]
 clear hW3 g0 g1 g2 g3 g4 g5 g6 s0 s1 s2 r0 r1 r2 r3 r4
 refine (must_yes _ _).mono ?_
 rintro e w1 ⟨rfl,hw1⟩
 subst w1
 obtain ⟨⟨s0',s1',s2'⟩,⟨g0',g1',g2',g3',g4',g5',g6'⟩,r0',r1',r2',r3',r4'⟩:=HPX.out _ (Below.refl _ _)
 apply onceV
 ·intro HG9
  have h9c:=h9
  rcases h9c with h9d | ⟨h9d,hn⟩
  ·have b9:(f.kind == 9) = false:=by simpa using h9d
   go_wp2_with fail
   obtain ⟨z1,hz1⟩:∃ z,z = Value.bool false:=⟨_,rfl⟩
   obtain ⟨z2,hz2⟩:∃ z:Value,z = undef:=⟨_,rfl⟩
   conv in (Value.bool false)=>rw [← hz1]
   obtain ⟨z3,hz3⟩:∃ z:Value,z = undef:=⟨_,rfl⟩
   conv in (occs:=9) undef=>rw [← hz2]
   conv in (occs:=9) undef=>rw [← hz3]
   rename_i KK hKK
   revert hKK; revert KK
   exact HG9.out z1 z2 z3
  ·have b9:(f.kind == 9) = true:=by rw [h9d]; rfl
   go_wp2_with fail
   refine (deeper_yes deep hd0 (by omega) _).mono ?_
   rintro e w1 ⟨rfl,hw1⟩
   subst w1
   go_wp2_with fail
   conv in (Value.int IntKind.i64 9)=>rw [← h9d]
   conv in (Value.int IntKind.i64 9)=>rw [← h9d]
   rename_i KK hKK
   revert hKK; revert KK
   exact HG9.out (.bool true) (.int .i64 deep) (.int .i64 (deep + 1))
 intro z1 z2 z3 KK hKK
 apply once
 ·intro HGO
  apply once
  ·intro HGa1c1c2
   apply once
   ·intro HGa2c1c2
    apply once
    ·intro HGc1c2
     apply once
     ·intro HGa1a2c1
      apply once
      ·intro HGa1c1
       apply once
       ·intro HGa2c1
        apply once
        ·intro HGc1
         apply once
         ·intro HGa1a2
          apply once
          ·intro HGa1
           apply once
           ·intro HGa2
            refine wp_region_held_drew (S:=(fun wx=>wx.cell? ⟨w.heap.size + 1,0,none⟩ = some (.int .i64 f.no) ∧ wx.cell? ⟨w.heap.size + 1,1,none⟩ = some (.string (txt f.name)) ∧ wx.cell? ⟨w.heap.size + 1,2,none⟩ = some (.int .i64 f.kind) ∧ wx.cell? ⟨w.heap.size + 1,3,none⟩ = some (.int .i64 f.ref) ∧ wx.cell? ⟨w.heap.size + 1,4,none⟩ = some (.bool f.rep) ∧ wx.cell? ⟨w.heap.size + 1,5,none⟩ = some (.int .i64 f.key) ∧ wx.cell? ⟨w.heap.size + 1,6,none⟩ = some (.int .i64 f.one))) (by kernel_rfl) (HSX.out _ (Below.refl _ _).drew) (fun hHeld=>?_)
            refine tk 0 ?_
            refine tk 1 ?_
            refine tk 3 ?_
            refine tk 4 ?_
            obtain ⟨x0,hx0⟩:∃ x,x = W3.drew:=⟨_,rfl⟩
            rw [← hx0]
            have hB:Hid (Below W3.heap.size W3 x0):=Lib.hid (by rw [hx0]; exact (Below.refl _ _).drew)
            clear hx0
            refine wpAnyH_ready (rs:=[2,6,7]) (by kernel_rfl) (by simp) ?_
            refine AllReadyH.cons rfl (fun K hK=>?_) (AllReadyH.cons rfl (fun K hK=>?_) (AllReadyH.cons rfl (fun K hK=>?_) AllReadyH.nil))
            ·go_simp
             (go_at_call 197; refine (blank_any f.key _).mono ?_; rintro e x1 ⟨⟨kn,ks,xg,kM⟩,rfl,hkb,hkL,hkM,hkB⟩)
             obtain ⟨Ak,ck,hxg,-⟩:=Sl.of_own (hkL.own (rwV ⟨kn,ks,xg,kM⟩) (List.mem_cons_self ..)).1
             obtain ⟨nk,hnk⟩:∃ q,(rwV (⟨kn,ks,xg,kM⟩:VL LM)).n = q:=⟨_,rfl⟩
             rw [hnk] at hxg
             obtain rfl:xg = .slice Ak nk ck:=hxg
             clear hnk
             have hBn:=hB.out.trans (hkB.mono hB.out.size)
             have hkL2:Lies W3.heap.size 1 x1 (rowsV (⟨kn,ks,.slice Ak nk ck,kM⟩:VL LM)):=⟨fun q hq=>⟨own_less2 (hkL.own q hq).1 hB.out.size,(hkL.own q hq).2⟩,hkL.apart⟩
             have hkN:∀ q ∈ blocks (rowsV (⟨kn,ks,.slice Ak nk ck,kM⟩:VL LM)),x0.heap.size ≤ q:=fun q hq=>(hkL.old hq).1
             have Hc1:=Lib.hid (And.intro hkb hkM)
             have HRn:Hid (Lies W3.heap.size 1 x1 (rowsV (⟨kn,ks,.slice Ak nk ck,kM⟩:VL LM))):=Lib.hid hkL2
             go_wp2_with fail
             clear hHeld
             refine hK.out _ _ (HSX.out _ hBn) (fun hHeld=>?_)
             clear hK K
             have hBm:=Lib.hid hBn
             clear hB hkB hBn hkb hkL hkM hkL2 hkN
             have hB:=hBm
             clear hBm
             have HR:=HRn
             clear HRn
             clear hHeld
             revert Hc1; revert HR; revert hB; revert x1; revert kM; revert ck; revert nk; revert Ak; revert ks; revert kn
             exact HGc1.out
            ·go_simp
             have hBa:=below_new x0 (.cells #[.int .i64 0,.string ⟨#[]⟩,.slice none 0 0] 81)
             have hBn:=hB.out.trans (hBa.mono hB.out.size)
             clear hHeld
             refine hK.out _ _ (HSX.out _ hBn) (fun hHeld=>?_)
             clear hK K
             obtain ⟨gk,hgk⟩:∃ q,q = x0.heap.size:=⟨_,rfl⟩
             obtain ⟨x1,hx1⟩:∃ q,q = x0.alloc (.cells #[.int .i64 0,.string ⟨#[]⟩,.slice none 0 0] 81):=⟨_,rfl⟩
             rw [← hgk,← hx1]
             rw [← hx1] at hBa hBn hHeld
             have hsN:x1.heap.size = x0.heap.size + 1:=by rw [hx1]; simp
             have HGKn:Hid (x1.heap[gk]? = some (.cells #[.int .i64 0,.string ⟨#[]⟩,.slice none 0 0] 81) ∧ gk ∉ blocks ([]:List Rw) ∧ W3.heap.size ≤ gk ∧ gk < x1.heap.size):=Lib.hid ⟨by rw [hx1,hgk]; exact heap_alloc_new _ _,(by exact fun h=>by cases h),by have:=hB.out.size; omega,by omega⟩
             have hBm:=Lib.hid hBn
             clear hB hBa hBn hsN hgk hx1
             have hB:=hBm
             clear hBm
             have HGK:=HGKn
             clear HGKn
             clear hHeld
             revert HGK; revert hB; revert x1; revert gk
             exact HGa1.out
            ·go_simp
             have hBa:=below_new x0 (.cells #[.int .i64 0,.string ⟨#[]⟩,.slice none 0 0] 81)
             have hBn:=hB.out.trans (hBa.mono hB.out.size)
             clear hHeld
             refine hK.out _ _ (HSX.out _ hBn) (fun hHeld=>?_)
             clear hK K
             obtain ⟨gv,hgv⟩:∃ q,q = x0.heap.size:=⟨_,rfl⟩
             obtain ⟨x1,hx1⟩:∃ q,q = x0.alloc (.cells #[.int .i64 0,.string ⟨#[]⟩,.slice none 0 0] 81):=⟨_,rfl⟩
             rw [← hgv,← hx1]
             rw [← hx1] at hBa hBn hHeld
             have hsN:x1.heap.size = x0.heap.size + 1:=by rw [hx1]; simp
             have HGVn:Hid (x1.heap[gv]? = some (.cells #[.int .i64 0,.string ⟨#[]⟩,.slice none 0 0] 81) ∧ gv ∉ blocks ([]:List Rw) ∧ W3.heap.size ≤ gv ∧ gv < x1.heap.size):=Lib.hid ⟨by rw [hx1,hgv]; exact heap_alloc_new _ _,(by exact fun h=>by cases h),by have:=hB.out.size; omega,by omega⟩
             have hBm:=Lib.hid hBn
             clear hB hBa hBn hsN hgv hx1
             have hB:=hBm
             clear hBm
             have HGV:=HGVn
             clear HGVn
             clear hHeld
             revert HGV; revert hB; revert x1; revert gv
             exact HGa2.out
           ·intro gv x0 hB HGV
            have hHeld:=HSX.out _ hB.out
            refine wpAnyH_ready (rs:=[2,6]) (by kernel_rfl) (by simp) ?_
            refine AllReadyH.cons rfl (fun K hK=>?_) (AllReadyH.cons rfl (fun K hK=>?_) AllReadyH.nil)
            ·go_simp
             (go_at_call 197; refine (blank_any f.key _).mono ?_; rintro e x1 ⟨⟨kn,ks,xg,kM⟩,rfl,hkb,hkL,hkM,hkB⟩)
             obtain ⟨Ak,ck,hxg,-⟩:=Sl.of_own (hkL.own (rwV ⟨kn,ks,xg,kM⟩) (List.mem_cons_self ..)).1
             obtain ⟨nk,hnk⟩:∃ q,(rwV (⟨kn,ks,xg,kM⟩:VL LM)).n = q:=⟨_,rfl⟩
             rw [hnk] at hxg
             obtain rfl:xg = .slice Ak nk ck:=hxg
             clear hnk
             have hBn:=hB.out.trans (hkB.mono hB.out.size)
             have hkL2:Lies W3.heap.size 1 x1 (rowsV (⟨kn,ks,.slice Ak nk ck,kM⟩:VL LM)):=⟨fun q hq=>⟨own_less2 (hkL.own q hq).1 hB.out.size,(hkL.own q hq).2⟩,hkL.apart⟩
             have hkN:∀ q ∈ blocks (rowsV (⟨kn,ks,.slice Ak nk ck,kM⟩:VL LM)),x0.heap.size ≤ q:=fun q hq=>(hkL.old hq).1
             have Hc1:=Lib.hid (And.intro hkb hkM)
             have HRn:Hid (Lies W3.heap.size 1 x1 (rowsV (⟨kn,ks,.slice Ak nk ck,kM⟩:VL LM))):=Lib.hid hkL2
             have HGVn:Hid (x1.heap[gv]? = some (.cells #[.int .i64 0,.string ⟨#[]⟩,.slice none 0 0] 81) ∧ gv ∉ blocks (rowsV (⟨kn,ks,.slice Ak nk ck,kM⟩:VL LM)) ∧ W3.heap.size ≤ gv ∧ gv < x1.heap.size):=Lib.hid (by have h0:=HGV.out.2.2.2; exact ⟨(hkB.block _ h0).trans HGV.out.1,(by exact fun h=>by have h2:=hkN _ h; omega),HGV.out.2.2.1,Nat.lt_of_lt_of_le h0 hkB.size⟩)
             go_wp2_with fail
             clear hHeld
             refine hK.out _ _ (HSX.out _ hBn) (fun hHeld=>?_)
             clear hK K
             have hBm:=Lib.hid hBn
             clear hB hkB hBn hkb hkL hkM hkL2 hkN HGV
             have hB:=hBm
             clear hBm
             have HR:=HRn
             clear HRn
             have HGV:=HGVn
             clear HGVn
             clear hHeld
             revert HGV; revert Hc1; revert HR; revert hB; revert x1; revert gv; revert kM; revert ck; revert nk; revert Ak; revert ks; revert kn
             exact HGa2c1.out
            ·go_simp
             have hBa:=below_new x0 (.cells #[.int .i64 0,.string ⟨#[]⟩,.slice none 0 0] 81)
             have hBn:=hB.out.trans (hBa.mono hB.out.size)
             clear hHeld
             refine hK.out _ _ (HSX.out _ hBn) (fun hHeld=>?_)
             clear hK K
             obtain ⟨gk,hgk⟩:∃ q,q = x0.heap.size:=⟨_,rfl⟩
             obtain ⟨x1,hx1⟩:∃ q,q = x0.alloc (.cells #[.int .i64 0,.string ⟨#[]⟩,.slice none 0 0] 81):=⟨_,rfl⟩
             rw [← hgk,← hx1]
             rw [← hx1] at hBa hBn hHeld
             have hsN:x1.heap.size = x0.heap.size + 1:=by rw [hx1]; simp
             have HGKn:Hid (x1.heap[gk]? = some (.cells #[.int .i64 0,.string ⟨#[]⟩,.slice none 0 0] 81) ∧ gk ∉ blocks ([]:List Rw) ∧ W3.heap.size ≤ gk ∧ gk < x1.heap.size):=Lib.hid ⟨by rw [hx1,hgk]; exact heap_alloc_new _ _,(by exact fun h=>by cases h),by have:=hB.out.size; omega,by omega⟩
             have HGVn:Hid (x1.heap[gv]? = some (.cells #[.int .i64 0,.string ⟨#[]⟩,.slice none 0 0] 81) ∧ gv ∉ blocks ([]:List Rw) ∧ W3.heap.size ≤ gv ∧ gv < x1.heap.size):=Lib.hid (by have h0:=HGV.out.2.2.2; exact ⟨(hBa.block _ h0).trans HGV.out.1,HGV.out.2.1,HGV.out.2.2.1,Nat.lt_of_lt_of_le h0 hBa.size⟩)
             have HNE:Hid (gk ≠ gv):=Lib.hid (by have h0:=HGV.out.2.2.2; omega)
             have hBm:=Lib.hid hBn
             clear hB hBa hBn hsN hgk hx1 HGV
             have hB:=hBm
             clear hBm
             have HGK:=HGKn
             clear HGKn
             have HGV:=HGVn
             clear HGVn
             clear hHeld
             revert HNE; revert HGV; revert HGK; revert hB; revert x1; revert gv; revert gk
             exact HGa1a2.out
          ·intro gk x0 hB HGK
           have hHeld:=HSX.out _ hB.out
           refine wpAnyH_ready (rs:=[2,7]) (by kernel_rfl) (by simp) ?_
           refine AllReadyH.cons rfl (fun K hK=>?_) (AllReadyH.cons rfl (fun K hK=>?_) AllReadyH.nil)
           ·go_simp
            (go_at_call 197; refine (blank_any f.key _).mono ?_; rintro e x1 ⟨⟨kn,ks,xg,kM⟩,rfl,hkb,hkL,hkM,hkB⟩)
            obtain ⟨Ak,ck,hxg,-⟩:=Sl.of_own (hkL.own (rwV ⟨kn,ks,xg,kM⟩) (List.mem_cons_self ..)).1
            obtain ⟨nk,hnk⟩:∃ q,(rwV (⟨kn,ks,xg,kM⟩:VL LM)).n = q:=⟨_,rfl⟩
            rw [hnk] at hxg
            obtain rfl:xg = .slice Ak nk ck:=hxg
            clear hnk
            have hBn:=hB.out.trans (hkB.mono hB.out.size)
            have hkL2:Lies W3.heap.size 1 x1 (rowsV (⟨kn,ks,.slice Ak nk ck,kM⟩:VL LM)):=⟨fun q hq=>⟨own_less2 (hkL.own q hq).1 hB.out.size,(hkL.own q hq).2⟩,hkL.apart⟩
            have hkN:∀ q ∈ blocks (rowsV (⟨kn,ks,.slice Ak nk ck,kM⟩:VL LM)),x0.heap.size ≤ q:=fun q hq=>(hkL.old hq).1
            have Hc1:=Lib.hid (And.intro hkb hkM)
            have HRn:Hid (Lies W3.heap.size 1 x1 (rowsV (⟨kn,ks,.slice Ak nk ck,kM⟩:VL LM))):=Lib.hid hkL2
            have HGKn:Hid (x1.heap[gk]? = some (.cells #[.int .i64 0,.string ⟨#[]⟩,.slice none 0 0] 81) ∧ gk ∉ blocks (rowsV (⟨kn,ks,.slice Ak nk ck,kM⟩:VL LM)) ∧ W3.heap.size ≤ gk ∧ gk < x1.heap.size):=Lib.hid (by have h0:=HGK.out.2.2.2; exact ⟨(hkB.block _ h0).trans HGK.out.1,(by exact fun h=>by have h2:=hkN _ h; omega),HGK.out.2.2.1,Nat.lt_of_lt_of_le h0 hkB.size⟩)
            go_wp2_with fail
            clear hHeld
            refine hK.out _ _ (HSX.out _ hBn) (fun hHeld=>?_)
            clear hK K
            have hBm:=Lib.hid hBn
            clear hB hkB hBn hkb hkL hkM hkL2 hkN HGK
            have hB:=hBm
            clear hBm
            have HR:=HRn
            clear HRn
            have HGK:=HGKn
            clear HGKn
            clear hHeld
            revert HGK; revert Hc1; revert HR; revert hB; revert x1; revert gk; revert kM; revert ck; revert nk; revert Ak; revert ks; revert kn
            exact HGa1c1.out
           ·go_simp
            have hBa:=below_new x0 (.cells #[.int .i64 0,.string ⟨#[]⟩,.slice none 0 0] 81)
            have hBn:=hB.out.trans (hBa.mono hB.out.size)
            clear hHeld
            refine hK.out _ _ (HSX.out _ hBn) (fun hHeld=>?_)
            clear hK K
            obtain ⟨gv,hgv⟩:∃ q,q = x0.heap.size:=⟨_,rfl⟩
            obtain ⟨x1,hx1⟩:∃ q,q = x0.alloc (.cells #[.int .i64 0,.string ⟨#[]⟩,.slice none 0 0] 81):=⟨_,rfl⟩
            rw [← hgv,← hx1]
            rw [← hx1] at hBa hBn hHeld
            have hsN:x1.heap.size = x0.heap.size + 1:=by rw [hx1]; simp
            have HGVn:Hid (x1.heap[gv]? = some (.cells #[.int .i64 0,.string ⟨#[]⟩,.slice none 0 0] 81) ∧ gv ∉ blocks ([]:List Rw) ∧ W3.heap.size ≤ gv ∧ gv < x1.heap.size):=Lib.hid ⟨by rw [hx1,hgv]; exact heap_alloc_new _ _,(by exact fun h=>by cases h),by have:=hB.out.size; omega,by omega⟩
            have HGKn:Hid (x1.heap[gk]? = some (.cells #[.int .i64 0,.string ⟨#[]⟩,.slice none 0 0] 81) ∧ gk ∉ blocks ([]:List Rw) ∧ W3.heap.size ≤ gk ∧ gk < x1.heap.size):=Lib.hid (by have h0:=HGK.out.2.2.2; exact ⟨(hBa.block _ h0).trans HGK.out.1,HGK.out.2.1,HGK.out.2.2.1,Nat.lt_of_lt_of_le h0 hBa.size⟩)
            have HNE:Hid (gk ≠ gv):=Lib.hid (by have h0:=HGK.out.2.2.2; omega)
            have hBm:=Lib.hid hBn
            clear hB hBa hBn hsN hgv hx1 HGK
            have hB:=hBm
            clear hBm
            have HGV:=HGVn
            clear HGVn
            have HGK:=HGKn
            clear HGKn
            clear hHeld
            exact HGa1a2.out gk gv x1 hB HGK HGV HNE
         ·intro gk gv x0 hB HGK HGV HNE
          have hHeld:=HSX.out _ hB.out
          refine wpAnyH_ready (rs:=[2]) (by kernel_rfl) (by simp) ?_
          refine AllReadyH.cons rfl (fun K hK=>?_) AllReadyH.nil
          go_simp
          (go_at_call 197; refine (blank_any f.key _).mono ?_; rintro e x1 ⟨⟨kn,ks,xg,kM⟩,rfl,hkb,hkL,hkM,hkB⟩)
          obtain ⟨Ak,ck,hxg,-⟩:=Sl.of_own (hkL.own (rwV ⟨kn,ks,xg,kM⟩) (List.mem_cons_self ..)).1
          obtain ⟨nk,hnk⟩:∃ q,(rwV (⟨kn,ks,xg,kM⟩:VL LM)).n = q:=⟨_,rfl⟩
          rw [hnk] at hxg
          obtain rfl:xg = .slice Ak nk ck:=hxg
          clear hnk
          have hBn:=hB.out.trans (hkB.mono hB.out.size)
          have hkL2:Lies W3.heap.size 1 x1 (rowsV (⟨kn,ks,.slice Ak nk ck,kM⟩:VL LM)):=⟨fun q hq=>⟨own_less2 (hkL.own q hq).1 hB.out.size,(hkL.own q hq).2⟩,hkL.apart⟩
          have hkN:∀ q ∈ blocks (rowsV (⟨kn,ks,.slice Ak nk ck,kM⟩:VL LM)),x0.heap.size ≤ q:=fun q hq=>(hkL.old hq).1
          have Hc1:=Lib.hid (And.intro hkb hkM)
          have HRn:Hid (Lies W3.heap.size 1 x1 (rowsV (⟨kn,ks,.slice Ak nk ck,kM⟩:VL LM))):=Lib.hid hkL2
          have HGKn:Hid (x1.heap[gk]? = some (.cells #[.int .i64 0,.string ⟨#[]⟩,.slice none 0 0] 81) ∧ gk ∉ blocks (rowsV (⟨kn,ks,.slice Ak nk ck,kM⟩:VL LM)) ∧ W3.heap.size ≤ gk ∧ gk < x1.heap.size):=Lib.hid (by have h0:=HGK.out.2.2.2; exact ⟨(hkB.block _ h0).trans HGK.out.1,(by exact fun h=>by have h2:=hkN _ h; omega),HGK.out.2.2.1,Nat.lt_of_lt_of_le h0 hkB.size⟩)
          have HGVn:Hid (x1.heap[gv]? = some (.cells #[.int .i64 0,.string ⟨#[]⟩,.slice none 0 0] 81) ∧ gv ∉ blocks (rowsV (⟨kn,ks,.slice Ak nk ck,kM⟩:VL LM)) ∧ W3.heap.size ≤ gv ∧ gv < x1.heap.size):=Lib.hid (by have h0:=HGV.out.2.2.2; exact ⟨(hkB.block _ h0).trans HGV.out.1,(by exact fun h=>by have h2:=hkN _ h; omega),HGV.out.2.2.1,Nat.lt_of_lt_of_le h0 hkB.size⟩)
          go_wp2_with fail
          clear hHeld
          refine hK.out _ _ (HSX.out _ hBn) (fun hHeld=>?_)
          clear hK K
          have hBm:=Lib.hid hBn
          clear hB hkB hBn hkb hkL hkM hkL2 hkN HGK HGV
          have hB:=hBm
          clear hBm
          have HR:=HRn
          clear HRn
          have HGK:=HGKn
          clear HGKn
          have HGV:=HGVn
          clear HGVn
          clear hHeld
          revert HNE; revert HGV; revert HGK; revert Hc1; revert HR; revert hB; revert x1; revert gv; revert gk; revert kM; revert ck; revert nk; revert Ak; revert ks; revert kn
          exact HGa1a2c1.out
        ·intro kn ks Ak nk ck kM x0 hB HR Hc1
         have hHeld:=HSX.out _ hB.out
         refine wpAnyH_ready (rs:=[5,6,7]) (by kernel_rfl) (by simp) ?_
         refine AllReadyH.cons rfl (fun K hK=>?_) (AllReadyH.cons rfl (fun K hK=>?_) (AllReadyH.cons rfl (fun K hK=>?_) AllReadyH.nil))
         ·go_simp
          (go_at_call 197; refine (blank_any f.kind _).mono ?_; rintro e x1 ⟨⟨vn,vs,xg,zM⟩,rfl,hkb,hkL,hkM,hkB⟩)
          obtain ⟨Av,cv,hxg,-⟩:=Sl.of_own (hkL.own (rwV ⟨vn,vs,xg,zM⟩) (List.mem_cons_self ..)).1
          obtain ⟨nv,hnk⟩:∃ q,(rwV (⟨vn,vs,xg,zM⟩:VL LM)).n = q:=⟨_,rfl⟩
          rw [hnk] at hxg
          obtain rfl:xg = .slice Av nv cv:=hxg
          clear hnk
          have hBn:=hB.out.trans (hkB.mono hB.out.size)
          have hkL2:Lies W3.heap.size 1 x1 (rowsV (⟨vn,vs,.slice Av nv cv,zM⟩:VL LM)):=⟨fun q hq=>⟨own_less2 (hkL.own q hq).1 hB.out.size,(hkL.own q hq).2⟩,hkL.apart⟩
          have hkN:∀ q ∈ blocks (rowsV (⟨vn,vs,.slice Av nv cv,zM⟩:VL LM)),x0.heap.size ≤ q:=fun q hq=>(hkL.old hq).1
          have Hc2:=Lib.hid (And.intro hkb hkM)
          have HRn:Hid (Lies W3.heap.size 1 x1 (rowsV (⟨kn,ks,.slice Ak nk ck,kM⟩:VL LM) ++ rowsV (⟨vn,vs,.slice Av nv cv,zM⟩:VL LM))):=Lib.hid ((HR.out.on hkB).app hkL2 (fun i hi hm=>by have h1:=(HR.out.old hi).2; have h2:=hkN i hm; omega))
          go_wp2_with fail
          clear hHeld
          refine hK.out _ _ (HSX.out _ hBn) (fun hHeld=>?_)
          clear hK K
          have hBm:=Lib.hid hBn
          clear hB hkB hBn hkb hkL hkM hkL2 hkN HR
          have hB:=hBm
          clear hBm
          have HR:=HRn
          clear HRn
          clear hHeld
          revert Hc2; revert Hc1; revert HR; revert hB; revert x1; revert zM; revert cv; revert nv; revert Av; revert vs; revert vn; revert kM; revert ck; revert nk; revert Ak; revert ks; revert kn
          exact HGc1c2.out
         ·go_simp
          have hBa:=below_new x0 (.cells #[.int .i64 0,.string ⟨#[]⟩,.slice none 0 0] 81)
          have hBn:=hB.out.trans (hBa.mono hB.out.size)
          clear hHeld
          refine hK.out _ _ (HSX.out _ hBn) (fun hHeld=>?_)
          clear hK K
          obtain ⟨gk,hgk⟩:∃ q,q = x0.heap.size:=⟨_,rfl⟩
          obtain ⟨x1,hx1⟩:∃ q,q = x0.alloc (.cells #[.int .i64 0,.string ⟨#[]⟩,.slice none 0 0] 81):=⟨_,rfl⟩
          rw [← hgk,← hx1]
          rw [← hx1] at hBa hBn hHeld
          have hsN:x1.heap.size = x0.heap.size + 1:=by rw [hx1]; simp
          have HRn:=Lib.hid (HR.out.on hBa)
          have HGKn:Hid (x1.heap[gk]? = some (.cells #[.int .i64 0,.string ⟨#[]⟩,.slice none 0 0] 81) ∧ gk ∉ blocks (rowsV (⟨kn,ks,.slice Ak nk ck,kM⟩:VL LM)) ∧ W3.heap.size ≤ gk ∧ gk < x1.heap.size):=Lib.hid ⟨by rw [hx1,hgk]; exact heap_alloc_new _ _,(by exact fun h=>by have h2:=(HR.out.old h).2; omega),by have:=hB.out.size; omega,by omega⟩
          have hBm:=Lib.hid hBn
          clear hB hBa hBn hsN hgk hx1 HR
          have hB:=hBm
          clear hBm
          have HR:=HRn
          clear HRn
          have HGK:=HGKn
          clear HGKn
          clear hHeld
          exact HGa1c1.out kn ks Ak nk ck kM gk x1 hB HR Hc1 HGK
         ·go_simp
          have hBa:=below_new x0 (.cells #[.int .i64 0,.string ⟨#[]⟩,.slice none 0 0] 81)
          have hBn:=hB.out.trans (hBa.mono hB.out.size)
          clear hHeld
          refine hK.out _ _ (HSX.out _ hBn) (fun hHeld=>?_)
          clear hK K
          obtain ⟨gv,hgv⟩:∃ q,q = x0.heap.size:=⟨_,rfl⟩
          obtain ⟨x1,hx1⟩:∃ q,q = x0.alloc (.cells #[.int .i64 0,.string ⟨#[]⟩,.slice none 0 0] 81):=⟨_,rfl⟩
          rw [← hgv,← hx1]
          rw [← hx1] at hBa hBn hHeld
          have hsN:x1.heap.size = x0.heap.size + 1:=by rw [hx1]; simp
          have HRn:=Lib.hid (HR.out.on hBa)
          have HGVn:Hid (x1.heap[gv]? = some (.cells #[.int .i64 0,.string ⟨#[]⟩,.slice none 0 0] 81) ∧ gv ∉ blocks (rowsV (⟨kn,ks,.slice Ak nk ck,kM⟩:VL LM)) ∧ W3.heap.size ≤ gv ∧ gv < x1.heap.size):=Lib.hid ⟨by rw [hx1,hgv]; exact heap_alloc_new _ _,(by exact fun h=>by have h2:=(HR.out.old h).2; omega),by have:=hB.out.size; omega,by omega⟩
          have hBm:=Lib.hid hBn
          clear hB hBa hBn hsN hgv hx1 HR
          have hB:=hBm
          clear hBm
          have HR:=HRn
          clear HRn
          have HGV:=HGVn
          clear HGVn
          clear hHeld
          exact HGa2c1.out kn ks Ak nk ck kM gv x1 hB HR Hc1 HGV
       ·intro kn ks Ak nk ck kM gv x0 hB HR Hc1 HGV
        have hHeld:=HSX.out _ hB.out
        refine wpAnyH_ready (rs:=[5,6]) (by kernel_rfl) (by simp) ?_
        refine AllReadyH.cons rfl (fun K hK=>?_) (AllReadyH.cons rfl (fun K hK=>?_) AllReadyH.nil)
        ·go_simp
         (go_at_call 197; refine (blank_any f.kind _).mono ?_; rintro e x1 ⟨⟨vn,vs,xg,zM⟩,rfl,hkb,hkL,hkM,hkB⟩)
         obtain ⟨Av,cv,hxg,-⟩:=Sl.of_own (hkL.own (rwV ⟨vn,vs,xg,zM⟩) (List.mem_cons_self ..)).1
         obtain ⟨nv,hnk⟩:∃ q,(rwV (⟨vn,vs,xg,zM⟩:VL LM)).n = q:=⟨_,rfl⟩
         rw [hnk] at hxg
         obtain rfl:xg = .slice Av nv cv:=hxg
         clear hnk
         have hBn:=hB.out.trans (hkB.mono hB.out.size)
         have hkL2:Lies W3.heap.size 1 x1 (rowsV (⟨vn,vs,.slice Av nv cv,zM⟩:VL LM)):=⟨fun q hq=>⟨own_less2 (hkL.own q hq).1 hB.out.size,(hkL.own q hq).2⟩,hkL.apart⟩
         have hkN:∀ q ∈ blocks (rowsV (⟨vn,vs,.slice Av nv cv,zM⟩:VL LM)),x0.heap.size ≤ q:=fun q hq=>(hkL.old hq).1
         have Hc2:=Lib.hid (And.intro hkb hkM)
         have HRn:Hid (Lies W3.heap.size 1 x1 (rowsV (⟨kn,ks,.slice Ak nk ck,kM⟩:VL LM) ++ rowsV (⟨vn,vs,.slice Av nv cv,zM⟩:VL LM))):=Lib.hid ((HR.out.on hkB).app hkL2 (fun i hi hm=>by have h1:=(HR.out.old hi).2; have h2:=hkN i hm; omega))
         have HGVn:Hid (x1.heap[gv]? = some (.cells #[.int .i64 0,.string ⟨#[]⟩,.slice none 0 0] 81) ∧ gv ∉ blocks (rowsV (⟨kn,ks,.slice Ak nk ck,kM⟩:VL LM) ++ rowsV (⟨vn,vs,.slice Av nv cv,zM⟩:VL LM)) ∧ W3.heap.size ≤ gv ∧ gv < x1.heap.size):=Lib.hid (by have h0:=HGV.out.2.2.2; exact ⟨(hkB.block _ h0).trans HGV.out.1,(by rw [blocks_append]; exact fun h=>(List.mem_append.1 h).elim HGV.out.2.1 (fun h=>by have h2:=hkN _ h; omega)),HGV.out.2.2.1,Nat.lt_of_lt_of_le h0 hkB.size⟩)
         go_wp2_with fail
         clear hHeld
         refine hK.out _ _ (HSX.out _ hBn) (fun hHeld=>?_)
         clear hK K
         have hBm:=Lib.hid hBn
         clear hB hkB hBn hkb hkL hkM hkL2 hkN HR HGV
         have hB:=hBm
         clear hBm
         have HR:=HRn
         clear HRn
         have HGV:=HGVn
         clear HGVn
         clear hHeld
         revert HGV; revert Hc2; revert Hc1; revert HR; revert hB; revert x1; revert gv; revert zM; revert cv; revert nv; revert Av; revert vs; revert vn; revert kM; revert ck; revert nk; revert Ak; revert ks; revert kn
         exact HGa2c1c2.out
        ·go_simp
         have hBa:=below_new x0 (.cells #[.int .i64 0,.string ⟨#[]⟩,.slice none 0 0] 81)
         have hBn:=hB.out.trans (hBa.mono hB.out.size)
         clear hHeld
         refine hK.out _ _ (HSX.out _ hBn) (fun hHeld=>?_)
         clear hK K
         obtain ⟨gk,hgk⟩:∃ q,q = x0.heap.size:=⟨_,rfl⟩
         obtain ⟨x1,hx1⟩:∃ q,q = x0.alloc (.cells #[.int .i64 0,.string ⟨#[]⟩,.slice none 0 0] 81):=⟨_,rfl⟩
         rw [← hgk,← hx1]
         rw [← hx1] at hBa hBn hHeld
         have hsN:x1.heap.size = x0.heap.size + 1:=by rw [hx1]; simp
         have HRn:=Lib.hid (HR.out.on hBa)
         have HGKn:Hid (x1.heap[gk]? = some (.cells #[.int .i64 0,.string ⟨#[]⟩,.slice none 0 0] 81) ∧ gk ∉ blocks (rowsV (⟨kn,ks,.slice Ak nk ck,kM⟩:VL LM)) ∧ W3.heap.size ≤ gk ∧ gk < x1.heap.size):=Lib.hid ⟨by rw [hx1,hgk]; exact heap_alloc_new _ _,(by exact fun h=>by have h2:=(HR.out.old h).2; omega),by have:=hB.out.size; omega,by omega⟩
         have HGVn:Hid (x1.heap[gv]? = some (.cells #[.int .i64 0,.string ⟨#[]⟩,.slice none 0 0] 81) ∧ gv ∉ blocks (rowsV (⟨kn,ks,.slice Ak nk ck,kM⟩:VL LM)) ∧ W3.heap.size ≤ gv ∧ gv < x1.heap.size):=Lib.hid (by have h0:=HGV.out.2.2.2; exact ⟨(hBa.block _ h0).trans HGV.out.1,HGV.out.2.1,HGV.out.2.2.1,Nat.lt_of_lt_of_le h0 hBa.size⟩)
         have HNE:Hid (gk ≠ gv):=Lib.hid (by have h0:=HGV.out.2.2.2; omega)
         have hBm:=Lib.hid hBn
         clear hB hBa hBn hsN hgk hx1 HR HGV
         have hB:=hBm
         clear hBm
         have HR:=HRn
         clear HRn
         have HGK:=HGKn
         clear HGKn
         have HGV:=HGVn
         clear HGVn
         clear hHeld
         exact HGa1a2c1.out kn ks Ak nk ck kM gk gv x1 hB HR Hc1 HGK HGV HNE
      ·intro kn ks Ak nk ck kM gk x0 hB HR Hc1 HGK
       have hHeld:=HSX.out _ hB.out
       refine wpAnyH_ready (rs:=[5,7]) (by kernel_rfl) (by simp) ?_
       refine AllReadyH.cons rfl (fun K hK=>?_) (AllReadyH.cons rfl (fun K hK=>?_) AllReadyH.nil)
       ·go_simp
        (go_at_call 197; refine (blank_any f.kind _).mono ?_; rintro e x1 ⟨⟨vn,vs,xg,zM⟩,rfl,hkb,hkL,hkM,hkB⟩)
        obtain ⟨Av,cv,hxg,-⟩:=Sl.of_own (hkL.own (rwV ⟨vn,vs,xg,zM⟩) (List.mem_cons_self ..)).1
        obtain ⟨nv,hnk⟩:∃ q,(rwV (⟨vn,vs,xg,zM⟩:VL LM)).n = q:=⟨_,rfl⟩
        rw [hnk] at hxg
        obtain rfl:xg = .slice Av nv cv:=hxg
        clear hnk
        have hBn:=hB.out.trans (hkB.mono hB.out.size)
        have hkL2:Lies W3.heap.size 1 x1 (rowsV (⟨vn,vs,.slice Av nv cv,zM⟩:VL LM)):=⟨fun q hq=>⟨own_less2 (hkL.own q hq).1 hB.out.size,(hkL.own q hq).2⟩,hkL.apart⟩
        have hkN:∀ q ∈ blocks (rowsV (⟨vn,vs,.slice Av nv cv,zM⟩:VL LM)),x0.heap.size ≤ q:=fun q hq=>(hkL.old hq).1
        have Hc2:=Lib.hid (And.intro hkb hkM)
        have HRn:Hid (Lies W3.heap.size 1 x1 (rowsV (⟨kn,ks,.slice Ak nk ck,kM⟩:VL LM) ++ rowsV (⟨vn,vs,.slice Av nv cv,zM⟩:VL LM))):=Lib.hid ((HR.out.on hkB).app hkL2 (fun i hi hm=>by have h1:=(HR.out.old hi).2; have h2:=hkN i hm; omega))
        have HGKn:Hid (x1.heap[gk]? = some (.cells #[.int .i64 0,.string ⟨#[]⟩,.slice none 0 0] 81) ∧ gk ∉ blocks (rowsV (⟨kn,ks,.slice Ak nk ck,kM⟩:VL LM) ++ rowsV (⟨vn,vs,.slice Av nv cv,zM⟩:VL LM)) ∧ W3.heap.size ≤ gk ∧ gk < x1.heap.size):=Lib.hid (by have h0:=HGK.out.2.2.2; exact ⟨(hkB.block _ h0).trans HGK.out.1,(by rw [blocks_append]; exact fun h=>(List.mem_append.1 h).elim HGK.out.2.1 (fun h=>by have h2:=hkN _ h; omega)),HGK.out.2.2.1,Nat.lt_of_lt_of_le h0 hkB.size⟩)
        go_wp2_with fail
        clear hHeld
        refine hK.out _ _ (HSX.out _ hBn) (fun hHeld=>?_)
        clear hK K
        have hBm:=Lib.hid hBn
        clear hB hkB hBn hkb hkL hkM hkL2 hkN HR HGK
        have hB:=hBm
        clear hBm
        have HR:=HRn
        clear HRn
        have HGK:=HGKn
        clear HGKn
        clear hHeld
        revert HGK; revert Hc2; revert Hc1; revert HR; revert hB; revert x1; revert gk; revert zM; revert cv; revert nv; revert Av; revert vs; revert vn; revert kM; revert ck; revert nk; revert Ak; revert ks; revert kn
        exact HGa1c1c2.out
       ·go_simp
        have hBa:=below_new x0 (.cells #[.int .i64 0,.string ⟨#[]⟩,.slice none 0 0] 81)
        have hBn:=hB.out.trans (hBa.mono hB.out.size)
        clear hHeld
        refine hK.out _ _ (HSX.out _ hBn) (fun hHeld=>?_)
        clear hK K
        obtain ⟨gv,hgv⟩:∃ q,q = x0.heap.size:=⟨_,rfl⟩
        obtain ⟨x1,hx1⟩:∃ q,q = x0.alloc (.cells #[.int .i64 0,.string ⟨#[]⟩,.slice none 0 0] 81):=⟨_,rfl⟩
        rw [← hgv,← hx1]
        rw [← hx1] at hBa hBn hHeld
        have hsN:x1.heap.size = x0.heap.size + 1:=by rw [hx1]; simp
        have HRn:=Lib.hid (HR.out.on hBa)
        have HGVn:Hid (x1.heap[gv]? = some (.cells #[.int .i64 0,.string ⟨#[]⟩,.slice none 0 0] 81) ∧ gv ∉ blocks (rowsV (⟨kn,ks,.slice Ak nk ck,kM⟩:VL LM)) ∧ W3.heap.size ≤ gv ∧ gv < x1.heap.size):=Lib.hid ⟨by rw [hx1,hgv]; exact heap_alloc_new _ _,(by exact fun h=>by have h2:=(HR.out.old h).2; omega),by have:=hB.out.size; omega,by omega⟩
        have HGKn:Hid (x1.heap[gk]? = some (.cells #[.int .i64 0,.string ⟨#[]⟩,.slice none 0 0] 81) ∧ gk ∉ blocks (rowsV (⟨kn,ks,.slice Ak nk ck,kM⟩:VL LM)) ∧ W3.heap.size ≤ gk ∧ gk < x1.heap.size):=Lib.hid (by have h0:=HGK.out.2.2.2; exact ⟨(hBa.block _ h0).trans HGK.out.1,HGK.out.2.1,HGK.out.2.2.1,Nat.lt_of_lt_of_le h0 hBa.size⟩)
        have HNE:Hid (gk ≠ gv):=Lib.hid (by have h0:=HGK.out.2.2.2; omega)
        have hBm:=Lib.hid hBn
        clear hB hBa hBn hsN hgv hx1 HR HGK
        have hB:=hBm
        clear hBm
        have HR:=HRn
        clear HRn
        have HGV:=HGVn
        clear HGVn
        have HGK:=HGKn
        clear HGKn
        clear hHeld
        exact HGa1a2c1.out kn ks Ak nk ck kM gk gv x1 hB HR Hc1 HGK HGV HNE
     ·intro kn ks Ak nk ck kM gk gv x0 hB HR Hc1 HGK HGV HNE
      have hHeld:=HSX.out _ hB.out
      refine wpAnyH_ready (rs:=[5]) (by kernel_rfl) (by simp) ?_
      refine AllReadyH.cons rfl (fun K hK=>?_) AllReadyH.nil
      go_simp
      (go_at_call 197; refine (blank_any f.kind _).mono ?_; rintro e x1 ⟨⟨vn,vs,xg,zM⟩,rfl,hkb,hkL,hkM,hkB⟩)
      obtain ⟨Av,cv,hxg,-⟩:=Sl.of_own (hkL.own (rwV ⟨vn,vs,xg,zM⟩) (List.mem_cons_self ..)).1
      obtain ⟨nv,hnk⟩:∃ q,(rwV (⟨vn,vs,xg,zM⟩:VL LM)).n = q:=⟨_,rfl⟩
      rw [hnk] at hxg
      obtain rfl:xg = .slice Av nv cv:=hxg
      clear hnk
      have hBn:=hB.out.trans (hkB.mono hB.out.size)
      have hkL2:Lies W3.heap.size 1 x1 (rowsV (⟨vn,vs,.slice Av nv cv,zM⟩:VL LM)):=⟨fun q hq=>⟨own_less2 (hkL.own q hq).1 hB.out.size,(hkL.own q hq).2⟩,hkL.apart⟩
      have hkN:∀ q ∈ blocks (rowsV (⟨vn,vs,.slice Av nv cv,zM⟩:VL LM)),x0.heap.size ≤ q:=fun q hq=>(hkL.old hq).1
      have Hc2:=Lib.hid (And.intro hkb hkM)
      have HRn:Hid (Lies W3.heap.size 1 x1 (rowsV (⟨kn,ks,.slice Ak nk ck,kM⟩:VL LM) ++ rowsV (⟨vn,vs,.slice Av nv cv,zM⟩:VL LM))):=Lib.hid ((HR.out.on hkB).app hkL2 (fun i hi hm=>by have h1:=(HR.out.old hi).2; have h2:=hkN i hm; omega))
      have HGKn:Hid (x1.heap[gk]? = some (.cells #[.int .i64 0,.string ⟨#[]⟩,.slice none 0 0] 81) ∧ gk ∉ blocks (rowsV (⟨kn,ks,.slice Ak nk ck,kM⟩:VL LM) ++ rowsV (⟨vn,vs,.slice Av nv cv,zM⟩:VL LM)) ∧ W3.heap.size ≤ gk ∧ gk < x1.heap.size):=Lib.hid (by have h0:=HGK.out.2.2.2; exact ⟨(hkB.block _ h0).trans HGK.out.1,(by rw [blocks_append]; exact fun h=>(List.mem_append.1 h).elim HGK.out.2.1 (fun h=>by have h2:=hkN _ h; omega)),HGK.out.2.2.1,Nat.lt_of_lt_of_le h0 hkB.size⟩)
      have HGVn:Hid (x1.heap[gv]? = some (.cells #[.int .i64 0,.string ⟨#[]⟩,.slice none 0 0] 81) ∧ gv ∉ blocks (rowsV (⟨kn,ks,.slice Ak nk ck,kM⟩:VL LM) ++ rowsV (⟨vn,vs,.slice Av nv cv,zM⟩:VL LM)) ∧ W3.heap.size ≤ gv ∧ gv < x1.heap.size):=Lib.hid (by have h0:=HGV.out.2.2.2; exact ⟨(hkB.block _ h0).trans HGV.out.1,(by rw [blocks_append]; exact fun h=>(List.mem_append.1 h).elim HGV.out.2.1 (fun h=>by have h2:=hkN _ h; omega)),HGV.out.2.2.1,Nat.lt_of_lt_of_le h0 hkB.size⟩)
      go_wp2_with fail
      clear hHeld
      refine hK.out _ _ (HSX.out _ hBn) (fun hHeld=>?_)
      clear hK K
      have hBm:=Lib.hid hBn
      clear hB hkB hBn hkb hkL hkM hkL2 hkN HR HGK HGV
      have hB:=hBm
      clear hBm
      have HR:=HRn
      clear HRn
      have HGK:=HGKn
      clear HGKn
      have HGV:=HGVn
      clear HGVn
      clear hHeld
      revert HNE; revert HGV; revert HGK; revert Hc2; revert Hc1; revert HR; revert hB; revert x1; revert gv; revert gk; revert zM; revert cv; revert nv; revert Av; revert vs; revert vn; revert kM; revert ck; revert nk; revert Ak; revert ks; revert kn
      exact HGO.out
    ·intro kn ks Ak nk ck kM vn vs Av nv cv zM x0 hB HR Hc1 Hc2
     have hHeld:=HSX.out _ hB.out
     refine wpAnyH_ready (rs:=[6,7]) (by kernel_rfl) (by simp) ?_
     refine AllReadyH.cons rfl (fun K hK=>?_) (AllReadyH.cons rfl (fun K hK=>?_) AllReadyH.nil)
     ·go_simp
      have hBa:=below_new x0 (.cells #[.int .i64 0,.string ⟨#[]⟩,.slice none 0 0] 81)
      have hBn:=hB.out.trans (hBa.mono hB.out.size)
      clear hHeld
      refine hK.out _ _ (HSX.out _ hBn) (fun hHeld=>?_)
      clear hK K
      obtain ⟨gk,hgk⟩:∃ q,q = x0.heap.size:=⟨_,rfl⟩
      obtain ⟨x1,hx1⟩:∃ q,q = x0.alloc (.cells #[.int .i64 0,.string ⟨#[]⟩,.slice none 0 0] 81):=⟨_,rfl⟩
      rw [← hgk,← hx1]
      rw [← hx1] at hBa hBn hHeld
      have hsN:x1.heap.size = x0.heap.size + 1:=by rw [hx1]; simp
      have HRn:=Lib.hid (HR.out.on hBa)
      have HGKn:Hid (x1.heap[gk]? = some (.cells #[.int .i64 0,.string ⟨#[]⟩,.slice none 0 0] 81) ∧ gk ∉ blocks (rowsV (⟨kn,ks,.slice Ak nk ck,kM⟩:VL LM) ++ rowsV (⟨vn,vs,.slice Av nv cv,zM⟩:VL LM)) ∧ W3.heap.size ≤ gk ∧ gk < x1.heap.size):=Lib.hid ⟨by rw [hx1,hgk]; exact heap_alloc_new _ _,(by exact fun h=>by have h2:=(HR.out.old h).2; omega),by have:=hB.out.size; omega,by omega⟩
      have hBm:=Lib.hid hBn
      clear hB hBa hBn hsN hgk hx1 HR
      have hB:=hBm
      clear hBm
      have HR:=HRn
      clear HRn
      have HGK:=HGKn
      clear HGKn
      clear hHeld
      exact HGa1c1c2.out kn ks Ak nk ck kM vn vs Av nv cv zM gk x1 hB HR Hc1 Hc2 HGK
     ·go_simp
      have hBa:=below_new x0 (.cells #[.int .i64 0,.string ⟨#[]⟩,.slice none 0 0] 81)
      have hBn:=hB.out.trans (hBa.mono hB.out.size)
      clear hHeld
      refine hK.out _ _ (HSX.out _ hBn) (fun hHeld=>?_)
      clear hK K
      obtain ⟨gv,hgv⟩:∃ q,q = x0.heap.size:=⟨_,rfl⟩
      obtain ⟨x1,hx1⟩:∃ q,q = x0.alloc (.cells #[.int .i64 0,.string ⟨#[]⟩,.slice none 0 0] 81):=⟨_,rfl⟩
      rw [← hgv,← hx1]
      rw [← hx1] at hBa hBn hHeld
      have hsN:x1.heap.size = x0.heap.size + 1:=by rw [hx1]; simp
      have HRn:=Lib.hid (HR.out.on hBa)
      have HGVn:Hid (x1.heap[gv]? = some (.cells #[.int .i64 0,.string ⟨#[]⟩,.slice none 0 0] 81) ∧ gv ∉ blocks (rowsV (⟨kn,ks,.slice Ak nk ck,kM⟩:VL LM) ++ rowsV (⟨vn,vs,.slice Av nv cv,zM⟩:VL LM)) ∧ W3.heap.size ≤ gv ∧ gv < x1.heap.size):=Lib.hid ⟨by rw [hx1,hgv]; exact heap_alloc_new _ _,(by exact fun h=>by have h2:=(HR.out.old h).2; omega),by have:=hB.out.size; omega,by omega⟩
      have hBm:=Lib.hid hBn
      clear hB hBa hBn hsN hgv hx1 HR
      have hB:=hBm
      clear hBm
      have HR:=HRn
      clear HRn
      have HGV:=HGVn
      clear HGVn
      clear hHeld
      exact HGa2c1c2.out kn ks Ak nk ck kM vn vs Av nv cv zM gv x1 hB HR Hc1 Hc2 HGV
   ·intro kn ks Ak nk ck kM vn vs Av nv cv zM gv x0 hB HR Hc1 Hc2 HGV
    have hHeld:=HSX.out _ hB.out
    refine wpAnyH_ready (rs:=[6]) (by kernel_rfl) (by simp) ?_
    refine AllReadyH.cons rfl (fun K hK=>?_) AllReadyH.nil
    go_simp
    have hBa:=below_new x0 (.cells #[.int .i64 0,.string ⟨#[]⟩,.slice none 0 0] 81)
    have hBn:=hB.out.trans (hBa.mono hB.out.size)
    clear hHeld
    refine hK.out _ _ (HSX.out _ hBn) (fun hHeld=>?_)
    clear hK K
    obtain ⟨gk,hgk⟩:∃ q,q = x0.heap.size:=⟨_,rfl⟩
    obtain ⟨x1,hx1⟩:∃ q,q = x0.alloc (.cells #[.int .i64 0,.string ⟨#[]⟩,.slice none 0 0] 81):=⟨_,rfl⟩
    rw [← hgk,← hx1]
    rw [← hx1] at hBa hBn hHeld
    have hsN:x1.heap.size = x0.heap.size + 1:=by rw [hx1]; simp
    have HRn:=Lib.hid (HR.out.on hBa)
    have HGKn:Hid (x1.heap[gk]? = some (.cells #[.int .i64 0,.string ⟨#[]⟩,.slice none 0 0] 81) ∧ gk ∉ blocks (rowsV (⟨kn,ks,.slice Ak nk ck,kM⟩:VL LM) ++ rowsV (⟨vn,vs,.slice Av nv cv,zM⟩:VL LM)) ∧ W3.heap.size ≤ gk ∧ gk < x1.heap.size):=Lib.hid ⟨by rw [hx1,hgk]; exact heap_alloc_new _ _,(by exact fun h=>by have h2:=(HR.out.old h).2; omega),by have:=hB.out.size; omega,by omega⟩
    have HGVn:Hid (x1.heap[gv]? = some (.cells #[.int .i64 0,.string ⟨#[]⟩,.slice none 0 0] 81) ∧ gv ∉ blocks (rowsV (⟨kn,ks,.slice Ak nk ck,kM⟩:VL LM) ++ rowsV (⟨vn,vs,.slice Av nv cv,zM⟩:VL LM)) ∧ W3.heap.size ≤ gv ∧ gv < x1.heap.size):=Lib.hid (by have h0:=HGV.out.2.2.2; exact ⟨(hBa.block _ h0).trans HGV.out.1,HGV.out.2.1,HGV.out.2.2.1,Nat.lt_of_lt_of_le h0 hBa.size⟩)
    have HNE:Hid (gk ≠ gv):=Lib.hid (by have h0:=HGV.out.2.2.2; omega)
    have hBm:=Lib.hid hBn
    clear hB hBa hBn hsN hgk hx1 HR HGV
    have hB:=hBm
    clear hBm
    have HR:=HRn
    clear HRn
    have HGK:=HGKn
    clear HGKn
    have HGV:=HGVn
    clear HGVn
    clear hHeld
    exact HGO.out kn ks Ak nk ck kM vn vs Av nv cv zM gk gv x1 hB HR Hc1 Hc2 HGK HGV HNE
  ·intro kn ks Ak nk ck kM vn vs Av nv cv zM gk x0 hB HR Hc1 Hc2 HGK
   have hHeld:=HSX.out _ hB.out
   refine wpAnyH_ready (rs:=[7]) (by kernel_rfl) (by simp) ?_
   refine AllReadyH.cons rfl (fun K hK=>?_) AllReadyH.nil
   go_simp
   have hBa:=below_new x0 (.cells #[.int .i64 0,.string ⟨#[]⟩,.slice none 0 0] 81)
   have hBn:=hB.out.trans (hBa.mono hB.out.size)
   clear hHeld
   refine hK.out _ _ (HSX.out _ hBn) (fun hHeld=>?_)
   clear hK K
   obtain ⟨gv,hgv⟩:∃ q,q = x0.heap.size:=⟨_,rfl⟩
   obtain ⟨x1,hx1⟩:∃ q,q = x0.alloc (.cells #[.int .i64 0,.string ⟨#[]⟩,.slice none 0 0] 81):=⟨_,rfl⟩
   rw [← hgv,← hx1]
   rw [← hx1] at hBa hBn hHeld
   have hsN:x1.heap.size = x0.heap.size + 1:=by rw [hx1]; simp
   have HRn:=Lib.hid (HR.out.on hBa)
   have HGVn:Hid (x1.heap[gv]? = some (.cells #[.int .i64 0,.string ⟨#[]⟩,.slice none 0 0] 81) ∧ gv ∉ blocks (rowsV (⟨kn,ks,.slice Ak nk ck,kM⟩:VL LM) ++ rowsV (⟨vn,vs,.slice Av nv cv,zM⟩:VL LM)) ∧ W3.heap.size ≤ gv ∧ gv < x1.heap.size):=Lib.hid ⟨by rw [hx1,hgv]; exact heap_alloc_new _ _,(by exact fun h=>by have h2:=(HR.out.old h).2; omega),by have:=hB.out.size; omega,by omega⟩
   have HGKn:Hid (x1.heap[gk]? = some (.cells #[.int .i64 0,.string ⟨#[]⟩,.slice none 0 0] 81) ∧ gk ∉ blocks (rowsV (⟨kn,ks,.slice Ak nk ck,kM⟩:VL LM) ++ rowsV (⟨vn,vs,.slice Av nv cv,zM⟩:VL LM)) ∧ W3.heap.size ≤ gk ∧ gk < x1.heap.size):=Lib.hid (by have h0:=HGK.out.2.2.2; exact ⟨(hBa.block _ h0).trans HGK.out.1,HGK.out.2.1,HGK.out.2.2.1,Nat.lt_of_lt_of_le h0 hBa.size⟩)
   have HNE:Hid (gk ≠ gv):=Lib.hid (by have h0:=HGK.out.2.2.2; omega)
   have hBm:=Lib.hid hBn
   clear hB hBa hBn hsN hgv hx1 HR HGK
   have hB:=hBm
   clear hBm
   have HR:=HRn
   clear HRn
   have HGV:=HGVn
   clear HGVn
   have HGK:=HGKn
   clear HGKn
   clear hHeld
   exact HGO.out kn ks Ak nk ck kM vn vs Av nv cv zM gk gv x1 hB HR Hc1 Hc2 HGK HGV HNE
 intro kn ks Ak nk ck kM vn vs Av nv cv zM gk gv x4 hB HR Hc1 Hc2 HGK HGV HNE
 have HF:=Lib.hid (And.intro hB.out (And.intro HR.out (And.intro HGK.out (And.intro HGV.out (And.intro HNE.out (And.intro Hc1.out Hc2.out))))))
 clear hB HR HGK HGV HNE Hc1 Hc2
 have hHeld:=HSX.out _ HF.out.1
 obtain ⟨z0,z1,z2⟩:=bx3 HF.out.2.2.1.1
 have fz:∀ q,x4.frozen? ⟨gk,q,none⟩ = false:=fun q=>by simp [World.frozen?,HF.out.2.2.1.1]
 refine wpAnyH_ready (rs:=[8]) (by kernel_rfl) (by simp) ?_
 refine AllReadyH.cons rfl (fun K hK=>?_) AllReadyH.nil
 go_simp
 refine hK.out _ _ (HSB.out _ _ HF.out.1 (fun q hq=>by have h0:=HF.out.2.2.1.2.2.1; rw [set_far (by omega),set_far (by omega),set_far (by omega)])) (fun hHeld=>?_)
 clear hK K
 obtain ⟨x5,hx5⟩:∃ x,x = ((x4.setCell ⟨gk,0,none⟩ (.int .i64 kn)).setCell ⟨gk,1,none⟩ (.string (tx ks))).setCell ⟨gk,2,none⟩ (.slice Ak nk ck):=⟨_,rfl⟩
 rw [← hx5] at hHeld ⊢
 have hk5:∀ q,q ≠ gk → x5.heap[q]? = x4.heap[q]?:=fun q hq=>by rw [hx5,set_far (fun e=>hq e.symm),set_far (fun e=>hq e.symm),set_far (fun e=>hq e.symm)]
 have hg5:x5.heap[gk]? = some (boxV (⟨kn,ks,.slice Ak nk ck,kM⟩:VL LM)):=by rw [hx5,setCell_at,setCell_at,setCell_at,HF.out.2.2.1.1]; simp [boxV]
 have hs5:x5.heap.size = x4.heap.size:=by rw [hx5,set_size,set_size,set_size]
 have he5:x5.os = x4.os ∧ x5.tape = x4.tape ∧ x5.output = x4.output:=by rw [hx5]; exact ⟨rfl,rfl,rfl⟩
 have hz5:=(hk5 gv (fun e=>HF.out.2.2.2.2.1 e.symm)).trans HF.out.2.2.2.1.1
 have H5:=Lib.hid (And.intro hk5 (And.intro hg5 (And.intro hs5 he5)))
 obtain ⟨y0,y1,y2⟩:=bx3 hz5
 have fy:∀ q,x5.frozen? ⟨gv,q,none⟩ = false:=fun q=>by simp [World.frozen?,hz5]
 clear hx5 hk5 hg5 hs5 he5 z0 z1 z2 fz
 refine wpAnyH_ready (rs:=[9]) (by kernel_rfl) (by simp) ?_
 refine AllReadyH.cons rfl (fun K hK=>?_) AllReadyH.nil
 go_simp
 refine hK.out _ _ (HSB.out _ _ HF.out.1 (fun q hq=>by have h0:=HF.out.2.2.2.1.2.2.1; have h1:=HF.out.2.2.1.2.2.1; rw [set_far (by omega),set_far (by omega),set_far (by omega)]; exact H5.out.1 q (by omega))) (fun hHeld=>?_)
 clear hK K
 obtain ⟨x6,hx6⟩:∃ x,x = ((x5.setCell ⟨gv,0,none⟩ (.int .i64 vn)).setCell ⟨gv,1,none⟩ (.string (tx vs))).setCell ⟨gv,2,none⟩ (.slice Av nv cv):=⟨_,rfl⟩
 rw [← hx6] at hHeld ⊢
 obtain ⟨hB4,hR4,hK4,hV4,hne4,hc14,hc24⟩:=HF.out
 obtain ⟨hk5,hg5,hs5,he5⟩:=H5.out
 have hk6:∀ q,q ≠ gk → q ≠ gv → x6.heap[q]? = x4.heap[q]?:=fun q h1 h2=>by rw [hx6,set_far (fun e=>h2 e.symm),set_far (fun e=>h2 e.symm),set_far (fun e=>h2 e.symm)]; exact hk5 q h1
 have hg6:x6.heap[gk]? = some (boxV (⟨kn,ks,.slice Ak nk ck,kM⟩:VL LM)):=by rw [hx6,set_far (fun e=>hne4 e.symm),set_far (fun e=>hne4 e.symm),set_far (fun e=>hne4 e.symm)]; exact hg5
 have hv6:x6.heap[gv]? = some (boxV (⟨vn,vs,.slice Av nv cv,zM⟩:VL LM)):=by rw [hx6,setCell_at,setCell_at,setCell_at,hz5]; simp [boxV]
 have hs6:x6.heap.size = x4.heap.size:=by rw [hx6,set_size,set_size,set_size]; exact hs5
 have hB6:Below W3.heap.size W3 x6:=by rw [hx6]; exact ⟨he5.1.trans hB4.os,he5.2.1.trans hB4.tape,he5.2.2.trans hB4.output,by rw [← hx6,hs6]; exact hB4.size,fun q hq=>by rw [← hx6]; exact (hk6 q (by have:=hK4.2.2.1; omega) (by have:=hV4.2.2.1; omega)).trans (hB4.block q hq)⟩
 have hP6:PairAt wo.heap.size W3.heap.size 1 gk gv (⟨kn,ks,.slice Ak nk ck,kM⟩:VL LM) (⟨vn,vs,.slice Av nv cv,zM⟩:VL LM) x6:=⟨hg6,hv6,(⟨fun q hq=>⟨own_less2 (hR4.own q hq).1 (by omega),(hR4.own q hq).2⟩,hR4.apart⟩:Lies wo.heap.size 1 x4 _).kept (fun q hq=>hk6 q (fun e=>hK4.2.1 (e ▸ hq)) (fun e=>hV4.2.1 (e ▸ hq))),hK4.2.1,hV4.2.1,fun q hq=>(hR4.old hq).1,hK4.2.2.1,hV4.2.2.1,hne4⟩
 have HP6:=Lib.hid (And.intro hB6 (And.intro hP6 (And.intro hc14 hc24)))
 obtain ⟨⟨s0,s1,s2⟩,⟨g0,g1,g2,g3,g4,g5,g6⟩,r0,r1,r2,r3,r4⟩:=HPX.out _ hB6
 clear hx6 hB4 hR4 hK4 hV4 hne4 hc14 hc24 hk5 hg5 hs5 he5 hk6 hg6 hv6 hs6 hB6 hP6 hz5 H5 y0 y1 y2 fy HF
 refine wpAnyH_done (by kernel_rfl) ?_ _
 go_wp2_with fail
 go_loopw [12] (fun si wr=>∃ (i:Nat) (xk xv:VL LM),si = .int .i64 i ∧ r.frm ≤ i ∧ i ≤ r.upto ∧ decR (pairD (decM s n) f) (winR l r) (blankV f.key,blankV f.kind) = decR (pairD (decM s n) f) ((l.drop i).take (r.upto - i)) (bareV xk,bareV xv) ∧ PairAt wo.heap.size W3.heap.size (1 + (i - r.frm)) gk gv xk xv wr ∧ Below W3.heap.size W3 wr ∧ (f.kind = 9 → ∃ y,xv.M = [y] ∧ Full s n f.ref y)) (fun si _=>r.upto - (intOf si).toNat)
 case atStart=>exact ⟨r.frm,(⟨kn,ks,.slice Ak nk ck,kM⟩:VL LM),(⟨vn,vs,.slice Av nv cv,zM⟩:VL LM),rfl,Nat.le_refl _,hf1,by rw [HP6.out.2.2.1.1,HP6.out.2.2.2.1]; rfl,by rw [Nat.sub_self]; exact HP6.out.2.1,HP6.out.1,fun h9=>by obtain ⟨v0,hv0⟩:=HP6.out.2.2.2.2 h9; exact ⟨_,hv0,full_empty s v0 n f.ref⟩⟩
 case round =>
  obtain ⟨i,xk,xv,rfl,hi1,hi2,hD,hP,hB,hfl⟩:=hrel
  obtain ⟨⟨s0,s1,s2⟩,⟨g0,g1,g2,g3,g4,g5,g6⟩,r0,r1,r2,r3,r4⟩:=HPX.out _ hB
  have hWr:=hB.size
  by_cases hlt:i < r.upto
  ·have d1:decide ((i:Int) < (r.upto:Int)) = true:=decide_eq_true (by omega)
   have hbor:Below wo.heap.size wo wr:=hbo3.trans (hB.mono (by omega))
   have HNX:=Lib.hid (next_any A c l i r.upto hl wr (hr0.on hbor) (TW.on hbor))
   have HST0:=Lib.hid (And.intro hD (And.intro hP (And.intro hB (And.intro hfl hbor))))
   clear hD hP hB hfl hbor
   rcases next_cases hi2 hf2 with ⟨r1,p1,hw1,hnx⟩ | ⟨er,her,hwe,hnx⟩
   ·obtain ⟨q2,qd,qup,qfr,qfp⟩:=wnext_le hw1
    rw [win_len l hi2 hf2] at qd
    have hle:2 ≤ p1 ∧ i + p1 ≤ r.upto ∧ r1.upto = p1 ∧ 1 ≤ r1.frm ∧ r1.frm ≤ p1:=⟨q2,by omega,qup,qfr,qfp⟩
    obtain ⟨ra,hra⟩:∃ ra,i + r1.frm = ra:=⟨_,rfl⟩
    obtain ⟨rb,hrb⟩:∃ rb,i + r1.upto = rb:=⟨_,rfl⟩
    obtain ⟨ie,hie⟩:∃ ie,i + p1 = ie:=⟨_,rfl⟩
    have HEQ:=Lib.hid (And.intro hra (And.intro hrb hie))
    have HLE:=Lib.hid (And.intro hle hw1)
    rw [hnx] at HNX
    have hi4:ie ≤ r.upto:=by omega
    clear q2 qd qup qfr qfp hle hnx hw1 hra hrb hie
    go_wp2_with fail
    refine HNX.out.mono ?_
    rintro e w2 ⟨rfl,hb2⟩
    have hNV:NV (shift i r1,i + p1,0) = .tuple #[.agg #[.int .i64 r1.no,.int .i64 r1.wire,.int .u64 r1.num,.int .i64 (ra:Nat),.int .i64 (rb:Nat)],.int .i64 (ie:Nat),.int .i64 0]:=by rw [← HEQ.out.1,← HEQ.out.2.1,← HEQ.out.2.2]; rfl
    rw [hNV]
    obtain ⟨hD,hP,hB,hfl,hbor⟩:=HST0.out
    obtain ⟨hle,hw1⟩:=HLE.out
    have N2:=below_new w2 (.cells #[.int .i64 r1.no,.int .i64 r1.wire,.int .u64 r1.num,.int .i64 (ra:Nat),.int .i64 (rb:Nat)] 41)
    have Z2:=heap_alloc_new w2 (.cells #[.int .i64 r1.no,.int .i64 r1.wire,.int .u64 r1.num,.int .i64 (ra:Nat),.int .i64 (rb:Nat)] 41)
    obtain ⟨u0,u1,u2,u3,u4⟩:=heap_cells Z2
    have hb24:=below_then hb2 N2
    have hP4:=hP.on hb24
    have hB4:=hB.trans (hb24.mono hB.size)
    have hbo4:=hbor.trans (hb24.mono (by omega))
    obtain ⟨⟨s0,s1,s2⟩,⟨g0,g1,g2,g3,g4,g5,g6⟩,r0,r1',r2,r3,r4⟩:=HPX.out _ hB4
    obtain ⟨w4,hw4⟩:∃ w4,w4 = w2.alloc (.cells #[.int .i64 r1.no,.int .i64 r1.wire,.int .u64 r1.num,.int .i64 (ra:Nat),.int .i64 (rb:Nat)] 41):=⟨_,rfl⟩
    rw [← hw4] at u0 u1 u2 u3 u4 hP4 hB4 hbo4 s0 s1 s2 g0 g1 g2 g3 g4 g5 g6 r0 r1' r2 r3 r4
    have HS4:=Lib.hid (And.intro hD (And.intro hP4 (And.intro hB4 (And.intro hfl (And.intro hbo4 (And.intro hw1 hle))))))
    have HU:=Lib.hid (And.intro u0 (And.intro u1 (And.intro u2 (And.intro u3 u4))))
    have HV:=Lib.hid (And.intro (And.intro s0 (And.intro s1 s2)) (And.intro (And.intro g0 (And.intro g1 (And.intro g2 (And.intro g3 (And.intro g4 (And.intro g5 g6)))))) (And.intro r0 (And.intro r1' (And.intro r2 (And.intro r3 r4))))))
    clear hD hP hB hfl hbor hw1 hle N2 Z2 hb24 hP4 hB4 hbo4 hb2 HST0 HLE HNX s0 s1 s2 g0 g1 g2 g3 g4 g5 g6 r0 r1' r2 r3 r4 u0 u1 u2 u3 u4
    go_wp2_with fail
    rw [← hw4]
    clear hw4
    refine (fine_yes _).mono ?_
    rintro e w3 ⟨rfl,hw3⟩
    subst w3
    obtain ⟨u0,u1,u2,u3,u4⟩:=HU.out
    obtain ⟨⟨s0,s1,s2⟩,⟨g0,g1,g2,g3,g4,g5,g6⟩,r0,r1',r2,r3,r4⟩:=HV.out
    obtain ⟨hD,hP4,hB4,hfl,hbo4,hw1,hle⟩:=HS4.out
    clear HS4 HU HV
    by_cases hn1:r1.no = 1
    ·have e1:(((r1.no:Nat):Int) == 1) = true:=by rw [hn1]; rfl
     have hno:=hn1
     clear hn1
     have hRS:RV (shift i r1) = .agg #[.int .i64 r1.no,.int .i64 r1.wire,.int .u64 r1.num,.int .i64 (ra:Nat),.int .i64 (rb:Nat)]:=by rw [← HEQ.out.1,← HEQ.out.2.1]; rfl
     have h0:=HT f.key 0 (shift i r1) xk gk 0 deep (1 + (i - r.frm)) w4 hy0 hy9 hbo4 (by have:=hP4.bk; omega) (box_lt hP4.ck) (box_at hP4.ck) hP4.lies.left (fun h=>hP4.fark (by rw [blocks_append]; exact List.mem_append_left _ h)) (fun h=>absurd h hyn) (by show i + r1.frm ≤ i + r1.upto; omega) (by show i + r1.upto ≤ _; omega) (show r1.num < _ from wnext_num hw1) (by show 1 + (i - r.frm) + (i + r1.upto - (i + r1.frm)) ≤ K; omega) hdeep hd0
     rw [hRS] at h0
     have HTK:=Lib.hid h0
     clear h0 hRS
     have HST:=Lib.hid (And.intro hD (And.intro hP4 (And.intro hB4 (And.intro hfl (And.intro hbo4 (And.intro hw1 (And.intro hle hno)))))))
     clear hD hP4 hB4 hfl hbo4 hw1 hle hno
     go_wp2_with fail
     refine HTK.out.mono ?_
     rintro e w5 (⟨er,h1,rfl,h3⟩ | ⟨x',h1,rfl,h3,h4,h5,h6,h7⟩)
     ·go_wp2_with fail
      obtain ⟨hD,hP4,hB4,hfl,hbo4,hw1,hle,hno⟩:=HST.out
      refine ⟨rfl,.inl ⟨er,?_,rfl,(Below.mono L3 hwo).trans ((hB4.mono (by omega)).trans h3)⟩⟩
      rw [HDD.out.1,hD,decR_cons _ _ hw1]
      unfold pairD
      rw [if_pos hno]
      rw [takeV_shift (a:=i) (u:=r.upto) (r:=r1) (by omega) (by omega)] at h1
      simp only at h1 ⊢
      rw [h1]
      rfl
     ·obtain ⟨hD,hP4,hB4,hfl,hbo4,hw1,hle,hno⟩:=HST.out
      obtain ⟨hP5,hb5⟩:=PairAt.key (K':=1 + (i - r.frm) + (i + r1.upto - (i + r1.frm))) hP4 hB4.size h3 h4 h5 h6 (Nat.le_add_right _ _)
      have HEN:=Lib.hid (And.intro hP5 (hB4.trans hb5))
      have hD2:decR (pairD (decM s n) f) (winR l r) (blankV f.key,blankV f.kind) = decR (pairD (decM s n) f) ((l.drop ie).take (r.upto - ie)) (bareV x',bareV xv):=by
       rw [hD,decR_cons _ _ hw1,win_rest,HEQ.out.2.2]
       unfold pairD
       rw [if_pos hno]
       rw [takeV_shift (a:=i) (u:=r.upto) (r:=r1) (by omega) (by omega)] at h1
       simp only at h1 ⊢
       rw [h1]
       rfl
      have HD2:=Lib.hid (And.intro hD2 (And.intro hle hfl))
      clear hD2 hD hP4 hB4 hfl hbo4 hw1 hle hno hP5 hb5 h1 h3 h4 h5 h6 h7 HST HTK
      go_wp2
      refine ⟨⟨ie,x',xv,rfl,by have:=HEQ.out.2.2; omega,hi4,HD2.out.1,⟨HEN.out.1.ck,HEN.out.1.cv,HEN.out.1.lies.more (by have:=HD2.out.2.1; have:=HEQ.out.2.2; omega),HEN.out.1.fark,HEN.out.1.farv,HEN.out.1.new,HEN.out.1.bk,HEN.out.1.bv,HEN.out.1.ne⟩,HEN.out.2,HD2.out.2.2⟩,by have:=HD2.out.2.1; have:=HEQ.out.2.2; simp only [intOf]; omega⟩
    ·by_cases hn2:r1.no = 2
     ·have e1:(((r1.no:Nat):Int) == 1) = false:=by rw [hn2]; rfl
      have e2:(((r1.no:Nat):Int) == 2) = true:=by rw [hn2]; rfl
      have hno:=hn2
      clear hn2 hn1
      have hRS:RV (shift i r1) = .agg #[.int .i64 r1.no,.int .i64 r1.wire,.int .u64 r1.num,.int .i64 (ra:Nat),.int .i64 (rb:Nat)]:=by rw [← HEQ.out.1,← HEQ.out.2.1]; rfl
      have h0:=HT f.kind f.ref (shift i r1) xv gv 0 deep (1 + (i - r.frm)) w4 hk0 hk9 hbo4 (by have:=hP4.bv; omega) (box_lt hP4.cv) (box_at hP4.cv) hP4.lies.right (fun h=>hP4.farv (by rw [blocks_append]; exact List.mem_append_right _ h)) hfl (by show i + r1.frm ≤ i + r1.upto; omega) (by show i + r1.upto ≤ _; omega) (show r1.num < _ from wnext_num hw1) (by show 1 + (i - r.frm) + (i + r1.upto - (i + r1.frm)) ≤ K; omega) hdeep hd0
      rw [hRS] at h0
      have HTK:=Lib.hid h0
      clear h0 hRS
      have HST:=Lib.hid (And.intro hD (And.intro hP4 (And.intro hB4 (And.intro hfl (And.intro hbo4 (And.intro hw1 (And.intro hle hno)))))))
      clear hD hP4 hB4 hfl hbo4 hw1 hle hno
      go_wp2_with fail
      refine HTK.out.mono ?_
      rintro e w5 (⟨er,h1,rfl,h3⟩ | ⟨x',h1,rfl,h3,h4,h5,h6,h7⟩)
      ·go_wp2_with fail
       obtain ⟨hD,hP4,hB4,hfl,hbo4,hw1,hle,hno⟩:=HST.out
       refine ⟨rfl,.inl ⟨er,?_,rfl,(Below.mono L3 hwo).trans ((hB4.mono (by omega)).trans h3)⟩⟩
       rw [HDD.out.1,hD,decR_cons _ _ hw1]
       unfold pairD
       rw [if_neg (by omega),if_pos hno]
       rw [takeV_shift (a:=i) (u:=r.upto) (r:=r1) (by omega) (by omega)] at h1
       simp only at h1 ⊢
       rw [h1]
       rfl
      ·obtain ⟨hD,hP4,hB4,hfl,hbo4,hw1,hle,hno⟩:=HST.out
       obtain ⟨hP5,hb5⟩:=PairAt.val (K':=1 + (i - r.frm) + (i + r1.upto - (i + r1.frm))) hP4 hB4.size h3 h4 h5 h6 (Nat.le_add_right _ _)
       have HEN:=Lib.hid (And.intro hP5 (hB4.trans hb5))
       have hD2:decR (pairD (decM s n) f) (winR l r) (blankV f.key,blankV f.kind) = decR (pairD (decM s n) f) ((l.drop ie).take (r.upto - ie)) (bareV xk,bareV x'):=by
        rw [hD,decR_cons _ _ hw1,win_rest,HEQ.out.2.2]
        unfold pairD
        rw [if_neg (by omega),if_pos hno]
        rw [takeV_shift (a:=i) (u:=r.upto) (r:=r1) (by omega) (by omega)] at h1
        simp only at h1 ⊢
        rw [h1]
        rfl
       have HD2:=Lib.hid (And.intro hD2 (And.intro hle h7))
       clear hD2 hD hP4 hB4 hfl hbo4 hw1 hle hno hP5 hb5 h1 h3 h4 h5 h6 h7 HST HTK
       go_wp2
       refine ⟨⟨ie,xk,x',rfl,by have:=HEQ.out.2.2; omega,hi4,HD2.out.1,⟨HEN.out.1.ck,HEN.out.1.cv,HEN.out.1.lies.more (by have:=HD2.out.2.1; have:=HEQ.out.2.2; omega),HEN.out.1.fark,HEN.out.1.farv,HEN.out.1.new,HEN.out.1.bk,HEN.out.1.bv,HEN.out.1.ne⟩,HEN.out.2,HD2.out.2.2⟩,by have:=HD2.out.2.1; have:=HEQ.out.2.2; simp only [intOf]; omega⟩
     ·have e1:(((r1.no:Nat):Int) == 1) = false:=beq_eq_false_iff_ne.2 (by omega)
      have e2:(((r1.no:Nat):Int) == 2) = false:=beq_eq_false_iff_ne.2 (by omega)
      have hD2:decR (pairD (decM s n) f) (winR l r) (blankV f.key,blankV f.kind) = decR (pairD (decM s n) f) ((l.drop ie).take (r.upto - ie)) (bareV xk,bareV xv):=by
       rw [hD,decR_cons _ _ hw1,win_rest,HEQ.out.2.2]
       unfold pairD
       rw [if_neg hn1,if_neg hn2]
      have HEN:=Lib.hid (And.intro hP4 hB4)
      have HD2:=Lib.hid (And.intro hD2 (And.intro hle hfl))
      clear hD hP4 hB4 hfl hbo4 hw1 hle hn1 hn2 hD2
      go_wp2
      refine ⟨⟨ie,xk,xv,rfl,by have:=HEQ.out.2.2; omega,hi4,HD2.out.1,⟨HEN.out.1.ck,HEN.out.1.cv,HEN.out.1.lies.more (by have:=HD2.out.2.1; have:=HEQ.out.2.2; omega),HEN.out.1.fark,HEN.out.1.farv,HEN.out.1.new,HEN.out.1.bk,HEN.out.1.bv,HEN.out.1.ne⟩,HEN.out.2,HD2.out.2.2⟩,by have:=HD2.out.2.1; have:=HEQ.out.2.2; simp only [intOf]; omega⟩
   ·rw [hnx] at HNX
    have HE:=Lib.hid (And.intro her hwe)
    clear her hwe hnx
    go_wp2_with fail
    refine HNX.out.mono ?_
    rintro e w2 ⟨rfl,hb2⟩
    have hNV:NV (Rc.zero,0,er) = .tuple #[.agg #[.int .i64 0,.int .i64 0,.int .u64 0,.int .i64 0,.int .i64 0],.int .i64 0,.int .i64 (er:Nat)]:=rfl
    rw [hNV]
    have hb24:=Lib.hid (below_then hb2 (below_new w2 (.cells #[.int .i64 0,.int .i64 0,.int .u64 0,.int .i64 0,.int .i64 0] 41)))
    clear hb2 HNX
    go_wp2_with fail
    refine (fine_no er HE.out.1 _).mono ?_
    rintro e w3 ⟨rfl,rfl⟩
    go_wp2_with fail
    obtain ⟨hD,hP,hB,hfl,hbor⟩:=HST0.out
    refine ⟨rfl,.inl ⟨er,?_,rfl,(Below.mono L3 hwo).trans ((hB.mono (by omega)).trans (hb24.out.mono (by omega)))⟩⟩
    rw [HDD.out.1,hD,decR_err _ _ (fun e=>by have:=congrArg List.length e; rw [win_len l hi2 hf2] at this; simp at this; omega) (by rw [HE.out.2]; exact HE.out.1),HE.out.2]
    rfl
  ·obtain rfl:i = r.upto:=by omega
   have d1:decide ((r.upto:Int) < (r.upto:Int)) = false:=by simp
   rw [Nat.sub_self,List.take_zero,decR_nil] at hD
   have HFIN:=Lib.hid (And.intro hD (And.intro hP (And.intro hB hfl)))
   clear hD hfl
   obtain ⟨hAt,hLt,hgn,hful⟩:=HAS.out
   have hbw:Below w.heap.size w wr:=L3.trans (hB.mono L3.size)
   have hAr:=hAt.on hbw hgw
   have hLr:=hLt.on hbw
   obtain ⟨AK,cK,hgK,-⟩:=Sl.of_own (hLr.own (rwS t.gK t.K) (List.mem_cons_self ..)).1
   have hgK:t.gK = .slice AK t.K.length cK:=hgK
   obtain ⟨AV,cV,hgV,-⟩:=Sl.of_own (hLr.own (rwS t.gV t.V) (List.mem_cons_of_mem _ (List.mem_cons_self ..))).1
   have hgV:t.gV = .slice AV t.V.length cV:=hgV
   have hnK:t.K.length ≤ k:=(hLr.own (rwS t.gK t.K) (List.mem_cons_self ..)).2
   have hnV:t.V.length ≤ k:=(hLr.own (rwS t.gV t.V) (List.mem_cons_of_mem _ (List.mem_cons_self ..))).2
   obtain ⟨yn,ys,yg,yM⟩:=xk
   obtain ⟨un,us,ug,uM⟩:=xv
   obtain ⟨Ay,cy,hyg,-⟩:=Sl.of_own (hP.lies.own (rwV ⟨yn,ys,yg,yM⟩) (List.mem_append_left _ (List.mem_cons_self ..))).1
   obtain ⟨ny,hny⟩:∃ q,(rwV (⟨yn,ys,yg,yM⟩:VL LM)).n = q:=⟨_,rfl⟩
   rw [hny] at hyg
   obtain rfl:yg = .slice Ay ny cy:=hyg
   obtain ⟨Au,cu,hug,-⟩:=Sl.of_own (hP.lies.own (rwV ⟨un,us,ug,uM⟩) (List.mem_append_right _ (List.mem_cons_self ..))).1
   obtain ⟨nu,hnu⟩:∃ q,(rwV (⟨un,us,ug,uM⟩:VL LM)).n = q:=⟨_,rfl⟩
   rw [hnu] at hug
   obtain rfl:ug = .slice Au nu cu:=hug
   clear hny hnu
   have hrs:∀ q ∈ blocks (rowsS t),q < w.heap.size:=fun q hq=>(hLt.old hq).2
   have hgkw:=box_lt hP.ck
   have hgvw:=box_lt hP.cv
   have hbk:=hP.bk
   have hbv:=hP.bv
   have HRL0:Hid (Lies wo.heap.size (k + 1 + (r.upto - r.frm)) wr (rowsKV (rwS t.gK t.K) (rwS t.gV t.V) t (⟨yn,ys,.slice Ay ny cy,yM⟩:VL LM) (⟨un,us,.slice Au nu cu,uM⟩:VL LM))):=Lib.hid (by rw [rowsKV_start]; exact (hLr.more (by omega)).app (hP.lies.more (by omega)) (fun i hi hm=>by have h1:=hrs i hi; have h2:=hP.new i hm; omega))
   have HSX15:Hid (∀ wx,Fr (blocks (rowsS t)) wr wx → (wx.cell? ⟨gk,0,none⟩ = some (.int .i64 yn) ∧ wx.cell? ⟨gk,1,none⟩ = some (.string (tx ys)) ∧ wx.cell? ⟨gk,2,none⟩ = some (.slice Ay ny cy)) ∧ (wx.cell? ⟨gv,0,none⟩ = some (.int .i64 un) ∧ wx.cell? ⟨gv,1,none⟩ = some (.string (tx us)) ∧ wx.cell? ⟨gv,2,none⟩ = some (.slice Au nu cu))):=Lib.hid fun wx h=>⟨bx3 ((h.block gk hgkw (fun hm=>by have:=hrs _ hm; omega)).trans hP.ck),bx3 ((h.block gv hgvw (fun hm=>by have:=hrs _ hm; omega)).trans hP.cv)⟩
   have HSY:Hid (∀ wx wy:World,Fr (blocks (rowsS t)) wr wx → (∀ q,q ≠ g → wy.heap[q]? = wx.heap[q]?) → (wy.cell? ⟨gk,0,none⟩ = some (.int .i64 yn) ∧ wy.cell? ⟨gk,1,none⟩ = some (.string (tx ys)) ∧ wy.cell? ⟨gk,2,none⟩ = some (.slice Ay ny cy)) ∧ (wy.cell? ⟨gv,0,none⟩ = some (.int .i64 un) ∧ wy.cell? ⟨gv,1,none⟩ = some (.string (tx us)) ∧ wy.cell? ⟨gv,2,none⟩ = some (.slice Au nu cu))):=Lib.hid fun wx wy h hk=>⟨bx3 ((hk gk (by omega)).trans ((h.block gk hgkw (fun hm=>by have:=hrs _ hm; omega)).trans hP.ck)),bx3 ((hk gv (by omega)).trans ((h.block gv hgvw (fun hm=>by have:=hrs _ hm; omega)).trans hP.cv))⟩
   have HC:Hid (∀ wx,Fr (blocks (rowsS t)) wr wx → wx.cell? ⟨g,o + 1,none⟩ = some (.slice AK t.K.length cK) ∧ wx.cell? ⟨g,o + 2,none⟩ = some (.slice AV t.V.length cV) ∧ (∀ q,wx.frozen? ⟨g,q,none⟩ = false)):=Lib.hid fun wx h=>⟨h.cell (by omega) hgn (by rw [← hgK]; exact hAr.c1),h.cell (by omega) hgn (by rw [← hgV]; exact hAr.c2),fun q=>h.froz (by omega) hgn (hAr.froz q)⟩
   have HOK:Hid (∀ (wx:World) (RV:Rw),Lies wo.heap.size (k + 1 + (r.upto - r.frm)) wx (rowsKV (rwS t.gK t.K) RV t (⟨yn,ys,.slice Ay ny cy,yM⟩:VL LM) (⟨un,us,.slice Au nu cu,uM⟩:VL LM)) → wx.ownsRow wo.heap.size 81 3 (.slice AK t.K.length cK) t.K.length (t.K.flatMap cV')):=Lib.hid fun wx RV h=>by have h1:=(h.own (rwS t.gK t.K) (List.mem_cons_self ..)).1; rw [← hgK]; exact h1
   have HOV:Hid (∀ (wx:World) (RK:Rw),Lies wo.heap.size (k + 1 + (r.upto - r.frm)) wx (rowsKV RK (rwS t.gV t.V) t (⟨yn,ys,.slice Ay ny cy,yM⟩:VL LM) (⟨un,us,.slice Au nu cu,uM⟩:VL LM)) → wx.ownsRow wo.heap.size 81 3 (.slice AV t.V.length cV) t.V.length (t.V.flatMap cV')):=Lib.hid fun wx RK h=>by have h1:=(h.own (rwS t.gV t.V) (List.mem_cons_of_mem _ (List.mem_cons_self ..))).1; rw [← hgV]; exact h1
   have HIK:Hid (∀ i,(Value.slice AK t.K.length cK).ownBlock = some i → i ∈ blocks (rowsS t) ∧ i < w.heap.size):=Lib.hid fun i hi=>by have h:i ∈ blocks (rowsS t):=(by rw [rowsS_eq,blocks_of]; exact .inl (by show t.gK.ownBlock = _; rw [hgK]; exact hi)); exact ⟨h,hrs i h⟩
   have HIV:Hid (∀ i,(Value.slice AV t.V.length cV).ownBlock = some i → i ∈ blocks (rowsS t) ∧ i < w.heap.size):=Lib.hid fun i hi=>by have h:i ∈ blocks (rowsS t):=(by rw [rowsS_eq,blocks_of,blocks_of]; exact .inr (.inl (by show t.gV.ownBlock = _; rw [hgV]; exact hi))); exact ⟨h,hrs i h⟩
   have HGKV:=Lib.hid (And.intro hgK hgV)
   have HPOST:=Lib.hid (And.intro hAr (And.intro hLr (And.intro hbw (And.intro hAt (And.intro hgn (And.intro hful (And.intro hP.new hrs)))))))
   have hwr:w.heap.size ≤ wr.heap.size:=hbw.size
   clear hP hB hAt hLt hgn hful hbw hAr hLr hgK hgV hrs hgkw hgvw hbk hbv
   go_wp2_with fail
   apply once
   ·intro HGO
    apply once
    ·intro HGa8b14b7l12l5
     apply once
     ·intro HGa8b7l12l5
      apply once
      ·intro HGa8b14b7l5
       apply once
       ·intro HGa8b7l5
        apply once
        ·intro HGb14b7l12l5
         apply once
         ·intro HGb7l12l5
          apply once
          ·intro HGb14b7l5
           apply once
           ·intro HGb7l5
            apply once
            ·intro HGb14l12l5
             apply once
             ·intro HGl12l5
              apply once
              ·intro HGb14l5
               apply once
               ·intro HGl5
                apply once
                ·intro HGb14b7l12
                 apply once
                 ·intro HGb7l12
                  apply once
                  ·intro HGb14b7
                   apply once
                   ·intro HGb7
                    apply once
                    ·intro HGb14l12
                     apply once
                     ·intro HGl12
                      apply once
                      ·intro HGb14
                       refine wp_region_held_drew (S:=(fun wx=>(wx.cell? ⟨gk,0,none⟩ = some (.int .i64 yn) ∧ wx.cell? ⟨gk,1,none⟩ = some (.string (tx ys)) ∧ wx.cell? ⟨gk,2,none⟩ = some (.slice Ay ny cy)) ∧ (wx.cell? ⟨gv,0,none⟩ = some (.int .i64 un) ∧ wx.cell? ⟨gv,1,none⟩ = some (.string (tx us)) ∧ wx.cell? ⟨gv,2,none⟩ = some (.slice Au nu cu)))) (by kernel_rfl) (HSX15.out _ ((Fr.refl _ _).below (Below.refl _ _).drew)) (fun hHeld=>?_)
                       refine tk 0 ?_
                       refine tk 1 ?_
                       refine tk 2 ?_
                       refine tk 3 ?_
                       refine tk 4 ?_
                       refine tk 6 ?_
                       refine tk 9 ?_
                       refine tk 10 ?_
                       refine tk 11 ?_
                       refine tk 13 ?_
                       obtain ⟨y0,hy0w⟩:∃ x,x = wr.drew:=⟨_,rfl⟩
                       rw [← hy0w]
                       have HFR:Hid (Fr (blocks (rowsS t)) wr y0):=Lib.hid (by rw [hy0w]; exact (Fr.refl _ _).below (Below.refl _ _).drew)
                       have HRLn:Hid (Lies wo.heap.size (k + 1 + (r.upto - r.frm)) y0 (rowsKV (rwS t.gK t.K) (rwS t.gV t.V) t (⟨yn,ys,.slice Ay ny cy,yM⟩:VL LM) (⟨un,us,.slice Au nu cu,uM⟩:VL LM))):=Lib.hid (by rw [hy0w]; exact HRL0.out.on (Below.refl _ _).drew)
                       clear hy0w
                       have HRL:=HRLn
                       clear HRLn
                       obtain ⟨c1,c2,-⟩:=HC.out _ HFR.out
                       refine wpAnyH_ready (rs:=[5,7,12,14]) (by kernel_rfl) (by simp) ?_
                       refine AllReadyH.cons rfl (fun K hK=>?_) (AllReadyH.cons rfl (fun K hK=>?_) (AllReadyH.cons rfl (fun K hK=>?_) (AllReadyH.cons rfl (fun K hK=>?_) AllReadyH.nil)))
                       ·go_simp
                        clear hHeld
                        refine hK.out _ _ (HSX15.out _ HFR.out) (fun hHeld=>?_)
                        clear hK K
                        clear hHeld c1 c2
                        revert HRL; revert HFR; revert y0
                        exact HGl5.out
                       ·go_simp
                        have hBa:=below_new y0 (.cells #[.int .i64 yn,.string (tx ys),.slice Ay ny cy] 81)
                        clear hHeld
                        refine hK.out _ _ (HSX15.out _ (HFR.out.below hBa)) (fun hHeld=>?_)
                        clear hK K
                        obtain ⟨g7,hg7⟩:∃ q,q = y0.heap.size:=⟨_,rfl⟩
                        obtain ⟨y1,hy1⟩:∃ q,q = y0.alloc (.cells #[.int .i64 yn,.string (tx ys),.slice Ay ny cy] 81):=⟨_,rfl⟩
                        rw [← hg7,← hy1]
                        rw [← hy1] at hBa hHeld
                        have hsN:y1.heap.size = y0.heap.size + 1:=by rw [hy1]; simp
                        have HFRn:=Lib.hid (HFR.out.below hBa)
                        have HRLn:=Lib.hid (HRL.out.on hBa)
                        have H7n:Hid (y1.heap[g7]? = some (.cells #[.int .i64 yn,.string (tx ys),.slice Ay ny cy] 81) ∧ wr.heap.size ≤ g7 ∧ g7 < y1.heap.size):=Lib.hid ⟨by rw [hy1,hg7]; exact heap_alloc_new _ _,by have:=HFR.out.size; omega,by omega⟩
                        clear HFR HRL hBa hsN hg7 hy1 c1 c2
                        have HFR:=HFRn
                        have HRL:=HRLn
                        have H7:=H7n
                        clear HFRn HRLn H7n
                        clear hHeld
                        revert H7; revert HRL; revert HFR; revert y1; revert g7
                        exact HGb7.out
                       ·go_simp
                        clear hHeld
                        refine hK.out _ _ (HSX15.out _ HFR.out) (fun hHeld=>?_)
                        clear hK K
                        clear hHeld c1 c2
                        revert HRL; revert HFR; revert y0
                        exact HGl12.out
                       ·go_simp
                        have hBa:=below_new y0 (.cells #[.int .i64 un,.string (tx us),.slice Au nu cu] 81)
                        clear hHeld
                        refine hK.out _ _ (HSX15.out _ (HFR.out.below hBa)) (fun hHeld=>?_)
                        clear hK K
                        obtain ⟨g14,hg14⟩:∃ q,q = y0.heap.size:=⟨_,rfl⟩
                        obtain ⟨y1,hy1⟩:∃ q,q = y0.alloc (.cells #[.int .i64 un,.string (tx us),.slice Au nu cu] 81):=⟨_,rfl⟩
                        rw [← hg14,← hy1]
                        rw [← hy1] at hBa hHeld
                        have hsN:y1.heap.size = y0.heap.size + 1:=by rw [hy1]; simp
                        have HFRn:=Lib.hid (HFR.out.below hBa)
                        have HRLn:=Lib.hid (HRL.out.on hBa)
                        have H14n:Hid (y1.heap[g14]? = some (.cells #[.int .i64 un,.string (tx us),.slice Au nu cu] 81) ∧ wr.heap.size ≤ g14 ∧ g14 < y1.heap.size):=Lib.hid ⟨by rw [hy1,hg14]; exact heap_alloc_new _ _,by have:=HFR.out.size; omega,by omega⟩
                        clear HFR HRL hBa hsN hg14 hy1 c1 c2
                        have HFR:=HFRn
                        have HRL:=HRLn
                        have H14:=H14n
                        clear HFRn HRLn H14n
                        clear hHeld
                        revert H14; revert HRL; revert HFR; revert y1; revert g14
                        exact HGb14.out
                      ·intro g14 y0 HFR HRL H14
                       have hHeld:=HSX15.out _ HFR.out
                       obtain ⟨c1,c2,-⟩:=HC.out _ HFR.out
                       refine wpAnyH_ready (rs:=[5,7,12]) (by kernel_rfl) (by simp) ?_
                       refine AllReadyH.cons rfl (fun K hK=>?_) (AllReadyH.cons rfl (fun K hK=>?_) (AllReadyH.cons rfl (fun K hK=>?_) AllReadyH.nil))
                       ·go_simp
                        clear hHeld
                        refine hK.out _ _ (HSX15.out _ HFR.out) (fun hHeld=>?_)
                        clear hK K
                        clear hHeld c1 c2
                        revert H14; revert HRL; revert HFR; revert y0; revert g14
                        exact HGb14l5.out
                       ·go_simp
                        have hBa:=below_new y0 (.cells #[.int .i64 yn,.string (tx ys),.slice Ay ny cy] 81)
                        clear hHeld
                        refine hK.out _ _ (HSX15.out _ (HFR.out.below hBa)) (fun hHeld=>?_)
                        clear hK K
                        obtain ⟨g7,hg7⟩:∃ q,q = y0.heap.size:=⟨_,rfl⟩
                        obtain ⟨y1,hy1⟩:∃ q,q = y0.alloc (.cells #[.int .i64 yn,.string (tx ys),.slice Ay ny cy] 81):=⟨_,rfl⟩
                        rw [← hg7,← hy1]
                        rw [← hy1] at hBa hHeld
                        have hsN:y1.heap.size = y0.heap.size + 1:=by rw [hy1]; simp
                        have HFRn:=Lib.hid (HFR.out.below hBa)
                        have HRLn:=Lib.hid (HRL.out.on hBa)
                        have H7n:Hid (y1.heap[g7]? = some (.cells #[.int .i64 yn,.string (tx ys),.slice Ay ny cy] 81) ∧ wr.heap.size ≤ g7 ∧ g7 < y1.heap.size):=Lib.hid ⟨by rw [hy1,hg7]; exact heap_alloc_new _ _,by have:=HFR.out.size; omega,by omega⟩
                        have H14n:Hid (y1.heap[g14]? = some (.cells #[.int .i64 un,.string (tx us),.slice Au nu cu] 81) ∧ wr.heap.size ≤ g14 ∧ g14 < y1.heap.size):=Lib.hid ⟨(hBa.block _ H14.out.2.2).trans H14.out.1,H14.out.2.1,Nat.lt_of_lt_of_le H14.out.2.2 hBa.size⟩
                        clear HFR HRL hBa hsN hg7 hy1 c1 c2 H14
                        have HFR:=HFRn
                        have HRL:=HRLn
                        have H7:=H7n
                        have H14:=H14n
                        clear HFRn HRLn H7n H14n
                        clear hHeld
                        revert H14; revert H7; revert HRL; revert HFR; revert y1; revert g14; revert g7
                        exact HGb14b7.out
                       ·go_simp
                        clear hHeld
                        refine hK.out _ _ (HSX15.out _ HFR.out) (fun hHeld=>?_)
                        clear hK K
                        clear hHeld c1 c2
                        revert H14; revert HRL; revert HFR; revert y0; revert g14
                        exact HGb14l12.out
                     ·intro y0 HFR HRL
                      have hHeld:=HSX15.out _ HFR.out
                      obtain ⟨c1,c2,-⟩:=HC.out _ HFR.out
                      refine wpAnyH_ready (rs:=[5,7,14]) (by kernel_rfl) (by simp) ?_
                      refine AllReadyH.cons rfl (fun K hK=>?_) (AllReadyH.cons rfl (fun K hK=>?_) (AllReadyH.cons rfl (fun K hK=>?_) AllReadyH.nil))
                      ·go_simp
                       clear hHeld
                       refine hK.out _ _ (HSX15.out _ HFR.out) (fun hHeld=>?_)
                       clear hK K
                       clear hHeld c1 c2
                       revert HRL; revert HFR; revert y0
                       exact HGl12l5.out
                      ·go_simp
                       have hBa:=below_new y0 (.cells #[.int .i64 yn,.string (tx ys),.slice Ay ny cy] 81)
                       clear hHeld
                       refine hK.out _ _ (HSX15.out _ (HFR.out.below hBa)) (fun hHeld=>?_)
                       clear hK K
                       obtain ⟨g7,hg7⟩:∃ q,q = y0.heap.size:=⟨_,rfl⟩
                       obtain ⟨y1,hy1⟩:∃ q,q = y0.alloc (.cells #[.int .i64 yn,.string (tx ys),.slice Ay ny cy] 81):=⟨_,rfl⟩
                       rw [← hg7,← hy1]
                       rw [← hy1] at hBa hHeld
                       have hsN:y1.heap.size = y0.heap.size + 1:=by rw [hy1]; simp
                       have HFRn:=Lib.hid (HFR.out.below hBa)
                       have HRLn:=Lib.hid (HRL.out.on hBa)
                       have H7n:Hid (y1.heap[g7]? = some (.cells #[.int .i64 yn,.string (tx ys),.slice Ay ny cy] 81) ∧ wr.heap.size ≤ g7 ∧ g7 < y1.heap.size):=Lib.hid ⟨by rw [hy1,hg7]; exact heap_alloc_new _ _,by have:=HFR.out.size; omega,by omega⟩
                       clear HFR HRL hBa hsN hg7 hy1 c1 c2
                       have HFR:=HFRn
                       have HRL:=HRLn
                       have H7:=H7n
                       clear HFRn HRLn H7n
                       clear hHeld
                       revert H7; revert HRL; revert HFR; revert y1; revert g7
                       exact HGb7l12.out
                      ·go_simp
                       have hBa:=below_new y0 (.cells #[.int .i64 un,.string (tx us),.slice Au nu cu] 81)
                       clear hHeld
                       refine hK.out _ _ (HSX15.out _ (HFR.out.below hBa)) (fun hHeld=>?_)
                       clear hK K
                       obtain ⟨g14,hg14⟩:∃ q,q = y0.heap.size:=⟨_,rfl⟩
                       obtain ⟨y1,hy1⟩:∃ q,q = y0.alloc (.cells #[.int .i64 un,.string (tx us),.slice Au nu cu] 81):=⟨_,rfl⟩
                       rw [← hg14,← hy1]
                       rw [← hy1] at hBa hHeld
                       have hsN:y1.heap.size = y0.heap.size + 1:=by rw [hy1]; simp
                       have HFRn:=Lib.hid (HFR.out.below hBa)
                       have HRLn:=Lib.hid (HRL.out.on hBa)
                       have H14n:Hid (y1.heap[g14]? = some (.cells #[.int .i64 un,.string (tx us),.slice Au nu cu] 81) ∧ wr.heap.size ≤ g14 ∧ g14 < y1.heap.size):=Lib.hid ⟨by rw [hy1,hg14]; exact heap_alloc_new _ _,by have:=HFR.out.size; omega,by omega⟩
                       clear HFR HRL hBa hsN hg14 hy1 c1 c2
                       have HFR:=HFRn
                       have HRL:=HRLn
                       have H14:=H14n
                       clear HFRn HRLn H14n
                       clear hHeld
                       exact HGb14l12.out g14 y1 HFR HRL H14
                    ·intro g14 y0 HFR HRL H14
                     have hHeld:=HSX15.out _ HFR.out
                     obtain ⟨c1,c2,-⟩:=HC.out _ HFR.out
                     refine wpAnyH_ready (rs:=[5,7]) (by kernel_rfl) (by simp) ?_
                     refine AllReadyH.cons rfl (fun K hK=>?_) (AllReadyH.cons rfl (fun K hK=>?_) AllReadyH.nil)
                     ·go_simp
                      clear hHeld
                      refine hK.out _ _ (HSX15.out _ HFR.out) (fun hHeld=>?_)
                      clear hK K
                      clear hHeld c1 c2
                      revert H14; revert HRL; revert HFR; revert y0; revert g14
                      exact HGb14l12l5.out
                     ·go_simp
                      have hBa:=below_new y0 (.cells #[.int .i64 yn,.string (tx ys),.slice Ay ny cy] 81)
                      clear hHeld
                      refine hK.out _ _ (HSX15.out _ (HFR.out.below hBa)) (fun hHeld=>?_)
                      clear hK K
                      obtain ⟨g7,hg7⟩:∃ q,q = y0.heap.size:=⟨_,rfl⟩
                      obtain ⟨y1,hy1⟩:∃ q,q = y0.alloc (.cells #[.int .i64 yn,.string (tx ys),.slice Ay ny cy] 81):=⟨_,rfl⟩
                      rw [← hg7,← hy1]
                      rw [← hy1] at hBa hHeld
                      have hsN:y1.heap.size = y0.heap.size + 1:=by rw [hy1]; simp
                      have HFRn:=Lib.hid (HFR.out.below hBa)
                      have HRLn:=Lib.hid (HRL.out.on hBa)
                      have H7n:Hid (y1.heap[g7]? = some (.cells #[.int .i64 yn,.string (tx ys),.slice Ay ny cy] 81) ∧ wr.heap.size ≤ g7 ∧ g7 < y1.heap.size):=Lib.hid ⟨by rw [hy1,hg7]; exact heap_alloc_new _ _,by have:=HFR.out.size; omega,by omega⟩
                      have H14n:Hid (y1.heap[g14]? = some (.cells #[.int .i64 un,.string (tx us),.slice Au nu cu] 81) ∧ wr.heap.size ≤ g14 ∧ g14 < y1.heap.size):=Lib.hid ⟨(hBa.block _ H14.out.2.2).trans H14.out.1,H14.out.2.1,Nat.lt_of_lt_of_le H14.out.2.2 hBa.size⟩
                      clear HFR HRL hBa hsN hg7 hy1 c1 c2 H14
                      have HFR:=HFRn
                      have HRL:=HRLn
                      have H7:=H7n
                      have H14:=H14n
                      clear HFRn HRLn H7n H14n
                      clear hHeld
                      revert H14; revert H7; revert HRL; revert HFR; revert y1; revert g14; revert g7
                      exact HGb14b7l12.out
                   ·intro g7 y0 HFR HRL H7
                    have hHeld:=HSX15.out _ HFR.out
                    obtain ⟨c1,c2,-⟩:=HC.out _ HFR.out
                    refine wpAnyH_ready (rs:=[5,12,14]) (by kernel_rfl) (by simp) ?_
                    refine AllReadyH.cons rfl (fun K hK=>?_) (AllReadyH.cons rfl (fun K hK=>?_) (AllReadyH.cons rfl (fun K hK=>?_) AllReadyH.nil))
                    ·go_simp
                     clear hHeld
                     refine hK.out _ _ (HSX15.out _ HFR.out) (fun hHeld=>?_)
                     clear hK K
                     clear hHeld c1 c2
                     revert H7; revert HRL; revert HFR; revert y0; revert g7
                     exact HGb7l5.out
                    ·go_simp
                     clear hHeld
                     refine hK.out _ _ (HSX15.out _ HFR.out) (fun hHeld=>?_)
                     clear hK K
                     clear hHeld c1 c2
                     exact HGb7l12.out g7 y0 HFR HRL H7
                    ·go_simp
                     have hBa:=below_new y0 (.cells #[.int .i64 un,.string (tx us),.slice Au nu cu] 81)
                     clear hHeld
                     refine hK.out _ _ (HSX15.out _ (HFR.out.below hBa)) (fun hHeld=>?_)
                     clear hK K
                     obtain ⟨g14,hg14⟩:∃ q,q = y0.heap.size:=⟨_,rfl⟩
                     obtain ⟨y1,hy1⟩:∃ q,q = y0.alloc (.cells #[.int .i64 un,.string (tx us),.slice Au nu cu] 81):=⟨_,rfl⟩
                     rw [← hg14,← hy1]
                     rw [← hy1] at hBa hHeld
                     have hsN:y1.heap.size = y0.heap.size + 1:=by rw [hy1]; simp
                     have HFRn:=Lib.hid (HFR.out.below hBa)
                     have HRLn:=Lib.hid (HRL.out.on hBa)
                     have H14n:Hid (y1.heap[g14]? = some (.cells #[.int .i64 un,.string (tx us),.slice Au nu cu] 81) ∧ wr.heap.size ≤ g14 ∧ g14 < y1.heap.size):=Lib.hid ⟨by rw [hy1,hg14]; exact heap_alloc_new _ _,by have:=HFR.out.size; omega,by omega⟩
                     have H7n:Hid (y1.heap[g7]? = some (.cells #[.int .i64 yn,.string (tx ys),.slice Ay ny cy] 81) ∧ wr.heap.size ≤ g7 ∧ g7 < y1.heap.size):=Lib.hid ⟨(hBa.block _ H7.out.2.2).trans H7.out.1,H7.out.2.1,Nat.lt_of_lt_of_le H7.out.2.2 hBa.size⟩
                     clear HFR HRL hBa hsN hg14 hy1 c1 c2 H7
                     have HFR:=HFRn
                     have HRL:=HRLn
                     have H14:=H14n
                     have H7:=H7n
                     clear HFRn HRLn H14n H7n
                     clear hHeld
                     exact HGb14b7.out g7 g14 y1 HFR HRL H7 H14
                  ·intro g7 g14 y0 HFR HRL H7 H14
                   have hHeld:=HSX15.out _ HFR.out
                   obtain ⟨c1,c2,-⟩:=HC.out _ HFR.out
                   refine wpAnyH_ready (rs:=[5,12]) (by kernel_rfl) (by simp) ?_
                   refine AllReadyH.cons rfl (fun K hK=>?_) (AllReadyH.cons rfl (fun K hK=>?_) AllReadyH.nil)
                   ·go_simp
                    clear hHeld
                    refine hK.out _ _ (HSX15.out _ HFR.out) (fun hHeld=>?_)
                    clear hK K
                    clear hHeld c1 c2
                    revert H14; revert H7; revert HRL; revert HFR; revert y0; revert g14; revert g7
                    exact HGb14b7l5.out
                   ·go_simp
                    clear hHeld
                    refine hK.out _ _ (HSX15.out _ HFR.out) (fun hHeld=>?_)
                    clear hK K
                    clear hHeld c1 c2
                    exact HGb14b7l12.out g7 g14 y0 HFR HRL H7 H14
                 ·intro g7 y0 HFR HRL H7
                  have hHeld:=HSX15.out _ HFR.out
                  obtain ⟨c1,c2,-⟩:=HC.out _ HFR.out
                  refine wpAnyH_ready (rs:=[5,14]) (by kernel_rfl) (by simp) ?_
                  refine AllReadyH.cons rfl (fun K hK=>?_) (AllReadyH.cons rfl (fun K hK=>?_) AllReadyH.nil)
                  ·go_simp
                   clear hHeld
                   refine hK.out _ _ (HSX15.out _ HFR.out) (fun hHeld=>?_)
                   clear hK K
                   clear hHeld c1 c2
                   revert H7; revert HRL; revert HFR; revert y0; revert g7
                   exact HGb7l12l5.out
                  ·go_simp
                   have hBa:=below_new y0 (.cells #[.int .i64 un,.string (tx us),.slice Au nu cu] 81)
                   clear hHeld
                   refine hK.out _ _ (HSX15.out _ (HFR.out.below hBa)) (fun hHeld=>?_)
                   clear hK K
                   obtain ⟨g14,hg14⟩:∃ q,q = y0.heap.size:=⟨_,rfl⟩
                   obtain ⟨y1,hy1⟩:∃ q,q = y0.alloc (.cells #[.int .i64 un,.string (tx us),.slice Au nu cu] 81):=⟨_,rfl⟩
                   rw [← hg14,← hy1]
                   rw [← hy1] at hBa hHeld
                   have hsN:y1.heap.size = y0.heap.size + 1:=by rw [hy1]; simp
                   have HFRn:=Lib.hid (HFR.out.below hBa)
                   have HRLn:=Lib.hid (HRL.out.on hBa)
                   have H14n:Hid (y1.heap[g14]? = some (.cells #[.int .i64 un,.string (tx us),.slice Au nu cu] 81) ∧ wr.heap.size ≤ g14 ∧ g14 < y1.heap.size):=Lib.hid ⟨by rw [hy1,hg14]; exact heap_alloc_new _ _,by have:=HFR.out.size; omega,by omega⟩
                   have H7n:Hid (y1.heap[g7]? = some (.cells #[.int .i64 yn,.string (tx ys),.slice Ay ny cy] 81) ∧ wr.heap.size ≤ g7 ∧ g7 < y1.heap.size):=Lib.hid ⟨(hBa.block _ H7.out.2.2).trans H7.out.1,H7.out.2.1,Nat.lt_of_lt_of_le H7.out.2.2 hBa.size⟩
                   clear HFR HRL hBa hsN hg14 hy1 c1 c2 H7
                   have HFR:=HFRn
                   have HRL:=HRLn
                   have H14:=H14n
                   have H7:=H7n
                   clear HFRn HRLn H14n H7n
                   clear hHeld
                   exact HGb14b7l12.out g7 g14 y1 HFR HRL H7 H14
                ·intro g7 g14 y0 HFR HRL H7 H14
                 have hHeld:=HSX15.out _ HFR.out
                 obtain ⟨c1,c2,-⟩:=HC.out _ HFR.out
                 refine wpAnyH_ready (rs:=[5]) (by kernel_rfl) (by simp) ?_
                 refine AllReadyH.cons rfl (fun K hK=>?_) AllReadyH.nil
                 go_simp
                 clear hHeld
                 refine hK.out _ _ (HSX15.out _ HFR.out) (fun hHeld=>?_)
                 clear hK K
                 clear hHeld c1 c2
                 revert H14; revert H7; revert HRL; revert HFR; revert y0; revert g14; revert g7
                 exact HGb14b7l12l5.out
               ·intro y0 HFR HRL
                have hHeld:=HSX15.out _ HFR.out
                obtain ⟨c1,c2,-⟩:=HC.out _ HFR.out
                refine wpAnyH_ready (rs:=[7,12,14]) (by kernel_rfl) (by simp) ?_
                refine AllReadyH.cons rfl (fun K hK=>?_) (AllReadyH.cons rfl (fun K hK=>?_) (AllReadyH.cons rfl (fun K hK=>?_) AllReadyH.nil))
                ·go_simp
                 have hBa:=below_new y0 (.cells #[.int .i64 yn,.string (tx ys),.slice Ay ny cy] 81)
                 clear hHeld
                 refine hK.out _ _ (HSX15.out _ (HFR.out.below hBa)) (fun hHeld=>?_)
                 clear hK K
                 obtain ⟨g7,hg7⟩:∃ q,q = y0.heap.size:=⟨_,rfl⟩
                 obtain ⟨y1,hy1⟩:∃ q,q = y0.alloc (.cells #[.int .i64 yn,.string (tx ys),.slice Ay ny cy] 81):=⟨_,rfl⟩
                 rw [← hg7,← hy1]
                 rw [← hy1] at hBa hHeld
                 have hsN:y1.heap.size = y0.heap.size + 1:=by rw [hy1]; simp
                 have HFRn:=Lib.hid (HFR.out.below hBa)
                 have HRLn:=Lib.hid (HRL.out.on hBa)
                 have H7n:Hid (y1.heap[g7]? = some (.cells #[.int .i64 yn,.string (tx ys),.slice Ay ny cy] 81) ∧ wr.heap.size ≤ g7 ∧ g7 < y1.heap.size):=Lib.hid ⟨by rw [hy1,hg7]; exact heap_alloc_new _ _,by have:=HFR.out.size; omega,by omega⟩
                 clear HFR HRL hBa hsN hg7 hy1 c1 c2
                 have HFR:=HFRn
                 have HRL:=HRLn
                 have H7:=H7n
                 clear HFRn HRLn H7n
                 clear hHeld
                 exact HGb7l5.out g7 y1 HFR HRL H7
                ·go_simp
                 clear hHeld
                 refine hK.out _ _ (HSX15.out _ HFR.out) (fun hHeld=>?_)
                 clear hK K
                 clear hHeld c1 c2
                 exact HGl12l5.out y0 HFR HRL
                ·go_simp
                 have hBa:=below_new y0 (.cells #[.int .i64 un,.string (tx us),.slice Au nu cu] 81)
                 clear hHeld
                 refine hK.out _ _ (HSX15.out _ (HFR.out.below hBa)) (fun hHeld=>?_)
                 clear hK K
                 obtain ⟨g14,hg14⟩:∃ q,q = y0.heap.size:=⟨_,rfl⟩
                 obtain ⟨y1,hy1⟩:∃ q,q = y0.alloc (.cells #[.int .i64 un,.string (tx us),.slice Au nu cu] 81):=⟨_,rfl⟩
                 rw [← hg14,← hy1]
                 rw [← hy1] at hBa hHeld
                 have hsN:y1.heap.size = y0.heap.size + 1:=by rw [hy1]; simp
                 have HFRn:=Lib.hid (HFR.out.below hBa)
                 have HRLn:=Lib.hid (HRL.out.on hBa)
                 have H14n:Hid (y1.heap[g14]? = some (.cells #[.int .i64 un,.string (tx us),.slice Au nu cu] 81) ∧ wr.heap.size ≤ g14 ∧ g14 < y1.heap.size):=Lib.hid ⟨by rw [hy1,hg14]; exact heap_alloc_new _ _,by have:=HFR.out.size; omega,by omega⟩
                 clear HFR HRL hBa hsN hg14 hy1 c1 c2
                 have HFR:=HFRn
                 have HRL:=HRLn
                 have H14:=H14n
                 clear HFRn HRLn H14n
                 clear hHeld
                 exact HGb14l5.out g14 y1 HFR HRL H14
              ·intro g14 y0 HFR HRL H14
               have hHeld:=HSX15.out _ HFR.out
               obtain ⟨c1,c2,-⟩:=HC.out _ HFR.out
               refine wpAnyH_ready (rs:=[7,12]) (by kernel_rfl) (by simp) ?_
               refine AllReadyH.cons rfl (fun K hK=>?_) (AllReadyH.cons rfl (fun K hK=>?_) AllReadyH.nil)
               ·go_simp
                have hBa:=below_new y0 (.cells #[.int .i64 yn,.string (tx ys),.slice Ay ny cy] 81)
                clear hHeld
                refine hK.out _ _ (HSX15.out _ (HFR.out.below hBa)) (fun hHeld=>?_)
                clear hK K
                obtain ⟨g7,hg7⟩:∃ q,q = y0.heap.size:=⟨_,rfl⟩
                obtain ⟨y1,hy1⟩:∃ q,q = y0.alloc (.cells #[.int .i64 yn,.string (tx ys),.slice Ay ny cy] 81):=⟨_,rfl⟩
                rw [← hg7,← hy1]
                rw [← hy1] at hBa hHeld
                have hsN:y1.heap.size = y0.heap.size + 1:=by rw [hy1]; simp
                have HFRn:=Lib.hid (HFR.out.below hBa)
                have HRLn:=Lib.hid (HRL.out.on hBa)
                have H7n:Hid (y1.heap[g7]? = some (.cells #[.int .i64 yn,.string (tx ys),.slice Ay ny cy] 81) ∧ wr.heap.size ≤ g7 ∧ g7 < y1.heap.size):=Lib.hid ⟨by rw [hy1,hg7]; exact heap_alloc_new _ _,by have:=HFR.out.size; omega,by omega⟩
                have H14n:Hid (y1.heap[g14]? = some (.cells #[.int .i64 un,.string (tx us),.slice Au nu cu] 81) ∧ wr.heap.size ≤ g14 ∧ g14 < y1.heap.size):=Lib.hid ⟨(hBa.block _ H14.out.2.2).trans H14.out.1,H14.out.2.1,Nat.lt_of_lt_of_le H14.out.2.2 hBa.size⟩
                clear HFR HRL hBa hsN hg7 hy1 c1 c2 H14
                have HFR:=HFRn
                have HRL:=HRLn
                have H7:=H7n
                have H14:=H14n
                clear HFRn HRLn H7n H14n
                clear hHeld
                exact HGb14b7l5.out g7 g14 y1 HFR HRL H7 H14
               ·go_simp
                clear hHeld
                refine hK.out _ _ (HSX15.out _ HFR.out) (fun hHeld=>?_)
                clear hK K
                clear hHeld c1 c2
                exact HGb14l12l5.out g14 y0 HFR HRL H14
             ·intro y0 HFR HRL
              have hHeld:=HSX15.out _ HFR.out
              obtain ⟨c1,c2,-⟩:=HC.out _ HFR.out
              refine wpAnyH_ready (rs:=[7,14]) (by kernel_rfl) (by simp) ?_
              refine AllReadyH.cons rfl (fun K hK=>?_) (AllReadyH.cons rfl (fun K hK=>?_) AllReadyH.nil)
              ·go_simp
               have hBa:=below_new y0 (.cells #[.int .i64 yn,.string (tx ys),.slice Ay ny cy] 81)
               clear hHeld
               refine hK.out _ _ (HSX15.out _ (HFR.out.below hBa)) (fun hHeld=>?_)
               clear hK K
               obtain ⟨g7,hg7⟩:∃ q,q = y0.heap.size:=⟨_,rfl⟩
               obtain ⟨y1,hy1⟩:∃ q,q = y0.alloc (.cells #[.int .i64 yn,.string (tx ys),.slice Ay ny cy] 81):=⟨_,rfl⟩
               rw [← hg7,← hy1]
               rw [← hy1] at hBa hHeld
               have hsN:y1.heap.size = y0.heap.size + 1:=by rw [hy1]; simp
               have HFRn:=Lib.hid (HFR.out.below hBa)
               have HRLn:=Lib.hid (HRL.out.on hBa)
               have H7n:Hid (y1.heap[g7]? = some (.cells #[.int .i64 yn,.string (tx ys),.slice Ay ny cy] 81) ∧ wr.heap.size ≤ g7 ∧ g7 < y1.heap.size):=Lib.hid ⟨by rw [hy1,hg7]; exact heap_alloc_new _ _,by have:=HFR.out.size; omega,by omega⟩
               clear HFR HRL hBa hsN hg7 hy1 c1 c2
               have HFR:=HFRn
               have HRL:=HRLn
               have H7:=H7n
               clear HFRn HRLn H7n
               clear hHeld
               exact HGb7l12l5.out g7 y1 HFR HRL H7
              ·go_simp
               have hBa:=below_new y0 (.cells #[.int .i64 un,.string (tx us),.slice Au nu cu] 81)
               clear hHeld
               refine hK.out _ _ (HSX15.out _ (HFR.out.below hBa)) (fun hHeld=>?_)
               clear hK K
               obtain ⟨g14,hg14⟩:∃ q,q = y0.heap.size:=⟨_,rfl⟩
               obtain ⟨y1,hy1⟩:∃ q,q = y0.alloc (.cells #[.int .i64 un,.string (tx us),.slice Au nu cu] 81):=⟨_,rfl⟩
               rw [← hg14,← hy1]
               rw [← hy1] at hBa hHeld
               have hsN:y1.heap.size = y0.heap.size + 1:=by rw [hy1]; simp
               have HFRn:=Lib.hid (HFR.out.below hBa)
               have HRLn:=Lib.hid (HRL.out.on hBa)
               have H14n:Hid (y1.heap[g14]? = some (.cells #[.int .i64 un,.string (tx us),.slice Au nu cu] 81) ∧ wr.heap.size ≤ g14 ∧ g14 < y1.heap.size):=Lib.hid ⟨by rw [hy1,hg14]; exact heap_alloc_new _ _,by have:=HFR.out.size; omega,by omega⟩
               clear HFR HRL hBa hsN hg14 hy1 c1 c2
               have HFR:=HFRn
               have HRL:=HRLn
               have H14:=H14n
               clear HFRn HRLn H14n
               clear hHeld
               exact HGb14l12l5.out g14 y1 HFR HRL H14
            ·intro g14 y0 HFR HRL H14
             have hHeld:=HSX15.out _ HFR.out
             obtain ⟨c1,c2,-⟩:=HC.out _ HFR.out
             refine wpAnyH_ready (rs:=[7]) (by kernel_rfl) (by simp) ?_
             refine AllReadyH.cons rfl (fun K hK=>?_) AllReadyH.nil
             go_simp
             have hBa:=below_new y0 (.cells #[.int .i64 yn,.string (tx ys),.slice Ay ny cy] 81)
             clear hHeld
             refine hK.out _ _ (HSX15.out _ (HFR.out.below hBa)) (fun hHeld=>?_)
             clear hK K
             obtain ⟨g7,hg7⟩:∃ q,q = y0.heap.size:=⟨_,rfl⟩
             obtain ⟨y1,hy1⟩:∃ q,q = y0.alloc (.cells #[.int .i64 yn,.string (tx ys),.slice Ay ny cy] 81):=⟨_,rfl⟩
             rw [← hg7,← hy1]
             rw [← hy1] at hBa hHeld
             have hsN:y1.heap.size = y0.heap.size + 1:=by rw [hy1]; simp
             have HFRn:=Lib.hid (HFR.out.below hBa)
             have HRLn:=Lib.hid (HRL.out.on hBa)
             have H7n:Hid (y1.heap[g7]? = some (.cells #[.int .i64 yn,.string (tx ys),.slice Ay ny cy] 81) ∧ wr.heap.size ≤ g7 ∧ g7 < y1.heap.size):=Lib.hid ⟨by rw [hy1,hg7]; exact heap_alloc_new _ _,by have:=HFR.out.size; omega,by omega⟩
             have H14n:Hid (y1.heap[g14]? = some (.cells #[.int .i64 un,.string (tx us),.slice Au nu cu] 81) ∧ wr.heap.size ≤ g14 ∧ g14 < y1.heap.size):=Lib.hid ⟨(hBa.block _ H14.out.2.2).trans H14.out.1,H14.out.2.1,Nat.lt_of_lt_of_le H14.out.2.2 hBa.size⟩
             clear HFR HRL hBa hsN hg7 hy1 c1 c2 H14
             have HFR:=HFRn
             have HRL:=HRLn
             have H7:=H7n
             have H14:=H14n
             clear HFRn HRLn H7n H14n
             clear hHeld
             exact HGb14b7l12l5.out g7 g14 y1 HFR HRL H7 H14
           ·intro g7 y0 HFR HRL H7
            have hHeld:=HSX15.out _ HFR.out
            obtain ⟨c1,c2,-⟩:=HC.out _ HFR.out
            refine wpAnyH_ready (rs:=[8,12,14]) (by kernel_rfl) (by simp) ?_
            refine AllReadyH.cons rfl (fun K hK=>?_) (AllReadyH.cons rfl (fun K hK=>?_) (AllReadyH.cons rfl (fun K hK=>?_) AllReadyH.nil))
            ·(refine step_append_lies _ rfl _ _ 65 rfl wo.heap.size 81 j0 _ 3 48 Tryz.underlying65 hj hyz0 hyz1 hyz2 rfl (by decide) (.slice AK t.K.length cK) t.K.length (t.K.flatMap cV') (by simp [Act.eval,Act.put]) (HOK.out _ _ HRL.out) ⟨g7,0,none⟩ 1 1 [.int .i64 yn,.string (tx ys),.slice Ay ny cy] (by simp [Act.eval,Act.put]) rfl (World.news_of_block H7.out.1) (by simp [Value.oneCell']) (by decide) (by unfold maxLen; omega) (by omega) (by have:=HFR.out.size; omega) y0.heap.size rfl ?_; intro gK8 cK8 y1 hown8 hg8 hat8 hlt8)
             have hFn:=HFR.out.grown hg8 (fun i hi _=>(HIK.out i hi).1)
             clear hHeld
             refine hK.out _ _ (HSX15.out _ hFn) (fun hHeld=>?_)
             clear hK K
             have HFRn:=Lib.hid hFn
             have HRLn:=Lib.hid (Lies.pushK HRL.out (by show World.grownBy _ _ t.gK.ownBlock; rw [HGKV.out.1]; exact hg8) hown8 (by show t.gK.ownBlock = _ ∨ _; rw [HGKV.out.1]; exact hat8) (by omega))
             have HK8:Hid (t.gK.ownBlock = some gK8 ∨ wr.heap.size ≤ gK8):=Lib.hid (by rw [HGKV.out.1]; exact hat8.imp id (fun h=>by have:=HFR.out.size; omega))
             clear HFR HRL hFn hown8 hg8 hat8 hlt8 c1 c2 H7
             have HFR:=HFRn
             have HRL:=HRLn
             clear HFRn HRLn
             clear hHeld
             revert HK8; revert HRL; revert HFR; revert y1; revert cK8; revert gK8; revert g7
             exact HGa8b7l5.out
            ·go_simp
             clear hHeld
             refine hK.out _ _ (HSX15.out _ HFR.out) (fun hHeld=>?_)
             clear hK K
             clear hHeld c1 c2
             exact HGb7l12l5.out g7 y0 HFR HRL H7
            ·go_simp
             have hBa:=below_new y0 (.cells #[.int .i64 un,.string (tx us),.slice Au nu cu] 81)
             clear hHeld
             refine hK.out _ _ (HSX15.out _ (HFR.out.below hBa)) (fun hHeld=>?_)
             clear hK K
             obtain ⟨g14,hg14⟩:∃ q,q = y0.heap.size:=⟨_,rfl⟩
             obtain ⟨y1,hy1⟩:∃ q,q = y0.alloc (.cells #[.int .i64 un,.string (tx us),.slice Au nu cu] 81):=⟨_,rfl⟩
             rw [← hg14,← hy1]
             rw [← hy1] at hBa hHeld
             have hsN:y1.heap.size = y0.heap.size + 1:=by rw [hy1]; simp
             have HFRn:=Lib.hid (HFR.out.below hBa)
             have HRLn:=Lib.hid (HRL.out.on hBa)
             have H14n:Hid (y1.heap[g14]? = some (.cells #[.int .i64 un,.string (tx us),.slice Au nu cu] 81) ∧ wr.heap.size ≤ g14 ∧ g14 < y1.heap.size):=Lib.hid ⟨by rw [hy1,hg14]; exact heap_alloc_new _ _,by have:=HFR.out.size; omega,by omega⟩
             have H7n:Hid (y1.heap[g7]? = some (.cells #[.int .i64 yn,.string (tx ys),.slice Ay ny cy] 81) ∧ wr.heap.size ≤ g7 ∧ g7 < y1.heap.size):=Lib.hid ⟨(hBa.block _ H7.out.2.2).trans H7.out.1,H7.out.2.1,Nat.lt_of_lt_of_le H7.out.2.2 hBa.size⟩
             clear HFR HRL hBa hsN hg14 hy1 c1 c2 H7
             have HFR:=HFRn
             have HRL:=HRLn
             have H14:=H14n
             have H7:=H7n
             clear HFRn HRLn H14n H7n
             clear hHeld
             exact HGb14b7l5.out g7 g14 y1 HFR HRL H7 H14
          ·intro g7 g14 y0 HFR HRL H7 H14
           have hHeld:=HSX15.out _ HFR.out
           obtain ⟨c1,c2,-⟩:=HC.out _ HFR.out
           refine wpAnyH_ready (rs:=[8,12]) (by kernel_rfl) (by simp) ?_
           refine AllReadyH.cons rfl (fun K hK=>?_) (AllReadyH.cons rfl (fun K hK=>?_) AllReadyH.nil)
           ·(refine step_append_lies _ rfl _ _ 65 rfl wo.heap.size 81 j0 _ 3 48 Tryz.underlying65 hj hyz0 hyz1 hyz2 rfl (by decide) (.slice AK t.K.length cK) t.K.length (t.K.flatMap cV') (by simp [Act.eval,Act.put]) (HOK.out _ _ HRL.out) ⟨g7,0,none⟩ 1 1 [.int .i64 yn,.string (tx ys),.slice Ay ny cy] (by simp [Act.eval,Act.put]) rfl (World.news_of_block H7.out.1) (by simp [Value.oneCell']) (by decide) (by unfold maxLen; omega) (by omega) (by have:=HFR.out.size; omega) y0.heap.size rfl ?_; intro gK8 cK8 y1 hown8 hg8 hat8 hlt8)
            have hFn:=HFR.out.grown hg8 (fun i hi _=>(HIK.out i hi).1)
            clear hHeld
            refine hK.out _ _ (HSX15.out _ hFn) (fun hHeld=>?_)
            clear hK K
            have HFRn:=Lib.hid hFn
            have HRLn:=Lib.hid (Lies.pushK HRL.out (by show World.grownBy _ _ t.gK.ownBlock; rw [HGKV.out.1]; exact hg8) hown8 (by show t.gK.ownBlock = _ ∨ _; rw [HGKV.out.1]; exact hat8) (by omega))
            have HK8:Hid (t.gK.ownBlock = some gK8 ∨ wr.heap.size ≤ gK8):=Lib.hid (by rw [HGKV.out.1]; exact hat8.imp id (fun h=>by have:=HFR.out.size; omega))
            have H14n:Hid (y1.heap[g14]? = some (.cells #[.int .i64 un,.string (tx us),.slice Au nu cu] 81) ∧ wr.heap.size ≤ g14 ∧ g14 < y1.heap.size):=Lib.hid ⟨(hg8.block _ H14.out.2.2 (fun e=>by have h1:=(HIK.out g14 e.symm).2; have h2:=H14.out.2.1; omega)).trans H14.out.1,H14.out.2.1,Nat.lt_of_lt_of_le H14.out.2.2 hg8.size⟩
            clear HFR HRL hFn hown8 hg8 hat8 hlt8 c1 c2 H7 H14
            have HFR:=HFRn
            have HRL:=HRLn
            have H14:=H14n
            clear HFRn HRLn H14n
            clear hHeld
            revert H14; revert HK8; revert HRL; revert HFR; revert y1; revert cK8; revert gK8; revert g14; revert g7
            exact HGa8b14b7l5.out
           ·go_simp
            clear hHeld
            refine hK.out _ _ (HSX15.out _ HFR.out) (fun hHeld=>?_)
            clear hK K
            clear hHeld c1 c2
            exact HGb14b7l12l5.out g7 g14 y0 HFR HRL H7 H14
         ·intro g7 y0 HFR HRL H7
          have hHeld:=HSX15.out _ HFR.out
          obtain ⟨c1,c2,-⟩:=HC.out _ HFR.out
          refine wpAnyH_ready (rs:=[8,14]) (by kernel_rfl) (by simp) ?_
          refine AllReadyH.cons rfl (fun K hK=>?_) (AllReadyH.cons rfl (fun K hK=>?_) AllReadyH.nil)
          ·(refine step_append_lies _ rfl _ _ 65 rfl wo.heap.size 81 j0 _ 3 48 Tryz.underlying65 hj hyz0 hyz1 hyz2 rfl (by decide) (.slice AK t.K.length cK) t.K.length (t.K.flatMap cV') (by simp [Act.eval,Act.put]) (HOK.out _ _ HRL.out) ⟨g7,0,none⟩ 1 1 [.int .i64 yn,.string (tx ys),.slice Ay ny cy] (by simp [Act.eval,Act.put]) rfl (World.news_of_block H7.out.1) (by simp [Value.oneCell']) (by decide) (by unfold maxLen; omega) (by omega) (by have:=HFR.out.size; omega) y0.heap.size rfl ?_; intro gK8 cK8 y1 hown8 hg8 hat8 hlt8)
           have hFn:=HFR.out.grown hg8 (fun i hi _=>(HIK.out i hi).1)
           clear hHeld
           refine hK.out _ _ (HSX15.out _ hFn) (fun hHeld=>?_)
           clear hK K
           have HFRn:=Lib.hid hFn
           have HRLn:=Lib.hid (Lies.pushK HRL.out (by show World.grownBy _ _ t.gK.ownBlock; rw [HGKV.out.1]; exact hg8) hown8 (by show t.gK.ownBlock = _ ∨ _; rw [HGKV.out.1]; exact hat8) (by omega))
           have HK8:Hid (t.gK.ownBlock = some gK8 ∨ wr.heap.size ≤ gK8):=Lib.hid (by rw [HGKV.out.1]; exact hat8.imp id (fun h=>by have:=HFR.out.size; omega))
           clear HFR HRL hFn hown8 hg8 hat8 hlt8 c1 c2 H7
           have HFR:=HFRn
           have HRL:=HRLn
           clear HFRn HRLn
           clear hHeld
           revert HK8; revert HRL; revert HFR; revert y1; revert cK8; revert gK8; revert g7
           exact HGa8b7l12l5.out
          ·go_simp
           have hBa:=below_new y0 (.cells #[.int .i64 un,.string (tx us),.slice Au nu cu] 81)
           clear hHeld
           refine hK.out _ _ (HSX15.out _ (HFR.out.below hBa)) (fun hHeld=>?_)
           clear hK K
           obtain ⟨g14,hg14⟩:∃ q,q = y0.heap.size:=⟨_,rfl⟩
           obtain ⟨y1,hy1⟩:∃ q,q = y0.alloc (.cells #[.int .i64 un,.string (tx us),.slice Au nu cu] 81):=⟨_,rfl⟩
           rw [← hg14,← hy1]
           rw [← hy1] at hBa hHeld
           have hsN:y1.heap.size = y0.heap.size + 1:=by rw [hy1]; simp
           have HFRn:=Lib.hid (HFR.out.below hBa)
           have HRLn:=Lib.hid (HRL.out.on hBa)
           have H14n:Hid (y1.heap[g14]? = some (.cells #[.int .i64 un,.string (tx us),.slice Au nu cu] 81) ∧ wr.heap.size ≤ g14 ∧ g14 < y1.heap.size):=Lib.hid ⟨by rw [hy1,hg14]; exact heap_alloc_new _ _,by have:=HFR.out.size; omega,by omega⟩
           have H7n:Hid (y1.heap[g7]? = some (.cells #[.int .i64 yn,.string (tx ys),.slice Ay ny cy] 81) ∧ wr.heap.size ≤ g7 ∧ g7 < y1.heap.size):=Lib.hid ⟨(hBa.block _ H7.out.2.2).trans H7.out.1,H7.out.2.1,Nat.lt_of_lt_of_le H7.out.2.2 hBa.size⟩
           clear HFR HRL hBa hsN hg14 hy1 c1 c2 H7
           have HFR:=HFRn
           have HRL:=HRLn
           have H14:=H14n
           have H7:=H7n
           clear HFRn HRLn H14n H7n
           clear hHeld
           exact HGb14b7l12l5.out g7 g14 y1 HFR HRL H7 H14
        ·intro g7 g14 y0 HFR HRL H7 H14
         have hHeld:=HSX15.out _ HFR.out
         obtain ⟨c1,c2,-⟩:=HC.out _ HFR.out
         refine wpAnyH_ready (rs:=[8]) (by kernel_rfl) (by simp) ?_
         refine AllReadyH.cons rfl (fun K hK=>?_) AllReadyH.nil
         (refine step_append_lies _ rfl _ _ 65 rfl wo.heap.size 81 j0 _ 3 48 Tryz.underlying65 hj hyz0 hyz1 hyz2 rfl (by decide) (.slice AK t.K.length cK) t.K.length (t.K.flatMap cV') (by simp [Act.eval,Act.put]) (HOK.out _ _ HRL.out) ⟨g7,0,none⟩ 1 1 [.int .i64 yn,.string (tx ys),.slice Ay ny cy] (by simp [Act.eval,Act.put]) rfl (World.news_of_block H7.out.1) (by simp [Value.oneCell']) (by decide) (by unfold maxLen; omega) (by omega) (by have:=HFR.out.size; omega) y0.heap.size rfl ?_; intro gK8 cK8 y1 hown8 hg8 hat8 hlt8)
         have hFn:=HFR.out.grown hg8 (fun i hi _=>(HIK.out i hi).1)
         clear hHeld
         refine hK.out _ _ (HSX15.out _ hFn) (fun hHeld=>?_)
         clear hK K
         have HFRn:=Lib.hid hFn
         have HRLn:=Lib.hid (Lies.pushK HRL.out (by show World.grownBy _ _ t.gK.ownBlock; rw [HGKV.out.1]; exact hg8) hown8 (by show t.gK.ownBlock = _ ∨ _; rw [HGKV.out.1]; exact hat8) (by omega))
         have HK8:Hid (t.gK.ownBlock = some gK8 ∨ wr.heap.size ≤ gK8):=Lib.hid (by rw [HGKV.out.1]; exact hat8.imp id (fun h=>by have:=HFR.out.size; omega))
         have H14n:Hid (y1.heap[g14]? = some (.cells #[.int .i64 un,.string (tx us),.slice Au nu cu] 81) ∧ wr.heap.size ≤ g14 ∧ g14 < y1.heap.size):=Lib.hid ⟨(hg8.block _ H14.out.2.2 (fun e=>by have h1:=(HIK.out g14 e.symm).2; have h2:=H14.out.2.1; omega)).trans H14.out.1,H14.out.2.1,Nat.lt_of_lt_of_le H14.out.2.2 hg8.size⟩
         clear HFR HRL hFn hown8 hg8 hat8 hlt8 c1 c2 H7 H14
         have HFR:=HFRn
         have HRL:=HRLn
         have H14:=H14n
         clear HFRn HRLn H14n
         clear hHeld
         revert H14; revert HK8; revert HRL; revert HFR; revert y1; revert cK8; revert gK8; revert g14; revert g7
         exact HGa8b14b7l12l5.out
       ·intro g7 gK8 cK8 y0 HFR HRL HK8
        have hHeld:=HSX15.out _ HFR.out
        obtain ⟨c1,c2,-⟩:=HC.out _ HFR.out
        refine wpAnyH_ready (rs:=[12,14]) (by kernel_rfl) (by simp) ?_
        refine AllReadyH.cons rfl (fun K hK=>?_) (AllReadyH.cons rfl (fun K hK=>?_) AllReadyH.nil)
        ·go_simp
         clear hHeld
         refine hK.out _ _ (HSX15.out _ HFR.out) (fun hHeld=>?_)
         clear hK K
         clear hHeld c1 c2
         exact HGa8b7l12l5.out g7 gK8 cK8 y0 HFR HRL HK8
        ·go_simp
         have hBa:=below_new y0 (.cells #[.int .i64 un,.string (tx us),.slice Au nu cu] 81)
         clear hHeld
         refine hK.out _ _ (HSX15.out _ (HFR.out.below hBa)) (fun hHeld=>?_)
         clear hK K
         obtain ⟨g14,hg14⟩:∃ q,q = y0.heap.size:=⟨_,rfl⟩
         obtain ⟨y1,hy1⟩:∃ q,q = y0.alloc (.cells #[.int .i64 un,.string (tx us),.slice Au nu cu] 81):=⟨_,rfl⟩
         rw [← hg14,← hy1]
         rw [← hy1] at hBa hHeld
         have hsN:y1.heap.size = y0.heap.size + 1:=by rw [hy1]; simp
         have HFRn:=Lib.hid (HFR.out.below hBa)
         have HRLn:=Lib.hid (HRL.out.on hBa)
         have H14n:Hid (y1.heap[g14]? = some (.cells #[.int .i64 un,.string (tx us),.slice Au nu cu] 81) ∧ wr.heap.size ≤ g14 ∧ g14 < y1.heap.size):=Lib.hid ⟨by rw [hy1,hg14]; exact heap_alloc_new _ _,by have:=HFR.out.size; omega,by omega⟩
         clear HFR HRL hBa hsN hg14 hy1 c1 c2
         have HFR:=HFRn
         have HRL:=HRLn
         have H14:=H14n
         clear HFRn HRLn H14n
         clear hHeld
         exact HGa8b14b7l5.out g7 g14 gK8 cK8 y1 HFR HRL HK8 H14
      ·intro g7 g14 gK8 cK8 y0 HFR HRL HK8 H14
       have hHeld:=HSX15.out _ HFR.out
       obtain ⟨c1,c2,-⟩:=HC.out _ HFR.out
       refine wpAnyH_ready (rs:=[12]) (by kernel_rfl) (by simp) ?_
       refine AllReadyH.cons rfl (fun K hK=>?_) AllReadyH.nil
       go_simp
       clear hHeld
       refine hK.out _ _ (HSX15.out _ HFR.out) (fun hHeld=>?_)
       clear hK K
       clear hHeld c1 c2
       exact HGa8b14b7l12l5.out g7 g14 gK8 cK8 y0 HFR HRL HK8 H14
     ·intro g7 gK8 cK8 y0 HFR HRL HK8
      have hHeld:=HSX15.out _ HFR.out
      obtain ⟨c1,c2,-⟩:=HC.out _ HFR.out
      refine wpAnyH_ready (rs:=[14]) (by kernel_rfl) (by simp) ?_
      refine AllReadyH.cons rfl (fun K hK=>?_) AllReadyH.nil
      go_simp
      have hBa:=below_new y0 (.cells #[.int .i64 un,.string (tx us),.slice Au nu cu] 81)
      clear hHeld
      refine hK.out _ _ (HSX15.out _ (HFR.out.below hBa)) (fun hHeld=>?_)
      clear hK K
      obtain ⟨g14,hg14⟩:∃ q,q = y0.heap.size:=⟨_,rfl⟩
      obtain ⟨y1,hy1⟩:∃ q,q = y0.alloc (.cells #[.int .i64 un,.string (tx us),.slice Au nu cu] 81):=⟨_,rfl⟩
      rw [← hg14,← hy1]
      rw [← hy1] at hBa hHeld
      have hsN:y1.heap.size = y0.heap.size + 1:=by rw [hy1]; simp
      have HFRn:=Lib.hid (HFR.out.below hBa)
      have HRLn:=Lib.hid (HRL.out.on hBa)
      have H14n:Hid (y1.heap[g14]? = some (.cells #[.int .i64 un,.string (tx us),.slice Au nu cu] 81) ∧ wr.heap.size ≤ g14 ∧ g14 < y1.heap.size):=Lib.hid ⟨by rw [hy1,hg14]; exact heap_alloc_new _ _,by have:=HFR.out.size; omega,by omega⟩
      clear HFR HRL hBa hsN hg14 hy1 c1 c2
      have HFR:=HFRn
      have HRL:=HRLn
      have H14:=H14n
      clear HFRn HRLn H14n
      clear hHeld
      exact HGa8b14b7l12l5.out g7 g14 gK8 cK8 y1 HFR HRL HK8 H14
    ·intro g7 g14 gK8 cK8 y0 HFR HRL HK8 H14
     have hHeld:=HSX15.out _ HFR.out
     obtain ⟨c1,c2,-⟩:=HC.out _ HFR.out
     refine wpAnyH_ready (rs:=[15]) (by kernel_rfl) (by simp) ?_
     refine AllReadyH.cons rfl (fun K hK=>?_) AllReadyH.nil
     (refine step_append_lies _ rfl _ _ 65 rfl wo.heap.size 81 j0 _ 3 48 Tryz.underlying65 hj hyz0 hyz1 hyz2 rfl (by decide) (.slice AV t.V.length cV) t.V.length (t.V.flatMap cV') (by simp [Act.eval,Act.put]) (HOV.out _ _ HRL.out) ⟨g14,0,none⟩ 1 1 [.int .i64 un,.string (tx us),.slice Au nu cu] (by simp [Act.eval,Act.put]) rfl (World.news_of_block H14.out.1) (by simp [Value.oneCell']) (by decide) (by unfold maxLen; omega) (by omega) (by have:=HFR.out.size; omega) y0.heap.size rfl ?_; intro gV8 cV8 y1 hown8 hg8 hat8 hlt8)
     have hFn:=HFR.out.grown hg8 (fun i hi _=>(HIV.out i hi).1)
     clear hHeld
     refine hK.out _ _ (HSX15.out _ hFn) (fun hHeld=>?_)
     clear hK K
     have HFRn:=Lib.hid hFn
     have HRLn:=Lib.hid (Lies.pushV HRL.out (by show World.grownBy _ _ t.gV.ownBlock; rw [HGKV.out.2]; exact hg8) hown8 (by show t.gV.ownBlock = _ ∨ _; rw [HGKV.out.2]; exact hat8) (by omega))
     have HV8:Hid (t.gV.ownBlock = some gV8 ∨ wr.heap.size ≤ gV8):=Lib.hid (by rw [HGKV.out.2]; exact hat8.imp id (fun h=>by have:=HFR.out.size; omega))
     clear HFR HRL hFn hown8 hg8 hat8 hlt8 c1 c2 H14
     have HFR:=HFRn
     have HRL:=HRLn
     clear HFRn HRLn
     clear hHeld
     revert HV8; revert HK8; revert HRL; revert HFR; revert y1; revert cV8; revert gV8; revert cK8; revert gK8; revert g14; revert g7
     exact HGO.out
   intro g7 g14 gK8 cK8 gV8 cV8 yN HFR HRL HK8 HV8
   have HF:=Lib.hid (And.intro HFR.out (And.intro HRL.out (And.intro HK8.out HV8.out)))
   clear HFR HRL HK8 HV8
   have hHeld:=HSX15.out _ HF.out.1
   obtain ⟨c1,c2,fz⟩:=HC.out _ HF.out.1
   refine tk 16 ?_
   refine tk 17 ?_
   refine wpAnyH_ready (rs:=[18]) (by kernel_rfl) (by simp) ?_
   refine AllReadyH.cons rfl (fun K hK=>?_) AllReadyH.nil
   go_simp
   refine hK.out _ _ (HSY.out yN _ HF.out.1 (fun q hq=>set_far (fun e=>hq e.symm))) (fun hHeld=>?_)
   clear hK K
   have hkA:∀ q,q ≠ g → (yN.setCell ⟨g,o + 1,none⟩ (.slice (some ⟨gK8,0,none⟩) (t.K.length + 1) cK8)).heap[q]? = yN.heap[q]?:=fun q hq=>set_far (fun e=>hq e.symm)
   have c2A:(yN.setCell ⟨g,o + 1,none⟩ (.slice (some ⟨gK8,0,none⟩) (t.K.length + 1) cK8)).cell? ⟨g,o + 2,none⟩ = some (.slice AV t.V.length cV):=(cell_apart _ _ _ _ _ (by omega)).trans c2
   have fA:∀ q,(yN.setCell ⟨g,o + 1,none⟩ (.slice (some ⟨gK8,0,none⟩) (t.K.length + 1) cK8)).frozen? ⟨g,q,none⟩ = false:=fun q=>(froz_put _ _ _ _ _).trans (fz q)
   obtain ⟨yA,hyA⟩:∃ x,x = yN.setCell ⟨g,o + 1,none⟩ (.slice (some ⟨gK8,0,none⟩) (t.K.length + 1) cK8):=⟨_,rfl⟩
   rw [← hyA] at hHeld hkA c2A fA ⊢
   have HYA:=Lib.hid hyA
   clear hyA c1 c2 fz
   refine tk 19 ?_
   refine tk 20 ?_
   refine wpAnyH_ready (rs:=[21]) (by kernel_rfl) (by simp) ?_
   refine AllReadyH.cons rfl (fun K hK=>?_) AllReadyH.nil
   go_simp
   refine hK.out _ _ (HSY.out yN _ HF.out.1 (fun q hq=>(set_far (fun e=>hq e.symm)).trans (hkA q hq))) (fun hHeld=>?_)
   clear hK K
   refine wpAnyH_done (by kernel_rfl) ?_ _
   go_wp2
   go_end0
   obtain ⟨hAr,hLr,hbw,hAt,hgn,hful,hnew,hrs⟩:=HPOST.out
   rw [HYA.out]
   obtain ⟨-,hLt,-,-⟩:=HAS.out
   exact pair_post (xk:=(⟨yn,ys,.slice Ay ny cy,yM⟩:VL LM)) (xv:=(⟨un,us,.slice Au nu cu,uM⟩:VL LM)) hgw hAt (hLt.more (by omega)) hgn (((Fr.refl _ _).below hbw).trans HF.out.1) (fun q hq=>by have:=hnew q hq; omega) (HF.out.2.2.1.imp id (fun h=>by omega)) (HF.out.2.2.2.imp id (fun h=>by omega)) HF.out.2.1 hful HFIN.out.2.2.2 (by rw [HDD.out.1,HFIN.out.1]; rfl)
end Go.Proofs.YtckcojkpghiclaaGreatDoor.T11
