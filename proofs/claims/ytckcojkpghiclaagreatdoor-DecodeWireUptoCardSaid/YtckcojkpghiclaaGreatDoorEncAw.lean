/-
 A message,made normal: the contract of normal,of any message that is of its message; and of Normal and Is.
-/
import Derived.Test.YtckcojkpghiclaaGreatDoorTyNorm
import Derived.Test.YtckcojkpghiclaaGreatDoorTyRising
import Derived.Test.YtckcojkpghiclaaGreatDoorTabCode
import Derived.Test.YtckcojkpghiclaaGreatDoorTokMath
import Derived.Test.YtckcojkpghiclaaGreatDoorVarMay
import Derived.Deep.RegionHeldLaw
import Derived.Deep.RegionLaw
import Derived.Deep.RegionHeld3
import Derived.Test.YtckcojkpghiclaaGreatDoorRecRput
namespace Go.Proofs.YtckcojkpghiclaaGreatDoor.T9
set_option maxRecDepth 100000
open Go.Proofs.YtckcojkpghiclaaGreatDoor.T4
open Go.RowKit Go.Maps
theorem dc_cells {w:World} {g:Nat} {f:Df} {fr:Nat × Nat} (h:w.heap[g]? = some (.cells #[.int .i64 f.no,.string (txt f.name),.int .i64 f.kind,.int .i64 f.ref,.bool f.rep,.int .i64 f.key,.int .i64 f.one] 45 fr)) :
  w.cell? ⟨g,0,none⟩ = some (.int .i64 f.no) ∧ w.cell? ⟨g,1,none⟩ = some (.string (txt f.name)) ∧ w.cell? ⟨g,2,none⟩ = some (.int .i64 f.kind) ∧ w.cell? ⟨g,3,none⟩ = some (.int .i64 f.ref) ∧ w.cell? ⟨g,4,none⟩ = some (.bool f.rep) ∧ w.cell? ⟨g,5,none⟩ = some (.int .i64 f.key) ∧ w.cell? ⟨g,6,none⟩ = some (.int .i64 f.one) :=
 ⟨by rw [heap_cell h 0]; rfl,by rw [heap_cell h 1]; rfl,by rw [heap_cell h 2]; rfl,by rw [heap_cell h 3]; rfl,by rw [heap_cell h 4]; rfl,by rw [heap_cell h 5]; rfl,by rw [heap_cell h 6]; rfl⟩
theorem told_next {α β:Type} {l:List α} {k:Nat} {a:α} (g:α → Option β) (h:l[k]? = some a):(l.take (k + 1)).filterMap g = (l.take k).filterMap g ++ (g a).toList:=by
 rw [List.take_add_one,h,List.filterMap_append]
 simp [List.filterMap_cons]
 cases g a <;> rfl
theorem told_len {α β:Type} (l:List α) (k:Nat) (g:α → Option β):((l.take k).filterMap g).length ≤ k:=Nat.le_trans (List.length_filterMap_le _ _) (by rw [List.length_take]; omega)
set_option maxRecDepth 1000000 in
set_option maxHeartbeats 8000000 in
theorem norm_step {s:Sc} {B D d:Nat} (hin:ScIn s) (H:NormH s B D (isB s d) (norB s d)):NormH s B (D + 1) (isB s (d + 1)) (norB s (d + 1)):=by
 intro vM vE m x u w hB hs hx hi hc hG b hb
 obtain ⟨A1,q1,A2,q2,rfl,rfl⟩:=sat_shape hs
 obtain ⟨u',hu,hl⟩:=hx
 simp only [List.cons.injEq,and_true] at hu
 subst hu
 obtain ⟨A,c,xs,rfl,hsl,hbl,hr,hn⟩:=hl.open_
 obtain ⟨i0,hi0,hz0,hz1,hz2⟩:=info_parts info_slot
 obtain ⟨X1,X2,X3,X4,LBD⟩:=four_new w (.cells #[.slice A1 s.M.length q1,.slice A2 s.E.length q2] 25) (.cells #[.slice A x.F.length c] 31) (.cells #[.slice none 0 0] 31) (.cells #[.slice none 0 0] 31)
 have hsz:((((w.alloc (.cells #[.slice A1 s.M.length q1,.slice A2 s.E.length q2] 25)).alloc (.cells #[.slice A x.F.length c] 31)).alloc (.cells #[.slice none 0 0] 31)).alloc (.cells #[.slice none 0 0] 31)).heap.size = w.heap.size + 4:=by simp
 obtain ⟨W0,hW0⟩:∃ W,W = (((w.alloc (.cells #[.slice A1 s.M.length q1,.slice A2 s.E.length q2] 25)).alloc (.cells #[.slice A x.F.length c] 31)).alloc (.cells #[.slice none 0 0] 31)).alloc (.cells #[.slice none 0 0] 31):=⟨_,rfl⟩
 have hcf:=cnt_F x
 have hGs:slotsG (byS s m) (fillG (isB s d)) [] x.F = true:=by
  have h:(decide (0 ≤ m ∧ m < s.M.length) && slotsG (byS s m) (fillG (isB s d)) [] x.F) = true:=hG
  rw [Bool.and_eq_true] at h
  exact h.2
 have HNO:=Lib.hid (slots_no hGs)
 have HSL:=Lib.hid hsl
 have HR:=Lib.hid hr
 have HBB:=Lib.hid hbl
 have HSA:=Lib.hid hs
 have HII:=Lib.hid hi
 have HH:=Lib.hid H
 have HFL:=Lib.hid (slots_iff.1 hGs).1
 have HIN:=Lib.hid hin
 have x3:=bx1 X2
 clear hsl hr hl hbl hs hi H hGs hG hin
 go_enter Tryz.func60,Tryz.ntmps60
 go_wp2
 rw [← hW0] at X1 X2 X3 X4 LBD hsz ⊢
 clear hW0 x3
 go_loopw [15] (fun i wr=>∃ (k:Nat) (v':Value) (zs:List Value),i = .int .i64 k ∧ k ≤ x.F.length ∧ wr.heap[w.heap.size + 3]? = some (.cells #[v'] 31 (0,0)) ∧ Grow (fun R=>SAt' R D) 67 3 (w.heap.size + 4) wr v' ((x.F.take k).filterMap (norO (byS s m) (norB s d))) zs ∧ Below (w.heap.size + 3) W0 wr ∧ w.heap.size + 4 ≤ wr.heap.size) (fun i _=>x.F.length - (intOf i).toNat)
 case atStart=>exact ⟨0,_,[],rfl,by omega,X4,Grow.nil _ _ _ _ _,Below.refl _ _,by omega⟩
 case round =>
  obtain ⟨k,v',zs,rfl,hk,hX,hgx,hbx,hsx⟩:=hrel
  have hm1:=(hbx.block _ (show w.heap.size < w.heap.size + 3 by omega)).trans X1
  have hm3:=(hbx.block _ (show w.heap.size + 2 < w.heap.size + 3 by omega)).trans X3
  have hbw:Below w.heap.size w wr:=LBD.trans (hbx.mono (by omega))
  have hBw:B ≤ wr.heap.size:=by omega
  have hlo:Lo B w wr:=Lo.of (hbw.mono hB)
  have hLk:=told_len x.F k (norO (byS s m) (norB s d))
  obtain ⟨L,hL⟩:∃ L,(x.F.take k).filterMap (norO (byS s m) (norB s d)) = L:=⟨_,rfl⟩
  rw [hL] at hgx hLk
  by_cases hlt:k < x.F.length
  ·obtain ⟨a,ha⟩:∃ a,x.F[k]? = some a:=⟨_,List.getElem?_eq_getElem hlt⟩
   obtain ⟨ad,x0,y0,z0,rfl,hga,hca,c0,c1,c2⟩:=row3 sAt.len (sl_low HSL.out HBB.out hlo) (HR.out.imp fun a cs h=>SRd.low hlo h) ha
   obtain ⟨B1,d1,B2,d2,rfl,rfl,rfl⟩:=slot_shape hca
   have hmem:=List.mem_of_getElem? ha
   obtain ⟨f,hf,hfl⟩:=HFL.out a hmem
   have hcs:=cS_le hmem
   have hon:=told_next (norO (byS s m) (norB s d)) ha
   rw [hL] at hon
   have HON:=Lib.hid hon
   have HO1:Hid (norO (byS s m) (norB s d) a = if toldB f a.V then some (norS (norB s d) f a) else none):=Lib.hid (by unfold norO; rw [hf]; rfl)
   have N1:=below_new wr (.cells #[.int .i64 a.no,.slice B1 a.K.length d1,.slice B2 a.V.length d2] 67)
   have T1:=heap_alloc_new wr (.cells #[.int .i64 a.no,.slice B1 a.K.length d1,.slice B2 a.V.length d2] 67)
   have hb1:=below_then hbw N1
   have HBY:=Lib.hid (by_found hf _ (Nat.le_trans hB hb1.size) (SAt.lo HSA.out hb1 hB))
   have HB1:=Lib.hid (And.intro hbx N1)
   have HXX:=Lib.hid hX
   have HGO:=Lib.hid hgx
   have HCA:=Lib.hid hca
   have HM3:=Lib.hid hm3
   obtain ⟨y1,y2⟩:=box2' (box_on hm1 N1)
   obtain ⟨t0,t1,t2⟩:=bx3 T1
   have HMM:=Lib.hid (And.intro (box_on hm1 N1) T1)
   clear ha hca hbx hb1 hf hX hgx hm3 hon hL N1 T1 hm1
   go_wp2_with fail
   refine HBY.out.mono ?_
   rintro e w2 ⟨rfl,hb2⟩
   have N2:=below_new w2 (dC f)
   have L2:=HB1.out.2.trans ((below_then hb2 N2).mono HB1.out.2.size)
   have hs12:wr.heap.size ≤ w2.heap.size:=Nat.le_trans HB1.out.2.size hb2.size
   have Y1:=box_on HMM.out.1 (below_then hb2 N2)
   have Y2:=box_on HMM.out.2 (below_then hb2 N2)
   have Y3:=heap_alloc_new w2 (dC f)
   obtain ⟨u0,u1,u2⟩:=bx3 Y2
   obtain ⟨u3,u4,hu,-,hV⟩:=HCA.out
   simp only [List.cons.injEq,and_true,true_and] at hu
   obtain ⟨-,rfl⟩:=hu
   have hlo2:Lo B wr (w2.alloc (dC f)):=Lo.below L2 hBw
   have HTO:=Lib.hid (isTold_any B D f a.V _ (w2.alloc (dC f)) (by have:=L2.size; omega) (hV.low hlo2 fun a cs h=>VRd.low hlo2 h))
   have g3:=heap_cell Y3
   have f0:=g3 0
   have f1:=g3 1
   have f2:=g3 2
   have f3:=g3 3
   have f4:=g3 4
   have f5:=g3 5
   have f6:=g3 6
   simp at f0 f1 f2 f3 f4 f5 f6
   have hszd:(w2.alloc (dC f)).heap.size = w2.heap.size + 1:=by simp
   have HL2:=Lib.hid (And.intro L2 (And.intro Y1 (And.intro Y2 Y3)))
   obtain ⟨bt,hbt⟩:∃ bt,toldB f a.V = bt:=⟨_,rfl⟩
   rw [hbt] at HTO HO1
   clear y1 y2 t0 t1 t2 hV hbt N2 L2 hb2 g3 hlo2 Y1 Y2 Y3
   cases bt with
   | false =>
    go_wp2_with fail
    refine HTO.out.mono ?_
    rintro e w3 ⟨rfl,hb3⟩
    have HL3:=Lib.hid (HL2.out.1.trans (hb3.mono HL2.out.1.size))
    have hbz:Below (w.heap.size + 3) wr w3:=HL3.out.mono (by omega)
    go_wp2
    refine ⟨⟨k + 1,v',zs,by go_num,by omega,box_on HXX.out HL3.out,?_,HB1.out.1.trans hbz,by have:=hbz.size; omega⟩,by simp [intOf]; omega⟩
    rw [HON.out,HO1.out,if_neg (by simp)]
    simp only [Option.toList_none,List.append_nil]
    exact HGO.out.on (mono_s D) HL3.out
   | true =>
    go_wp2_with fail
    refine HTO.out.mono ?_
    rintro e w3 ⟨rfl,hb3⟩
    have HL3:=Lib.hid (HL2.out.1.trans (hb3.mono HL2.out.1.size))
    have hL3s:wr.heap.size ≤ w3.heap.size:=HL3.out.size
    have hb3s:=hb3.size
    have hw3:w.heap.size + 4 ≤ w3.heap.size:=by omega
    have hbw3:Below w.heap.size w w3:=hbw.trans (HL3.out.mono hbw.size)
    have hD:Below w3.heap.size w3 w3.drew:=(Below.refl _ _).drew
    have HCX:=Lib.hid (nslot_any HH.out (.slice A1 s.M.length q1) (.slice A2 s.E.length q2) f a (.slice B1 a.K.length d1) (.slice B2 a.V.length d2) w3.drew (show B ≤ w3.heap.size by omega) (SAt.lo HSA.out hbw3.drew hB) (SRd.low (Lo.below HL3.out.drew hBw) HCA.out) (HII.out.slot hmem) (by omega) hfl w3.heap.size (Nat.le_refl _))
    have HGX:=Lib.hid (HGO.out.on (mono_s D) HL3.out)
    have HX:=Lib.hid (box_on HXX.out HL3.out)
    have HM:=Lib.hid (And.intro (box_on HL2.out.2.1 hb3) (And.intro (box_on HL2.out.2.2.2 hb3) (box_on HL2.out.2.2.1 hb3)))
    have g2:=bx1 HX.out
    have hS0:(w3.cell? ⟨w.heap.size,0,none⟩ = some (.slice A1 s.M.length q1) ∧ w3.cell? ⟨w.heap.size,1,none⟩ = some (.slice A2 s.E.length q2)) ∧ (w3.cell? ⟨w2.heap.size,0,none⟩ = some (.int .i64 f.no) ∧ w3.cell? ⟨w2.heap.size,1,none⟩ = some (.string (txt f.name)) ∧ w3.cell? ⟨w2.heap.size,2,none⟩ = some (.int .i64 f.kind) ∧ w3.cell? ⟨w2.heap.size,3,none⟩ = some (.int .i64 f.ref) ∧ w3.cell? ⟨w2.heap.size,4,none⟩ = some (.bool f.rep) ∧ w3.cell? ⟨w2.heap.size,5,none⟩ = some (.int .i64 f.key) ∧ w3.cell? ⟨w2.heap.size,6,none⟩ = some (.int .i64 f.one)) ∧ (w3.cell? ⟨wr.heap.size,0,none⟩ = some (.int .i64 a.no) ∧ w3.cell? ⟨wr.heap.size,1,none⟩ = some (.slice B1 a.K.length d1) ∧ w3.cell? ⟨wr.heap.size,2,none⟩ = some (.slice B2 a.V.length d2)):=⟨box2' HM.out.1,dc_cells HM.out.2.1,bx3 HM.out.2.2⟩
    clear hb3 c0 c1 c2
    go_wp2_with fail
    refine wp_region_held_drew (S:=(fun w'=>(w'.cell? ⟨w.heap.size,0,none⟩ = some (.slice A1 s.M.length q1) ∧ w'.cell? ⟨w.heap.size,1,none⟩ = some (.slice A2 s.E.length q2)) ∧ (w'.cell? ⟨w2.heap.size,0,none⟩ = some (.int .i64 f.no) ∧ w'.cell? ⟨w2.heap.size,1,none⟩ = some (.string (txt f.name)) ∧ w'.cell? ⟨w2.heap.size,2,none⟩ = some (.int .i64 f.kind) ∧ w'.cell? ⟨w2.heap.size,3,none⟩ = some (.int .i64 f.ref) ∧ w'.cell? ⟨w2.heap.size,4,none⟩ = some (.bool f.rep) ∧ w'.cell? ⟨w2.heap.size,5,none⟩ = some (.int .i64 f.key) ∧ w'.cell? ⟨w2.heap.size,6,none⟩ = some (.int .i64 f.one)) ∧ (w'.cell? ⟨wr.heap.size,0,none⟩ = some (.int .i64 a.no) ∧ w'.cell? ⟨wr.heap.size,1,none⟩ = some (.slice B1 a.K.length d1) ∧ w'.cell? ⟨wr.heap.size,2,none⟩ = some (.slice B2 a.V.length d2)))) (by kernel_rfl) (hS0) (fun hHeld=>?_)
    refine tk 0 ?_
    refine tk 2 ?_
    refine tk 3 ?_
    refine tk 4 ?_
    refine wpAnyH_ready (rs:=[1,5]) (by kernel_rfl) (by simp) ?_
    refine AllReadyH.cons rfl (fun K hK=>?_) (AllReadyH.cons rfl (fun K hK=>?_) AllReadyH.nil)
    ·go_simp
     refine hK.out _ _ (hS0) (fun hHeld=>?_)
     clear hK K
     refine wpAnyH_ready (rs:=[5]) (by kernel_rfl) (by simp) ?_
     refine AllReadyH.cons rfl (fun K hK=>?_) AllReadyH.nil
     go_simp
     (go_at_call 91; refine HCX.out.mono ?_; rintro e w7 ⟨x1,x2,x3,rfl,ho7,hb7⟩; have hb7d:=Lib.hid (hD.trans hb7); have HX7:=Lib.hid (box_on HX.out hb7d.out); have c7:=bx1 HX7.out; have c7b:=bx1 (box_on HX7.out (below_new w7 (.cells #[x1,x2,x3] 67))); have HG8:=Lib.hid ((HGX.out.on (mono_s D) hb7d.out).on (mono_s D) (below_new w7 (.cells #[x1,x2,x3] 67))); have hs7:w3.heap.size ≤ w7.heap.size:=hb7d.out.size; have HM7:=Lib.hid (And.intro (box_on HM.out.1 hb7d.out) (And.intro (box_on HM.out.2.1 hb7d.out) (box_on HM.out.2.2 hb7d.out))))
     go_wp2_with fail
     refine hK.out _ _ (And.intro (box2' (HM7.out.1)) (And.intro (dc_cells (HM7.out.2.1)) (bx3 (HM7.out.2.2)))) (fun hHeld=>?_)
     clear hK K
     refine wpAnyH_ready (rs:=[6]) (by kernel_rfl) (by simp) ?_
     refine AllReadyH.cons rfl (fun K hK=>?_) AllReadyH.nil
     go_simp
     refine hK.out _ _ (And.intro (box2' (box_on HM7.out.1 (below_new w7 (.cells #[x1,x2,x3] 67)))) (And.intro (dc_cells (box_on HM7.out.2.1 (below_new w7 (.cells #[x1,x2,x3] 67)))) (bx3 (box_on HM7.out.2.2 (below_new w7 (.cells #[x1,x2,x3] 67)))))) (fun hHeld=>?_)
     clear hK K
     refine wpAnyH_ready (rs:=[7]) (by kernel_rfl) (by simp) ?_
     refine AllReadyH.cons rfl (fun K hK=>?_) AllReadyH.nil
     (refine step_append_lies _ rfl _ _ 29 rfl (w.heap.size + 4) 67 i0 _ 3 56 Tryz.underlying29 hi0 hz0 hz1 hz2 rfl (by decide) v' L.length zs (by simp [Act.eval,Act.put]) HG8.out.own ⟨w7.heap.size,0,none⟩ 1 1 [x1,x2,x3] (by simp [Act.eval,Act.put]) rfl (World.news_of_block (heap_alloc_new _ _)) (sAt.oneO _ _ ho7) (by decide) (by unfold maxLen; omega) (by omega) (by simp; omega) w7.heap.size.succ (by simp) ?_; intro g8 cap8 w8 hown8 hg8 hat8 hlt8; have hX8:=Lib.hid (box_far (box_on HX7.out (below_new w7 (.cells #[x1,x2,x3] 67))) hg8 HG8.out.own (Nat.lt_succ_self (w.heap.size + 3))); have f8:w8.frozen? ⟨w.heap.size + 3,0,none⟩ = false:=(by simp [World.frozen?,hX8.out]); have c8:=bx1 hX8.out; have HM8:=Lib.hid (And.intro (box_far (box_on HM7.out.1 (below_new w7 (.cells #[x1,x2,x3] 67))) hg8 HG8.out.own (show w.heap.size < w.heap.size + 4 by omega)) (And.intro (box_new (box_on HM7.out.2.1 (below_new w7 (.cells #[x1,x2,x3] 67))) hg8 fun q hq=>Nat.lt_of_lt_of_le (HGO.out.lt q hq) (by omega)) (box_new (box_on HM7.out.2.2 (below_new w7 (.cells #[x1,x2,x3] 67))) hg8 fun q hq=>HGO.out.lt q hq))))
     refine hK.out _ _ (And.intro (box2' (HM8.out.1)) (And.intro (dc_cells (HM8.out.2.1)) (bx3 (HM8.out.2.2)))) (fun hHeld=>?_)
     clear hK K
     refine tk 8 ?_
     refine wpAnyH_ready (rs:=[9]) (by kernel_rfl) (by simp) ?_
     refine AllReadyH.cons rfl (fun K hK=>?_) AllReadyH.nil
     go_simp
     refine hK.out _ _ (And.intro (box2' (box_set (g:=w.heap.size + 3) (j:=0) HM8.out.1 (by omega) _)) (And.intro (dc_cells (box_set (g:=w.heap.size + 3) (j:=0) HM8.out.2.1 (by omega) _)) (bx3 (box_set (g:=w.heap.size + 3) (j:=0) HM8.out.2.2 (by omega) _)))) (fun hHeld=>?_)
     clear hK K
     refine wpAnyH_done (by kernel_rfl) ?_ _
     obtain ⟨Z1,Z2⟩:=cell1 hX8.out (.slice (some ⟨g8,0,none⟩) (L.length + 1) cap8)
     have hnew:=(Grow.app (mono_s D) HG8.out (a:=norS (norB s d) f a) (b':=w3.heap.size) (by omega) (fun k hk=>HGX.out.lt k hk) (mono_s D (Ow.hi (hi_below _ (below_new w7 (.cells #[x1,x2,x3] 67)))) _ _ ho7) hown8 hg8 (hat8.imp id fun h=>by rw [h]; simp)).box (mono_s D) Z2 (Nat.lt_succ_self (w.heap.size + 3))
     have hw7:w.heap.size + 4 ≤ w7.heap.size:=Nat.le_trans hw3 hs7
     have hbz:Below (w.heap.size + 3) wr _:=((HL3.out.mono (by omega)).trans ((hb7d.out.mono (by omega)).trans ((below_new w7 (.cells #[x1,x2,x3] 67)).mono (by omega)))).trans ((below_row hg8 HG8.out.own (Nat.le_succ _) (by simp; omega)).trans (below_own Z2 (Nat.le_refl _) (by have:=hg8.size; simp at this; omega)))
     go_wp2
     refine ⟨⟨k + 1,_,zs ++ [x1,x2,x3],by go_num,by omega,Z1,?_,HB1.out.1.trans hbz,by have h1:=hbz.size; have h2:=hg8.size; simp at h1 h2 ⊢; omega⟩,by simp [intOf]; omega⟩
     rw [HON.out,HO1.out,if_pos (by trivial)]
     exact hnew
    ·go_simp
     (go_at_call 91; refine HCX.out.mono ?_; rintro e w7 ⟨x1,x2,x3,rfl,ho7,hb7⟩; have hb7d:=Lib.hid (hD.trans hb7); have HX7:=Lib.hid (box_on HX.out hb7d.out); have c7:=bx1 HX7.out; have c7b:=bx1 (box_on HX7.out (below_new w7 (.cells #[x1,x2,x3] 67))); have HG8:=Lib.hid ((HGX.out.on (mono_s D) hb7d.out).on (mono_s D) (below_new w7 (.cells #[x1,x2,x3] 67))); have hs7:w3.heap.size ≤ w7.heap.size:=hb7d.out.size; have HM7:=Lib.hid (And.intro (box_on HM.out.1 hb7d.out) (And.intro (box_on HM.out.2.1 hb7d.out) (box_on HM.out.2.2 hb7d.out))))
     go_wp2_with fail
     refine hK.out _ _ (And.intro (box2' (HM7.out.1)) (And.intro (dc_cells (HM7.out.2.1)) (bx3 (HM7.out.2.2)))) (fun hHeld=>?_)
     clear hK K
     refine wpAnyH_ready (rs:=[1,6]) (by kernel_rfl) (by simp) ?_
     refine AllReadyH.cons rfl (fun K hK=>?_) (AllReadyH.cons rfl (fun K hK=>?_) AllReadyH.nil)
     ·go_simp
      refine hK.out _ _ (And.intro (box2' (HM7.out.1)) (And.intro (dc_cells (HM7.out.2.1)) (bx3 (HM7.out.2.2)))) (fun hHeld=>?_)
      clear hK K
      refine wpAnyH_ready (rs:=[6]) (by kernel_rfl) (by simp) ?_
      refine AllReadyH.cons rfl (fun K hK=>?_) AllReadyH.nil
      go_simp
      refine hK.out _ _ (And.intro (box2' (box_on HM7.out.1 (below_new w7 (.cells #[x1,x2,x3] 67)))) (And.intro (dc_cells (box_on HM7.out.2.1 (below_new w7 (.cells #[x1,x2,x3] 67)))) (bx3 (box_on HM7.out.2.2 (below_new w7 (.cells #[x1,x2,x3] 67)))))) (fun hHeld=>?_)
      clear hK K
      refine wpAnyH_ready (rs:=[7]) (by kernel_rfl) (by simp) ?_
      refine AllReadyH.cons rfl (fun K hK=>?_) AllReadyH.nil
      (refine step_append_lies _ rfl _ _ 29 rfl (w.heap.size + 4) 67 i0 _ 3 56 Tryz.underlying29 hi0 hz0 hz1 hz2 rfl (by decide) v' L.length zs (by simp [Act.eval,Act.put]) HG8.out.own ⟨w7.heap.size,0,none⟩ 1 1 [x1,x2,x3] (by simp [Act.eval,Act.put]) rfl (World.news_of_block (heap_alloc_new _ _)) (sAt.oneO _ _ ho7) (by decide) (by unfold maxLen; omega) (by omega) (by simp; omega) w7.heap.size.succ (by simp) ?_; intro g8 cap8 w8 hown8 hg8 hat8 hlt8; have hX8:=Lib.hid (box_far (box_on HX7.out (below_new w7 (.cells #[x1,x2,x3] 67))) hg8 HG8.out.own (Nat.lt_succ_self (w.heap.size + 3))); have f8:w8.frozen? ⟨w.heap.size + 3,0,none⟩ = false:=(by simp [World.frozen?,hX8.out]); have c8:=bx1 hX8.out; have HM8:=Lib.hid (And.intro (box_far (box_on HM7.out.1 (below_new w7 (.cells #[x1,x2,x3] 67))) hg8 HG8.out.own (show w.heap.size < w.heap.size + 4 by omega)) (And.intro (box_new (box_on HM7.out.2.1 (below_new w7 (.cells #[x1,x2,x3] 67))) hg8 fun q hq=>Nat.lt_of_lt_of_le (HGO.out.lt q hq) (by omega)) (box_new (box_on HM7.out.2.2 (below_new w7 (.cells #[x1,x2,x3] 67))) hg8 fun q hq=>HGO.out.lt q hq))))
      refine hK.out _ _ (And.intro (box2' (HM8.out.1)) (And.intro (dc_cells (HM8.out.2.1)) (bx3 (HM8.out.2.2)))) (fun hHeld=>?_)
      clear hK K
      refine tk 8 ?_
      refine wpAnyH_ready (rs:=[9]) (by kernel_rfl) (by simp) ?_
      refine AllReadyH.cons rfl (fun K hK=>?_) AllReadyH.nil
      go_simp
      refine hK.out _ _ (And.intro (box2' (box_set (g:=w.heap.size + 3) (j:=0) HM8.out.1 (by omega) _)) (And.intro (dc_cells (box_set (g:=w.heap.size + 3) (j:=0) HM8.out.2.1 (by omega) _)) (bx3 (box_set (g:=w.heap.size + 3) (j:=0) HM8.out.2.2 (by omega) _)))) (fun hHeld=>?_)
      clear hK K
      refine wpAnyH_done (by kernel_rfl) ?_ _
      obtain ⟨Z1,Z2⟩:=cell1 hX8.out (.slice (some ⟨g8,0,none⟩) (L.length + 1) cap8)
      have hnew:=(Grow.app (mono_s D) HG8.out (a:=norS (norB s d) f a) (b':=w3.heap.size) (by omega) (fun k hk=>HGX.out.lt k hk) (mono_s D (Ow.hi (hi_below _ (below_new w7 (.cells #[x1,x2,x3] 67)))) _ _ ho7) hown8 hg8 (hat8.imp id fun h=>by rw [h]; simp)).box (mono_s D) Z2 (Nat.lt_succ_self (w.heap.size + 3))
      have hw7:w.heap.size + 4 ≤ w7.heap.size:=Nat.le_trans hw3 hs7
      have hbz:Below (w.heap.size + 3) wr _:=((HL3.out.mono (by omega)).trans ((hb7d.out.mono (by omega)).trans ((below_new w7 (.cells #[x1,x2,x3] 67)).mono (by omega)))).trans ((below_row hg8 HG8.out.own (Nat.le_succ _) (by simp; omega)).trans (below_own Z2 (Nat.le_refl _) (by have:=hg8.size; simp at this; omega)))
      go_wp2
      refine ⟨⟨k + 1,_,zs ++ [x1,x2,x3],by go_num,by omega,Z1,?_,HB1.out.1.trans hbz,by have h1:=hbz.size; have h2:=hg8.size; simp at h1 h2 ⊢; omega⟩,by simp [intOf]; omega⟩
      rw [HON.out,HO1.out,if_pos (by trivial)]
      exact hnew
     ·go_simp
      refine hK.out _ _ (And.intro (box2' (box_on HM7.out.1 (below_new w7 (.cells #[x1,x2,x3] 67)))) (And.intro (dc_cells (box_on HM7.out.2.1 (below_new w7 (.cells #[x1,x2,x3] 67)))) (bx3 (box_on HM7.out.2.2 (below_new w7 (.cells #[x1,x2,x3] 67)))))) (fun hHeld=>?_)
      clear hK K
      refine wpAnyH_ready (rs:=[1]) (by kernel_rfl) (by simp) ?_
      refine AllReadyH.cons rfl (fun K hK=>?_) AllReadyH.nil
      go_simp
      refine hK.out _ _ (And.intro (box2' (box_on HM7.out.1 (below_new w7 (.cells #[x1,x2,x3] 67)))) (And.intro (dc_cells (box_on HM7.out.2.1 (below_new w7 (.cells #[x1,x2,x3] 67)))) (bx3 (box_on HM7.out.2.2 (below_new w7 (.cells #[x1,x2,x3] 67)))))) (fun hHeld=>?_)
      clear hK K
      refine wpAnyH_ready (rs:=[7]) (by kernel_rfl) (by simp) ?_
      refine AllReadyH.cons rfl (fun K hK=>?_) AllReadyH.nil
      (refine step_append_lies _ rfl _ _ 29 rfl (w.heap.size + 4) 67 i0 _ 3 56 Tryz.underlying29 hi0 hz0 hz1 hz2 rfl (by decide) v' L.length zs (by simp [Act.eval,Act.put]) HG8.out.own ⟨w7.heap.size,0,none⟩ 1 1 [x1,x2,x3] (by simp [Act.eval,Act.put]) rfl (World.news_of_block (heap_alloc_new _ _)) (sAt.oneO _ _ ho7) (by decide) (by unfold maxLen; omega) (by omega) (by simp; omega) w7.heap.size.succ (by simp) ?_; intro g8 cap8 w8 hown8 hg8 hat8 hlt8; have hX8:=Lib.hid (box_far (box_on HX7.out (below_new w7 (.cells #[x1,x2,x3] 67))) hg8 HG8.out.own (Nat.lt_succ_self (w.heap.size + 3))); have f8:w8.frozen? ⟨w.heap.size + 3,0,none⟩ = false:=(by simp [World.frozen?,hX8.out]); have c8:=bx1 hX8.out; have HM8:=Lib.hid (And.intro (box_far (box_on HM7.out.1 (below_new w7 (.cells #[x1,x2,x3] 67))) hg8 HG8.out.own (show w.heap.size < w.heap.size + 4 by omega)) (And.intro (box_new (box_on HM7.out.2.1 (below_new w7 (.cells #[x1,x2,x3] 67))) hg8 fun q hq=>Nat.lt_of_lt_of_le (HGO.out.lt q hq) (by omega)) (box_new (box_on HM7.out.2.2 (below_new w7 (.cells #[x1,x2,x3] 67))) hg8 fun q hq=>HGO.out.lt q hq))))
      refine hK.out _ _ (And.intro (box2' (HM8.out.1)) (And.intro (dc_cells (HM8.out.2.1)) (bx3 (HM8.out.2.2)))) (fun hHeld=>?_)
      clear hK K
      refine tk 8 ?_
      refine wpAnyH_ready (rs:=[9]) (by kernel_rfl) (by simp) ?_
      refine AllReadyH.cons rfl (fun K hK=>?_) AllReadyH.nil
      go_simp
      refine hK.out _ _ (And.intro (box2' (box_set (g:=w.heap.size + 3) (j:=0) HM8.out.1 (by omega) _)) (And.intro (dc_cells (box_set (g:=w.heap.size + 3) (j:=0) HM8.out.2.1 (by omega) _)) (bx3 (box_set (g:=w.heap.size + 3) (j:=0) HM8.out.2.2 (by omega) _)))) (fun hHeld=>?_)
      clear hK K
      refine wpAnyH_done (by kernel_rfl) ?_ _
      obtain ⟨Z1,Z2⟩:=cell1 hX8.out (.slice (some ⟨g8,0,none⟩) (L.length + 1) cap8)
      have hnew:=(Grow.app (mono_s D) HG8.out (a:=norS (norB s d) f a) (b':=w3.heap.size) (by omega) (fun k hk=>HGX.out.lt k hk) (mono_s D (Ow.hi (hi_below _ (below_new w7 (.cells #[x1,x2,x3] 67)))) _ _ ho7) hown8 hg8 (hat8.imp id fun h=>by rw [h]; simp)).box (mono_s D) Z2 (Nat.lt_succ_self (w.heap.size + 3))
      have hw7:w.heap.size + 4 ≤ w7.heap.size:=Nat.le_trans hw3 hs7
      have hbz:Below (w.heap.size + 3) wr _:=((HL3.out.mono (by omega)).trans ((hb7d.out.mono (by omega)).trans ((below_new w7 (.cells #[x1,x2,x3] 67)).mono (by omega)))).trans ((below_row hg8 HG8.out.own (Nat.le_succ _) (by simp; omega)).trans (below_own Z2 (Nat.le_refl _) (by have:=hg8.size; simp at this; omega)))
      go_wp2
      refine ⟨⟨k + 1,_,zs ++ [x1,x2,x3],by go_num,by omega,Z1,?_,HB1.out.1.trans hbz,by have h1:=hbz.size; have h2:=hg8.size; simp at h1 h2 ⊢; omega⟩,by simp [intOf]; omega⟩
      rw [HON.out,HO1.out,if_pos (by trivial)]
      exact hnew
  ·obtain rfl:k = x.F.length:=by omega
   rw [List.take_length] at hL
   have hd:L.Pairwise fun a b=>a.no ≠ b.no:=by rw [← hL]; exact told_no HNO.out
   have HSO:=Lib.hid (sort_slots D (w.heap.size + 4) v' L zs wr hgx hd (by omega))
   have HG0:=Lib.hid hgx
   have x4:=bx1 hX
   have HL:=Lib.hid hL
   have HX:=Lib.hid hX
   have HM3:=Lib.hid hm3
   clear hX hgx hm1 hm3 hL hd
   go_wp2_with fail
   refine HSO.out.mono ?_
   rintro e w9 ⟨rfl,⟨ys,hg9⟩,hlen9,hgr9⟩
   have Y3:=box_far HM3.out hgr9 HG0.out.own (show w.heap.size + 2 < w.heap.size + 4 by omega)
   have Y4:=box_far HX.out hgr9 HG0.out.own (show w.heap.size + 3 < w.heap.size + 4 by omega)
   obtain ⟨Av,cv,rfl,-⟩:=Sl.of_own hg9.own
   have y4:=bx1 Y4
   have y3:=bx1 Y3
   have ff:w9.frozen? ⟨w.heap.size + 2,0,none⟩ = false:=by simp [World.frozen?,Y3]
   obtain ⟨Z1,Z2⟩:=cell1 Y3 (.slice Av (srt ltNo L).length cv)
   have hs9:=hgr9.size
   have HLEN:=Lib.hid hlen9
   clear x4 hlen9
   go_wp2
   refine bodyPost_ret (results_cell_row rfl _ _ (w.heap.size + 2) _ _ (0,0) _ rfl Z1 Tryz.underlying31 rfl sz_msg) rfl ?_
   have h1:=(hg9.box (mono_s D) Z2 (show w.heap.size + 2 < w.heap.size + 4 by omega)).less (mono_s D) (show b ≤ w.heap.size + 4 by omega)
   have e:norB s (d + 1) m x = .mk (srt ltNo L):=by
    show Mg.mk (srt ltNo (x.F.filterMap (norO (byS s m) (norB s d)))) = _
    rw [HL.out]
   rw [e]
   exact ⟨_,rfl,⟨_,rfl,h1.ow (mono_s D) (show (srt ltNo L).length ≤ _ by rw [HLEN.out]; omega)⟩,(hbw.trans (below_row hgr9 HG0.out.own (by omega) (by omega))).trans (below_own Z2 (by omega) (by omega))⟩
theorem norm_any {s:Sc} (hin:ScIn s) (B:Nat):∀ (D d:Nat),NormH s B D (isB s d) (norB s d)
 | 0,_=>fun _ _ _ _ _ _ _ _ h=>h.elim
 | _ + 1,0=>fun _ _ _ _ _ _ _ _ _ _ _ h=>by cases h
 | D + 1,d + 1=>norm_step hin (norm_any hin B D d)
end Go.Proofs.YtckcojkpghiclaaGreatDoor.T9
namespace Go.Proofs.YtckcojkpghiclaaGreatDoor.T12
set_option maxRecDepth 100000
open Go.RowKit
open Go.Proofs.YtckcojkpghiclaaGreatDoor.T9 Go.Proofs.YtckcojkpghiclaaGreatDoor.T4
theorem mayT_split {s:Sc} {m:Int} {x:Mg} (h:mayT s m x = true):ScMay s ∧ isB s 64 m x = true:=by
 unfold mayT at h
 rw [Bool.and_eq_true] at h
 exact ⟨@of_decide_eq_true _ (Classical.propDecidable _) h.1,h.2⟩
end Go.Proofs.YtckcojkpghiclaaGreatDoor.T12
namespace Go.Proofs.YtckcojkpghiclaaGreatDoor.T12
set_option maxRecDepth 100000
open Go.RowKit
open Go.Proofs.YtckcojkpghiclaaGreatDoor.T9
theorem step_app_sl {P:Program} {w:World} {ops:Array Oper} {o:Oper} {a:Act} {K:Act → World → Prop} {Q:Exit → Act → World → Prop} {E:Prop}
  (hg:o.guard = none) (s x:Operand) (t:TypeId) (hop:o.op = .call { callee:=.builtin .append,args:=#[s,x],argTypes:=#[t,t] })
  (base:Nat) (e:TypeId) (i:TypeInfo) (z:Value) (size bytes:Nat) (ht:P.underlying t = some (.slice e)) (hi:P.info? e = some i) (hz:i.zero = some z)
  (hsize:i.size = size) (hby:i.bytes = bytes) (hzs:z.cells.size = size) (hsz:0 < size)
  (v:Value) (n:Nat) (xs:List Value) (hs:a.eval s = v) (hown:w.ownsRow base e size v n xs)
  (A:Option Addr) (m c:Nat) (news:List Value) (hx:a.eval x = .slice A m c) (hr:Sl w A m c size news) (h1:∀ u ∈ news,u.oneCell' = true)
  (h63:n + m ≤ maxLen) (hbytes:(n + m) * bytes ≤ 140737488355328) (hbase:base ≤ w.heap.size)
  (h:∀ v' w',w'.ownsRow base e size v' (n + m) (xs ++ news) → w.grownBy w' v.ownBlock → K (a.put o.dst v') w') :
  if Region.wanted o (yielded ops a.tmps) = true then Oper.wp P o a w K Q else E:=by
 have key:∃ v' w',(Builtin.append_ #[t,t] o.type #[v,.slice A m c]).run P w = .ok v' w' ∧ w'.ownsRow base e size v' (n + m) (xs ++ news) ∧ w.grownBy w' v.ownBlock:=by
  cases A with
  | none =>
   obtain ⟨rfl,rfl,rfl⟩:=hr.none_len
   exact ⟨v,w,run_append_owned_none (P:=P) w base t o.type e i size ht hi v n xs hown,by simpa using hown,World.grownBy.refl w _⟩
  | some ad =>
   obtain ⟨v',w',hrun,h2,h3,_⟩:=run_append_own (P:=P) w base t o.type e i z size bytes ht hi hz hsize hby hzs hsz v n xs hown ad m c news hr.len (hr.cell ad rfl) h1 h63 hbytes hbase
   exact ⟨v',w',hrun,h2,h3⟩
 obtain ⟨v',w',hrun,h2,h3⟩:=key
 have hw:Region.wanted o (yielded ops a.tmps) = true:=by simp [Region.wanted,hg]
 rw [if_pos hw]
 have hex:(execOp a.eval o).run P w = .ok (.value v') w':=by simp [execOp,hop,resolve,invoke,builtin,hs,hx,hrun,Result.andThen]
 unfold Oper.wp
 rw [hex]
 exact h v' w' h2 h3
end Go.Proofs.YtckcojkpghiclaaGreatDoor.T12
namespace Go.Proofs.YtckcojkpghiclaaGreatDoor.T12
set_option maxRecDepth 100000
open Go.RowKit Go.Maps
open Go.Proofs.YtckcojkpghiclaaGreatDoor.T9 Go.Proofs.YtckcojkpghiclaaGreatDoor.T4
def f0:Df:=⟨1,[97],0,0,false,-1,0⟩
def s0:Sc:=⟨[⟨[65],[f0]⟩],[]⟩
def v0:Vl':=⟨7,[],[]⟩
def t0:So:=⟨1,[],[v0]⟩
def x0:Mg:=.mk [t0]
theorem may_s0:ScMay s0:=by
 refine ⟨by decide,by decide,by decide,by decide,by decide,fun m hm=>?_,fun e he=>by cases he⟩
 obtain rfl:m = ⟨[65],[f0]⟩:=by simpa [s0] using hm
 refine ⟨by decide,by simp,by simp,fun d hd=>?_⟩
 obtain rfl:d = f0:=by simpa using hd
 exact ⟨by decide,by decide,by decide,by decide,by decide,by decide,by decide,.inl rfl,.inl rfl⟩
theorem in_s0:ScIn s0:=by
 refine ⟨fun m hm=>?_,fun e he=>by cases he⟩
 obtain rfl:m = ⟨[65],[f0]⟩:=by simpa [s0] using hm
 refine ⟨by unfold maxLen; decide,fun d hd=>?_⟩
 obtain rfl:d = f0:=by simpa using hd
 exact ⟨by unfold inr; decide,by unfold maxLen; decide,by unfold inr; decide,by unfold inr; decide,by unfold inr; decide,by unfold inr; decide⟩
theorem sat0 {w:World} {g0 g1 B:Nat} {t0 t1:TypeId} {fr0 fr1:Nat × Nat} (h0:w.heap[g0]? = some (.cells #[.int .i64 1,.string ⟨#[97]⟩,.int .i64 0,.int .i64 0,.bool false,.int .i64 (-1),.int .i64 0] t0 fr0)) (h1:w.heap[g1]? = some (.cells #[.string ⟨#[65]⟩,.slice (some ⟨g0,0,none⟩) 1 1] t1 fr1)) (b0:g0 < B) (b1:g1 < B) :
  SAt B w s0 (.slice (some ⟨g1,0,none⟩) 1 1) (.slice none 0 0) :=
 ⟨_,[],(lit_row (n:=1) (size:=2) (xs:=[.string ⟨#[65]⟩,.slice (some ⟨g0,0,none⟩) 1 1]) h1 rfl (by decide) b1 56).1,⟨.slice (some ⟨g0,0,none⟩) 1 1,[],rfl,(lit_row (n:=1) (size:=7) (xs:=[.int .i64 1,.string ⟨#[97]⟩,.int .i64 0,.int .i64 0,.bool false,.int .i64 (-1),.int .i64 0]) h0 rfl (by decide) b0 45).1,rfl⟩,Rr.nil _ _ _,rfl⟩
end Go.Proofs.YtckcojkpghiclaaGreatDoor.T12
