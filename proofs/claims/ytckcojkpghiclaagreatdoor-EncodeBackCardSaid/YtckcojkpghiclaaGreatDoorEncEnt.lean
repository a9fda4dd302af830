/-
 A message,made normal: the contract of normal,of any message that is of its message;and of Normal and Is.
-/
import Derived.Test.YtckcojkpghiclaaGreatDoorTyNorm
import Derived.Test.YtckcojkpghiclaaGreatDoorTyRising
import Derived.Test.YtckcojkpghiclaaGreatDoorTabFld
import Derived.Test.YtckcojkpghiclaaGreatDoorTokVars
import Derived.Test.YtckcojkpghiclaaGreatDoorEncPut
import Derived.Laws.IdiomStrings
import Derived.Laws.EntriesVeiled
import Derived.Test.YtckcojkpghiclaaGreatDoorUtfFine
import Derived.Deep.AppendLies
namespace Go.Proofs.YtckcojkpghiclaaGreatDoor.T9
set_option maxRecDepth 100000
open Go.Proofs.YtckcojkpghiclaaGreatDoor.T4
open Go.RowKit Go.Maps
theorem dc_cells {w:World} {g:Nat} {f:Df} {fr:Nat × Nat} (h:w.heap[g]? = some (.cells #[.int .i64 f.no,.string (txt f.name),.int .i64 f.kind,.int .i64 f.ref,.bool f.rep,.int .i64 f.key,.int .i64 f.one] 45 fr)) :
  w.cell? ⟨g,0,none⟩ = some (.int .i64 f.no)∧w.cell? ⟨g,1,none⟩ = some (.string (txt f.name))∧w.cell? ⟨g,2,none⟩ = some (.int .i64 f.kind)∧w.cell? ⟨g,3,none⟩ = some (.int .i64 f.ref)∧w.cell? ⟨g,4,none⟩ = some (.bool f.rep)∧w.cell? ⟨g,5,none⟩ = some (.int .i64 f.key)∧w.cell? ⟨g,6,none⟩ = some (.int .i64 f.one) :=
 ⟨by rw [heap_cell h 0];rfl,by rw [heap_cell h 1];rfl,by rw [heap_cell h 2];rfl,by rw [heap_cell h 3];rfl,by rw [heap_cell h 4];rfl,by rw [heap_cell h 5];rfl,by rw [heap_cell h 6];rfl⟩
theorem told_next {α β:Type} {l:List α} {k:Nat} {a:α} (g:α→Option β) (h:l[k]? = some a):(l.take (k+1)).filterMap g = (l.take k).filterMap g++(g a).toList:=by
 rw [List.take_add_one,h,List.filterMap_append]
 simp [List.filterMap_cons]
 cases g a <;> rfl
theorem told_len {α β:Type} (l:List α) (k:Nat) (g:α→Option β):((l.take k).filterMap g).length≤k:=Nat.le_trans (List.length_filterMap_le _ _) (by rw [List.length_take];omega)
set_option maxRecDepth 1000000 in
set_option maxHeartbeats 8000000 in
theorem norm_step {s:Sc} {B D d:Nat} (hin:ScIn s) (H:NormH s B D (isB s d) (norB s d)):NormH s B (D+1) (isB s (d+1)) (norB s (d+1)):=by
 intro vM vE m x u w hB hs hx hi hc hG b hb
 obtain ⟨A1,q1,A2,q2,rfl,rfl⟩:=sat_shape hs
 obtain ⟨u',hu,hl⟩:=hx
 simp only [List.cons.injEq,and_true] at hu
 subst hu
 obtain ⟨A,c,xs,rfl,hsl,hbl,hr,hn⟩:=hl.open_
 obtain ⟨i0,hi0,hz0,hz1,hz2⟩:=info_parts info_slot
 obtain ⟨X1,X2,X3,X4,LBD⟩:=four_new w (.cells #[.slice A1 s.M.length q1,.slice A2 s.E.length q2] 25) (.cells #[.slice A x.F.length c] 31) (.cells #[.slice none 0 0] 31) (.cells #[.slice none 0 0] 31)
 have hsz:((((w.alloc (.cells #[.slice A1 s.M.length q1,.slice A2 s.E.length q2] 25)).alloc (.cells #[.slice A x.F.length c] 31)).alloc (.cells #[.slice none 0 0] 31)).alloc (.cells #[.slice none 0 0] 31)).heap.size = w.heap.size+4:=by simp
 obtain ⟨W0,hW0⟩:∃ W,W = (((w.alloc (.cells #[.slice A1 s.M.length q1,.slice A2 s.E.length q2] 25)).alloc (.cells #[.slice A x.F.length c] 31)).alloc (.cells #[.slice none 0 0] 31)).alloc (.cells #[.slice none 0 0] 31):=⟨_,rfl⟩
 have hcf:=cnt_F x
 have hGs:slotsG (byS s m) (fillG (isB s d)) [] x.F = true:=by
  have h:(decide (0≤m∧m < s.M.length) && slotsG (byS s m) (fillG (isB s d)) [] x.F) = true:=hG
  rw [Bool.and_eq_true] at h
  exact h.2
 have HNO:=Lib.hid (slots_no hGs)
 have HSL:=Lib.hid hsl
 have HR:=Lib.hid hr
 have HBB:=Lib.hid hbl
 have HSA:=Lib.hid hs
 have HII:=Lib.hid hi
 have HH:=Lib.hid H
 have HFL:=Lib.hid (slots_iff.1 hGs).1
 have HIN:=Lib.hid hin
 have x3:=bx1 X2
 clear hsl hr hl hbl hs hi H hGs hG hin
 go_enter Tryz.func60,Tryz.ntmps60
 go_wp2
 rw [← hW0] at X1 X2 X3 X4 LBD hsz ⊢
 clear hW0 x3
 go_loopw [15] (fun i wr=>∃ (k:Nat) (v':Value) (zs:List Value),i = .int .i64 k∧k≤x.F.length∧wr.heap[w.heap.size+3]? = some (.cells #[v'] 31 (0,0))∧Grow (fun R=>SAt' R D) 67 3 (w.heap.size+4) wr v' ((x.F.take k).filterMap (norO (byS s m) (norB s d))) zs∧Below (w.heap.size+3) W0 wr∧w.heap.size+4≤wr.heap.size) (fun i _=>x.F.length - (intOf i).toNat)
 case atStart=>exact ⟨0,_,[],rfl,by omega,X4,Grow.nil _ _ _ _ _,Below.refl _ _,by omega⟩
 case round =>
  obtain ⟨k,v',zs,rfl,hk,hX,hgx,hbx,hsx⟩:=hrel
  have hm1:=(hbx.block _ (show w.heap.size < w.heap.size+3 by omega)).trans X1
  have hm3:=(hbx.block _ (show w.heap.size+2 < w.heap.size+3 by omega)).trans X3
  have hbw:Below w.heap.size w wr:=LBD.trans (hbx.mono (by omega))
  have hBw:B≤wr.heap.size:=by omega
  have hlo:Lo B w wr:=Lo.of (hbw.mono hB)
  have hLk:=told_len x.F k (norO (byS s m) (norB s d))
  obtain ⟨L,hL⟩:∃ L,(x.F.take k).filterMap (norO (byS s m) (norB s d)) = L:=⟨_,rfl⟩
  rw [hL] at hgx hLk
  by_cases hlt:k < x.F.length
  ·obtain ⟨a,ha⟩:∃ a,x.F[k]? = some a:=⟨_,List.getElem?_eq_getElem hlt⟩
   obtain ⟨ad,x0,y0,z0,rfl,hga,hca,c0,c1,c2⟩:=row3 sAt.len (sl_low HSL.out HBB.out hlo) (HR.out.imp fun a cs h=>SRd.low hlo h) ha
   obtain ⟨B1,d1,B2,d2,rfl,rfl,rfl⟩:=slot_shape hca
   have hmem:=List.mem_of_getElem? ha
   obtain ⟨f,hf,hfl⟩:=HFL.out a hmem
   have hcs:=cS_le hmem
   have hon:=told_next (norO (byS s m) (norB s d)) ha
   rw [hL] at hon
   have HON:=Lib.hid hon
   have HO1:Hid (norO (byS s m) (norB s d) a = if toldB f a.V then some (norS (norB s d) f a) else none):=Lib.hid (by unfold norO;rw [hf];rfl)
   have N1:=below_new wr (.cells #[.int .i64 a.no,.slice B1 a.K.length d1,.slice B2 a.V.length d2] 67)
   have T1:=heap_alloc_new wr (.cells #[.int .i64 a.no,.slice B1 a.K.length d1,.slice B2 a.V.length d2] 67)
   have hb1:=below_then hbw N1
   have HBY:=Lib.hid (by_found hf _ (Nat.le_trans hB hb1.size) (SAt.lo HSA.out hb1 hB))
   have HB1:=Lib.hid (And.intro hbx N1)
   have HXX:=Lib.hid hX
   have HGO:=Lib.hid hgx
   have HCA:=Lib.hid hca
   have HM3:=Lib.hid hm3
   obtain ⟨y1,y2⟩:=box2' (box_on hm1 N1)
   obtain ⟨t0,t1,t2⟩:=bx3 T1
   have HMM:=Lib.hid (And.intro (box_on hm1 N1) T1)
   clear ha hca hbx hb1 hf hX hgx hm3 hon hL N1 T1 hm1
   go_wp2_with fail
   refine HBY.out.mono ?_
   rintro e w2 ⟨rfl,hb2⟩
   have N2:=below_new w2 (dC f)
   have L2:=HB1.out.2.trans ((below_then hb2 N2).mono HB1.out.2.size)
   have hs12:wr.heap.size≤w2.heap.size:=Nat.le_trans HB1.out.2.size hb2.size
   have Y1:=box_on HMM.out.1 (below_then hb2 N2)
   have Y2:=box_on HMM.out.2 (below_then hb2 N2)
   have Y3:=heap_alloc_new w2 (dC f)
   obtain ⟨u0,u1,u2⟩:=bx3 Y2
   obtain ⟨u3,u4,hu,-,hV⟩:=HCA.out
   simp only [List.cons.injEq,and_true,true_and] at hu
   obtain ⟨-,rfl⟩:=hu
   have hlo2:Lo B wr (w2.alloc (dC f)):=Lo.below L2 hBw
   have HTO:=Lib.hid (isTold_any B D f a.V _ (w2.alloc (dC f)) (by have:=L2.size;omega) (hV.low hlo2 fun a cs h=>VRd.low hlo2 h))
   have g3:=heap_cell Y3
   have f0:=g3 0
   have f1:=g3 1
   have f2:=g3 2
   have f3:=g3 3
   have f4:=g3 4
   have f5:=g3 5
   have f6:=g3 6
   simp at f0 f1 f2 f3 f4 f5 f6
   have hszd:(w2.alloc (dC f)).heap.size = w2.heap.size+1:=by simp
   have HL2:=Lib.hid (And.intro L2 (And.intro Y1 (And.intro Y2 Y3)))
   obtain ⟨bt,hbt⟩:∃ bt,toldB f a.V = bt:=⟨_,rfl⟩
   rw [hbt] at HTO HO1
   clear y1 y2 t0 t1 t2 hV hbt N2 L2 hb2 g3 hlo2 Y1 Y2 Y3
   cases bt with
   | false =>
    go_wp2_with fail
    refine HTO.out.mono ?_
    rintro e w3 ⟨rfl,hb3⟩
    have HL3:=Lib.hid (HL2.out.1.trans (hb3.mono HL2.out.1.size))
    have hbz:Below (w.heap.size+3) wr w3:=HL3.out.mono (by omega)
    go_wp2
    refine ⟨⟨k+1,v',zs,by go_num,by omega,box_on HXX.out HL3.out,?_,HB1.out.1.trans hbz,by have:=hbz.size;omega⟩,by simp [intOf];omega⟩
    rw [HON.out,HO1.out,if_neg (by simp)]
    simp only [Option.toList_none,List.append_nil]
    exact HGO.out.on (mono_s D) HL3.out
   | true =>
    go_wp2_with fail
    refine HTO.out.mono ?_
    rintro e w3 ⟨rfl,hb3⟩
    have HL3:=Lib.hid (HL2.out.1.trans (hb3.mono HL2.out.1.size))
    have hL3s:wr.heap.size≤w3.heap.size:=HL3.out.size
    have hb3s:=hb3.size
    have hw3:w.heap.size+4≤w3.heap.size:=by omega
    have hbw3:Below w.heap.size w w3:=hbw.trans (HL3.out.mono hbw.size)
    have hD:Below w3.heap.size w3 w3.drew:=(Below.refl _ _).drew
    have HCX:=Lib.hid (nslot_any HH.out (.slice A1 s.M.length q1) (.slice A2 s.E.length q2) f a (.slice B1 a.K.length d1) (.slice B2 a.V.length d2) w3.drew (show B≤w3.heap.size by omega) (SAt.lo HSA.out hbw3.drew hB) (SRd.low (Lo.below HL3.out.drew hBw) HCA.out) (HII.out.slot hmem) (by omega) hfl w3.heap.size (Nat.le_refl _))
    have HGX:=Lib.hid (HGO.out.on (mono_s D) HL3.out)
    have HX:=Lib.hid (box_on HXX.out HL3.out)
    have HM:=Lib.hid (And.intro (box_on HL2.out.2.1 hb3) (And.intro (box_on HL2.out.2.2.2 hb3) (box_on HL2.out.2.2.1 hb3)))
    have g2:=bx1 HX.out
    have hS0:(w3.cell? ⟨w.heap.size,0,none⟩ = some (.slice A1 s.M.length q1)∧w3.cell? ⟨w.heap.size,1,none⟩ = some (.slice A2 s.E.length q2))∧(w3.cell? ⟨w2.heap.size,0,none⟩ = some (.int .i64 f.no)∧w3.cell? ⟨w2.heap.size,1,none⟩ = some (.string (txt f.name))∧w3.cell? ⟨w2.heap.size,2,none⟩ = some (.int .i64 f.kind)∧w3.cell? ⟨w2.heap.size,3,none⟩ = some (.int .i64 f.ref)∧w3.cell? ⟨w2.heap.size,4,none⟩ = some (.bool f.rep)∧w3.cell? ⟨w2.heap.size,5,none⟩ = some (.int .i64 f.key)∧w3.cell? ⟨w2.heap.size,6,none⟩ = some (.int .i64 f.one))∧(w3.cell? ⟨wr.heap.size,0,none⟩ = some (.int .i64 a.no)∧w3.cell? ⟨wr.heap.size,1,none⟩ = some (.slice B1 a.K.length d1)∧w3.cell? ⟨wr.heap.size,2,none⟩ = some (.slice B2 a.V.length d2)):=⟨box2' HM.out.1,dc_cells HM.out.2.1,bx3 HM.out.2.2⟩
    clear hb3 c0 c1 c2
    go_wp2_with fail
    refine wp_region_held_drew (S:=(fun w'=>(w'.cell? ⟨w.heap.size,0,none⟩ = some (.slice A1 s.M.length q1)∧w'.cell? ⟨w.heap.size,1,none⟩ = some (.slice A2 s.E.length q2))∧(w'.cell? ⟨w2.heap.size,0,none⟩ = some (.int .i64 f.no)∧w'.cell? ⟨w2.heap.size,1,none⟩ = some (.string (txt f.name))∧w'.cell? ⟨w2.heap.size,2,none⟩ = some (.int .i64 f.kind)∧w'.cell? ⟨w2.heap.size,3,none⟩ = some (.int .i64 f.ref)∧w'.cell? ⟨w2.heap.size,4,none⟩ = some (.bool f.rep)∧w'.cell? ⟨w2.heap.size,5,none⟩ = some (.int .i64 f.key)∧w'.cell? ⟨w2.heap.size,6,none⟩ = some (.int .i64 f.one))∧(w'.cell? ⟨wr.heap.size,0,none⟩ = some (.int .i64 a.no)∧w'.cell? ⟨wr.heap.size,1,none⟩ = some (.slice B1 a.K.length d1)∧w'.cell? ⟨wr.heap.size,2,none⟩ = some (.slice B2 a.V.length d2)))) (by kernel_rfl) (hS0) (fun hHeld=>?_)
    refine tk 0 ?_
    refine tk 2 ?_
    refine tk 3 ?_
    refine tk 4 ?_
    refine wpAnyH_ready (rs:=[1,5]) (by kernel_rfl) (by simp) ?_
    refine AllReadyH.cons rfl (fun K hK=>?_) (AllReadyH.cons rfl (fun K hK=>?_) AllReadyH.nil)
    ·go_simp
     refine hK.out _ _ (hS0) (fun hHeld=>?_)
     clear hK K
     refine wpAnyH_ready (rs:=[5]) (by kernel_rfl) (by simp) ?_
     refine AllReadyH.cons rfl (fun K hK=>?_) AllReadyH.nil
     go_simp
     (go_at_call 91;refine HCX.out.mono ?_;rintro e w7 ⟨x1,x2,x3,rfl,ho7,hb7⟩;have hb7d:=Lib.hid (hD.trans hb7);have HX7:=Lib.hid (box_on HX.out hb7d.out);have c7:=bx1 HX7.out;have c7b:=bx1 (box_on HX7.out (below_new w7 (.cells #[x1,x2,x3] 67)));have HG8:=Lib.hid ((HGX.out.on (mono_s D) hb7d.out).on (mono_s D) (below_new w7 (.cells #[x1,x2,x3] 67)));have hs7:w3.heap.size≤w7.heap.size:=hb7d.out.size;have HM7:=Lib.hid (And.intro (box_on HM.out.1 hb7d.out) (And.intro (box_on HM.out.2.1 hb7d.out) (box_on HM.out.2.2 hb7d.out))))
     go_wp2_with fail
     refine hK.out _ _ (And.intro (box2' (HM7.out.1)) (And.intro (dc_cells (HM7.out.2.1)) (bx3 (HM7.out.2.2)))) (fun hHeld=>?_)
     clear hK K
     refine wpAnyH_ready (rs:=[6]) (by kernel_rfl) (by simp) ?_
     refine AllReadyH.cons rfl (fun K hK=>?_) AllReadyH.nil
     go_simp
     refine hK.out _ _ (And.intro (box2' (box_on HM7.out.1 (below_new w7 (.cells #[x1,x2,x3] 67)))) (And.intro (dc_cells (box_on HM7.out.2.1 (below_new w7 (.cells #[x1,x2,x3] 67)))) (bx3 (box_on HM7.out.2.2 (below_new w7 (.cells #[x1,x2,x3] 67)))))) (fun hHeld=>?_)
     clear hK K
     refine wpAnyH_ready (rs:=[7]) (by kernel_rfl) (by simp) ?_
     refine AllReadyH.cons rfl (fun K hK=>?_) AllReadyH.nil
     (refine step_append_lies _ rfl _ _ 29 rfl (w.heap.size+4) 67 i0 _ 3 56 Tryz.underlying29 hi0 hz0 hz1 hz2 rfl (by decide) v' L.length zs (by simp [Act.eval,Act.put]) HG8.out.own ⟨w7.heap.size,0,none⟩ 1 1 [x1,x2,x3] (by simp [Act.eval,Act.put]) rfl (World.news_of_block (heap_alloc_new _ _)) (sAt.oneO _ _ ho7) (by decide) (by unfold maxLen;omega) (by omega) (by simp;omega) w7.heap.size.succ (by simp) ?_;intro g8 cap8 w8 hown8 hg8 hat8 hlt8;have hX8:=Lib.hid (box_far (box_on HX7.out (below_new w7 (.cells #[x1,x2,x3] 67))) hg8 HG8.out.own (Nat.lt_succ_self (w.heap.size+3)));have f8:w8.frozen? ⟨w.heap.size+3,0,none⟩ = false:=(by simp [World.frozen?,hX8.out]);have c8:=bx1 hX8.out;have HM8:=Lib.hid (And.intro (box_far (box_on HM7.out.1 (below_new w7 (.cells #[x1,x2,x3] 67))) hg8 HG8.out.own (show w.heap.size < w.heap.size+4 by omega)) (And.intro (box_new (box_on HM7.out.2.1 (below_new w7 (.cells #[x1,x2,x3] 67))) hg8 fun q hq=>Nat.lt_of_lt_of_le (HGO.out.lt q hq) (by omega)) (box_new (box_on HM7.out.2.2 (below_new w7 (.cells #[x1,x2,x3] 67))) hg8 fun q hq=>HGO.out.lt q hq))))
     refine hK.out _ _ (And.intro (box2' (HM8.out.1)) (And.intro (dc_cells (HM8.out.2.1)) (bx3 (HM8.out.2.2)))) (fun hHeld=>?_)
     clear hK K
     refine tk 8 ?_
     refine wpAnyH_ready (rs:=[9]) (by kernel_rfl) (by simp) ?_
     refine AllReadyH.cons rfl (fun K hK=>?_) AllReadyH.nil
     go_simp
     refine hK.out _ _ (And.intro (box2' (box_set (g:=w.heap.size+3) (j:=0) HM8.out.1 (by omega) _)) (And.intro (dc_cells (box_set (g:=w.heap.size+3) (j:=0) HM8.out.2.1 (by omega) _)) (bx3 (box_set (g:=w.heap.size+3) (j:=0) HM8.out.2.2 (by omega) _)))) (fun hHeld=>?_)
     clear hK K
     refine wpAnyH_done (by kernel_rfl) ?_ _
     obtain ⟨Z1,Z2⟩:=cell1 hX8.out (.slice (some ⟨g8,0,none⟩) (L.length+1) cap8)
     have hnew:=(Grow.app (mono_s D) HG8.out (a:=norS (norB s d) f a) (b':=w3.heap.size) (by omega) (fun k hk=>HGX.out.lt k hk) (mono_s D (Ow.hi (hi_below _ (below_new w7 (.cells #[x1,x2,x3] 67)))) _ _ ho7) hown8 hg8 (hat8.imp id fun h=>by rw [h];simp)).box (mono_s D) Z2 (Nat.lt_succ_self (w.heap.size+3))
     have hw7:w.heap.size+4≤w7.heap.size:=Nat.le_trans hw3 hs7
     have hbz:Below (w.heap.size+3) wr _:=((HL3.out.mono (by omega)).trans ((hb7d.out.mono (by omega)).trans ((below_new w7 (.cells #[x1,x2,x3] 67)).mono (by omega)))).trans ((below_row hg8 HG8.out.own (Nat.le_succ _) (by simp;omega)).trans (below_own Z2 (Nat.le_refl _) (by have:=hg8.size;simp at this;omega)))
     go_wp2
     refine ⟨⟨k+1,_,zs++[x1,x2,x3],by go_num,by omega,Z1,?_,HB1.out.1.trans hbz,by have h1:=hbz.size;have h2:=hg8.size;simp at h1 h2 ⊢;omega⟩,by simp [intOf];omega⟩
     rw [HON.out,HO1.out,if_pos (by trivial)]
     exact hnew
    ·go_simp
     (go_at_call 91;refine HCX.out.mono ?_;rintro e w7 ⟨x1,x2,x3,rfl,ho7,hb7⟩;have hb7d:=Lib.hid (hD.trans hb7);have HX7:=Lib.hid (box_on HX.out hb7d.out);have c7:=bx1 HX7.out;have c7b:=bx1 (box_on HX7.out (below_new w7 (.cells #[x1,x2,x3] 67)));have HG8:=Lib.hid ((HGX.out.on (mono_s D) hb7d.out).on (mono_s D) (below_new w7 (.cells #[x1,x2,x3] 67)));have hs7:w3.heap.size≤w7.heap.size:=hb7d.out.size;have HM7:=Lib.hid (And.intro (box_on HM.out.1 hb7d.out) (And.intro (box_on HM.out.2.1 hb7d.out) (box_on HM.out.2.2 hb7d.out))))
     go_wp2_with fail
     refine hK.out _ _ (And.intro (box2' (HM7.out.1)) (And.intro (dc_cells (HM7.out.2.1)) (bx3 (HM7.out.2.2)))) (fun hHeld=>?_)
     clear hK K
     refine wpAnyH_ready (rs:=[1,6]) (by kernel_rfl) (by simp) ?_
     refine AllReadyH.cons rfl (fun K hK=>?_) (AllReadyH.cons rfl (fun K hK=>?_) AllReadyH.nil)
     ·go_simp
      refine hK.out _ _ (And.intro (box2' (HM7.out.1)) (And.intro (dc_cells (HM7.out.2.1)) (bx3 (HM7.out.2.2)))) (fun hHeld=>?_)
      clear hK K
      refine wpAnyH_ready (rs:=[6]) (by kernel_rfl) (by simp) ?_
      refine AllReadyH.cons rfl (fun K hK=>?_) AllReadyH.nil
      go_simp
      refine hK.out _ _ (And.intro (box2' (box_on HM7.out.1 (below_new w7 (.cells #[x1,x2,x3] 67)))) (And.intro (dc_cells (box_on HM7.out.2.1 (below_new w7 (.cells #[x1,x2,x3] 67)))) (bx3 (box_on HM7.out.2.2 (below_new w7 (.cells #[x1,x2,x3] 67)))))) (fun hHeld=>?_)
      clear hK K
      refine wpAnyH_ready (rs:=[7]) (by kernel_rfl) (by simp) ?_
      refine AllReadyH.cons rfl (fun K hK=>?_) AllReadyH.nil
      (refine step_append_lies _ rfl _ _ 29 rfl (w.heap.size+4) 67 i0 _ 3 56 Tryz.underlying29 hi0 hz0 hz1 hz2 rfl (by decide) v' L.length zs (by simp [Act.eval,Act.put]) HG8.out.own ⟨w7.heap.size,0,none⟩ 1 1 [x1,x2,x3] (by simp [Act.eval,Act.put]) rfl (World.news_of_block (heap_alloc_new _ _)) (sAt.oneO _ _ ho7) (by decide) (by unfold maxLen;omega) (by omega) (by simp;omega) w7.heap.size.succ (by simp) ?_;intro g8 cap8 w8 hown8 hg8 hat8 hlt8;have hX8:=Lib.hid (box_far (box_on HX7.out (below_new w7 (.cells #[x1,x2,x3] 67))) hg8 HG8.out.own (Nat.lt_succ_self (w.heap.size+3)));have f8:w8.frozen? ⟨w.heap.size+3,0,none⟩ = false:=(by simp [World.frozen?,hX8.out]);have c8:=bx1 hX8.out;have HM8:=Lib.hid (And.intro (box_far (box_on HM7.out.1 (below_new w7 (.cells #[x1,x2,x3] 67))) hg8 HG8.out.own (show w.heap.size < w.heap.size+4 by omega)) (And.intro (box_new (box_on HM7.out.2.1 (below_new w7 (.cells #[x1,x2,x3] 67))) hg8 fun q hq=>Nat.lt_of_lt_of_le (HGO.out.lt q hq) (by omega)) (box_new (box_on HM7.out.2.2 (below_new w7 (.cells #[x1,x2,x3] 67))) hg8 fun q hq=>HGO.out.lt q hq))))
      refine hK.out _ _ (And.intro (box2' (HM8.out.1)) (And.intro (dc_cells (HM8.out.2.1)) (bx3 (HM8.out.2.2)))) (fun hHeld=>?_)
      clear hK K
      refine tk 8 ?_
      refine wpAnyH_ready (rs:=[9]) (by kernel_rfl) (by simp) ?_
      refine AllReadyH.cons rfl (fun K hK=>?_) AllReadyH.nil
      go_simp
      refine hK.out _ _ (And.intro (box2' (box_set (g:=w.heap.size+3) (j:=0) HM8.out.1 (by omega) _)) (And.intro (dc_cells (box_set (g:=w.heap.size+3) (j:=0) HM8.out.2.1 (by omega) _)) (bx3 (box_set (g:=w.heap.size+3) (j:=0) HM8.out.2.2 (by omega) _)))) (fun hHeld=>?_)
      clear hK K
      refine wpAnyH_done (by kernel_rfl) ?_ _
      obtain ⟨Z1,Z2⟩:=cell1 hX8.out (.slice (some ⟨g8,0,none⟩) (L.length+1) cap8)
      have hnew:=(Grow.app (mono_s D) HG8.out (a:=norS (norB s d) f a) (b':=w3.heap.size) (by omega) (fun k hk=>HGX.out.lt k hk) (mono_s D (Ow.hi (hi_below _ (below_new w7 (.cells #[x1,x2,x3] 67)))) _ _ ho7) hown8 hg8 (hat8.imp id fun h=>by rw [h];simp)).box (mono_s D) Z2 (Nat.lt_succ_self (w.heap.size+3))
      have hw7:w.heap.size+4≤w7.heap.size:=Nat.le_trans hw3 hs7
      have hbz:Below (w.heap.size+3) wr _:=((HL3.out.mono (by omega)).trans ((hb7d.out.mono (by omega)).trans ((below_new w7 (.cells #[x1,x2,x3] 67)).mono (by omega)))).trans ((below_row hg8 HG8.out.own (Nat.le_succ _) (by simp;omega)).trans (below_own Z2 (Nat.le_refl _) (by have:=hg8.size;simp at this;omega)))
      go_wp2
      refine ⟨⟨k+1,_,zs++[x1,x2,x3],by go_num,by omega,Z1,?_,HB1.out.1.trans hbz,by have h1:=hbz.size;have h2:=hg8.size;simp at h1 h2 ⊢;omega⟩,by simp [intOf];omega⟩
      rw [HON.out,HO1.out,if_pos (by trivial)]
      exact hnew
     ·go_simp
      refine hK.out _ _ (And.intro (box2' (box_on HM7.out.1 (below_new w7 (.cells #[x1,x2,x3] 67)))) (And.intro (dc_cells (box_on HM7.out.2.1 (below_new w7 (.cells #[x1,x2,x3] 67)))) (bx3 (box_on HM7.out.2.2 (below_new w7 (.cells #[x1,x2,x3] 67)))))) (fun hHeld=>?_)
      clear hK K
      refine wpAnyH_ready (rs:=[1]) (by kernel_rfl) (by simp) ?_
      refine AllReadyH.cons rfl (fun K hK=>?_) AllReadyH.nil
      go_simp
      refine hK.out _ _ (And.intro (box2' (box_on HM7.out.1 (below_new w7 (.cells #[x1,x2,x3] 67)))) (And.intro (dc_cells (box_on HM7.out.2.1 (below_new w7 (.cells #[x1,x2,x3] 67)))) (bx3 (box_on HM7.out.2.2 (below_new w7 (.cells #[x1,x2,x3] 67)))))) (fun hHeld=>?_)
      clear hK K
      refine wpAnyH_ready (rs:=[7]) (by kernel_rfl) (by simp) ?_
      refine AllReadyH.cons rfl (fun K hK=>?_) AllReadyH.nil
      (refine step_append_lies _ rfl _ _ 29 rfl (w.heap.size+4) 67 i0 _ 3 56 Tryz.underlying29 hi0 hz0 hz1 hz2 rfl (by decide) v' L.length zs (by simp [Act.eval,Act.put]) HG8.out.own ⟨w7.heap.size,0,none⟩ 1 1 [x1,x2,x3] (by simp [Act.eval,Act.put]) rfl (World.news_of_block (heap_alloc_new _ _)) (sAt.oneO _ _ ho7) (by decide) (by unfold maxLen;omega) (by omega) (by simp;omega) w7.heap.size.succ (by simp) ?_;intro g8 cap8 w8 hown8 hg8 hat8 hlt8;have hX8:=Lib.hid (box_far (box_on HX7.out (below_new w7 (.cells #[x1,x2,x3] 67))) hg8 HG8.out.own (Nat.lt_succ_self (w.heap.size+3)));have f8:w8.frozen? ⟨w.heap.size+3,0,none⟩ = false:=(by simp [World.frozen?,hX8.out]);have c8:=bx1 hX8.out;have HM8:=Lib.hid (And.intro (box_far (box_on HM7.out.1 (below_new w7 (.cells #[x1,x2,x3] 67))) hg8 HG8.out.own (show w.heap.size < w.heap.size+4 by omega)) (And.intro (box_new (box_on HM7.out.2.1 (below_new w7 (.cells #[x1,x2,x3] 67))) hg8 fun q hq=>Nat.lt_of_lt_of_le (HGO.out.lt q hq) (by omega)) (box_new (box_on HM7.out.2.2 (below_new w7 (.cells #[x1,x2,x3] 67))) hg8 fun q hq=>HGO.out.lt q hq))))
      refine hK.out _ _ (And.intro (box2' (HM8.out.1)) (And.intro (dc_cells (HM8.out.2.1)) (bx3 (HM8.out.2.2)))) (fun hHeld=>?_)
      clear hK K
      refine tk 8 ?_
      refine wpAnyH_ready (rs:=[9]) (by kernel_rfl) (by simp) ?_
      refine AllReadyH.cons rfl (fun K hK=>?_) AllReadyH.nil
      go_simp
      refine hK.out _ _ (And.intro (box2' (box_set (g:=w.heap.size+3) (j:=0) HM8.out.1 (by omega) _)) (And.intro (dc_cells (box_set (g:=w.heap.size+3) (j:=0) HM8.out.2.1 (by omega) _)) (bx3 (box_set (g:=w.heap.size+3) (j:=0) HM8.out.2.2 (by omega) _)))) (fun hHeld=>?_)
      clear hK K
      refine wpAnyH_done (by kernel_rfl) ?_ _
      obtain ⟨Z1,Z2⟩:=cell1 hX8.out (.slice (some ⟨g8,0,none⟩) (L.length+1) cap8)
      have hnew:=(Grow.app (mono_s D) HG8.out (a:=norS (norB s d) f a) (b':=w3.heap.size) (by omega) (fun k hk=>HGX.out.lt k hk) (mono_s D (Ow.hi (hi_below _ (below_new w7 (.cells #[x1,x2,x3] 67)))) _ _ ho7) hown8 hg8 (hat8.imp id fun h=>by rw [h];simp)).box (mono_s D) Z2 (Nat.lt_succ_self (w.heap.size+3))
      have hw7:w.heap.size+4≤w7.heap.size:=Nat.le_trans hw3 hs7
      have hbz:Below (w.heap.size+3) wr _:=((HL3.out.mono (by omega)).trans ((hb7d.out.mono (by omega)).trans ((below_new w7 (.cells #[x1,x2,x3] 67)).mono (by omega)))).trans ((below_row hg8 HG8.out.own (Nat.le_succ _) (by simp;omega)).trans (below_own Z2 (Nat.le_refl _) (by have:=hg8.size;simp at this;omega)))
      go_wp2
      refine ⟨⟨k+1,_,zs++[x1,x2,x3],by go_num,by omega,Z1,?_,HB1.out.1.trans hbz,by have h1:=hbz.size;have h2:=hg8.size;simp at h1 h2 ⊢;omega⟩,by simp [intOf];omega⟩
      rw [HON.out,HO1.out,if_pos (by trivial)]
      exact hnew
  ·obtain rfl:k = x.F.length:=by omega
   rw [List.take_length] at hL
   have hd:L.Pairwise fun a b=>a.no≠b.no:=by rw [← hL];exact told_no HNO.out
   have HSO:=Lib.hid (sort_slots D (w.heap.size+4) v' L zs wr hgx hd (by omega))
   have HG0:=Lib.hid hgx
   have x4:=bx1 hX
   have HL:=Lib.hid hL
   have HX:=Lib.hid hX
   have HM3:=Lib.hid hm3
   clear hX hgx hm1 hm3 hL hd
   go_wp2_with fail
   refine HSO.out.mono ?_
   rintro e w9 ⟨rfl,⟨ys,hg9⟩,hlen9,hgr9⟩
   have Y3:=box_far HM3.out hgr9 HG0.out.own (show w.heap.size+2 < w.heap.size+4 by omega)
   have Y4:=box_far HX.out hgr9 HG0.out.own (show w.heap.size+3 < w.heap.size+4 by omega)
   obtain ⟨Av,cv,rfl,-⟩:=Sl.of_own hg9.own
   have y4:=bx1 Y4
   have y3:=bx1 Y3
   have ff:w9.frozen? ⟨w.heap.size+2,0,none⟩ = false:=by simp [World.frozen?,Y3]
   obtain ⟨Z1,Z2⟩:=cell1 Y3 (.slice Av (srt ltNo L).length cv)
   have hs9:=hgr9.size
   have HLEN:=Lib.hid hlen9
   clear x4 hlen9
   go_wp2
   refine bodyPost_ret (results_cell_row rfl _ _ (w.heap.size+2) _ _ (0,0) _ rfl Z1 Tryz.underlying31 rfl sz_msg) rfl ?_
   have h1:=(hg9.box (mono_s D) Z2 (show w.heap.size+2 < w.heap.size+4 by omega)).less (mono_s D) (show b≤w.heap.size+4 by omega)
   have e:norB s (d+1) m x = .mk (srt ltNo L):=by
    show Mg.mk (srt ltNo (x.F.filterMap (norO (byS s m) (norB s d)))) = _
    rw [HL.out]
   rw [e]
   exact ⟨_,rfl,⟨_,rfl,h1.ow (mono_s D) (show (srt ltNo L).length≤_ by rw [HLEN.out];omega)⟩,(hbw.trans (below_row hgr9 HG0.out.own (by omega) (by omega))).trans (below_own Z2 (by omega) (by omega))⟩
theorem norm_any {s:Sc} (hin:ScIn s) (B:Nat):∀ (D d:Nat),NormH s B D (isB s d) (norB s d)
 | 0,_=>fun _ _ _ _ _ _ _ _ h=>h.elim
 | _+1,0=>fun _ _ _ _ _ _ _ _ _ _ _ h=>by cases h
 | D+1,d+1=>norm_step hin (norm_any hin B D d)
theorem tnormal_any {s:Sc} (hin:ScIn s) (B D:Nat) (vM vE:Value) (m:Int) (x:Mg) (u:Value) (w:World) (hB:B≤w.heap.size) (hs:SAt B w s vM vE) (hx:MRd B w D x u) (hi:MIn x) (hc:x.cnt≤100000) (T:Tabs w) :
  Calls Tryz.prog 33 #[.agg #[vM,vE],.int .i64 m,.agg #[u]] w fun e w'=>∃ A n c,e = .returned (.tuple #[.agg #[.slice A n c],.bool (mayT s m x)])∧(mayT s m x = false→A = none∧n = 0∧c = 0)∧(mayT s m x = true→MRd w'.heap.size w' D (norB s 64 m x) (.slice A n c))∧Below w.heap.size w w':=by
 refine (tnormal_of hin B D vM vE m x u w hB hs hx hi hc T (fun v wa=>MAt (Ow (w.heap.size+3) wa) D (norB s 64 m x) [v]) (fun v wa wb h hg=>MAt.imp (Ow.hi (hi_grown hg (by omega))) D _ _ h) ?_).mono ?_
 ·intro hm wx hbw hsz
  have hG:isB s 64 m x = true:=by
   unfold mayT at hm
   rw [Bool.and_eq_true] at hm
   exact hm.2
  refine (norm_any hin B D 64 vM vE m x u wx (Nat.le_trans hB hbw.size) (SAt.lo hs hbw hB) (MRd.low (Lo.below hbw hB) hx) hi hc hG (w.heap.size+3) hsz).mono ?_
  rintro e w' ⟨x1,rfl,h1,h2⟩
  obtain ⟨A,c,rfl⟩:=msg_shape h1
  exact ⟨A,_,c,rfl,h1,h2⟩
 ·rintro e w' ⟨A,n,c,rfl,h1,h2,h3⟩
  exact ⟨A,n,c,rfl,h1,fun hm=>own_rd (h2 hm),h3⟩
end Go.Proofs.YtckcojkpghiclaaGreatDoor.T9
namespace Go.Proofs.YtckcojkpghiclaaGreatDoor
set_option maxRecDepth 100000
open Go.RowKit
theorem all_next {α:Type} {g:α→Bool} {l:List α} {k:Nat} {x:α} (h:l[k]? = some x):(l.take (k+1)).all g = ((l.take k).all g && g x):=by
 rw [List.take_add_one,h];simp [List.all_append]
theorem all_part {α:Type} {g:α→Bool} {l:List α} {k:Nat} (h:(l.take k).all g = false):l.all g = false:=by
 rw [← List.take_append_drop k l,List.all_append,h,Bool.false_and]
theorem few_end {α:Type} {g:α→Bool} {c:Bool} {l:List α} {k:Nat} (h:false = (c && (l.take k).all g)):(c && l.all g) = false:=by
 cases c with
 | false=>rfl
 | true =>
  rw [Bool.true_and] at h ⊢
  exact all_part h.symm
def fewMd (m:Md):Bool:=decide (m.F.length≤60)
def fewEd (e:Ed):Bool:=decide (e.V.length≤60) && decide (e.N.length≤60)
def fewS (s:Sc):Bool:=decide (s.M.length≤30) && decide (s.E.length≤30) && s.M.all fewMd && s.E.all fewEd
set_option maxRecDepth 1000000 in
set_option maxHeartbeats 4000000 in
theorem fews_any (B:Nat) (f:Sc) (vM vE:Value) (w:World) (hB:B≤w.heap.size) (hf:SAt B w f vM vE) :
  Calls Tryz.prog 13 #[.agg #[vM,vE]] w fun e w'=>e = .returned (.bool (fewS f))∧Below w.heap.size w w':=by
 obtain ⟨xs,ys,⟨A1,q1,rfl,s1,b1⟩,h2,⟨A2,q2,rfl,s2,b2⟩,h4⟩:=hf
 obtain ⟨M,E⟩:=f
 simp only at s1 s2 h2 h4 b1 b2
 have HS:Hid (fewS ⟨M,E⟩ = ((decide (M.length≤30) && decide (E.length≤30)) && M.all fewMd && E.all fewEd)):=Lib.hid rfl
 have hlow:=Low.alloc w (.cells #[.slice A1 M.length q1,.slice A2 E.length q2] 25) hB
 have HM:=Lib.hid (s1.low b1 hlow)
 have HMA:=Lib.hid (h2.low hlow)
 have HE:=Lib.hid (s2.low b2 hlow)
 have HEA:=Lib.hid (h4.low hlow)
 have hbox:=heap_alloc_new w (.cells #[.slice A1 M.length q1,.slice A2 E.length q2] 25)
 have hbw:=below_new w (.cells #[.slice A1 M.length q1,.slice A2 E.length q2] 25)
 by_cases hsm:M.length≤30∧E.length≤30
 ·have d1:decide ((M.length:Int)≤30) = true:=by rw [decide_eq_true_eq];omega
  have d2:decide ((E.length:Int)≤30) = true:=by rw [decide_eq_true_eq];omega
  have HS1:Hid (fewS ⟨M,E⟩ = (M.all fewMd && E.all fewEd)):=Lib.hid (by rw [HS.out,decide_eq_true hsm.1,decide_eq_true hsm.2];simp)
  have hml:=hsm.1
  have hel:=hsm.2
  clear hsm
  go_enter Tryz.func13,Tryz.ntmps13
  go_wp2_with fail
  generalize w.alloc (.cells #[.slice A1 M.length q1,.slice A2 E.length q2] 25) = W at *
  have HBW:=Lib.hid hbw
  have b0:=heap_cell hbox 0
  have b1:=heap_cell hbox 1
  simp at b0 b1
  clear hbw hbox
  go_wp2
  go_loopw [3,4] (fun o i wr=>∃ (k:Nat) (b:Bool),i = .int .i64 k∧o = .bool b∧k≤M.length∧b = (M.take k).all fewMd∧wr = W) (fun _ i _=>M.length - (intOf i).toNat)
  case atStart=>exact ⟨0,true,rfl,rfl,by omega,by simp,rfl⟩
  case round =>
   obtain ⟨k,b,rfl,rfl,hk,hb,rfl⟩:=hrel
   have HB:=Lib.hid hb
   clear hb
   by_cases hlt:k < M.length
   ·cases b with
    | true =>
     obtain ⟨m,hm⟩:∃ m,M[k]? = some m:=⟨_,List.getElem?_eq_getElem hlt⟩
     obtain ⟨ad,vF,rfl,hg,hmr,c0,c1⟩:=mdr_at HM.out HMA.out hm
     obtain ⟨AF,cF,rfl,-,-⟩:=hmr
     have HN:=Lib.hid (all_next (g:=fewMd) hm)
     have HF:Hid (fewMd m = decide ((m.F.length:Int)≤60)):=Lib.hid (by unfold fewMd;congr 1;apply propext;omega)
     clear hm c0
     go_wp2
     refine ⟨⟨k+1,_,by go_num,rfl,by omega,?_,trivial⟩,by simp [intOf];omega⟩
     have h:=HB.out
     rw [HN.out,← h,HF.out,Bool.true_and]
    | false =>
     obtain ⟨c,hc⟩:∃ c,c = false:=⟨_,rfl⟩
     have HS2:Hid (fewS ⟨M,E⟩ = (c && E.all fewEd)):=Lib.hid (by rw [HS1.out,hc,all_part HB.out.symm])
     go_wp2
     go_loopw [3,5] (fun o i wx=>∃ (k:Nat) (b:Bool),i = .int .i64 k∧o = .bool b∧k≤E.length∧b = (c && (E.take k).all fewEd)∧wx = wr) (fun _ i _=>E.length - (intOf i).toNat)
     case atStart=>exact ⟨0,c,rfl,by rw [hc],by omega,by simp,rfl⟩
     case round =>
      obtain ⟨k,b,rfl,rfl,hk2,hb2,rfl⟩:=hrel
      have HB2:=Lib.hid hb2
      clear hb2
      by_cases hlt2:k < E.length
      ·cases b with
       | false =>
        go_wp2
        go_ret
        exact ⟨by rw [HS2.out,few_end HB2.out];rfl,HBW.out⟩
       | true =>
        obtain ⟨e,he⟩:∃ e,E[k]? = some e:=⟨_,List.getElem?_eq_getElem hlt2⟩
        obtain ⟨ad2,vV,vN,rfl,hg2,hmr2,hnr2,g0,g1,g2⟩:=edr_at HE.out HEA.out he
        obtain ⟨AV,cV,rfl,-,-⟩:=hmr2
        obtain ⟨AN,cN,rfl,-,-⟩:=hnr2
        have HN2:=Lib.hid (all_next (g:=fewEd) he)
        have HV:Hid (fewEd e = (decide ((e.V.length:Int)≤60) && decide ((e.N.length:Int)≤60))):=Lib.hid (by
         have e60:∀ n:Nat,decide (n≤60) = decide ((n:Int)≤60):=fun n=>by congr 1;apply propext;omega
         unfold fewEd
         rw [e60,e60])
        clear he g0
        obtain ⟨a1,ha1⟩:∃ a,decide ((e.V.length:Int)≤60) = a:=⟨_,rfl⟩
        rw [ha1] at HV
        cases a1
        all_goals
         go_wp2
         refine ⟨⟨k+1,_,by go_num,rfl,by omega,?_,trivial⟩,by simp [intOf];omega⟩
         have h:=HB2.out
         rw [HN2.out,← Bool.and_assoc,← h,Bool.true_and,HV.out]
         simp
      ·obtain rfl:k = E.length:=by omega
       go_wp2
       go_ret
       exact ⟨by rw [HS2.out];have h:=HB2.out;rw [List.take_length] at h;rw [← h];rfl,HBW.out⟩
   ·obtain rfl:k = M.length:=by omega
    have HS2:Hid (fewS ⟨M,E⟩ = (b && E.all fewEd)):=Lib.hid (by rw [HS1.out];have h:=HB.out;rw [List.take_length] at h;rw [h])
    obtain ⟨c,hc⟩:∃ c,c = b:=⟨_,rfl⟩
    rw [← hc] at HS2
    clear HB
    go_wp2
    go_loopw [3,5] (fun o i wx=>∃ (k:Nat) (b:Bool),i = .int .i64 k∧o = .bool b∧k≤E.length∧b = (c && (E.take k).all fewEd)∧wx = wr) (fun _ i _=>E.length - (intOf i).toNat)
    case atStart=>exact ⟨0,c,rfl,by rw [hc],by omega,by simp,rfl⟩
    case round =>
     obtain ⟨k,b,rfl,rfl,hk2,hb2,rfl⟩:=hrel
     have HB2:=Lib.hid hb2
     clear hb2
     by_cases hlt2:k < E.length
     ·cases b with
      | false =>
       go_wp2
       go_ret
       exact ⟨by rw [HS2.out,few_end HB2.out];rfl,HBW.out⟩
      | true =>
       obtain ⟨e,he⟩:∃ e,E[k]? = some e:=⟨_,List.getElem?_eq_getElem hlt2⟩
       obtain ⟨ad2,vV,vN,rfl,hg2,hmr2,hnr2,g0,g1,g2⟩:=edr_at HE.out HEA.out he
       obtain ⟨AV,cV,rfl,-,-⟩:=hmr2
       obtain ⟨AN,cN,rfl,-,-⟩:=hnr2
       have HN2:=Lib.hid (all_next (g:=fewEd) he)
       have HV:Hid (fewEd e = (decide ((e.V.length:Int)≤60) && decide ((e.N.length:Int)≤60))):=Lib.hid (by
        have e60:∀ n:Nat,decide (n≤60) = decide ((n:Int)≤60):=fun n=>by congr 1;apply propext;omega
        unfold fewEd
        rw [e60,e60])
       clear he g0
       obtain ⟨a1,ha1⟩:∃ a,decide ((e.V.length:Int)≤60) = a:=⟨_,rfl⟩
       rw [ha1] at HV
       cases a1
       all_goals
        go_wp2
        refine ⟨⟨k+1,_,by go_num,rfl,by omega,?_,trivial⟩,by simp [intOf];omega⟩
        have h:=HB2.out
        rw [HN2.out,← Bool.and_assoc,← h,Bool.true_and,HV.out]
        simp
     ·obtain rfl:k = E.length:=by omega
      go_wp2
      go_ret
      exact ⟨by rw [HS2.out];have h:=HB2.out;rw [List.take_length] at h;rw [← h];rfl,HBW.out⟩
 ·have HF:Hid (fewS ⟨M,E⟩ = false):=Lib.hid (by
   rw [HS.out]
   by_cases h1:M.length≤30
   ·have h2:¬ E.length≤30:=fun h=>hsm ⟨h1,h⟩
    simp [h2]
   ·simp [h1])
  have hor:decide ((M.length:Int)≤30) = false∨(decide ((M.length:Int)≤30) = true∧decide ((E.length:Int)≤30) = false):=by
   by_cases h1:M.length≤30
   ·right
    have h2:¬ E.length≤30:=fun h=>hsm ⟨h1,h⟩
    exact ⟨by rw [decide_eq_true_eq];omega,by rw [decide_eq_false_iff_not];omega⟩
   ·left
    rw [decide_eq_false_iff_not];omega
  have HBW:=Lib.hid hbw
  clear hsm HS HM HMA HE HEA hbw
  rcases hor with d1 | ⟨d1,d2⟩
  all_goals
   go_enter Tryz.func13,Tryz.ntmps13
   go_wp2_with fail
   generalize w.alloc (.cells #[.slice A1 M.length q1,.slice A2 E.length q2] 25) = W at *
   have b0:=heap_cell hbox 0
   have b1:=heap_cell hbox 1
   simp at b0 b1
   clear hbox
   go_wp2
   go_loopw [3,4] (fun o i wr=>∃ k:Nat,i = .int .i64 k∧o = .bool false∧k≤M.length∧wr = W) (fun _ _ _=>0)
   case atStart=>exact ⟨0,rfl,rfl,by omega,rfl⟩
   case round =>
    obtain ⟨k,rfl,rfl,hk,rfl⟩:=hrel
    by_cases hlt:k < M.length
    all_goals
     go_wp2
     go_loopw [3,5] (fun o i wx=>∃ k:Nat,i = .int .i64 k∧o = .bool false∧k≤E.length∧wx = wr) (fun _ _ _=>0)
     case atStart=>exact ⟨0,rfl,rfl,by omega,rfl⟩
     case round =>
      obtain ⟨k2,rfl,rfl,hk2,rfl⟩:=hrel
      by_cases hlt2:k2 < E.length
      all_goals
       go_wp2
       go_ret
       exact ⟨by rw [HF.out];rfl,HBW.out⟩
end Go.Proofs.YtckcojkpghiclaaGreatDoor
namespace Go.Proofs.YtckcojkpghiclaaGreatDoor.T12
set_option maxRecDepth 100000
open Go.RowKit
open Go.Proofs.YtckcojkpghiclaaGreatDoor.T9 Go.Proofs.YtckcojkpghiclaaGreatDoor.T4
def ClosW (B D:Nat) (w:World) (c:Value) (g:Vl'→List UInt8) (P:Vl'→Prop):Prop:=∃ (fn:FuncId) (caps:Array Value),c = .func (.func fn) #[] caps∧(∀ args w,(callFunc fn args).run Tryz.prog w = .ok (.enter fn args) w) ∧
 ∀ (a:Vl') (u:Value) (wr:World),Below w.heap.size w wr→VAt (Rd B wr) D a [.int .i64 a.n,.string (tx a.s),u]→P a→Calls Tryz.prog fn (#[.agg #[.int .i64 a.n,.string (tx a.s),u]]++caps) wr fun e w'=>∃ v,e = .returned v∧By wr.heap.size w' (g a) v∧Below wr.heap.size wr w'
theorem ClosW.on {B D:Nat} {w w':World} {c:Value} {g:Vl'→List UInt8} {P:Vl'→Prop} (h:ClosW B D w c g P) (hb:Below w.heap.size w w'):ClosW B D w' c g P:=by
 obtain ⟨fn,caps,e,h1,h2⟩:=h
 exact ⟨fn,caps,e,h1,fun a u wr hw=>h2 a u wr (below_then hb hw)⟩
theorem ClosW.weak {B D:Nat} {w:World} {c:Value} {g g':Vl'→List UInt8} {P P':Vl'→Prop} (h:ClosW B D w c g P) (hP:∀ a,P' a→P a) (hg:∀ a,P' a→g a = g' a):ClosW B D w c g' P':=by
 obtain ⟨fn,caps,e,h1,h2⟩:=h
 exact ⟨fn,caps,e,h1,fun a u wr hw hv hp=>(h2 a u wr hw hv (hP a hp)).mono fun e w' ⟨v,h3,h4,h5⟩=>⟨v,h3,hg a hp ▸ h4,h5⟩⟩
theorem wire_in (k:Int):inI (wireI k):=by
 unfold inI wireI
 repeat' split
 all_goals omega
theorem lit1 {w:World} {l:List UInt8} {v:Value} {b:Nat} (h:By b w l v):Sl (w.alloc (.cells #[v] 26)) (some ⟨w.heap.size,0,none⟩) [l].length 1 1 [v]∧T9.Rows (BL none (w.alloc (.cells #[v] 26))) [l] [v]:=by
 obtain ⟨A,c,rfl,h1,-⟩:=h
 exact ⟨Sl.new w [.slice A l.length c] 26 (show 1≤maxLen by decide),Rows.single ⟨A,c,rfl,h1.lit _,fun a ha hn e=>by cases e⟩⟩
theorem lit2 {w:World} {l l':List UInt8} {v v':Value} {b b':Nat} (h:By b w l v) (h':By b' w l' v'):Sl (w.alloc (.cells #[v,v'] 26)) (some ⟨w.heap.size,0,none⟩) [l,l'].length 2 1 [v,v']∧T9.Rows (BL none (w.alloc (.cells #[v,v'] 26))) [l,l'] [v,v']:=by
 obtain ⟨A,c,rfl,h1,-⟩:=h
 obtain ⟨A',c',rfl,h1',-⟩:=h'
 exact ⟨Sl.new w [.slice A l.length c,.slice A' l'.length c'] 26 (show 2≤maxLen by decide),(Rows.single (C:=BL none _) (a:=l) ⟨A,c,rfl,h1.lit _,fun a ha hn e=>by cases e⟩).append (Rows.single (C:=BL none _) (a:=l') ⟨A',c',rfl,h1'.lit _,fun a ha hn e=>by cases e⟩)⟩
theorem run1_any (no:Int) (l:List UInt8) (v:Value) (b:Nat) (w:World) (hn1:inI no) (hy:By b w l v) (hl:l.length≤140737488351232) (T:Wires w) :
  Calls Tryz.prog 123 #[.int .i64 no,.slice (some ⟨w.heap.size,0,none⟩) 1 1] (w.alloc (.cells #[v] 26)) fun e w'=>∃ v',e = .returned v'∧By (w.heap.size+1) w' (runL no l) v'∧Below (w.alloc (.cells #[v] 26)).heap.size (w.alloc (.cells #[v] 26)) w':=by
 obtain ⟨h1,h2⟩:=lit1 hy
 have hs:(w.alloc (.cells #[v] 26)).heap.size = w.heap.size+1:=by simp
 have:=run_any no (some ⟨w.heap.size,0,none⟩) 1 [l] [v] l (by simp) _ hn1 h1 h2 hl (T.on (below_new _ _))
 rw [hs] at this ⊢
 exact this
theorem run2_any (no:Int) (l l':List UInt8) (v v':Value) (b b':Nat) (w:World) (hn1:inI no) (hy:By b w l v) (hy':By b' w l' v') (hl:(l++l').length≤140737488351232) (T:Wires w) :
  Calls Tryz.prog 123 #[.int .i64 no,.slice (some ⟨w.heap.size,0,none⟩) 2 2] (w.alloc (.cells #[v,v'] 26)) fun e w'=>∃ u,e = .returned u∧By (w.heap.size+1) w' (runL no (l++l')) u∧Below (w.alloc (.cells #[v,v'] 26)).heap.size (w.alloc (.cells #[v,v'] 26)) w':=by
 obtain ⟨h1,h2⟩:=lit2 hy hy'
 have hs:(w.alloc (.cells #[v,v'] 26)).heap.size = w.heap.size+1:=by simp
 have:=run_any no (some ⟨w.heap.size,0,none⟩) 2 [l,l'] [v,v'] (l++l') (by simp) _ hn1 h1 h2 hl (T.on (below_new _ _))
 rw [hs] at this ⊢
 exact this
set_option maxRecDepth 1000000 in
set_option maxHeartbeats 4000000 in
theorem count1_any (kind no:Int) (a:Vl') (A:Option Addr) (c:Nat) (P1 P2 P3:Nat) (w:World) (hn:inI a.n) (hno:inI no) (h1:w.heap[P1]? = some (.cells #[.int .i64 kind] 3 (0,0))) (h2:w.heap[P2]? = some (.cells #[.int .i64 no] 3 (0,0))) (h3:w.heap[P3]? = some (.cells #[.int .i64 (wireI kind)] 3 (0,0))) (T:Wires w) :
  Calls Tryz.prog 200 #[.agg #[.int .i64 a.n,.string (tx a.s),.slice A a.M.length c],.pointer (some ⟨P1,0,none⟩),.pointer (some ⟨P2,0,none⟩),.pointer (some ⟨P3,0,none⟩)] w fun e w'=>∃ v,e = .returned v∧By w.heap.size w' (encN kind no a.n) v∧Below w.heap.size w w':=by
 have LBD:=below_new w (.cells #[.int .i64 a.n,.string (tx a.s),.slice A a.M.length c] 81)
 have X1:=heap_alloc_new w (.cells #[.int .i64 a.n,.string (tx a.s),.slice A a.M.length c] 81)
 have Y1:=bx1 (box_on h1 LBD)
 have HY2:=Lib.hid (box_on h2 LBD)
 have HY3:=Lib.hid (box_on h3 LBD)
 obtain ⟨x0,x1,x2⟩:=bx3 X1
 obtain ⟨N,hN⟩:∃ N:Nat,bitsI kind a.n = (N:Int):=⟨(bitsI kind a.n).toNat,by have:=bitsI_bound kind (n:=a.n) hn.1 hn.2;omega⟩
 have hN2:N < 18446744073709551616:=by have:=bitsI_bound kind (n:=a.n) hn.1 hn.2;omega
 have hE:encN kind no a.n = recL no (wireI kind) N []:=by unfold encN;rw [hN];rfl
 have HB:=Lib.hid (fun wx=>bits_any kind a.n hn.1 hn.2 wx)
 rw [hN] at HB
 rw [hE]
 obtain ⟨wi,hwi⟩:∃ i,wireI kind = i:=⟨_,rfl⟩
 have hwin:=wire_in kind
 rw [hwi] at hwin HY3 ⊢
 have HP:Hid (∀ wx,Below w.heap.size w wx→Calls Tryz.prog 168 #[.agg #[.int .i64 no,.int .i64 wi,.int .u64 N,.int .i64 0,.int .i64 0],.slice none 0 0] wx fun e w'=>∃ v,e = .returned v∧By wx.heap.size w' (recL no wi N []) v∧Below wx.heap.size wx w') :=
  Lib.hid fun wx h=>put_any no wi N 0 0 none 0 [] hno hwin hN2 (by decide) wx (SlB.nil wx) (T.on h)
 clear hN hN2 hE hwi h1 h2 h3
 go_enter Tryz.func200,Tryz.ntmps200
 go_wp2_with fail
 refine (HB.out _).mono ?_
 rintro e w1 ⟨rfl,hb1⟩
 have z2:=bx1 (box_on HY2.out hb1)
 have z3:=bx1 (box_on HY3.out hb1)
 have hb1':=below_then LBD hb1
 have HP1:=Lib.hid (HP.out _ hb1')
 go_wp2_with fail
 refine HP1.out.mono ?_
 rintro e w2 ⟨v,rfl,hy,hb2⟩
 have HY:=Lib.hid (hy.less hb1'.size)
 clear hy
 go_wp2
 go_ret
 exact ⟨v,rfl,HY.out,below_then hb1' hb2⟩
set_option maxRecDepth 1000000 in
set_option maxHeartbeats 4000000 in
theorem countWriter_any (B D:Nat) (kind no:Int) (hno:inI no) (w:World) (T:Wires w) :
  Calls Tryz.prog 169 #[.int .i64 kind,.int .i64 no] w fun e w'=>∃ c,e = .returned c∧ClosW B D w' c (fun v=>encN kind no v.n) VIn∧Below w.heap.size w w':=by
 obtain ⟨X1,X2,LBD⟩:=two_boxes w (.cells #[.int .i64 kind] 3) (.cells #[.int .i64 no] 3)
 have HX:=Lib.hid (And.intro X1 X2)
 have hk:=bx1 X1
 have HW:=Lib.hid (fun wx=>wire_any kind wx)
 obtain ⟨wi,hwi⟩:∃ i,wireI kind = i:=⟨_,rfl⟩
 rw [hwi] at HW
 have HWI:=Lib.hid hwi
 clear X1 X2 hwi
 go_enter Tryz.func169,Tryz.ntmps169
 go_wp2_with fail
 refine (HW.out _).mono ?_
 rintro e w1 ⟨rfl,hb1⟩
 have X3:=heap_alloc_new w1 (.cells #[.int .i64 wi] 3)
 have L3:=below_new w1 (.cells #[.int .i64 wi] 3)
 have hb3:=below_then (below_then LBD hb1) L3
 have HX3:=Lib.hid (And.intro (box_on (box_on HX.out.1 hb1) L3) (And.intro (box_on (box_on HX.out.2 hb1) L3) X3))
 clear X3
 go_wp2
 go_ret
 refine ⟨_,rfl,⟨_,_,rfl,enters_of Tryz.func200 (by kernel_rfl) rfl,fun a u wr hw hv hi=>?_⟩,hb3⟩
 obtain ⟨A,c,-,-,rfl⟩:=val_shape hv
 exact count1_any kind no a A c _ _ _ wr hi.1.1 hno (box_on HX3.out.1 hw) (box_on HX3.out.2.1 hw) (by rw [HWI.out];exact box_on HX3.out.2.2 hw) (T.on (below_then hb3 hw))
set_option maxRecDepth 1000000 in
set_option maxHeartbeats 4000000 in
theorem bare1_any (B D:Nat) (kind:Int) (hk:cnt kind = true) (a:Vl') (u:Value) (W:Value) (P1:Nat) (w:World) (hv:VAt (Rd B w) D a [.int .i64 a.n,.string (tx a.s),u]) (hi:VIn a) (hW:ClosW B D w W (fun v=>encN kind 1 v.n) VIn) (h1:w.heap[P1]? = some (.cells #[W] 176 (0,0))) (hB:B≤w.heap.size) :
  Calls Tryz.prog 170 #[.agg #[.int .i64 a.n,.string (tx a.s),u],.pointer (some ⟨P1,0,none⟩)] w fun e w'=>∃ v,e = .returned v∧By w.heap.size w' (bareN kind a.n) v∧Below w.heap.size w w':=by
 obtain ⟨A,c,-,-,rfl⟩:=val_shape hv
 have LBD:=below_new w (.cells #[.int .i64 a.n,.string (tx a.s),.slice A a.M.length c] 81)
 have X1:=heap_alloc_new w (.cells #[.int .i64 a.n,.string (tx a.s),.slice A a.M.length c] 81)
 have Y1:=bx1 (box_on h1 LBD)
 obtain ⟨x0,x1,x2⟩:=bx3 X1
 obtain ⟨fn,caps,rfl,hent,hcl⟩:=hW
 have HC:=Lib.hid (hcl a _ _ LBD (VRd.low (Lo.below LBD hB) hv) hi)
 simp only at HC
 have hl2:2≤(encN kind 1 a.n).length:=rec_ne (put_num ⟨by decide,by decide⟩ hk)
 have HL:Hid (bareN kind a.n = (encN kind 1 a.n).drop 1):=Lib.hid rfl
 obtain ⟨X,hX⟩:∃ X,encN kind 1 a.n = X:=⟨_,rfl⟩
 rw [hX] at HC hl2 HL
 clear hX hcl hv h1
 go_enter Tryz.func170,Tryz.ntmps170
 go_wp2_with fail
 refine HC.out.mono ?_
 rintro e w1 ⟨v,rfl,⟨A',c',rfl,hr,hge⟩,hb1⟩
 have hle:=hr.le
 have hsm:=hr.small
 obtain ⟨ad,b,rfl,hlt,-,-⟩:=hr.at_ (k:=0) (by omega)
 have hgd:=hge ad rfl (by omega)
 by_cases hc:c' = 1
 ·omega
 ·have HR:=Lib.hid (hr.part (i:=1) (j:=X.length) (by omega) (Nat.le_refl _) (fun e=>hc e.symm))
  have i1:(1:Int)≤(X.length:Int):=by omega
  have i2:(1:Int)≤(c':Int):=by omega
  have i3:(X.length:Int)≤(c':Int):=by omega
  have HD:Hid ((X.drop 1).take (X.length - 1) = X.drop 1):=Lib.hid (List.take_of_length_le (by rw [List.length_drop];omega))
  clear hr hge
  go_wp2
  go_ret
  refine ⟨_,rfl,?_,below_then LBD hb1⟩
  rw [HL.out]
  have h:=HR.out
  rw [HD.out] at h
  refine ⟨_,_,?_,h,fun a ha hn=>?_⟩
  ·rw [List.length_drop];rfl
  ·have:a = ad.add 1:=by simpa using ha.symm
   rw [this,add_same_block]
   exact Nat.le_trans LBD.size hgd
set_option maxRecDepth 1000000 in
set_option maxHeartbeats 4000000 in
theorem bareWriter_any (B D:Nat) (kind:Int) (hk:cnt kind = true) (w:World) (hB:B≤w.heap.size) (T:Wires w) :
  Calls Tryz.prog 125 #[.int .i64 kind] w fun e w'=>∃ c,e = .returned c∧ClosW B D w' c (fun v=>bareN kind v.n) VIn∧Below w.heap.size w w':=by
 have HC:=Lib.hid (countWriter_any B D kind 1 ⟨by decide,by decide⟩ w T)
 go_enter Tryz.func125,Tryz.ntmps125
 go_wp2_with fail
 refine HC.out.mono ?_
 rintro e w1 ⟨c,rfl,⟨fn,caps,rfl,hent,hcl'⟩,hb1⟩
 obtain ⟨c,hc⟩:∃ c,c = Value.func (.func fn) #[] caps:=⟨_,rfl⟩
 have hcl:ClosW B D w1 c (fun v=>encN kind 1 v.n) VIn:=⟨fn,caps,hc,hent,hcl'⟩
 rw [hc] at hcl
 clear hent hcl' hc c
 have X1:=heap_alloc_new w1 (.cells #[.func (.func fn) #[] caps] 176)
 have L1:=below_new w1 (.cells #[.func (.func fn) #[] caps] 176)
 have hb2:=below_then hb1 L1
 have HCL:=Lib.hid (hcl.on L1)
 have HX:=Lib.hid X1
 clear X1 hcl
 go_wp2
 go_ret
 refine ⟨_,rfl,⟨_,_,rfl,enters_of Tryz.func170 (by kernel_rfl) rfl,fun a u wr hw hv hi=>?_⟩,hb2⟩
 exact bare1_any B D kind hk a u _ _ wr hv hi (HCL.out.on hw) (box_on HX.out hw) (Nat.le_trans hB (Nat.le_trans hb2.size hw.size))
theorem conv_bytes (w:World) (l:List UInt8) (hl:l.length≤140737488351232):∃ c W',(convert 9 26 (.string (tx l))).run Tryz.prog w = .ok (.slice (some ⟨w.heap.size,0,none⟩) l.length c) W'∧SlB W' (some ⟨w.heap.size,0,none⟩) c l∧Below w.heap.size w W':=by
 have h:=run_bytes_of_string (P:=Tryz.prog) w 9 26 5 (tx l) Tryz.underlying9 Tryz.underlying26 Tryz.underlying5
 have hs:(tx l).size = l.length:=by simp [tx,ByteArray.size]
 rw [hs] at h
 have hG1:l.length≤grownCap w l.length 0 5:=grownCap_ge w _ _ _
 have hG2:grownCap w l.length 0 5≤maxLen:=grownCap_le_maxLen w l.length 0 5 (by unfold maxLen;omega)
 obtain ⟨G,hG⟩:∃ G,G = grownCap w l.length 0 5:=⟨_,rfl⟩
 rw [← hG] at h hG1 hG2
 refine ⟨G,_,h,?_,((Below.refl _ _).drew).trans (below_new w.drew _)⟩
 refine ⟨by simp [bs],hG1,hG2,(fun e=>by cases e),fun ad ha _=>?_,fun ad ha k u hu=>?_⟩
 ·obtain rfl:=Option.some.inj ha
  simp
 ·obtain rfl:=Option.some.inj ha
  have hk:=(List.getElem?_eq_some_iff.1 hu).1
  have hb:=heap_alloc_new w.drew (.cells (bytesRow (tx l) G) 5 ((bytesRow (tx l) G).size,(bytesRow (tx l) G).size+1))
  rw [Addr.add_lit,Nat.zero_add,box_cell (g:=w.heap.size) hb]
  have hk':k < l.length:=by simpa [bs] using hk
  unfold bytesRow
  rw [Array.getElem?_append_left (by simp [tx];omega)]
  simp [bs] at hu
  simp [tx]
  exact hu
set_option maxRecDepth 1000000 in
set_option maxHeartbeats 4000000 in
theorem text2_any (no:Int) (a:Vl') (A:Option Addr) (c:Nat) (P1:Nat) (w:World) (hno:inI no) (hl:a.s.length≤140737488351232) (h1:w.heap[P1]? = some (.cells #[.int .i64 no] 3 (0,0))) (T:Wires w) :
  Calls Tryz.prog 172 #[.agg #[.int .i64 a.n,.string (tx a.s),.slice A a.M.length c],.pointer (some ⟨P1,0,none⟩)] w fun e w'=>∃ v,e = .returned v∧By w.heap.size w' (runL no a.s) v∧Below w.heap.size w w':=by
 have LBD:=below_new w (.cells #[.int .i64 a.n,.string (tx a.s),.slice A a.M.length c] 81)
 have X1:=heap_alloc_new w (.cells #[.int .i64 a.n,.string (tx a.s),.slice A a.M.length c] 81)
 have Y1:=bx1 (box_on h1 LBD)
 obtain ⟨x0,x1,x2⟩:=bx3 X1
 obtain ⟨c',W',hcv,hr,hbc⟩:=conv_bytes (w.alloc (.cells #[.int .i64 a.n,.string (tx a.s),.slice A a.M.length c] 81)) a.s hl
 have hb2:=below_then LBD hbc
 have HR:=Lib.hid (run1_any no a.s (.slice (some ⟨(w.alloc (.cells #[.int .i64 a.n,.string (tx a.s),.slice A a.M.length c] 81)).heap.size,0,none⟩) a.s.length c') _ W' hno ⟨_,_,rfl,hr,fun b hb _=>by obtain rfl:=Option.some.inj hb;exact Nat.le_refl _⟩ hl (T.on hb2))
 have hsz:=hb2.size
 have hs1:(w.alloc (.cells #[.int .i64 a.n,.string (tx a.s),.slice A a.M.length c] 81)).heap.size = w.heap.size+1:=by simp
 rw [hs1] at HR
 clear hr X1 h1 hs1
 go_enter Tryz.func172,Tryz.ntmps172
 go_wp2_with fail
 refine HR.out.mono ?_
 rintro e w2 ⟨v,rfl,hy,hb3⟩
 have HY:=Lib.hid (hy.less (show w.heap.size≤W'.heap.size+1 by omega))
 clear hy
 go_wp2
 go_ret
 exact ⟨v,rfl,HY.out,below_then (below_then hb2 (below_new _ _)) hb3⟩
def EncH (s:Sc) (B D d:Nat):Prop:=∀ (vM vE:Value) (m:Int) (x:Mg) (u:Value) (w:World),B≤w.heap.size→SAt B w s vM vE→MRd B w D x u→MIn x→isB s d m x = true→x.cnt≤100000→40 * x.cnt+Mg.txt x≤35184372088832→Wires w →
 Calls Tryz.prog 58 #[.agg #[vM,vE],.int .i64 m,.agg #[u]] w fun e w'=>∃ v,e = .returned v∧By w.heap.size w' (encB s d m x) v∧Below w.heap.size w w'
def OkV (s:Sc) (d:Nat) (kind ref:Int) (v:Vl'):Prop:=VIn v∧askG (isB s d) kind ref v = true∧cV v≤100000∧40 * cV v+tV v≤35184372088832
set_option maxRecDepth 1000000 in
set_option maxHeartbeats 4000000 in
theorem sub1_any {s:Sc} {B D d:Nat} (H:EncH s B D d) (no r:Int) (vM vE:Value) (v:Vl') (u:Value) (P1 P2 P3:Nat) (w:World) (hB:B≤w.heap.size) (hs:SAt B w s vM vE) (hv:VAt (Rd B w) D v [.int .i64 v.n,.string (tx v.s),u]) (ho:OkV s d 9 r v) (hno:inI no)
  (h1:w.heap[P1]? = some (.cells #[.int .i64 no] 3 (0,0))) (h2:w.heap[P2]? = some (.cells #[vM,vE] 25 (0,0))) (h3:w.heap[P3]? = some (.cells #[.int .i64 r] 3 (0,0))) (T:Wires w) :
  Calls Tryz.prog 171 #[.agg #[.int .i64 v.n,.string (tx v.s),u],.pointer (some ⟨P1,0,none⟩),.pointer (some ⟨P2,0,none⟩),.pointer (some ⟨P3,0,none⟩)] w fun e w'=>∃ v',e = .returned v'∧By w.heap.size w' (valL (encB s d) 9 r no v) v'∧Below w.heap.size w w':=by
 obtain ⟨u',hu,hl⟩:=hv
 simp only [List.cons.injEq,and_true,true_and] at hu
 subst hu
 obtain ⟨A,c,xs,rfl,hsl,hbl,hr,hn⟩:=hl.open_
 obtain ⟨hi,hask,hcv,hwt⟩:=ho
 obtain ⟨-,-,x,hx,hgx⟩:=ask_nine hask
 have hx0:v.M[0]? = some x:=by rw [hx];rfl
 have hM0:0 < v.M.length:=by rw [hx];exact Nat.zero_lt_one
 have LBD:=below_new w (.cells #[.int .i64 v.n,.string (tx v.s),.slice A v.M.length c] 81)
 have X1:=heap_alloc_new w (.cells #[.int .i64 v.n,.string (tx v.s),.slice A v.M.length c] 81)
 have hlo:Lo B w (w.alloc (.cells #[.int .i64 v.n,.string (tx v.s),.slice A v.M.length c] 81)):=Lo.below LBD hB
 obtain ⟨ad,ux,rfl,hg,hcx,k0⟩:=row1 MAt.len (sl_low hsl hbl hlo) (hr.imp fun a cs h=>MRd.low hlo h) hx0
 rw [add_nothing] at k0
 have hxm:x∈v.M:=by rw [hx];simp
 have hcnt:=cnt_le (v:=v) (x:=x) hxm
 have htx:=sm_mem (g:=Mg.txt) hxm
 have htv:tV v = v.s.length+sm (v.M.map Mg.txt):=rfl
 have hwx:40 * x.cnt+Mg.txt x≤35184372088832:=by omega
 have hlen:=enc_len s d r x (hi.2 x hxm) (Nat.le_trans hwx (by decide))
 obtain ⟨W1,hW1⟩:∃ W,W = w.alloc (.cells #[.int .i64 v.n,.string (tx v.s),.slice (some ad) v.M.length c] 81):=⟨_,rfl⟩
 rw [← hW1] at LBD X1 hcx k0 hlo
 have HM:=Lib.hid (fun wx (hw:Below W1.heap.size W1 wx)=>H vM vE r x ux wx (Nat.le_trans hB (Nat.le_trans LBD.size hw.size)) (SAt.lo (SAt.lo hs LBD hB) hw (Nat.le_trans hB LBD.size)) (MRd.low (Lo.below hw (Nat.le_trans hB LBD.size)) hcx) (hi.msg hxm) hgx (by omega) hwx (T.on (below_then LBD hw)))
 have hD:Below W1.heap.size W1 W1.drew:=(Below.refl _ _).drew
 have b1:=bx1 (box_on h1 LBD)
 have b2:=box2' (box_on h2 LBD)
 have b3:=bx1 (box_on h3 LBD)
 have hx1:=bx3 X1
 have HVL:Hid (valL (encB s d) 9 r no v = runL no (encB s d r x)):=Lib.hid (by unfold valL;rw [if_pos rfl,hx];rfl)
 have HR:=Lib.hid (fun w7 v7 (hb:Below W1.heap.size W1 w7) (hy:By W1.drew.heap.size w7 (encB s d r x) v7)=>run1_any no (encB s d r x) v7 _ w7 hno hy (by omega) (T.on (below_then LBD hb)))
 have i1:(0:Int) < (v.M.length:Int):=by omega
 obtain ⟨A1,q1,A2,q2,rfl,rfl⟩:=sat_shape hs
 obtain ⟨Ax,cx,rfl⟩:=rd_shape hcx
 clear hsl hbl hr hl hs hi hcx hx0 hx hlo H h1 h2 h3 hask hgx X1 hg hlen hwx htx htv hcnt hxm
 go_enter Tryz.func171,Tryz.ntmps171
 go_wp2_with fail
 rw [← hW1]
 clear hW1
 refine wp_region_held_drew (S:=(fun w'=>(w'.cell? ⟨w.heap.size,0,none⟩ = some (.int .i64 v.n)∧w'.cell? ⟨w.heap.size,1,none⟩ = some (.string (tx v.s))∧w'.cell? ⟨w.heap.size,2,none⟩ = some (.slice (some ad) v.M.length c))∧(w'.cell? ⟨P2,0,none⟩ = some (.slice A1 s.M.length q1)∧w'.cell? ⟨P2,1,none⟩ = some (.slice A2 s.E.length q2))∧w'.cell? ⟨P1,0,none⟩ = some (.int .i64 no)∧w'.cell? ⟨P3,0,none⟩ = some (.int .i64 r)∧w'.cell? ad = some (.slice Ax x.F.length cx))) (by kernel_rfl) (⟨hx1,b2,b1,b3,k0⟩) (fun hHeld=>?_)
 refine tk 0 ?_
 refine tk 1 ?_
 refine tk 2 ?_
 refine tk 3 ?_
 refine tk 4 ?_
 refine tk 5 ?_
 refine tk 6 ?_
 refine wpAnyH_ready (rs:=[7]) (by kernel_rfl) (by simp) ?_
 refine AllReadyH.cons rfl (fun K hK=>?_) AllReadyH.nil
 go_simp
 (go_at_call 58;refine (HM.out _ hD).mono ?_;rintro e w7 ⟨v7,rfl,hy7,hb7⟩;have hb7d:=hD.trans hb7;have hb8:=below_then hb7d (below_new w7 (.cells #[v7] 26));have HRN:=Lib.hid (HR.out w7 v7 hb7d hy7);obtain ⟨A7,c7,rfl,-⟩:=hy7)
 go_wp2_with fail
 refine hK.out _ _ (⟨⟨cell_on hb7d hx1.1,cell_on hb7d hx1.2.1,cell_on hb7d hx1.2.2⟩,⟨cell_on hb7d b2.1,cell_on hb7d b2.2⟩,cell_on hb7d b1,cell_on hb7d b3,cell_on hb7d k0⟩) (fun hHeld=>?_)
 clear hK K
 refine wpAnyH_ready (rs:=[8]) (by kernel_rfl) (by simp) ?_
 refine AllReadyH.cons rfl (fun K hK=>?_) AllReadyH.nil
 go_simp
 refine hK.out _ _ (⟨⟨cell_on hb8 hx1.1,cell_on hb8 hx1.2.1,cell_on hb8 hx1.2.2⟩,⟨cell_on hb8 b2.1,cell_on hb8 b2.2⟩,cell_on hb8 b1,cell_on hb8 b3,cell_on hb8 k0⟩) (fun hHeld=>?_)
 clear hK K
 refine wpAnyH_ready (rs:=[9]) (by kernel_rfl) (by simp) ?_
 refine AllReadyH.cons rfl (fun K hK=>?_) AllReadyH.nil
 go_simp
 (go_at_call 123;refine HRN.out.mono ?_;rintro e w9 ⟨v9,rfl,hy9,hb9⟩;have hb9d:=below_then hb8 hb9)
 go_wp2_with fail
 refine hK.out _ _ (⟨⟨cell_on hb9d hx1.1,cell_on hb9d hx1.2.1,cell_on hb9d hx1.2.2⟩,⟨cell_on hb9d b2.1,cell_on hb9d b2.2⟩,cell_on hb9d b1,cell_on hb9d b3,cell_on hb9d k0⟩) (fun hHeld=>?_)
 clear hK K
 refine tk 10 ?_
 refine wpAnyH_done (by kernel_rfl) ?_ _
 go_wp2
 go_ret
 have hbz:=below_then LBD hb9d
 refine ⟨v9,rfl,?_,hbz⟩
 rw [HVL.out]
 exact hy9.less (Nat.le_trans LBD.size (Nat.le_trans hb7d.size (Nat.le_succ _)))
theorem info_sl8:(Tryz.prog.info? 26).map (fun i=>(i.zero,i.size,i.bytes)) = some (some (.slice none 0 0),1,24):=by kernel_rfl
theorem map_snoc {α β:Type} {l:List α} {k:Nat} {a:α} (f:α→β) (h:l[k]? = some a):(l.take k).map f++[f a] = (l.take (k+1)).map f:=by rw [List.take_add_one,h,List.map_append];rfl
set_option maxRecDepth 1000000 in
set_option maxHeartbeats 4000000 in
theorem valueWriter_any {s:Sc} {B D d:Nat} (H:EncH s B D d) (vM vE:Value) (kind ref no:Int) (w:World) (hB:B≤w.heap.size) (hs:SAt B w s vM vE) (hno:inI no) (T:Wires w) :
  Calls Tryz.prog 126 #[.agg #[vM,vE],.int .i64 kind,.int .i64 ref,.int .i64 no] w fun e w'=>∃ c,e = .returned c∧ClosW B D w' c (valL (encB s d) kind ref no) (OkV s d kind ref)∧Below w.heap.size w w':=by
 obtain ⟨X1,X2,X3,LBD⟩:=three_boxes w (.cells #[vM,vE] 25) (.cells #[.int .i64 ref] 3) (.cells #[.int .i64 no] 3)
 have HX:=Lib.hid (And.intro X1 (And.intro X2 X3))
 have hk:=bx1 X3
 have HS:=Lib.hid hs
 have HH:=Lib.hid H
 clear X1 X2 X3 hs H
 by_cases h9:kind = 9
 ·subst h9
  go_enter Tryz.func126,Tryz.ntmps126
  go_wp2
  go_ret
  refine ⟨_,rfl,⟨_,_,rfl,enters_of Tryz.func171 (by kernel_rfl) rfl,fun a u wr hw hv ho=>?_⟩,LBD⟩
  obtain ⟨x1,x2,x3⟩:=HX.out
  exact sub1_any HH.out no ref vM vE a u _ _ _ wr (Nat.le_trans hB (Nat.le_trans LBD.size hw.size)) (SAt.lo (SAt.lo HS.out LBD hB) hw (Nat.le_trans hB LBD.size)) hv ho hno (box_on x3 hw) (box_on x1 hw) (box_on x2 hw) (T.on (below_then LBD hw))
 have n9:(kind == 9) = false:=beq_eq_false_iff_ne.2 h9
 by_cases h7:kind = 7
 ·subst h7
  go_enter Tryz.func126,Tryz.ntmps126
  go_wp2
  go_ret
  refine ⟨_,rfl,⟨_,_,rfl,enters_of Tryz.func172 (by kernel_rfl) rfl,fun a u wr hw hv ho=>?_⟩,LBD⟩
  obtain ⟨x1,x2,x3⟩:=HX.out
  obtain ⟨A,c,-,-,rfl⟩:=val_shape hv
  exact text2_any no a A c _ wr hno ho.1.1.2 (box_on x3 hw) (T.on (below_then LBD hw))
 by_cases h8:kind = 8
 ·subst h8
  go_enter Tryz.func126,Tryz.ntmps126
  go_wp2
  go_ret
  refine ⟨_,rfl,⟨_,_,rfl,enters_of Tryz.func172 (by kernel_rfl) rfl,fun a u wr hw hv ho=>?_⟩,LBD⟩
  obtain ⟨x1,x2,x3⟩:=HX.out
  obtain ⟨A,c,-,-,rfl⟩:=val_shape hv
  exact text2_any no a A c _ wr hno ho.1.1.2 (box_on x3 hw) (T.on (below_then LBD hw))
 have n7:(kind == 7) = false:=beq_eq_false_iff_ne.2 h7
 have n8:(kind == 8) = false:=beq_eq_false_iff_ne.2 h8
 have HC:=Lib.hid (fun wx (h:Below w.heap.size w wx)=>countWriter_any B D kind no hno wx (T.on h))
 have HV:Hid (∀ a,OkV s d kind ref a→encN kind no a.n = valL (encB s d) kind ref no a):=Lib.hid fun a _=>by unfold valL;rw [if_neg h9,if_neg (by omega)]
 go_enter Tryz.func126,Tryz.ntmps126
 go_wp2_with fail
 refine (HC.out _ LBD).mono ?_
 rintro e w1 ⟨c,rfl,hcl,hb⟩
 have HCL:=Lib.hid (hcl.weak (fun a h=>h.1) HV.out)
 clear hcl
 go_wp2
 go_ret
 exact ⟨c,rfl,HCL.out,below_then LBD hb⟩
set_option maxRecDepth 1000000 in
set_option maxHeartbeats 4000000 in
theorem written_any (B D:Nat) (g:Vl'→List UInt8) (P:Vl'→Prop) (l:List Vl') (u c:Value) (F:List UInt8) (hF:(l.map g).flatten = F) (w:World) (hB:B≤w.heap.size) (hl:LsAt (Rd B w) 81 3 (VAt (Rd B w) D) l u) (hc:ClosW B D w c g P) (hP:∀ v∈l,P v) (hln:l.length≤1000000) (hsum:F.length≤140737488351232) :
  Calls Tryz.prog 124 #[u,c] w fun e w'=>∃ v,e = .returned v∧By w.heap.size w' F v∧Below w.heap.size w w':=by
 obtain ⟨i0,hi,hz0,hz1,hz2⟩:=info_parts info_sl8
 obtain ⟨A,cp,xs,rfl,hs,hb,hr,hn⟩:=hl.open_
 obtain ⟨fn,caps,rfl,hent,hcl⟩:=hc
 have HS:=Lib.hid hs
 have HR:=Lib.hid hr
 have HBB:=Lib.hid hb
 have HC:=Lib.hid hcl
 have HP:=Lib.hid hP
 have HF:=Lib.hid hF
 clear hs hr hl hb hcl hP hF
 go_enter Tryz.func124,Tryz.ntmps124
 go_wp2
 go_loopw [5,10] (fun v i wr=>∃ (k:Nat) (zs:List Value),i = .int .i64 k∧k≤l.length∧PB w.heap.size wr v ((l.take k).map g) zs∧Below w.heap.size w wr) (fun _ i _=>l.length - (intOf i).toNat)
 case atStart=>exact ⟨0,[],rfl,by omega,PB.nil _ _,Below.refl _ _⟩
 case round =>
  obtain ⟨k,zs,rfl,hk,hpb,hbw⟩:=hrel
  by_cases hlt:k < l.length
  ·obtain ⟨a,ha⟩:∃ a,l[k]? = some a:=⟨_,List.getElem?_eq_getElem hlt⟩
   obtain ⟨ad,x,y,z,rfl,hg,hca,c0,c1,c2⟩:=row3 vAt.len (sl_low HS.out HBB.out (Lo.below hbw hB)) (HR.out.imp fun a cs h=>VRd.low (Lo.below hbw hB) h) ha
   obtain ⟨AM,cM,rfl,rfl,rfl⟩:=val_shape hca
   have hmem:=List.mem_of_getElem? ha
   have N1:=below_new wr (.cells #[.int .i64 a.n,.string (tx a.s),.slice AM a.M.length cM] 81)
   have hbw2:=below_then hbw N1
   have HCA:=Lib.hid (HC.out a _ _ hbw2 (VRd.low (Lo.below N1 (Nat.le_trans hB hbw.size)) hca) (HP.out a hmem))
   obtain ⟨L,hL⟩:∃ L,(l.take k).map g = L:=⟨_,rfl⟩
   have hLk:L.length = k:=by rw [← hL,List.length_map,List.length_take];omega
   rw [hL] at hpb
   have HL:=Lib.hid (hL ▸ map_snoc g ha:L++[g a] = (l.take (k+1)).map g)
   have HPB:=Lib.hid hpb
   have HN1:=Lib.hid N1
   have hv1:=hpb.lt
   clear hca ha hmem hL hpb
   go_wp2_with fail
   refine HCA.out.mono ?_
   rintro e w2 ⟨v2,rfl,hy2,hb2⟩
   have HY2:=Lib.hid (hy2.on (below_new w2 (.cells #[v2] 26)))
   have HB2:=Lib.hid (below_then HN1.out hb2)
   have HB3:=Lib.hid (below_then HB2.out (below_new w2 (.cells #[v2] 26)))
   have hs2:wr.heap.size≤w2.heap.size:=HB2.out.size
   have HQ:=Lib.hid (HPB.out.on HB3.out)
   obtain ⟨A2,c2',rfl,-⟩:=hy2
   have hws:=hbw.size
   go_wp2_with (at_builtin;refine wpList_append_lies _ rfl _ _ 139 rfl w.heap.size 26 i0 _ 1 24 Tryz.underlying139 hi hz0 hz1 hz2 rfl (by decide) _ L.length zs rfl HQ.out.own ⟨w2.heap.size,0,none⟩ 1 1 [.slice A2 (g a).length c2'] rfl rfl (World.news_of_block (heap_alloc_new _ _)) (by simp [Value.oneCell']) (by decide) (by unfold maxLen;omega) (by omega) (by simp;omega) w2.heap.size.succ (by simp) ?_;intro g8 cap8 w8 hown8 hg8 hat8 hlt8)
   have hq:=HQ.out.app (b':=(wr.alloc (.cells #[.int .i64 a.n,.string (tx a.s),.slice AM a.M.length cM] 81)).heap.size) (fun q hq=>Nat.lt_of_lt_of_le (hv1 q hq) HN1.out.size) HY2.out hown8 hg8 (hat8.imp id fun h=>by rw [h];simp)
   have hb8:Below w.heap.size w w8:=(hbw.trans (HB3.out.mono hws)).trans (below_row hg8 HQ.out.own (Nat.le_refl _) (by simp;omega))
   rw [HL.out,hLk] at hq
   refine ⟨⟨k+1,_,by go_num,by omega,hq,hb8⟩,by simp [intOf];omega⟩
  ·obtain rfl:k = l.length:=by omega
   rw [List.take_length] at hpb
   obtain ⟨ls,hls⟩:∃ ls,l.map g = ls:=⟨_,rfl⟩
   rw [hls] at hpb
   have hF:=HF.out
   rw [hls] at hF
   obtain ⟨A3,c3,rfl,hs3⟩:=Sl.of_own hpb.own
   have HT:=Lib.hid (together_any A3 c3 ls zs F hF wr hs3 (hpb.rows.imp BL.any) hsum)
   clear hpb hs3 hF hls
   go_wp2_with fail
   refine HT.out.mono ?_
   rintro e w3 ⟨v3,rfl,hy3,hb3⟩
   have HY3:=Lib.hid (hy3.less hbw.size)
   clear hy3
   go_wp2
   go_ret
   exact ⟨v3,rfl,HY3.out,below_then hbw hb3⟩
theorem far_cell {w w':World} {v:Value} {b e size n top:Nat} {xs:List Value} (hg:w.grownBy w' v.ownBlock) (hown:w.ownsRow b e size v n xs) (htop:∀ q,v.ownBlock = some q→q < top) {a:Addr} {u:Value} (h:w.cell? a = some u) (hlt:a.block < w.heap.size) (hf:a.block < b∨top≤a.block):w'.cell? a = some u :=
 (hg.cell_far a hlt fun e=>by have h1:=(own_blk hown _ e.symm).1;have h2:=htop _ e.symm;omega).trans h
theorem okV_of {s:Sc} {d:Nat} {f:Df} {t:So} (hi:SIn t) (hfill:fillG (isB s d) f t = true) (hc:cS t≤100000) (hwt:40 * cS t+tS t≤35184372088832):∀ v∈t.V,OkV s d f.kind f.ref v:=by
 intro v hv
 have h1:=cV_le (s:=t) (.inr hv)
 have h2:=sm_mem (g:=tV) hv
 have h3:tS t = sm (t.K.map tV)+sm (t.V.map tV):=rfl
 unfold fillG at hfill
 simp only [Bool.and_eq_true,List.all_eq_true] at hfill
 exact ⟨hi.val (.inr hv),hfill.2.2 v hv,by omega,by omega⟩
theorem okK_of {s:Sc} {d:Nat} {f:Df} {t:So} (hi:SIn t) (hfill:fillG (isB s d) f t = true) (hc:cS t≤100000) (hwt:40 * cS t+tS t≤35184372088832):∀ v∈t.K,OkV s d f.key 0 v:=by
 intro v hv
 have h1:=cV_le (s:=t) (.inl hv)
 have h2:=sm_mem (g:=tV) hv
 have h3:tS t = sm (t.K.map tV)+sm (t.V.map tV):=rfl
 unfold fillG at hfill
 simp only [Bool.and_eq_true,List.all_eq_true] at hfill
 exact ⟨hi.val (.inl hv),hfill.2.1 v hv,by omega,by omega⟩
theorem len_of {s:Sc} {d:Nat} {f:Df} {t:So} (hfill:fillG (isB s d) f t = true) (hk:f.key≠-1):t.K.length = t.V.length:=by
 unfold fillG manyB at hfill
 rw [if_neg hk] at hfill
 simp only [Bool.and_eq_true,beq_iff_eq] at hfill
 exact hfill.1
set_option maxRecDepth 1000000 in
set_option maxHeartbeats 8000000 in
theorem entries_any {s:Sc} {B D d:Nat} (H:EncH s B D d) (A1 A2:Option Addr) (q1 q2:Nat) (f:Df) (t:So) (A3 A4:Option Addr) (q3 q4:Nat) (w:World) (hB:B≤w.heap.size) (hs:SAt B w s (.slice A1 s.M.length q1) (.slice A2 s.E.length q2)) (ht:SAt' (Rd B w) D t [.int .i64 t.no,.slice A3 t.K.length q3,.slice A4 t.V.length q4]) (hi:SIn t) (hfill:fillG (isB s d) f t = true) (hc:cS t≤100000) (hwt:40 * cS t+tS t≤35184372088832) (hfn:inI f.no) (T:Wires w) (hkey:f.key≠-1) :
  Calls Tryz.prog 121 #[.agg #[.slice A1 s.M.length q1,.slice A2 s.E.length q2],.agg #[.int .i64 f.no,.string (txt f.name),.int .i64 f.kind,.int .i64 f.ref,.bool f.rep,.int .i64 f.key,.int .i64 f.one],.agg #[.int .i64 t.no,.slice A3 t.K.length q3,.slice A4 t.V.length q4]] w fun e w'=>∃ v,e = .returned v∧By w.heap.size w' (fieldL (encB s d) f t) v∧Below w.heap.size w w':=by
 obtain ⟨i0,hi0,hz0,hz1,hz2⟩:=info_parts info_sl8
 obtain ⟨T1,T2,T3,L3⟩:=three_boxes w (.cells #[.slice A1 s.M.length q1,.slice A2 s.E.length q2] 25) (dC f) (.cells #[.int .i64 t.no,.slice A3 t.K.length q3,.slice A4 t.V.length q4] 67)
 obtain ⟨W3,hW3⟩:∃ W,W = (((w.alloc (.cells #[.slice A1 s.M.length q1,.slice A2 s.E.length q2] 25)).alloc (dC f)).alloc (.cells #[.int .i64 t.no,.slice A3 t.K.length q3,.slice A4 t.V.length q4] 67)):=⟨_,rfl⟩
 obtain ⟨u3,u4,hu,hK,hV⟩:=ht
 simp only [List.cons.injEq,and_true,true_and] at hu
 obtain ⟨rfl,rfl⟩:=hu
 rw [← hW3] at T1 T2 T3 L3
 have hBW:=Nat.le_trans hB L3.size
 have HS:=Lib.hid (fun wx (h:Below W3.heap.size W3 wx)=>SAt.lo (SAt.lo hs L3 hB) h hBW)
 have HKK:=Lib.hid (fun wx (h:Below W3.heap.size W3 wx)=>(hK.low (Lo.below L3 hB) fun a cs h=>VRd.low (Lo.below L3 hB) h).low (Lo.below h hBW) fun a cs hh=>VRd.low (Lo.below h hBW) hh)
 have HVV:=Lib.hid (fun wx (h:Below W3.heap.size W3 wx)=>(hV.low (Lo.below L3 hB) fun a cs h=>VRd.low (Lo.below L3 hB) h).low (Lo.below h hBW) fun a cs hh=>VRd.low (Lo.below h hBW) hh)
 have HSX:Hid (∀ wx,Below W3.heap.size W3 wx→(wx.cell? ⟨w.heap.size,0,none⟩ = some (.slice A1 s.M.length q1)∧wx.cell? ⟨w.heap.size,1,none⟩ = some (.slice A2 s.E.length q2))∧(wx.cell? ⟨w.heap.size+1,0,none⟩ = some (.int .i64 f.no)∧wx.cell? ⟨w.heap.size+1,1,none⟩ = some (.string (txt f.name))∧wx.cell? ⟨w.heap.size+1,2,none⟩ = some (.int .i64 f.kind)∧wx.cell? ⟨w.heap.size+1,3,none⟩ = some (.int .i64 f.ref)∧wx.cell? ⟨w.heap.size+1,4,none⟩ = some (.bool f.rep)∧wx.cell? ⟨w.heap.size+1,5,none⟩ = some (.int .i64 f.key)∧wx.cell? ⟨w.heap.size+1,6,none⟩ = some (.int .i64 f.one))∧(wx.cell? ⟨w.heap.size+2,0,none⟩ = some (.int .i64 t.no)∧wx.cell? ⟨w.heap.size+2,1,none⟩ = some (.slice A3 t.K.length q3)∧wx.cell? ⟨w.heap.size+2,2,none⟩ = some (.slice A4 t.V.length q4))):=Lib.hid fun wx h=>⟨box2' (box_on T1 h),dc_cells (box_on T2 h),bx3 (box_on T3 h)⟩
 have hD:Below W3.heap.size W3 W3.drew:=(Below.refl _ _).drew
 have HT:=Lib.hid (fun wx (h:Below W3.heap.size W3 wx)=>T.on (below_then L3 h))
 have HOV:=Lib.hid (okV_of hi hfill hc hwt)
 have HOK:=Lib.hid (okK_of hi hfill hc hwt)
 have HL3:=Lib.hid L3
 have hcl:=cS_len (s:=t)
 have HLEN:=Lib.hid (len_of hfill hkey)
 have HA1:=Lib.hid (fun wx (h:Below W3.heap.size W3 wx)=>valueWriter_any H (.slice A1 s.M.length q1) (.slice A2 s.E.length q2) f.key 0 1 wx (Nat.le_trans hBW h.size) (HS.out wx h) ⟨by decide,by decide⟩ (HT.out wx h))
 have HA2:=Lib.hid (fun wx (h:Below W3.heap.size W3 wx)=>valueWriter_any H (.slice A1 s.M.length q1) (.slice A2 s.E.length q2) f.kind f.ref 2 wx (Nat.le_trans hBW h.size) (HS.out wx h) ⟨by decide,by decide⟩ (HT.out wx h))
 have HFL:Hid (fieldL (encB s d) f t = ((t.K.zip t.V).map (entL (encB s d) f)).flatten):=Lib.hid (by unfold fieldL;rw [if_neg hkey])
 have hflen:=field_len (enc_len s d) f t hi (Nat.le_trans hwt (by decide))
 have HFN:=Lib.hid hflen
 have HWT:=Lib.hid hwt
 have HW3Z:Hid (w.heap.size+3 = W3.heap.size):=Lib.hid (by rw [hW3];simp)
 clear hs hi hfill hK hV T1 T2 T3 L3 H hflen T hwt
 go_enter Tryz.func121,Tryz.ntmps121
 go_wp2_with fail
 rw [← hW3]
 clear hW3
 refine wp_region_held_drew (S:=(fun w'=>(w'.cell? ⟨w.heap.size,0,none⟩ = some (.slice A1 s.M.length q1)∧w'.cell? ⟨w.heap.size,1,none⟩ = some (.slice A2 s.E.length q2))∧(w'.cell? ⟨w.heap.size+1,0,none⟩ = some (.int .i64 f.no)∧w'.cell? ⟨w.heap.size+1,1,none⟩ = some (.string (txt f.name))∧w'.cell? ⟨w.heap.size+1,2,none⟩ = some (.int .i64 f.kind)∧w'.cell? ⟨w.heap.size+1,3,none⟩ = some (.int .i64 f.ref)∧w'.cell? ⟨w.heap.size+1,4,none⟩ = some (.bool f.rep)∧w'.cell? ⟨w.heap.size+1,5,none⟩ = some (.int .i64 f.key)∧w'.cell? ⟨w.heap.size+1,6,none⟩ = some (.int .i64 f.one))∧(w'.cell? ⟨w.heap.size+2,0,none⟩ = some (.int .i64 t.no)∧w'.cell? ⟨w.heap.size+2,1,none⟩ = some (.slice A3 t.K.length q3)∧w'.cell? ⟨w.heap.size+2,2,none⟩ = some (.slice A4 t.V.length q4)))) (by kernel_rfl) (HSX.out _ hD) (fun hHeld=>?_)
 refine tk 0 ?_
 refine tk 1 ?_
 refine tk 2 ?_
 refine tk 4 ?_
 refine tk 5 ?_
 refine tk 6 ?_
 refine tk 7 ?_
 refine tk 8 ?_
 refine wpAnyH_ready (rs:=[3]) (by kernel_rfl) (by simp) ?_
 refine AllReadyH.cons rfl (fun K hK=>?_) AllReadyH.nil
 go_simp
 (go_at_call 126;refine (HA1.out _ hD).mono ?_;rintro e w4 ⟨ck,rfl,hck,hbw4⟩;have hbw4d:=hD.trans (hbw4.mono (hD).size))
 go_wp2_with fail
 refine hK.out _ _ (HSX.out _ hbw4d) (fun hHeld=>?_)
 clear hK K
 refine wpAnyH_ready (rs:=[9]) (by kernel_rfl) (by simp) ?_
 refine AllReadyH.cons rfl (fun K hK=>?_) AllReadyH.nil
 go_simp
 (go_at_call 126;refine (HA2.out _ hbw4d).mono ?_;rintro e w5 ⟨cv,rfl,hcv,hbw5⟩;have hbw5d:=hbw4d.trans (hbw5.mono (hbw4d).size))
 go_wp2_with fail
 have HCK:=Lib.hid (hck.on hbw5)
 have HCV:=Lib.hid hcv
 refine hK.out _ _ (HSX.out _ hbw5d) (fun hHeld=>?_)
 clear hK K
 refine tk 10 ?_
 refine tk 11 ?_
 refine wpAnyH_done (by kernel_rfl) ?_ _
 go_wp2
 go_loopw [9,25] (fun v i wr=>∃ (k:Nat) (zs:List Value),i = .int .i64 k∧k≤t.K.length∧PB w5.heap.size wr v (((t.K.zip t.V).take k).map (entL (encB s d) f)) zs∧Below w5.heap.size w5 wr) (fun _ i _=>t.K.length - (intOf i).toNat)
 case atStart=>exact ⟨0,[],rfl,by omega,PB.nil _ _,Below.refl _ _⟩
 case round =>
  obtain ⟨k,zs,rfl,hk,hpb,hbw5r⟩:=hrel
  have hbw:=below_then hbw5d hbw5r
  have hwW:=hbw.size
  by_cases hlt:k < t.K.length
  ·have hlt2:k < t.V.length:=by rw [← HLEN.out];exact hlt
   obtain ⟨a,ha⟩:∃ a,t.K[k]? = some a:=⟨_,List.getElem?_eq_getElem hlt⟩
   obtain ⟨b,hb⟩:∃ b,t.V[k]? = some b:=⟨_,List.getElem?_eq_getElem hlt2⟩
   have hab:(t.K.zip t.V)[k]? = some (a,b):=by rw [List.getElem?_zip_eq_some];exact ⟨ha,hb⟩
   have hLB:=below_new wr (.cells #[.int .i64 a.n] 3)
   obtain ⟨A3',c3',xs3,e3,hs3,hb3,hr3,hn3⟩:=(HKK.out wr hbw).open_
   injection e3 with e31 e32 e33
   subst e31 e33
   obtain ⟨ad3,x,y,z,rfl,hg3,hca,c0,c1,c2⟩:=row3 vAt.len hs3 hr3 ha
   obtain ⟨AM,cM,rfl,rfl,rfl⟩:=val_shape hca
   have N1:=below_new wr (.cells #[.int .i64 a.n,.string (tx a.s),.slice AM a.M.length cM] 81)
   have X1:=heap_alloc_new wr (.cells #[.int .i64 a.n,.string (tx a.s),.slice AM a.M.length cM] 81)
   have hbwN:=below_then hbw N1
   obtain ⟨A4',c4',xs4,e4,hs4,hb4',hr4,hn4⟩:=(HVV.out _ hbwN).open_
   injection e4 with e41 e42 e43
   subst e41 e43
   obtain ⟨ad4,x',y',z',rfl,hg4,hcb,d0,d1,d2⟩:=row3 vAt.len hs4 hr4 hb
   obtain ⟨BM,dM,rfl,rfl,rfl⟩:=val_shape hcb
   obtain ⟨W1,hW1⟩:∃ W,W = wr.alloc (.cells #[.int .i64 a.n,.string (tx a.s),.slice AM a.M.length cM] 81):=⟨_,rfl⟩
   rw [← hW1] at N1 X1 hbwN hcb d0 d1 d2 hs4 hr4
   have HADB:Hid (ad4.block < B):=Lib.hid (hb4' ad4 rfl (by omega))
   have HW1S:Hid (W1.heap.size = wr.heap.size+1):=Lib.hid (by rw [hW1];simp)
   have hBr:B≤wr.heap.size:=Nat.le_trans hBW hbw.size
   have hD6:Below W1.heap.size W1 W1.drew:=(Below.refl _ _).drew
   have HS6:Hid (∀ wx,Below W1.heap.size W1 wx→wx.cell? ⟨w.heap.size+1,0,none⟩ = some (.int .i64 f.no)∧wx.cell? ⟨w.heap.size+2,2,none⟩ = some (.slice (some ad4) t.V.length q4)∧(wx.cell? ⟨wr.heap.size,0,none⟩ = some (.int .i64 a.n)∧wx.cell? ⟨wr.heap.size,1,none⟩ = some (.string (tx a.s))∧wx.cell? ⟨wr.heap.size,2,none⟩ = some (.slice AM a.M.length cM))∧(wx.cell? (ad4.add (k * 3)) = some (.int .i64 b.n)∧wx.cell? ⟨(ad4.add (k * 3)).block,(ad4.add (k * 3)).off+1,none⟩ = some (.string (tx b.s))∧wx.cell? ⟨(ad4.add (k * 3)).block,(ad4.add (k * 3)).off+2,none⟩ = some (.slice BM b.M.length dM))):=Lib.hid fun wx h=>⟨(HSX.out wx (below_then hbwN h)).2.1.1,(HSX.out wx (below_then hbwN h)).2.2.2.2,bx3 (box_on X1 h),cell_on h d0,cell_on h d1,cell_on h d2⟩
   obtain ⟨KB,hKB⟩:∃ KB,KB = valL (encB s d) f.key 0 1:=⟨_,rfl⟩
   obtain ⟨VB,hVB⟩:∃ VB,VB = valL (encB s d) f.kind f.ref 2:=⟨_,rfl⟩
   have hma:=List.mem_of_getElem? ha
   have hmb:=List.mem_of_getElem? hb
   have hokk:=HOK.out a hma
   have hokv:=HOV.out b hmb
   have hl1:=val_len (enc_len s d) f.key 0 1 a hokk.1 (Nat.le_trans hokk.2.2.2 (by decide))
   have hl2:=val_len (enc_len s d) f.kind f.ref 2 b hokv.1 (Nat.le_trans hokv.2.2.2 (by decide))
   have hw1:=hokk.2.2.2
   have hw2:=hokv.2.2.2
   rw [← hKB] at hl1
   rw [← hVB] at hl2
   have HLN:Hid ((KB a++VB b).length≤140737488351232):=Lib.hid (by rw [List.length_append];omega)
   have HRN:=Lib.hid (fun vk vv b1 b2 wx (h:Below W1.heap.size W1 wx) (hk:By b1 wx (KB a) vk) (hv:By b2 wx (VB b) vv)=>run2_any f.no (KB a) (VB b) vk vv _ _ wx hfn hk hv HLN.out (HT.out _ (below_then hbwN h)))
   obtain ⟨fnk,capk,rfl,hentk,hclk⟩:=HCK.out
   obtain ⟨fnv,capv,rfl,hentv,hclv⟩:=HCV.out
   have hw5N:Below w5.heap.size w5 W1:=below_then hbw5r N1
   rw [← hKB] at hclk
   rw [← hVB] at hclv
   have HDK:=Lib.hid (fun wx (h:Below W1.heap.size W1 wx)=>hclk a _ wx (below_then hw5N h) (VRd.low (Lo.below (below_then N1 h) hBr) hca) hokk)
   have HDV:=Lib.hid (fun wx (h:Below W1.heap.size W1 wx)=>hclv b _ wx (below_then hw5N h) (VRd.low (Lo.below h (Nat.le_trans hBr N1.size)) hcb) hokv)
   obtain ⟨L,hL⟩:∃ L,((t.K.zip t.V).take k).map (entL (encB s d) f) = L:=⟨_,rfl⟩
   have hzl:(t.K.zip t.V).length = t.K.length:=by rw [List.length_zip,← HLEN.out,Nat.min_self]
   have hLk:L.length = k:=by rw [← hL,List.length_map,List.length_take,hzl];omega
   rw [hL] at hpb
   have HLL:Hid (L++[runL f.no (KB a++VB b)] = ((t.K.zip t.V).take (k+1)).map (entL (encB s d) f)):=Lib.hid (by
    have h:=map_snoc (entL (encB s d) f) hab
    rw [hL] at h
    rw [← h,hKB,hVB];rfl)
   have HPB:=Lib.hid hpb
   have HN1:=Lib.hid N1
   have hv1:=hpb.lt
   have HW3S:Hid (w.heap.size+3 = W3.heap.size):=HW3Z
   have i1:(0:Int)≤(k:Int):=by omega
   have i2:(k:Int) < (t.V.length:Int):=by omega
   clear hL hpb hab ha hb hma hmb hokk hokv hl1 hl2 hw1 hw2 hclk hclv hcb hca hs3 hr3 hb3 hs4 hr4 hb4' hKB hVB d0 d1 d2 hzl hLB N1 X1 hg3 hg4 HCK HCV
   go_wp2_with fail
   rw [← hW1]
   clear hW1 c0 c1 c2
   refine wp_region_held_drew (S:=(fun w'=>w'.cell? ⟨w.heap.size+1,0,none⟩ = some (.int .i64 f.no)∧w'.cell? ⟨w.heap.size+2,2,none⟩ = some (.slice (some ad4) t.V.length q4)∧(w'.cell? ⟨wr.heap.size,0,none⟩ = some (.int .i64 a.n)∧w'.cell? ⟨wr.heap.size,1,none⟩ = some (.string (tx a.s))∧w'.cell? ⟨wr.heap.size,2,none⟩ = some (.slice AM a.M.length cM))∧(w'.cell? (ad4.add (k * 3)) = some (.int .i64 b.n)∧w'.cell? ⟨(ad4.add (k * 3)).block,(ad4.add (k * 3)).off+1,none⟩ = some (.string (tx b.s))∧w'.cell? ⟨(ad4.add (k * 3)).block,(ad4.add (k * 3)).off+2,none⟩ = some (.slice BM b.M.length dM)))) (by kernel_rfl) (HS6.out _ hD6) (fun hHeld=>?_)
   refine tk 0 ?_
   refine tk 1 ?_
   refine tk 2 ?_
   refine tk 3 ?_
   refine tk 4 ?_
   refine tk 6 ?_
   refine tk 7 ?_
   refine tk 8 ?_
   refine tk 9 ?_
   refine tk 10 ?_
   refine tk 11 ?_
   refine wpAnyH_ready (rs:=[5]) (by kernel_rfl) (by simp) ?_
   refine AllReadyH.cons rfl (fun K hK=>?_) AllReadyH.nil
   go_simp
   refine (HDK.out _ hD6).mono ?_
   rintro e w7 ⟨vk,rfl,hyk,hbw7⟩
   have hbw7d:=below_then hD6 hbw7
   go_wp2_with fail
   refine hK.out _ _ (HS6.out _ hbw7d) (fun hHeld=>?_)
   clear hK K
   refine wpAnyH_ready (rs:=[12]) (by kernel_rfl) (by simp) ?_
   refine AllReadyH.cons rfl (fun K hK=>?_) AllReadyH.nil
   go_simp
   refine (HDV.out _ hbw7d).mono ?_
   rintro e w8 ⟨vv,rfl,hyv,hbw8⟩
   have hbw8d:=below_then hbw7d hbw8
   go_wp2_with fail
   have hYK:=hyk.on hbw8
   have hYV:=hyv
   obtain ⟨AK8,cK8,rfl,-⟩:=hyk
   obtain ⟨AV8,cV8,rfl,-⟩:=hyv
   refine hK.out _ _ (HS6.out _ hbw8d) (fun hHeld=>?_)
   clear hK K
   refine wpAnyH_ready (rs:=[13]) (by kernel_rfl) (by simp) ?_
   refine AllReadyH.cons rfl (fun K hK=>?_) AllReadyH.nil
   go_simp
   refine hK.out _ _ (HS6.out _ (below_then hbw8d (below_new w8 (.cells #[.slice AK8 (KB a).length cK8,.slice AV8 (VB b).length cV8] 26)))) (fun hHeld=>?_)
   clear hK K
   refine wpAnyH_ready (rs:=[14]) (by kernel_rfl) (by simp) ?_
   refine AllReadyH.cons rfl (fun K hK=>?_) AllReadyH.nil
   go_simp
   (go_at_call 123;refine (HRN.out _ _ _ _ w8 hbw8d hYK hYV).mono ?_;rintro e w9 ⟨v9,rfl,hy9,hb9⟩)
   have hb9d:=below_then (below_then hbw8d (below_new w8 (.cells #[.slice AK8 (KB a).length cK8,.slice AV8 (VB b).length cV8] 26))) hb9
   have hY9:=hy9.on (below_new w9 (.cells #[v9] 26))
   obtain ⟨A9,c9,rfl,-⟩:=hy9
   go_wp2_with fail
   refine hK.out _ _ (HS6.out _ hb9d) (fun hHeld=>?_)
   clear hK K
   refine wpAnyH_ready (rs:=[15]) (by kernel_rfl) (by simp) ?_
   refine AllReadyH.cons rfl (fun K hK=>?_) AllReadyH.nil
   go_simp
   have hb10:=below_then hb9d (below_new w9 (.cells #[.slice A9 (runL f.no (KB a++VB b)).length c9] 26))
   refine hK.out _ _ (HS6.out _ hb10) (fun hHeld=>?_)
   clear hK K
   refine wpAnyH_ready (rs:=[16]) (by kernel_rfl) (by simp) ?_
   refine AllReadyH.cons rfl (fun K hK=>?_) AllReadyH.nil
   have HQ:=Lib.hid (HPB.out.on (below_then HN1.out hb10))
   have hs9:w5.heap.size≤w9.heap.size:=Nat.le_trans hbw5r.size (Nat.le_trans HN1.out.size hb9d.size)
   have hs35:=hbw5d.size
   refine step_append_lies _ rfl _ _ 139 rfl w5.heap.size 26 i0 _ 1 24 Tryz.underlying139 hi0 hz0 hz1 hz2 rfl (by decide) _ L.length zs (by simp [Act.eval,Act.put]) HQ.out.own ⟨w9.heap.size,0,none⟩ 1 1 [.slice A9 (runL f.no (KB a++VB b)).length c9] (by simp [Act.eval,Act.put]) rfl (World.news_of_block (heap_alloc_new _ _)) (by simp [Value.oneCell']) (by decide) (by unfold maxLen;omega) (by omega) (by simp;omega) w9.heap.size.succ (by simp) ?_
   intro g8 cap8 w10 hown8 hg8 hat8 hlt8
   have hb11:Below wr.heap.size wr (w9.alloc _):=below_then HN1.out hb10
   have hq:=HQ.out.app (b':=W1.heap.size) (fun q hq=>Nat.lt_of_lt_of_le (hv1 q hq) HN1.out.size) (hY9.less (Nat.le_trans hbw8d.size (Nat.le_succ _))) hown8 hg8 (hat8.imp id fun h=>by rw [h];simp)
   have hb12:Below w5.heap.size w5 w10:=(hbw5r.trans (hb11.mono hbw5r.size)).trans (below_row hg8 HQ.out.own (Nat.le_refl _) (by simp;omega))
   obtain ⟨s1,s2,⟨s3,s4,s5⟩,s6,s7,s8⟩:=HS6.out _ hb10
   have z1:=HW3S.out;have z2:=HW1S.out;have z3:=hb9d.size;have z4:=HADB.out;have zk:(ad4.add (k * 3)).block = ad4.block:=add_same_block _ _
   refine hK.out _ _ (⟨far_cell hg8 HQ.out.own hv1 s1 (by simp;omega) (.inl (by dsimp only;omega)),far_cell hg8 HQ.out.own hv1 s2 (by simp;omega) (.inl (by dsimp only;omega)),⟨far_cell hg8 HQ.out.own hv1 s3 (by simp;omega) (.inr (Nat.le_refl _)),far_cell hg8 HQ.out.own hv1 s4 (by simp;omega) (.inr (Nat.le_refl _)),far_cell hg8 HQ.out.own hv1 s5 (by simp;omega) (.inr (Nat.le_refl _))⟩,far_cell hg8 HQ.out.own hv1 s6 (by rw [zk];simp;omega) (.inl (by rw [zk];omega)),far_cell hg8 HQ.out.own hv1 s7 (by dsimp only;rw [zk];simp;omega) (.inl (by dsimp only;rw [zk];omega)),far_cell hg8 HQ.out.own hv1 s8 (by dsimp only;rw [zk];simp;omega) (.inl (by dsimp only;rw [zk];omega))⟩) (fun hHeld=>?_)
   clear hK K
   refine tk 17 ?_
   refine wpAnyH_done (by kernel_rfl) ?_ _
   go_wp2
   rw [HLL.out,hLk] at hq
   refine ⟨⟨k+1,_,by go_num,by omega,hq,hb12⟩,by simp [intOf];omega⟩
  ·obtain rfl:k = t.K.length:=by omega
   have hzl:(t.K.zip t.V).length = t.K.length:=by rw [List.length_zip,← HLEN.out,Nat.min_self]
   rw [← hzl,List.take_length] at hpb
   obtain ⟨ls,hls⟩:∃ ls,(t.K.zip t.V).map (entL (encB s d) f) = ls:=⟨_,rfl⟩
   rw [hls] at hpb
   obtain ⟨F,hF⟩:∃ F,ls.flatten = F:=⟨_,rfl⟩
   have HFE:Hid (fieldL (encB s d) f t = F):=Lib.hid (by rw [HFL.out,hls,hF])
   have hFn:F.length≤140737488351232:=by rw [← HFE.out];have:=HFN.out;have:=HWT.out;omega
   obtain ⟨A9,c9,rfl,hs9⟩:=Sl.of_own hpb.own
   have HTG:=Lib.hid (together_any A9 c9 ls zs F hF wr hs9 (hpb.rows.imp BL.any) hFn)
   clear hpb hs9 hF hls hzl
   go_wp2_with fail
   refine HTG.out.mono ?_
   rintro e w9 ⟨v9,rfl,hy9,hb9⟩
   have hbz:=below_then (below_then HL3.out hbw) hb9
   have HY9:Hid (By w.heap.size w9 (fieldL (encB s d) f t) v9):=Lib.hid (by rw [HFE.out];exact hy9.less (Nat.le_trans HL3.out.size hbw.size))
   clear hy9
   go_wp2
   go_ret
   exact ⟨v9,rfl,HY9.out,hbz⟩
end Go.Proofs.YtckcojkpghiclaaGreatDoor.T12
