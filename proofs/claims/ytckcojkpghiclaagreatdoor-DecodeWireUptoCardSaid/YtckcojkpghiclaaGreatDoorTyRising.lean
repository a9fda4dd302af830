/-
 Whether a message is of one: the contract of isOf,of any message; and of Val and May.
-/
import Derived.Test.YtckcojkpghiclaaGreatDoorTyIs
import Derived.Test.YtckcojkpghiclaaGreatDoorTabRes
import Derived.Test.YtckcojkpghiclaaGreatDoorTabCode
import Derived.Laws.IdiomStrings
import Derived.Laws.EntriesVeiled
import Derived.Test.YtckcojkpghiclaaGreatDoorConvSmall
import Derived.Deep.AppendLies
import Derived.Test.YtckcojkpghiclaaGreatDoorVarMay
import Derived.Test.YtckcojkpghiclaaGreatDoorTokMath
import Derived.Deep.RegionHeldLaw
import Derived.Deep.RegionLaw
import Derived.Test.YtckcojkpghiclaaGreatDoorTabFld
import Derived.Maps.RangeWalk
import Derived.Maps.OwnOps
import Derived.Deep.RegionHeld3
namespace Go.Proofs.YtckcojkpghiclaaGreatDoor.T9
set_option maxRecDepth 100000
open Go.Proofs.YtckcojkpghiclaaGreatDoor.T4
open Go.RowKit Go.Maps
theorem byS_in {s:Sc} (h:ScIn s) {m no:Int} {f:Df} (hf:byS s m no = some f):DfIn f ∧ 0 ≤ m ∧ m < s.M.length:=by
 unfold byS msgAt at hf
 by_cases h0:m < 0
 ·rw [if_pos h0] at hf; simp at hf
 ·rw [if_neg h0] at hf
  cases hm:s.M[m.toNat]? with
  | none=>rw [hm] at hf; simp at hf
  | some d =>
   rw [hm] at hf
   simp only [Option.bind_some] at hf
   have hlt:=(List.getElem?_eq_some_iff.1 hm).1
   exact ⟨(h.M d (List.mem_of_getElem? hm)).F f (List.mem_of_find?_eq_some hf),by omega,by omega⟩
theorem by_found {B:Nat} {s:Sc} {vM vE:Value} {m x:Int} {f:Df} (hf:byS s m x = some f) (w:World) (hB:B ≤ w.heap.size) (hs:SAt B w s vM vE) :
  Calls Tryz.prog 86 #[.agg #[vM,vE],.int .i64 m,.int .i64 x] w fun e w'=>e = .returned (.tuple #[.agg #[.int .i64 f.no,.string (txt f.name),.int .i64 f.kind,.int .i64 f.ref,.bool f.rep,.int .i64 f.key,.int .i64 f.one],.bool true]) ∧ Below w.heap.size w w' :=
 (By_any B s vM vE m x w hB hs).mono fun e w' h=>⟨by rw [h.1,hf]; rfl,h.2⟩
theorem by_none {B:Nat} {s:Sc} {vM vE:Value} {m x:Int} (hf:byS s m x = none) (w:World) (hB:B ≤ w.heap.size) (hs:SAt B w s vM vE) :
  Calls Tryz.prog 86 #[.agg #[vM,vE],.int .i64 m,.int .i64 x] w fun e w'=>e = .returned (.tuple #[.agg #[.int .i64 0,.string ⟨#[]⟩,.int .i64 0,.int .i64 0,.bool false,.int .i64 0,.int .i64 0],.bool false]) ∧ Below w.heap.size w w' :=
 (By_any B s vM vE m x w hB hs).mono fun e w' h=>⟨by rw [h.1,hf]; rfl,h.2⟩
theorem isOf_zero (s:Sc):IsH s 0:=by
 intro B D vM vE m x u w hB hs hx hi hc
 have LBD:=below_then (below_new w (.cells #[vM,vE] 25)) (below_new (w.alloc (.cells #[vM,vE] 25)) (.cells #[u] 31))
 go_enter Tryz.func89,Tryz.ntmps89
 go_wp2
 go_ret
 exact ⟨rfl,LBD⟩
set_option maxRecDepth 1000000 in
set_option maxHeartbeats 8000000 in
theorem isOf_step {s:Sc} {d:Nat} (hd:d ≤ 1000) (hin:ScIn s) (H:IsH s d):IsH s (d + 1):=by
 intro B D vM vE m x u w hB hs hx hi hc
 rw [show ((d + 1:Nat):Int) = (d:Int) + 1 by omega]
 obtain ⟨A1,q1,rfl⟩:∃ A q,vM = .slice A s.M.length q:=by
  obtain ⟨xs,ys,⟨A,q,h,_⟩,_⟩:=hs
  exact ⟨A,q,h⟩
 obtain ⟨A2,q2,rfl⟩:∃ A q,vE = .slice A s.E.length q:=by
  obtain ⟨xs,ys,_,_,⟨A,q,h,_⟩,_⟩:=hs
  exact ⟨A,q,h⟩
 cases D with
 | zero=>exact hx.elim
 | succ D =>
 obtain ⟨u',hu,hl⟩:=hx
 simp only [List.cons.injEq,and_true] at hu
 subst hu
 obtain ⟨A,c,xs,rfl,hsl,hbl,hr,hn⟩:=hl.open_
 obtain ⟨X1,X2,LBD⟩:=two_boxes w (.cells #[.slice A1 s.M.length q1,.slice A2 s.E.length q2] 25) (.cells #[.slice A x.F.length c] 31)
 have hcf:=cnt_F x
 have hd0:(((d + 1:Nat):Int) == 0) = false:=by rw [beq_eq_false_iff_ne]; omega
 have hd1:((d:Int) + 1 == 0) = false:=by rw [beq_eq_false_iff_ne]; omega
 have HIS:Hid (isB s (d + 1) m x = (decide (0 ≤ m ∧ m < s.M.length) && slotsG (byS s m) (fillG (isB s d)) [] x.F)):=Lib.hid rfl
 by_cases hm0:m < 0
 ·have e1:decide (m < 0) = true:=decide_eq_true hm0
  have HF:Hid (isB s (d + 1) m x = false):=Lib.hid (by rw [HIS.out,decide_eq_false (by omega)]; rfl)
  clear hm0
  go_enter Tryz.func89,Tryz.ntmps89
  go_wp2
  go_ret
  exact ⟨by rw [HF.out]; rfl,LBD⟩
 by_cases hm1:(s.M.length:Int) ≤ m
 ·have e0:decide (m < 0) = false:=decide_eq_false hm0
  have e1:decide (m ≥ (s.M.length:Int)) = true:=decide_eq_true hm1
  have e2:decide ((s.M.length:Int) ≤ m) = true:=decide_eq_true hm1
  have HF:Hid (isB s (d + 1) m x = false):=Lib.hid (by rw [HIS.out,decide_eq_false (by omega)]; rfl)
  clear hm0 hm1
  go_enter Tryz.func89,Tryz.ntmps89
  go_wp2
  go_ret
  exact ⟨by rw [HF.out]; rfl,LBD⟩
 have e0:decide (m < 0) = false:=decide_eq_false hm0
 have e1:decide (m ≥ (s.M.length:Int)) = false:=decide_eq_false hm1
 have e2:decide ((s.M.length:Int) ≤ m) = false:=decide_eq_false hm1
 have HF:Hid (isB s (d + 1) m x = slotsG (byS s m) (fillG (isB s d)) [] x.F):=Lib.hid (by rw [HIS.out,decide_eq_true (by omega)]; rfl)
 have hmm:=@run_makeMap Tryz.prog
 have HSL:=Lib.hid hsl
 have HR:=Lib.hid hr
 have HBB:=Lib.hid hbl
 have HSA:=Lib.hid hs
 have HII:=Lib.hid hi
 have HH:=Lib.hid H
 have HN:=Lib.hid hin
 clear hm0 hm1 hsl hr hl hbl hs hi H hin HIS
 go_enter Tryz.func89,Tryz.ntmps89
 obtain ⟨x1,x2⟩:=box2' X1
 have x3:=bx1 X2
 go_wp2_with fail
 obtain ⟨W0,hW0⟩:∃ W,W = ((w.alloc (.cells #[.slice A1 s.M.length q1,.slice A2 s.E.length q2] 25)).alloc (.cells #[.slice A x.F.length c] 31)):=⟨_,rfl⟩
 have hsz0:W0.heap.size = w.heap.size + 2:=by rw [hW0]; simp
 have HC0:Claims (W0.alloc (.map #[] 0)) (w.heap.size + 2) 0 []:=hsz0 ▸ Claims.made W0
 rw [← hW0] at X1 X2 LBD ⊢
 have hBW:Below (w.heap.size + 2) W0 (W0.alloc (.map #[] 0)):=hsz0 ▸ below_new W0 _
 clear hW0 x1 x2 x3 hmm
 go_loopw [31] (fun i wr=>∃ (k:Nat) (cl:List (Int × Int)),i = .int .i64 k ∧ k ≤ x.F.length ∧ Claims wr (w.heap.size + 2) (2 * k) cl ∧ slotsG (byS s m) (fillG (isB s d)) cl (x.F.drop k) = slotsG (byS s m) (fillG (isB s d)) [] x.F ∧ Below (w.heap.size + 2) W0 wr) (fun i _=>x.F.length - (intOf i).toNat)
 case atStart=>exact ⟨0,[],rfl,by omega,HC0,rfl,hBW⟩
 case round =>
  obtain ⟨k,cl,rfl,hk,hcl,hsg,hbw⟩:=hrel
  have HBW:=Lib.hid (LBD.trans (hbw.mono (by omega)))
  have HSG:=Lib.hid hsg
  clear hsg
  by_cases hlt:k < x.F.length
  ·obtain ⟨a,ha⟩:∃ a,x.F[k]? = some a:=⟨_,List.getElem?_eq_getElem hlt⟩
   obtain ⟨ad,x0,y0,z0,rfl,hg,hca,c0,c1,c2⟩:=row3 sAt.len (sl_low HSL.out HBB.out (Lo.below HBW.out hB)) (HR.out.imp fun a cs h=>SRd.low (Lo.below HBW.out hB) h) ha
   obtain ⟨B1,d1,B2,d2,rfl,rfl,rfl⟩:=slot_shape hca
   have hmem:=List.mem_of_getElem? ha
   have hcs:=cS_le hmem
   have hdc:=drop_cons ha
   rw [hdc,slotsG_cons] at HSG
   -- the worlds
   have N1:=below_new wr (.cells #[.int .i64 a.no,.slice B1 a.K.length d1,.slice B2 a.V.length d2] 67)
   have Y1:=box_on ((hbw.block _ (show w.heap.size < w.heap.size + 2 by omega)).trans X1) N1
   have hb1:=below_then HBW.out N1
   have hBr:B ≤ wr.heap.size:=Nat.le_trans hB HBW.out.size
   have Z1:=heap_alloc_new wr (.cells #[.int .i64 a.no,.slice B1 a.K.length d1,.slice B2 a.V.length d2] 67)
   have hc1:=Free.alloc hcl (.cells #[.int .i64 a.no,.slice B1 a.K.length d1,.slice B2 a.V.length d2] 67)
   obtain ⟨W1,hW1⟩:∃ W,W = wr.alloc (.cells #[.int .i64 a.no,.slice B1 a.K.length d1,.slice B2 a.V.length d2] 67):=⟨_,rfl⟩
   have hs1:SAt B W1 s (.slice A1 s.M.length q1) (.slice A2 s.E.length q2):=hW1 ▸ SAt.lo HSA.out hb1 hB
   have hB1:B ≤ W1.heap.size:=by rw [hW1]; exact Nat.le_trans hBr N1.size
   obtain ⟨y1,y2⟩:=box2' Y1
   obtain ⟨s0,s1,s2⟩:=bx3 Z1
   have hm1:=(bx1 (box_on ((hbw.block _ (show w.heap.size + 1 < w.heap.size + 2 by omega)).trans X2) N1))
   have HCA:=Lib.hid hca
   have HA:=Lib.hid ha
   cases hby:byS s m a.no with
   | none =>
    rw [hby] at HSG
    have HBY:=Lib.hid (by_none hby W1 hB1 hs1)
    clear ha hca hcl hbw hs1 hc1 hby hdc
    go_wp2_with fail
    rw [← hW1]
    have hN1:Below wr.heap.size wr W1:=hW1 ▸ N1
    clear hW1 y1 y2 s0 s1 s2 hm1 Y1 Z1 N1 hb1
    refine HBY.out.mono ?_
    rintro e w2 ⟨rfl,hb2⟩
    go_wp2
    go_ret
    exact ⟨by rw [HF.out,← HSG.out]; rfl,below_lit (below_then (below_then HBW.out hN1) hb2) _⟩
   | some f =>
    rw [hby] at HSG
    obtain ⟨hfi,-,-⟩:=byS_in HN.out hby
    have HBY:=Lib.hid (by_found hby W1 hB1 hs1)
    have HSI:=HII.out.slot hmem
    obtain ⟨b1,hb1'⟩:∃ b,claimB cl f = b:=⟨_,rfl⟩
    obtain ⟨b2,hb2'⟩:∃ b,fillG (isB s d) f a = b:=⟨_,rfl⟩
    have HSG2:Hid ((b1 && (b2 && slotsG (byS s m) (fillG (isB s d)) (claimsOf f ++ cl) (x.F.drop (k + 1)))) = slotsG (byS s m) (fillG (isB s d)) [] x.F):=Lib.hid (by rw [← hb1',← hb2']; exact HSG.out)
    have hN1:Below wr.heap.size wr W1:=hW1 ▸ N1
    have hY1:=hW1 ▸ Y1
    have hZ1:=hW1 ▸ Z1
    have hC1:Claims W1 (w.heap.size + 2) (2 * k) cl:=hW1 ▸ hc1
    have hlt2:=Free.lt hcl
    clear ha hca hcl hs1 hc1 hby hdc HSG
    go_wp2_with fail
    rw [← hW1]
    have hw1s:W1.heap.size = wr.heap.size + 1:=by rw [hW1]; simp
    clear hW1 y1 y2 s0 s1 s2 hm1 Y1 Z1 N1 hb1
    refine HBY.out.mono ?_
    rintro e w2 ⟨rfl,hb2⟩
    have N2:=below_new w2 (dC f)
    have X3:=heap_alloc_new w2 (dC f)
    have hs2:W1.heap.size ≤ w2.heap.size:=hb2.size
    have Y2:=box_on hY1 (below_then hb2 N2)
    have Z2:=box_on hZ1 (below_then hb2 N2)
    have hC2:=Free.alloc (Free.on hC1 hb2) (dC f)
    have HCL:=Lib.hid (claims_any (w.heap.size + 2) (2 * k) cl f hfi (w2.alloc (dC f)) hC2 (by omega))
    rw [hb1'] at HCL
    have hAw:Below w.heap.size wr (w2.alloc (dC f)):=(hN1.mono HBW.out.size).trans ((hb2.mono (Nat.le_trans HBW.out.size hN1.size)).trans (N2.mono (Nat.le_trans HBW.out.size (Nat.le_trans hN1.size hs2))))
    have hAx:Below (w.heap.size + 2) wr (w2.alloc (dC f)):=(hN1.mono (Nat.le_of_lt hlt2)).trans ((hb2.mono (by omega)).trans (N2.mono (by omega)))
    have HDN:=Lib.hid (fun (w3:World) (hg3:(w2.alloc (dC f)).grownBy w3 (some (w.heap.size + 2)))=>And.intro (hAw.grown hg3 (by have:=HBW.out.size; simp; omega) (fun j hj=>by injection hj with hj; omega)) (hAx.grown hg3 (by simp; omega) (fun j hj=>by injection hj with hj; omega)))
    have HBX:=Lib.hid (fun (w3:World) (hg3:(w2.alloc (dC f)).grownBy w3 (some (w.heap.size + 2)))=>And.intro (box_kept Y2 hg3 (by omega)) (And.intro (box_kept Z2 hg3 (by omega)) (box_kept X3 hg3 (by omega))))
    have g3:=heap_cell X3
    have f0:=g3 0
    have f1:=g3 1
    have f2:=g3 2
    have f3:=g3 3
    have f4:=g3 4
    have f5:=g3 5
    have f6:=g3 6
    simp at f0 f1 f2 f3 f4 f5 f6
    clear hC1 hC2 hY1 hZ1 Y2 Z2 X3 N2 g3 hN1 hb1'
    cases b1 with
    | false =>
     go_wp2_with fail
     refine HCL.out.mono ?_
     rintro e w3 ⟨rfl,-,hg3⟩
     go_wp2
     go_ret
     exact ⟨by rw [HF.out,← HSG2.out]; rfl,HBW.out.trans (HDN.out _ hg3).1⟩
    | true =>
     go_wp2_with fail
     refine HCL.out.mono ?_
     rintro e w3 ⟨rfl,hc3,hg3⟩
     have hc3:=hc3 (by trivial)
     obtain ⟨hd3,hdx⟩:=HDN.out _ hg3
     obtain ⟨Y3,Z3,X4⟩:=HBX.out _ hg3
     have hw3:Below w.heap.size w w3:=HBW.out.trans hd3
     have hB3:B ≤ w3.heap.size:=Nat.le_trans hB hw3.size
     have HFL:=Lib.hid (fills_any HH.out B D A1 A2 q1 q2 f a B1 B2 d1 d2 w3 hB3 (SAt.lo HSA.out hw3 hB) (SRd.low (Lo.of (hd3.mono hB)) HCA.out) HSI (by omega))
     rw [hb2'] at HFL
     obtain ⟨y1,y2⟩:=box2' Y3
     obtain ⟨s0,s1,s2⟩:=bx3 Z3
     have g4:=heap_cell X4
     have k0:=g4 0
     have k1:=g4 1
     have k2:=g4 2
     have k3:=g4 3
     have k4:=g4 4
     have k5:=g4 5
     have k6:=g4 6
     simp at k0 k1 k2 k3 k4 k5 k6
     have HDX:=Lib.hid hdx
     have HBWW:=Lib.hid hbw
     clear f0 f1 f2 f3 f4 f5 f6 hb2' Y3 Z3 X4 g4 hd3 hdx hbw
     cases b2 with
     | false =>
      go_wp2_with fail
      refine HFL.out.mono ?_
      rintro e w4 ⟨rfl,hb4⟩
      go_wp2
      go_ret
      exact ⟨by rw [HF.out,← HSG2.out]; rfl,below_then hw3 hb4⟩
     | true =>
      go_wp2_with fail
      refine HFL.out.mono ?_
      rintro e w4 ⟨rfl,hb4⟩
      have hc4:=Free.on hc3 hb4
      go_wp2
      refine ⟨⟨k + 1,claimsOf f ++ cl,by go_num,by omega,by rw [show 2 * (k + 1) = 2 * k + 2 by omega]; exact hc4,by rw [← HSG2.out]; simp,HBWW.out.trans (HDX.out.trans (hb4.mono (by have:=HDX.out.size; omega)))⟩,by simp [intOf]; omega⟩
  ·obtain rfl:k = x.F.length:=by omega
   have HE:=HSG.out
   rw [List.drop_length] at HE
   go_wp2
   go_ret
   exact ⟨by rw [HF.out,← HE]; rfl,HBW.out⟩
theorem isOf_any {s:Sc} (hin:ScIn s):∀ d,d ≤ 1000 → IsH s d
 | 0,_=>isOf_zero s
 | d + 1,h=>isOf_step (by omega) hin (isOf_any hin d (by omega))
theorem may_b (B:Nat) (s:Sc) (vM vE:Value) (w:World) (hB:B ≤ w.heap.size) (hs:SAt B w s vM vE) (hin:ScIn s) (T:Tabs w) :
  Calls Tryz.prog 63 #[.agg #[vM,vE]] w fun e w'=>e = .returned (.bool (@decide (ScMay s) (Classical.propDecidable _))) ∧ Below w.heap.size w w' :=
 (may_any B s vM vE w hB hs hin T).mono fun e w' ⟨b,h1,h2,h3⟩=>⟨by
  rw [h1]
  refine congrArg (fun b=>Ending.returned (Value.bool b)) ?_
  rw [Bool.eq_iff_iff,h2]
  exact (@decide_eq_true_iff _ (Classical.propDecidable _)).symm,h3⟩
theorem sat_shape {B:Nat} {w:World} {s:Sc} {vM vE:Value} (hs:SAt B w s vM vE):∃ A1 q1 A2 q2,vM = .slice A1 s.M.length q1 ∧ vE = .slice A2 s.E.length q2:=by
 obtain ⟨xs,ys,⟨A1,q1,h1,_⟩,_,⟨A2,q2,h2,_⟩,_⟩:=hs
 exact ⟨A1,q1,A2,q2,h1,h2⟩
set_option maxRecDepth 1000000 in
set_option maxHeartbeats 4000000 in
theorem tmay_any {s:Sc} (hin:ScIn s) (B D:Nat) (vM vE:Value) (m:Int) (x:Mg) (u:Value) (w:World) (hB:B ≤ w.heap.size) (hs:SAt B w s vM vE) (hx:MRd B w D x u) (hi:MIn x) (hc:x.cnt ≤ 10000000) (T:Tabs w) :
  Calls Tryz.prog 59 #[.agg #[vM,vE],.int .i64 m,.agg #[u]] w fun e w'=>e = .returned (.bool (mayT s m x)) ∧ Below w.heap.size w w':=by
 obtain ⟨X1,X2,LBD⟩:=two_boxes w (.cells #[vM,vE] 25) (.cells #[u] 31)
 have hb1:=may_b B s vM vE _ (Nat.le_trans hB LBD.size) (SAt.lo hs LBD hB) hin (T.on LBD)
 obtain ⟨A1,q1,A2,q2,rfl,rfl⟩:=sat_shape hs
 obtain ⟨A,c,rfl⟩:=rd_shape hx
 have HI:=Lib.hid (fun wx (h:Below w.heap.size w wx)=>isOf_any hin 64 (by omega) B D _ _ m x _ wx (Nat.le_trans hB h.size) (SAt.lo hs h hB) (MRd.low (Lo.below h hB) hx) hi hc)
 have HT:Hid (mayT s m x = (@decide (ScMay s) (Classical.propDecidable _) && isB s 64 m x)):=Lib.hid rfl
 obtain ⟨d,hd⟩:∃ d,@decide (ScMay s) (Classical.propDecidable _) = d:=⟨_,rfl⟩
 rw [hd] at hb1 HT
 have HB1:=Lib.hid hb1
 clear hb1 hd hs hx hi T
 cases d with
 | false =>
  obtain ⟨x1,x2⟩:=box2' X1
  go_enter Tryz.func59,Tryz.ntmps59
  go_wp2_with (go_at_call 63; refine HB1.out.mono ?_; rintro e w1 ⟨rfl,hb1⟩)
  go_ret
  exact ⟨by rw [HT.out]; rfl,below_then LBD hb1⟩
 | true =>
  obtain ⟨x1,x2⟩:=box2' X1
  go_enter Tryz.func59,Tryz.ntmps59
  go_wp2_with fail
  refine HB1.out.mono ?_
  rintro e w1 ⟨rfl,hb1⟩
  obtain ⟨z1,z2⟩:=box2' (box_on X1 hb1)
  have z3:=bx1 (box_on X2 hb1)
  have HC:=Lib.hid (HI.out _ (below_then LBD hb1))
  have HL:=Lib.hid (below_then LBD hb1)
  clear x1 x2 X1 X2 hb1 HI
  go_wp2_with fail
  refine HC.out.mono ?_
  rintro e w2 ⟨rfl,hb2⟩
  go_wp2
  go_ret
  exact ⟨by rw [HT.out]; simp,below_then HL.out hb2⟩
end Go.Proofs.YtckcojkpghiclaaGreatDoor.T9
namespace Go.Proofs.YtckcojkpghiclaaGreatDoor.T12
set_option maxRecDepth 100000
open Go.RowKit
open Go.Proofs.YtckcojkpghiclaaGreatDoor.T9 Go.Proofs.YtckcojkpghiclaaGreatDoor.T4
end Go.Proofs.YtckcojkpghiclaaGreatDoor.T12
namespace Go.Proofs.YtckcojkpghiclaaGreatDoor.T9
set_option maxRecDepth 100000
open Go.Proofs.YtckcojkpghiclaaGreatDoor.T4
open Go.RowKit Go.Maps
theorem box_new {w w':World} {g:Nat} {t:TypeId} {cs:Array Value} {fr:Nat × Nat} {v:Value} (X:w.heap[g]? = some (.cells cs t fr)) (hg:w.grownBy w' v.ownBlock) (hlt:∀ k,v.ownBlock = some k → k < g):w'.heap[g]? = some (.cells cs t fr) :=
 (hg.block g (box_lt X) fun e=>by have:=hlt g e.symm; omega).trans X
theorem box_set {w:World} {q g j:Nat} {o:Obj} (X:w.heap[q]? = some o) (hne:q ≠ g) (x:Value):(w.setCell ⟨g,j,none⟩ x).heap[q]? = some o:=(heap_setCell_other _ ⟨g,j,none⟩ q _ hne).trans X
def NormH (s:Sc) (B D:Nat) (G:Int → Mg → Bool) (N:Int → Mg → Mg):Prop:=∀ (vM vE:Value) (m:Int) (x:Mg) (u:Value) (w:World),B ≤ w.heap.size → SAt B w s vM vE → MRd B w D x u → MIn x → x.cnt ≤ 10000000 → G m x = true → ∀ b,b ≤ w.heap.size →
 Calls Tryz.prog 60 #[.agg #[vM,vE],.int .i64 m,.agg #[u]] w fun e w'=>∃ x1,e = .returned (.agg #[x1]) ∧ MAt (Ow b w') D (N m x) [x1] ∧ Below w.heap.size w w'
theorem map_take_snoc {α β:Type} {l:List α} {k:Nat} {a:α} (f:α → β) (h:l[k]? = some a):(l.take k).map f ++ [f a] = (l.take (k + 1)).map f:=by rw [List.take_add_one,h,List.map_append]; rfl
set_option maxRecDepth 1000000 in
set_option maxHeartbeats 8000000 in
theorem nval_any {s:Sc} {B D:Nat} {G:Int → Mg → Bool} {N:Int → Mg → Mg} (H:NormH s B D G N) (vM vE:Value) (ref:Int) (v:Vl') (u:Value) (w:World) (hB:B ≤ w.heap.size) (hs:SAt B w s vM vE) (hv:VAt (Rd B w) D v [.int .i64 v.n,.string (tx v.s),u]) (hi:VIn v) (hc:cV v ≤ 10000000) (hg:∀ x ∈ v.M,G ref x = true) (b:Nat) (hb:b ≤ w.heap.size) :
  Calls Tryz.prog 132 #[.agg #[vM,vE],.int .i64 ref,.agg #[.int .i64 v.n,.string (tx v.s),u]] w fun e w'=>∃ x1 x2 x3,e = .returned (.agg #[x1,x2,x3]) ∧ VAt (Ow b w') D (norV N ref v) [x1,x2,x3] ∧ Below w.heap.size w w':=by
 obtain ⟨u',hu,hl⟩:=hv
 simp only [List.cons.injEq,and_true,true_and] at hu
 subst hu
 obtain ⟨A,c,xs,rfl,hsl,hbl,hr,hn⟩:=hl.open_
 obtain ⟨j0,hj,hy0,hy1,hy2⟩:=info_parts info_msg
 obtain ⟨X1,X2,X3,X4,LBD⟩:=four_new w (.cells #[vM,vE] 25) (.cells #[.int .i64 v.n,.string (tx v.s),.slice A v.M.length c] 81) (.cells #[.int .i64 0,.string ⟨#[]⟩,.slice none 0 0] 81) (.cells #[.int .i64 v.n,.string (tx v.s),.slice none 0 0] 81)
 have hsz:((((w.alloc (.cells #[vM,vE] 25)).alloc (.cells #[.int .i64 v.n,.string (tx v.s),.slice A v.M.length c] 81)).alloc (.cells #[.int .i64 0,.string ⟨#[]⟩,.slice none 0 0] 81)).alloc (.cells #[.int .i64 v.n,.string (tx v.s),.slice none 0 0] 81)).heap.size = w.heap.size + 4:=by simp
 obtain ⟨W0,hW0⟩:∃ W,W = ((((w.alloc (.cells #[vM,vE] 25)).alloc (.cells #[.int .i64 v.n,.string (tx v.s),.slice A v.M.length c] 81)).alloc (.cells #[.int .i64 0,.string ⟨#[]⟩,.slice none 0 0] 81)).alloc (.cells #[.int .i64 v.n,.string (tx v.s),.slice none 0 0] 81)):=⟨_,rfl⟩
 have hcM:=cV_M v
 have HS:=Lib.hid hsl
 have HR:=Lib.hid hr
 have HBB:=Lib.hid hbl
 have HH:=Lib.hid H
 have HSA:=Lib.hid hs
 have HI:=Lib.hid hi
 have HGD:=Lib.hid hg
 have hcn:∀ x ∈ v.M,x.cnt ≤ 10000000:=fun x hx=>by have:=cnt_le hx; omega
 have HCN:=Lib.hid hcn
 obtain ⟨p0,p1,p2⟩:=bx3 X2
 clear hsl hr hl hbl H hs hi hg hcn
 go_enter Tryz.func132,Tryz.ntmps132
 go_wp2
 rw [← hW0] at X1 X2 X3 X4 LBD hsz ⊢
 clear hW0 p0 p1 p2
 go_loopw [18] (fun i wr=>∃ (k:Nat) (v':Value) (zs:List Value),i = .int .i64 k ∧ k ≤ v.M.length ∧ wr.heap[w.heap.size + 3]? = some (.cells #[.int .i64 v.n,.string (tx v.s),v'] 81 (0,0)) ∧ Grow (fun R=>MAt R D) 31 1 (w.heap.size + 4) wr v' ((v.M.take k).map (N ref)) zs ∧ Below (w.heap.size + 3) W0 wr ∧ w.heap.size + 4 ≤ wr.heap.size) (fun i _=>v.M.length - (intOf i).toNat)
 case atStart=>exact ⟨0,_,[],rfl,by omega,X4,Grow.nil _ _ _ _ _,Below.refl _ _,by omega⟩
 case round =>
  obtain ⟨k,v',zs,rfl,hk,hX,hgx,hbx,hsx⟩:=hrel
  have hm1:=(hbx.block _ (show w.heap.size < w.heap.size + 3 by omega)).trans X1
  have hm3:=(hbx.block _ (show w.heap.size + 2 < w.heap.size + 3 by omega)).trans X3
  have hbw:Below w.heap.size w wr:=LBD.trans (hbx.mono (by omega))
  have hBw:B ≤ wr.heap.size:=by omega
  have hlo:Lo B w wr:=Lo.of (hbw.mono hB)
  by_cases hlt:k < v.M.length
  ·obtain ⟨x,hx⟩:∃ x,v.M[k]? = some x:=⟨_,List.getElem?_eq_getElem hlt⟩
   obtain ⟨am,ux,rfl,hgam,hcx,k0⟩:=row1 MAt.len (sl_low HS.out HBB.out hlo) (HR.out.imp fun a cs h=>MRd.low hlo h) hx
   obtain ⟨Ax,cx,rfl⟩:=rd_shape hcx
   have hmem:=List.mem_of_getElem? hx
   have N1:=below_new wr (.cells #[.slice Ax x.F.length cx] 31)
   have T1:=heap_alloc_new wr (.cells #[.slice Ax x.F.length cx] 31)
   obtain ⟨L,hL⟩:∃ L,(v.M.take k).map (N ref) = L:=⟨_,rfl⟩
   have hlq:L.length = k:=by rw [← hL,List.length_map,List.length_take]; omega
   rw [hL] at hgx
   have HL:=Lib.hid (hL ▸ map_take_snoc (N ref) hx:L ++ [N ref x] = (v.M.take (k + 1)).map (N ref))
   obtain ⟨W1,hW1⟩:∃ W,W = wr.alloc (.cells #[.slice Ax x.F.length cx] 31):=⟨_,rfl⟩
   rw [← hW1] at N1 T1
   have hs1:W1.heap.size = wr.heap.size + 1:=by rw [hW1]; simp
   have hD:Below W1.heap.size W1 W1.drew:=(Below.refl _ _).drew
   have hb1:=below_then hbw N1
   have HCX:=Lib.hid (HH.out vM vE ref x (.slice Ax x.F.length cx) W1.drew (show B ≤ W1.heap.size by omega) (SAt.lo HSA.out hb1.drew hB) (MRd.low (Lo.below N1.drew hBw) hcx) (HI.out.msg hmem) (HCN.out x hmem) (HGD.out x hmem) W1.heap.size (Nat.le_refl _))
   have HGX:=Lib.hid (hgx.on (mono_m D) N1)
   have HGO:=Lib.hid hgx
   have HX:=Lib.hid (box_on hX N1)
   have HM:=Lib.hid (And.intro (box_on hm1 N1) T1)
   have HB1:=Lib.hid (And.intro hbx N1)
   have g2:=(bx3 HX.out).2.2
   have hS0:(W1.cell? ⟨w.heap.size,0,none⟩ = some vM ∧ W1.cell? ⟨w.heap.size,1,none⟩ = some vE) ∧ W1.cell? ⟨wr.heap.size,0,none⟩ = some (.slice Ax x.F.length cx):=⟨box2' HM.out.1,bx1 HM.out.2⟩
   clear hX hgx hbx hm1 hm3 hcx hx hL
   go_wp2_with fail
   rw [← hW1]
   clear hW1 k0
   refine wp_region_held_drew (S:=(fun w'=>(w'.cell? ⟨w.heap.size,0,none⟩ = some vM ∧ w'.cell? ⟨w.heap.size,1,none⟩ = some vE) ∧ w'.cell? ⟨wr.heap.size,0,none⟩ = some (.slice Ax x.F.length cx))) (by kernel_rfl) (hS0) (fun hHeld=>?_)
   refine tk 0 ?_
   refine tk 2 ?_
   refine tk 3 ?_
   refine tk 4 ?_
   refine wpAnyH_ready (rs:=[1,5]) (by kernel_rfl) (by simp) ?_
   refine AllReadyH.cons rfl (fun K hK=>?_) (AllReadyH.cons rfl (fun K hK=>?_) AllReadyH.nil)
   ·go_simp
    refine hK.out _ _ (hS0) (fun hHeld=>?_)
    clear hK K
    refine wpAnyH_ready (rs:=[5]) (by kernel_rfl) (by simp) ?_
    refine AllReadyH.cons rfl (fun K hK=>?_) AllReadyH.nil
    go_simp
    (go_at_call 60; refine HCX.out.mono ?_; rintro e w7 ⟨x1,rfl,ho7,hb7⟩; have hb7d:=Lib.hid (hD.trans hb7); have HX7:=Lib.hid (box_on HX.out hb7d.out); have c7:=(bx3 HX7.out).2.2; have c7b:=(bx3 (box_on HX7.out (below_new w7 (.cells #[x1] 31)))).2.2; have HG8:=Lib.hid ((HGX.out.on (mono_m D) hb7d.out).on (mono_m D) (below_new w7 (.cells #[x1] 31))); have hs7:W1.heap.size ≤ w7.heap.size:=hb7d.out.size; have HM7:=Lib.hid (And.intro (box_on HM.out.1 hb7d.out) (box_on HM.out.2 hb7d.out)))
    go_wp2_with fail
    refine hK.out _ _ (And.intro (box2' HM7.out.1) (bx1 HM7.out.2)) (fun hHeld=>?_)
    clear hK K
    refine wpAnyH_ready (rs:=[6]) (by kernel_rfl) (by simp) ?_
    refine AllReadyH.cons rfl (fun K hK=>?_) AllReadyH.nil
    go_simp
    refine hK.out _ _ (And.intro (box2' (box_on HM7.out.1 (below_new w7 (.cells #[x1] 31)))) (bx1 (box_on HM7.out.2 (below_new w7 (.cells #[x1] 31))))) (fun hHeld=>?_)
    clear hK K
    refine wpAnyH_ready (rs:=[7]) (by kernel_rfl) (by simp) ?_
    refine AllReadyH.cons rfl (fun K hK=>?_) AllReadyH.nil
    (refine step_append_lies _ rfl _ _ 79 rfl (w.heap.size + 4) 31 j0 _ 1 24 Tryz.underlying79 hj hy0 hy1 hy2 rfl (by decide) v' L.length zs (by simp [Act.eval,Act.put]) HG8.out.own ⟨w7.heap.size,0,none⟩ 1 1 [x1] (by simp [Act.eval,Act.put]) rfl (World.news_of_block (heap_alloc_new _ _)) (one_msg_ow ho7) (by decide) (by unfold maxLen; omega) (by omega) (by simp; omega) w7.heap.size.succ (by simp) ?_; intro g8 cap8 w8 hown8 hg8 hat8 hlt8; have hX8:=Lib.hid (box_far (box_on HX7.out (below_new w7 (.cells #[x1] 31))) hg8 HG8.out.own (Nat.lt_succ_self (w.heap.size + 3))); have f8:w8.frozen? ⟨w.heap.size + 3,2,none⟩ = false:=(by simp [World.frozen?,hX8.out]); have c8:=(bx3 hX8.out).2.2; have HM8:=Lib.hid (And.intro (box_far (box_on HM7.out.1 (below_new w7 (.cells #[x1] 31))) hg8 HG8.out.own (show w.heap.size < w.heap.size + 4 by omega)) (box_new (box_on HM7.out.2 (below_new w7 (.cells #[x1] 31))) hg8 fun q hq=>HGO.out.lt q hq)))
    refine hK.out _ _ (And.intro (box2' HM8.out.1) (bx1 HM8.out.2)) (fun hHeld=>?_)
    clear hK K
    refine tk 8 ?_
    refine wpAnyH_ready (rs:=[9]) (by kernel_rfl) (by simp) ?_
    refine AllReadyH.cons rfl (fun K hK=>?_) AllReadyH.nil
    go_simp
    refine hK.out _ _ (And.intro (box2' (box_set (g:=w.heap.size + 3) (j:=2) HM8.out.1 (by omega) _)) (bx1 (box_set (g:=w.heap.size + 3) (j:=2) HM8.out.2 (by omega) _))) (fun hHeld=>?_)
    clear hK K
    refine wpAnyH_done (by kernel_rfl) ?_ _
    obtain ⟨Z1,Z2⟩:=cell3 hX8.out (.slice (some ⟨g8,0,none⟩) (L.length + 1) cap8)
    have hnew:=(Grow.app (mono_m D) HG8.out (a:=N ref x) (b':=W1.heap.size) (by omega) (fun k hk=>HGX.out.lt k hk) (MAt.imp (Ow.hi (hi_below _ (below_new w7 (.cells #[x1] 31)))) D _ _ ho7) hown8 hg8 (hat8.imp id fun h=>by rw [h]; simp)).box (mono_m D) Z2 (Nat.lt_succ_self (w.heap.size + 3))
    rw [HL.out] at hnew
    rw [hlq] at hnew Z1 Z2
    have hbz:Below (w.heap.size + 3) wr _:=((HB1.out.2.mono (by omega)).trans ((hb7d.out.mono (by omega)).trans ((below_new w7 (.cells #[x1] 31)).mono (by omega)))).trans ((below_row hg8 HG8.out.own (Nat.le_succ _) (by simp; omega)).trans (below_own Z2 (Nat.le_refl _) (by have:=hg8.size; simp at this; omega)))
    try rw [hlq]
    go_wp2
    refine ⟨⟨k + 1,_,_,by go_num,by omega,Z1,hnew,HB1.out.1.trans hbz,by have h1:=hbz.size; have h2:=hg8.size; simp at h1 h2 ⊢; omega⟩,by simp [intOf]; omega⟩
   ·go_simp
    (go_at_call 60; refine HCX.out.mono ?_; rintro e w7 ⟨x1,rfl,ho7,hb7⟩; have hb7d:=Lib.hid (hD.trans hb7); have HX7:=Lib.hid (box_on HX.out hb7d.out); have c7:=(bx3 HX7.out).2.2; have c7b:=(bx3 (box_on HX7.out (below_new w7 (.cells #[x1] 31)))).2.2; have HG8:=Lib.hid ((HGX.out.on (mono_m D) hb7d.out).on (mono_m D) (below_new w7 (.cells #[x1] 31))); have hs7:W1.heap.size ≤ w7.heap.size:=hb7d.out.size; have HM7:=Lib.hid (And.intro (box_on HM.out.1 hb7d.out) (box_on HM.out.2 hb7d.out)))
    go_wp2_with fail
    refine hK.out _ _ (And.intro (box2' HM7.out.1) (bx1 HM7.out.2)) (fun hHeld=>?_)
    clear hK K
    refine wpAnyH_ready (rs:=[1,6]) (by kernel_rfl) (by simp) ?_
    refine AllReadyH.cons rfl (fun K hK=>?_) (AllReadyH.cons rfl (fun K hK=>?_) AllReadyH.nil)
    ·go_simp
     refine hK.out _ _ (And.intro (box2' HM7.out.1) (bx1 HM7.out.2)) (fun hHeld=>?_)
     clear hK K
     refine wpAnyH_ready (rs:=[6]) (by kernel_rfl) (by simp) ?_
     refine AllReadyH.cons rfl (fun K hK=>?_) AllReadyH.nil
     go_simp
     refine hK.out _ _ (And.intro (box2' (box_on HM7.out.1 (below_new w7 (.cells #[x1] 31)))) (bx1 (box_on HM7.out.2 (below_new w7 (.cells #[x1] 31))))) (fun hHeld=>?_)
     clear hK K
     refine wpAnyH_ready (rs:=[7]) (by kernel_rfl) (by simp) ?_
     refine AllReadyH.cons rfl (fun K hK=>?_) AllReadyH.nil
     (refine step_append_lies _ rfl _ _ 79 rfl (w.heap.size + 4) 31 j0 _ 1 24 Tryz.underlying79 hj hy0 hy1 hy2 rfl (by decide) v' L.length zs (by simp [Act.eval,Act.put]) HG8.out.own ⟨w7.heap.size,0,none⟩ 1 1 [x1] (by simp [Act.eval,Act.put]) rfl (World.news_of_block (heap_alloc_new _ _)) (one_msg_ow ho7) (by decide) (by unfold maxLen; omega) (by omega) (by simp; omega) w7.heap.size.succ (by simp) ?_; intro g8 cap8 w8 hown8 hg8 hat8 hlt8; have hX8:=Lib.hid (box_far (box_on HX7.out (below_new w7 (.cells #[x1] 31))) hg8 HG8.out.own (Nat.lt_succ_self (w.heap.size + 3))); have f8:w8.frozen? ⟨w.heap.size + 3,2,none⟩ = false:=(by simp [World.frozen?,hX8.out]); have c8:=(bx3 hX8.out).2.2; have HM8:=Lib.hid (And.intro (box_far (box_on HM7.out.1 (below_new w7 (.cells #[x1] 31))) hg8 HG8.out.own (show w.heap.size < w.heap.size + 4 by omega)) (box_new (box_on HM7.out.2 (below_new w7 (.cells #[x1] 31))) hg8 fun q hq=>HGO.out.lt q hq)))
     refine hK.out _ _ (And.intro (box2' HM8.out.1) (bx1 HM8.out.2)) (fun hHeld=>?_)
     clear hK K
     refine tk 8 ?_
     refine wpAnyH_ready (rs:=[9]) (by kernel_rfl) (by simp) ?_
     refine AllReadyH.cons rfl (fun K hK=>?_) AllReadyH.nil
     go_simp
     refine hK.out _ _ (And.intro (box2' (box_set (g:=w.heap.size + 3) (j:=2) HM8.out.1 (by omega) _)) (bx1 (box_set (g:=w.heap.size + 3) (j:=2) HM8.out.2 (by omega) _))) (fun hHeld=>?_)
     clear hK K
     refine wpAnyH_done (by kernel_rfl) ?_ _
     obtain ⟨Z1,Z2⟩:=cell3 hX8.out (.slice (some ⟨g8,0,none⟩) (L.length + 1) cap8)
     have hnew:=(Grow.app (mono_m D) HG8.out (a:=N ref x) (b':=W1.heap.size) (by omega) (fun k hk=>HGX.out.lt k hk) (MAt.imp (Ow.hi (hi_below _ (below_new w7 (.cells #[x1] 31)))) D _ _ ho7) hown8 hg8 (hat8.imp id fun h=>by rw [h]; simp)).box (mono_m D) Z2 (Nat.lt_succ_self (w.heap.size + 3))
     rw [HL.out] at hnew
     rw [hlq] at hnew Z1 Z2
     have hbz:Below (w.heap.size + 3) wr _:=((HB1.out.2.mono (by omega)).trans ((hb7d.out.mono (by omega)).trans ((below_new w7 (.cells #[x1] 31)).mono (by omega)))).trans ((below_row hg8 HG8.out.own (Nat.le_succ _) (by simp; omega)).trans (below_own Z2 (Nat.le_refl _) (by have:=hg8.size; simp at this; omega)))
     try rw [hlq]
     go_wp2
     refine ⟨⟨k + 1,_,_,by go_num,by omega,Z1,hnew,HB1.out.1.trans hbz,by have h1:=hbz.size; have h2:=hg8.size; simp at h1 h2 ⊢; omega⟩,by simp [intOf]; omega⟩
    ·go_simp
     refine hK.out _ _ (And.intro (box2' (box_on HM7.out.1 (below_new w7 (.cells #[x1] 31)))) (bx1 (box_on HM7.out.2 (below_new w7 (.cells #[x1] 31))))) (fun hHeld=>?_)
     clear hK K
     refine wpAnyH_ready (rs:=[1]) (by kernel_rfl) (by simp) ?_
     refine AllReadyH.cons rfl (fun K hK=>?_) AllReadyH.nil
     go_simp
     refine hK.out _ _ (And.intro (box2' (box_on HM7.out.1 (below_new w7 (.cells #[x1] 31)))) (bx1 (box_on HM7.out.2 (below_new w7 (.cells #[x1] 31))))) (fun hHeld=>?_)
     clear hK K
     refine wpAnyH_ready (rs:=[7]) (by kernel_rfl) (by simp) ?_
     refine AllReadyH.cons rfl (fun K hK=>?_) AllReadyH.nil
     (refine step_append_lies _ rfl _ _ 79 rfl (w.heap.size + 4) 31 j0 _ 1 24 Tryz.underlying79 hj hy0 hy1 hy2 rfl (by decide) v' L.length zs (by simp [Act.eval,Act.put]) HG8.out.own ⟨w7.heap.size,0,none⟩ 1 1 [x1] (by simp [Act.eval,Act.put]) rfl (World.news_of_block (heap_alloc_new _ _)) (one_msg_ow ho7) (by decide) (by unfold maxLen; omega) (by omega) (by simp; omega) w7.heap.size.succ (by simp) ?_; intro g8 cap8 w8 hown8 hg8 hat8 hlt8; have hX8:=Lib.hid (box_far (box_on HX7.out (below_new w7 (.cells #[x1] 31))) hg8 HG8.out.own (Nat.lt_succ_self (w.heap.size + 3))); have f8:w8.frozen? ⟨w.heap.size + 3,2,none⟩ = false:=(by simp [World.frozen?,hX8.out]); have c8:=(bx3 hX8.out).2.2; have HM8:=Lib.hid (And.intro (box_far (box_on HM7.out.1 (below_new w7 (.cells #[x1] 31))) hg8 HG8.out.own (show w.heap.size < w.heap.size + 4 by omega)) (box_new (box_on HM7.out.2 (below_new w7 (.cells #[x1] 31))) hg8 fun q hq=>HGO.out.lt q hq)))
     refine hK.out _ _ (And.intro (box2' HM8.out.1) (bx1 HM8.out.2)) (fun hHeld=>?_)
     clear hK K
     refine tk 8 ?_
     refine wpAnyH_ready (rs:=[9]) (by kernel_rfl) (by simp) ?_
     refine AllReadyH.cons rfl (fun K hK=>?_) AllReadyH.nil
     go_simp
     refine hK.out _ _ (And.intro (box2' (box_set (g:=w.heap.size + 3) (j:=2) HM8.out.1 (by omega) _)) (bx1 (box_set (g:=w.heap.size + 3) (j:=2) HM8.out.2 (by omega) _))) (fun hHeld=>?_)
     clear hK K
     refine wpAnyH_done (by kernel_rfl) ?_ _
     obtain ⟨Z1,Z2⟩:=cell3 hX8.out (.slice (some ⟨g8,0,none⟩) (L.length + 1) cap8)
     have hnew:=(Grow.app (mono_m D) HG8.out (a:=N ref x) (b':=W1.heap.size) (by omega) (fun k hk=>HGX.out.lt k hk) (MAt.imp (Ow.hi (hi_below _ (below_new w7 (.cells #[x1] 31)))) D _ _ ho7) hown8 hg8 (hat8.imp id fun h=>by rw [h]; simp)).box (mono_m D) Z2 (Nat.lt_succ_self (w.heap.size + 3))
     rw [HL.out] at hnew
     rw [hlq] at hnew Z1 Z2
     have hbz:Below (w.heap.size + 3) wr _:=((HB1.out.2.mono (by omega)).trans ((hb7d.out.mono (by omega)).trans ((below_new w7 (.cells #[x1] 31)).mono (by omega)))).trans ((below_row hg8 HG8.out.own (Nat.le_succ _) (by simp; omega)).trans (below_own Z2 (Nat.le_refl _) (by have:=hg8.size; simp at this; omega)))
     try rw [hlq]
     go_wp2
     refine ⟨⟨k + 1,_,_,by go_num,by omega,Z1,hnew,HB1.out.1.trans hbz,by have h1:=hbz.size; have h2:=hg8.size; simp at h1 h2 ⊢; omega⟩,by simp [intOf]; omega⟩
  ·obtain rfl:k = v.M.length:=by omega
   rw [List.take_length] at hgx
   obtain ⟨Av,cv,rfl,-⟩:=Sl.of_own hgx.own
   rw [List.length_map] at hX hgx
   obtain ⟨g0,g1,g2⟩:=bx3 hX
   obtain ⟨⟨q0,q1,q2⟩,q3,q4,q5⟩:=wr3 hm3
   go_wp2
   obtain ⟨Z1,Z2⟩:=three_set hm3 (.int .i64 v.n) (.string (tx v.s)) (.slice Av v.M.length cv)
   refine bodyPost_ret (results_cell_row rfl _ _ (w.heap.size + 2) _ _ (0,0) _ rfl Z1 Tryz.underlying81 rfl sz_val) rfl ?_
   refine ⟨_,_,_,rfl,⟨_,rfl,?_⟩,hbw.trans (below_own Z2 (by omega) (by omega))⟩
   have h1:=(hgx.box (mono_m D) Z2 (show w.heap.size + 2 < w.heap.size + 4 by omega)).less (mono_m D) (show b ≤ w.heap.size + 4 by omega)
   exact h1.ow (mono_m D) (by rw [List.length_map]; exact hn)
end Go.Proofs.YtckcojkpghiclaaGreatDoor.T9
namespace Go.Proofs.YtckcojkpghiclaaGreatDoor.T9
set_option maxRecDepth 100000
open Go.RowKit Go.Lib Go.Sort
section
variable {α:Type} [Inhabited α] {DC:α → List Value} {k:Nat}
omit [Inhabited α] in
theorem fm_len (hl:∀ a,(DC a).length = k) (l:List α):(l.flatMap DC).length = l.length * k:=by
 induction l with
 | nil=>simp
 | cons a l ih=>rw [List.flatMap_cons,List.length_append,hl,ih,List.length_cons,Nat.succ_mul]; omega
omit [Inhabited α] in
theorem fm_get (hl:∀ a,(DC a).length = k):∀ (l:List α) (i j:Nat) (a:α),l[i]? = some a → j < k → (l.flatMap DC)[i * k + j]? = (DC a)[j]?
 | [],_,_,_,h,_=>by simp at h
 | b :: l,0,j,a,h,hj=>by
  obtain rfl:b = a:=by simpa using h
  rw [List.flatMap_cons,Nat.zero_mul,Nat.zero_add,List.getElem?_append_left (by rw [hl]; exact hj)]
 | b :: l,i + 1,j,a,h,hj=>by
  rw [List.flatMap_cons,List.getElem?_append_right (by rw [hl,Nat.succ_mul]; omega),hl,← fm_get hl l i j a (by simpa using h) hj]
  congr 1
  rw [Nat.succ_mul]; omega
theorem flat_gen (hl:∀ a,(DC a).length = k) (hk:0 < k) (d:Array α):(flatK DC k d).toList = d.toList.flatMap DC:=by
 apply List.ext_getElem?
 intro t
 by_cases ht:t < d.size * k
 ·have h1:=get_flatK DC k d t ht
  rw [getElem!_pos _ t (by rw [size_flatK]; exact ht)] at h1
  have hq:t / k < d.size:=Nat.div_lt_of_lt_mul (by rw [Nat.mul_comm]; exact ht)
  have h2:=fm_get hl d.toList (t / k) (t % k) d[t / k]! (by
   rw [getElem!_pos d (t / k) hq,Array.getElem?_toList,Array.getElem?_eq_getElem hq]) (Nat.mod_lt _ hk)
  rw [show t / k * k + t % k = t by rw [Nat.mul_comm]; exact Nat.div_add_mod t k] at h2
  rw [h2,Array.getElem?_toList,Array.getElem?_eq_getElem (by rw [size_flatK]; exact ht),h1]
  have h3:t % k < (DC d[t / k]!).length:=by rw [hl]; exact Nat.mod_lt _ hk
  rw [List.getElem?_eq_getElem h3,getElem!_pos (DC d[t / k]!) (t % k) h3]
 ·rw [List.getElem?_eq_none (by rw [Array.length_toList,size_flatK]; omega),List.getElem?_eq_none (by rw [fm_len hl,Array.length_toList]; omega)]
theorem holds_gen (hl:∀ a,(DC a).length = k) (hk:0 < k) {w:World} {g:Nat} {cur:Array Value} {t:TypeId} {l:List α} (hh:w.heap[g]? = some (.cells cur t (0,0))) (ht:cur.toList.take (l.length * k) = l.flatMap DC):HoldsK DC k w g 0 l.toArray:=by
 intro j hj
 rw [size_flatK] at hj
 have hj':j < l.length * k:=by simpa using hj
 rw [Nat.zero_add]
 refine ⟨?_,heap_free hh j⟩
 rw [heap_cell hh j]
 have h1:(flatK DC k l.toArray)[j]? = (l.flatMap DC)[j]?:=by rw [← Array.getElem?_toList,flat_gen hl hk]
 have h2:cur[j]? = (l.flatMap DC)[j]?:=by
  rw [← ht,List.getElem?_take_of_lt hj',Array.getElem?_toList]
 rw [h2,← h1,getElem!_pos (flatK DC k l.toArray) j (by rw [size_flatK]; exact hj),Array.getElem?_eq_getElem (by rw [size_flatK]; exact hj)]
 rfl
theorem sorted_gen (hl:∀ a,(DC a).length = k) (hk:0 < k) {w:World} {g n:Nat} {cur:Array Value} {t:TypeId} {d:Array α} {os:Array Obj} (hh:w.heap[g]? = some (.cells cur t (0,0))) (hs:d.size * k ≤ cur.size) :
  ∃ cur',(sortWorldK DC k w g 0 n d os).heap[g]? = some (.cells cur' t (0,0)) ∧ cur'.size = cur.size ∧ cur'.toList.take (d.size * k) = d.toList.flatMap DC ∧ w.grownBy (sortWorldK DC k w g 0 n d os) (some g):=by
 have hlt:=(Array.getElem?_eq_some_iff.1 hh).1
 refine ⟨putCells id 0 (flatK DC k d) cur,?_,by simp [putCells],?_,rfl,rfl,rfl,?_,?_⟩
 ·unfold sortWorldK putRowK putRow mapBlock grow
  simp only
  rw [Array.getElem?_append_left (by simpa using hlt),Array.getElem?_modify,if_pos rfl]
  show Option.map _ w.heap[g]? = _
  rw [hh]
  rfl
 ·rw [← flat_gen hl hk]
  apply List.ext_getElem?
  intro q
  by_cases hq:q < d.size * k
  ·rw [List.getElem?_take_of_lt hq,Array.getElem?_toList,Array.getElem?_toList]
   unfold putCells
   rw [Array.getElem?_mapIdx,Array.getElem?_eq_getElem (by omega),Array.getElem?_eq_getElem (by rw [size_flatK]; exact hq)]
   simp only [Option.map_some]
   rw [if_pos (by rw [size_flatK]; omega),Nat.sub_zero,getElem!_pos _ q (by rw [size_flatK]; exact hq)]
   rfl
  ·rw [List.getElem?_eq_none (by rw [List.length_take]; omega),List.getElem?_eq_none (by rw [Array.length_toList,size_flatK]; omega)]
 ·unfold sortWorldK putRowK putRow mapBlock grow
  simp
 ·intro i hi hne
  unfold sortWorldK putRowK putRow mapBlock grow
  simp only
  rw [Array.getElem?_append_left (by simpa using hi),Array.getElem?_modify,if_neg (fun e=>hne (by rw [e]))]
  rfl
end
abbrev SV:=Option Addr × Nat × Nat
def svV (s:SV):Value:=.slice s.1 s.2.1 s.2.2
abbrev Tri:=So × SV × SV
def triC (t:Tri):List Value:=[.int .i64 t.1.no,svV t.2.1,svV t.2.2]
theorem tri_len (t:Tri):(triC t).length = 3:=rfl
theorem tri_one (t:Tri):∀ v ∈ triC t,v.oneCell' = true:=by
 intro v hv
 simp only [triC,List.mem_cons,List.not_mem_nil,or_false] at hv
 rcases hv with rfl | rfl | rfl <;> rfl
def cmpTri (x y:Tri):Int:=Lib.compareInt x.1.no y.1.no
theorem lt_tri (x y:Tri):ltOf cmpTri x y = ltNo x.1 y.1:=by
 unfold ltOf cmpTri Lib.compareInt ltNo
 by_cases h1:x.1.no < y.1.no
 ·simp [h1]
 ·by_cases h2:y.1.no < x.1.no <;> simp [h1,h2]
theorem swo_tri:SWO (ltOf cmpTri) where
 irrefl x:=by rw [lt_tri]; exact no_irr _
 trans x y z h1 h2:=by rw [lt_tri] at *; exact no_tr _ _ _ h1 h2
 ntrans x y z h1 h2:=by rw [lt_tri] at *; simp [ltNo] at *; omega
theorem slices_of {b:Nat} {r:Option Nat} {w:World} {e:TypeId} {size:Nat} {v:Value} {n:Nat} {xs:List Value} (h:Ap b r w e size v n xs):∃ s:SV,v = svV s:=by
 obtain ⟨A,c,rfl,-⟩:=Sl.of_own h.1
 exact ⟨(A,n,c),rfl⟩
theorem tri_rows {d b:Nat} {r:Option Nat} {w:World}:∀ {l:List So} {xs:List Value},Rows (SAt' (Ap b r w) d) l xs → ∃ tr:List Tri,tr.map (·.1) = l ∧ xs = tr.flatMap triC ∧ ∀ t ∈ tr,SAt' (Ap b r w) d t.1 (triC t)
 | [],xs,h=>⟨[],rfl,h,by simp⟩
 | a :: l,xs,⟨cs,ys,h1,h2,h3⟩=>by
  obtain ⟨tr,e1,e2,e3⟩:=tri_rows h3
  obtain ⟨u1,u2,rfl,⟨z1,q1,q1'⟩,⟨z2,q2,q2'⟩⟩:=h2
  obtain ⟨s1,rfl⟩:=slices_of q1
  obtain ⟨s2,rfl⟩:=slices_of q2
  refine ⟨(a,s1,s2) :: tr,by simp [e1],by rw [h1,e2]; rfl,fun t ht=>?_⟩
  rcases List.mem_cons.1 ht with rfl | ht
  ·exact ⟨_,_,rfl,⟨z1,q1,q1'⟩,⟨z2,q2,q2'⟩⟩
  ·exact e3 t ht
theorem rows_tri {C:So → List Value → Prop}:∀ {tr:List Tri},(∀ t ∈ tr,C t.1 (triC t)) → Rows C (tr.map (·.1)) (tr.flatMap triC)
 | [],_=>rfl
 | t :: tr,h=>⟨triC t,_,rfl,h t (by simp),rows_tri fun t ht=>h t (by simp [ht])⟩
set_option maxHeartbeats 1000000 in
theorem compare_no (x y:Int) (w:World):Calls Tryz.prog 94 #[.int .i64 x,.int .i64 y] w fun e w'=>e = .returned (.int .i64 (Lib.compareInt x y)) ∧ w = w':=by
 have H:Hid (Lib.compareInt x y = if x < y then -1 else if y < x then 1 else 0):=Lib.hid rfl
 by_cases h1:x < y
 ·rw [if_pos h1] at H
  go_enter Tryz.func94,Tryz.ntmps94
  go_wp2
  go_ret
  exact ⟨ret_int H.out.symm,rfl⟩
 ·rw [if_neg h1] at H
  by_cases h2:y < x
  ·rw [if_pos h2] at H
   go_enter Tryz.func94,Tryz.ntmps94
   go_wp2
   go_ret
   exact ⟨ret_int H.out.symm,rfl⟩
  ·rw [if_neg h2] at H
   go_enter Tryz.func94,Tryz.ntmps94
   go_wp2
   go_ret
   exact ⟨ret_int H.out.symm,rfl⟩
set_option maxHeartbeats 1000000 in
theorem tri_clo (x y:Tri) (W:World):Calls Tryz.prog 93 #[.agg (triC x).toArray,.agg (triC y).toArray] W fun e w'=>e = .returned (.int .i64 (cmpTri x y)) ∧ ∃ q os',w' = grow (W.drewN q) os':=by
 have hcon:=fun W'=>compare_no x.1.no y.1.no W'
 unfold cmpTri triC
 generalize Lib.compareInt x.1.no y.1.no = r at hcon ⊢
 go_enter Tryz.func93,Tryz.ntmps93
 go_wp2_with (go_at_call 94; refine (hcon _).mono ?_; rintro e w' ⟨rfl,rfl⟩)
 go_ret
 exact ⟨rfl,0,_,by rw [alloc_eq_grow,alloc_eq_grow,grow_grow]; rfl⟩
set_option maxHeartbeats 1000000 in
theorem sort_slots (d base:Nat) (v:Value) (l:List So) (xs:List Value) (w:World) (hg:Grow (fun R=>SAt' R d) 67 3 base w v l xs) (hd:l.Pairwise fun a b=>a.no ≠ b.no) (hl:l.length ≤ 1000000000) :
  Calls Tryz.prog 92 #[v,.func (.func 93) #[] #[]] w fun e w'=>e = .returned (.tuple #[]) ∧ (∃ ys,Grow (fun R=>SAt' R d) 67 3 base w' v (srt ltNo l) ys) ∧ (srt ltNo l).length = l.length ∧ w.grownBy w' v.ownBlock:=by
 obtain ⟨hown,hrows⟩:=hg
 have hown0:=hown
 obtain ⟨hlen,⟨rfl,hn⟩ | ⟨g,cap,cur,rfl,hgb,hh,hle,hmax,hsz,htake⟩⟩:=hown
 ·refine (Tryz.slices_SortFunc_none_f92 (α:=So) none 0 _ w).mono ?_
  rintro e w' ⟨rfl,rfl⟩
  obtain rfl:l = []:=List.eq_nil_of_length_eq_zero hn
  exact ⟨rfl,⟨xs,hown0,hrows⟩,rfl,World.grownBy.refl _ _⟩
 ·obtain ⟨tr,e1,e2,e3⟩:=tri_rows hrows
  have htl:tr.length = l.length:=by rw [← e1,List.length_map]
  have eg:∀ args w,(callFunc 93 args).run Tryz.prog w = .ok (.enter 93 args) w:=enters_of Tryz.func93 (by kernel_rfl) rfl
  have hcap:cap * 3 = cur.size:=hsz.symm
  have hcon:=Tryz.slices_SortFunc_f92 3 Tryz.isAgg67 Tryz.sizeOf67 triC tri_len tri_one cmpTri swo_tri 93 #[] g 0 cap tr.toArray w eg (fun _ _ _ _ x y=>tri_clo x y _) (holds_gen tri_len (by omega) hh (by rw [htl,← e2]; exact htake)) (Array.getElem?_eq_some_iff.1 hh).1 (by simp; omega)
  rw [show tr.toArray.size = l.length by simp [htl]] at hcon
  refine hcon.mono ?_
  rintro e w' ⟨rfl,d',n,os,hp,hs,rfl⟩
  have hsize:d'.size = l.length:=by have:=hp.1; simp at this; omega
  have hperm:d'.toList.Perm tr:=by
   have h3:=hp.2.2
   rw [show l.length = d'.size from hsize.symm,Array.extract_size] at h3
   have e4:(tr.toArray.extract 0 d'.size) = tr.toArray:=by
    rw [hsize,show l.length = tr.toArray.size by simp [htl],Array.extract_size]
   rw [e4] at h3
   simpa using h3
  have hpm:(d'.toList.map (·.1)).Perm l:=by rw [← e1]; exact hperm.map _
  have hd':(d'.toList.map (·.1)).Pairwise fun a b=>a.no ≠ b.no:=(hpm.pairwise_iff (R:=fun a b:So=>a.no ≠ b.no) (fun hab=>fun e=>hab e.symm)).2 hd
  have hrise:Rise ltNo (d'.toList.map (·.1)):=by
   refine rise_of_sorted (hd'.imp fun {a b} hab=>?_) fun i j hi hj hij=>?_
   ·unfold ltNo
    by_cases h:a.no < b.no
    ·exact .inl (decide_eq_true h)
    ·exact .inr (decide_eq_true (by omega))
   ·rw [List.length_map,Array.length_toList] at hi hj
    have:=hs i j (Nat.zero_le _) hij (by omega)
    rw [lt_tri,getElem!_pos d' j hj,getElem!_pos d' i hi] at this
    rw [List.getElem_map,List.getElem_map,Array.getElem_toList,Array.getElem_toList]
    simpa using this
  have hsort:d'.toList.map (·.1) = srt ltNo l:=srt_is no_irr no_tr (no_tot hd) hrise fun _=>hpm.mem_iff
  obtain ⟨cur',r1,r2,r3,r4⟩:=sorted_gen (n:=n) (d:=d') (os:=os) tri_len (by omega) hh (by rw [hsize]; omega)
  have hll:(srt ltNo l).length = l.length:=by rw [← hsort,List.length_map,Array.length_toList,hsize]
  have hown':(sortWorldK triC 3 w g 0 n d' os).ownsRow base 67 3 (.slice (some ⟨g,0,none⟩) l.length cap) l.length (d'.toList.flatMap triC):=by
   rw [hsize] at r3
   refine ⟨?_,.inr ⟨g,cap,cur',rfl,hgb,r1,hle,hmax,by rw [r2]; exact hsz,r3⟩⟩
   rw [fm_len tri_len,Array.length_toList,hsize]
  refine ⟨rfl,⟨d'.toList.flatMap triC,⟨by rw [hll]; exact hown',?_⟩⟩,hll,r4⟩
  rw [← hsort]
  refine rows_tri fun t ht=>?_
  refine sAt.imp (fun e size v n xs h=>?_) (fun m cs h=>MAt.imp (fun e size v n xs h=>?_) d m cs h) _ _ (e3 t (hperm.mem_iff.1 ht))
  all_goals exact Ap.grown r4 (.inl rfl) e size v n xs h
end Go.Proofs.YtckcojkpghiclaaGreatDoor.T9
namespace Go.Proofs.YtckcojkpghiclaaGreatDoor.T9
set_option maxRecDepth 100000
open Go.RowKit Go.Maps
abbrev Kk:={p:Int × List UInt8 // inr p.1 ∧ p.2.length ≤ maxLen}
def kkVal (p:Int × List UInt8):Value:=.agg #[.int .i64 p.1,.string (tx p.2)]
theorem kk_law:Keyed Tryz.prog 188:=Keyed.of_law (deep_law_laid Tryz.laidOut (m:=2) (by omega) (by decide +kernel) (by kernel_rfl) (by kernel_rfl))
theorem kk_cells:Tryz.prog.cellsOf 188 = 2:=by kernel_rfl
theorem kk_int:Tryz.prog.cellsOf 2 = 1:=by kernel_rfl
theorem kk_string:Tryz.prog.cellsOf 9 = 1:=by kernel_rfl
theorem kk_type:Tryz.prog.keyType 188 = true:=by kernel_rfl
theorem lits_int64 {n:Int} (d:Nat) (h:(Lit.int .i64 n).wf = true):Tryz.prog.keyLits (d + 1) 2 [.int .i64 n] = some [.int .i64 n]:=by
 simp [Program.keyLits,Tryz.underlying2,h]
theorem lits_string {s:List UInt8} (d:Nat) (h:s.length ≤ maxLen):∃ l,Tryz.prog.keyLits (d + 1) 9 [.string (tx s)] = some [.string l]:=by
 have hs:(tx s).size ≤ maxLen:=by simpa [tx,ByteArray.size] using h
 exact ⟨_,by simp [Program.keyLits,Tryz.underlying9,hs]; rfl⟩
theorem kk_some (p:Kk):∃ l,Go.keyOf Tryz.prog 188 (kkVal p.1) = some l:=by
 have h1:=cl_wf p.2.1
 obtain ⟨n,hn⟩:=ck_size
 obtain ⟨l2,h2⟩:=lits_string n p.2.2
 have hf:(kkVal p.1).formed Tryz.prog 188 = true:=by
  unfold Value.formed kkVal
  simp [Tryz.underlying188,kk_cells]
 unfold Go.keyOf
 rw [Tryz.underlying188]
 simp only [kk_type,hf,Bool.and_self,if_true]
 rw [hn]
 unfold Program.keyLits
 rw [Tryz.underlying188]
 simp [kkVal,Value.cells,kk_cells,kk_int,kk_string,lits_int64 n h1,h2]
noncomputable def kKk (p:Kk):Lit:=(Go.keyOf Tryz.prog 188 (kkVal p.1)).getD (.bool false)
theorem kKk_key (p:Kk):Go.keyOf Tryz.prog 188 (kkVal p.1) = some (kKk p):=by
 obtain ⟨l,hl⟩:=kk_some p
 unfold kKk
 rw [hl]; rfl
theorem kKk_inj (x y:Kk) (h:kKk x = kKk y):x = y:=by
 have h1:=kKk_key x
 rw [h] at h1
 have h2:=kk_law.inj h1 (kKk_key y)
 unfold kkVal at h2
 simp only [Value.agg.injEq,Array.mk.injEq,List.cons.injEq,Value.int.injEq,Value.string.injEq,true_and,and_true] at h2
 exact Subtype.ext (Prod.ext h2.1 (tx_inj h2.2))
theorem kKk_lit (x:Kk):WideAt.IsKeyLit (kKk x):=kk_law.key (kKk_key x)
def heldE (v:Value):Option (DataW Value × List MemPlace):=some (.held v,[])
def keyV (v:Vl'):Int × List UInt8:=(v.n,v.s)
def lastA (P:List (Vl' × Value)) (k:Int × List UInt8):Option Value:=(P.reverse.find? fun p=>decide (keyV p.1 = k)).map (·.2)
theorem lastA_snoc (P:List (Vl' × Value)) (x:Vl' × Value) (k:Int × List UInt8):lastA (P ++ [x]) k = if keyV x.1 = k then some x.2 else lastA P k:=by
 unfold lastA
 rw [List.reverse_append]
 show ((x :: P.reverse).find? _).map _ = _
 by_cases h:keyV x.1 = k
 ·rw [List.find?_cons_of_pos (by simp [h]),if_pos h]; rfl
 ·rw [List.find?_cons_of_neg (by simp [h]),if_neg h]
def LastM (w:World) (b n:Nat) (P:List (Vl' × Value)):Prop:=∃ D:DataW Value,w.ownsMap Tryz.prog 188 heldE b n D ∧ ∀ k:Kk,has D (kKk k) = (lastA P k.1).isSome ∧ ∀ v,lastA P k.1 = some v → ∀ z,D.atKey (kKk k) z = .held v
theorem LastM.made (w:World):LastM (w.alloc (.map #[] 0)) w.heap.size 0 []:=⟨.map [],World.ownsMap_made w _ _ _,fun k=>⟨rfl,fun v h=>by cases h⟩⟩
theorem LastM.lt {w:World} {b n:Nat} {P:List (Vl' × Value)} (h:LastM w b n P):b < w.heap.size:=by
 obtain ⟨D,h1,_⟩:=h
 exact h1.lt
theorem LastM.block {w w':World} {b n:Nat} {P:List (Vl' × Value)} (h:LastM w b n P) (hb:w'.heap[b]? = w.heap[b]?):LastM w' b n P:=by
 obtain ⟨D,⟨es,clock,h1,h2⟩,h3⟩:=h
 exact ⟨D,⟨es,clock,hb.trans h1,h2⟩,h3⟩
theorem LastM.on {w w':World} {b n:Nat} {P:List (Vl' × Value)} (h:LastM w b n P) (hb:Below w.heap.size w w'):LastM w' b n P:=h.block (hb.block b h.lt)
section
variable {w:World} {ops:Array Oper} {rest:List Oper} {o:Oper} {a:Act} {Q:Exit → Act → World → Prop}
theorem LastM.put {b n:Nat} {P:List (Vl' × Value)} (h:LastM w b n P) (hn:n < 1000000000) (x:Vl') (hx:inr x.n ∧ x.s.length ≤ maxLen) (v:Value) :
  ∃ w',(Instr.mapUpdate 184 (.map (some b)) (.agg #[.int .i64 x.n,.string (tx x.s)]) v).run Tryz.prog w = .ok () w' ∧ LastM w' b (n + 1) (P ++ [(x,v)]) ∧ w.grownBy w' (some b):=by
 obtain ⟨D,h1,h2⟩:=h
 have hkey:=kKk_key ⟨keyV x,hx⟩
 obtain ⟨w',hrun,r1,r2⟩:=h1.update kk_law Tryz.underlying184 (by unfold maxLen; omega) (val:=v) (d:=.held v) (ps:=[]) hkey rfl
 refine ⟨w',hrun,⟨_,r1,fun k=>?_⟩,r2⟩
 rw [lastA_snoc]
 by_cases hk:keyV x = k.1
 ·rw [if_pos hk]
  obtain rfl:(⟨keyV x,hx⟩:Kk) = k:=Subtype.ext hk
  refine ⟨by rw [has_put_same h1.isMap (kKk_lit _)]; rfl,fun u hu z=>?_⟩
  rw [atKey_put_same h1.isMap (kKk_lit _)]
  exact congrArg DataW.held (Option.some.inj hu)
 ·rw [if_neg hk]
  have hne:kKk k ≠ kKk ⟨keyV x,hx⟩:=fun e=>hk (congrArg Subtype.val (kKk_inj _ _ e)).symm
  refine ⟨by rw [has_put_other hne]; exact (h2 k).1,fun u hu z=>?_⟩
  rw [atKey_put_other hne]
  exact (h2 k).2 u hu z
theorem zero_val (w:World):(zeroValue 81).run Tryz.prog w = .ok (.agg #[.int .i64 0,.string ⟨#[]⟩,.slice none 0 0]) w:=by kernel_rfl
theorem LastM.look {b n:Nat} {P:List (Vl' × Value)} (h:LastM w b n P) (x:Vl') (hx:inr x.n ∧ x.s.length ≤ maxLen) {v:Value} (hv:lastA P (keyV x) = some v) :
  (Instr.lookup 184 (.map (some b)) (.agg #[.int .i64 x.n,.string (tx x.s)]) false).run Tryz.prog w = .ok v w:=by
 obtain ⟨D,h1,h2⟩:=h
 have hkey:=kKk_key ⟨keyV x,hx⟩
 obtain ⟨v',ps,hrun,hv'⟩:=h1.lookup kk_law Tryz.underlying184 (zero_val w) (zd:=.held (.agg #[.int .i64 0,.string ⟨#[]⟩,.slice none 0 0])) (zp:=[]) rfl hkey
 rw [(h2 ⟨keyV x,hx⟩).2 v hv] at hv'
 unfold heldE at hv'
 simp only [Option.some.injEq,Prod.mk.injEq,DataW.held.injEq] at hv'
 exact hrun.trans (by rw [hv'.1])
end
theorem sz_key:(Tryz.prog.info? 188).map (·.size) = some 2:=by kernel_rfl
set_option maxRecDepth 1000000 in
set_option maxHeartbeats 2000000 in
theorem keyOf_any (v:Vl') (u:Value) (w:World):Calls Tryz.prog 135 #[.agg #[.int .i64 v.n,.string (tx v.s),u]] w fun e w'=>e = .returned (.agg #[.int .i64 v.n,.string (tx v.s)]) ∧ Below w.heap.size w w':=by
 obtain ⟨Y1,Y2,LBY⟩:=two_boxes w (.cells #[.int .i64 v.n,.string (tx v.s),u] 81) (.cells #[.int .i64 v.n,.string (tx v.s)] 188)
 go_enter Tryz.func135,Tryz.ntmps135
 go_wp2
 refine bodyPost_ret (results_cell_row rfl _ _ (w.heap.size + 1) _ _ (0,0) _ rfl Y2 Tryz.underlying188 rfl sz_key) rfl ?_
 exact ⟨rfl,LBY⟩
end Go.Proofs.YtckcojkpghiclaaGreatDoor.T9
namespace Go.Proofs.YtckcojkpghiclaaGreatDoor.T9
set_option maxRecDepth 100000
open Go.RowKit Go.Maps Go.Lib Go.Sort
def keyC (k:Vl'):List Value:=[.int .i64 k.n,.string (tx k.s),.slice none 0 0]
theorem key_len (k:Vl'):(keyC k).length = 3:=rfl
theorem key_one (k:Vl'):∀ v ∈ keyC k,v.oneCell' = true:=by
 intro v hv
 simp only [keyC,List.mem_cons,List.not_mem_nil,or_false] at hv
 rcases hv with rfl | rfl | rfl <;> rfl
def cmpKey (x y:Vl'):Int:=if lessV x y = true then -1 else if lessV y x = true then 1 else 0
theorem lt_key (x y:Vl'):ltOf cmpKey x y = lessV x y:=by
 unfold ltOf cmpKey
 by_cases h1:lessV x y = true
 ·simp [h1]
 ·by_cases h2:lessV y x = true <;> simp [h1,h2]
theorem lv_ntr {x y z:Vl'} (h1:lessV x y = false) (h2:lessV y z = false):lessV x z = false:=by
 cases h3:lessV x z with
 | false=>rfl
 | true =>
  exfalso
  cases h4:lessV y x with
  | true =>
   have:=lessV_trans h4 h3
   rw [h2] at this; cases this
  | false =>
   obtain ⟨e1,e2⟩:=lessV_total h1 h4
   have:lessV y z = lessV x z:=by unfold lessV; rw [e1,e2]
   rw [h2,h3] at this; cases this
theorem swo_key:SWO (ltOf cmpKey) where
 irrefl x:=by rw [lt_key]; exact lv_irr _
 trans x y z h1 h2:=by rw [lt_key] at *; exact lv_tr _ _ _ h1 h2
 ntrans x y z h1 h2:=by
  rw [lt_key] at *
  exact lv_ntr h1 h2
set_option maxRecDepth 1000000 in
set_option maxHeartbeats 4000000 in
theorem less_grow (a b:Vl') (u1 u2:Value) (w:World) :
  Calls Tryz.prog 209 #[.agg #[.int .i64 a.n,.string (tx a.s),u1],.agg #[.int .i64 b.n,.string (tx b.s),u2]] w fun e w'=>e = .returned (.bool (lessV a b)) ∧ ∃ os',w' = grow w os':=by
 unfold lessV
 obtain ⟨n1,hn1⟩:∃ n,a.n = n:=⟨_,rfl⟩
 obtain ⟨n2,hn2⟩:∃ n,b.n = n:=⟨_,rfl⟩
 obtain ⟨s1,hs1⟩:∃ n,a.s = n:=⟨_,rfl⟩
 obtain ⟨s2,hs2⟩:∃ n,b.s = n:=⟨_,rfl⟩
 rw [hn1,hn2,hs1,hs2]
 clear hn1 hn2 hs1 hs2
 by_cases hn:n1 = n2
 ·subst hn
  rw [if_pos rfl]
  go_enter Tryz.func209,Tryz.ntmps209
  go_wp2
  go_ret
  have e1:(tx s1).toList = s1:=by rw [ByteArray.toList_eq,tx_list]
  have e2:(tx s2).toList = s2:=by rw [ByteArray.toList_eq,tx_list]
  exact ⟨by rw [e1,e2]; rfl,_,by rw [alloc_eq_grow,alloc_eq_grow,grow_grow]⟩
 ·rw [if_neg hn]
  go_enter Tryz.func209,Tryz.ntmps209
  go_wp2
  go_ret
  exact ⟨by rfl,_,by rw [alloc_eq_grow,alloc_eq_grow,grow_grow]⟩
theorem grow_on {w:World} {g:Nat} {o:Obj} (h:w.heap[g]? = some o) (os:Array Obj):(grow w os).heap[g]? = some o:=(heap_grow_old w os (box_lt h)).trans h
set_option maxRecDepth 1000000 in
set_option maxHeartbeats 4000000 in
theorem key_clo (x y:Vl') (W:World):Calls Tryz.prog 179 #[.agg (keyC x).toArray,.agg (keyC y).toArray] W fun e w'=>e = .returned (.int .i64 (cmpKey x y)) ∧ ∃ q os',w' = grow (W.drewN q) os':=by
 have H1:=Lib.hid (fun wx=>less_grow x y (.slice none 0 0) (.slice none 0 0) wx)
 have H2:=Lib.hid (fun wx=>less_grow y x (.slice none 0 0) (.slice none 0 0) wx)
 have HC:Hid (cmpKey x y = if lessV x y = true then -1 else if lessV y x = true then 1 else 0):=Lib.hid rfl
 obtain ⟨X1,X2,LBD⟩:=two_boxes W (.cells (keyC x).toArray 81) (.cells (keyC y).toArray 81)
 unfold keyC at *
 obtain ⟨d1,hd1⟩:∃ d,lessV x y = d:=⟨_,rfl⟩
 obtain ⟨d2,hd2⟩:∃ d,lessV y x = d:=⟨_,rfl⟩
 rw [hd1] at H1 HC
 rw [hd2] at H2 HC
 have HX:=Lib.hid (And.intro X1 X2)
 clear X1 X2 LBD hd1 hd2
 cases d1 with
 | true =>
  go_enter Tryz.func179,Tryz.ntmps179
  go_wp2_with fail
  refine (H1.out _).mono ?_
  rintro e w1 ⟨rfl,os1,rfl⟩
  go_wp2
  go_ret
  exact ⟨by rw [HC.out]; rfl,0,_,by rw [alloc_eq_grow,alloc_eq_grow,grow_grow,grow_grow]; rfl⟩
 | false =>
  cases d2
  all_goals
   go_enter Tryz.func179,Tryz.ntmps179
   go_wp2_with fail
   refine (H1.out _).mono ?_
   rintro e w1 ⟨rfl,os1,rfl⟩
   obtain ⟨a0,a1,a2⟩:=bx3 (grow_on HX.out.1 os1)
   obtain ⟨b0,b1,b2⟩:=bx3 (grow_on HX.out.2 os1)
   go_wp2_with fail
   refine (H2.out _).mono ?_
   rintro e w2 ⟨rfl,os2,rfl⟩
   go_wp2
   go_ret
   exact ⟨by rw [HC.out]; rfl,0,_,by rw [alloc_eq_grow,alloc_eq_grow,grow_grow,grow_grow,grow_grow]; rfl⟩
set_option maxHeartbeats 1000000 in
theorem sort_keys (base:Nat) (v:Value) (l:List Vl') (w:World) (hown:w.ownsRow base 81 3 v l.length (l.flatMap keyC)) (hd:l.Pairwise fun a b=>lessV a b = true ∨ lessV b a = true) (hl:l.length ≤ 1000000000) :
  Calls Tryz.prog 178 #[v,.func (.func 179) #[] #[]] w fun e w'=>e = .returned (.tuple #[]) ∧ (∃ d:List Vl',d.length = l.length ∧ (∀ x,x ∈ d ↔ x ∈ l) ∧ Rise lessV d ∧ w'.ownsRow base 81 3 v l.length (d.flatMap keyC)) ∧ w.grownBy w' v.ownBlock:=by
 have hown0:=hown
 obtain ⟨hlen,⟨rfl,hn⟩ | ⟨g,cap,cur,rfl,hgb,hh,hle,hmax,hsz,htake⟩⟩:=hown
 ·refine (Tryz.slices_SortFunc_none_f178 (α:=Vl') none 0 _ w).mono ?_
  rintro e w' ⟨rfl,rfl⟩
  obtain rfl:l = []:=List.eq_nil_of_length_eq_zero hn
  exact ⟨rfl,⟨[],rfl,fun _=>Iff.rfl,List.Pairwise.nil,hown0⟩,World.grownBy.refl _ _⟩
 ·have eg:∀ args w,(callFunc 179 args).run Tryz.prog w = .ok (.enter 179 args) w:=enters_of Tryz.func179 (by kernel_rfl) rfl
  have hcap:cap * 3 = cur.size:=hsz.symm
  have hcon:=Tryz.slices_SortFunc_f178 3 Tryz.isAgg81 Tryz.sizeOf81 keyC key_len key_one cmpKey swo_key 179 #[] g 0 cap l.toArray w eg (fun _ _ _ _ x y=>key_clo x y _) (holds_gen key_len (by omega) hh htake) (Array.getElem?_eq_some_iff.1 hh).1 (by simp; omega)
  rw [show l.toArray.size = l.length by simp] at hcon
  refine hcon.mono ?_
  rintro e w' ⟨rfl,d',n,os,hp,hs,rfl⟩
  have hsize:d'.size = l.length:=by have:=hp.1; simpa using this
  have hperm:d'.toList.Perm l:=by
   have h3:=hp.2.2
   rw [show l.length = d'.size from hsize.symm,Array.extract_size] at h3
   have e4:(l.toArray.extract 0 d'.size) = l.toArray:=by
    rw [hsize,show l.length = l.toArray.size by simp,Array.extract_size]
   rw [e4] at h3
   simpa using h3
  have hd':=(hperm.pairwise_iff (R:=fun a b:Vl'=>lessV a b = true ∨ lessV b a = true) (fun hab=>hab.symm)).2 hd
  have hrise:Rise lessV d'.toList:=by
   refine rise_of_sorted hd' fun i j hi hj hij=>?_
   rw [Array.length_toList] at hi hj
   have:=hs i j (Nat.zero_le _) hij (by omega)
   rw [lt_key,getElem!_pos d' j hj,getElem!_pos d' i hi] at this
   rw [Array.getElem_toList,Array.getElem_toList]
   simpa using this
  obtain ⟨cur',r1,r2,r3,r4⟩:=sorted_gen (n:=n) (d:=d') (os:=os) key_len (by omega) hh (by rw [hsize]; omega)
  rw [hsize] at r3
  refine ⟨rfl,⟨d'.toList,by rw [Array.length_toList,hsize],fun _=>hperm.mem_iff,hrise,⟨?_,.inr ⟨g,cap,cur',rfl,hgb,r1,hle,hmax,by rw [r2]; exact hsz,r3⟩⟩⟩,r4⟩
  rw [fm_len key_len,Array.length_toList,hsize]
end Go.Proofs.YtckcojkpghiclaaGreatDoor.T9
namespace Go.Proofs.YtckcojkpghiclaaGreatDoor.T9
set_option maxRecDepth 100000
open Go.RowKit Go.Maps
structure Vals (B D:Nat) (w:World) (V:List Vl') (vals:List Value):Prop where
 len:vals.length = V.length
 at_:∀ (i:Nat) (v:Vl'),V[i]? = some v → ∃ A c,vals[i]? = some (.agg #[.int .i64 v.n,.string (tx v.s),.slice A v.M.length c]) ∧ VAt (Rd B w) D v [.int .i64 v.n,.string (tx v.s),.slice A v.M.length c]
theorem vals_of {B D:Nat} {w:World} {A:Option Addr} {c:Nat} {V:List Vl'} {xs:List Value} (hs:Sl w A V.length c 3 xs) (hr:Rows (VAt (Rd B w) D) V xs) :
  ∃ vals,Vals B D w V vals ∧ ∀ (k:Nat) v,V[k]? = some v → ∃ ad AM cM,A = some ad ∧ ad.block < w.heap.size ∧ vals[k]? = some (.agg #[.int .i64 v.n,.string (tx v.s),.slice AM v.M.length cM]) ∧ w.cell? (ad.add (k * 3)) = some (.int .i64 v.n) ∧ w.cell? ⟨(ad.add (k * 3)).block,(ad.add (k * 3)).off + 1,none⟩ = some (.string (tx v.s)) ∧ w.cell? ⟨(ad.add (k * 3)).block,(ad.add (k * 3)).off + 2,none⟩ = some (.slice AM v.M.length cM):=by
 have hat:∀ (k:Nat) v,V[k]? = some v → ∃ q:Option Addr × Nat,VAt (Rd B w) D v [.int .i64 v.n,.string (tx v.s),.slice q.1 v.M.length q.2] ∧ ∃ ad,A = some ad ∧ ad.block < w.heap.size ∧ w.cell? (ad.add (k * 3)) = some (.int .i64 v.n) ∧ w.cell? ⟨(ad.add (k * 3)).block,(ad.add (k * 3)).off + 1,none⟩ = some (.string (tx v.s)) ∧ w.cell? ⟨(ad.add (k * 3)).block,(ad.add (k * 3)).off + 2,none⟩ = some (.slice q.1 v.M.length q.2):=by
  intro k v hk
  obtain ⟨ad,x,y,z,rfl,hg,hca,c0,c1,c2⟩:=row3 vAt.len hs hr hk
  obtain ⟨AM,cM,rfl,rfl,rfl⟩:=val_shape hca
  exact ⟨(AM,cM),hca,ad,rfl,hg,c0,c1,c2⟩
 obtain ⟨f,hf⟩:∃ f:Nat → Option Addr × Nat,∀ k v,V[k]? = some v → VAt (Rd B w) D v [.int .i64 v.n,.string (tx v.s),.slice (f k).1 v.M.length (f k).2] ∧ ∃ ad,A = some ad ∧ ad.block < w.heap.size ∧ w.cell? (ad.add (k * 3)) = some (.int .i64 v.n) ∧ w.cell? ⟨(ad.add (k * 3)).block,(ad.add (k * 3)).off + 1,none⟩ = some (.string (tx v.s)) ∧ w.cell? ⟨(ad.add (k * 3)).block,(ad.add (k * 3)).off + 2,none⟩ = some (.slice (f k).1 v.M.length (f k).2):=by
  have hh:∀ k:Nat,∃ q:Option Addr × Nat,∀ v,V[k]? = some v → VAt (Rd B w) D v [.int .i64 v.n,.string (tx v.s),.slice q.1 v.M.length q.2] ∧ ∃ ad,A = some ad ∧ ad.block < w.heap.size ∧ w.cell? (ad.add (k * 3)) = some (.int .i64 v.n) ∧ w.cell? ⟨(ad.add (k * 3)).block,(ad.add (k * 3)).off + 1,none⟩ = some (.string (tx v.s)) ∧ w.cell? ⟨(ad.add (k * 3)).block,(ad.add (k * 3)).off + 2,none⟩ = some (.slice q.1 v.M.length q.2):=by
   intro k
   cases h:V[k]? with
   | none=>exact ⟨(none,0),fun v hv=>by simp at hv⟩
   | some v =>
    obtain ⟨q,hq⟩:=hat k v h
    exact ⟨q,fun v' hv=>by obtain rfl:=Option.some.inj hv; exact hq⟩
  exact ⟨fun k=>Classical.choose (hh k),fun k v hv=>Classical.choose_spec (hh k) v hv⟩
 refine ⟨(List.range V.length).map fun k=>.agg #[.int .i64 (V.getD k ⟨0,[],[]⟩).n,.string (tx (V.getD k ⟨0,[],[]⟩).s),.slice (f k).1 (V.getD k ⟨0,[],[]⟩).M.length (f k).2],⟨by simp,fun i v hv=>?_⟩,fun k v hv=>?_⟩
 ·have hlt:=(List.getElem?_eq_some_iff.1 hv).1
  refine ⟨(f i).1,(f i).2,?_,(hf i v hv).1⟩
  rw [List.getElem?_map,List.getElem?_range hlt]
  simp [hv]
 ·have hlt:=(List.getElem?_eq_some_iff.1 hv).1
  obtain ⟨ad,h1,h2,h3⟩:=(hf k v hv).2
  refine ⟨ad,(f k).1,(f k).2,h1,h2,?_,h3⟩
  rw [List.getElem?_map,List.getElem?_range hlt]
  simp [hv]
theorem cell_kept {w w':World} {b:Nat} (hg:w.grownBy w' (some b)) {a:Addr} {v:Value} (h:w.cell? a = some v) (hne:a.block ≠ b):w'.cell? a = some v :=
 (World.cell?_of_block (hg.block _ (World.block_lt_of_cell? w _ h) (by simpa using hne))).trans h
set_option maxRecDepth 1000000 in
set_option maxHeartbeats 8000000 in
theorem lastOnes_any (B D:Nat) (a:So) (u1 u2:Value) (w:World) (hB:B ≤ w.heap.size) (hs:SAt' (Rd B w) D a [.int .i64 a.no,u1,u2]) (hi:SIn a) (hlen:a.K.length = a.V.length) (hc:cS a ≤ 10000000) :
  Calls Tryz.prog 133 #[.agg #[.int .i64 a.no,u1,u2]] w fun e w'=>∃ vals,e = .returned (.map (some (w.heap.size + 1))) ∧ Vals B D w a.V vals ∧ LastM w' (w.heap.size + 1) a.K.length (a.K.zip vals) ∧ Below w.heap.size w w':=by
 obtain ⟨u3,u4,hu,hk,hv⟩:=hs
 simp only [List.cons.injEq,and_true,true_and] at hu
 obtain ⟨rfl,rfl⟩:=hu
 obtain ⟨A1,c1,xs1,rfl,hs1,hb1,hr1,hn1⟩:=hk.open_
 obtain ⟨A2,c2,xs2,rfl,hs2,hb2,hr2,hn2⟩:=hv.open_
 obtain ⟨vals,hvals,hcells⟩:=vals_of hs2 hr2
 have hln:=cS_len (s:=a)
 have X1:=heap_alloc_new w (.cells #[.int .i64 a.no,.slice A1 a.K.length c1,.slice A2 a.V.length c2] 67)
 have LBD:=below_new w (.cells #[.int .i64 a.no,.slice A1 a.K.length c1,.slice A2 a.V.length c2] 67)
 have hsz:(w.alloc (.cells #[.int .i64 a.no,.slice A1 a.K.length c1,.slice A2 a.V.length c2] 67)).heap.size = w.heap.size + 1:=by simp
 obtain ⟨W0,hW0⟩:∃ W,W = w.alloc (.cells #[.int .i64 a.no,.slice A1 a.K.length c1,.slice A2 a.V.length c2] 67):=⟨_,rfl⟩
 have HS1:=Lib.hid hs1
 have HR1:=Lib.hid hr1
 have HB1:=Lib.hid hb1
 have HB2:=Lib.hid hb2
 have HV:=Lib.hid hvals
 have HC:=Lib.hid hcells
 have HI:=Lib.hid hi
 have HLN:=Lib.hid hlen
 have hmm:=@run_makeMap Tryz.prog
 obtain ⟨x0,x1,x2⟩:=bx3 X1
 clear hs1 hr1 hb1 hb2 hs2 hr2 hvals hcells hi hlen hk hv
 go_enter Tryz.func133,Tryz.ntmps133
 go_wp2_with fail
 rw [← hW0] at X1 LBD hsz ⊢
 have HM0:LastM (W0.alloc (.map #[] 0)) (w.heap.size + 1) 0 []:=hsz ▸ LastM.made W0
 have hBW:Below (w.heap.size + 1) W0 (W0.alloc (.map #[] 0)):=hsz ▸ below_new W0 _
 have hsz1:(W0.alloc (.map #[] 0)).heap.size = w.heap.size + 2:=by simp [hsz]
 clear hW0 x0 x1 x2 hmm
 go_loopw [10] (fun i wr=>∃ k:Nat,i = .int .i64 k ∧ k ≤ a.K.length ∧ LastM wr (w.heap.size + 1) k ((a.K.zip vals).take k) ∧ Below (w.heap.size + 1) W0 wr ∧ w.heap.size + 2 ≤ wr.heap.size) (fun i _=>a.K.length - (intOf i).toNat)
 case atStart=>exact ⟨0,rfl,by omega,HM0,hBW,by omega⟩
 case round =>
  obtain ⟨k,rfl,hk,hm,hbw,hsw⟩:=hrel
  have hbww:Below w.heap.size w wr:=LBD.trans (hbw.mono (by omega))
  have hBw:B ≤ wr.heap.size:=by omega
  have hlo:Lo B w wr:=Lo.of (hbww.mono hB)
  have Y1:=(hbw.block _ (show w.heap.size < w.heap.size + 1 by omega)).trans X1
  by_cases hlt:k < a.K.length
  ·obtain ⟨q,hq⟩:∃ q,a.K[k]? = some q:=⟨_,List.getElem?_eq_getElem hlt⟩
   have hltV:k < a.V.length:=by have:=HLN.out; omega
   obtain ⟨v,hv⟩:∃ v,a.V[k]? = some v:=⟨_,List.getElem?_eq_getElem hltV⟩
   obtain ⟨ad,x,y,z,rfl,hg,hca,c0,e1,e2⟩:=row3 vAt.len (sl_low HS1.out HB1.out hlo) (HR1.out.imp fun a cs h=>VRd.low hlo h) hq
   obtain ⟨AM,cM,rfl,rfl,rfl⟩:=val_shape hca
   obtain ⟨ad2,AV,cV2,hA2,hg2,hval,d0,d1,d2⟩:=HC.out k v hv
   subst hA2
   have hvi:=HI.out.2 q (.inl (List.mem_of_getElem? hq))
   have hblk:(ad2.add (k * 3)).block < B:=by rw [add_same_block]; exact HB2.out ad2 rfl (by omega)
   have N1:=below_new wr (.cells #[.int .i64 q.n,.string (tx q.s),.slice AM q.M.length cM] 81)
   have T1:=heap_alloc_new wr (.cells #[.int .i64 q.n,.string (tx q.s),.slice AM q.M.length cM] 81)
   obtain ⟨W1,hW1⟩:∃ W,W = wr.alloc (.cells #[.int .i64 q.n,.string (tx q.s),.slice AM q.M.length cM] 81):=⟨_,rfl⟩
   rw [← hW1] at N1 T1
   have hs1:W1.heap.size = wr.heap.size + 1:=by rw [hW1]; simp
   have hbW:Below w.heap.size w W1:=hbww.trans (N1.mono hbww.size)
   have HSX:Hid (∀ wx,Below W1.heap.size W1 wx → (wx.cell? ⟨w.heap.size,2,none⟩ = some (.slice (some ad2) a.V.length c2)) ∧ (wx.cell? ⟨wr.heap.size,0,none⟩ = some (.int .i64 q.n) ∧ wx.cell? ⟨wr.heap.size,1,none⟩ = some (.string (tx q.s)) ∧ wx.cell? ⟨wr.heap.size,2,none⟩ = some (.slice AM q.M.length cM)) ∧ (wx.cell? (ad2.add (k * 3)) = some (.int .i64 v.n) ∧ wx.cell? ⟨(ad2.add (k * 3)).block,(ad2.add (k * 3)).off + 1,none⟩ = some (.string (tx v.s)) ∧ wx.cell? ⟨(ad2.add (k * 3)).block,(ad2.add (k * 3)).off + 2,none⟩ = some (.slice AV v.M.length cV2))):=Lib.hid (fun wx hx=>by
    have hbx:Below w.heap.size w wx:=hbW.trans (hx.mono hbW.size)
    exact ⟨(bx3 (box_on (box_on Y1 N1) hx)).2.2,bx3 (box_on T1 hx),cell_on hbx d0,cell_on hbx d1,cell_on hbx d2⟩)
   have hD:Below W1.heap.size W1 W1.drew:=(Below.refl _ _).drew
   have HM:=Lib.hid (hm.on N1)
   have HK:=Lib.hid (fun wx=>keyOf_any q (.slice AM q.M.length cM) wx)
   have hzip:(a.K.zip vals)[k]? = some (q,.agg #[.int .i64 v.n,.string (tx v.s),.slice AV v.M.length cV2]):=by
    rw [List.getElem?_zip_eq_some]
    exact ⟨hq,hval⟩
   have HZ:=Lib.hid (take_snoc hzip)
   have HQ:Hid (inr q.n ∧ q.s.length ≤ maxLen):=Lib.hid ⟨by unfold inr; exact hvi.1.1,by have:=hvi.1.2; unfold maxLen; omega⟩
   have hkb:decide ((k:Int) < (a.V.length:Int)) = true:=decide_eq_true (by omega)
   have hk0:decide ((0:Int) ≤ (k:Int)) = true:=decide_eq_true (by omega)
   have HBX:=Lib.hid (And.intro hbw N1)
   clear hm hq hv hca hval d0 d1 d2 hzip hvi hbw Y1
   go_wp2_with fail
   rw [← hW1]
   clear hW1 c0 e1 e2
   refine wp_region_held_drew (S:=(fun wx=>(wx.cell? ⟨w.heap.size,2,none⟩ = some (.slice (some ad2) a.V.length c2)) ∧ (wx.cell? ⟨wr.heap.size,0,none⟩ = some (.int .i64 q.n) ∧ wx.cell? ⟨wr.heap.size,1,none⟩ = some (.string (tx q.s)) ∧ wx.cell? ⟨wr.heap.size,2,none⟩ = some (.slice AM q.M.length cM)) ∧ (wx.cell? (ad2.add (k * 3)) = some (.int .i64 v.n) ∧ wx.cell? ⟨(ad2.add (k * 3)).block,(ad2.add (k * 3)).off + 1,none⟩ = some (.string (tx v.s)) ∧ wx.cell? ⟨(ad2.add (k * 3)).block,(ad2.add (k * 3)).off + 2,none⟩ = some (.slice AV v.M.length cV2)))) (by kernel_rfl) (HSX.out _ hD) (fun hHeld=>?_)
   refine tk 0 ?_
   refine tk 1 ?_
   refine tk 3 ?_
   refine tk 4 ?_
   refine tk 5 ?_
   refine tk 6 ?_
   refine tk 7 ?_
   refine wpAnyH_ready (rs:=[2]) (by kernel_rfl) (by simp) ?_
   refine AllReadyH.cons rfl (fun K hK=>?_) AllReadyH.nil
   go_simp
   (go_at_call 135; refine (HK.out _).mono ?_; rintro e w3 ⟨rfl,hb3⟩; have L3:=hD.trans hb3; obtain ⟨w4,hrun,hM4,hg4⟩:=(HM.out.on L3).put (by omega) q HQ.out (.agg #[.int .i64 v.n,.string (tx v.s),.slice AV v.M.length cV2]))
   go_wp2_with fail
   refine hK.out _ _ (HSX.out _ L3) (fun hHeld=>?_)
   clear hK K
   refine wpAnyH_ready (rs:=[8]) (by kernel_rfl) (by simp) ?_
   refine AllReadyH.cons rfl (fun K hK=>?_) AllReadyH.nil
   go_simp
   have hS3:=HSX.out _ L3
   have hsz3:=L3.size
   refine hK.out _ _ ⟨cell_kept hg4 hS3.1 (by simp),⟨cell_kept hg4 hS3.2.1.1 (by simp; omega),cell_kept hg4 hS3.2.1.2.1 (by simp; omega),cell_kept hg4 hS3.2.1.2.2 (by simp; omega)⟩,cell_kept hg4 hS3.2.2.1 (by omega),cell_kept hg4 hS3.2.2.2.1 (by simp only; omega),cell_kept hg4 hS3.2.2.2.2 (by simp only; omega)⟩ (fun hHeld=>?_)
   clear hK K
   refine wpAnyH_done (by kernel_rfl) ?_ _
   go_wp2
   rw [HZ.out] at hM4
   refine ⟨⟨k + 1,by go_num,by omega,hM4,HBX.out.1.trans ((HBX.out.2.mono (by omega)).trans ((L3.mono (by omega)).trans (below_own hg4 (Nat.le_refl _) (by omega)))),by have:=hg4.size; omega⟩,by simp [intOf]; omega⟩
  ·obtain rfl:k = a.K.length:=by omega
   go_wp2
   go_ret
   have hzl:(a.K.zip vals).length = a.K.length:=by rw [List.length_zip,HV.out.len,← HLN.out,Nat.min_self]
   rw [List.take_of_length_le (by omega)] at hm
   exact ⟨vals,rfl,HV.out,hm,hbww⟩
def ofKk (k:Kk):Vl':=⟨k.1.1,k.1.2,[]⟩
theorem wf_in {n:Int} (h:(Lit.int .i64 n).wf = true):inr n:=by
 simp only [Lit.wf,Bool.and_eq_true,decide_eq_true_eq] at h
 exact ⟨h.1,h.2⟩
set_option maxRecDepth 100000 in
theorem kk_inv (key:Value) (kl:Lit) (h:Go.keyOf Tryz.prog 188 key = some kl):∃ x:Kk,key = kkVal x.1:=by
 unfold Go.keyOf at h
 rw [Tryz.underlying188] at h
 simp only at h
 split at h
 ·rename_i hc
  rw [Bool.and_eq_true] at hc
  obtain ⟨-,hf⟩:=hc
  cases key with
  | agg cs =>
   obtain ⟨n,hn⟩:=ck_size
   unfold Value.formed at hf
   rw [Tryz.underlying188] at hf
   simp only [kk_cells,beq_iff_eq] at hf
   obtain ⟨c0,c1,rfl⟩:∃ c0 c1,cs = #[c0,c1]:=by
    match cs,hf with
    | ⟨[c0,c1]⟩,_=>exact ⟨c0,c1,rfl⟩
   rw [hn] at h
   unfold Program.keyLits at h
   rw [Tryz.underlying188] at h
   cases c0 <;> try (simp [Value.cells,kk_cells,kk_int,kk_string,Program.keyLits,Tryz.underlying2,Tryz.underlying9] at h; done)
   rename_i q a
   cases c1 <;> try (simp [Value.cells,kk_cells,kk_int,kk_string,Program.keyLits,Tryz.underlying2,Tryz.underlying9] at h; done)
   rename_i s
   by_cases h1:q = .i64 ∧ (Lit.int .i64 a).wf = true
   ·by_cases h2:s.size ≤ maxLen
    ·obtain ⟨rfl,h1⟩:=h1
     exact ⟨⟨(a,s.data.toList),wf_in h1,by rw [Array.length_toList]; exact h2⟩,by unfold kkVal; rw [tx_of]⟩
    ·simp [Value.cells,kk_cells,kk_int,kk_string,Program.keyLits,Tryz.underlying2,Tryz.underlying9,h2] at h
   ·have H1:=Lib.hid h1
    clear h1
    simp [Value.cells,kk_cells,kk_int,kk_string,Program.keyLits,Tryz.underlying2,Tryz.underlying9] at h
    rw [if_neg H1.out] at h
    simp at h
  | _=>unfold Value.formed at hf; rw [Tryz.underlying188] at hf; simp at hf
 ·cases h
structure Came (D:DataW Value) (left:Lit → Bool) (cnt n:Nat) (ks:List Vl'):Prop where
 rest:∀ k:Kk,has D (kKk k) = true → left (kKk k) = true ∨ ofKk k ∈ ks
 came:∀ x ∈ ks,∃ k:Kk,x = ofKk k ∧ has D (kKk k) = true ∧ left (kKk k) = false
 apart:ks.Pairwise fun a b=>lessV a b = true ∨ lessV b a = true
 few:ks.length + cnt ≤ n
theorem ofKk_apart {a b:Kk} (h:a ≠ b):lessV (ofKk a) (ofKk b) = true ∨ lessV (ofKk b) (ofKk a) = true:=by
 cases h1:lessV (ofKk a) (ofKk b) with
 | true=>exact .inl rfl
 | false =>
  cases h2:lessV (ofKk b) (ofKk a) with
  | true=>exact .inr rfl
  | false =>
   obtain ⟨e1,e2⟩:=lessV_total h1 h2
   exact absurd (Subtype.ext (Prod.ext e1 e2)) h
theorem kk_same {k k':Kk}:(kKk k).sameKey (kKk k') = decide (k = k'):=by
 by_cases h:k = k'
 ·subst h; rw [WideAt.sameKey_self (kKk_lit k)]; simp
 ·rw [decide_eq_false h]
  cases hs:(kKk k).sameKey (kKk k') with
  | false=>rfl
  | true=>exact absurd (kKk_inj _ _ (WideAt.sameKey_eq hs)) h
theorem Came.start {D:DataW Value} {n:Nat} (h:size D ≤ n):Came D (has D) (size D) n [] :=
 ⟨fun k hk=>.inl hk,(fun x hx=>absurd hx (by simp)),List.Pairwise.nil,by simpa using h⟩
theorem Came.step {D:DataW Value} {left:Lit → Bool} {cnt cnt' n:Nat} {ks:List Vl'} (h:Came D left cnt n ks) (k:Kk) (hl:left (kKk k) = true) (hD:has D (kKk k) = true) (hc:cnt' < cnt) :
  Came D (fun z=>left z && !z.sameKey (kKk k)) cnt' n (ks ++ [ofKk k]):=by
 refine ⟨fun q hq=>?_,fun x hx=>?_,?_,?_⟩
 ·rcases h.rest q hq with h1 | h1
  ·by_cases e:q = k
   ·right; simp [e]
   ·left
    show (left (kKk q) && !(kKk q).sameKey (kKk k)) = true
    rw [h1,kk_same,decide_eq_false e]; rfl
  ·right; simp [h1]
 ·rcases List.mem_append.1 hx with hx | hx
  ·obtain ⟨q,e,h1,h2⟩:=h.came x hx
   exact ⟨q,e,h1,by show (left (kKk q) && _) = false; rw [h2]; rfl⟩
  ·obtain rfl:x = ofKk k:=by simpa using hx
   exact ⟨k,rfl,hD,by show (left (kKk k) && !(kKk k).sameKey (kKk k)) = false; rw [kk_same]; simp⟩
 ·rw [List.pairwise_append]
  refine ⟨h.apart,List.pairwise_singleton _ _,fun x hx y hy=>?_⟩
  obtain rfl:y = ofKk k:=by simpa using hy
  obtain ⟨q,rfl,_,h2⟩:=h.came x hx
  exact ofKk_apart fun e=>by rw [e,hl] at h2; cases h2
 ·have:=h.few
  simp only [List.length_append,List.length_singleton]
  omega
theorem key_rows {bb D:Nat} {w:World}:∀ {d:List Vl'},(∀ k ∈ d,bare k = k) → Rows (VAt (Ow bb w) D) d (d.flatMap keyC)
 | [],_=>rfl
 | k :: d,h=>by
  refine ⟨keyC k,_,rfl,⟨_,rfl,[],⟨?_,?_⟩,?_⟩,key_rows fun k hk=>h k (by simp [hk])⟩
  all_goals
   have hM:k.M = []:=by have:=h k (by simp); rw [← this]; rfl
   rw [hM]
  ·exact World.ownsRow_nil _ _ _ _
  ·exact Nat.zero_le _
  ·rfl
theorem last_some {P:List (Vl' × Value)} {k:Int × List UInt8}:(lastA P k).isSome = true ↔ ∃ p ∈ P,keyV p.1 = k:=by
 unfold lastA
 rw [Option.isSome_map,List.find?_isSome]
 constructor
 ·rintro ⟨p,hp,h⟩
  exact ⟨p,List.mem_reverse.1 hp,by simpa using h⟩
 ·rintro ⟨p,hp,h⟩
  exact ⟨p,List.mem_reverse.2 hp,by simpa using h⟩
theorem size_le {w:World} {b n:Nat} {D:DataW Value} (h:w.ownsMap Tryz.prog 188 heldE b n D):size D ≤ n:=by
 obtain ⟨es,clock,_,_,hs,rfl⟩:=h
 show ((es.toList.map _).foldr DataW.insert []).length ≤ n
 rw [length_sorted]
 simpa using hs
set_option maxRecDepth 1000000 in
set_option maxHeartbeats 8000000 in
theorem rising_any (b n:Nat) (P:List (Vl' × Value)) (w:World) (h:LastM w b n P) (hn:n ≤ 10000000) (hK:∀ p ∈ P,inr p.1.n ∧ p.1.s.length ≤ maxLen) (bb:Nat) (hbb:bb ≤ w.heap.size) (D0:Nat) :
  Calls Tryz.prog 134 #[.map (some b)] w fun e w'=>∃ v,e = .returned v ∧ LsAt (Ow bb w') 81 3 (VAt (Ow bb w') D0) (risen (P.map (·.1))) v ∧ Below w.heap.size w w':=by
 obtain ⟨D,hown,hD⟩:=h
 obtain ⟨i0,hi,hz0,hz1,hz2⟩:=info_parts info_val
 have hblt:=hown.lt
 have HSZ:=Lib.hid (size_le hown)
 have HDD:=Lib.hid hD
 have HKK:=Lib.hid hK
 clear hD hK
 go_enter Tryz.func134,Tryz.ntmps134
 go_wp2_with (first
  | (at_range; refine wpList_range_own _ rfl _ 184 rfl 188 81 kk_law Tryz.underlying184 _ b n _ rfl hown ?_; intro w0 hrg0 hg0 hs0)
  | fail)
 go_frame
 go_loopw [3] (fun o wr=>∃ (left:Lit → Bool) (cnt:Nat) (ks:List Vl'),wr.ranges Tryz.prog 188 heldE b w.heap.size n D left cnt ∧ Came D left cnt n ks ∧ wr.ownsRow (w.heap.size + 1) 81 3 o ks.length (ks.flatMap keyC) ∧ Below w.heap.size w wr ∧ w.heap.size + 1 ≤ wr.heap.size) (fun _ wr=>wr.rangeLeft b w.heap.size)
 case atStart=>exact ⟨_,_,[],hrg0,Came.start HSZ.out,World.ownsRow_nil _ _ _ _,below_none hg0,by omega⟩
 case round =>
  obtain ⟨left,cnt,ks,hrg,hcm,hrow,hbw,hsw⟩:=hrel
  go_wp2_with (first
   | (at_next; refine wpList_next_ranges _ rfl _ rfl 188 kk_law heldE (fun p:Kk=>kkVal p.1) (fun v:Value=>v) kk_inv (fun v _ _=>⟨v,rfl⟩) b w.heap.size n D left cnt rfl hrg ?_ ?_)
   | fail)
  ·intro hc0 hl0
   have hkl:ks.length ≤ 1000000000:=by have:=hcm.few; omega
   have HS:=Lib.hid (fun wx (hx:wx = wr)=>hx ▸ sort_keys (w.heap.size + 1) u3 ks wr hrow hcm.apart hkl)
   go_wp2_with fail
   refine (HS.out _ rfl).mono ?_
   rintro e w1 ⟨rfl,⟨d,hdl,hdm,hdr,hdo⟩,hg1⟩
   go_wp2
   go_ret
   have hbare:∀ k ∈ d,bare k = k:=fun k hk=>by
    obtain ⟨q,rfl,_⟩:=hcm.came k ((hdm k).1 hk)
    rfl
   have hd:d = risen (P.map (·.1)):=by
    refine srt_is lv_irr lv_tr (lv_tot _) hdr fun x=>?_
    rw [hdm x,List.mem_map]
    constructor
    ·intro hx
     obtain ⟨q,rfl,h1,_⟩:=hcm.came x hx
     rw [(HDD.out q).1,last_some] at h1
     obtain ⟨p,hp,e⟩:=h1
     exact ⟨p.1,List.mem_map_of_mem hp,by unfold bare ofKk; rw [← e]; rfl⟩
    ·rintro ⟨y,hy,rfl⟩
     obtain ⟨p,hp,rfl⟩:=List.mem_map.1 hy
     have hq:=HKK.out p hp
     have h1:has D (kKk ⟨keyV p.1,hq⟩) = true:=by
      rw [(HDD.out _).1,last_some]
      exact ⟨p,hp,rfl⟩
     rcases hcm.rest _ h1 with h2 | h2
     ·rw [hl0] at h2; cases h2
     ·exact h2
   rw [← hd]
   have hown1:LsAt (Ow bb w1) 81 3 (VAt (Ow bb w1) D0) d u3:=⟨_,⟨by rw [hdl]; exact own_less hdo (by omega),by omega⟩,key_rows hbare⟩
   exact ⟨u3,rfl,hown1,hbw.trans (below_row hg1 hrow (by omega) (by omega))⟩
  ·intro xn xs hx1 hx2 v kl y ps w1 cnt1 hkey hlk hv hat hrg1 hlt hg1 hs1 hen
   obtain ⟨k,hk⟩:∃ k:Kk,k = ⟨(xn,xs),hx1,hx2⟩:=⟨_,rfl⟩
   have hkl:kl = kKk k:=by
    rw [hk]
    exact Option.some.inj (hkey.symm.trans (kKk_key ⟨(xn,xs),hx1,hx2⟩))
   subst hkl
   have hcm1:=hcm.step k hlk (has_true_of_atKey hat) hlt
   have hkc:keyC (ofKk k) = [.int .i64 xn,.string (tx xs),.slice none 0 0]:=by rw [hk]; rfl
   have hsw1:w.heap.size + 1 ≤ w1.heap.size:=by omega
   have hrow1:w1.ownsRow (w.heap.size + 1) 81 3 u3 ks.length (ks.flatMap keyC):=own_hi hrow (hi_grown hg1 (by omega))
   have N1:=below_new w1 (.cells #[.int .i64 xn,.string (tx xs)] 188)
   have hz1':(w1.alloc (.cells #[.int .i64 xn,.string (tx xs)] 188)).heap.size = w1.heap.size + 1:=by simp
   have N2:=below_new (w1.alloc (.cells #[.int .i64 xn,.string (tx xs)] 188)) (.cells #[.int .i64 xn,.string (tx xs),.slice none 0 0] 81)
   have HRW:=Lib.hid (own_hi (own_hi hrow1 (hi_below _ N1)) (hi_below _ N2))
   have HN:=Lib.hid (heap_alloc_new (w1.alloc (.cells #[.int .i64 xn,.string (tx xs)] 188)) (.cells #[.int .i64 xn,.string (tx xs),.slice none 0 0] 81))
   have hfew:=hcm1.few
   rw [List.length_append,List.length_singleton] at hfew
   have HC1:=Lib.hid hcm1
   have HRG:=Lib.hid ((hrg1.alloc (.cells #[.int .i64 xn,.string (tx xs)] 188)).alloc (.cells #[.int .i64 xn,.string (tx xs),.slice none 0 0] 81))
   have HRG0:=Lib.hid hrg
   have HKC:=Lib.hid hkc
   have HBW:=Lib.hid (hbw.trans ((below_own hg1 (Nat.le_refl _) hbw.size).trans ((N1.mono (by omega)).trans (N2.mono (by omega)))))
   have HLT:=Lib.hid hlt
   have h1c:∀ u ∈ [Value.int .i64 xn,.string (tx xs),.slice none 0 0],u.oneCell' = true:=fun u hu=>key_one (ofKk k) u (by rw [hkc]; exact hu)
   unfold kkVal at hen
   simp only at hen
   clear hk hcm hcm1 hkc hrow hrow1 hrg hrg1 hat hkey hlt hbw N1 N2 hlk hv hs1
   simp only [kkVal]
   go_wp2_with (first
    | (at_builtin; go_loud (refine wpList_append_lies _ rfl _ _ 65 rfl (w.heap.size + 1) 81 i0 _ 3 48 Tryz.underlying65 hi hz0 hz1 hz2 rfl (by decide) _ ks.length _ rfl HRW.out ⟨w1.heap.size + 1,0,none⟩ 1 1 [.int .i64 xn,.string (tx xs),.slice none 0 0] rfl rfl (World.news_of_block (hz1' ▸ HN.out)) h1c (by decide) (by unfold maxLen; omega) (by omega) (by simp; omega) (w1.heap.size + 2) (by simp) ?_); intro g8 cap8 w8 hown8 hg8 hat8 hlt8)
    | fail)
   have hnb:∀ q,u3.ownBlock = some q → w.heap.size + 1 ≤ q:=fun q hq=>(own_blk HRW.out q hq).1
   have hrg8:=HRG.out.kept hg8 (fun e=>by have:=hnb b e.symm; omega) (fun e=>by have:=hnb _ e.symm; omega)
   have hs8:=hg8.size
   simp only [World.size_alloc] at hs8
   refine ⟨⟨_,cnt1,ks ++ [ofKk k],hrg8,HC1.out,?_,HBW.out.trans (below_row hg8 HRW.out (by omega) (by simp; omega)),?_⟩,?_⟩
   ·rw [List.flatMap_append,List.length_append]
    show w8.ownsRow _ _ _ _ _ (ks.flatMap keyC ++ ([ofKk k].flatMap keyC))
    rw [show [ofKk k].flatMap keyC = keyC (ofKk k) by simp,HKC.out]
    exact hown8
   ·omega
   ·rw [hrg8.left_eq,HRG0.out.left_eq]
    exact HLT.out
end Go.Proofs.YtckcojkpghiclaaGreatDoor.T9
