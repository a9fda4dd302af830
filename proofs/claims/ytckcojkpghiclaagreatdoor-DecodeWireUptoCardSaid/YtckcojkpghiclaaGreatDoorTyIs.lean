/-
 A field that is found by its name,or number; a message by its name: the contracts.
-/
import Derived.Test.YtckcojkpghiclaaGreatDoorTabRes
import Derived.Test.YtckcojkpghiclaaGreatDoorVarMay
import Derived.Test.YtckcojkpghiclaaGreatDoorTrSet
import Derived.Lib.ConvBytes
import Derived.Deep.QuietTactic
import Derived.Test.YtckcojkpghiclaaGreatDoorTabCode
import Derived.Test.YtckcojkpghiclaaGreatDoorTokMath
import Derived.Deep.RegionLaw
import Derived.Deep.RegionHeld3
import Derived.BigQuiet
namespace Go.Proofs.YtckcojkpghiclaaGreatDoor
set_option maxRecDepth 100000
open Go.RowKit Go.Maps
def foundV (o:Option Df):Value:=.tuple #[.agg (DC (o.getD df0)).toArray,.bool o.isSome]
theorem find_first {l:List Df} {p:Df → Bool} {k:Nat} {d:Df} (h:∀ j y,j < k → l[j]? = some y → p y = false) (hd:l[k]? = some d) (hp:p d = true):l.find? p = some d:=by
 rw [List.find?_eq_some_iff_getElem]
 obtain ⟨hk,rfl⟩:=List.getElem?_eq_some_iff.1 hd
 exact ⟨hp,k,hk,rfl,fun j hj=>by rw [h j _ hj (List.getElem?_eq_getElem (by omega))]; rfl⟩
theorem find_none {l:List Df} {p:Df → Bool} (h:∀ j y,j < l.length → l[j]? = some y → p y = false):l.find? p = none:=by
 rw [List.find?_eq_none]
 intro y hy
 obtain ⟨j,hj⟩:=List.mem_iff_getElem?.1 hy
 rw [h j y (List.getElem?_eq_some_iff.1 hj).1 hj]
 simp
theorem clo_no (d:Df) (x:Int) (P:Nat) (W:World) (hc:W.heap[P]? = some (.cells #[.int .i64 x] 3 (0,0))) :
  Calls Tryz.prog 120 #[.agg #[.int .i64 d.no,.string (txt d.name),.int .i64 d.kind,.int .i64 d.ref,.bool d.rep,.int .i64 d.key,.int .i64 d.one],.pointer (some ⟨P,0,none⟩)] W fun e w'=>e = .returned (.bool (d.no == x)) ∧ Below W.heap.size W w':=by
 have c0:=heap_cell hc 0
 simp at c0
 have hlt:=(Array.getElem?_eq_some_iff.1 hc).1
 clear hc
 go_enter Tryz.func120,Tryz.ntmps120
 go_wp2
 go_ret
 exact ⟨rfl,below_new _ _⟩
set_option maxRecDepth 1000000 in
set_option maxHeartbeats 4000000 in
theorem indexI_any (P:Nat) (x:Int) (A:Option Addr) (c:Nat) (l:List Df) (w:World) (hs:Sl w A l.length c 7 (dfv l)) (hc:w.heap[P]? = some (.cells #[.int .i64 x] 3 (0,0))) :
  Calls Tryz.prog 167 #[.slice A l.length c,.func (.func 120) #[] #[.pointer (some ⟨P,0,none⟩)]] w fun e w'=>∃ r:Int,e = .returned (.int .i64 r) ∧ ((r = -1 ∧ l.find? (fun d=>d.no == x) = none) ∨ ∃ (k:Nat) (d:Df),r = k ∧ l[k]? = some d ∧ l.find? (fun d=>d.no == x) = some d) ∧ Below w.heap.size w w':=by
 have hsm:l.length ≤ 9223372036854775807:=by have h1:=hs.le; have h2:=hs.cap; unfold maxLen at h2; omega
 have HS:=Lib.hid hs
 have HC:=Lib.hid hc
 clear hs hc
 go_enter Tryz.func167,Tryz.ntmps167
 go_wp2
 go_loopw [8] (fun i wr=>∃ k:Nat,i = .int .i64 k ∧ k ≤ l.length ∧ (∀ j y,j < k → l[j]? = some y → (y.no == x) = false) ∧ Below w.heap.size w wr) (fun i _=>l.length - (intOf i).toNat)
 case atStart=>exact ⟨0,rfl,by omega,fun j y hj=>by omega,Below.refl _ _⟩
 case round =>
  obtain ⟨k,rfl,hk,herr,hb⟩:=hrel
  have HQ:=Lib.hid herr
  clear herr
  by_cases hlt:k < l.length
  ·obtain ⟨d,hd0⟩:∃ d,l[k]? = some d:=⟨_,List.getElem?_eq_getElem hlt⟩
   obtain ⟨ad,rfl,hg,c0,c1,c2,c3,c4,c5,c6⟩:=dfr_at (HS.out.on hb) hd0
   have HCL:=clo_no d x P wr ((hb.block P (Array.getElem?_eq_some_iff.1 HC.out).1).trans HC.out)
   have HD0:=Lib.hid hd0
   clear hd0
   obtain ⟨v,hv⟩:∃ v,(d.no == x) = v:=⟨_,rfl⟩
   rw [hv] at HCL
   have HV:=Lib.hid hv
   have HCL2:=Lib.hid HCL
   clear hv HCL
   cases v with
   | true =>
    go_wp2_with (go_at_call 120; refine HCL2.out.mono ?_; rintro e w1 ⟨rfl,hb1⟩)
    go_ret
    exact ⟨k,rfl,.inr ⟨k,d,rfl,HD0.out,find_first HQ.out HD0.out HV.out⟩,hb.trans (hb1.mono hb.size)⟩
   | false =>
    go_wp2_with (go_at_call 120; refine HCL2.out.mono ?_; rintro e w1 ⟨rfl,hb1⟩)
    refine ⟨⟨k + 1,by go_num,by omega,fun j y hj hy=>?_,hb.trans (hb1.mono hb.size)⟩,by simp [intOf]; omega⟩
    by_cases hj2:j < k
    ·exact HQ.out j y hj2 hy
    ·obtain rfl:j = k:=by omega
     rw [HD0.out] at hy
     obtain rfl:=Option.some.inj hy
     exact HV.out
  ·obtain rfl:k = l.length:=by omega
   go_wp2
   go_ret
   exact ⟨-1,rfl,.inl ⟨rfl,find_none HQ.out⟩,hb⟩
set_option maxRecDepth 1000000 in
set_option maxHeartbeats 4000000 in
theorem firstI_any (B:Nat) (s:Sc) (vM vE:Value) (m:Int) (P:Nat) (x:Int) (w:World) (hB:B ≤ w.heap.size) (hs:SAt B w s vM vE) (hc:w.heap[P]? = some (.cells #[.int .i64 x] 3 (0,0))) :
  Calls Tryz.prog 119 #[.agg #[vM,vE],.int .i64 m,.func (.func 120) #[] #[.pointer (some ⟨P,0,none⟩)]] w fun e w'=>e = .returned (foundV (byS s m x)) ∧ Below w.heap.size w w':=by
 obtain ⟨xs,ys,⟨A1,q1,rfl,s1,b1⟩,h2,⟨A2,q2,rfl,s2,b2⟩,h4⟩:=hs
 have hb0:Below w.heap.size w ((w.alloc (.cells #[.slice A1 s.M.length q1,.slice A2 s.E.length q2] 25)).alloc (.cells #[.int .i64 0,.string ⟨#[]⟩,.int .i64 0,.int .i64 0,.bool false,.int .i64 0,.int .i64 0] 45)):=below_lit (below_new _ _) _
 have hx0:((w.alloc (.cells #[.slice A1 s.M.length q1,.slice A2 s.E.length q2] 25)).alloc (.cells #[.int .i64 0,.string ⟨#[]⟩,.int .i64 0,.int .i64 0,.bool false,.int .i64 0,.int .i64 0] 45)).heap[w.heap.size]? = some (.cells #[.slice A1 s.M.length q1,.slice A2 s.E.length q2] 25 (0,0)):=((below_new _ _).block _ (by simp)).trans (heap_alloc_new w _)
 have hr0:=heap_second w (.cells #[.slice A1 s.M.length q1,.slice A2 s.E.length q2] 25) (.cells #[.int .i64 0,.string ⟨#[]⟩,.int .i64 0,.int .i64 0,.bool false,.int .i64 0,.int .i64 0] 45)
 have hs0:((w.alloc (.cells #[.slice A1 s.M.length q1,.slice A2 s.E.length q2] 25)).alloc (.cells #[.int .i64 0,.string ⟨#[]⟩,.int .i64 0,.int .i64 0,.bool false,.int .i64 0,.int .i64 0] 45)).heap.size = w.heap.size + 2:=by simp
 have hsm:s.M.length ≤ 9223372036854775807:=by have h1:=s1.le; have h2:=s1.cap; unfold maxLen at h2; omega
 have HM:=Lib.hid s1
 have HMA:=Lib.hid h2
 have HC:=Lib.hid ((hb0.block P (Array.getElem?_eq_some_iff.1 hc).1).trans hc)
 clear s1 h2 s2 h4 hc
 by_cases hm:0 ≤ m ∧ m < s.M.length
 ·obtain ⟨k,rfl⟩:∃ k:Nat,m = k:=⟨m.toNat,by omega⟩
  have hlt:k < s.M.length:=by omega
  obtain ⟨d,hd0⟩:∃ d,s.M[k]? = some d:=⟨_,List.getElem?_eq_getElem hlt⟩
  have hn:byS s (k:Int) x = d.F.find? (fun y=>y.no == x):=by
   have e:msgAt s (k:Int) = some d:=by unfold msgAt; rw [if_neg (by omega),Int.toNat_natCast,hd0]
   unfold byS
   rw [e]
   rfl
  obtain ⟨ad,vF,rfl,hg,hmr,c0,c1⟩:=mdr_at (HM.out.low b1 (Low.below hb0 hB)) (HMA.out.low (Low.below hb0 hB)) hd0
  have HR:=Lib.hid hmr
  obtain ⟨AF,cF,hvF,sF,aF⟩:=id hmr
  subst hvF
  have HIX:=Lib.hid (indexI_any P x AF cF d.F _ sF HC.out)
  have HN:=Lib.hid hn
  have HSF:=Lib.hid sF
  have HD0:=Lib.hid hd0
  clear hm hn hmr sF hd0
  have h1:decide ((k:Int) < 0) = false:=by rw [decide_eq_false_iff_not]; omega
  have h2:decide ((s.M.length:Int) ≤ (k:Int)) = false:=by rw [decide_eq_false_iff_not]; omega
  have h3:decide ((k:Int) ≥ (s.M.length:Int)) = false:=by rw [decide_eq_false_iff_not]; omega
  go_enter Tryz.func119,Tryz.ntmps119
  go_wp2_with fail
  refine HIX.out.mono ?_
  rintro e w1 ⟨r,rfl,hr,hb1⟩
  have hx1:=(hb1.block _ (by rw [hs0]; omega)).trans hx0
  have hr1:=(hb1.block _ (by rw [hs0]; omega)).trans hr0
  have hbw1:=below_then hb0 hb1
  rcases hr with ⟨rfl,hf⟩ | ⟨i,y,rfl,hy,hf⟩
  ·have HF:=Lib.hid (HN.out.trans hf)
   clear hf
   go_wp2_with (refine wpList_store_df rfl _ _ rfl rfl (w.heap.size + 1) _ _ _ _ _ _ _ _ _ _ _ _ _ _ rfl rfl _ hr1 ?_)
   refine bodyPost_ret (results_df1 rfl _ _ (w.heap.size + 1) _ _ _ _ _ _ _ _ (0,0) rfl (setRow_heap _ _ _ _ _ _ hr1)) rfl ?_
   exact ⟨by rw [HF.out]; rfl,below_setRow hbw1 (by omega) _⟩
  ·have HF:=Lib.hid (HN.out.trans hf)
   obtain ⟨ad2,vF2,had,hg2,hmr2,g0,g1⟩:=mdr_at (HM.out.low b1 (Low.below hbw1 hB)) (HMA.out.low (Low.below hbw1 hB)) HD0.out
   obtain rfl:=Option.some.inj had
   have hcc:=(hb1.cell (p:=⟨(ad.add (k * 2)).block,(ad.add (k * 2)).off + 1,none⟩) (by show (ad.add (k * 2)).block < _; rw [add_same_block]; exact hg)).trans c1
   obtain ⟨ad3,had3,hg3,k0,k1,k2,k3,k4,k5,k6⟩:=dfr_at (HSF.out.on hb1) hy
   subst had3
   have y0:=heap_cell hx1 0
   simp at y0
   have hi1:decide ((i:Int) < 0) = false:=by rw [decide_eq_false_iff_not]; omega
   have hil:=(List.getElem?_eq_some_iff.1 hy).1
   clear hf hy g0 g1 hmr2
   go_wp2_with (refine wpList_store_df rfl _ _ rfl rfl (w.heap.size + 1) _ _ _ _ _ _ _ _ _ _ _ _ _ _ rfl rfl _ hr1 ?_)
   refine bodyPost_ret (results_df1 rfl _ _ (w.heap.size + 1) _ _ _ _ _ _ _ _ (0,0) rfl (setRow_heap _ _ _ _ _ _ hr1)) rfl ?_
   exact ⟨by rw [HF.out]; rfl,below_setRow hbw1 (by omega) _⟩
 ·have HN:Hid (byS s m x = none):=Lib.hid (by
   have e:msgAt s m = none:=by
    unfold msgAt
    split
    ·rfl
    ·exact List.getElem?_eq_none (by omega)
   unfold byS
   rw [e]
   rfl)
  obtain ⟨v1,hv1⟩:∃ v,decide (m < 0) = v:=⟨_,rfl⟩
  obtain ⟨v2,hv2⟩:∃ v,decide ((s.M.length:Int) ≤ m) = v:=⟨_,rfl⟩
  have HV:Hid ((v1 || v2) = true):=Lib.hid (by rw [← hv1,← hv2]; simp only [Bool.or_eq_true,decide_eq_true_eq]; omega)
  have hv3:decide (m ≥ (s.M.length:Int)) = v2:=hv2
  clear hm
  cases v1 <;> cases v2
  ·exact absurd HV.out (by simp)
  all_goals
   go_enter Tryz.func119,Tryz.ntmps119
   go_wp2_with (refine wpList_store_df rfl _ _ rfl rfl (w.heap.size + 1) _ _ _ _ _ _ _ _ _ _ _ _ _ _ rfl rfl _ hr0 ?_)
   refine bodyPost_ret (results_df1 rfl _ _ (w.heap.size + 1) _ _ _ _ _ _ _ _ (0,0) rfl (setRow_heap _ _ _ _ _ _ hr0)) rfl ?_
   exact ⟨by rw [HN.out]; rfl,below_setRow hb0 (by omega) _⟩
set_option maxRecDepth 1000000 in
set_option maxHeartbeats 4000000 in
theorem By_any (B:Nat) (s:Sc) (vM vE:Value) (m:Int) (x:Int) (w:World) (hB:B ≤ w.heap.size) (hs:SAt B w s vM vE) :
  Calls Tryz.prog 86 #[.agg #[vM,vE],.int .i64 m,.int .i64 x] w fun e w'=>e = .returned (foundV (byS s m x)) ∧ Below w.heap.size w w':=by
 obtain ⟨xs,ys,⟨A1,q1,hv1,s1,b1⟩,h2,⟨A2,q2,hv2,s2,b2⟩,h4⟩:=id hs
 subst hv1 hv2
 clear s1 h2 s2 h4
 have hb0:Below w.heap.size w (((w.alloc (.cells #[.slice A1 s.M.length q1,.slice A2 s.E.length q2] 25)).alloc (.cells #[.int .i64 x] 3)).alloc (.cells #[.int .i64 0,.string ⟨#[]⟩,.int .i64 0,.int .i64 0,.bool false,.int .i64 0,.int .i64 0] 45)):=below_lit (below_lit (below_new _ _) _) _
 have hc0:(((w.alloc (.cells #[.slice A1 s.M.length q1,.slice A2 s.E.length q2] 25)).alloc (.cells #[.int .i64 x] 3)).alloc (.cells #[.int .i64 0,.string ⟨#[]⟩,.int .i64 0,.int .i64 0,.bool false,.int .i64 0,.int .i64 0] 45)).heap[w.heap.size + 1]? = some (.cells #[.int .i64 x] 3 (0,0)):=((below_new _ _).block _ (by simp)).trans (heap_second w _ _)
 have hr0:(((w.alloc (.cells #[.slice A1 s.M.length q1,.slice A2 s.E.length q2] 25)).alloc (.cells #[.int .i64 x] 3)).alloc (.cells #[.int .i64 0,.string ⟨#[]⟩,.int .i64 0,.int .i64 0,.bool false,.int .i64 0,.int .i64 0] 45)).heap[w.heap.size + 1 + 1]? = some (.cells #[.int .i64 0,.string ⟨#[]⟩,.int .i64 0,.int .i64 0,.bool false,.int .i64 0,.int .i64 0] 45 (0,0)):=by
  have:=heap_second (w.alloc (.cells #[.slice A1 s.M.length q1,.slice A2 s.E.length q2] 25)) (.cells #[.int .i64 x] 3) (.cells #[.int .i64 0,.string ⟨#[]⟩,.int .i64 0,.int .i64 0,.bool false,.int .i64 0,.int .i64 0] 45)
  rw [World.size_alloc] at this
  exact this
 have HF:=Lib.hid (firstI_any B s (.slice A1 s.M.length q1) (.slice A2 s.E.length q2) m (w.heap.size + 1) x _ (Nat.le_trans hB hb0.size) (hs.low (Low.below hb0 hB)) hc0)
 clear hs hc0
 go_enter Tryz.func86,Tryz.ntmps86
 go_wp2_with fail
 refine HF.out.mono ?_
 rintro e w1 ⟨rfl,hb1⟩
 have hr1:=(hb1.block _ (by simp)).trans hr0
 unfold foundV
 simp only [DC]
 go_wp2_with (refine wpList_store_df rfl _ _ rfl rfl (w.heap.size + 1 + 1) _ _ _ _ _ _ _ _ _ _ _ _ _ _ rfl rfl _ hr1 ?_)
 refine bodyPost_ret (results_df1 rfl _ _ (w.heap.size + 1 + 1) _ _ _ _ _ _ _ _ (0,0) rfl (setRow_heap _ _ _ _ _ _ hr1)) rfl ?_
 exact ⟨rfl,below_setRow (below_then hb0 hb1) (by omega) _⟩
end Go.Proofs.YtckcojkpghiclaaGreatDoor
namespace Go.Proofs.YtckcojkpghiclaaGreatDoor.T9
set_option maxRecDepth 100000
open Go.Proofs.YtckcojkpghiclaaGreatDoor.T4
open Go.RowKit Go.Maps
theorem isMap_any (f:Df) (w:World) :
  Calls Tryz.prog 130 #[.agg #[.int .i64 f.no,.string (txt f.name),.int .i64 f.kind,.int .i64 f.ref,.bool f.rep,.int .i64 f.key,.int .i64 f.one]] w fun e w'=>e = .returned (.bool (f.key != -1)) ∧ Below w.heap.size w w':=by
 go_enter Tryz.func130,Tryz.ntmps130
 go_wp2
 go_ret
 exact ⟨rfl,below_new _ _⟩
set_option maxRecDepth 1000000 in
set_option maxHeartbeats 2000000 in
theorem isMany_any (f:Df) (k v:Nat) (w:World) :
  Calls Tryz.prog 175 #[.agg #[.int .i64 f.no,.string (txt f.name),.int .i64 f.kind,.int .i64 f.ref,.bool f.rep,.int .i64 f.key,.int .i64 f.one],.int .i64 k,.int .i64 v] w fun e w'=>e = .returned (.bool (manyB f k v)) ∧ Below w.heap.size w w':=by
 have LBD:=below_new w (dC f)
 have X1:=heap_alloc_new w (dC f)
 have HB:Hid (manyB f k v = if f.key = -1 then (k == 0) && (f.rep || v == 1) else k == v):=Lib.hid rfl
 have H1:=isMap_any f (w.alloc (dC f))
 obtain ⟨d,hd⟩:∃ d,(f.key != -1) = d:=⟨_,rfl⟩
 rw [hd] at H1
 cases d with
 | true =>
  rw [if_neg (by simpa using hd)] at HB
  clear hd
  have HE:Hid ((k == v) = ((k:Int) == (v:Int))):=Lib.hid (by rw [Bool.eq_iff_iff]; simp; omega)
  go_enter Tryz.func175,Tryz.ntmps175
  go_wp2_with (go_at_call 130; refine H1.mono ?_; rintro e w1 ⟨rfl,hb1⟩)
  go_ret
  exact ⟨by rw [HB.out,HE.out]; rfl,below_then LBD hb1⟩
 | false =>
  rw [if_pos (by simpa using hd)] at HB
  clear hd
  have HE:Hid ((k == 0) = ((k:Int) == 0)):=Lib.hid (by rw [Bool.eq_iff_iff]; simp)
  have HV:Hid ((v == 1) = ((v:Int) == 1)):=Lib.hid (by rw [Bool.eq_iff_iff]; simp; omega)
  rw [HE.out,HV.out] at HB
  obtain ⟨d1,hd1⟩:∃ d,((k:Int) == 0) = d:=⟨_,rfl⟩
  obtain ⟨d2,hd2⟩:∃ d,f.rep = d:=⟨_,rfl⟩
  obtain ⟨d3,hd3⟩:∃ d,((v:Int) == 1) = d:=⟨_,rfl⟩
  rw [hd1,hd2,hd3] at HB
  have HX:∀ w1,Below (w.alloc (dC f)).heap.size (w.alloc (dC f)) w1 → w1.cell? ⟨w.heap.size,4,none⟩ = some (.bool d2):=fun w1 hb1=>by
   have:=heap_cell (box_on X1 hb1) 4
   rw [← hd2]
   simpa using this
  have HX:=Lib.hid HX
  clear HE HV hd2
  go_enter Tryz.func175,Tryz.ntmps175
  cases d1 <;> cases d2 <;> cases d3
  all_goals
   go_wp2_with (go_at_call 130; refine H1.mono ?_; rintro e w1 ⟨rfl,hb1⟩; have d4:=HX.out _ hb1)
   go_ret
   exact ⟨by rw [HB.out]; rfl,below_then LBD hb1⟩
theorem below_bytes (w:World) (e:TypeId) (s:ByteArray):Below w.heap.size w (Lib.bytesWorld w e s) :=
 ⟨rfl,rfl,rfl,by rw [Lib.bytesWorld_size]; omega,fun k hk=>Lib.bytesWorld_at_old w e s k hk⟩
theorem bytes_sl (w:World) (e:TypeId) (l:List UInt8) (hl:l.length ≤ maxLen):SlB (Lib.bytesWorld w e (txt l)) (some ⟨w.heap.size,0,none⟩) (grownCap w l.length 0 e) l:=by
 refine ⟨by simp [bs],grownCap_ge w _ 0 e,grownCap_le_maxLen w _ 0 e hl,by simp,fun ad ha _=>?_,fun ad ha k u hu=>?_⟩
 ·obtain rfl:=Option.some.inj ha
  rw [Lib.bytesWorld_size]
  exact Nat.lt_succ_self _
 ·obtain rfl:=Option.some.inj ha
  rw [Addr.add_lit,Nat.zero_add]
  have hk:k < l.length:=by
   have:=(List.getElem?_eq_some_iff.1 hu).1
   simpa [bs] using this
  rw [Lib.bytesWorld_cell w e (txt l) k (by simpa [txt,ByteArray.size] using hk),txt_list]
  rw [← hu]
  simp [bs,hk]
  rfl
set_option maxRecDepth 1000000 in
set_option maxHeartbeats 2000000 in
theorem isUtf_any (l:List UInt8) (hl:l.length ≤ 140737488351232) (w:World) :
  Calls Tryz.prog 203 #[.string (tx l)] w fun e w'=>e = .returned (.bool (utfB l)) ∧ Below w.heap.size w w':=by
 show Calls Tryz.prog 203 #[.string (txt l)] w _
 have hcv:=Lib.run_convert_string_bytes (P:=Tryz.prog) w 9 26 5 (txt l) Tryz.underlying9 Tryz.underlying26 Tryz.underlying5
 rw [txt_size] at hcv
 have hsl:=bytes_sl w 5 l (by unfold maxLen; omega)
 have HF:=Lib.hid (fine_any _ _ l hl 0 l.length _ hsl)
 have hbb:=below_bytes w 5 (txt l)
 have hsz:((txt l).size:Int) = l.length:=by rw [txt_size]
 have HB:Hid (utfB l = fineB l 0 l.length):=Lib.hid rfl
 clear hsl
 go_enter Tryz.func203,Tryz.ntmps203
 go_wp2_with fail
 refine HF.out.mono ?_
 rintro e w1 ⟨rfl,hb1⟩
 go_wp2
 go_ret
 exact ⟨by rw [HB.out]; rfl,below_then hbb hb1⟩
theorem emp_len {α:Type} (l:List α):l.isEmpty = ((l.length:Int) == 0):=by
 cases l with
 | nil=>rfl
 | cons x l=>rw [Bool.eq_iff_iff]; simp; omega
theorem emp_str (l:List UInt8):l.isEmpty = (tx l).toList.isEmpty:=by
 rw [show tx l = txt l from rfl,Lib.toList_data,txt_list]
set_option maxRecDepth 1000000 in
set_option maxHeartbeats 2000000 in
theorem ask1_any (G:Int → Mg → Bool) (r:Int) (v:Vl') (A:Option Addr) (c:Nat) (w:World) (hl:v.s.length ≤ 140737488351232) :
  Calls Tryz.prog 202 #[.agg #[.int .i64 v.n,.string (tx v.s),.slice A v.M.length c]] w fun e w'=>e = .returned (.bool (askG G 7 r v)) ∧ Below w.heap.size w w':=by
 have LBD:=below_new w (.cells #[.int .i64 v.n,.string (tx v.s),.slice A v.M.length c] 81)
 have X1:=heap_alloc_new w (.cells #[.int .i64 v.n,.string (tx v.s),.slice A v.M.length c] 81)
 have HB:Hid (askG G 7 r v = ((v.n == 0) && (utfB v.s && ((v.M.length:Int) == 0)))):=Lib.hid (by unfold askG; rw [if_pos rfl,emp_len])
 have HU:=Lib.hid (isUtf_any v.s hl (w.alloc (.cells #[.int .i64 v.n,.string (tx v.s),.slice A v.M.length c] 81)))
 obtain ⟨d1,hd1⟩:∃ d,(v.n == 0) = d:=⟨_,rfl⟩
 obtain ⟨d2,hd2⟩:∃ d,utfB v.s = d:=⟨_,rfl⟩
 obtain ⟨d3,hd3⟩:∃ d,((v.M.length:Int) == 0) = d:=⟨_,rfl⟩
 rw [hd1,hd2,hd3] at HB
 rw [hd2] at HU
 clear hd2
 cases d1 with
 | false =>
  go_enter Tryz.func202,Tryz.ntmps202
  go_wp2
  go_ret
  exact ⟨by rw [HB.out]; rfl,LBD⟩
 | true =>
  cases d2 <;> cases d3
  all_goals
   go_enter Tryz.func202,Tryz.ntmps202
   go_wp2_with (go_at_call 203; refine HU.out.mono ?_; rintro e w1 ⟨rfl,hb1⟩; have d4:=(bx3 (box_on X1 hb1)).2.2)
   go_ret
   exact ⟨by rw [HB.out]; rfl,below_then LBD hb1⟩
set_option maxRecDepth 1000000 in
set_option maxHeartbeats 2000000 in
theorem ask2_any (G:Int → Mg → Bool) (r:Int) (v:Vl') (A:Option Addr) (c:Nat) (w:World) :
  Calls Tryz.prog 204 #[.agg #[.int .i64 v.n,.string (tx v.s),.slice A v.M.length c]] w fun e w'=>e = .returned (.bool (askG G 8 r v)) ∧ Below w.heap.size w w':=by
 have LBD:=below_new w (.cells #[.int .i64 v.n,.string (tx v.s),.slice A v.M.length c] 81)
 have HB:Hid (askG G 8 r v = ((v.n == 0) && ((v.M.length:Int) == 0))):=Lib.hid (by unfold askG; rw [if_neg (by decide),if_pos rfl,emp_len])
 obtain ⟨d1,hd1⟩:∃ d,(v.n == 0) = d:=⟨_,rfl⟩
 obtain ⟨d3,hd3⟩:∃ d,((v.M.length:Int) == 0) = d:=⟨_,rfl⟩
 rw [hd1,hd3] at HB
 cases d1 <;> cases d3
 all_goals
  go_enter Tryz.func204,Tryz.ntmps204
  go_wp2
  go_ret
  exact ⟨by rw [HB.out]; rfl,LBD⟩
set_option maxRecDepth 1000000 in
set_option maxHeartbeats 2000000 in
theorem ask4_any (G:Int → Mg → Bool) (k r:Int) (h7:k ≠ 7) (h8:k ≠ 8) (h9:k ≠ 9) (v:Vl') (A:Option Addr) (c P:Nat) (w:World) (hP:w.heap[P]? = some (.cells #[.int .i64 k] 3 (0,0))) :
  Calls Tryz.prog 206 #[.agg #[.int .i64 v.n,.string (tx v.s),.slice A v.M.length c],.pointer (some ⟨P,0,none⟩)] w fun e w'=>e = .returned (.bool (askG G k r v)) ∧ Below w.heap.size w w':=by
 have LBD:=below_new w (.cells #[.int .i64 v.n,.string (tx v.s),.slice A v.M.length c] 81)
 have X1:=heap_alloc_new w (.cells #[.int .i64 v.n,.string (tx v.s),.slice A v.M.length c] 81)
 have X0:=bx1 (box_on hP LBD)
 have HB:Hid (askG G k r v = (fitsB k v.n && ((tx v.s).toList.isEmpty && ((v.M.length:Int) == 0)))):=Lib.hid (by unfold askG; rw [if_neg h7,if_neg h8,if_neg h9,emp_str v.s,emp_len v.M])
 have HU:=Lib.hid (fits_any k v.n (w.alloc (.cells #[.int .i64 v.n,.string (tx v.s),.slice A v.M.length c] 81)))
 obtain ⟨d1,hd1⟩:∃ d,fitsB k v.n = d:=⟨_,rfl⟩
 obtain ⟨d2,hd2⟩:∃ d,(tx v.s).toList.isEmpty = d:=⟨_,rfl⟩
 obtain ⟨d3,hd3⟩:∃ d,((v.M.length:Int) == 0) = d:=⟨_,rfl⟩
 rw [hd1,hd2,hd3] at HB
 rw [hd1] at HU
 clear hd1 h7 h8 h9
 cases d1 <;> cases d2 <;> cases d3
 all_goals
  go_enter Tryz.func206,Tryz.ntmps206
  go_wp2_with (go_at_call 207; refine HU.out.mono ?_; rintro e w1 ⟨rfl,hb1⟩; obtain ⟨-,d5,d6⟩:=bx3 (box_on X1 hb1))
  go_ret
  exact ⟨by rw [HB.out]; rfl,below_then LBD hb1⟩
theorem once {P G:Prop} (f:Hid P → G) (h:P):G:=f (Lib.hid h)
def IsH (s:Sc) (d:Nat):Prop:=∀ (B D:Nat) (vM vE:Value) (m:Int) (x:Mg) (u:Value) (w:World),B ≤ w.heap.size → SAt B w s vM vE → MRd B w D x u → MIn x → x.cnt ≤ 10000000 →
 Calls Tryz.prog 89 #[.agg #[vM,vE],.int .i64 m,.agg #[u],.int .i64 d] w fun e w'=>e = .returned (.bool (isB s d m x)) ∧ Below w.heap.size w w'
theorem SAt.lo {B:Nat} {w w':World} {s:Sc} {vM vE:Value} (h:SAt B w s vM vE) (hb:Below w.heap.size w w') (hB:B ≤ w.heap.size):SAt B w' s vM vE:=h.low (Low.below hb hB)
theorem box2' {w:World} {g:Nat} {a b:Value} {t:TypeId} (h:w.heap[g]? = some (.cells #[a,b] t (0,0))):w.cell? ⟨g,0,none⟩ = some a ∧ w.cell? ⟨g,1,none⟩ = some b :=
 ⟨by rw [heap_cell h 0]; rfl,by rw [heap_cell h 1]; rfl⟩
set_option maxRecDepth 1000000 in
set_option maxHeartbeats 4000000 in
theorem ask3_any {s:Sc} {d:Nat} (H:IsH s d) (B D:Nat) (r:Int) (vM vE:Value) (v:Vl') (u:Value) (P1 P2 P3:Nat) (w:World) (hB:B ≤ w.heap.size) (hs:SAt B w s vM vE) (hv:VAt (Rd B w) D v [.int .i64 v.n,.string (tx v.s),u]) (hi:VIn v) (hc:cV v ≤ 10000000)
  (h1:w.heap[P1]? = some (.cells #[vM,vE] 25 (0,0))) (h2:w.heap[P2]? = some (.cells #[.int .i64 r] 3 (0,0))) (h3:w.heap[P3]? = some (.cells #[.int .i64 d] 3 (0,0))) :
  Calls Tryz.prog 205 #[.agg #[.int .i64 v.n,.string (tx v.s),u],.pointer (some ⟨P1,0,none⟩),.pointer (some ⟨P2,0,none⟩),.pointer (some ⟨P3,0,none⟩)] w fun e w'=>e = .returned (.bool (askG (isB s d) 9 r v)) ∧ Below w.heap.size w w':=by
 obtain ⟨u',hu,hl⟩:=hv
 simp only [List.cons.injEq,and_true,true_and] at hu
 subst hu
 obtain ⟨A,c,xs,rfl,hsl,hbl,hr,hn⟩:=hl.open_
 have LBD:=below_new w (.cells #[.int .i64 v.n,.string (tx v.s),.slice A v.M.length c] 81)
 have X1:=heap_alloc_new w (.cells #[.int .i64 v.n,.string (tx v.s),.slice A v.M.length c] 81)
 have Y1:=box_on h1 LBD
 have Y2:=box_on h2 LBD
 have Y3:=box_on h3 LBD
 have HB:Hid (askG (isB s d) 9 r v = ((v.n == 0) && ((tx v.s).toList.isEmpty && oneB (isB s d r) v.M))):=Lib.hid (by unfold askG; rw [if_neg (by decide),if_neg (by decide),if_pos rfl,emp_str])
 obtain ⟨d1,hd1⟩:∃ d,(v.n == 0) = d:=⟨_,rfl⟩
 obtain ⟨d2,hd2⟩:∃ d,(tx v.s).toList.isEmpty = d:=⟨_,rfl⟩
 obtain ⟨d3,hd3⟩:∃ d,((v.M.length:Int) == 1) = d:=⟨_,rfl⟩
 rw [hd1,hd2] at HB
 cases d3 with
 | false =>
  have HM:Hid (oneB (isB s d r) v.M = false):=Lib.hid (oneB_ne (by intro e; rw [e] at hd3; simp at hd3))
  have hx1:=bx3 X1
  clear hsl hbl hr hl hs hi Y1 Y2 Y3
  cases d1 <;> cases d2
  all_goals
   go_enter Tryz.func205,Tryz.ntmps205
   go_wp2_with fail
   go_quiet (fail)
   go_wp2
   go_ret
   exact ⟨by rw [HB.out,HM.out]; rfl,below_draws LBD nq⟩
 | true =>
  have hM1:v.M.length = 1:=by rw [beq_iff_eq] at hd3; omega
  simp only [hM1] at LBD X1 Y1 Y2 Y3 hn ⊢
  obtain ⟨x,hx⟩:∃ x,v.M = [x]:=List.length_eq_one_iff.1 hM1
  have hx0:v.M[0]? = some x:=by rw [hx]; rfl
  have hlo:Lo B w (w.alloc (.cells #[.int .i64 v.n,.string (tx v.s),.slice A 1 c] 81)):=Lo.below LBD hB
  obtain ⟨ad,ux,rfl,hg,hcx,k0⟩:=row1 MAt.len (sl_low hsl hbl hlo) (hr.imp fun a cs h=>MRd.low hlo h) hx0
  rw [add_nothing] at k0
  rw [hx] at HB
  have hcnt:=cnt_le (v:=v) (x:=x) (by rw [hx]; simp)
  have HC:=Lib.hid (fun wx (hw:Below (w.alloc (.cells #[.int .i64 v.n,.string (tx v.s),.slice (some ad) 1 c] 81)).heap.size (w.alloc (.cells #[.int .i64 v.n,.string (tx v.s),.slice (some ad) 1 c] 81)) wx)=>H B D vM vE r x ux wx (Nat.le_trans hB (Nat.le_trans LBD.size hw.size)) (SAt.lo (SAt.lo hs LBD hB) hw (Nat.le_trans hB LBD.size)) (MRd.low (Lo.below hw (Nat.le_trans hB LBD.size)) hcx) (hi.msg (by rw [hx]; simp)) (by omega))
  have hD:Below (w.alloc (.cells #[.int .i64 v.n,.string (tx v.s),.slice (some ad) 1 c] 81)).heap.size (w.alloc (.cells #[.int .i64 v.n,.string (tx v.s),.slice (some ad) 1 c] 81)) (w.alloc (.cells #[.int .i64 v.n,.string (tx v.s),.slice (some ad) 1 c] 81)).drew:=(Below.refl _ _).drew
  obtain ⟨b1,b2⟩:=box2' Y1
  have b3:=bx1 Y2
  have b4:=bx1 Y3
  have hx1:=bx3 X1
  obtain ⟨A1,q1,rfl⟩:∃ A q,vM = .slice A s.M.length q:=by
   obtain ⟨xs,ys,⟨A,q,h,_⟩,_⟩:=hs
   exact ⟨A,q,h⟩
  obtain ⟨A2,q2,rfl⟩:∃ A q,vE = .slice A s.E.length q:=by
   obtain ⟨xs,ys,_,_,⟨A,q,h,_⟩,_⟩:=hs
   exact ⟨A,q,h⟩
  clear hsl hbl hr hl hs hi hcx hx0 hx Y1 Y2 Y3 hlo H h1 h2 h3 hd3 hM1
  cases d1 with
  | false =>
   go_enter Tryz.func205,Tryz.ntmps205
   go_wp2_with fail
   go_quiet (fail)
   go_wp2
   go_ret
   exact ⟨by rw [HB.out]; rfl,below_draws LBD nq⟩
  | true =>
   cases d2 with
   | false =>
    go_enter Tryz.func205,Tryz.ntmps205
    go_wp2_with fail
    go_quiet (fail)
    go_wp2
    go_ret
    exact ⟨by rw [HB.out]; rfl,below_draws LBD nq⟩
   | true =>
    go_enter Tryz.func205,Tryz.ntmps205
    go_wp2_with fail
    have hS:((w.alloc (.cells #[.int .i64 v.n,.string (tx v.s),.slice (some ad) 1 c] 81)).cell? ⟨w.heap.size,0,none⟩ = some (.int .i64 v.n) ∧ (w.alloc (.cells #[.int .i64 v.n,.string (tx v.s),.slice (some ad) 1 c] 81)).cell? ⟨w.heap.size,1,none⟩ = some (.string (tx v.s)) ∧ (w.alloc (.cells #[.int .i64 v.n,.string (tx v.s),.slice (some ad) 1 c] 81)).cell? ⟨w.heap.size,2,none⟩ = some (.slice (some ad) 1 c)):=hx1
    go_region_held3 (fun w'=>(w'.cell? ⟨w.heap.size,0,none⟩ = some (.int .i64 v.n) ∧ w'.cell? ⟨w.heap.size,1,none⟩ = some (.string (tx v.s)) ∧ w'.cell? ⟨w.heap.size,2,none⟩ = some (.slice (some ad) 1 c)) ∧ (w'.cell? ⟨P1,0,none⟩ = some (.slice A1 s.M.length q1) ∧ w'.cell? ⟨P1,1,none⟩ = some (.slice A2 s.E.length q2)) ∧ w'.cell? ⟨P2,0,none⟩ = some (.int .i64 r) ∧ w'.cell? ⟨P3,0,none⟩ = some (.int .i64 d) ∧ w'.cell? ad = some ux)
     (first | exact ⟨hx1,⟨b1,b2⟩,b3,b4,k0⟩ | exact ⟨⟨cell_on hb9 hx1.1,cell_on hb9 hx1.2.1,cell_on hb9 hx1.2.2⟩,⟨cell_on hb9 b1,cell_on hb9 b2⟩,cell_on hb9 b3,cell_on hb9 b4,cell_on hb9 k0⟩ | go_keep)
     ((go_at_call 89; refine (HC.out _ hD).mono ?_; rintro e w9 ⟨rfl,hb9⟩))
    go_wp2
    go_ret
    exact ⟨by rw [HB.out]; rfl,LBD.trans ((hD.trans hb9).mono LBD.size)⟩
def ClosIs (B D:Nat) (w:World) (c:Value) (p:Vl' → Bool):Prop:=∃ (fn:FuncId) (caps:Array Value),c = .func (.func fn) #[] caps ∧ (∀ args w,(callFunc fn args).run Tryz.prog w = .ok (.enter fn args) w) ∧
 ∀ (a:Vl') (u:Value) (wr:World),Below w.heap.size w wr → VAt (Rd B wr) D a [.int .i64 a.n,.string (tx a.s),u] → VIn a → cV a ≤ 10000000 → Calls Tryz.prog fn (#[.agg #[.int .i64 a.n,.string (tx a.s),u]] ++ caps) wr fun e w'=>e = .returned (.bool (p a)) ∧ Below wr.heap.size wr w'
theorem val_shape {B D:Nat} {w:World} {a:Vl'} {x y z:Value} (h:VAt (Rd B w) D a [x,y,z]):∃ A c,x = .int .i64 a.n ∧ y = .string (tx a.s) ∧ z = .slice A a.M.length c:=by
 obtain ⟨u,hu,hl⟩:=h
 simp only [List.cons.injEq,and_true] at hu
 obtain ⟨rfl,rfl,rfl⟩:=hu
 obtain ⟨A,c,_,rfl,-⟩:=hl.open_
 exact ⟨A,c,rfl,rfl,rfl⟩
theorem four_new (w:World) (o1 o2 o3 o4:Obj):((((w.alloc o1).alloc o2).alloc o3).alloc o4).heap[w.heap.size]? = some o1 ∧ ((((w.alloc o1).alloc o2).alloc o3).alloc o4).heap[w.heap.size + 1]? = some o2 ∧ ((((w.alloc o1).alloc o2).alloc o3).alloc o4).heap[w.heap.size + 2]? = some o3 ∧ ((((w.alloc o1).alloc o2).alloc o3).alloc o4).heap[w.heap.size + 3]? = some o4 ∧ Below w.heap.size w ((((w.alloc o1).alloc o2).alloc o3).alloc o4):=by
 have e2:(w.alloc o1).heap.size = w.heap.size + 1:=by simp
 have e3:((w.alloc o1).alloc o2).heap.size = w.heap.size + 2:=by simp
 have e4:(((w.alloc o1).alloc o2).alloc o3).heap.size = w.heap.size + 3:=by simp
 refine ⟨box_on (box_on (box_on (heap_alloc_new w o1) (below_new _ _)) (below_new _ _)) (below_new _ _),e2 ▸ box_on (box_on (heap_alloc_new (w.alloc o1) o2) (below_new _ _)) (below_new _ _),e3 ▸ box_on (heap_alloc_new ((w.alloc o1).alloc o2) o3) (below_new _ _),e4 ▸ heap_alloc_new (((w.alloc o1).alloc o2).alloc o3) o4,below_then (below_then (below_then (below_new _ _) (below_new _ _)) (below_new _ _)) (below_new _ _)⟩
set_option maxRecDepth 1000000 in
set_option maxHeartbeats 4000000 in
theorem asks_any {s:Sc} {d:Nat} (H:IsH s d) (B D:Nat) (kind r:Int) (vM vE:Value) (w:World) (hB:B ≤ w.heap.size) (hs:SAt B w s vM vE) :
  Calls Tryz.prog 177 #[.agg #[vM,vE],.int .i64 kind,.int .i64 r,.int .i64 d] w fun e w'=>∃ c,e = .returned c ∧ ClosIs B D w' c (askG (isB s d) kind r) ∧ Below w.heap.size w w':=by
 obtain ⟨X1,X2,X3,X4,LBD⟩:=four_new w (.cells #[vM,vE] 25) (.cells #[.int .i64 kind] 3) (.cells #[.int .i64 r] 3) (.cells #[.int .i64 d] 3)
 have HX:=Lib.hid (And.intro X1 (And.intro X2 (And.intro X3 X4)))
 have hk:=bx1 X2
 have HS:=Lib.hid hs
 have HH:=Lib.hid H
 clear X1 X2 X3 X4 hs H
 by_cases h7:kind = 7
 ·subst h7
  go_enter Tryz.func177,Tryz.ntmps177
  go_wp2
  go_ret
  refine ⟨_,rfl,⟨_,_,rfl,enters_of Tryz.func202 (by kernel_rfl) rfl,fun a u wr hw hv hi hc=>?_⟩,LBD⟩
  obtain ⟨A,c,-,-,rfl⟩:=val_shape hv
  exact ask1_any _ _ _ _ _ _ hi.1.2
 by_cases h8:kind = 8
 ·subst h8
  clear h7
  go_enter Tryz.func177,Tryz.ntmps177
  go_wp2
  go_ret
  refine ⟨_,rfl,⟨_,_,rfl,enters_of Tryz.func204 (by kernel_rfl) rfl,fun a u wr hw hv hi hc=>?_⟩,LBD⟩
  obtain ⟨A,c,-,-,rfl⟩:=val_shape hv
  exact ask2_any _ _ _ _ _ _
 by_cases h9:kind = 9
 ·subst h9
  clear h7 h8
  go_enter Tryz.func177,Tryz.ntmps177
  go_wp2
  go_ret
  refine ⟨_,rfl,⟨_,_,rfl,enters_of Tryz.func205 (by kernel_rfl) rfl,fun a u wr hw hv hi hc=>?_⟩,LBD⟩
  obtain ⟨x1,x2,x3,x4⟩:=HX.out
  exact ask3_any HH.out B D r vM vE a u _ _ _ wr (Nat.le_trans hB (Nat.le_trans LBD.size hw.size)) (SAt.lo (SAt.lo HS.out LBD hB) hw (Nat.le_trans hB LBD.size)) hv hi hc (box_on x1 hw) (box_on x3 hw) (box_on x4 hw)
 have n7:(kind == 7) = false:=beq_eq_false_iff_ne.2 h7
 have n8:(kind == 8) = false:=beq_eq_false_iff_ne.2 h8
 have n9:(kind == 9) = false:=beq_eq_false_iff_ne.2 h9
 go_enter Tryz.func177,Tryz.ntmps177
 go_wp2
 go_ret
 refine ⟨_,rfl,⟨_,_,rfl,enters_of Tryz.func206 (by kernel_rfl) rfl,fun a u wr hw hv hi hc=>?_⟩,LBD⟩
 obtain ⟨x1,x2,x3,x4⟩:=HX.out
 obtain ⟨A,c,-,-,rfl⟩:=val_shape hv
 exact ask4_any _ _ _ h7 h8 h9 _ _ _ _ _ (box_on x2 hw)
set_option maxRecDepth 1000000 in
set_option maxHeartbeats 4000000 in
theorem all_any (B D:Nat) (p:Vl' → Bool) (l:List Vl') (u c:Value) (w:World) (hB:B ≤ w.heap.size) (hl:LsAt (Rd B w) 81 3 (VAt (Rd B w) D) l u) (hc:ClosIs B D w c p) (hi:∀ v ∈ l,VIn v) (hcn:∀ v ∈ l,cV v ≤ 10000000) :
  Calls Tryz.prog 176 #[u,c] w fun e w'=>e = .returned (.bool (l.all p)) ∧ Below w.heap.size w w':=by
 obtain ⟨A,cp,xs,rfl,hs,hb,hr,hn⟩:=hl.open_
 obtain ⟨fn,caps,rfl,hent,hcl⟩:=hc
 have HS:=Lib.hid hs
 have HR:=Lib.hid hr
 have HBB:=Lib.hid hb
 have HC:=Lib.hid hcl
 have HI:=Lib.hid hi
 have HN:=Lib.hid hcn
 clear hs hr hl hb hcl hi hcn
 go_enter Tryz.func176,Tryz.ntmps176
 go_wp2
 go_loopw [9] (fun i wr=>∃ k:Nat,i = .int .i64 k ∧ k ≤ l.length ∧ (l.take k).all p = true ∧ Below w.heap.size w wr) (fun i _=>l.length - (intOf i).toNat)
 case atStart=>exact ⟨0,rfl,by omega,rfl,Below.refl _ _⟩
 case round =>
  obtain ⟨k,rfl,hk,hall,hbw⟩:=hrel
  by_cases hlt:k < l.length
  ·obtain ⟨a,ha⟩:∃ a,l[k]? = some a:=⟨_,List.getElem?_eq_getElem hlt⟩
   obtain ⟨ad,x,y,z,rfl,hg,hca,c0,c1,c2⟩:=row3 vAt.len (sl_low HS.out HBB.out (Lo.below hbw hB)) (HR.out.imp fun a cs h=>VRd.low (Lo.below hbw hB) h) ha
   obtain ⟨AM,cM,rfl,rfl,rfl⟩:=val_shape hca
   have hmem:=List.mem_of_getElem? ha
   have N1:=below_new wr (.cells #[.int .i64 a.n,.string (tx a.s),.slice AM a.M.length cM] 81)
   have hbw2:=below_then hbw N1
   have HCA:=Lib.hid (HC.out a _ _ hbw2 (VRd.low (Lo.below N1 (Nat.le_trans hB hbw.size)) hca) (HI.out a hmem) (HN.out a hmem))
   have HT:Hid ((l.take (k + 1)).all p = ((l.take k).all p && p a)):=Lib.hid (by rw [List.take_add_one,ha]; simp)
   have HM:Hid (p a = false → l.all p = false):=Lib.hid (fun h=>by rw [List.all_eq_false]; exact ⟨a,hmem,by simp [h]⟩)
   have HAL:=Lib.hid hall
   clear hca ha hmem hall
   obtain ⟨d,hd⟩:∃ d,p a = d:=⟨_,rfl⟩
   rw [hd] at HCA HT HM
   clear hd
   cases d with
   | true =>
    go_wp2_with fail
    refine HCA.out.mono ?_
    rintro e w2 ⟨rfl,hb2⟩
    go_wp2
    refine ⟨⟨k + 1,by go_num,by omega,?_,below_then hbw2 hb2⟩,by simp [intOf]; omega⟩
    rw [HT.out,HAL.out]; rfl
   | false =>
    go_wp2_with fail
    refine HCA.out.mono ?_
    rintro e w2 ⟨rfl,hb2⟩
    go_wp2
    go_ret
    exact ⟨by rw [HM.out (by trivial)]; rfl,below_then hbw2 hb2⟩
  ·obtain rfl:k = l.length:=by omega
   rw [List.take_length] at hall
   go_wp2
   go_ret
   exact ⟨by rw [hall]; rfl,hbw⟩
set_option maxRecDepth 1000000 in
set_option maxHeartbeats 8000000 in
theorem fills_any {s:Sc} {d:Nat} (H:IsH s d) (B D:Nat) (A1 A2:Option Addr) (q1 q2:Nat) (f:Df) (t:So) (A3 A4:Option Addr) (q3 q4:Nat) (w:World) (hB:B ≤ w.heap.size) (hs:SAt B w s (.slice A1 s.M.length q1) (.slice A2 s.E.length q2)) (ht:SAt' (Rd B w) D t [.int .i64 t.no,.slice A3 t.K.length q3,.slice A4 t.V.length q4]) (hi:SIn t) (hc:cS t ≤ 10000000) :
  Calls Tryz.prog 129 #[.agg #[.slice A1 s.M.length q1,.slice A2 s.E.length q2],.agg #[.int .i64 f.no,.string (txt f.name),.int .i64 f.kind,.int .i64 f.ref,.bool f.rep,.int .i64 f.key,.int .i64 f.one],.agg #[.int .i64 t.no,.slice A3 t.K.length q3,.slice A4 t.V.length q4],.int .i64 d] w fun e w'=>e = .returned (.bool (fillG (isB s d) f t)) ∧ Below w.heap.size w w':=by
 obtain ⟨T1,T2,T3,L3⟩:=three_boxes w (.cells #[.slice A1 s.M.length q1,.slice A2 s.E.length q2] 25) (dC f) (.cells #[.int .i64 t.no,.slice A3 t.K.length q3,.slice A4 t.V.length q4] 67)
 obtain ⟨W3,hW3⟩:∃ W,W = (((w.alloc (.cells #[.slice A1 s.M.length q1,.slice A2 s.E.length q2] 25)).alloc (dC f)).alloc (.cells #[.int .i64 t.no,.slice A3 t.K.length q3,.slice A4 t.V.length q4] 67)):=⟨_,rfl⟩
 obtain ⟨u3,u4,hu,hK,hV⟩:=ht
 simp only [List.cons.injEq,and_true,true_and] at hu
 obtain ⟨rfl,rfl⟩:=hu
 rw [← hW3] at T1 T2 T3 L3
 have hBW:B ≤ W3.heap.size:=Nat.le_trans hB L3.size
 have HS:=Lib.hid (fun wx (h:Below W3.heap.size W3 wx)=>SAt.lo (SAt.lo hs L3 hB) h hBW)
 have HKK:=Lib.hid (fun wx (h:Below W3.heap.size W3 wx)=>(hK.low (Lo.below L3 hB) fun a cs h=>VRd.low (Lo.below L3 hB) h).low (Lo.below h hBW) fun a cs hh=>VRd.low (Lo.below h hBW) hh)
 have HVV:=Lib.hid (fun wx (h:Below W3.heap.size W3 wx)=>(hV.low (Lo.below L3 hB) fun a cs h=>VRd.low (Lo.below L3 hB) h).low (Lo.below h hBW) fun a cs hh=>VRd.low (Lo.below h hBW) hh)
 have HSX:Hid (∀ wx,Below W3.heap.size W3 wx → (wx.cell? ⟨w.heap.size,0,none⟩ = some (.slice A1 s.M.length q1) ∧ wx.cell? ⟨w.heap.size,1,none⟩ = some (.slice A2 s.E.length q2)) ∧ (wx.cell? ⟨w.heap.size + 1,0,none⟩ = some (.int .i64 f.no) ∧ wx.cell? ⟨w.heap.size + 1,1,none⟩ = some (.string (txt f.name)) ∧ wx.cell? ⟨w.heap.size + 1,2,none⟩ = some (.int .i64 f.kind) ∧ wx.cell? ⟨w.heap.size + 1,3,none⟩ = some (.int .i64 f.ref) ∧ wx.cell? ⟨w.heap.size + 1,4,none⟩ = some (.bool f.rep) ∧ wx.cell? ⟨w.heap.size + 1,5,none⟩ = some (.int .i64 f.key) ∧ wx.cell? ⟨w.heap.size + 1,6,none⟩ = some (.int .i64 f.one)) ∧ (wx.cell? ⟨w.heap.size + 2,0,none⟩ = some (.int .i64 t.no) ∧ wx.cell? ⟨w.heap.size + 2,1,none⟩ = some (.slice A3 t.K.length q3) ∧ wx.cell? ⟨w.heap.size + 2,2,none⟩ = some (.slice A4 t.V.length q4))):=Lib.hid (fun wx h=>by
  have y1:=box_on T1 h
  have y2:=box_on T2 h
  have y3:=box_on T3 h
  refine ⟨box2' y1,⟨?_,?_,?_,?_,?_,?_,?_⟩,bx3 y3⟩
  ·rw [heap_cell y2 0]; rfl
  ·rw [heap_cell y2 1]; rfl
  ·rw [heap_cell y2 2]; rfl
  ·rw [heap_cell y2 3]; rfl
  ·rw [heap_cell y2 4]; rfl
  ·rw [heap_cell y2 5]; rfl
  ·rw [heap_cell y2 6]; rfl)
 have hD:Below W3.heap.size W3 W3.drew:=(Below.refl _ _).drew
 have hcv:∀ v,v ∈ t.K ∨ v ∈ t.V → cV v ≤ 10000000:=fun v hv=>by have:=cV_le hv; omega
 have HM:=Lib.hid (fun wx=>isMany_any f t.K.length t.V.length wx)
 have HA1:=Lib.hid (fun wx (h:Below W3.heap.size W3 wx)=>asks_any H B D f.key 0 (.slice A1 s.M.length q1) (.slice A2 s.E.length q2) wx (Nat.le_trans hBW h.size) (HS.out wx h))
 have HA2:=Lib.hid (fun wx (h:Below W3.heap.size W3 wx)=>asks_any H B D f.kind f.ref (.slice A1 s.M.length q1) (.slice A2 s.E.length q2) wx (Nat.le_trans hBW h.size) (HS.out wx h))
 have HL1:=Lib.hid (fun c wx (h:Below W3.heap.size W3 wx) (hc:ClosIs B D wx c (askG (isB s d) f.key 0))=>all_any B D (askG (isB s d) f.key 0) t.K (.slice A3 t.K.length q3) c wx (Nat.le_trans hBW h.size) (HKK.out wx h) hc (fun v hv=>hi.val (.inl hv)) fun v hv=>hcv v (.inl hv))
 have HL2:=Lib.hid (fun c wx (h:Below W3.heap.size W3 wx) (hc:ClosIs B D wx c (askG (isB s d) f.kind f.ref))=>all_any B D (askG (isB s d) f.kind f.ref) t.V (.slice A4 t.V.length q4) c wx (Nat.le_trans hBW h.size) (HVV.out wx h) hc (fun v hv=>hi.val (.inr hv)) fun v hv=>hcv v (.inr hv))
 have HB:Hid (fillG (isB s d) f t = (manyB f t.K.length t.V.length && (t.K.all (askG (isB s d) f.key 0) && t.V.all (askG (isB s d) f.kind f.ref)))):=Lib.hid rfl
 have HL3:=Lib.hid L3
 obtain ⟨m1,hm1⟩:∃ b,manyB f t.K.length t.V.length = b:=⟨_,rfl⟩
 obtain ⟨k1,hk1⟩:∃ b,t.K.all (askG (isB s d) f.key 0) = b:=⟨_,rfl⟩
 obtain ⟨v1,hv1⟩:∃ b,t.V.all (askG (isB s d) f.kind f.ref) = b:=⟨_,rfl⟩
 rw [hm1,hk1,hv1] at HB
 rw [hm1] at HM
 rw [hk1] at HL1
 rw [hv1] at HL2
 clear hm1 hk1 hv1 H hs hi hc hcv hK hV T1 T2 T3 L3
 cases m1 with
 | false =>
  go_enter Tryz.func129,Tryz.ntmps129
  go_wp2_with fail
  rw [← hW3]
  clear hW3
  refine wp_region_held_drew (S:=(fun w'=>(w'.cell? ⟨w.heap.size,0,none⟩ = some (.slice A1 s.M.length q1) ∧ w'.cell? ⟨w.heap.size,1,none⟩ = some (.slice A2 s.E.length q2)) ∧ (w'.cell? ⟨w.heap.size + 1,0,none⟩ = some (.int .i64 f.no) ∧ w'.cell? ⟨w.heap.size + 1,1,none⟩ = some (.string (txt f.name)) ∧ w'.cell? ⟨w.heap.size + 1,2,none⟩ = some (.int .i64 f.kind) ∧ w'.cell? ⟨w.heap.size + 1,3,none⟩ = some (.int .i64 f.ref) ∧ w'.cell? ⟨w.heap.size + 1,4,none⟩ = some (.bool f.rep) ∧ w'.cell? ⟨w.heap.size + 1,5,none⟩ = some (.int .i64 f.key) ∧ w'.cell? ⟨w.heap.size + 1,6,none⟩ = some (.int .i64 f.one)) ∧ (w'.cell? ⟨w.heap.size + 2,0,none⟩ = some (.int .i64 t.no) ∧ w'.cell? ⟨w.heap.size + 2,1,none⟩ = some (.slice A3 t.K.length q3) ∧ w'.cell? ⟨w.heap.size + 2,2,none⟩ = some (.slice A4 t.V.length q4)))) (by kernel_rfl) (HSX.out _ hD) (fun hHeld=>?_)
  refine wpAnyH_take (i:=0) (oi:={ dst:=some 9,op:=Go.Op.load 45 (Go.Operand.tmp 5),type:=45,pos:="typed.go:79",after:=_,guard:=none }) (v:=?_) rfl (by kernel_rfl) (by kernel_rfl) (by kernel_rfl) (fun _ _ _ h=>h) (Or.inl ⟨by rfl,?_⟩) hHeld ?_
  rotate_left
  ·intro w hSw
   (try dsimp only at hSw)
   go_simp
   all_goals with_reducible rfl
  (try simp only [Act.put,List.setIfInBounds_toArray,List.set_cons_zero,List.set_cons_succ])
  refine wpAnyH_take (i:=1) (oi:={ dst:=some 10,op:=Go.Op.fieldAddr 67 (Go.Operand.tmp 6) 1,type:=0,pos:="typed.go:79",after:=_,guard:=none }) (v:=?_) rfl (by kernel_rfl) (by kernel_rfl) (by kernel_rfl) (fun _ _ _ h=>h) (Or.inl ⟨by rfl,?_⟩) hHeld ?_
  rotate_left
  ·intro w hSw
   (try dsimp only at hSw)
   go_simp
   all_goals with_reducible rfl
  (try simp only [Act.put,List.setIfInBounds_toArray,List.set_cons_zero,List.set_cons_succ])
  refine wpAnyH_take (i:=2) (oi:={ dst:=some 11,op:=Go.Op.load 65 (Go.Operand.tmp 10),type:=65,pos:="typed.go:79",after:=_,guard:=none }) (v:=?_) rfl (by kernel_rfl) (by kernel_rfl) (by kernel_rfl) (fun _ _ _ h=>h) (Or.inl ⟨by rfl,?_⟩) hHeld ?_
  rotate_left
  ·intro w hSw
   (try dsimp only at hSw)
   go_simp
   all_goals with_reducible rfl
  (try simp only [Act.put,List.setIfInBounds_toArray,List.set_cons_zero,List.set_cons_succ])
  refine wpAnyH_take (i:=3) (oi:={ dst:=some 12,op:=Go.Op.call { callee:=Go.Callee.builtin Go.Builtin.len,args:=#[Go.Operand.tmp 11],argTypes:=#[65] },type:=3,pos:="typed.go:79",after:=_,guard:=none }) (v:=?_) rfl (by kernel_rfl) (by kernel_rfl) (by kernel_rfl) (fun _ _ _ h=>h) (Or.inl ⟨by rfl,?_⟩) hHeld ?_
  rotate_left
  ·intro w hSw
   (try dsimp only at hSw)
   go_simp
   all_goals with_reducible rfl
  (try simp only [Act.put,List.setIfInBounds_toArray,List.set_cons_zero,List.set_cons_succ])
  refine wpAnyH_take (i:=4) (oi:={ dst:=some 13,op:=Go.Op.fieldAddr 67 (Go.Operand.tmp 6) 2,type:=0,pos:="typed.go:79",after:=_,guard:=none }) (v:=?_) rfl (by kernel_rfl) (by kernel_rfl) (by kernel_rfl) (fun _ _ _ h=>h) (Or.inl ⟨by rfl,?_⟩) hHeld ?_
  rotate_left
  ·intro w hSw
   (try dsimp only at hSw)
   go_simp
   all_goals with_reducible rfl
  (try simp only [Act.put,List.setIfInBounds_toArray,List.set_cons_zero,List.set_cons_succ])
  refine wpAnyH_take (i:=5) (oi:={ dst:=some 14,op:=Go.Op.load 65 (Go.Operand.tmp 13),type:=65,pos:="typed.go:79",after:=_,guard:=none }) (v:=?_) rfl (by kernel_rfl) (by kernel_rfl) (by kernel_rfl) (fun _ _ _ h=>h) (Or.inl ⟨by rfl,?_⟩) hHeld ?_
  rotate_left
  ·intro w hSw
   (try dsimp only at hSw)
   go_simp
   all_goals with_reducible rfl
  (try simp only [Act.put,List.setIfInBounds_toArray,List.set_cons_zero,List.set_cons_succ])
  refine wpAnyH_take (i:=6) (oi:={ dst:=some 15,op:=Go.Op.call { callee:=Go.Callee.builtin Go.Builtin.len,args:=#[Go.Operand.tmp 14],argTypes:=#[65] },type:=3,pos:="typed.go:79",after:=_,guard:=none }) (v:=?_) rfl (by kernel_rfl) (by kernel_rfl) (by kernel_rfl) (fun _ _ _ h=>h) (Or.inl ⟨by rfl,?_⟩) hHeld ?_
  rotate_left
  ·intro w hSw
   (try dsimp only at hSw)
   go_simp
   all_goals with_reducible rfl
  (try simp only [Act.put,List.setIfInBounds_toArray,List.set_cons_zero,List.set_cons_succ])
  refine wpAnyH_ready (rs:=[7]) (by kernel_rfl) (by simp) ?_
  refine AllReadyH.cons (o:={ dst:=some 16,op:=Go.Op.call { callee:=Go.Callee.value (Go.Operand.func 175),args:=#[Go.Operand.tmp 9,Go.Operand.tmp 12,Go.Operand.tmp 15],argTypes:=#[45,3,3] },type:=4,pos:="typed.go:79",after:=_,guard:=none }) rfl (fun K hK=>?_) AllReadyH.nil
  go_simp
  (go_at_call 175; refine (HM.out _).mono ?_; rintro e w1 ⟨rfl,hb1⟩; have L1:=hD.trans hb1)
  go_wp2_with fail
  refine hK.out _ _ (HSX.out _ L1) (fun hHeld=>?_)
  clear hK K
  (try simp only [Act.put,List.setIfInBounds_toArray,List.set_cons_zero,List.set_cons_succ])
  refine wpAnyH_take (i:=8) (oi:={ dst:=some 17,op:=Go.Op.move (Go.Operand.tmp 16),type:=4,pos:="typed.go:79",after:=_,guard:=none }) (v:=?_) rfl (by kernel_rfl) (by kernel_rfl) (by kernel_rfl) (fun _ _ _ h=>h) (Or.inl ⟨by rfl,?_⟩) hHeld ?_
  rotate_left
  ·intro w hSw
   (try dsimp only at hSw)
   go_simp
   all_goals with_reducible rfl
  (try simp only [Act.put,List.setIfInBounds_toArray,List.set_cons_zero,List.set_cons_succ])
  refine wpAnyH_take (i:=9) (oi:={ dst:=some 18,op:=Go.Op.fieldAddr 67 (Go.Operand.tmp 6) 1,type:=0,pos:="typed.go:79",after:=_,guard:=some (8,true) }) (v:=undef) rfl (by kernel_rfl) (by kernel_rfl) (by kernel_rfl) (fun _ _ _ h=>h) (Or.inr ⟨by rfl,rfl⟩) hHeld ?_
  (try simp only [Act.put,List.setIfInBounds_toArray,List.set_cons_zero,List.set_cons_succ])
  refine wpAnyH_take (i:=10) (oi:={ dst:=some 19,op:=Go.Op.load 65 (Go.Operand.tmp 18),type:=65,pos:="typed.go:79",after:=_,guard:=some (8,true) }) (v:=undef) rfl (by kernel_rfl) (by kernel_rfl) (by kernel_rfl) (fun _ _ _ h=>h) (Or.inr ⟨by rfl,rfl⟩) hHeld ?_
  (try simp only [Act.put,List.setIfInBounds_toArray,List.set_cons_zero,List.set_cons_succ])
  refine wpAnyH_take (i:=11) (oi:={ dst:=some 20,op:=Go.Op.load 25 (Go.Operand.tmp 4),type:=25,pos:="typed.go:79",after:=_,guard:=some (8,true) }) (v:=undef) rfl (by kernel_rfl) (by kernel_rfl) (by kernel_rfl) (fun _ _ _ h=>h) (Or.inr ⟨by rfl,rfl⟩) hHeld ?_
  (try simp only [Act.put,List.setIfInBounds_toArray,List.set_cons_zero,List.set_cons_succ])
  refine wpAnyH_take (i:=12) (oi:={ dst:=some 21,op:=Go.Op.fieldAddr 45 (Go.Operand.tmp 5) 5,type:=0,pos:="typed.go:79",after:=_,guard:=some (8,true) }) (v:=undef) rfl (by kernel_rfl) (by kernel_rfl) (by kernel_rfl) (fun _ _ _ h=>h) (Or.inr ⟨by rfl,rfl⟩) hHeld ?_
  (try simp only [Act.put,List.setIfInBounds_toArray,List.set_cons_zero,List.set_cons_succ])
  refine wpAnyH_take (i:=13) (oi:={ dst:=some 22,op:=Go.Op.load 3 (Go.Operand.tmp 21),type:=3,pos:="typed.go:79",after:=_,guard:=some (8,true) }) (v:=undef) rfl (by kernel_rfl) (by kernel_rfl) (by kernel_rfl) (fun _ _ _ h=>h) (Or.inr ⟨by rfl,rfl⟩) hHeld ?_
  (try simp only [Act.put,List.setIfInBounds_toArray,List.set_cons_zero,List.set_cons_succ])
  refine wpAnyH_take (i:=14) (oi:={ dst:=some 23,op:=Go.Op.move (Go.Operand.tmp 3),type:=3,pos:="typed.go:79",after:=_,guard:=some (8,true) }) (v:=undef) rfl (by kernel_rfl) (by kernel_rfl) (by kernel_rfl) (fun _ _ _ h=>h) (Or.inr ⟨by rfl,rfl⟩) hHeld ?_
  (try simp only [Act.put,List.setIfInBounds_toArray,List.set_cons_zero,List.set_cons_succ])
  refine wpAnyH_take (i:=15) (oi:={ dst:=some 24,op:=Go.Op.call { callee:=Go.Callee.value (Go.Operand.func 177),args:=#[Go.Operand.tmp 20,Go.Operand.tmp 22,Go.Operand.const (Go.Value.int Go.IntKind.i64 0),Go.Operand.tmp 23],argTypes:=#[25,3,3,3] },type:=182,pos:="typed.go:80",after:=_,guard:=some (8,true) }) (v:=undef) rfl (by kernel_rfl) (by kernel_rfl) (by kernel_rfl) (fun _ _ _ h=>h) (Or.inr ⟨by rfl,rfl⟩) hHeld ?_
  (try simp only [Act.put,List.setIfInBounds_toArray,List.set_cons_zero,List.set_cons_succ])
  refine wpAnyH_take (i:=16) (oi:={ dst:=some 25,op:=Go.Op.call { callee:=Go.Callee.value (Go.Operand.func 176),args:=#[Go.Operand.tmp 19,Go.Operand.tmp 24],argTypes:=#[65,182] },type:=4,pos:="typed.go:80",after:=_,guard:=some (8,true) }) (v:=undef) rfl (by kernel_rfl) (by kernel_rfl) (by kernel_rfl) (fun _ _ _ h=>h) (Or.inr ⟨by rfl,rfl⟩) hHeld ?_
  (try simp only [Act.put,List.setIfInBounds_toArray,List.set_cons_zero,List.set_cons_succ])
  refine wpAnyH_take (i:=17) (oi:={ dst:=some 26,op:=Go.Op.pick (Go.Operand.tmp 17) (Go.Operand.tmp 25) (Go.Operand.const (Go.Value.bool false)),type:=4,pos:="typed.go:79",after:=_,guard:=none }) (v:=?_) rfl (by kernel_rfl) (by kernel_rfl) (by kernel_rfl) (fun _ _ _ h=>h) (Or.inl ⟨by rfl,?_⟩) hHeld ?_
  rotate_left
  ·intro w hSw
   (try dsimp only at hSw)
   go_simp
   all_goals with_reducible rfl
  (try simp only [Act.put,List.setIfInBounds_toArray,List.set_cons_zero,List.set_cons_succ])
  refine wpAnyH_take (i:=18) (oi:={ dst:=some 27,op:=Go.Op.move (Go.Operand.tmp 26),type:=4,pos:="typed.go:79",after:=_,guard:=none }) (v:=?_) rfl (by kernel_rfl) (by kernel_rfl) (by kernel_rfl) (fun _ _ _ h=>h) (Or.inl ⟨by rfl,?_⟩) hHeld ?_
  rotate_left
  ·intro w hSw
   (try dsimp only at hSw)
   go_simp
   all_goals with_reducible rfl
  (try simp only [Act.put,List.setIfInBounds_toArray,List.set_cons_zero,List.set_cons_succ])
  refine wpAnyH_take (i:=19) (oi:={ dst:=some 28,op:=Go.Op.fieldAddr 67 (Go.Operand.tmp 6) 2,type:=0,pos:="typed.go:79",after:=_,guard:=some (18,true) }) (v:=undef) rfl (by kernel_rfl) (by kernel_rfl) (by kernel_rfl) (fun _ _ _ h=>h) (Or.inr ⟨by rfl,rfl⟩) hHeld ?_
  (try simp only [Act.put,List.setIfInBounds_toArray,List.set_cons_zero,List.set_cons_succ])
  refine wpAnyH_take (i:=20) (oi:={ dst:=some 29,op:=Go.Op.load 65 (Go.Operand.tmp 28),type:=65,pos:="typed.go:79",after:=_,guard:=some (18,true) }) (v:=undef) rfl (by kernel_rfl) (by kernel_rfl) (by kernel_rfl) (fun _ _ _ h=>h) (Or.inr ⟨by rfl,rfl⟩) hHeld ?_
  (try simp only [Act.put,List.setIfInBounds_toArray,List.set_cons_zero,List.set_cons_succ])
  refine wpAnyH_take (i:=21) (oi:={ dst:=some 30,op:=Go.Op.load 25 (Go.Operand.tmp 4),type:=25,pos:="typed.go:79",after:=_,guard:=some (18,true) }) (v:=undef) rfl (by kernel_rfl) (by kernel_rfl) (by kernel_rfl) (fun _ _ _ h=>h) (Or.inr ⟨by rfl,rfl⟩) hHeld ?_
  (try simp only [Act.put,List.setIfInBounds_toArray,List.set_cons_zero,List.set_cons_succ])
  refine wpAnyH_take (i:=22) (oi:={ dst:=some 31,op:=Go.Op.fieldAddr 45 (Go.Operand.tmp 5) 2,type:=0,pos:="typed.go:79",after:=_,guard:=some (18,true) }) (v:=undef) rfl (by kernel_rfl) (by kernel_rfl) (by kernel_rfl) (fun _ _ _ h=>h) (Or.inr ⟨by rfl,rfl⟩) hHeld ?_
  (try simp only [Act.put,List.setIfInBounds_toArray,List.set_cons_zero,List.set_cons_succ])
  refine wpAnyH_take (i:=23) (oi:={ dst:=some 32,op:=Go.Op.load 3 (Go.Operand.tmp 31),type:=3,pos:="typed.go:79",after:=_,guard:=some (18,true) }) (v:=undef) rfl (by kernel_rfl) (by kernel_rfl) (by kernel_rfl) (fun _ _ _ h=>h) (Or.inr ⟨by rfl,rfl⟩) hHeld ?_
  (try simp only [Act.put,List.setIfInBounds_toArray,List.set_cons_zero,List.set_cons_succ])
  refine wpAnyH_take (i:=24) (oi:={ dst:=some 33,op:=Go.Op.fieldAddr 45 (Go.Operand.tmp 5) 3,type:=0,pos:="typed.go:79",after:=_,guard:=some (18,true) }) (v:=undef) rfl (by kernel_rfl) (by kernel_rfl) (by kernel_rfl) (fun _ _ _ h=>h) (Or.inr ⟨by rfl,rfl⟩) hHeld ?_
  (try simp only [Act.put,List.setIfInBounds_toArray,List.set_cons_zero,List.set_cons_succ])
  refine wpAnyH_take (i:=25) (oi:={ dst:=some 34,op:=Go.Op.load 3 (Go.Operand.tmp 33),type:=3,pos:="typed.go:79",after:=_,guard:=some (18,true) }) (v:=undef) rfl (by kernel_rfl) (by kernel_rfl) (by kernel_rfl) (fun _ _ _ h=>h) (Or.inr ⟨by rfl,rfl⟩) hHeld ?_
  (try simp only [Act.put,List.setIfInBounds_toArray,List.set_cons_zero,List.set_cons_succ])
  refine wpAnyH_take (i:=26) (oi:={ dst:=some 35,op:=Go.Op.move (Go.Operand.tmp 3),type:=3,pos:="typed.go:79",after:=_,guard:=some (18,true) }) (v:=undef) rfl (by kernel_rfl) (by kernel_rfl) (by kernel_rfl) (fun _ _ _ h=>h) (Or.inr ⟨by rfl,rfl⟩) hHeld ?_
  (try simp only [Act.put,List.setIfInBounds_toArray,List.set_cons_zero,List.set_cons_succ])
  refine wpAnyH_take (i:=27) (oi:={ dst:=some 36,op:=Go.Op.call { callee:=Go.Callee.value (Go.Operand.func 177),args:=#[Go.Operand.tmp 30,Go.Operand.tmp 32,Go.Operand.tmp 34,Go.Operand.tmp 35],argTypes:=#[25,3,3,3] },type:=182,pos:="typed.go:81",after:=_,guard:=some (18,true) }) (v:=undef) rfl (by kernel_rfl) (by kernel_rfl) (by kernel_rfl) (fun _ _ _ h=>h) (Or.inr ⟨by rfl,rfl⟩) hHeld ?_
  (try simp only [Act.put,List.setIfInBounds_toArray,List.set_cons_zero,List.set_cons_succ])
  refine wpAnyH_take (i:=28) (oi:={ dst:=some 37,op:=Go.Op.call { callee:=Go.Callee.value (Go.Operand.func 176),args:=#[Go.Operand.tmp 29,Go.Operand.tmp 36],argTypes:=#[65,182] },type:=4,pos:="typed.go:81",after:=_,guard:=some (18,true) }) (v:=undef) rfl (by kernel_rfl) (by kernel_rfl) (by kernel_rfl) (fun _ _ _ h=>h) (Or.inr ⟨by rfl,rfl⟩) hHeld ?_
  (try simp only [Act.put,List.setIfInBounds_toArray,List.set_cons_zero,List.set_cons_succ])
  refine wpAnyH_take (i:=29) (oi:={ dst:=some 38,op:=Go.Op.pick (Go.Operand.tmp 27) (Go.Operand.tmp 37) (Go.Operand.const (Go.Value.bool false)),type:=4,pos:="typed.go:79",after:=_,guard:=none }) (v:=?_) rfl (by kernel_rfl) (by kernel_rfl) (by kernel_rfl) (fun _ _ _ h=>h) (Or.inl ⟨by rfl,?_⟩) hHeld ?_
  rotate_left
  ·intro w hSw
   (try dsimp only at hSw)
   go_simp
   all_goals with_reducible rfl
  (try simp only [Act.put,List.setIfInBounds_toArray,List.set_cons_zero,List.set_cons_succ])
  refine wpAnyH_take (i:=30) (oi:={ dst:=some 8,op:=Go.Op.assign (Go.Operand.tmp 38),type:=4,pos:="typed.go:79",after:=_,guard:=none }) (v:=?_) rfl (by kernel_rfl) (by kernel_rfl) (by kernel_rfl) (fun _ _ _ h=>h) (Or.inl ⟨by rfl,?_⟩) hHeld ?_
  rotate_left
  ·intro w hSw
   (try dsimp only at hSw)
   go_simp
   all_goals with_reducible rfl
  (try simp only [Act.put,List.setIfInBounds_toArray,List.set_cons_zero,List.set_cons_succ])
  refine wpAnyH_done (by kernel_rfl) ?_ _
  go_wp2
  go_ret
  exact ⟨by rw [HB.out]; rfl,HL3.out.trans (L1.mono HL3.out.size)⟩
 | true =>
  cases k1 with
  | false =>
   go_enter Tryz.func129,Tryz.ntmps129
   go_wp2_with fail
   rw [← hW3]
   clear hW3
   refine wp_region_held_drew (S:=(fun w'=>(w'.cell? ⟨w.heap.size,0,none⟩ = some (.slice A1 s.M.length q1) ∧ w'.cell? ⟨w.heap.size,1,none⟩ = some (.slice A2 s.E.length q2)) ∧ (w'.cell? ⟨w.heap.size + 1,0,none⟩ = some (.int .i64 f.no) ∧ w'.cell? ⟨w.heap.size + 1,1,none⟩ = some (.string (txt f.name)) ∧ w'.cell? ⟨w.heap.size + 1,2,none⟩ = some (.int .i64 f.kind) ∧ w'.cell? ⟨w.heap.size + 1,3,none⟩ = some (.int .i64 f.ref) ∧ w'.cell? ⟨w.heap.size + 1,4,none⟩ = some (.bool f.rep) ∧ w'.cell? ⟨w.heap.size + 1,5,none⟩ = some (.int .i64 f.key) ∧ w'.cell? ⟨w.heap.size + 1,6,none⟩ = some (.int .i64 f.one)) ∧ (w'.cell? ⟨w.heap.size + 2,0,none⟩ = some (.int .i64 t.no) ∧ w'.cell? ⟨w.heap.size + 2,1,none⟩ = some (.slice A3 t.K.length q3) ∧ w'.cell? ⟨w.heap.size + 2,2,none⟩ = some (.slice A4 t.V.length q4)))) (by kernel_rfl) (HSX.out _ hD) (fun hHeld=>?_)
   refine wpAnyH_take (i:=0) (oi:={ dst:=some 9,op:=Go.Op.load 45 (Go.Operand.tmp 5),type:=45,pos:="typed.go:79",after:=_,guard:=none }) (v:=?_) rfl (by kernel_rfl) (by kernel_rfl) (by kernel_rfl) (fun _ _ _ h=>h) (Or.inl ⟨by rfl,?_⟩) hHeld ?_
   rotate_left
   ·intro w hSw
    (try dsimp only at hSw)
    go_simp
    all_goals with_reducible rfl
   (try simp only [Act.put,List.setIfInBounds_toArray,List.set_cons_zero,List.set_cons_succ])
   refine wpAnyH_take (i:=1) (oi:={ dst:=some 10,op:=Go.Op.fieldAddr 67 (Go.Operand.tmp 6) 1,type:=0,pos:="typed.go:79",after:=_,guard:=none }) (v:=?_) rfl (by kernel_rfl) (by kernel_rfl) (by kernel_rfl) (fun _ _ _ h=>h) (Or.inl ⟨by rfl,?_⟩) hHeld ?_
   rotate_left
   ·intro w hSw
    (try dsimp only at hSw)
    go_simp
    all_goals with_reducible rfl
   (try simp only [Act.put,List.setIfInBounds_toArray,List.set_cons_zero,List.set_cons_succ])
   refine wpAnyH_take (i:=2) (oi:={ dst:=some 11,op:=Go.Op.load 65 (Go.Operand.tmp 10),type:=65,pos:="typed.go:79",after:=_,guard:=none }) (v:=?_) rfl (by kernel_rfl) (by kernel_rfl) (by kernel_rfl) (fun _ _ _ h=>h) (Or.inl ⟨by rfl,?_⟩) hHeld ?_
   rotate_left
   ·intro w hSw
    (try dsimp only at hSw)
    go_simp
    all_goals with_reducible rfl
   (try simp only [Act.put,List.setIfInBounds_toArray,List.set_cons_zero,List.set_cons_succ])
   refine wpAnyH_take (i:=3) (oi:={ dst:=some 12,op:=Go.Op.call { callee:=Go.Callee.builtin Go.Builtin.len,args:=#[Go.Operand.tmp 11],argTypes:=#[65] },type:=3,pos:="typed.go:79",after:=_,guard:=none }) (v:=?_) rfl (by kernel_rfl) (by kernel_rfl) (by kernel_rfl) (fun _ _ _ h=>h) (Or.inl ⟨by rfl,?_⟩) hHeld ?_
   rotate_left
   ·intro w hSw
    (try dsimp only at hSw)
    go_simp
    all_goals with_reducible rfl
   (try simp only [Act.put,List.setIfInBounds_toArray,List.set_cons_zero,List.set_cons_succ])
   refine wpAnyH_take (i:=4) (oi:={ dst:=some 13,op:=Go.Op.fieldAddr 67 (Go.Operand.tmp 6) 2,type:=0,pos:="typed.go:79",after:=_,guard:=none }) (v:=?_) rfl (by kernel_rfl) (by kernel_rfl) (by kernel_rfl) (fun _ _ _ h=>h) (Or.inl ⟨by rfl,?_⟩) hHeld ?_
   rotate_left
   ·intro w hSw
    (try dsimp only at hSw)
    go_simp
    all_goals with_reducible rfl
   (try simp only [Act.put,List.setIfInBounds_toArray,List.set_cons_zero,List.set_cons_succ])
   refine wpAnyH_take (i:=5) (oi:={ dst:=some 14,op:=Go.Op.load 65 (Go.Operand.tmp 13),type:=65,pos:="typed.go:79",after:=_,guard:=none }) (v:=?_) rfl (by kernel_rfl) (by kernel_rfl) (by kernel_rfl) (fun _ _ _ h=>h) (Or.inl ⟨by rfl,?_⟩) hHeld ?_
   rotate_left
   ·intro w hSw
    (try dsimp only at hSw)
    go_simp
    all_goals with_reducible rfl
   (try simp only [Act.put,List.setIfInBounds_toArray,List.set_cons_zero,List.set_cons_succ])
   refine wpAnyH_take (i:=6) (oi:={ dst:=some 15,op:=Go.Op.call { callee:=Go.Callee.builtin Go.Builtin.len,args:=#[Go.Operand.tmp 14],argTypes:=#[65] },type:=3,pos:="typed.go:79",after:=_,guard:=none }) (v:=?_) rfl (by kernel_rfl) (by kernel_rfl) (by kernel_rfl) (fun _ _ _ h=>h) (Or.inl ⟨by rfl,?_⟩) hHeld ?_
   rotate_left
   ·intro w hSw
    (try dsimp only at hSw)
    go_simp
    all_goals with_reducible rfl
   (try simp only [Act.put,List.setIfInBounds_toArray,List.set_cons_zero,List.set_cons_succ])
   refine wpAnyH_ready (rs:=[7]) (by kernel_rfl) (by simp) ?_
   refine AllReadyH.cons (o:={ dst:=some 16,op:=Go.Op.call { callee:=Go.Callee.value (Go.Operand.func 175),args:=#[Go.Operand.tmp 9,Go.Operand.tmp 12,Go.Operand.tmp 15],argTypes:=#[45,3,3] },type:=4,pos:="typed.go:79",after:=_,guard:=none }) rfl (fun K hK=>?_) AllReadyH.nil
   go_simp
   (go_at_call 175; refine (HM.out _).mono ?_; rintro e w1 ⟨rfl,hb1⟩; have L1:=hD.trans hb1)
   go_wp2_with fail
   refine hK.out _ _ (HSX.out _ L1) (fun hHeld=>?_)
   clear hK K
   (try simp only [Act.put,List.setIfInBounds_toArray,List.set_cons_zero,List.set_cons_succ])
   refine wpAnyH_take (i:=8) (oi:={ dst:=some 17,op:=Go.Op.move (Go.Operand.tmp 16),type:=4,pos:="typed.go:79",after:=_,guard:=none }) (v:=?_) rfl (by kernel_rfl) (by kernel_rfl) (by kernel_rfl) (fun _ _ _ h=>h) (Or.inl ⟨by rfl,?_⟩) hHeld ?_
   rotate_left
   ·intro w hSw
    (try dsimp only at hSw)
    go_simp
    all_goals with_reducible rfl
   (try simp only [Act.put,List.setIfInBounds_toArray,List.set_cons_zero,List.set_cons_succ])
   refine wpAnyH_take (i:=9) (oi:={ dst:=some 18,op:=Go.Op.fieldAddr 67 (Go.Operand.tmp 6) 1,type:=0,pos:="typed.go:79",after:=_,guard:=some (8,true) }) (v:=?_) rfl (by kernel_rfl) (by kernel_rfl) (by kernel_rfl) (fun _ _ _ h=>h) (Or.inl ⟨by rfl,?_⟩) hHeld ?_
   rotate_left
   ·intro w hSw
    (try dsimp only at hSw)
    go_simp
    all_goals with_reducible rfl
   (try simp only [Act.put,List.setIfInBounds_toArray,List.set_cons_zero,List.set_cons_succ])
   refine wpAnyH_take (i:=10) (oi:={ dst:=some 19,op:=Go.Op.load 65 (Go.Operand.tmp 18),type:=65,pos:="typed.go:79",after:=_,guard:=some (8,true) }) (v:=?_) rfl (by kernel_rfl) (by kernel_rfl) (by kernel_rfl) (fun _ _ _ h=>h) (Or.inl ⟨by rfl,?_⟩) hHeld ?_
   rotate_left
   ·intro w hSw
    (try dsimp only at hSw)
    go_simp
    all_goals with_reducible rfl
   (try simp only [Act.put,List.setIfInBounds_toArray,List.set_cons_zero,List.set_cons_succ])
   refine wpAnyH_take (i:=11) (oi:={ dst:=some 20,op:=Go.Op.load 25 (Go.Operand.tmp 4),type:=25,pos:="typed.go:79",after:=_,guard:=some (8,true) }) (v:=?_) rfl (by kernel_rfl) (by kernel_rfl) (by kernel_rfl) (fun _ _ _ h=>h) (Or.inl ⟨by rfl,?_⟩) hHeld ?_
   rotate_left
   ·intro w hSw
    (try dsimp only at hSw)
    go_simp
    all_goals with_reducible rfl
   (try simp only [Act.put,List.setIfInBounds_toArray,List.set_cons_zero,List.set_cons_succ])
   refine wpAnyH_take (i:=12) (oi:={ dst:=some 21,op:=Go.Op.fieldAddr 45 (Go.Operand.tmp 5) 5,type:=0,pos:="typed.go:79",after:=_,guard:=some (8,true) }) (v:=?_) rfl (by kernel_rfl) (by kernel_rfl) (by kernel_rfl) (fun _ _ _ h=>h) (Or.inl ⟨by rfl,?_⟩) hHeld ?_
   rotate_left
   ·intro w hSw
    (try dsimp only at hSw)
    go_simp
    all_goals with_reducible rfl
   (try simp only [Act.put,List.setIfInBounds_toArray,List.set_cons_zero,List.set_cons_succ])
   refine wpAnyH_take (i:=13) (oi:={ dst:=some 22,op:=Go.Op.load 3 (Go.Operand.tmp 21),type:=3,pos:="typed.go:79",after:=_,guard:=some (8,true) }) (v:=?_) rfl (by kernel_rfl) (by kernel_rfl) (by kernel_rfl) (fun _ _ _ h=>h) (Or.inl ⟨by rfl,?_⟩) hHeld ?_
   rotate_left
   ·intro w hSw
    (try dsimp only at hSw)
    go_simp
    all_goals with_reducible rfl
   (try simp only [Act.put,List.setIfInBounds_toArray,List.set_cons_zero,List.set_cons_succ])
   refine wpAnyH_take (i:=14) (oi:={ dst:=some 23,op:=Go.Op.move (Go.Operand.tmp 3),type:=3,pos:="typed.go:79",after:=_,guard:=some (8,true) }) (v:=?_) rfl (by kernel_rfl) (by kernel_rfl) (by kernel_rfl) (fun _ _ _ h=>h) (Or.inl ⟨by rfl,?_⟩) hHeld ?_
   rotate_left
   ·intro w hSw
    (try dsimp only at hSw)
    go_simp
    all_goals with_reducible rfl
   (try simp only [Act.put,List.setIfInBounds_toArray,List.set_cons_zero,List.set_cons_succ])
   refine wpAnyH_ready (rs:=[15]) (by kernel_rfl) (by simp) ?_
   refine AllReadyH.cons (o:={ dst:=some 24,op:=Go.Op.call { callee:=Go.Callee.value (Go.Operand.func 177),args:=#[Go.Operand.tmp 20,Go.Operand.tmp 22,Go.Operand.const (Go.Value.int Go.IntKind.i64 0),Go.Operand.tmp 23],argTypes:=#[25,3,3,3] },type:=182,pos:="typed.go:80",after:=_,guard:=some (8,true) }) rfl (fun K hK=>?_) AllReadyH.nil
   go_simp
   (go_at_call 177; (with_reducible refine (HA1.out _ L1).mono ?_); rintro e w2 ⟨c2,rfl,hc2,hb2⟩; have L2:=below_then L1 hb2)
   go_wp2_with fail
   refine hK.out _ _ (HSX.out _ L2) (fun hHeld=>?_)
   clear hK K
   (try simp only [Act.put,List.setIfInBounds_toArray,List.set_cons_zero,List.set_cons_succ])
   refine wpAnyH_ready (rs:=[16]) (by kernel_rfl) (by simp) ?_
   refine AllReadyH.cons (o:={ dst:=some 25,op:=Go.Op.call { callee:=Go.Callee.value (Go.Operand.func 176),args:=#[Go.Operand.tmp 19,Go.Operand.tmp 24],argTypes:=#[65,182] },type:=4,pos:="typed.go:80",after:=_,guard:=some (8,true) }) rfl (fun K hK=>?_) AllReadyH.nil
   go_simp
   (go_at_call 176; (with_reducible refine (HL1.out _ _ L2 hc2).mono ?_); rintro e w3 ⟨rfl,hb3⟩; have L3:=below_then L2 hb3)
   go_wp2_with fail
   refine hK.out _ _ (HSX.out _ L3) (fun hHeld=>?_)
   clear hK K
   (try simp only [Act.put,List.setIfInBounds_toArray,List.set_cons_zero,List.set_cons_succ])
   refine wpAnyH_take (i:=17) (oi:={ dst:=some 26,op:=Go.Op.pick (Go.Operand.tmp 17) (Go.Operand.tmp 25) (Go.Operand.const (Go.Value.bool false)),type:=4,pos:="typed.go:79",after:=_,guard:=none }) (v:=?_) rfl (by kernel_rfl) (by kernel_rfl) (by kernel_rfl) (fun _ _ _ h=>h) (Or.inl ⟨by rfl,?_⟩) hHeld ?_
   rotate_left
   ·intro w hSw
    (try dsimp only at hSw)
    go_simp
    all_goals with_reducible rfl
   (try simp only [Act.put,List.setIfInBounds_toArray,List.set_cons_zero,List.set_cons_succ])
   refine wpAnyH_take (i:=18) (oi:={ dst:=some 27,op:=Go.Op.move (Go.Operand.tmp 26),type:=4,pos:="typed.go:79",after:=_,guard:=none }) (v:=?_) rfl (by kernel_rfl) (by kernel_rfl) (by kernel_rfl) (fun _ _ _ h=>h) (Or.inl ⟨by rfl,?_⟩) hHeld ?_
   rotate_left
   ·intro w hSw
    (try dsimp only at hSw)
    go_simp
    all_goals with_reducible rfl
   (try simp only [Act.put,List.setIfInBounds_toArray,List.set_cons_zero,List.set_cons_succ])
   refine wpAnyH_take (i:=19) (oi:={ dst:=some 28,op:=Go.Op.fieldAddr 67 (Go.Operand.tmp 6) 2,type:=0,pos:="typed.go:79",after:=_,guard:=some (18,true) }) (v:=undef) rfl (by kernel_rfl) (by kernel_rfl) (by kernel_rfl) (fun _ _ _ h=>h) (Or.inr ⟨by rfl,rfl⟩) hHeld ?_
   (try simp only [Act.put,List.setIfInBounds_toArray,List.set_cons_zero,List.set_cons_succ])
   refine wpAnyH_take (i:=20) (oi:={ dst:=some 29,op:=Go.Op.load 65 (Go.Operand.tmp 28),type:=65,pos:="typed.go:79",after:=_,guard:=some (18,true) }) (v:=undef) rfl (by kernel_rfl) (by kernel_rfl) (by kernel_rfl) (fun _ _ _ h=>h) (Or.inr ⟨by rfl,rfl⟩) hHeld ?_
   (try simp only [Act.put,List.setIfInBounds_toArray,List.set_cons_zero,List.set_cons_succ])
   refine wpAnyH_take (i:=21) (oi:={ dst:=some 30,op:=Go.Op.load 25 (Go.Operand.tmp 4),type:=25,pos:="typed.go:79",after:=_,guard:=some (18,true) }) (v:=undef) rfl (by kernel_rfl) (by kernel_rfl) (by kernel_rfl) (fun _ _ _ h=>h) (Or.inr ⟨by rfl,rfl⟩) hHeld ?_
   (try simp only [Act.put,List.setIfInBounds_toArray,List.set_cons_zero,List.set_cons_succ])
   refine wpAnyH_take (i:=22) (oi:={ dst:=some 31,op:=Go.Op.fieldAddr 45 (Go.Operand.tmp 5) 2,type:=0,pos:="typed.go:79",after:=_,guard:=some (18,true) }) (v:=undef) rfl (by kernel_rfl) (by kernel_rfl) (by kernel_rfl) (fun _ _ _ h=>h) (Or.inr ⟨by rfl,rfl⟩) hHeld ?_
   (try simp only [Act.put,List.setIfInBounds_toArray,List.set_cons_zero,List.set_cons_succ])
   refine wpAnyH_take (i:=23) (oi:={ dst:=some 32,op:=Go.Op.load 3 (Go.Operand.tmp 31),type:=3,pos:="typed.go:79",after:=_,guard:=some (18,true) }) (v:=undef) rfl (by kernel_rfl) (by kernel_rfl) (by kernel_rfl) (fun _ _ _ h=>h) (Or.inr ⟨by rfl,rfl⟩) hHeld ?_
   (try simp only [Act.put,List.setIfInBounds_toArray,List.set_cons_zero,List.set_cons_succ])
   refine wpAnyH_take (i:=24) (oi:={ dst:=some 33,op:=Go.Op.fieldAddr 45 (Go.Operand.tmp 5) 3,type:=0,pos:="typed.go:79",after:=_,guard:=some (18,true) }) (v:=undef) rfl (by kernel_rfl) (by kernel_rfl) (by kernel_rfl) (fun _ _ _ h=>h) (Or.inr ⟨by rfl,rfl⟩) hHeld ?_
   (try simp only [Act.put,List.setIfInBounds_toArray,List.set_cons_zero,List.set_cons_succ])
   refine wpAnyH_take (i:=25) (oi:={ dst:=some 34,op:=Go.Op.load 3 (Go.Operand.tmp 33),type:=3,pos:="typed.go:79",after:=_,guard:=some (18,true) }) (v:=undef) rfl (by kernel_rfl) (by kernel_rfl) (by kernel_rfl) (fun _ _ _ h=>h) (Or.inr ⟨by rfl,rfl⟩) hHeld ?_
   (try simp only [Act.put,List.setIfInBounds_toArray,List.set_cons_zero,List.set_cons_succ])
   refine wpAnyH_take (i:=26) (oi:={ dst:=some 35,op:=Go.Op.move (Go.Operand.tmp 3),type:=3,pos:="typed.go:79",after:=_,guard:=some (18,true) }) (v:=undef) rfl (by kernel_rfl) (by kernel_rfl) (by kernel_rfl) (fun _ _ _ h=>h) (Or.inr ⟨by rfl,rfl⟩) hHeld ?_
   (try simp only [Act.put,List.setIfInBounds_toArray,List.set_cons_zero,List.set_cons_succ])
   refine wpAnyH_take (i:=27) (oi:={ dst:=some 36,op:=Go.Op.call { callee:=Go.Callee.value (Go.Operand.func 177),args:=#[Go.Operand.tmp 30,Go.Operand.tmp 32,Go.Operand.tmp 34,Go.Operand.tmp 35],argTypes:=#[25,3,3,3] },type:=182,pos:="typed.go:81",after:=_,guard:=some (18,true) }) (v:=undef) rfl (by kernel_rfl) (by kernel_rfl) (by kernel_rfl) (fun _ _ _ h=>h) (Or.inr ⟨by rfl,rfl⟩) hHeld ?_
   (try simp only [Act.put,List.setIfInBounds_toArray,List.set_cons_zero,List.set_cons_succ])
   refine wpAnyH_take (i:=28) (oi:={ dst:=some 37,op:=Go.Op.call { callee:=Go.Callee.value (Go.Operand.func 176),args:=#[Go.Operand.tmp 29,Go.Operand.tmp 36],argTypes:=#[65,182] },type:=4,pos:="typed.go:81",after:=_,guard:=some (18,true) }) (v:=undef) rfl (by kernel_rfl) (by kernel_rfl) (by kernel_rfl) (fun _ _ _ h=>h) (Or.inr ⟨by rfl,rfl⟩) hHeld ?_
   (try simp only [Act.put,List.setIfInBounds_toArray,List.set_cons_zero,List.set_cons_succ])
   refine wpAnyH_take (i:=29) (oi:={ dst:=some 38,op:=Go.Op.pick (Go.Operand.tmp 27) (Go.Operand.tmp 37) (Go.Operand.const (Go.Value.bool false)),type:=4,pos:="typed.go:79",after:=_,guard:=none }) (v:=?_) rfl (by kernel_rfl) (by kernel_rfl) (by kernel_rfl) (fun _ _ _ h=>h) (Or.inl ⟨by rfl,?_⟩) hHeld ?_
   rotate_left
   ·intro w hSw
    (try dsimp only at hSw)
    go_simp
    all_goals with_reducible rfl
   (try simp only [Act.put,List.setIfInBounds_toArray,List.set_cons_zero,List.set_cons_succ])
   refine wpAnyH_take (i:=30) (oi:={ dst:=some 8,op:=Go.Op.assign (Go.Operand.tmp 38),type:=4,pos:="typed.go:79",after:=_,guard:=none }) (v:=?_) rfl (by kernel_rfl) (by kernel_rfl) (by kernel_rfl) (fun _ _ _ h=>h) (Or.inl ⟨by rfl,?_⟩) hHeld ?_
   rotate_left
   ·intro w hSw
    (try dsimp only at hSw)
    go_simp
    all_goals with_reducible rfl
   (try simp only [Act.put,List.setIfInBounds_toArray,List.set_cons_zero,List.set_cons_succ])
   refine wpAnyH_done (by kernel_rfl) ?_ _
   go_wp2
   go_ret
   exact ⟨by rw [HB.out]; rfl,HL3.out.trans (L3.mono HL3.out.size)⟩
  | true =>
   go_enter Tryz.func129,Tryz.ntmps129
   go_wp2_with fail
   rw [← hW3]
   clear hW3
   refine wp_region_held_drew (S:=(fun w'=>(w'.cell? ⟨w.heap.size,0,none⟩ = some (.slice A1 s.M.length q1) ∧ w'.cell? ⟨w.heap.size,1,none⟩ = some (.slice A2 s.E.length q2)) ∧ (w'.cell? ⟨w.heap.size + 1,0,none⟩ = some (.int .i64 f.no) ∧ w'.cell? ⟨w.heap.size + 1,1,none⟩ = some (.string (txt f.name)) ∧ w'.cell? ⟨w.heap.size + 1,2,none⟩ = some (.int .i64 f.kind) ∧ w'.cell? ⟨w.heap.size + 1,3,none⟩ = some (.int .i64 f.ref) ∧ w'.cell? ⟨w.heap.size + 1,4,none⟩ = some (.bool f.rep) ∧ w'.cell? ⟨w.heap.size + 1,5,none⟩ = some (.int .i64 f.key) ∧ w'.cell? ⟨w.heap.size + 1,6,none⟩ = some (.int .i64 f.one)) ∧ (w'.cell? ⟨w.heap.size + 2,0,none⟩ = some (.int .i64 t.no) ∧ w'.cell? ⟨w.heap.size + 2,1,none⟩ = some (.slice A3 t.K.length q3) ∧ w'.cell? ⟨w.heap.size + 2,2,none⟩ = some (.slice A4 t.V.length q4)))) (by kernel_rfl) (HSX.out _ hD) (fun hHeld=>?_)
   refine wpAnyH_take (i:=0) (oi:={ dst:=some 9,op:=Go.Op.load 45 (Go.Operand.tmp 5),type:=45,pos:="typed.go:79",after:=_,guard:=none }) (v:=?_) rfl (by kernel_rfl) (by kernel_rfl) (by kernel_rfl) (fun _ _ _ h=>h) (Or.inl ⟨by rfl,?_⟩) hHeld ?_
   rotate_left
   ·intro w hSw
    (try dsimp only at hSw)
    go_simp
    all_goals with_reducible rfl
   (try simp only [Act.put,List.setIfInBounds_toArray,List.set_cons_zero,List.set_cons_succ])
   refine wpAnyH_take (i:=1) (oi:={ dst:=some 10,op:=Go.Op.fieldAddr 67 (Go.Operand.tmp 6) 1,type:=0,pos:="typed.go:79",after:=_,guard:=none }) (v:=?_) rfl (by kernel_rfl) (by kernel_rfl) (by kernel_rfl) (fun _ _ _ h=>h) (Or.inl ⟨by rfl,?_⟩) hHeld ?_
   rotate_left
   ·intro w hSw
    (try dsimp only at hSw)
    go_simp
    all_goals with_reducible rfl
   (try simp only [Act.put,List.setIfInBounds_toArray,List.set_cons_zero,List.set_cons_succ])
   refine wpAnyH_take (i:=2) (oi:={ dst:=some 11,op:=Go.Op.load 65 (Go.Operand.tmp 10),type:=65,pos:="typed.go:79",after:=_,guard:=none }) (v:=?_) rfl (by kernel_rfl) (by kernel_rfl) (by kernel_rfl) (fun _ _ _ h=>h) (Or.inl ⟨by rfl,?_⟩) hHeld ?_
   rotate_left
   ·intro w hSw
    (try dsimp only at hSw)
    go_simp
    all_goals with_reducible rfl
   (try simp only [Act.put,List.setIfInBounds_toArray,List.set_cons_zero,List.set_cons_succ])
   refine wpAnyH_take (i:=3) (oi:={ dst:=some 12,op:=Go.Op.call { callee:=Go.Callee.builtin Go.Builtin.len,args:=#[Go.Operand.tmp 11],argTypes:=#[65] },type:=3,pos:="typed.go:79",after:=_,guard:=none }) (v:=?_) rfl (by kernel_rfl) (by kernel_rfl) (by kernel_rfl) (fun _ _ _ h=>h) (Or.inl ⟨by rfl,?_⟩) hHeld ?_
   rotate_left
   ·intro w hSw
    (try dsimp only at hSw)
    go_simp
    all_goals with_reducible rfl
   (try simp only [Act.put,List.setIfInBounds_toArray,List.set_cons_zero,List.set_cons_succ])
   refine wpAnyH_take (i:=4) (oi:={ dst:=some 13,op:=Go.Op.fieldAddr 67 (Go.Operand.tmp 6) 2,type:=0,pos:="typed.go:79",after:=_,guard:=none }) (v:=?_) rfl (by kernel_rfl) (by kernel_rfl) (by kernel_rfl) (fun _ _ _ h=>h) (Or.inl ⟨by rfl,?_⟩) hHeld ?_
   rotate_left
   ·intro w hSw
    (try dsimp only at hSw)
    go_simp
    all_goals with_reducible rfl
   (try simp only [Act.put,List.setIfInBounds_toArray,List.set_cons_zero,List.set_cons_succ])
   refine wpAnyH_take (i:=5) (oi:={ dst:=some 14,op:=Go.Op.load 65 (Go.Operand.tmp 13),type:=65,pos:="typed.go:79",after:=_,guard:=none }) (v:=?_) rfl (by kernel_rfl) (by kernel_rfl) (by kernel_rfl) (fun _ _ _ h=>h) (Or.inl ⟨by rfl,?_⟩) hHeld ?_
   rotate_left
   ·intro w hSw
    (try dsimp only at hSw)
    go_simp
    all_goals with_reducible rfl
   (try simp only [Act.put,List.setIfInBounds_toArray,List.set_cons_zero,List.set_cons_succ])
   refine wpAnyH_take (i:=6) (oi:={ dst:=some 15,op:=Go.Op.call { callee:=Go.Callee.builtin Go.Builtin.len,args:=#[Go.Operand.tmp 14],argTypes:=#[65] },type:=3,pos:="typed.go:79",after:=_,guard:=none }) (v:=?_) rfl (by kernel_rfl) (by kernel_rfl) (by kernel_rfl) (fun _ _ _ h=>h) (Or.inl ⟨by rfl,?_⟩) hHeld ?_
   rotate_left
   ·intro w hSw
    (try dsimp only at hSw)
    go_simp
    all_goals with_reducible rfl
   (try simp only [Act.put,List.setIfInBounds_toArray,List.set_cons_zero,List.set_cons_succ])
   refine wpAnyH_ready (rs:=[7]) (by kernel_rfl) (by simp) ?_
   refine AllReadyH.cons (o:={ dst:=some 16,op:=Go.Op.call { callee:=Go.Callee.value (Go.Operand.func 175),args:=#[Go.Operand.tmp 9,Go.Operand.tmp 12,Go.Operand.tmp 15],argTypes:=#[45,3,3] },type:=4,pos:="typed.go:79",after:=_,guard:=none }) rfl (fun K hK=>?_) AllReadyH.nil
   go_simp
   (go_at_call 175; refine (HM.out _).mono ?_; rintro e w1 ⟨rfl,hb1⟩; have L1:=hD.trans hb1)
   go_wp2_with fail
   refine hK.out _ _ (HSX.out _ L1) (fun hHeld=>?_)
   clear hK K
   (try simp only [Act.put,List.setIfInBounds_toArray,List.set_cons_zero,List.set_cons_succ])
   refine wpAnyH_take (i:=8) (oi:={ dst:=some 17,op:=Go.Op.move (Go.Operand.tmp 16),type:=4,pos:="typed.go:79",after:=_,guard:=none }) (v:=?_) rfl (by kernel_rfl) (by kernel_rfl) (by kernel_rfl) (fun _ _ _ h=>h) (Or.inl ⟨by rfl,?_⟩) hHeld ?_
   rotate_left
   ·intro w hSw
    (try dsimp only at hSw)
    go_simp
    all_goals with_reducible rfl
   (try simp only [Act.put,List.setIfInBounds_toArray,List.set_cons_zero,List.set_cons_succ])
   refine wpAnyH_take (i:=9) (oi:={ dst:=some 18,op:=Go.Op.fieldAddr 67 (Go.Operand.tmp 6) 1,type:=0,pos:="typed.go:79",after:=_,guard:=some (8,true) }) (v:=?_) rfl (by kernel_rfl) (by kernel_rfl) (by kernel_rfl) (fun _ _ _ h=>h) (Or.inl ⟨by rfl,?_⟩) hHeld ?_
   rotate_left
   ·intro w hSw
    (try dsimp only at hSw)
    go_simp
    all_goals with_reducible rfl
   (try simp only [Act.put,List.setIfInBounds_toArray,List.set_cons_zero,List.set_cons_succ])
   refine wpAnyH_take (i:=10) (oi:={ dst:=some 19,op:=Go.Op.load 65 (Go.Operand.tmp 18),type:=65,pos:="typed.go:79",after:=_,guard:=some (8,true) }) (v:=?_) rfl (by kernel_rfl) (by kernel_rfl) (by kernel_rfl) (fun _ _ _ h=>h) (Or.inl ⟨by rfl,?_⟩) hHeld ?_
   rotate_left
   ·intro w hSw
    (try dsimp only at hSw)
    go_simp
    all_goals with_reducible rfl
   (try simp only [Act.put,List.setIfInBounds_toArray,List.set_cons_zero,List.set_cons_succ])
   refine wpAnyH_take (i:=11) (oi:={ dst:=some 20,op:=Go.Op.load 25 (Go.Operand.tmp 4),type:=25,pos:="typed.go:79",after:=_,guard:=some (8,true) }) (v:=?_) rfl (by kernel_rfl) (by kernel_rfl) (by kernel_rfl) (fun _ _ _ h=>h) (Or.inl ⟨by rfl,?_⟩) hHeld ?_
   rotate_left
   ·intro w hSw
    (try dsimp only at hSw)
    go_simp
    all_goals with_reducible rfl
   (try simp only [Act.put,List.setIfInBounds_toArray,List.set_cons_zero,List.set_cons_succ])
   refine wpAnyH_take (i:=12) (oi:={ dst:=some 21,op:=Go.Op.fieldAddr 45 (Go.Operand.tmp 5) 5,type:=0,pos:="typed.go:79",after:=_,guard:=some (8,true) }) (v:=?_) rfl (by kernel_rfl) (by kernel_rfl) (by kernel_rfl) (fun _ _ _ h=>h) (Or.inl ⟨by rfl,?_⟩) hHeld ?_
   rotate_left
   ·intro w hSw
    (try dsimp only at hSw)
    go_simp
    all_goals with_reducible rfl
   (try simp only [Act.put,List.setIfInBounds_toArray,List.set_cons_zero,List.set_cons_succ])
   refine wpAnyH_take (i:=13) (oi:={ dst:=some 22,op:=Go.Op.load 3 (Go.Operand.tmp 21),type:=3,pos:="typed.go:79",after:=_,guard:=some (8,true) }) (v:=?_) rfl (by kernel_rfl) (by kernel_rfl) (by kernel_rfl) (fun _ _ _ h=>h) (Or.inl ⟨by rfl,?_⟩) hHeld ?_
   rotate_left
   ·intro w hSw
    (try dsimp only at hSw)
    go_simp
    all_goals with_reducible rfl
   (try simp only [Act.put,List.setIfInBounds_toArray,List.set_cons_zero,List.set_cons_succ])
   refine wpAnyH_take (i:=14) (oi:={ dst:=some 23,op:=Go.Op.move (Go.Operand.tmp 3),type:=3,pos:="typed.go:79",after:=_,guard:=some (8,true) }) (v:=?_) rfl (by kernel_rfl) (by kernel_rfl) (by kernel_rfl) (fun _ _ _ h=>h) (Or.inl ⟨by rfl,?_⟩) hHeld ?_
   rotate_left
   ·intro w hSw
    (try dsimp only at hSw)
    go_simp
    all_goals with_reducible rfl
   (try simp only [Act.put,List.setIfInBounds_toArray,List.set_cons_zero,List.set_cons_succ])
   refine wpAnyH_ready (rs:=[15]) (by kernel_rfl) (by simp) ?_
   refine AllReadyH.cons (o:={ dst:=some 24,op:=Go.Op.call { callee:=Go.Callee.value (Go.Operand.func 177),args:=#[Go.Operand.tmp 20,Go.Operand.tmp 22,Go.Operand.const (Go.Value.int Go.IntKind.i64 0),Go.Operand.tmp 23],argTypes:=#[25,3,3,3] },type:=182,pos:="typed.go:80",after:=_,guard:=some (8,true) }) rfl (fun K hK=>?_) AllReadyH.nil
   go_simp
   (go_at_call 177; (with_reducible refine (HA1.out _ L1).mono ?_); rintro e w2 ⟨c2,rfl,hc2,hb2⟩; have L2:=below_then L1 hb2)
   go_wp2_with fail
   refine hK.out _ _ (HSX.out _ L2) (fun hHeld=>?_)
   clear hK K
   (try simp only [Act.put,List.setIfInBounds_toArray,List.set_cons_zero,List.set_cons_succ])
   refine wpAnyH_ready (rs:=[16]) (by kernel_rfl) (by simp) ?_
   refine AllReadyH.cons (o:={ dst:=some 25,op:=Go.Op.call { callee:=Go.Callee.value (Go.Operand.func 176),args:=#[Go.Operand.tmp 19,Go.Operand.tmp 24],argTypes:=#[65,182] },type:=4,pos:="typed.go:80",after:=_,guard:=some (8,true) }) rfl (fun K hK=>?_) AllReadyH.nil
   go_simp
   (go_at_call 176; (with_reducible refine (HL1.out _ _ L2 hc2).mono ?_); rintro e w3 ⟨rfl,hb3⟩; have L3:=below_then L2 hb3)
   go_wp2_with fail
   refine hK.out _ _ (HSX.out _ L3) (fun hHeld=>?_)
   clear hK K
   (try simp only [Act.put,List.setIfInBounds_toArray,List.set_cons_zero,List.set_cons_succ])
   refine wpAnyH_take (i:=17) (oi:={ dst:=some 26,op:=Go.Op.pick (Go.Operand.tmp 17) (Go.Operand.tmp 25) (Go.Operand.const (Go.Value.bool false)),type:=4,pos:="typed.go:79",after:=_,guard:=none }) (v:=?_) rfl (by kernel_rfl) (by kernel_rfl) (by kernel_rfl) (fun _ _ _ h=>h) (Or.inl ⟨by rfl,?_⟩) hHeld ?_
   rotate_left
   ·intro w hSw
    (try dsimp only at hSw)
    go_simp
    all_goals with_reducible rfl
   (try simp only [Act.put,List.setIfInBounds_toArray,List.set_cons_zero,List.set_cons_succ])
   refine wpAnyH_take (i:=18) (oi:={ dst:=some 27,op:=Go.Op.move (Go.Operand.tmp 26),type:=4,pos:="typed.go:79",after:=_,guard:=none }) (v:=?_) rfl (by kernel_rfl) (by kernel_rfl) (by kernel_rfl) (fun _ _ _ h=>h) (Or.inl ⟨by rfl,?_⟩) hHeld ?_
   rotate_left
   ·intro w hSw
    (try dsimp only at hSw)
    go_simp
    all_goals with_reducible rfl
   (try simp only [Act.put,List.setIfInBounds_toArray,List.set_cons_zero,List.set_cons_succ])
   refine wpAnyH_take (i:=19) (oi:={ dst:=some 28,op:=Go.Op.fieldAddr 67 (Go.Operand.tmp 6) 2,type:=0,pos:="typed.go:79",after:=_,guard:=some (18,true) }) (v:=?_) rfl (by kernel_rfl) (by kernel_rfl) (by kernel_rfl) (fun _ _ _ h=>h) (Or.inl ⟨by rfl,?_⟩) hHeld ?_
   rotate_left
   ·intro w hSw
    (try dsimp only at hSw)
    go_simp
    all_goals with_reducible rfl
   (try simp only [Act.put,List.setIfInBounds_toArray,List.set_cons_zero,List.set_cons_succ])
   refine wpAnyH_take (i:=20) (oi:={ dst:=some 29,op:=Go.Op.load 65 (Go.Operand.tmp 28),type:=65,pos:="typed.go:79",after:=_,guard:=some (18,true) }) (v:=?_) rfl (by kernel_rfl) (by kernel_rfl) (by kernel_rfl) (fun _ _ _ h=>h) (Or.inl ⟨by rfl,?_⟩) hHeld ?_
   rotate_left
   ·intro w hSw
    (try dsimp only at hSw)
    go_simp
    all_goals with_reducible rfl
   (try simp only [Act.put,List.setIfInBounds_toArray,List.set_cons_zero,List.set_cons_succ])
   refine wpAnyH_take (i:=21) (oi:={ dst:=some 30,op:=Go.Op.load 25 (Go.Operand.tmp 4),type:=25,pos:="typed.go:79",after:=_,guard:=some (18,true) }) (v:=?_) rfl (by kernel_rfl) (by kernel_rfl) (by kernel_rfl) (fun _ _ _ h=>h) (Or.inl ⟨by rfl,?_⟩) hHeld ?_
   rotate_left
   ·intro w hSw
    (try dsimp only at hSw)
    go_simp
    all_goals with_reducible rfl
   (try simp only [Act.put,List.setIfInBounds_toArray,List.set_cons_zero,List.set_cons_succ])
   refine wpAnyH_take (i:=22) (oi:={ dst:=some 31,op:=Go.Op.fieldAddr 45 (Go.Operand.tmp 5) 2,type:=0,pos:="typed.go:79",after:=_,guard:=some (18,true) }) (v:=?_) rfl (by kernel_rfl) (by kernel_rfl) (by kernel_rfl) (fun _ _ _ h=>h) (Or.inl ⟨by rfl,?_⟩) hHeld ?_
   rotate_left
   ·intro w hSw
    (try dsimp only at hSw)
    go_simp
    all_goals with_reducible rfl
   (try simp only [Act.put,List.setIfInBounds_toArray,List.set_cons_zero,List.set_cons_succ])
   refine wpAnyH_take (i:=23) (oi:={ dst:=some 32,op:=Go.Op.load 3 (Go.Operand.tmp 31),type:=3,pos:="typed.go:79",after:=_,guard:=some (18,true) }) (v:=?_) rfl (by kernel_rfl) (by kernel_rfl) (by kernel_rfl) (fun _ _ _ h=>h) (Or.inl ⟨by rfl,?_⟩) hHeld ?_
   rotate_left
   ·intro w hSw
    (try dsimp only at hSw)
    go_simp
    all_goals with_reducible rfl
   (try simp only [Act.put,List.setIfInBounds_toArray,List.set_cons_zero,List.set_cons_succ])
   refine wpAnyH_take (i:=24) (oi:={ dst:=some 33,op:=Go.Op.fieldAddr 45 (Go.Operand.tmp 5) 3,type:=0,pos:="typed.go:79",after:=_,guard:=some (18,true) }) (v:=?_) rfl (by kernel_rfl) (by kernel_rfl) (by kernel_rfl) (fun _ _ _ h=>h) (Or.inl ⟨by rfl,?_⟩) hHeld ?_
   rotate_left
   ·intro w hSw
    (try dsimp only at hSw)
    go_simp
    all_goals with_reducible rfl
   (try simp only [Act.put,List.setIfInBounds_toArray,List.set_cons_zero,List.set_cons_succ])
   refine wpAnyH_take (i:=25) (oi:={ dst:=some 34,op:=Go.Op.load 3 (Go.Operand.tmp 33),type:=3,pos:="typed.go:79",after:=_,guard:=some (18,true) }) (v:=?_) rfl (by kernel_rfl) (by kernel_rfl) (by kernel_rfl) (fun _ _ _ h=>h) (Or.inl ⟨by rfl,?_⟩) hHeld ?_
   rotate_left
   ·intro w hSw
    (try dsimp only at hSw)
    go_simp
    all_goals with_reducible rfl
   (try simp only [Act.put,List.setIfInBounds_toArray,List.set_cons_zero,List.set_cons_succ])
   refine wpAnyH_take (i:=26) (oi:={ dst:=some 35,op:=Go.Op.move (Go.Operand.tmp 3),type:=3,pos:="typed.go:79",after:=_,guard:=some (18,true) }) (v:=?_) rfl (by kernel_rfl) (by kernel_rfl) (by kernel_rfl) (fun _ _ _ h=>h) (Or.inl ⟨by rfl,?_⟩) hHeld ?_
   rotate_left
   ·intro w hSw
    (try dsimp only at hSw)
    go_simp
    all_goals with_reducible rfl
   (try simp only [Act.put,List.setIfInBounds_toArray,List.set_cons_zero,List.set_cons_succ])
   refine wpAnyH_ready (rs:=[27]) (by kernel_rfl) (by simp) ?_
   refine AllReadyH.cons (o:={ dst:=some 36,op:=Go.Op.call { callee:=Go.Callee.value (Go.Operand.func 177),args:=#[Go.Operand.tmp 30,Go.Operand.tmp 32,Go.Operand.tmp 34,Go.Operand.tmp 35],argTypes:=#[25,3,3,3] },type:=182,pos:="typed.go:81",after:=_,guard:=some (18,true) }) rfl (fun K hK=>?_) AllReadyH.nil
   go_simp
   (go_at_call 177; (with_reducible refine (HA2.out _ L3).mono ?_); rintro e w4 ⟨c4,rfl,hc4,hb4⟩; have L4:=below_then L3 hb4)
   go_wp2_with fail
   refine hK.out _ _ (HSX.out _ L4) (fun hHeld=>?_)
   clear hK K
   (try simp only [Act.put,List.setIfInBounds_toArray,List.set_cons_zero,List.set_cons_succ])
   refine wpAnyH_ready (rs:=[28]) (by kernel_rfl) (by simp) ?_
   refine AllReadyH.cons (o:={ dst:=some 37,op:=Go.Op.call { callee:=Go.Callee.value (Go.Operand.func 176),args:=#[Go.Operand.tmp 29,Go.Operand.tmp 36],argTypes:=#[65,182] },type:=4,pos:="typed.go:81",after:=_,guard:=some (18,true) }) rfl (fun K hK=>?_) AllReadyH.nil
   go_simp
   (go_at_call 176; (with_reducible refine (HL2.out _ _ L4 hc4).mono ?_); rintro e w5 ⟨rfl,hb5⟩; have L5:=below_then L4 hb5)
   go_wp2_with fail
   refine hK.out _ _ (HSX.out _ L5) (fun hHeld=>?_)
   clear hK K
   (try simp only [Act.put,List.setIfInBounds_toArray,List.set_cons_zero,List.set_cons_succ])
   refine wpAnyH_take (i:=29) (oi:={ dst:=some 38,op:=Go.Op.pick (Go.Operand.tmp 27) (Go.Operand.tmp 37) (Go.Operand.const (Go.Value.bool false)),type:=4,pos:="typed.go:79",after:=_,guard:=none }) (v:=?_) rfl (by kernel_rfl) (by kernel_rfl) (by kernel_rfl) (fun _ _ _ h=>h) (Or.inl ⟨by rfl,?_⟩) hHeld ?_
   rotate_left
   ·intro w hSw
    (try dsimp only at hSw)
    go_simp
    all_goals with_reducible rfl
   (try simp only [Act.put,List.setIfInBounds_toArray,List.set_cons_zero,List.set_cons_succ])
   refine wpAnyH_take (i:=30) (oi:={ dst:=some 8,op:=Go.Op.assign (Go.Operand.tmp 38),type:=4,pos:="typed.go:79",after:=_,guard:=none }) (v:=?_) rfl (by kernel_rfl) (by kernel_rfl) (by kernel_rfl) (fun _ _ _ h=>h) (Or.inl ⟨by rfl,?_⟩) hHeld ?_
   rotate_left
   ·intro w hSw
    (try dsimp only at hSw)
    go_simp
    all_goals with_reducible rfl
   (try simp only [Act.put,List.setIfInBounds_toArray,List.set_cons_zero,List.set_cons_succ])
   refine wpAnyH_done (by kernel_rfl) ?_ _
   go_wp2
   go_ret
   exact ⟨by rw [HB.out]; rfl,HL3.out.trans (L5.mono HL3.out.size)⟩
end Go.Proofs.YtckcojkpghiclaaGreatDoor.T9
