/-
 A record's bytes: the contract of the document's own function that puts them.
-/
import Derived.Test.YtckcojkpghiclaaGreatDoorRecPut
import Derived.BigQuiet
import Derived.RangeFuncNested
import Derived.RangeFuncBound
import Derived.RangeFuncCalls
import Derived.RangeFuncLeaves
import Derived.Shelf.Abstract
import Derived.Shelf.RegionOpen
import Derived.OwnWalkIn
import Derived.TacticsInMore
import Derived.LoopNIn
import Derived.LoopIn
import Derived.Test.YtckcojkpghiclaaGreatDoorVarPut
import Derived.Test.YtckcojkpghiclaaGreatDoorTrRsame
import Derived.Deep.RegionHeldLaw
import Derived.Deep.RegionLaw
import Derived.Deep.RegionHeld3
namespace Go.Proofs.YtckcojkpghiclaaGreatDoor
set_option maxRecDepth 100000
open Go.RowKit
end Go.Proofs.YtckcojkpghiclaaGreatDoor
namespace Go.Proofs.YtckcojkpghiclaaGreatDoor
set_option maxRecDepth 100000
open Go.RowKit Go.Shelf
attribute [local go_sem] Oper.semAt_some
end Go.Proofs.YtckcojkpghiclaaGreatDoor
namespace Go.Proofs.YtckcojkpghiclaaGreatDoor
set_option maxRecDepth 100000
open Go.RowKit Go.Shelf
attribute [local go_sem] Oper.semAt_some
end Go.Proofs.YtckcojkpghiclaaGreatDoor
namespace Go.Proofs.YtckcojkpghiclaaGreatDoor
set_option maxRecDepth 100000
theorem seven_cnt {k:Int} (h:cnt k = true):k = 0∨k = 1∨k = 2∨k = 3∨k = 4∨k = 5∨k = 6:=by
 simp [cnt] at h
 exact seven h
theorem fits_cnt {k n:Int} (h:fitsB k n = true):cnt k = true:=by
 by_cases hk:0≤k∧k < 7
 ·simp [cnt,hk]
 ·unfold fitsB at h
  rw [if_neg (by omega),if_neg (by omega),if_neg (by omega),if_neg (by omega),if_neg (by omega),if_neg (by omega),if_neg (by omega)] at h
  cases h
theorem bitsI_bound (k:Int) {n:Int} (h0:-9223372036854775808≤n) (h1:n≤9223372036854775807):0≤bitsI k n∧bitsI k n < 18446744073709551616:=by
 unfold bitsI zigI U64
 repeat' split
 all_goals omega
theorem ofI_bound (k:Int) {r:Int} (h0:0≤r) (h1:r < 18446744073709551616):-9223372036854775808≤ofI k r∧ofI k r≤9223372036854775807:=by
 unfold ofI unzigI S64 S32
 repeat' split
 all_goals omega
theorem of_bits {k n:Int} (h0:-9223372036854775808≤n) (h1:n≤9223372036854775807) (h:fitsB k n = true):ofI k (bitsI k n) = n:=by
 unfold bitsI
 rw [if_pos h]
 rcases seven_cnt (fits_cnt h) with rfl | rfl | rfl | rfl | rfl | rfl | rfl
 ·simp only [ofI,S64,U64];simp;split <;> split <;> omega
 ·simp only [ofI,unzigI,zigI];simp;split <;> split <;> omega
 ·simp [fitsB] at h;simp only [ofI,U64];simp;split <;> omega
 ·simp [fitsB] at h;simp only [ofI,U64];simp;rcases h with rfl | rfl <;> simp
 ·simp [fitsB] at h;simp only [ofI,U64];simp;split <;> omega
 ·simp only [ofI,S64,U64];simp;split <;> split <;> omega
 ·simp [fitsB] at h;simp only [ofI,U64,S32];simp;split <;> split <;> omega
theorem fits_of {k r:Int} (h0:0≤r) (h1:r < 18446744073709551616) (h:cnt k = true):fitsB k (ofI k r) = true:=by
 rcases seven_cnt h with rfl | rfl | rfl | rfl | rfl | rfl | rfl
 ·rfl
 ·rfl
 ·simp [fitsB,ofI];omega
 ·simp [fitsB,ofI];omega
 ·simp [fitsB,ofI];omega
 ·rfl
 ·simp [fitsB,ofI,S32];split <;> omega
theorem bits_one {k n m:Int} (n0:-9223372036854775808≤n) (n1:n≤9223372036854775807) (m0:-9223372036854775808≤m) (m1:m≤9223372036854775807)
  (h:fitsB k n = true) (h':fitsB k m = true):(bitsI k n == bitsI k m) = (n == m):=by
 by_cases e:n = m
 ·subst e;simp
 ·have e2:bitsI k n≠bitsI k m:=by
   intro hb
   have h1:=of_bits n0 n1 h
   rw [hb,of_bits m0 m1 h'] at h1
   exact e h1.symm
  have a1:(n == m) = false:=by simpa using e
  have a2:(bitsI k n == bitsI k m) = false:=by simpa using e2
  rw [a1,a2]
end Go.Proofs.YtckcojkpghiclaaGreatDoor
namespace Go.Proofs.YtckcojkpghiclaaGreatDoor.T12
set_option maxRecDepth 100000
open Go.Proofs.YtckcojkpghiclaaGreatDoor.T9 Go.Proofs.YtckcojkpghiclaaGreatDoor.T4
def runL (no:Int) (l:List UInt8):List UInt8:=recL no 2 0 l
def encN (kind no n:Int):List UInt8:=recL no (wireI kind) (bitsI kind n).toNat []
def bareN (kind n:Int):List UInt8:=(encN kind 1 n).drop 1
def valL (G:Int→Mg→List UInt8) (kind ref no:Int) (v:Vl'):List UInt8 :=
 if kind = 9 then runL no (G ref (v.M.headD (.mk []))) else if kind = 7∨kind = 8 then runL no v.s else encN kind no v.n
def entL (G:Int→Mg→List UInt8) (f:Df) (p:Vl' × Vl'):List UInt8:=runL f.no (valL G f.key 0 1 p.1++valL G f.kind f.ref 2 p.2)
def fieldL (G:Int→Mg→List UInt8) (f:Df) (a:So):List UInt8 :=
 if f.key = -1 then (if f.rep && cnt f.kind then runL f.no (a.V.map fun v=>bareN f.kind v.n).flatten else (a.V.map (valL G f.kind f.ref f.no)).flatten)
 else ((a.K.zip a.V).map (entL G f)).flatten
def slotL (fd:Int→Option Df) (G:Int→Mg→List UInt8) (a:So):List UInt8:=match fd a.no with | none=>[] | some f=>fieldL G f a
def encG (s:Sc) (G:Int→Mg→List UInt8) (m:Int) (x:Mg):List UInt8:=(x.F.map (slotL (byS s m) G)).flatten
def encB (s:Sc):Nat→Int→Mg→List UInt8
 | 0=>fun _ _=>[]
 | d+1=>encG s (encB s d)
def Mg.txt (m:Mg):Nat:=sm (m.F.attach.map fun ⟨s,hs⟩=>sm (s.K.attach.map fun ⟨v,hv⟩=>v.s.length+sm (v.M.attach.map fun ⟨x,hx⟩=>Mg.txt x))+sm (s.V.attach.map fun ⟨v,hv⟩=>v.s.length+sm (v.M.attach.map fun ⟨x,hx⟩=>Mg.txt x)))
termination_by SizeOf.sizeOf m
decreasing_by
 ·exact Mg.sz hs (.inl hv) hx
 ·exact Mg.sz hs (.inr hv) hx
def tV (v:Vl'):Nat:=v.s.length+sm (v.M.map Mg.txt)
def tS (s:So):Nat:=sm (s.K.map tV)+sm (s.V.map tV)
theorem Mg.txt_eq (m:Mg):Mg.txt m = sm (m.F.map tS):=by
 rw [Mg.txt,att m.F tS]
 rintro ⟨s,hs⟩
 show _+_ = tS s
 unfold tS
 rw [att s.K tV,att s.V tV]
 ·rintro ⟨v,hv⟩
  exact congrArg (v.s.length+·) (congrArg sm (att v.M Mg.txt _ fun x=>rfl))
 ·rintro ⟨v,hv⟩
  exact congrArg (v.s.length+·) (congrArg sm (att v.M Mg.txt _ fun x=>rfl))
theorem flat_len (l:List (List UInt8)):l.flatten.length = sm (l.map List.length):=by
 induction l with
 | nil=>rfl
 | cons x l ih=>rw [List.flatten_cons,List.length_append,ih];rfl
theorem rest_len (wire:Int) (num:Nat) (run:List UInt8) (hn:num < 18446744073709551616) (hr:run.length < 18446744073709551616):(restL wire num run).length≤10+run.length:=by
 unfold restL
 have h1:=vput_len10 hn
 have h2:=vput_len10 hr
 split
 ·rw [List.length_append];omega
 ·split
  ·rw [fixb_length];omega
  ·split
   ·rw [fixb_length];omega
   ·omega
theorem rec_len (no wire:Int) (num:Nat) (run:List UInt8) (hn:num < 18446744073709551616) (hr:run.length < 18446744073709551616):(recL no wire num run).length≤15+run.length:=by
 unfold recL
 split
 ·have:=putL_le5 (no:=no) (wire:=wire)
  have:=rest_len wire num run hn hr
  rw [List.length_append];omega
 ·simp
theorem run_len (no:Int) (l:List UInt8) (h:l.length < 18446744073709551616):(runL no l).length≤15+l.length:=rec_len _ _ _ _ (by omega) h
theorem bits_nat (k n:Int) (h:inI n):(bitsI k n).toNat < 18446744073709551616:=by
 have:=bitsI_bound k (n:=n) h.1 h.2
 omega
theorem encN_len (kind no n:Int) (h:inI n):(encN kind no n).length≤15:=rec_len _ _ _ [] (bits_nat kind n h) (by simp)
theorem sm_mem {α:Type} {l:List α} {g:α→Nat} {x:α} (h:x∈l):g x≤sm (l.map g):=le_sm (List.mem_map_of_mem h)
theorem zip_le (K V:List Vl') (f g:Vl'→Nat):sm ((K.zip V).map fun p=>f p.1+g p.2)≤sm (K.map f)+sm (V.map g):=by
 induction K generalizing V with
 | nil=>simp [sm]
 | cons k K ih =>
  cases V with
  | nil=>simp [sm]
  | cons v V =>
   have:=ih V
   simp only [List.zip_cons_cons,List.map_cons,sm]
   omega
def LenOk (G:Int→Mg→List UInt8):Prop:=∀ m x,MIn x→40 * x.cnt+Mg.txt x≤70368744177664→(G m x).length≤40 * x.cnt+Mg.txt x
theorem val_len {G:Int→Mg→List UInt8} (H:LenOk G) (kind ref no:Int) (v:Vl') (hi:VIn v) (h:40 * cV v+tV v≤70368744177664):(valL G kind ref no v).length+20≤40 * cV v+tV v:=by
 have hs:v.s.length≤tV v:=by unfold tV;omega
 have hc:1≤cV v:=by unfold cV;omega
 unfold valL
 split
 ·obtain ⟨n,s,M⟩:=v
  cases M with
  | nil =>
   have h0:=H ref (.mk []) (.of fun s hs=>by cases hs) (by rw [Mg.cnt_eq,Mg.txt_eq];simp [Mg.F,sm])
   have h1:=run_len no (G ref (.mk [])) (by rw [Mg.cnt_eq,Mg.txt_eq] at h0;simp [Mg.F,sm] at h0;rw [h0];simp)
   rw [Mg.cnt_eq,Mg.txt_eq] at h0
   simp [Mg.F,sm] at h0
   show (runL no (G ref (Mg.mk []))).length+20≤_
   rw [h0] at h1 ⊢
   simp at h1
   omega
  | cons x M =>
   have e1:cV (⟨n,s,x :: M⟩:Vl') = 1+((1+x.cnt)+sm (M.map fun x=>1+x.cnt)):=rfl
   have e2:tV (⟨n,s,x :: M⟩:Vl') = s.length+(Mg.txt x+sm (M.map Mg.txt)):=rfl
   have h0:=H ref x (hi.2 x (by simp)) (by omega)
   have h1:=run_len no (G ref x) (by omega)
   show (runL no (G ref x)).length+20≤_
   omega
 ·split
  ·have:=run_len no v.s (by omega)
   omega
  ·have:=encN_len kind no v.n hi.1.1
   omega
theorem fl_len (c t:Nat) {α:Type} (l:List α) (e:α→List UInt8) (f g:α→Nat) (hc:sm (l.map f)≤c) (ht:sm (l.map g)≤t) (h:∀ a∈l,(e a).length≤40 * f a+g a):(l.map e).flatten.length≤40 * c+t:=by
 rw [flat_len,List.map_map]
 have h1:sm (l.map (List.length ∘ e))≤sm (l.map fun a=>40 * f a+g a):=sm_mono h
 have h2:sm (l.map fun a=>40 * f a+g a) = sm (l.map fun a=>40 * f a)+sm (l.map g):=sm_add l _ _
 have h3:∀ l:List α,sm (l.map fun a=>40 * f a) = 40 * sm (l.map f):=fun l=>by
  induction l with
  | nil=>rfl
  | cons x l ih=>simp only [List.map_cons,sm,ih];omega
 rw [h3] at h2
 omega
theorem field_len {G:Int→Mg→List UInt8} (H:LenOk G) (f:Df) (a:So) (hi:SIn a) (h:40 * cS a+tS a≤70368744177664):(fieldL G f a).length≤40 * cS a+tS a:=by
 have ec:cS a = 1+(sm (a.K.map cV)+sm (a.V.map cV)):=rfl
 have et:tS a = sm (a.K.map tV)+sm (a.V.map tV):=rfl
 have hV:∀ v∈a.V,40 * cV v+tV v≤70368744177664:=fun v hv=>by
  have h1:=sm_mem (g:=cV) hv
  have h2:=sm_mem (g:=tV) hv
  omega
 have hK:∀ v∈a.K,40 * cV v+tV v≤70368744177664:=fun v hv=>by
  have h1:=sm_mem (g:=cV) hv
  have h2:=sm_mem (g:=tV) hv
  omega
 unfold fieldL
 split
 ·split
  ·have h1:(a.V.map fun v=>bareN f.kind v.n).flatten.length≤40 * sm (a.V.map cV)+0:=fl_len _ 0 a.V _ cV (fun _=>0) (Nat.le_refl _) (by
     have:∀ l:List Vl',sm (l.map fun _=>0) = 0:=fun l=>by induction l with | nil=>rfl | cons x l ih=>simp only [List.map_cons,sm,ih]
     rw [this];exact Nat.le_refl 0) fun v hv=>by
    have:=encN_len f.kind 1 v.n (hi.2 v (.inr hv)).1.1
    have hc:1≤cV v:=by unfold cV;omega
    unfold bareN
    rw [List.length_drop]
    omega
   have:=run_len f.no _ (show (a.V.map fun v=>bareN f.kind v.n).flatten.length < 18446744073709551616 by omega)
   omega
  ·have:=fl_len _ _ a.V (valL G f.kind f.ref f.no) cV tV (Nat.le_refl _) (Nat.le_refl _) fun v hv=>by
    have:=val_len H f.kind f.ref f.no v (hi.2 v (.inr hv)) (hV v hv)
    omega
   omega
 ·have:=fl_len _ _ (a.K.zip a.V) (entL G f) (fun p=>cV p.1+cV p.2) (fun p=>tV p.1+tV p.2) (zip_le a.K a.V cV cV) (zip_le a.K a.V tV tV) fun p hp=>by
   obtain ⟨k,v⟩:=p
   have hk:=List.of_mem_zip hp
   have h1:=val_len H f.key 0 1 k (hi.2 k (.inl hk.1)) (hK k hk.1)
   have h2:=val_len H f.kind f.ref 2 v (hi.2 v (.inr hk.2)) (hV v hk.2)
   have h3:=hK k hk.1
   have h4:=hV v hk.2
   have:=run_len f.no (valL G f.key 0 1 k++valL G f.kind f.ref 2 v) (by rw [List.length_append];omega)
   rw [List.length_append] at this
   show (runL f.no (valL G f.key 0 1 k++valL G f.kind f.ref 2 v)).length≤40 * (cV k+cV v)+(tV k+tV v)
   omega
  omega
theorem enc_len (s:Sc):∀ d,LenOk (encB s d)
 | 0=>fun _ _ _ _=>Nat.zero_le _
 | d+1=>fun m x hi h=>by
  rw [Mg.cnt_eq,Mg.txt_eq] at h ⊢
  refine fl_len _ _ x.F (slotL (byS s m) (encB s d)) cS tS (Nat.le_refl _) (Nat.le_refl _) fun a ha=>?_
  have h1:=sm_mem (g:=cS) ha
  have h2:=sm_mem (g:=tS) ha
  unfold slotL
  split
  ·simp
  ·exact field_len (enc_len s d) _ a (hi.slot ha) (by omega)
def TxtOk (G:Int→Mg→Bool) (N:Int→Mg→Mg):Prop:=∀ r x,G r x = true→Mg.txt (N r x)≤Mg.txt x
theorem txt_val {G:Int→Mg→Bool} {N:Int→Mg→Mg} (g:TxtOk G N) {kind ref:Int} {v:Vl'} (h:askG G kind ref v = true):tV (norV N ref v)≤tV v:=by
 by_cases h9:kind = 9
 ·subst h9
  obtain ⟨n,s,M⟩:=v
  obtain ⟨h1,h2,x,h3,hx⟩:=ask_nine h
  simp only at h1 h2 h3
  subst h1 h2 h3
  have:=g _ _ hx
  simp only [tV,norV,List.map_cons,List.map_nil,sm];omega
 ·have hM:=ask_of h h9
  obtain ⟨n,s,M⟩:=v
  simp only at hM
  subst hM
  exact Nat.le_refl _
theorem txt_slot {G:Int→Mg→Bool} {N:Int→Mg→Mg} (g:TxtOk G N) {f:Df} {a:So} (h:fillG G f a = true):tS (norS N f a)≤tS a:=by
 unfold fillG at h
 simp only [Bool.and_eq_true,List.all_eq_true] at h
 obtain ⟨h1,h2,h3⟩:=h
 have hv:∀ v∈a.V,tV (norV N f.ref v)≤tV v:=fun v hv=>txt_val g (h3 v hv)
 unfold norS tS
 split
 ·have e:sm ((a.V.map (norV N f.ref)).map tV)≤sm (a.V.map tV):=by
   rw [List.map_map]
   exact sm_mono hv
  show sm []+sm ((a.V.map (norV N f.ref)).map tV)≤_
  simp only [sm]
  omega
 ·rename_i hk
  unfold manyB at h1
  rw [if_neg hk] at h1
  exact meas_map (beq_iff_eq.1 h1) tV (fun v=>by simp [tV,bare,sm]) hv
theorem txtN_step {s:Sc} {G:Int→Mg→Bool} {N:Int→Mg→Mg} (g:TxtOk G N):TxtOk (isG s G) (norG s N):=by
 intro m x h
 unfold isG at h
 rw [Bool.and_eq_true] at h
 obtain ⟨h0,h⟩:=h
 have hno:=slots_no h
 obtain ⟨h1,-,h3⟩:=slots_iff.1 h
 have slot:∀ b∈(norG s N m x).F,∃ a∈x.F,∃ f,byS s m a.no = some f∧fillG G f a = true∧b = norS N f a:=by
  intro b hb
  obtain ⟨a,ha,e⟩:=(mem_norF hno).1 hb
  obtain ⟨f,hf,ht,rfl⟩:=norO_some e
  obtain ⟨f',hf',gs⟩:=h1 a ha
  rw [hf] at hf'
  obtain rfl:=Option.some.inj hf'
  exact ⟨a,ha,f,hf,gs,rfl⟩
 rw [Mg.txt_eq,Mg.txt_eq]
 refine sm_inj _ _ (fun b=>(x.F.find? fun s=>s.no == b.no).getD b) _ _ (fun b hb=>?_) ?_
 ·obtain ⟨a,ha,f,hf,gs,rfl⟩:=slot b hb
  simp only [norS_no,find_no hno ha,Option.getD_some]
  exact ⟨ha,txt_slot g gs⟩
 ·refine List.Pairwise.imp_of_mem (fun {b c} hb hc hbc=>?_) (rise_norF (byS s m) N x.F)
  obtain ⟨a,ha,f,hf,gs,rfl⟩:=slot b hb
  obtain ⟨a',ha',f',hf',gs',rfl⟩:=slot c hc
  simp only [norS_no,find_no hno ha,find_no hno ha',Option.getD_some]
  intro e
  subst e
  simp [ltNo,norS_no] at hbc
theorem nor_txt (s:Sc):∀ d,TxtOk (isB s d) (norB s d)
 | 0=>fun _ _ h=>by cases h
 | d+1=>txtN_step (nor_txt s d)
theorem norO_self {s:Sc} {d:Nat} {m:Int} {x:Mg} (h:isB s (d+1) m x = true) (hn:norB s (d+1) m x = x) {a:So} (ha:a∈x.F):norO (byS s m) (norB s d) a = some a:=by
 have hno:=slots_no (isB_slots h)
 have e:norF (byS s m) (norB s d) x.F = x.F:=congrArg Mg.F hn
 have hb:a∈norF (byS s m) (norB s d) x.F:=by rw [e];exact ha
 obtain ⟨b,hb1,hb2⟩:=(mem_norF hno).1 hb
 have en:=norO_no hb2
 have:a = b:=by
  have h1:=find_no hno ha
  have h2:=find_no hno hb1
  rw [← en,h1] at h2
  exact Option.some.inj h2
 rw [← this] at hb2
 exact hb2
theorem rec_ne {no wire:Int} {num:Nat} {run:List UInt8} (h:putB no wire = true):2≤(recL no wire num run).length:=by
 have h1:∀ n,1≤(vput n).length:=fun n=>by rw [vput_length];unfold vlong;split <;> omega
 rw [recL_yes h,putL_yes h,List.length_append]
 have h2:=h1 (putN no wire)
 have h3:1≤(restL wire num run).length:=by
  unfold restL
  split
  ·have:=h1 run.length
   rw [List.length_append];omega
  ·split
   ·rw [fixb_length];omega
   ·split
    ·rw [fixb_length];omega
    ·exact h1 num
 omega
theorem wire_known {k:Int} (h:cnt k = true):knownB (wireI k) = true:=by
 rcases seven_cnt h with rfl | rfl | rfl | rfl | rfl | rfl | rfl <;> rfl
theorem put_run {no:Int} (h:1≤no∧no≤536870911):putB no 2 = true:=by unfold putB knownB;simp [h]
theorem put_num {no k:Int} (h:1≤no∧no≤536870911) (hk:cnt k = true):putB no (wireI k) = true:=by unfold putB;rw [wire_known hk];simp [h]
theorem ask_cnt {G:Int→Mg→Bool} {kind ref:Int} {v:Vl'} (h:askG G kind ref v = true) (h7:kind≠7) (h8:kind≠8) (h9:kind≠9):cnt kind = true:=by
 unfold askG at h
 rw [if_neg h7,if_neg h8,if_neg h9] at h
 simp only [Bool.and_eq_true] at h
 exact fits_cnt h.1
theorem fno_ok {s:Sc} (h:ScMay s) {m no:Int} {f:Df} (hf:byS s m no = some f):(1≤f.no∧f.no≤536870911)∧f.no = no:=by
 unfold byS msgAt at hf
 split at hf
 ·simp at hf
 ·cases hm:s.M[m.toNat]? with
  | none=>rw [hm] at hf;simp at hf
  | some d =>
   rw [hm] at hf
   simp only [Option.bind_some] at hf
   have h1:=((h.M d (List.mem_of_getElem? hm)).each f (List.mem_of_find?_eq_some hf)).num
   have h2:=List.find?_some hf
   unfold numberB at h1
   simp only [Bool.and_eq_true,decide_eq_true_eq] at h1
   exact ⟨h1.1,by simpa using h2⟩
end Go.Proofs.YtckcojkpghiclaaGreatDoor.T12
namespace Go.Proofs.YtckcojkpghiclaaGreatDoor.T12
set_option maxRecDepth 100000
open Go.RowKit
open Go.Proofs.YtckcojkpghiclaaGreatDoor.T9
theorem step_app_sl {P:Program} {w:World} {ops:Array Oper} {o:Oper} {a:Act} {K:Act→World→Prop} {Q:Exit→Act→World→Prop} {E:Prop}
  (hg:o.guard = none) (s x:Operand) (t:TypeId) (hop:o.op = .call { callee:=.builtin .append,args:=#[s,x],argTypes:=#[t,t] })
  (base:Nat) (e:TypeId) (i:TypeInfo) (z:Value) (size bytes:Nat) (ht:P.underlying t = some (.slice e)) (hi:P.info? e = some i) (hz:i.zero = some z)
  (hsize:i.size = size) (hby:i.bytes = bytes) (hzs:z.cells.size = size) (hsz:0 < size)
  (v:Value) (n:Nat) (xs:List Value) (hs:a.eval s = v) (hown:w.ownsRow base e size v n xs)
  (A:Option Addr) (m c:Nat) (news:List Value) (hx:a.eval x = .slice A m c) (hr:Sl w A m c size news) (h1:∀ u∈news,u.oneCell' = true)
  (h63:n+m≤maxLen) (hbytes:(n+m) * bytes≤140737488355328) (hbase:base≤w.heap.size)
  (h:∀ v' w',w'.ownsRow base e size v' (n+m) (xs++news)→w.grownBy w' v.ownBlock→K (a.put o.dst v') w') :
  if Region.wanted o (yielded ops a.tmps) = true then Oper.wp P o a w K Q else E:=by
 have key:∃ v' w',(Builtin.append_ #[t,t] o.type #[v,.slice A m c]).run P w = .ok v' w'∧w'.ownsRow base e size v' (n+m) (xs++news)∧w.grownBy w' v.ownBlock:=by
  cases A with
  | none =>
   obtain ⟨rfl,rfl,rfl⟩:=hr.none_len
   exact ⟨v,w,run_append_owned_none (P:=P) w base t o.type e i size ht hi v n xs hown,by simpa using hown,World.grownBy.refl w _⟩
  | some ad =>
   obtain ⟨v',w',hrun,h2,h3,_⟩:=run_append_own (P:=P) w base t o.type e i z size bytes ht hi hz hsize hby hzs hsz v n xs hown ad m c news hr.len (hr.cell ad rfl) h1 h63 hbytes hbase
   exact ⟨v',w',hrun,h2,h3⟩
 obtain ⟨v',w',hrun,h2,h3⟩:=key
 have hw:Region.wanted o (yielded ops a.tmps) = true:=by simp [Region.wanted,hg]
 rw [if_pos hw]
 have hex:(execOp a.eval o).run P w = .ok (.value v') w':=by simp [execOp,hop,resolve,invoke,builtin,hs,hx,hrun,Result.andThen]
 unfold Oper.wp
 rw [hex]
 exact h v' w' h2 h3
def g12 (v:Vl'):Nat:=sm (v.M.map Mg.txt)
theorem tV_g (v:Vl'):tV v = v.s.length+g12 v:=rfl
theorem tS_split (s:So):tS s = sm ((s.K++s.V).map tV):=by
 unfold tS
 rw [← sm_append,← List.map_append]
theorem cnt_in {m:Mg} {s:So} {v:Vl'} {x:Mg} (hs:s∈m.F) (hv:v∈s.K++s.V) (hx:x∈v.M):x.cnt≤m.cnt:=by
 have h1:=cS_le hs
 have h2:=cV_le (List.mem_append.1 hv)
 have h3:=cnt_le hx
 omega
theorem txt_mem {m:Mg} {s:So} {v:Vl'} {x:Mg} (hs:s∈m.F) (hv:v∈s.K++s.V) (hx:x∈v.M):Mg.txt x≤Mg.txt m:=by
 have h1:=sm_mem (g:=tS) hs
 have h2:=sm_mem (g:=tV) hv
 have h3:=sm_mem (g:=Mg.txt) hx
 rw [Mg.txt_eq m]
 rw [tS_split] at h1
 rw [tV_g] at h2
 unfold g12 at h2
 omega
def TxtH (B D:Nat):Prop:=∀ (m:Mg) (u:Value) (w:World),B≤w.heap.size→MRd B w D m u→m.cnt≤100000→Mg.txt m≤4611686018427387904→Calls Tryz.prog 57 #[.agg #[u]] w fun e w'=>e = .returned (.int .i64 (Mg.txt m:Nat))∧Below w.heap.size w w'
set_option maxRecDepth 1000000 in
set_option maxHeartbeats 8000000 in
theorem txt_step {B D:Nat} (H:TxtH B D):TxtH B (D+1):=by
 rintro m u w hB ⟨u',hu,hl⟩ hcm htm
 simp only [List.cons.injEq,and_true] at hu
 subst hu
 obtain ⟨i0,hi,hz0,hz1,hz2⟩:=info_parts info_val
 obtain ⟨A,c,xs,rfl,hs,hbl,hr,hn⟩:=hl.open_
 have X1:=heap_alloc_new w (.cells #[.slice A m.F.length c] 31)
 have LBD:=below_new w (.cells #[.slice A m.F.length c] 31)
 have HS:=Lib.hid hs
 have HR:=Lib.hid hr
 have HBB:=Lib.hid hbl
 have HH:=Lib.hid H
 have HTM:=Lib.hid htm
 clear hs hr hl hbl H
 go_enter Tryz.func57,Tryz.ntmps57
 go_wp2
 obtain ⟨W0,hW0⟩:∃ W,W = w.alloc (.cells #[.slice A m.F.length c] 31):=⟨_,rfl⟩
 rw [← hW0] at X1 LBD ⊢
 have hX:=box_lt X1
 clear hW0
 have hsz:sm (m.F.map tS)≤4611686018427387904:=by rw [← Mg.txt_eq];exact htm
 go_loopw [3,4,5,6,7] (fun n i l k j wr=>∃ p:Nat,i = .int .i64 p∧p≤m.F.length∧n = .int .i64 ((sm ((m.F.take p).map tS):Nat):Int)∧Below W0.heap.size W0 wr) (fun _ i _ _ _ _=>m.F.length - (intOf i).toNat)
 case atStart=>exact ⟨0,rfl,by omega,rfl,Below.refl _ _⟩
 case round =>
  obtain ⟨p,rfl,hp,rfl,hbw⟩:=hrel
  have g0:=bx1 (box_on X1 hbw)
  have HBW:=Lib.hid (LBD.trans (hbw.mono LBD.size))
  by_cases hlt:p < m.F.length
  ·obtain ⟨s,hs⟩:∃ s,m.F[p]? = some s:=⟨_,List.getElem?_eq_getElem hlt⟩
   obtain ⟨ad,x,y,z,rfl,hga,hcc,c0,c1,c2⟩:=row3 sAt.len (sl_low HS.out HBB.out (Lo.below HBW.out hB)) (HR.out.imp fun a cs h=>SRd.low (Lo.below HBW.out hB) h) hs
   obtain ⟨u1,u2,hu,hlk,hlv⟩:=hcc
   simp only [List.cons.injEq,and_true] at hu
   obtain ⟨rfl,rfl,rfl⟩:=hu
   obtain ⟨AK,cK,xsK,rfl,hsK,hbK,hrK,hnK⟩:=hlk.open_
   obtain ⟨AV,cV_,xsV,rfl,hsV,hbV,hrV,hnV⟩:=hlv.open_
   have hadB:ad.block < B:=HBB.out ad rfl (by omega)
   have hadX:(ad.add (p * 3)).block < W0.heap.size:=by rw [add_same_block];omega
   have hcs:=cS_le (List.mem_of_getElem? hs)
   have hcl:=cS_len (s:=s)
   have h11:=Rows.one vAt.one hrK
   have h12_:=Rows.one vAt.one hrV
   have HSK:=Lib.hid hsK
   have HSV:=Lib.hid hsV
   have HRK:=Lib.hid (And.intro hrK hrV)
   have HBK:=Lib.hid (And.intro hbK hbV)
   have hst:=sm_take_next tS hs
   have hle:=sm_take_le m.F (p+1) tS
   rw [tS_split] at hst
   have HCN:=Lib.hid (fun v x (hv:v∈s.K++s.V) (hx:x∈v.M)=>Nat.le_trans (cnt_in (List.mem_of_getElem? hs) hv hx) hcm)
   have HTN:=Lib.hid (fun v x (hv:v∈s.K++s.V) (hx:x∈v.M)=>Nat.le_trans (txt_mem (List.mem_of_getElem? hs) hv hx) HTM.out)
   obtain ⟨N,hN⟩:∃ N,N = sm ((m.F.take p).map tS):=⟨_,rfl⟩
   have hN':sm (List.take p (List.map tS m.F)) = N:=by rw [hN,List.map_take]
   rw [← hN] at hst
   (try rw [hN']);(try rw [← hN])
   have i1:(0:Int)≤(p:Int):=by omega
   have i2:(p:Int) < (m.F.length:Int):=by omega
   clear hN hN' hlk hlv hs hsK hbK hrK hsV hbV hrV c0
   go_wp2_with fail
   refine wp_region_held_drew (S:=(fun w'=>w'.cell? ⟨w.heap.size,0,none⟩ = some (.slice (some ad) m.F.length c)∧w'.cell? ⟨(ad.add (p * 3)).block,(ad.add (p * 3)).off+1,none⟩ = some (.slice AK s.K.length cK)∧w'.cell? ⟨(ad.add (p * 3)).block,(ad.add (p * 3)).off+2,none⟩ = some (.slice AV s.V.length cV_))) (by kernel_rfl) (⟨g0,c1,c2⟩) (fun hHeld=>?_)
   refine tk 0 ?_
   refine tk 1 ?_
   refine tk 2 ?_
   refine tk 3 ?_
   refine tk 4 ?_
   refine tk 5 ?_
   refine tk 7 ?_
   refine tk 8 ?_
   refine tk 9 ?_
   refine tk 10 ?_
   refine tk 11 ?_
   refine tk 12 ?_
   refine wpAnyH_ready (rs:=[6]) (by kernel_rfl) (by simp) ?_
   refine AllReadyH.cons rfl (fun K hK=>?_) AllReadyH.nil
   refine step_app_sl rfl _ _ 65 rfl W0.heap.size 81 i0 (.agg #[.int .i64 0,.string ⟨#[]⟩,.slice none 0 0]) 3 48 Tryz.underlying65 hi hz0 hz1 hz2 rfl (by omega) (.slice none 0 0) 0 [] (by simp [Act.eval,Act.put]) (World.ownsRow_nil _ _ _ _) AK s.K.length cK xsK (by simp [Act.eval,Act.put]) (HSK.out.on ((Below.refl _ _).drew)) h11 (by unfold maxLen;omega) (by omega) hbw.size ?_
   intro v2 w2 hown2 hg2
   rw [Nat.zero_add] at hown2
   have hb2:Below wr.heap.size wr w2:=((Below.refl _ _).drew).trans ⟨hg2.os,hg2.tape,hg2.output,hg2.size,fun k hk=>hg2.block k hk (by simp [Value.ownBlock])⟩
   have HV2:=Lib.hid (HSV.out.on hb2)
   refine hK.out _ _ (⟨cell_on hb2 g0,cell_on hb2 c1,cell_on hb2 c2⟩) (fun hHeld=>?_)
   clear hK K
   refine wpAnyH_ready (rs:=[13]) (by kernel_rfl) (by simp) ?_
   refine AllReadyH.cons rfl (fun K hK=>?_) AllReadyH.nil
   refine step_app_sl rfl _ _ 65 rfl W0.heap.size 81 i0 (.agg #[.int .i64 0,.string ⟨#[]⟩,.slice none 0 0]) 3 48 Tryz.underlying65 hi hz0 hz1 hz2 rfl (by omega) v2 s.K.length _ (by simp [Act.eval,Act.put]) hown2 AV s.V.length cV_ xsV (by simp [Act.eval,Act.put]) HV2.out h12_ (by unfold maxLen;omega) (by omega) (Nat.le_trans hbw.size hb2.size) ?_
   intro v3 w3 hown3 hg3
   have hb3:Below W0.heap.size w2 w3:=below_app hown2 hg3 (Nat.le_trans hbw.size hb2.size)
   have k1:w3.cell? ⟨w.heap.size,0,none⟩ = some (.slice (some ad) m.F.length c):=(World.cell?_of_block (hb3.block _ hX)).trans (cell_on hb2 g0)
   have k2:=(World.cell?_of_block (a:=⟨(ad.add (p * 3)).block,(ad.add (p * 3)).off+1,none⟩) (hb3.block _ hadX)).trans (cell_on hb2 c1)
   have k3:=(World.cell?_of_block (a:=⟨(ad.add (p * 3)).block,(ad.add (p * 3)).off+2,none⟩) (hb3.block _ hadX)).trans (cell_on hb2 c2)
   refine hK.out _ _ (⟨k1,k2,k3⟩) (fun hHeld=>?_)
   clear hK K
   refine tk 14 ?_
   refine wpAnyH_done (by kernel_rfl) ?_ _
   obtain ⟨L,hL⟩:∃ L,s.K++s.V = L:=⟨_,rfl⟩
   have HB2:=Lib.hid ((HBW.out.trans (hb2.mono HBW.out.size)).trans (hb3.mono LBD.size))
   have HB3:=Lib.hid ((hbw.trans (hb2.mono hbw.size)).trans hb3)
   have hLl:s.K.length+s.V.length = L.length:=by rw [← hL,List.length_append]
   rw [hLl] at hown3
   have hr7:T9.Rows (VAt (Rd B w3) D) L (xsK++xsV):=by
    rw [← hL]
    have hlo:Lo B wr w3:=(Lo.below hb2 (Nat.le_trans hB HBW.out.size)).trans (Lo.of (hb3.mono (Nat.le_trans hB LBD.size)))
    exact (HRK.out.1.imp fun a cs h=>VRd.low hlo h).append (HRK.out.2.imp fun a cs h=>VRd.low hlo h)
   rw [hL] at hst HCN HTN
   have HST:=Lib.hid hst
   have hmx:N+sm (L.map tV)≤4611686018427387904:=by omega
   have hLm:L.length≤100000:=by omega
   obtain ⟨A7,c7,rfl,hs7⟩:=Sl.of_own hown3
   have HS7:=Lib.hid hs7
   have HR7:=Lib.hid hr7
   clear hown2 hown3 hr7 hs7 hL hb2 hb3 hg2 hg3 g0 c1 c2 k1 k2 k3 hbw hst hle h11 h12_ HV2 hHeld hLl
   go_wp2
   go_loopw [3,6,7] (fun n k j wx=>∃ q:Nat,k = .int .i64 q∧q≤L.length∧n = .int .i64 ((N+sm ((L.take q).map tV):Nat):Int)∧Below w3.heap.size w3 wx) (fun _ k _ _=>L.length - (intOf k).toNat)
   case atStart=>exact ⟨0,rfl,by omega,by simp only [List.take_zero,List.map_nil,sm];rfl,Below.refl _ _⟩
   case round =>
    obtain ⟨q,rfl,hq,rfl,hbx⟩:=hrel
    by_cases hql:q < L.length
    ·obtain ⟨v,hv⟩:∃ v,L[q]? = some v:=⟨_,List.getElem?_eq_getElem hql⟩
     obtain ⟨a7,x,y,z,rfl,hga7,hcc,c0,c1,c2⟩:=row3 vAt.len (HS7.out.on hbx) (HR7.out.imp fun a cs h=>VRd.low (Lo.below hbx (Nat.le_trans hB HB2.out.size)) h) hv
     obtain ⟨um,hu,hlm⟩:=hcc
     simp only [List.cons.injEq,and_true] at hu
     obtain ⟨rfl,rfl,rfl⟩:=hu
     obtain ⟨AM,cM,xsM,rfl,hsM,hbM,hrM,hnM⟩:=hlm.open_
     have HSM:=Lib.hid hsM
     have HRM:=Lib.hid hrM
     have HBM:=Lib.hid hbM
     have hst2:=sm_take_next tV hv
     have hle2:=sm_take_le L (q+1) tV
     have HCM:=Lib.hid (fun x hx=>HCN.out v x (List.mem_of_getElem? hv) hx)
     have HTT:=Lib.hid (fun x hx=>HTN.out v x (List.mem_of_getElem? hv) hx)
     have HBX:=Lib.hid hbx
     have C2:=Lib.hid c2
     have hlt7:a7.block < wr.heap.size:=hga7
     obtain ⟨M0,hM0⟩:∃ M0,M0 = N+sm ((L.take q).map tV):=⟨_,rfl⟩
     have hM0':N+sm (List.take q (List.map tV L)) = M0:=by rw [hM0,List.map_take]
     have HS2:=Lib.hid (show N+sm ((L.take (q+1)).map tV) = M0+v.s.length+sm (v.M.map Mg.txt) by rw [hst2,hM0];show N+(_+(v.s.length+sm (v.M.map Mg.txt))) = _;omega)
     have hmx2:M0+v.s.length+sm (v.M.map Mg.txt)≤4611686018427387904:=by rw [← HS2.out];omega
     have hsl:(tx v.s).size = v.s.length:=by simp [tx,ByteArray.size]
     (try rw [hM0']);(try rw [← hM0])
     clear hsM hrM hbM hlm hv c0 hbx hst2 hle2 hM0 hM0'
     go_wp2
     (try rw [hsl])
     go_loopw [3,7] (fun n j wy=>∃ t:Nat,j = .int .i64 t∧t≤v.M.length∧n = .int .i64 ((M0+v.s.length+sm ((v.M.take t).map Mg.txt):Nat):Int)∧Below wr.heap.size wr wy) (fun _ j _=>v.M.length - (intOf j).toNat)
     case atStart=>exact ⟨0,rfl,by omega,by simp only [List.take_zero,List.map_nil,sm];(try rfl);(try go_num),Below.refl _ _⟩
     case round =>
      obtain ⟨t,rfl,ht,rfl,hby⟩:=hrel
      have k2:=cell_on hby C2.out
      clear c2
      by_cases htl:t < v.M.length
      ·obtain ⟨x,hx⟩:∃ x,v.M[t]? = some x:=⟨_,List.getElem?_eq_getElem htl⟩
       obtain ⟨am,ux,rfl,hgam,hcx,k0⟩:=row1 MAt.len (sl_low HSM.out HBM.out (Lo.below hby (Nat.le_trans hB (Nat.le_trans HB2.out.size HBX.out.size)))) (HRM.out.imp fun a cs h=>MRd.low (Lo.below hby (Nat.le_trans hB (Nat.le_trans HB2.out.size HBX.out.size))) h) hx
       have HCX:=Lib.hid (HH.out x ux wr (Nat.le_trans hB (Nat.le_trans HB2.out.size (Nat.le_trans HBX.out.size hby.size))) hcx (HCM.out x (List.mem_of_getElem? hx)) (HTT.out x (List.mem_of_getElem? hx)))
       have hst3:=sm_take_next Mg.txt hx
       have hle3:=sm_take_le v.M (t+1) Mg.txt
       obtain ⟨P0,hP0⟩:∃ P0,P0 = sm ((v.M.take t).map Mg.txt):=⟨_,rfl⟩
       have hP0':sm (List.take t (List.map Mg.txt v.M)) = P0:=by rw [hP0,List.map_take]
       rw [← hP0] at hst3
       have HS3:=Lib.hid hst3
       have hb3:M0+v.s.length+(P0+Mg.txt x)≤4611686018427387904:=by omega
       have HBY:=Lib.hid hby
       (try rw [hP0']);(try rw [← hP0])
       clear hcx hx hby hst3 hle3 hP0 hP0'
       go_wp2_with (go_at_call 57;refine HCX.out.mono ?_;rintro e w9 ⟨rfl,hb9⟩)
       refine ⟨⟨t+1,by go_num,by omega,?_,HBY.out.trans (hb9.mono HBY.out.size)⟩,by simp [intOf];omega⟩
       rw [HS3.out]
       go_num
      ·obtain rfl:t = v.M.length:=by omega
       go_wp2
       refine ⟨⟨q+1,by go_num,by omega,?_,HBX.out.trans (hby.mono HBX.out.size)⟩,by simp [intOf];omega⟩
       rw [HS2.out]
       (try rw [List.take_length])
       (try rfl)
    ·obtain rfl:q = L.length:=by omega
     go_wp2
     refine ⟨⟨p+1,by go_num,by omega,?_,HB3.out.trans (hbx.mono HB3.out.size)⟩,by simp [intOf];omega⟩
     rw [HST.out]
     (try rw [List.take_length])
     (try rfl)
  ·obtain rfl:p = m.F.length:=by omega
   go_wp2
   go_ret
   exact ⟨by rw [Mg.txt_eq];(try rw [List.take_length]);(try rfl),HBW.out⟩
theorem txt_any (B:Nat):∀ D,TxtH B D
 | 0=>fun _ _ _ _ h _ _=>h.elim
 | D+1=>txt_step (txt_any B D)
theorem txt_le (m:Mg):MIn m→Mg.txt m≤140737488351232 * m.cnt:=by
 refine Mg.ind (P:=fun m=>MIn m→Mg.txt m≤140737488351232 * m.cnt) (fun m ih hi=>?_) m
 rw [Mg.txt_eq,Mg.cnt_eq]
 have hv:∀ s∈m.F,∀ v,v∈s.K∨v∈s.V→tV v≤140737488351232 * cV v:=by
  intro s hs v hv
  have h1:=((hi.slot hs).2 v hv).1.2
  have h2:sm (v.M.map Mg.txt)≤sm (v.M.map fun x=>140737488351232 * (1+x.cnt)):=sm_mono fun x hx=>by
   have:=ih s hs v hv x hx (((hi.slot hs).2 v hv).2 x hx)
   omega
  have h3:∀ l:List Mg,sm (l.map fun x=>140737488351232 * (1+x.cnt)) = 140737488351232 * sm (l.map fun x=>1+x.cnt):=fun l=>by
   induction l with
   | nil=>rfl
   | cons x l ih=>simp only [List.map_cons,sm,ih];omega
  rw [h3] at h2
  unfold tV cV
  omega
 have hm:∀ (l:List Vl'),(∀ v∈l,tV v≤140737488351232 * cV v)→sm (l.map tV)≤140737488351232 * sm (l.map cV):=fun l h=>by
  induction l with
  | nil=>exact Nat.zero_le _
  | cons x l ih=>have:=h x (by simp);have:=ih fun v hv=>h v (by simp [hv]);simp only [List.map_cons,sm];omega
 have hs:∀ l:List So,(∀ s∈l,tS s≤140737488351232 * cS s)→sm (l.map tS)≤140737488351232 * sm (l.map cS):=fun l h=>by
  induction l with
  | nil=>exact Nat.zero_le _
  | cons x l ih=>have:=h x (by simp);have:=ih fun v hv=>h v (by simp [hv]);simp only [List.map_cons,sm];omega
 refine hs _ fun s hs'=>?_
 have h1:=hm s.K fun v hv'=>hv s hs' v (.inl hv')
 have h2:=hm s.V fun v hv'=>hv s hs' v (.inr hv')
 unfold tS cS
 omega
theorem of_own_ge {w:World} {base:Nat} {e:TypeId} {v:Value} {l:List UInt8} (h:w.ownsRow base e 1 v l.length (bs l)):∃ A c,v = .slice A l.length c∧SlB w A c l∧∀ a,A = some a→base≤a.block:=by
 obtain ⟨A,c,rfl,hs⟩:=SlB.of_own h
 refine ⟨A,c,rfl,hs,fun a ha=>?_⟩
 subst ha
 exact (own_blk h a.block rfl).1
def By (b:Nat) (w:World) (l:List UInt8) (v:Value):Prop:=∃ A c,v = .slice A l.length c∧SlB w A c l∧∀ a,A = some a→0 < l.length→b≤a.block
theorem By.less {b b':Nat} {w:World} {l:List UInt8} {v:Value} (h:By b w l v) (hb:b'≤b):By b' w l v:=by
 obtain ⟨A,c,e,h1,h2⟩:=h
 exact ⟨A,c,e,h1,fun a ha hl=>Nat.le_trans hb (h2 a ha hl)⟩
theorem By.on {b:Nat} {w w':World} {l:List UInt8} {v:Value} (h:By b w l v) (hb:Below w.heap.size w w'):By b w' l v:=by
 obtain ⟨A,c,e,h1,h2⟩:=h
 exact ⟨A,c,e,h1.on hb,h2⟩
theorem By.own {b:Nat} {w:World} {e:TypeId} {v:Value} {l:List UInt8} (h:w.ownsRow b e 1 v l.length (bs l)):By b w l v:=by
 obtain ⟨A,c,e,h1,h2⟩:=of_own_ge h
 exact ⟨A,c,e,h1,fun a ha _=>h2 a ha⟩
theorem slB_kept {w w':World} {A:Option Addr} {c:Nat} {l:List UInt8} (h:SlB w A c l) (hs:w.heap.size≤w'.heap.size) (hk:∀ a,A = some a→0 < l.length→a.block < w.heap.size→w'.heap[a.block]? = w.heap[a.block]?):SlB w' A c l:=by
 unfold SlB at h ⊢
 obtain ⟨h1,h2,h3,h4,h5,h6⟩:=h
 refine ⟨h1,h2,h3,h4,fun ad ha hn=>Nat.lt_of_lt_of_le (h5 ad ha hn) hs,fun ad ha k u hu=>?_⟩
 have hl:0 < l.length:=by
  have:=(List.getElem?_eq_some_iff.1 hu).1
  rw [h1] at this
  omega
 have e:=hk ad ha hl (h5 ad ha hl)
 exact (World.cell?_of_block (by rw [add_same_block];exact e)).trans (h6 ad ha k u hu)
def BL (r:Option Nat) (w:World) (l:List UInt8) (cs:List Value):Prop:=∃ A c,cs = [.slice A l.length c]∧SlB w A c l∧∀ a,A = some a→0 < l.length→r≠some a.block
theorem BL.len (r:Option Nat) (w:World) (l:List UInt8) (cs:List Value) (h:BL r w l cs):cs.length = 1:=by
 obtain ⟨A,c,rfl,-⟩:=h
 rfl
structure PB (b:Nat) (w:World) (v:Value) (ls:List (List UInt8)) (zs:List Value):Prop where
 own:w.ownsRow b 26 1 v ls.length zs
 rows:T9.Rows (BL v.ownBlock w) ls zs
section
variable {b:Nat} {w w':World} {v:Value} {ls:List (List UInt8)} {zs:List Value}
theorem PB.nil (b:Nat) (w:World):PB b w (.slice none 0 0) [] []:=⟨World.ownsRow_nil _ _ _ _,rfl⟩
theorem PB.on (h:PB b w v ls zs) (hb:Below w.heap.size w w'):PB b w' v ls zs :=
 ⟨own_hi h.own (hi_below b hb),h.rows.imp fun l cs hl=>by
  obtain ⟨A,c,e,h1,h2⟩:=hl
  exact ⟨A,c,e,h1.on hb,h2⟩⟩
theorem PB.lt (h:PB b w v ls zs) (k:Nat) (hk:v.ownBlock = some k):k < w.heap.size:=(own_blk h.own k hk).2
theorem PB.app (h:PB b w v ls zs) {l:List UInt8} {u:Value} {b':Nat} (hv:∀ k,v.ownBlock = some k→k < b') (hl:By b' w l u) {g cap:Nat}
  (hrow:w'.ownsRow b 26 1 (.slice (some ⟨g,0,none⟩) (ls.length+1) cap) (ls.length+1) (zs++[u])) (hg:w.grownBy w' v.ownBlock) (hat:v.ownBlock = some g∨w.heap.size≤g):PB b w' (.slice (some ⟨g,0,none⟩) (ls.length+1) cap) (ls++[l]) (zs++[u]):=by
 have H:∀ l cs,BL v.ownBlock w l cs→BL (some g) w' l cs:=by
  rintro l cs ⟨A,c,e,h1,h2⟩
  refine ⟨A,c,e,slB_kept h1 hg.size fun a ha hn hlt=>hg.block _ hlt fun e=>h2 a ha hn e.symm,fun a ha hn e=>?_⟩
  injection e with e
  rcases hat with hat | hat
  ·exact h2 a ha hn (by rw [hat,e])
  ·have:=h1.old a ha hn
   omega
 refine ⟨by rw [List.length_append];exact hrow,(h.rows.imp H).append (Rows.single (H _ _ ?_))⟩
 obtain ⟨A,c,rfl,h1,h2⟩:=hl
 refine ⟨A,c,rfl,h1,fun a ha hn e=>?_⟩
 have h3:=hv a.block e
 have h4:=h2 a ha hn
 omega
end
set_option maxRecDepth 1000000 in
set_option maxHeartbeats 4000000 in
theorem rcputB_any (no wire:Int) (num:Nat) (f u:Int) (A:Option Addr) (c:Nat) (run:List UInt8) (hn1:-9223372036854775808≤no) (hn2:no≤9223372036854775807) (hw1:-9223372036854775808≤wire) (hw2:wire≤9223372036854775807)
  (hnum:num < 18446744073709551616) (hl:run.length≤140737488351232) (w:World) (h1:SlB w A c run) (T:Wires w) :
  Calls Tryz.prog 17 #[ZV no wire num f u,.slice A run.length c] w fun e w'=>∃ A' c',e = .returned (.tuple #[.slice A' (recL no wire num run).length c',.bool (putB no wire)])∧SlB w' A' c' (recL no wire num run)∧(∀ a,A' = some a→0 < (recL no wire num run).length→w.heap.size≤a.block)∧Below w.heap.size w w':=by
 obtain ⟨i0,hi,hz0,hz1,hz2⟩:=info_parts info_u8
 unfold ZV
 have h5:=putL_le5 (no:=no) (wire:=wire)
 by_cases hB:putB no wire = true
 ·rw [recL_yes hB,hB]
  have hk:=putB_iff.1 hB
  have hv10:=vput_len10 hnum
  have hr10:=vput_len10 (n:=run.length) (by omega)
  have HB:=Lib.hid hB
  clear hB
  generalize hP:putL no wire = P at *
  have HP:=Lib.hid hP
  clear hP
  rcases hk with ⟨_,rfl | rfl | rfl | rfl⟩
  ·-- a number
   have hR:restL 0 num run = vput num:=by unfold restL;simp
   rw [hR]
   generalize hV:vput num = V at *
   have HV:=Lib.hid hV
   clear hV hR
   have E1:Hid (P.length+V.length = (P++V).length):=Lib.hid (by rw [List.length_append])
   have E2:Hid (bs P++bs V = bs (P++V)):=Lib.hid (by rw [bs_append])
   generalize P++V = X at *
   go_enter Tryz.func17,Tryz.ntmps17
   go_wp2_with fail
   refine (tput_own no 0 hn1 hn2 hw1 hw2 _ (T.on (below_new _ _))).mono ?_
   rw [HP.out,HB.out]
   rintro e w1 ⟨v1,rfl,hown1,hb1⟩
   have hg1:=hb1.block w.heap.size (by simp)
   rw [heap_alloc_new] at hg1
   obtain ⟨q0,q1,q2,_,_⟩:=heap_cells hg1
   have hb1:=below_then (below_new w _) hb1
   go_wp2_with fail
   refine (put_reads num hnum _).mono ?_
   rw [HV.out]
   rintro e w2 ⟨A2,c2,rfl,hr2,hb2⟩
   have hown2:=own_mono5 (own_below5 hown1 hb2) (show w.heap.size≤_ by simp)
   have hb2:=below_then hb1 hb2
   go_wp2_with (at_builtin;refine wpList_app_sl rfl _ _ 26 rfl w.heap.size 5 i0 (.int .u8 0) 1 1 Tryz.underlying26 hi hz0 hz1 hz2 rfl (by omega) v1 P.length (bs P) rfl hown2 A2 V.length c2 (bs V) rfl hr2 (bs_one V) (by unfold maxLen;omega) (by omega) hb2.size ?_;intro v3 w3 hown3 hg3;have hb3:Below w.heap.size w w3:=hb2.grown hg3 hb2.size (own_ge hown2);rw [E1.out,E2.out] at hown3;obtain ⟨A4,c4,rfl,hr4,hge4⟩:=of_own_ge hown3)
   go_ret2
   exact ⟨A4,c4,rfl,hr4,(fun a h _=>hge4 a h),hb3⟩
  ·-- eight bytes
   have hR:restL 1 num run = fixb num 8:=by unfold restL;simp
   rw [hR]
   have hVl:(fixb num 8).length = 8:=fixb_length _ _
   generalize hV:fixb num 8 = V at *
   have HV:=Lib.hid hV
   clear hV hR
   have E1:Hid (P.length+8 = (P++V).length):=Lib.hid (by rw [List.length_append,hVl])
   have E2:Hid (bs P++bs V = bs (P++V)):=Lib.hid (by rw [bs_append])
   have hRD:∀ (w:World) A c,SlB w A c V→Sl w A 8 c 1 (bs V):=fun w A c h=>by unfold SlB at h;rw [hVl] at h;exact h
   clear hVl
   generalize P++V = X at *
   go_enter Tryz.func17,Tryz.ntmps17
   go_wp2_with fail
   refine (tput_own no 1 hn1 hn2 hw1 hw2 _ (T.on (below_new _ _))).mono ?_
   rw [HP.out,HB.out]
   rintro e w1 ⟨v1,rfl,hown1,hb1⟩
   have hg1:=hb1.block w.heap.size (by simp)
   rw [heap_alloc_new] at hg1
   obtain ⟨q0,q1,q2,_,_⟩:=heap_cells hg1
   have hb1:=below_then (below_new w _) hb1
   go_wp2_with fail
   refine (fixed_any num 8 (by omega) hnum _).mono ?_
   rw [HV.out]
   rintro e w2 ⟨A2,c2,rfl,hr2,hb2⟩
   have hown2:=own_mono5 (own_below5 hown1 hb2) (show w.heap.size≤_ by simp)
   have hb2:=below_then hb1 hb2
   have hr2':=hRD _ _ _ hr2
   clear hr2 hRD
   go_wp2_with (at_builtin;refine wpList_app_sl rfl _ _ 26 rfl w.heap.size 5 i0 (.int .u8 0) 1 1 Tryz.underlying26 hi hz0 hz1 hz2 rfl (by omega) v1 P.length (bs P) rfl hown2 A2 8 c2 (bs V) rfl hr2' (bs_one V) (by unfold maxLen;omega) (by omega) hb2.size ?_;intro v3 w3 hown3 hg3;have hb3:Below w.heap.size w w3:=hb2.grown hg3 hb2.size (own_ge hown2);rw [E1.out,E2.out] at hown3;obtain ⟨A4,c4,rfl,hr4,hge4⟩:=of_own_ge hown3)
   go_ret2
   exact ⟨A4,c4,rfl,hr4,(fun a h _=>hge4 a h),hb3⟩
  ·-- a run
   have hR:restL 2 num run = vput run.length++run:=by unfold restL;simp
   rw [hR]
   have ew:IntKind.u64.wrap (run.length:Int) = run.length:=by simp [IntKind.wrap,IntKind.signed,IntKind.bits];omega
   generalize hV:vput run.length = V at *
   have HV:=Lib.hid hV
   clear hV hR
   have E1:Hid (P.length+V.length+run.length = (P++(V++run)).length):=Lib.hid (by simp only [List.length_append];omega)
   have E2:Hid (bs P++bs V++bs run = bs (P++(V++run))):=Lib.hid (by simp only [bs_append,List.append_assoc])
   generalize P++(V++run) = X at *
   go_enter Tryz.func17,Tryz.ntmps17
   go_wp2_with fail
   refine (tput_own no 2 hn1 hn2 hw1 hw2 _ (T.on (below_new _ _))).mono ?_
   rw [HP.out,HB.out]
   rintro e w1 ⟨v1,rfl,hown1,hb1⟩
   have hg1:=hb1.block w.heap.size (by simp)
   rw [heap_alloc_new] at hg1
   obtain ⟨q0,q1,q2,_,_⟩:=heap_cells hg1
   have hb1:=below_then (below_new w _) hb1
   go_wp2_with fail
   refine (put_reads run.length (by omega) _).mono ?_
   rw [HV.out]
   rintro e w2 ⟨A2,c2,rfl,hr2,hb2⟩
   have hown2:=own_mono5 (own_below5 hown1 hb2) (show w.heap.size≤_ by simp)
   have hb2:=below_then hb1 hb2
   have h1':=h1
   clear h1
   go_wp2_with (first
    | (at_builtin;refine wpList_app_sl rfl _ _ 26 rfl w.heap.size 5 i0 (.int .u8 0) 1 1 Tryz.underlying26 hi hz0 hz1 hz2 rfl (by omega) v1 P.length (bs P) rfl hown2 A2 V.length c2 (bs V) rfl hr2 (bs_one V) (by unfold maxLen;omega) (by omega) hb2.size ?_;intro v3 w3 hown3 hg3;have hb3:Below w.heap.size w w3:=hb2.grown hg3 hb2.size (own_ge hown2);have h3:=h1'.on hb3;clear hr2)
    | (at_builtin;refine wpList_app_sl rfl _ _ 26 rfl w.heap.size 5 i0 (.int .u8 0) 1 1 Tryz.underlying26 hi hz0 hz1 hz2 rfl (by omega) v3 (P.length+V.length) (bs P++bs V) rfl hown3 A run.length c (bs run) rfl h3 (bs_one run) (by unfold maxLen;omega) (by omega) hb3.size ?_;intro v4 w4 hown4 hg4;have hb4:Below w.heap.size w w4:=hb3.grown hg4 hb3.size (own_ge hown3);rw [E1.out,E2.out] at hown4;obtain ⟨A4,c4,rfl,hr4,hge4⟩:=of_own_ge hown4))
   go_ret2
   exact ⟨A4,c4,rfl,hr4,(fun a h _=>hge4 a h),hb4⟩
  ·-- four bytes
   have hR:restL 5 num run = fixb num 4:=by unfold restL;simp
   rw [hR]
   have hVl:(fixb num 4).length = 4:=fixb_length _ _
   generalize hV:fixb num 4 = V at *
   have HV:=Lib.hid hV
   clear hV hR
   have E1:Hid (P.length+4 = (P++V).length):=Lib.hid (by rw [List.length_append,hVl])
   have E2:Hid (bs P++bs V = bs (P++V)):=Lib.hid (by rw [bs_append])
   have hRD:∀ (w:World) A c,SlB w A c V→Sl w A 4 c 1 (bs V):=fun w A c h=>by unfold SlB at h;rw [hVl] at h;exact h
   clear hVl
   generalize P++V = X at *
   go_enter Tryz.func17,Tryz.ntmps17
   go_wp2_with fail
   refine (tput_own no 5 hn1 hn2 hw1 hw2 _ (T.on (below_new _ _))).mono ?_
   rw [HP.out,HB.out]
   rintro e w1 ⟨v1,rfl,hown1,hb1⟩
   have hg1:=hb1.block w.heap.size (by simp)
   rw [heap_alloc_new] at hg1
   obtain ⟨q0,q1,q2,_,_⟩:=heap_cells hg1
   have hb1:=below_then (below_new w _) hb1
   go_wp2_with fail
   refine (fixed_any num 4 (by omega) hnum _).mono ?_
   rw [HV.out]
   rintro e w2 ⟨A2,c2,rfl,hr2,hb2⟩
   have hown2:=own_mono5 (own_below5 hown1 hb2) (show w.heap.size≤_ by simp)
   have hb2:=below_then hb1 hb2
   have hr2':=hRD _ _ _ hr2
   clear hr2 hRD
   go_wp2_with (at_builtin;refine wpList_app_sl rfl _ _ 26 rfl w.heap.size 5 i0 (.int .u8 0) 1 1 Tryz.underlying26 hi hz0 hz1 hz2 rfl (by omega) v1 P.length (bs P) rfl hown2 A2 4 c2 (bs V) rfl hr2' (bs_one V) (by unfold maxLen;omega) (by omega) hb2.size ?_;intro v3 w3 hown3 hg3;have hb3:Below w.heap.size w w3:=hb2.grown hg3 hb2.size (own_ge hown2);rw [E1.out,E2.out] at hown3;obtain ⟨A4,c4,rfl,hr4,hge4⟩:=of_own_ge hown3)
   go_ret2
   exact ⟨A4,c4,rfl,hr4,(fun a h _=>hge4 a h),hb3⟩
 ·have hB:putB no wire = false:=by simpa using hB
  rw [recL_no hB,hB]
  have HB:=Lib.hid hB
  have hP:=putL_no hB
  clear hB
  go_enter Tryz.func17,Tryz.ntmps17
  go_wp2_with fail
  refine (tput_own no wire hn1 hn2 hw1 hw2 _ (T.on (below_new _ _))).mono ?_
  rw [HB.out,hP]
  rintro e w1 ⟨v1,rfl,hown1,hb1⟩
  go_wp2
  go_ret2
  exact ⟨none,0,rfl,SlB.nil _,(fun a h=>by cases h),below_then (below_new _ _) hb1⟩
end Go.Proofs.YtckcojkpghiclaaGreatDoor.T12
