/-
 A file as an argument: how it lies there.
-/
import Derived.Test.YtckcojkpghiclaaGreatDoorProRaw
import Derived.Deep.Slices
import Derived.Deep.Strs
import Derived.Test.YtckcojkpghiclaaGreatDoorTokVars
import Derived.Test.YtckcojkpghiclaaGreatDoorUtfFine
import Derived.Test.YtckcojkpghiclaaGreatDoorProBox
import Derived.Deep.RegionHeld3
import Derived.Great.BuildSlice
namespace Go.Proofs.YtckcojkpghiclaaGreatDoor
set_option maxRecDepth 100000
open Go.RowKit Go.ChangeShapes Go.WideShapes Go.ChangeAt
section
variable {H:Type} {enc:TypeId × Value→H} {W:World} {n:Nat}
theorem open_rows {α:Type} [Inhabited α] {t e:TypeId} {size:Nat} {v:Value} {x:DataW H × List MemPlace} (ht:Tryz.prog.underlying t = some (.slice e)) (hc:Tryz.prog.cellsOf e = size) (hpos:0 < size)
  (C:α→List Value→Prop) (hone:∀ (n:Nat) (cs:List Value) (y:DataW H × List MemPlace),cs.length = size→DataW.trod enc Tryz.prog W 0 (fun _=>true) true n e cs = some y→∃ a,C a cs)
  (h:DataW.trod enc Tryz.prog W 0 (fun _=>true) true n t [v] = some x) :
  ∃ (A:Option Addr) (c:Nat) (l:List (α × List Value)),v = .slice A l.length c∧Sl W A l.length c size (l.flatMap Prod.snd)∧(∀ y∈l,C y.1 y.2∧y.2.length = size)∧(∀ ad,A = some ad→0 < l.length→ad.block < W.heap.size):=by
 rcases Deep.open_slice ht h with ⟨h0,_⟩ | ⟨a,len,cap,m,k,D,Pl,h0,_,hl,hm,hmm,_,hx⟩
 ·have hv:v = .slice none 0 0:=by simpa using h0
  exact ⟨none,0,[],hv,Sl.nothing W size,by simp,by simp⟩
 ·have hv:v = .slice (some a) len cap:=by simpa using h0
  subst hv
  have hlm:len≤m:=by rw [hmm];split <;> omega
  rw [hc] at hx
  have hy:∀ i,i < len→∃ y:α × List Value,C y.1 y.2∧y.2.length = size∧W.cells? 0 (a.add (i * size)) size = some y.2:=fun i hi=>by
   obtain ⟨cs,h1,h2⟩:=hx i (by omega)
   have hl2:=(World.cells?_some h1).2.1
   obtain ⟨b,hb⟩:=hone k cs _ hl2 h2
   exact ⟨(b,cs),hb,hl2,h1⟩
  obtain ⟨f,hf⟩:=Deep.choose_lt hy
  have hget:∀ (L:List Nat) (i:Nat),(∀ j∈L,j < len)→i < L.length→∀ q,q < size→((L.map f).flatMap Prod.snd)[i * size+q]? = (f (L.getD i 0)).2[q]?:=by
   intro L
   induction L with
   | nil=>intro i _ hi;simp at hi
   | cons j L ih =>
    intro i hL hi q hq
    have hj:=(hf j (hL j (by simp))).2.1
    cases i with
    | zero =>
     rw [List.map_cons,List.flatMap_cons,Nat.zero_mul,Nat.zero_add,List.getElem?_append_left (by omega)]
     rfl
    | succ i =>
     rw [List.map_cons,List.flatMap_cons,List.getElem?_append_right (by rw [hj,Nat.succ_mul];omega),hj,show (i+1) * size+q - size = i * size+q by rw [Nat.succ_mul];omega]
     exact ih i (fun x hx=>hL x (by simp [hx])) (by simpa using hi) q hq
  have hlen:∀ (L:List Nat),(∀ j∈L,j < len)→((L.map f).flatMap Prod.snd).length = L.length * size:=by
   intro L
   induction L with
   | nil=>intro _;simp
   | cons j L ih =>
    intro hL
    have hj:=(hf j (hL j (by simp))).2.1
    rw [List.map_cons,List.flatMap_cons,List.length_append,hj,ih (fun x hx=>hL x (by simp [hx])),List.length_cons,Nat.succ_mul]
    omega
  have hr:∀ j∈List.range len,j < len:=fun j hj=>List.mem_range.1 hj
  have hcell:∀ k u,(((List.range len).map f).flatMap Prod.snd)[k]? = some u→W.cell? (a.add k) = some u:=by
   intro k u hu
   have hk:k < len * size:=by
    have:=(List.getElem?_eq_some_iff.1 hu).1
    rw [hlen _ hr,List.length_range] at this
    exact this
   have hi:k / size < len:=(Nat.div_lt_iff_lt_mul hpos).2 hk
   have hq:k % size < size:=Nat.mod_lt _ hpos
   have hk2:k = k / size * size+k % size:=by rw [Nat.mul_comm];exact (Nat.div_add_mod k size).symm
   rw [hk2,hget (List.range len) (k / size) hr (by simpa using hi) _ hq] at hu
   have e:(List.range len).getD (k / size) 0 = k / size:=by rw [List.getD_eq_getElem?_getD,List.getElem?_range hi];rfl
   rw [e] at hu
   have h1:=(World.cells?_some (hf (k / size) hi).2.2).2.2 (k % size) hq
   rw [hu,add_twice,← hk2] at h1
   exact h1
  refine ⟨some a,cap,(List.range len).map f,by simp,⟨by rw [hlen _ hr];simp,by simpa using hl,hm,by simp,fun ad ha hn=>?_,fun ad ha k u hu=>?_⟩,fun y hy=>?_,fun ad ha hn=>?_⟩
  ·obtain rfl:=Option.some.inj ha
   have h0:0 < len:=by simpa using hn
   have h1:=(World.cells?_some (hf 0 h0).2.2).2.2 0 hpos
   have h2:=(hf 0 h0).2.1
   rw [List.getElem?_eq_getElem (by omega)] at h1
   have hb:=World.block_lt_of_cell? W _ h1
   rwa [add_same_block,add_same_block] at hb
  ·obtain rfl:=Option.some.inj ha
   exact hcell k u hu
  ·obtain ⟨i,hi,rfl⟩:=List.mem_map.1 hy
   have:=hf i (hr i hi)
   exact ⟨this.1,this.2.1⟩
  ·obtain rfl:=Option.some.inj ha
   have h0:0 < len:=by simpa using hn
   have h1:=(World.cells?_some (hf 0 h0).2.2).2.2 0 hpos
   have h2:=(hf 0 h0).2.1
   rw [List.getElem?_eq_getElem (by omega)] at h1
   have hb:=World.block_lt_of_cell? W _ h1
   rwa [add_same_block,add_same_block] at hb
end
end Go.Proofs.YtckcojkpghiclaaGreatDoor
namespace Go.Proofs.YtckcojkpghiclaaGreatDoor
set_option maxRecDepth 100000
open Go.RowKit Go.ChangeShapes Go.WideShapes Go.ChangeAt
section
variable {H:Type} {enc:TypeId × Value→H} {W:World} {n:Nat}
theorem list7 {α:Type} {l:List α} (h:l.length = 7):∃ a b c d e f g,l = [a,b,c,d,e,f,g]:=by
 match l,h with
 | [a,b,c,d,e,f,g],_=>exact ⟨a,b,c,d,e,f,g,rfl⟩
theorem list3 {α:Type} {l:List α} (h:l.length = 3):∃ a b c,l = [a,b,c]:=by
 match l,h with
 | [a,b,c],_=>exact ⟨a,b,c,rfl⟩
theorem list2 {α:Type} {l:List α} (h:l.length = 2):∃ a b,l = [a,b]:=by
 match l,h with
 | [a,b],_=>exact ⟨a,b,rfl⟩
theorem one_string {v:Value} {y:DataW H × List MemPlace} (h:DataW.trod enc Tryz.prog W 0 (fun _=>true) true n 9 [v] = some y):∃ x:List UInt8,v = .string (txt x)∧x.length≤maxLen:=by
 obtain ⟨s,h1,_,h2⟩:=DataW.trod_string Tryz.underlying9 h
 exact ⟨s.data.toList,by rw [txt_of];simpa using h1,by simpa using h2⟩
theorem one_int {v:Value} {y:DataW H × List MemPlace} (h:DataW.trod enc Tryz.prog W 0 (fun _=>true) true n 3 [v] = some y):∃ k:Int,v = .int .i64 k∧inr k:=by
 obtain ⟨k,h1,_,h2⟩:=DataW.trod_int Tryz.underlying3 h
 exact ⟨k,by simpa using h1,bounds_i64 h2⟩
theorem one_int64 {v:Value} {y:DataW H × List MemPlace} (h:DataW.trod enc Tryz.prog W 0 (fun _=>true) true n 2 [v] = some y):∃ k:Int,v = .int .i64 k∧inr k:=by
 obtain ⟨k,h1,_,h2⟩:=DataW.trod_int Tryz.underlying2 h
 exact ⟨k,by simpa using h1,bounds_i64 h2⟩
theorem one_bool {v:Value} {y:DataW H × List MemPlace} (h:DataW.trod enc Tryz.prog W 0 (fun _=>true) true n 4 [v] = some y):∃ b:Bool,v = .bool b:=by
 obtain ⟨b,h1,_⟩:=DataW.trod_bool Tryz.underlying4 h
 exact ⟨b,by simpa using h1⟩
theorem k_string:Tryz.prog.cellsOf 9 = 1:=by kernel_rfl
theorem k_int:Tryz.prog.cellsOf 3 = 1:=by kernel_rfl
theorem k_int64:Tryz.prog.cellsOf 2 = 1:=by kernel_rfl
theorem k_bool:Tryz.prog.cellsOf 4 = 1:=by kernel_rfl
theorem k_strs:Tryz.prog.cellsOf 82 = 1:=by kernel_rfl
theorem k_ints:Tryz.prog.cellsOf 53 = 1:=by kernel_rfl
theorem flat_of {α:Type} (g:α→List Value):∀ (l:List (α × List Value)),(∀ y∈l,y.2 = g y.1)→l.flatMap Prod.snd = (l.map Prod.fst).flatMap g
 | [],_=>rfl
 | y :: l,h=>by rw [List.flatMap_cons,List.map_cons,List.flatMap_cons,h y (by simp),flat_of g l fun z hz=>h z (by simp [hz])]
theorem flat_ones {α:Type} (g:α→Value):∀ (l:List α),(l.flatMap fun a=>[g a]) = l.map g
 | []=>rfl
 | a :: l=>by rw [List.flatMap_cons,flat_ones g l];rfl
theorem list1 {α:Type} {l:List α} (h:l.length = 1):∃ a,l = [a]:=by
 match l,h with
 | [a],_=>exact ⟨a,rfl⟩
theorem open_strv {v:Value} {x:DataW H × List MemPlace} (h:DataW.trod enc Tryz.prog W 0 (fun _=>true) true n 82 [v] = some x):∃ l:List (List UInt8),Rb W.heap.size W v l.length 1 (strv l)∧∀ d∈l,d.length≤maxLen:=by
 obtain ⟨A,c,l,rfl,hs,hC,hb⟩:=open_rows Tryz.underlying82 k_string (by decide) (fun (d:List UInt8) cs=>cs = [.string (txt d)]∧d.length≤maxLen) (fun n cs y hl h=>by
  obtain ⟨v,rfl⟩:=list1 hl
  obtain ⟨s,rfl,h2⟩:=one_string h
  exact ⟨s,rfl,h2⟩) h
 have e:l.flatMap Prod.snd = strv (l.map Prod.fst):=(flat_of (fun d=>[.string (txt d)]) l fun y hy=>(hC y hy).1.1).trans (flat_ones _ _)
 rw [e] at hs
 refine ⟨l.map Prod.fst,⟨A,c,by rw [List.length_map],by rw [List.length_map];exact hs,by rw [List.length_map];exact hb⟩,fun d hd=>?_⟩
 obtain ⟨y,hy,rfl⟩:=List.mem_map.1 hd
 exact (hC y hy).1.2
theorem open_intv {v:Value} {x:DataW H × List MemPlace} (h:DataW.trod enc Tryz.prog W 0 (fun _=>true) true n 53 [v] = some x):∃ l:List Int,Rb W.heap.size W v l.length 1 (intv l)∧∀ d∈l,inr d:=by
 obtain ⟨A,c,l,rfl,hs,hC,hb⟩:=open_rows Tryz.underlying53 k_int64 (by decide) (fun (d:Int) cs=>cs = [.int .i64 d]∧inr d) (fun n cs y hl h=>by
  obtain ⟨v,rfl⟩:=list1 hl
  obtain ⟨s,rfl,h2⟩:=one_int64 h
  exact ⟨s,rfl,h2⟩) h
 have e:l.flatMap Prod.snd = intv (l.map Prod.fst):=(flat_of (fun d=>[.int .i64 d]) l fun y hy=>(hC y hy).1.1).trans (flat_ones _ _)
 rw [e] at hs
 refine ⟨l.map Prod.fst,⟨A,c,by rw [List.length_map],by rw [List.length_map];exact hs,by rw [List.length_map];exact hb⟩,fun d hd=>?_⟩
 obtain ⟨y,hy,rfl⟩:=List.mem_map.1 hd
 exact (hC y hy).1.2
end
end Go.Proofs.YtckcojkpghiclaaGreatDoor
namespace Go.Proofs.YtckcojkpghiclaaGreatDoor
set_option maxRecDepth 100000
open Go.RowKit Go.ChangeShapes Go.WideShapes Go.ChangeAt
def DC (d:Df):List Value:=[.int .i64 d.no,.string (txt d.name),.int .i64 d.kind,.int .i64 d.ref,.bool d.rep,.int .i64 d.key,.int .i64 d.one]
def dfv (l:List Df):List Value:=l.flatMap DC
def MDC (m:Md) (vF:Value):List Value:=[.string (txt m.name),vF]
def EDC (e:Ed) (vV vN:Value):List Value:=[.string (txt e.name),vV,vN]
theorem dfv_get:∀ (l:List Df) (k j:Nat) (d:Df),l[k]? = some d→j < 7→(dfv l)[k * 7+j]? = (DC d)[j]?
 | [],k,j,r,h,_=>by simp at h
 | x :: l,0,j,r,h,hj=>by
  obtain rfl:x = r:=by simpa using h
  rw [show dfv (x :: l) = DC x++dfv l by simp [dfv],Nat.zero_mul,Nat.zero_add,List.getElem?_append_left (by simp [DC];omega)]
 | x :: l,k+1,j,r,h,hj=>by
  rw [show dfv (x :: l) = DC x++dfv l by simp [dfv],List.getElem?_append_right (by simp [DC];omega)]
  rw [show (k+1) * 7+j - (DC x).length = k * 7+j by simp [DC];omega]
  exact dfv_get l k j r (by simpa using h) hj
def MdsAt (B:Nat) (w:World):List Md→List Value→Prop
 | [],xs=>xs = []
 | m :: l,xs=>∃ vF ys,xs = MDC m vF++ys∧Rb B w vF m.F.length 7 (dfv m.F)∧MdsAt B w l ys
def EdsAt (B:Nat) (w:World):List Ed→List Value→Prop
 | [],xs=>xs = []
 | e :: l,xs=>∃ vV vN ys,xs = EDC e vV vN++ys∧Rb B w vV e.V.length 1 (strv e.V)∧Rb B w vN e.N.length 1 (intv e.N)∧EdsAt B w l ys
theorem MdsAt.low {B:Nat} {w w':World} (hl:Low B w w'):∀ {l:List Md} {xs:List Value},MdsAt B w l xs→MdsAt B w' l xs
 | [],_,h=>h
 | _ :: _,_,⟨vF,ys,h1,h2,h3⟩=>⟨vF,ys,h1,h2.low hl,h3.low hl⟩
theorem EdsAt.low {B:Nat} {w w':World} (hl:Low B w w'):∀ {l:List Ed} {xs:List Value},EdsAt B w l xs→EdsAt B w' l xs
 | [],_,h=>h
 | _ :: _,_,⟨vV,vN,ys,h1,h2,h3,h4⟩=>⟨vV,vN,ys,h1,h2.low hl,h3.low hl,h4.low hl⟩
theorem MdsAt.mono {B B':Nat} {w:World} (hB:B≤B'):∀ {l:List Md} {xs:List Value},MdsAt B w l xs→MdsAt B' w l xs
 | [],_,h=>h
 | _ :: _,_,⟨vF,ys,h1,h2,h3⟩=>⟨vF,ys,h1,h2.mono hB,h3.mono hB⟩
theorem EdsAt.mono {B B':Nat} {w:World} (hB:B≤B'):∀ {l:List Ed} {xs:List Value},EdsAt B w l xs→EdsAt B' w l xs
 | [],_,h=>h
 | _ :: _,_,⟨vV,vN,ys,h1,h2,h3,h4⟩=>⟨vV,vN,ys,h1,h2.mono hB,h3.mono hB,h4.mono hB⟩
def SAt (B:Nat) (w:World) (s:Sc) (vM vE:Value):Prop:=∃ xs ys,Rb B w vM s.M.length 2 xs∧MdsAt B w s.M xs∧Rb B w vE s.E.length 3 ys∧EdsAt B w s.E ys
theorem SAt.low {B:Nat} {w w':World} {s:Sc} {vM vE:Value} (h:SAt B w s vM vE) (hl:Low B w w'):SAt B w' s vM vE:=by
 obtain ⟨xs,ys,h1,h2,h3,h4⟩:=h
 exact ⟨xs,ys,h1.low hl,h2.low hl,h3.low hl,h4.low hl⟩
theorem SAt.mono {B B':Nat} {w:World} {s:Sc} {vM vE:Value} (h:SAt B w s vM vE) (hB:B≤B'):SAt B' w s vM vE:=by
 obtain ⟨xs,ys,h1,h2,h3,h4⟩:=h
 exact ⟨xs,ys,h1.mono hB,h2.mono hB,h3.mono hB,h4.mono hB⟩
structure DfIn (d:Df):Prop where
 no:inr d.no
 name:d.name.length≤maxLen
 kind:inr d.kind
 ref:inr d.ref
 key:inr d.key
 one:inr d.one
structure MdIn (m:Md):Prop where
 name:m.name.length≤maxLen
 F:∀ d∈m.F,DfIn d
structure EdIn (e:Ed):Prop where
 name:e.name.length≤maxLen
 V:∀ x∈e.V,x.length≤maxLen
 N:∀ n∈e.N,inr n
structure ScIn (s:Sc):Prop where
 M:∀ m∈s.M,MdIn m
 E:∀ e∈s.E,EdIn e
instance:Inhabited Df:=⟨⟨0,[],0,0,false,0,0⟩⟩
instance:Inhabited Md:=⟨⟨[],[]⟩⟩
instance:Inhabited Ed:=⟨⟨[],[],[]⟩⟩
theorem dfr_at {w:World} {A:Option Addr} {c:Nat} {l:List Df} (h:Sl w A l.length c 7 (dfv l)) {k:Nat} {d:Df} (hk:l[k]? = some d) :
  ∃ ad,A = some ad∧ad.block < w.heap.size∧w.cell? (ad.add (k * 7)) = some (.int .i64 d.no)∧w.cell? ⟨(ad.add (k * 7)).block,(ad.add (k * 7)).off+1,none⟩ = some (.string (txt d.name))∧w.cell? ⟨(ad.add (k * 7)).block,(ad.add (k * 7)).off+2,none⟩ = some (.int .i64 d.kind) ∧
   w.cell? ⟨(ad.add (k * 7)).block,(ad.add (k * 7)).off+3,none⟩ = some (.int .i64 d.ref)∧w.cell? ⟨(ad.add (k * 7)).block,(ad.add (k * 7)).off+4,none⟩ = some (.bool d.rep)∧w.cell? ⟨(ad.add (k * 7)).block,(ad.add (k * 7)).off+5,none⟩ = some (.int .i64 d.key)∧w.cell? ⟨(ad.add (k * 7)).block,(ad.add (k * 7)).off+6,none⟩ = some (.int .i64 d.one):=by
 obtain ⟨ad,rfl,hb,h0,hj⟩:=Sl.elem h (List.getElem?_eq_some_iff.1 hk).1
 have hv:=fun (j:Nat) (hj:j < 7)=>dfv_get l k j d hk hj
 refine ⟨ad,rfl,hb,h0 _ (by have:=hv 0 (by omega);rw [Nat.add_zero] at this;rw [this];rfl),hj 1 _ (by omega) (by rw [hv 1 (by omega)];rfl),hj 2 _ (by omega) (by rw [hv 2 (by omega)];rfl),hj 3 _ (by omega) (by rw [hv 3 (by omega)];rfl),hj 4 _ (by omega) (by rw [hv 4 (by omega)];rfl),hj 5 _ (by omega) (by rw [hv 5 (by omega)];rfl),hj 6 _ (by omega) (by rw [hv 6 (by omega)];rfl)⟩
theorem mdr_list {B:Nat} {w:World}:∀ {l:List Md} {xs:List Value},MdsAt B w l xs→∀ {k:Nat} {m:Md},l[k]? = some m→∃ vF,Rb B w vF m.F.length 7 (dfv m.F)∧∀ j,j < 2→xs[k * 2+j]? = (MDC m vF)[j]?
 | [],xs,_,k,m,hk=>by simp at hk
 | x :: l,xs,⟨vF,ys,h1,h2,h3⟩,0,m,hk=>by
  obtain rfl:x = m:=by simpa using hk
  refine ⟨vF,h2,fun j hj=>?_⟩
  rw [h1,Nat.zero_mul,Nat.zero_add,List.getElem?_append_left (by simp [MDC];omega)]
 | x :: l,xs,⟨vF,ys,h1,h2,h3⟩,k+1,m,hk=>by
  obtain ⟨a,h4,h5⟩:=mdr_list h3 (k:=k) (m:=m) (by simpa using hk)
  refine ⟨a,h4,fun j hj=>?_⟩
  rw [h1,List.getElem?_append_right (by simp [MDC];omega),← h5 j hj]
  congr 1
  simp [MDC];omega
theorem edr_list {B:Nat} {w:World}:∀ {l:List Ed} {xs:List Value},EdsAt B w l xs→∀ {k:Nat} {m:Ed},l[k]? = some m→∃ vV vN,Rb B w vV m.V.length 1 (strv m.V)∧Rb B w vN m.N.length 1 (intv m.N)∧∀ j,j < 3→xs[k * 3+j]? = (EDC m vV vN)[j]?
 | [],xs,_,k,m,hk=>by simp at hk
 | x :: l,xs,⟨vV,vN,ys,h1,h2,h2',h3⟩,0,m,hk=>by
  obtain rfl:x = m:=by simpa using hk
  refine ⟨vV,vN,h2,h2',fun j hj=>?_⟩
  rw [h1,Nat.zero_mul,Nat.zero_add,List.getElem?_append_left (by simp [EDC];omega)]
 | x :: l,xs,⟨vV,vN,ys,h1,h2,h2',h3⟩,k+1,m,hk=>by
  obtain ⟨a,b,h4,h4',h5⟩:=edr_list h3 (k:=k) (m:=m) (by simpa using hk)
  refine ⟨a,b,h4,h4',fun j hj=>?_⟩
  rw [h1,List.getElem?_append_right (by simp [EDC];omega),← h5 j hj]
  congr 1
  simp [EDC];omega
theorem mdr_at {B:Nat} {w:World} {A:Option Addr} {c:Nat} {l:List Md} {xs:List Value} (h:Sl w A l.length c 2 xs) (ha:MdsAt B w l xs) {k:Nat} {m:Md} (hk:l[k]? = some m) :
  ∃ ad vF,A = some ad∧ad.block < w.heap.size∧Rb B w vF m.F.length 7 (dfv m.F)∧w.cell? (ad.add (k * 2)) = some (.string (txt m.name))∧w.cell? ⟨(ad.add (k * 2)).block,(ad.add (k * 2)).off+1,none⟩ = some vF:=by
 obtain ⟨vF,hr,hx⟩:=mdr_list ha hk
 obtain ⟨ad,rfl,hb,h0,hj⟩:=Sl.elem h (List.getElem?_eq_some_iff.1 hk).1
 exact ⟨ad,vF,rfl,hb,hr,h0 _ (by have:=hx 0 (by omega);rw [Nat.add_zero] at this;rw [this];rfl),hj 1 _ (by omega) (by rw [hx 1 (by omega)];rfl)⟩
theorem edr_at {B:Nat} {w:World} {A:Option Addr} {c:Nat} {l:List Ed} {xs:List Value} (h:Sl w A l.length c 3 xs) (ha:EdsAt B w l xs) {k:Nat} {m:Ed} (hk:l[k]? = some m) :
  ∃ ad vV vN,A = some ad∧ad.block < w.heap.size∧Rb B w vV m.V.length 1 (strv m.V)∧Rb B w vN m.N.length 1 (intv m.N)∧w.cell? (ad.add (k * 3)) = some (.string (txt m.name))∧w.cell? ⟨(ad.add (k * 3)).block,(ad.add (k * 3)).off+1,none⟩ = some vV∧w.cell? ⟨(ad.add (k * 3)).block,(ad.add (k * 3)).off+2,none⟩ = some vN:=by
 obtain ⟨vV,vN,hr,hr',hx⟩:=edr_list ha hk
 obtain ⟨ad,rfl,hb,h0,hj⟩:=Sl.elem h (List.getElem?_eq_some_iff.1 hk).1
 exact ⟨ad,vV,vN,rfl,hb,hr,hr',h0 _ (by have:=hx 0 (by omega);rw [Nat.add_zero] at this;rw [this];rfl),hj 1 _ (by omega) (by rw [hx 1 (by omega)];rfl),hj 2 _ (by omega) (by rw [hx 2 (by omega)];rfl)⟩
section
variable {H:Type} {enc:TypeId × Value→H} {W:World} {n:Nat}
theorem k_df:Tryz.prog.cellsOf 45 = 7:=by kernel_rfl
theorem k_md:Tryz.prog.cellsOf 56 = 2:=by kernel_rfl
theorem k_ed:Tryz.prog.cellsOf 84 = 3:=by kernel_rfl
theorem k_dfs:Tryz.prog.cellsOf 54 = 1:=by kernel_rfl
theorem k_mds:Tryz.prog.cellsOf 22 = 1:=by kernel_rfl
theorem k_eds:Tryz.prog.cellsOf 23 = 1:=by kernel_rfl
theorem open_df {cs:List Value} {y:DataW H × List MemPlace} (hl:cs.length = 7) (h:DataW.trod enc Tryz.prog W 0 (fun _=>true) true n 45 cs = some y):∃ d:Df,cs = DC d∧DfIn d:=by
 obtain ⟨xs,k,-,-,-,hxl,hg⟩:=DataW.trod_struct Tryz.underlying45 h
 have hx7:xs.length = 7:=hxl
 obtain ⟨x0,x1,x2,x3,x4,x5,x6,rfl⟩:=list7 hx7
 obtain ⟨v0,v1,v2,v3,v4,v5,v6,rfl⟩:=list7 hl
 have g0:DataW.trod enc Tryz.prog W 0 (fun _=>true) true k 3 (List.take (Tryz.prog.cellsOf 3) [v0,v1,v2,v3,v4,v5,v6]) = some x0:=hg 0 _ rfl
 have g1:DataW.trod enc Tryz.prog W 0 (fun _=>true) true k 9 (List.take (Tryz.prog.cellsOf 9) [v1,v2,v3,v4,v5,v6]) = some x1:=hg 1 _ rfl
 have g2:DataW.trod enc Tryz.prog W 0 (fun _=>true) true k 3 (List.take (Tryz.prog.cellsOf 3) [v2,v3,v4,v5,v6]) = some x2:=hg 2 _ rfl
 have g3:DataW.trod enc Tryz.prog W 0 (fun _=>true) true k 3 (List.take (Tryz.prog.cellsOf 3) [v3,v4,v5,v6]) = some x3:=hg 3 _ rfl
 have g4:DataW.trod enc Tryz.prog W 0 (fun _=>true) true k 4 (List.take (Tryz.prog.cellsOf 4) [v4,v5,v6]) = some x4:=hg 4 _ rfl
 have g5:DataW.trod enc Tryz.prog W 0 (fun _=>true) true k 3 (List.take (Tryz.prog.cellsOf 3) [v5,v6]) = some x5:=hg 5 _ rfl
 have g6:DataW.trod enc Tryz.prog W 0 (fun _=>true) true k 3 (List.take (Tryz.prog.cellsOf 3) [v6]) = some x6:=hg 6 _ rfl
 rw [k_string] at g1
 rw [k_bool] at g4
 rw [k_int] at g0 g2 g3 g5 g6
 obtain ⟨a0,rfl,b0⟩:=one_int g0
 obtain ⟨a1,rfl,b1⟩:=one_string g1
 obtain ⟨a2,rfl,b2⟩:=one_int g2
 obtain ⟨a3,rfl,b3⟩:=one_int g3
 obtain ⟨a4,rfl⟩:=one_bool g4
 obtain ⟨a5,rfl,b5⟩:=one_int g5
 obtain ⟨a6,rfl,b6⟩:=one_int g6
 exact ⟨⟨a0,a1,a2,a3,a4,a5,a6⟩,rfl,b0,b1,b2,b3,b5,b6⟩
theorem open_dfs {v:Value} {x:DataW H × List MemPlace} (h:DataW.trod enc Tryz.prog W 0 (fun _=>true) true n 54 [v] = some x):∃ l:List Df,Rb W.heap.size W v l.length 7 (dfv l)∧∀ d∈l,DfIn d:=by
 obtain ⟨A,c,l,rfl,hs,hC,hb⟩:=open_rows Tryz.underlying54 k_df (by decide) (fun (d:Df) cs=>cs = DC d∧DfIn d) (fun n cs y hl h=>open_df hl h) h
 have e:l.flatMap Prod.snd = dfv (l.map Prod.fst):=flat_of DC l fun y hy=>(hC y hy).1.1
 rw [e] at hs
 refine ⟨l.map Prod.fst,⟨A,c,by rw [List.length_map],by rw [List.length_map];exact hs,by rw [List.length_map];exact hb⟩,fun d hd=>?_⟩
 obtain ⟨y,hy,rfl⟩:=List.mem_map.1 hd
 exact (hC y hy).1.2
theorem open_md {cs:List Value} {y:DataW H × List MemPlace} (hl:cs.length = 2) (h:DataW.trod enc Tryz.prog W 0 (fun _=>true) true n 56 cs = some y):∃ m:Md,(∃ vF,cs = MDC m vF∧Rb W.heap.size W vF m.F.length 7 (dfv m.F))∧MdIn m:=by
 obtain ⟨xs,k,-,-,-,hxl,hg⟩:=DataW.trod_struct Tryz.underlying56 h
 have hx2:xs.length = 2:=hxl
 obtain ⟨x0,x1,rfl⟩:=list2 hx2
 obtain ⟨v0,v1,rfl⟩:=list2 hl
 have g0:DataW.trod enc Tryz.prog W 0 (fun _=>true) true k 9 (List.take (Tryz.prog.cellsOf 9) [v0,v1]) = some x0:=hg 0 _ rfl
 have g1:DataW.trod enc Tryz.prog W 0 (fun _=>true) true k 54 (List.take (Tryz.prog.cellsOf 54) [v1]) = some x1:=hg 1 _ rfl
 rw [k_string] at g0
 rw [k_dfs] at g1
 obtain ⟨a0,rfl,b0⟩:=one_string g0
 obtain ⟨a1,r1,b1⟩:=open_dfs g1
 exact ⟨⟨a0,a1⟩,⟨v1,rfl,r1⟩,b0,b1⟩
theorem open_ed {cs:List Value} {y:DataW H × List MemPlace} (hl:cs.length = 3) (h:DataW.trod enc Tryz.prog W 0 (fun _=>true) true n 84 cs = some y):∃ e:Ed,(∃ vV vN,cs = EDC e vV vN∧Rb W.heap.size W vV e.V.length 1 (strv e.V)∧Rb W.heap.size W vN e.N.length 1 (intv e.N))∧EdIn e:=by
 obtain ⟨xs,k,-,-,-,hxl,hg⟩:=DataW.trod_struct Tryz.underlying84 h
 have hx3:xs.length = 3:=hxl
 obtain ⟨x0,x1,x2,rfl⟩:=list3 hx3
 obtain ⟨v0,v1,v2,rfl⟩:=list3 hl
 have g0:DataW.trod enc Tryz.prog W 0 (fun _=>true) true k 9 (List.take (Tryz.prog.cellsOf 9) [v0,v1,v2]) = some x0:=hg 0 _ rfl
 have g1:DataW.trod enc Tryz.prog W 0 (fun _=>true) true k 82 (List.take (Tryz.prog.cellsOf 82) [v1,v2]) = some x1:=hg 1 _ rfl
 have g2:DataW.trod enc Tryz.prog W 0 (fun _=>true) true k 53 (List.take (Tryz.prog.cellsOf 53) [v2]) = some x2:=hg 2 _ rfl
 rw [k_string] at g0
 rw [k_strs] at g1
 rw [k_ints] at g2
 obtain ⟨a0,rfl,b0⟩:=one_string g0
 obtain ⟨a1,r1,b1⟩:=open_strv g1
 obtain ⟨a2,r2,b2⟩:=open_intv g2
 exact ⟨⟨a0,a1,a2⟩,⟨v1,v2,rfl,r1,r2⟩,b0,b1,b2⟩
theorem mdsat_of:∀ (l:List (Md × List Value)),(∀ y∈l,∃ vF,y.2 = MDC y.1 vF∧Rb W.heap.size W vF y.1.F.length 7 (dfv y.1.F))→MdsAt W.heap.size W (l.map Prod.fst) (l.flatMap Prod.snd)
 | [],_=>rfl
 | y :: l,h=>by
  obtain ⟨a,h1,h2⟩:=h y (by simp)
  exact ⟨a,l.flatMap Prod.snd,by rw [List.flatMap_cons,h1],h2,mdsat_of l fun z hz=>h z (by simp [hz])⟩
theorem edsat_of:∀ (l:List (Ed × List Value)),(∀ y∈l,∃ vV vN,y.2 = EDC y.1 vV vN∧Rb W.heap.size W vV y.1.V.length 1 (strv y.1.V)∧Rb W.heap.size W vN y.1.N.length 1 (intv y.1.N))→EdsAt W.heap.size W (l.map Prod.fst) (l.flatMap Prod.snd)
 | [],_=>rfl
 | y :: l,h=>by
  obtain ⟨a,b,h1,h2,h3⟩:=h y (by simp)
  exact ⟨a,b,l.flatMap Prod.snd,by rw [List.flatMap_cons,h1],h2,h3,edsat_of l fun z hz=>h z (by simp [hz])⟩
theorem open_schema {base:Nat} {v:Value} {d:DataW H} {ps:List MemPlace}
  (hval:Value.okWide Tryz.prog W .any base 25 v) (h:DataW.Trod enc Tryz.prog W 0 (fun _=>true) true 25 v d ps) :
  ∃ (s:Sc) (vM vE:Value),v = .agg #[vM,vE]∧SAt W.heap.size W s vM vE∧ScIn s:=by
 obtain ⟨cs,rfl,hsz⟩:=okWide_struct Tryz.underlying25 hval
 obtain ⟨l⟩:=cs
 obtain ⟨fuel,hf⟩:=h
 obtain ⟨xs,k,-,-,hlen,hxl,hg⟩:=DataW.trod_struct Tryz.underlying25 hf
 have kf:Tryz.prog.cellsOf 25 = 2:=by kernel_rfl
 have hl2:l.length = 2:=by rw [kf] at hlen;simpa [Value.cells] using hlen
 have hx2:xs.length = 2:=hxl
 obtain ⟨x0,x1,rfl⟩:=list2 hx2
 obtain ⟨v0,v1,rfl⟩:=list2 hl2
 have g0:DataW.trod enc Tryz.prog W 0 (fun _=>true) true k 22 (List.take (Tryz.prog.cellsOf 22) [v0,v1]) = some x0:=hg 0 _ rfl
 have g1:DataW.trod enc Tryz.prog W 0 (fun _=>true) true k 23 (List.take (Tryz.prog.cellsOf 23) [v1]) = some x1:=hg 1 _ rfl
 rw [k_mds] at g0
 rw [k_eds] at g1
 obtain ⟨A,c,M,rfl,hs,hC,hb⟩:=open_rows Tryz.underlying22 k_md (by decide) (fun (m:Md) cs=>(∃ vF,cs = MDC m vF∧Rb W.heap.size W vF m.F.length 7 (dfv m.F))∧MdIn m) (fun n cs y hl h=>open_md hl h) (show DataW.trod enc Tryz.prog W 0 (fun _=>true) true k 22 [v0] = some x0 from g0)
 obtain ⟨A',c',E,rfl,hs',hC',hb'⟩:=open_rows Tryz.underlying23 k_ed (by decide) (fun (e:Ed) cs=>(∃ vV vN,cs = EDC e vV vN∧Rb W.heap.size W vV e.V.length 1 (strv e.V)∧Rb W.heap.size W vN e.N.length 1 (intv e.N))∧EdIn e) (fun n cs y hl h=>open_ed hl h) (show DataW.trod enc Tryz.prog W 0 (fun _=>true) true k 23 [v1] = some x1 from g1)
 refine ⟨⟨M.map Prod.fst,E.map Prod.fst⟩,_,_,rfl,⟨_,_,⟨A,c,by simp,by simpa using hs,by simpa using hb⟩,mdsat_of M fun y hy=>(hC y hy).1.1,⟨A',c',by simp,by simpa using hs',by simpa using hb'⟩,edsat_of E fun y hy=>(hC' y hy).1.1⟩,⟨fun m hm=>?_,fun e he=>?_⟩⟩
 ·obtain ⟨y,hy,rfl⟩:=List.mem_map.1 hm
  exact (hC y hy).1.2
 ·obtain ⟨y,hy,rfl⟩:=List.mem_map.1 he
  exact (hC' y hy).1.2
end
end Go.Proofs.YtckcojkpghiclaaGreatDoor
namespace Go.Proofs.YtckcojkpghiclaaGreatDoor
set_option maxRecDepth 100000
open Go.RowKit Go.Maps
abbrev FreeS (w:World) (b n:Nat) (p:List UInt8→Bool):Prop:=Free 9 kS w b n p
abbrev FreeI (w:World) (b n:Nat) (p:Int→Bool):Prop:=Free 2 kI w b n p
theorem zero_unit (w:World):(zeroValue 196).run Tryz.prog w = .ok (.agg #[]) w:=by kernel_rfl
set_option maxHeartbeats 1000000 in
theorem takeS_any (b n:Nat) (p:List UInt8→Bool) (x:List UInt8) (hx:x.length≤maxLen) (w:World) (h:FreeS w b n p) :
  Calls Tryz.prog 101 #[.map (some b),.string (txt x)] w fun e w'=>e = .returned (.bool (p x))∧FreeS w' b n (fun y=>p y && decide (y≠x))∧w.grownBy w' (some b):=by
 go_enter Tryz.func101,Tryz.ntmps101
 go_wp2_with (first
  | (at_lookup;refine wpList_free_look rfl _ _ 150 196 rfl kS_law Tryz.underlying150 (zero_unit _) b n p rfl h _ x rfl (kS_key hx) ?_)
  | (at_delete;refine wpList_free_del rfl _ _ 150 196 rfl kS_law Tryz.underlying150 kS_inj b n p rfl (h.alloc _) _ x rfl (kS_key hx) ?_;intro w1 h1 hg1))
 go_ret
 exact ⟨rfl,h1,(World.grownBy_alloc w _ _).trans hg1⟩
set_option maxHeartbeats 1000000 in
theorem takeI_any (b n:Nat) (p:Int→Bool) (x:Int) (hx:inr x) (w:World) (h:FreeI w b n p) :
  Calls Tryz.prog 194 #[.map (some b),.int .i64 x] w fun e w'=>e = .returned (.bool (p x))∧FreeI w' b n (fun y=>p y && decide (y≠x))∧w.grownBy w' (some b):=by
 go_enter Tryz.func194,Tryz.ntmps194
 go_wp2_with (first
  | (at_lookup;refine wpList_free_look rfl _ _ 234 196 rfl kI_law Tryz.underlying234 (zero_unit _) b n p rfl h _ x rfl (kI_key hx) ?_)
  | (at_delete;refine wpList_free_del rfl _ _ 234 196 rfl kI_law Tryz.underlying234 kI_inj b n p rfl (h.alloc _) _ x rfl (kI_key hx) ?_;intro w1 h1 hg1))
 go_ret
 exact ⟨rfl,h1,(World.grownBy_alloc w _ _).trans hg1⟩
theorem drop_next {α:Type} [DecidableEq α] [BEq α] [LawfulBEq α] {p:α→Bool} {l:List α} {k:Nat} {x:α} (h:l[k]? = some x):(fun y=>(p y && !(l.take k).contains y) && decide (y≠x)) = fun y=>p y && !(l.take (k+1)).contains y:=by
 funext y
 rw [List.take_add_one,h]
 by_cases hy:y = x
 ·subst hy;simp
 ·simp [hy]
def LsS (B:Nat) (w:World) (ls:List (List (List UInt8))) (vs:List Value):Prop:=∀ (k:Nat) l,ls[k]? = some l→∃ A c,vs[k]? = some (Value.slice A l.length c)∧Sl w A l.length c 1 (strv l)∧∀ ad,A = some ad→0 < l.length→ad.block < B
def LsI (B:Nat) (w:World) (ls:List (List Int)) (vs:List Value):Prop:=∀ (k:Nat) l,ls[k]? = some l→∃ A c,vs[k]? = some (Value.slice A l.length c)∧Sl w A l.length c 1 (intv l)∧∀ ad,A = some ad→0 < l.length→ad.block < B
theorem put_next {α:Type} [DecidableEq α] [BEq α] [LawfulBEq α] {p:α→Bool} {l:List α} {k:Nat} {x:α} (h:l[k]? = some x):(fun y=>(p y || (l.take k).contains y) || decide (y = x)) = fun y=>p y || (l.take (k+1)).contains y:=by
 funext y
 rw [List.take_add_one,h]
 by_cases hy:y = x
 ·subst hy;simp
 ·simp [hy]
theorem flat_next {α:Type} [BEq α] [LawfulBEq α] {ls:List (List α)} {k:Nat} {l:List α} (h:ls[k]? = some l):(fun y=>(ls.take k).flatten.contains y || l.contains y) = fun y=>(ls.take (k+1)).flatten.contains y:=by
 funext y
 rw [List.take_add_one,h]
 simp
theorem flats_len {α:Type} {ls:List (List α)} {k:Nat} {l:List α} (h:ls[k]? = some l):(ls.take (k+1)).flatten.length = (ls.take k).flatten.length+l.length:=by
 rw [List.take_add_one,h]
 simp
theorem flats_le {α:Type} (ls:List (List α)) (k:Nat):(ls.take k).flatten.length≤ls.flatten.length:=by
 conv=>rhs;rw [← List.take_append_drop k ls,List.flatten_append,List.length_append]
 omega
set_option maxRecDepth 1000000 in
set_option maxHeartbeats 2000000 in
theorem freeOfS_any (A:Option Addr) (c:Nat) (ls:List (List (List UInt8))) (vs:List Value) (w:World) (hs:Sl w A ls.length c 1 vs) (hv:LsS w.heap.size w ls vs) (hn:ls.flatten.length≤100000) (hx:∀ l∈ls,∀ x∈l,x.length≤maxLen) (hl:ls.length≤1000) :
  Calls Tryz.prog 139 #[.slice A ls.length c] w fun e w'=>e = .returned (.map (some w.heap.size))∧FreeS w' w.heap.size ls.flatten.length (fun y=>ls.flatten.contains y)∧Below w.heap.size w w':=by
 have HS:=Lib.hid hs
 have HV:=Lib.hid hv
 have HX:=Lib.hid hx
 have HLE:=Lib.hid (flats_le ls)
 clear hs hv hx
 have hmm:=@run_makeMap Tryz.prog
 go_enter Tryz.func139,Tryz.ntmps139
 go_wp2
 go_loopw [11] (fun i wr=>∃ k:Nat,i = .int .i64 k∧k≤ls.length∧FreeS wr w.heap.size (ls.take k).flatten.length (fun y=>(ls.take k).flatten.contains y)∧Below w.heap.size w wr) (fun i _=>ls.length - (intOf i).toNat)
 case atStart=>exact ⟨0,rfl,by omega,Free.made w,below_new w _⟩
 case round =>
  obtain ⟨k,rfl,hk,hm,hb⟩:=hrel
  by_cases hlt:k < ls.length
  ·obtain ⟨l,hl0⟩:∃ l,ls[k]? = some l:=⟨_,List.getElem?_eq_getElem hlt⟩
   obtain ⟨Al,cl,hvk,hsl,hAl⟩:=HV.out k l hl0
   obtain ⟨ad,rfl,hab,hc⟩:=Sl.there (HS.out.on hb) (by omega)
   have hck:=hc k _ hvk
   have HN:=Lib.hid (flat_next hl0)
   have HLN:=Lib.hid (flats_len hl0)
   have HXl:=Lib.hid (HX.out l (List.mem_of_getElem? hl0))
   have HSL:=Lib.hid hsl
   have hll:(ls.take k).flatten.length+l.length≤100000:=by
    have h1:=HLN.out
    have h2:=HLE.out (k+1)
    omega
   generalize (ls.take k).flatten = F at *
   clear hvk hc hsl hl0
   go_wp2
   go_loopw [17] (fun i wy=>∃ j:Nat,i = .int .i64 j∧j≤l.length∧FreeS wy w.heap.size (F.length+j) (fun y=>F.contains y || (l.take j).contains y)∧Below w.heap.size w wy) (fun i _=>l.length - (intOf i).toNat)
   case atStart=>exact ⟨0,rfl,by omega,hm.eq (by funext y;simp),hb⟩
   case round =>
    obtain ⟨j,rfl,hj,hm,hb⟩:=hrel
    by_cases hlt2:j < l.length
    ·obtain ⟨x,hx⟩:∃ x,l[j]? = some x:=⟨_,List.getElem?_eq_getElem hlt2⟩
     obtain ⟨ad2,rfl,hab2,hc2⟩:=strr_at (HSL.out.on hb) hx
     have hxl:=HXl.out x (List.mem_of_getElem? hx)
     have HP:=Lib.hid (put_next (p:=fun y=>F.contains y) hx)
     clear hx
     go_wp2_with (at_mapUpdate;refine wpList_free_put rfl _ _ _ 150 196 rfl kS_law Tryz.underlying150 kS_inj kS_lit w.heap.size _ _ rfl hm (by omega) _ x rfl rfl (kS_key hxl) ?_;intro w3 h3 hg3)
     exact ⟨⟨j+1,by go_num,by omega,h3.eq HP.out,hb.grown hg3 hb.size (fun q hq=>by injection hq with hq;omega)⟩,by simp [intOf];omega⟩
    ·obtain rfl:j = l.length:=by omega
     rw [List.take_length] at hm
     go_wp2
     exact ⟨⟨k+1,by go_num,by omega,by rw [HLN.out];exact hm.eq HN.out,hb⟩,by simp [intOf];omega⟩
  ·obtain rfl:k = ls.length:=by omega
   rw [List.take_length] at hm
   go_wp2
   go_ret
   exact ⟨rfl,hm,hb⟩
set_option maxRecDepth 1000000 in
set_option maxHeartbeats 2000000 in
theorem freeOfI_any (A:Option Addr) (c:Nat) (ls:List (List Int)) (vs:List Value) (w:World) (hs:Sl w A ls.length c 1 vs) (hv:LsI w.heap.size w ls vs) (hn:ls.flatten.length≤100000) (hx:∀ l∈ls,∀ x∈l,inr x) (hl:ls.length≤1000) :
  Calls Tryz.prog 193 #[.slice A ls.length c] w fun e w'=>e = .returned (.map (some w.heap.size))∧FreeI w' w.heap.size ls.flatten.length (fun y=>ls.flatten.contains y)∧Below w.heap.size w w':=by
 have HS:=Lib.hid hs
 have HV:=Lib.hid hv
 have HX:=Lib.hid hx
 have HLE:=Lib.hid (flats_le ls)
 clear hs hv hx
 have hmm:=@run_makeMap Tryz.prog
 go_enter Tryz.func193,Tryz.ntmps193
 go_wp2
 go_loopw [11] (fun i wr=>∃ k:Nat,i = .int .i64 k∧k≤ls.length∧FreeI wr w.heap.size (ls.take k).flatten.length (fun y=>(ls.take k).flatten.contains y)∧Below w.heap.size w wr) (fun i _=>ls.length - (intOf i).toNat)
 case atStart=>exact ⟨0,rfl,by omega,Free.made w,below_new w _⟩
 case round =>
  obtain ⟨k,rfl,hk,hm,hb⟩:=hrel
  by_cases hlt:k < ls.length
  ·obtain ⟨l,hl0⟩:∃ l,ls[k]? = some l:=⟨_,List.getElem?_eq_getElem hlt⟩
   obtain ⟨Al,cl,hvk,hsl,hAl⟩:=HV.out k l hl0
   obtain ⟨ad,rfl,hab,hc⟩:=Sl.there (HS.out.on hb) (by omega)
   have hck:=hc k _ hvk
   have HN:=Lib.hid (flat_next hl0)
   have HLN:=Lib.hid (flats_len hl0)
   have HXl:=Lib.hid (HX.out l (List.mem_of_getElem? hl0))
   have HSL:=Lib.hid hsl
   have hll:(ls.take k).flatten.length+l.length≤100000:=by
    have h1:=HLN.out
    have h2:=HLE.out (k+1)
    omega
   generalize (ls.take k).flatten = F at *
   clear hvk hc hsl hl0
   go_wp2
   go_loopw [17] (fun i wy=>∃ j:Nat,i = .int .i64 j∧j≤l.length∧FreeI wy w.heap.size (F.length+j) (fun y=>F.contains y || (l.take j).contains y)∧Below w.heap.size w wy) (fun i _=>l.length - (intOf i).toNat)
   case atStart=>exact ⟨0,rfl,by omega,hm.eq (by funext y;simp),hb⟩
   case round =>
    obtain ⟨j,rfl,hj,hm,hb⟩:=hrel
    by_cases hlt2:j < l.length
    ·obtain ⟨x,hx⟩:∃ x,l[j]? = some x:=⟨_,List.getElem?_eq_getElem hlt2⟩
     obtain ⟨ad2,rfl,hab2,hc2⟩:=intr_at (HSL.out.on hb) hx
     have hxl:=HXl.out x (List.mem_of_getElem? hx)
     have HP:=Lib.hid (put_next (p:=fun y=>F.contains y) hx)
     clear hx
     go_wp2_with (at_mapUpdate;refine wpList_free_put rfl _ _ _ 234 196 rfl kI_law Tryz.underlying234 kI_inj kI_lit w.heap.size _ _ rfl hm (by omega) _ x rfl rfl (kI_key hxl) ?_;intro w3 h3 hg3)
     exact ⟨⟨j+1,by go_num,by omega,h3.eq HP.out,hb.grown hg3 hb.size (fun q hq=>by injection hq with hq;omega)⟩,by simp [intOf];omega⟩
    ·obtain rfl:j = l.length:=by omega
     rw [List.take_length] at hm
     go_wp2
     exact ⟨⟨k+1,by go_num,by omega,by rw [HLN.out];exact hm.eq HN.out,hb⟩,by simp [intOf];omega⟩
  ·obtain rfl:k = ls.length:=by omega
   rw [List.take_length] at hm
   go_wp2
   go_ret
   exact ⟨rfl,hm,hb⟩
theorem drop_nextP {p:List UInt8→Bool} {k:Nat} {q:List UInt8 × Nat} (h:plainsL[k]? = some q):(fun y=>(p y && !((plainsL.map (·.1)).take k).contains y) && decide (y≠q.1)) = fun y=>p y && !((plainsL.map (·.1)).take (k+1)).contains y :=
 drop_next (l:=plainsL.map (·.1)) (by rw [List.getElem?_map,h];rfl)
theorem plain_short {k:Nat} {q:List UInt8 × Nat} (h:plainsL[k]? = some q):q.1.length≤maxLen:=by
 have:∀ q∈plainsL,q.1.length≤8:=by decide
 have:=this q (List.mem_of_getElem? h)
 unfold maxLen
 omega
set_option maxRecDepth 1000000 in
set_option maxHeartbeats 2000000 in
theorem typeNames_any (v1 v2:Value) (l1 l2:List (List UInt8)) (w:World) (T:Tabs w) (h1:Rb w.heap.size w v1 l1.length 1 (strv l1)) (h2:Rb w.heap.size w v2 l2.length 1 (strv l2)) (hn:l1.length+l2.length≤100000) (hx:∀ x∈l1++l2,x.length≤maxLen) :
  Calls Tryz.prog 96 #[v1,v2] w fun e w'=>∃ b,e = .returned (.map (some b))∧w.heap.size≤b∧FreeS w' b (l1.length+l2.length) (stillT (l1++l2) 0)∧Below w.heap.size w w':=by
 obtain ⟨A1,c1,rfl,s1,a1⟩:=h1
 obtain ⟨A2,c2,rfl,s2,a2⟩:=h2
 have hbw:=below_new w (.cells #[.slice A1 l1.length c1,.slice A2 l2.length c2] 82)
 have hF:=freeOfS_any (some ⟨w.heap.size,0,none⟩) 2 [l1,l2] [.slice A1 l1.length c1,.slice A2 l2.length c2] (w.alloc (.cells #[.slice A1 l1.length c1,.slice A2 l2.length c2] 82)) (Sl.new w [.slice A1 l1.length c1,.slice A2 l2.length c2] _ (by unfold maxLen;simp)) (by
  intro k l hk
  match k,hk with
  | 0,hk =>
   obtain rfl:l1 = l:=by simpa using hk
   exact ⟨A1,c1,rfl,s1.on hbw,fun ad ha hp=>Nat.lt_of_lt_of_le (a1 ad ha hp) hbw.size⟩
  | 1,hk =>
   obtain rfl:l2 = l:=by simpa using hk
   exact ⟨A2,c2,rfl,s2.on hbw,fun ad ha hp=>Nat.lt_of_lt_of_le (a2 ad ha hp) hbw.size⟩
  | k+2,hk=>simp at hk) (by simpa using hn) (by
  intro l hl x hxl
  refine hx x (List.mem_append.2 ?_)
  rcases List.mem_cons.1 hl with rfl | hl
  ·exact .inl hxl
  ·obtain rfl:l = l2:=by simpa using hl
   exact .inr hxl) (by simp)
 have HF:=Lib.hid hF
 have HST:=Lib.hid (still_start (l1++l2) (plainsL.map (·.1)))
 clear hF s1 s2 a1 a2 hx
 have HBW:=Lib.hid hbw
 have HT:=Lib.hid (T.on hbw)
 clear hbw T
 go_enter Tryz.func96,Tryz.ntmps96
 go_wp2_with (first
  | (go_at_call 139;refine HF.out.mono ?_;rintro e w2 ⟨rfl,hm2,hb2⟩;obtain ⟨tt,fr,hT⟩:=(HT.out.on hb2).plains)
  | (refine wpList_load_row rfl 195 _ rfl 0 rfl tt _ fr _ hT Tryz.underlying195 rfl (by kernel_rfl) ?_))
 have hbb:Below w.heap.size w w2:=HBW.out.trans (hb2.mono HBW.out.size)
 have hm3:FreeS w2 (w.heap.size+1) (l1.length+l2.length) (fun y=>(l1++l2).contains y):=by
  have e:(w.alloc (.cells #[.slice A1 l1.length c1,.slice A2 l2.length c2] 82)).heap.size = w.heap.size+1:=by simp
  rw [e] at hm2
  have e2:[l1,l2].flatten = l1++l2:=by simp
  rw [e2] at hm2
  exact hm2.mono (by simp)
 clear hm2 hb2 hT
 go_loopw [13] (fun i wr=>∃ k:Nat,i = .int .i64 k∧k≤8∧FreeS wr (w.heap.size+1) (l1.length+l2.length) (fun y=>(l1++l2).contains y && !((plainsL.map (·.1)).take k).contains y)∧Below w.heap.size w wr) (fun i _=>8 - (intOf i).toNat)
 case atStart=>exact ⟨0,rfl,by omega,hm3.eq (by funext y;simp),hbb⟩
 case round =>
  obtain ⟨k,rfl,hk,hm,hb⟩:=hrel
  by_cases hlt:k < 8
  ·obtain ⟨q,hq⟩:∃ q,plainsL[k]? = some q:=⟨_,List.getElem?_eq_getElem hlt⟩
   have hi:=index_plain wr hq
   have hql:=plain_short hq
   have HN:=Lib.hid (drop_nextP (p:=fun y=>(l1++l2).contains y) hq)
   clear hq
   go_wp2_with (at_delete;refine wpList_free_del rfl _ _ 150 196 rfl kS_law Tryz.underlying150 kS_inj (w.heap.size+1) _ _ rfl (hm.alloc _) _ q.1 rfl (kS_key hql) ?_;intro w3 h3 hg3)
   exact ⟨⟨k+1,by go_num,by omega,h3.eq HN.out,(below_lit hb _).grown hg3 (by have:=hb.size;simp;omega) (fun j hj=>by injection hj with hj;omega)⟩,by simp [intOf];omega⟩
  ·obtain rfl:k = 8:=by omega
   go_wp2
   go_ret
   refine ⟨w.heap.size+1,rfl,by omega,hm.eq ?_,hb⟩
   unfold stillT
   rw [HST.out]
   rfl
end Go.Proofs.YtckcojkpghiclaaGreatDoor
namespace Go.Proofs.YtckcojkpghiclaaGreatDoor
set_option maxRecDepth 100000
open Go.RowKit
theorem strv_next {α:Type} (g:α→List UInt8) {l:List α} {k:Nat} {x:α} (h:l[k]? = some x):strv ((l.take k).map g)++[.string (txt (g x))] = strv ((l.take (k+1)).map g):=by
 rw [List.take_add_one,h];simp [strv]
theorem clo_eachMd_any (m:Md) (a1:Option Addr) (n1 k1:Nat) (w:World):Calls Tryz.prog 98 #[.agg #[.string (txt m.name),.slice a1 n1 k1]] w fun e w'=>e = .returned (.string (txt m.name))∧w' = w.alloc (.cells #[.string (txt m.name),.slice a1 n1 k1] 56):=by
 go_enter Tryz.func98,Tryz.ntmps98
 go_wp2
 go_ret
 exact ⟨rfl,rfl⟩
set_option maxRecDepth 1000000 in
set_option maxHeartbeats 2000000 in
theorem eachMd_any (B:Nat) (v:Value) (xs:List Value) (l:List Md) (hl:l.length≤100000) (w:World) (hB:B≤w.heap.size) (hr:Rb B w v l.length 2 xs) (ha:MdsAt B w l xs) :
  Calls Tryz.prog 97 #[v,.func (.func 98) #[] #[]] w fun e w'=>∃ v',e = .returned v'∧w'.ownsRow w.heap.size 9 1 v' l.length (strv (l.map (·.name)))∧Below w.heap.size w w':=by
 obtain ⟨A,c,rfl,hs,hA⟩:=hr
 obtain ⟨i0,hi,hz0,hz1,hz2⟩:=info_parts infoStrs
 have HS:=Lib.hid hs
 have HA:=Lib.hid ha
 clear hs ha
 go_enter Tryz.func97,Tryz.ntmps97
 go_wp2_with (at_make;refine wpList_make_own _ rfl _ _ 82 rfl w.heap.size 9 i0 _ 1 Tryz.underlying82 hi hz0 hz1 _ _ _ l.length rfl rfl rfl (by rw [hz2];omega) (by unfold maxLen;omega) (Nat.le_refl _) ?_;intro w1 hown1 hg1)
 have hb1:Below w.heap.size w w1:=(Below.refl w.heap.size w).grown hg1 (Nat.le_refl _) (fun k hk=>by cases hk)
 go_loopw [5,13] (fun o i wr=>∃ k:Nat,i = .int .i64 k∧k≤l.length∧wr.ownsRow w.heap.size 9 1 o k (strv ((l.take k).map (·.name)))∧Below w.heap.size w wr) (fun _ i _=>l.length - (intOf i).toNat)
 case atStart=>exact ⟨0,rfl,by omega,hown1,hb1⟩
 case round =>
  obtain ⟨k,rfl,hk,hown,hb⟩:=hrel
  by_cases hlt:k < l.length
  ·obtain ⟨m,hm⟩:∃ m,l[k]? = some m:=⟨_,List.getElem?_eq_getElem hlt⟩
   obtain ⟨ad,vF,rfl,_,hmr,c0,c1⟩:=mdr_at (HS.out.low hA (Low.below hb hB)) (HA.out.low (Low.below hb hB)) hm
   obtain ⟨_,_,rfl,-,-⟩:=hmr
   have HN:=Lib.hid (strv_next (·.name) hm)
   clear hm
   go_wp2_with (first
    | (at_builtin;refine wpList_app1 rfl _ _ 82 rfl w.heap.size 9 i0 _ 16 Tryz.underlying82 hi hz0 hz1 hz2 rfl _ k _ rfl (((hown.alloc _).alloc _).alloc _) _ 1 (.string (txt m.name)) rfl (World.cell?_alloc_at _ _ _ _ (by simp)) rfl (by unfold maxLen;omega) (by omega) (by have:=hb.size;simp;omega) ?_;intro v3 w3 hown3 hg3)
    | (go_at_call 98;refine (clo_eachMd_any m _ _ _ _).mono ?_;rintro e w2 ⟨rfl,rfl⟩))
   rw [HN.out] at hown3
   exact ⟨⟨k+1,by go_num,by omega,hown3,(below_lit (below_lit (below_lit hb _) _) _).grown hg3 (by have:=hb.size;simp;omega) (own_ge hown)⟩,by simp [intOf];omega⟩
  ·obtain rfl:k = l.length:=by omega
   rw [List.take_length] at hown
   go_wp2
   go_ret
   exact ⟨_,rfl,hown,hb⟩
theorem clo_eachEd_any (m:Ed) (a1:Option Addr) (n1 k1:Nat) (a2:Option Addr) (n2 k2:Nat) (w:World):Calls Tryz.prog 100 #[.agg #[.string (txt m.name),.slice a1 n1 k1,.slice a2 n2 k2]] w fun e w'=>e = .returned (.string (txt m.name))∧w' = w.alloc (.cells #[.string (txt m.name),.slice a1 n1 k1,.slice a2 n2 k2] 84):=by
 go_enter Tryz.func100,Tryz.ntmps100
 go_wp2
 go_ret
 exact ⟨rfl,rfl⟩
set_option maxRecDepth 1000000 in
set_option maxHeartbeats 2000000 in
theorem eachEd_any (B:Nat) (v:Value) (xs:List Value) (l:List Ed) (hl:l.length≤100000) (w:World) (hB:B≤w.heap.size) (hr:Rb B w v l.length 3 xs) (ha:EdsAt B w l xs) :
  Calls Tryz.prog 99 #[v,.func (.func 100) #[] #[]] w fun e w'=>∃ v',e = .returned v'∧w'.ownsRow w.heap.size 9 1 v' l.length (strv (l.map (·.name)))∧Below w.heap.size w w':=by
 obtain ⟨A,c,rfl,hs,hA⟩:=hr
 obtain ⟨i0,hi,hz0,hz1,hz2⟩:=info_parts infoStrs
 have HS:=Lib.hid hs
 have HA:=Lib.hid ha
 clear hs ha
 go_enter Tryz.func99,Tryz.ntmps99
 go_wp2_with (at_make;refine wpList_make_own _ rfl _ _ 82 rfl w.heap.size 9 i0 _ 1 Tryz.underlying82 hi hz0 hz1 _ _ _ l.length rfl rfl rfl (by rw [hz2];omega) (by unfold maxLen;omega) (Nat.le_refl _) ?_;intro w1 hown1 hg1)
 have hb1:Below w.heap.size w w1:=(Below.refl w.heap.size w).grown hg1 (Nat.le_refl _) (fun k hk=>by cases hk)
 go_loopw [5,13] (fun o i wr=>∃ k:Nat,i = .int .i64 k∧k≤l.length∧wr.ownsRow w.heap.size 9 1 o k (strv ((l.take k).map (·.name)))∧Below w.heap.size w wr) (fun _ i _=>l.length - (intOf i).toNat)
 case atStart=>exact ⟨0,rfl,by omega,hown1,hb1⟩
 case round =>
  obtain ⟨k,rfl,hk,hown,hb⟩:=hrel
  by_cases hlt:k < l.length
  ·obtain ⟨m,hm⟩:∃ m,l[k]? = some m:=⟨_,List.getElem?_eq_getElem hlt⟩
   obtain ⟨ad,vV,vN,rfl,_,hmr,hms,c0,c1,c2⟩:=edr_at (HS.out.low hA (Low.below hb hB)) (HA.out.low (Low.below hb hB)) hm
   obtain ⟨_,_,rfl,-,-⟩:=hmr
   obtain ⟨_,_,rfl,-,-⟩:=hms
   have HN:=Lib.hid (strv_next (·.name) hm)
   clear hm
   go_wp2_with (first
    | (at_builtin;refine wpList_app1 rfl _ _ 82 rfl w.heap.size 9 i0 _ 16 Tryz.underlying82 hi hz0 hz1 hz2 rfl _ k _ rfl (((hown.alloc _).alloc _).alloc _) _ 1 (.string (txt m.name)) rfl (World.cell?_alloc_at _ _ _ _ (by simp)) rfl (by unfold maxLen;omega) (by omega) (by have:=hb.size;simp;omega) ?_;intro v3 w3 hown3 hg3)
    | (go_at_call 100;refine (clo_eachEd_any m _ _ _ _ _ _ _).mono ?_;rintro e w2 ⟨rfl,rfl⟩))
   rw [HN.out] at hown3
   exact ⟨⟨k+1,by go_num,by omega,hown3,(below_lit (below_lit (below_lit hb _) _) _).grown hg3 (by have:=hb.size;simp;omega) (own_ge hown)⟩,by simp [intOf];omega⟩
  ·obtain rfl:k = l.length:=by omega
   rw [List.take_length] at hown
   go_wp2
   go_ret
   exact ⟨_,rfl,hown,hb⟩
theorem clo_eachDf_any (m:Df) (w:World):Calls Tryz.prog 141 #[.agg #[.int .i64 m.no,.string (txt m.name),.int .i64 m.kind,.int .i64 m.ref,.bool m.rep,.int .i64 m.key,.int .i64 m.one]] w fun e w'=>e = .returned (.string (txt m.name))∧w' = w.alloc (.cells #[.int .i64 m.no,.string (txt m.name),.int .i64 m.kind,.int .i64 m.ref,.bool m.rep,.int .i64 m.key,.int .i64 m.one] 45):=by
 go_enter Tryz.func141,Tryz.ntmps141
 go_wp2
 go_ret
 exact ⟨rfl,rfl⟩
set_option maxRecDepth 1000000 in
set_option maxHeartbeats 2000000 in
theorem eachDf_any (B:Nat) (v:Value) (l:List Df) (hl:l.length≤100000) (w:World) (hB:B≤w.heap.size) (hr:Rb B w v l.length 7 (dfv l)) :
  Calls Tryz.prog 140 #[v,.func (.func 141) #[] #[]] w fun e w'=>∃ v',e = .returned v'∧w'.ownsRow w.heap.size 9 1 v' l.length (strv (l.map (·.name)))∧Below w.heap.size w w':=by
 obtain ⟨A,c,rfl,hs,hA⟩:=hr
 obtain ⟨i0,hi,hz0,hz1,hz2⟩:=info_parts infoStrs
 have HS:=Lib.hid hs
 clear hs
 go_enter Tryz.func140,Tryz.ntmps140
 go_wp2_with (at_make;refine wpList_make_own _ rfl _ _ 82 rfl w.heap.size 9 i0 _ 1 Tryz.underlying82 hi hz0 hz1 _ _ _ l.length rfl rfl rfl (by rw [hz2];omega) (by unfold maxLen;omega) (Nat.le_refl _) ?_;intro w1 hown1 hg1)
 have hb1:Below w.heap.size w w1:=(Below.refl w.heap.size w).grown hg1 (Nat.le_refl _) (fun k hk=>by cases hk)
 go_loopw [5,13] (fun o i wr=>∃ k:Nat,i = .int .i64 k∧k≤l.length∧wr.ownsRow w.heap.size 9 1 o k (strv ((l.take k).map (·.name)))∧Below w.heap.size w wr) (fun _ i _=>l.length - (intOf i).toNat)
 case atStart=>exact ⟨0,rfl,by omega,hown1,hb1⟩
 case round =>
  obtain ⟨k,rfl,hk,hown,hb⟩:=hrel
  by_cases hlt:k < l.length
  ·obtain ⟨m,hm⟩:∃ m,l[k]? = some m:=⟨_,List.getElem?_eq_getElem hlt⟩
   obtain ⟨ad,rfl,_,c0,c1,c2,c3,c4,c5,c6⟩:=dfr_at (HS.out.low hA (Low.below hb hB)) hm
   have HN:=Lib.hid (strv_next (·.name) hm)
   clear hm
   go_wp2_with (first
    | (at_builtin;refine wpList_app1 rfl _ _ 82 rfl w.heap.size 9 i0 _ 16 Tryz.underlying82 hi hz0 hz1 hz2 rfl _ k _ rfl (((hown.alloc _).alloc _).alloc _) _ 1 (.string (txt m.name)) rfl (World.cell?_alloc_at _ _ _ _ (by simp)) rfl (by unfold maxLen;omega) (by omega) (by have:=hb.size;simp;omega) ?_;intro v3 w3 hown3 hg3)
    | (go_at_call 141;refine (clo_eachDf_any m _).mono ?_;rintro e w2 ⟨rfl,rfl⟩))
   rw [HN.out] at hown3
   exact ⟨⟨k+1,by go_num,by omega,hown3,(below_lit (below_lit (below_lit hb _) _) _).grown hg3 (by have:=hb.size;simp;omega) (own_ge hown)⟩,by simp [intOf];omega⟩
  ·obtain rfl:k = l.length:=by omega
   rw [List.take_length] at hown
   go_wp2
   go_ret
   exact ⟨_,rfl,hown,hb⟩
end Go.Proofs.YtckcojkpghiclaaGreatDoor
namespace Go.Proofs.YtckcojkpghiclaaGreatDoor
set_option maxRecDepth 100000
open Go.RowKit Go.Maps
theorem box_kept {w w':World} {g b:Nat} {o:Obj} (h:w.heap[g]? = some o) (hg:w.grownBy w' (some b)) (hne:g≠b):w'.heap[g]? = some o :=
 (hg.block g (Array.getElem?_eq_some_iff.1 h).1 (fun e=>hne (by injection e))).trans h
theorem box2 {w:World} {g:Nat} {a b:Value} {t:TypeId} (h:w.heap[g]? = some (.cells #[a,b] t (0,0))):w.heap[g]? = some (.cells #[a,b] t (0,0))∧w.cell? ⟨g,0,none⟩ = some a∧w.cell? ⟨g,1,none⟩ = some b :=
 ⟨h,by rw [heap_cell h 0];rfl,by rw [heap_cell h 1];rfl⟩
theorem box2_below {w w':World} {g:Nat} {a b:Value} {t:TypeId} (hb:Below w.heap.size w w') (h:w.heap[g]? = some (.cells #[a,b] t (0,0))∧w.cell? ⟨g,0,none⟩ = some a∧w.cell? ⟨g,1,none⟩ = some b):w'.heap[g]? = some (.cells #[a,b] t (0,0))∧w'.cell? ⟨g,0,none⟩ = some a∧w'.cell? ⟨g,1,none⟩ = some b :=
 box2 ((hb.block g (Array.getElem?_eq_some_iff.1 h.1).1).trans h.1)
theorem stillT_next {l:List (List UInt8)} {k:Nat} {x:List UInt8} (h:l[k]? = some x):(fun y=>stillT l k y && decide (y≠x)) = stillT l (k+1):=still_next h
end Go.Proofs.YtckcojkpghiclaaGreatDoor
namespace Go.Proofs.YtckcojkpghiclaaGreatDoor
set_option maxRecDepth 100000
open Go.RowKit Go.WideMaps Go.Maps
end Go.Proofs.YtckcojkpghiclaaGreatDoor
namespace Go.Proofs.YtckcojkpghiclaaGreatDoor
set_option maxRecDepth 100000
open Go.RowKit Go.Maps
def df0:Df:=⟨0,[],0,0,false,0,0⟩
theorem infoDf:(Tryz.prog.info? 45).map (·.size) = some 7:=by kernel_rfl
theorem wpList_store_df {ops:Array Oper} {rest:List Oper} {o:Oper} {a:Act} {w:World} {Q:Exit→Act→World→Prop} (hgd:o.guard = none) (x y:Operand) (ho:o.op = .store 45 x y)
  (hd:o.dst = none) (g:Nat) (b1:ByteArray) (b4:Bool) (b0 b2 b3 b5 b6:Int) (u0 u1 u2 u3 u4 u5 u6:Value) (hx:a.eval x = .pointer (some ⟨g,0,none⟩)) (hy:a.eval y = .agg #[.int .i64 b0,.string b1,.int .i64 b2,.int .i64 b3,.bool b4,.int .i64 b5,.int .i64 b6])
  (t:TypeId) (hg:w.heap[g]? = some (.cells #[u0,u1,u2,u3,u4,u5,u6] t (0,0)))
  (h:wpList Tryz.prog ops Q rest a (w.setRow g #[.int .i64 b0,.string b1,.int .i64 b2,.int .i64 b3,.bool b4,.int .i64 b5,.int .i64 b6])):wpList Tryz.prog ops Q (o :: rest) a w :=
 wpList_store_rowTo hgd 45 x y ho hd g _ hx hy t _ hg infoDf rfl (by simp [Value.oneCell']) h
theorem results_df1 {fn:Func} {p u:Tmp} (h:fn.results = #[.cell p 45,.tmp u]) (tmps:Array Value) (w:World) (g:Nat) (t:TypeId) (u0 u1 u2 u3 u4 u5 u6:Value) (fr:Nat × Nat)
  (hp:tmps.getD p undef = .pointer (some ⟨g,0,none⟩)) (hg:w.heap[g]? = some (.cells #[u0,u1,u2,u3,u4,u5,u6] t fr)) :
  (results fn tmps).run Tryz.prog w = .ok (.tuple #[.agg #[u0,u1,u2,u3,u4,u5,u6],tmps.getD u undef]) w :=
 results_row_tmp1 h tmps w g t _ fr _ hp hg Tryz.underlying45 rfl infoDf
end Go.Proofs.YtckcojkpghiclaaGreatDoor
