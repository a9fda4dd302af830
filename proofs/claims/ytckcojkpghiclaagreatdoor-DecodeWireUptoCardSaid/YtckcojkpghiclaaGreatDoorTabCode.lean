/-
 A file as an argument: how it is read.
-/
import Derived.Test.YtckcojkpghiclaaGreatDoorProPce
import Derived.Test.YtckcojkpghiclaaGreatDoorConvSmall
import Derived.Test.YtckcojkpghiclaaGreatDoorVarMay
import Derived.Test.YtckcojkpghiclaaGreatDoorRecRput
import Derived.Test.YtckcojkpghiclaaGreatDoorTokMath
import Derived.Lib.AppendZeros
namespace Go.Proofs.YtckcojkpghiclaaGreatDoor
set_option maxRecDepth 100000
open Go.RowKit Go.ChangeShapes Go.WideShapes Go.ChangeAt
section
variable {H:Type} {enc:TypeId × Value → H} {W:World} {n:Nat}
theorem list7 {α:Type} {l:List α} (h:l.length = 7):∃ a b c d e f g,l = [a,b,c,d,e,f,g]:=by
 match l,h with
 | [a,b,c,d,e,f,g],_=>exact ⟨a,b,c,d,e,f,g,rfl⟩
theorem list3 {α:Type} {l:List α} (h:l.length = 3):∃ a b c,l = [a,b,c]:=by
 match l,h with
 | [a,b,c],_=>exact ⟨a,b,c,rfl⟩
theorem list2 {α:Type} {l:List α} (h:l.length = 2):∃ a b,l = [a,b]:=by
 match l,h with
 | [a,b],_=>exact ⟨a,b,rfl⟩
theorem one_string {v:Value} {y:DataW H × List MemPlace} (h:DataW.trod enc Tryz.prog W 0 (fun _=>true) true n 9 [v] = some y):∃ x:List UInt8,v = .string (txt x) ∧ x.length ≤ maxLen:=by
 obtain ⟨s,h1,_,h2⟩:=DataW.trod_string Tryz.underlying9 h
 exact ⟨s.data.toList,by rw [txt_of]; simpa using h1,by simpa using h2⟩
theorem one_int {v:Value} {y:DataW H × List MemPlace} (h:DataW.trod enc Tryz.prog W 0 (fun _=>true) true n 3 [v] = some y):∃ k:Int,v = .int .i64 k ∧ inr k:=by
 obtain ⟨k,h1,_,h2⟩:=DataW.trod_int Tryz.underlying3 h
 exact ⟨k,by simpa using h1,bounds_i64 h2⟩
theorem one_int64 {v:Value} {y:DataW H × List MemPlace} (h:DataW.trod enc Tryz.prog W 0 (fun _=>true) true n 2 [v] = some y):∃ k:Int,v = .int .i64 k ∧ inr k:=by
 obtain ⟨k,h1,_,h2⟩:=DataW.trod_int Tryz.underlying2 h
 exact ⟨k,by simpa using h1,bounds_i64 h2⟩
theorem one_bool {v:Value} {y:DataW H × List MemPlace} (h:DataW.trod enc Tryz.prog W 0 (fun _=>true) true n 4 [v] = some y):∃ b:Bool,v = .bool b:=by
 obtain ⟨b,h1,_⟩:=DataW.trod_bool Tryz.underlying4 h
 exact ⟨b,by simpa using h1⟩
theorem k_string:Tryz.prog.cellsOf 9 = 1:=by kernel_rfl
theorem k_int:Tryz.prog.cellsOf 3 = 1:=by kernel_rfl
theorem k_int64:Tryz.prog.cellsOf 2 = 1:=by kernel_rfl
theorem k_bool:Tryz.prog.cellsOf 4 = 1:=by kernel_rfl
theorem k_strs:Tryz.prog.cellsOf 82 = 1:=by kernel_rfl
theorem k_ints:Tryz.prog.cellsOf 53 = 1:=by kernel_rfl
theorem flat_of {α:Type} (g:α → List Value):∀ (l:List (α × List Value)),(∀ y ∈ l,y.2 = g y.1) → l.flatMap Prod.snd = (l.map Prod.fst).flatMap g
 | [],_=>rfl
 | y :: l,h=>by rw [List.flatMap_cons,List.map_cons,List.flatMap_cons,h y (by simp),flat_of g l fun z hz=>h z (by simp [hz])]
theorem flat_ones {α:Type} (g:α → Value):∀ (l:List α),(l.flatMap fun a=>[g a]) = l.map g
 | []=>rfl
 | a :: l=>by rw [List.flatMap_cons,flat_ones g l]; rfl
theorem list1 {α:Type} {l:List α} (h:l.length = 1):∃ a,l = [a]:=by
 match l,h with
 | [a],_=>exact ⟨a,rfl⟩
theorem open_strv {v:Value} {x:DataW H × List MemPlace} (h:DataW.trod enc Tryz.prog W 0 (fun _=>true) true n 82 [v] = some x):∃ l:List (List UInt8),Rb W.heap.size W v l.length 1 (strv l) ∧ ∀ d ∈ l,d.length ≤ maxLen:=by
 obtain ⟨A,c,l,rfl,hs,hC,hb⟩:=open_rows Tryz.underlying82 k_string (by decide) (fun (d:List UInt8) cs=>cs = [.string (txt d)] ∧ d.length ≤ maxLen) (fun n cs y hl h=>by
  obtain ⟨v,rfl⟩:=list1 hl
  obtain ⟨s,rfl,h2⟩:=one_string h
  exact ⟨s,rfl,h2⟩) h
 have e:l.flatMap Prod.snd = strv (l.map Prod.fst):=(flat_of (fun d=>[.string (txt d)]) l fun y hy=>(hC y hy).1.1).trans (flat_ones _ _)
 rw [e] at hs
 refine ⟨l.map Prod.fst,⟨A,c,by rw [List.length_map],by rw [List.length_map]; exact hs,by rw [List.length_map]; exact hb⟩,fun d hd=>?_⟩
 obtain ⟨y,hy,rfl⟩:=List.mem_map.1 hd
 exact (hC y hy).1.2
theorem open_intv {v:Value} {x:DataW H × List MemPlace} (h:DataW.trod enc Tryz.prog W 0 (fun _=>true) true n 53 [v] = some x):∃ l:List Int,Rb W.heap.size W v l.length 1 (intv l) ∧ ∀ d ∈ l,inr d:=by
 obtain ⟨A,c,l,rfl,hs,hC,hb⟩:=open_rows Tryz.underlying53 k_int64 (by decide) (fun (d:Int) cs=>cs = [.int .i64 d] ∧ inr d) (fun n cs y hl h=>by
  obtain ⟨v,rfl⟩:=list1 hl
  obtain ⟨s,rfl,h2⟩:=one_int64 h
  exact ⟨s,rfl,h2⟩) h
 have e:l.flatMap Prod.snd = intv (l.map Prod.fst):=(flat_of (fun d=>[.int .i64 d]) l fun y hy=>(hC y hy).1.1).trans (flat_ones _ _)
 rw [e] at hs
 refine ⟨l.map Prod.fst,⟨A,c,by rw [List.length_map],by rw [List.length_map]; exact hs,by rw [List.length_map]; exact hb⟩,fun d hd=>?_⟩
 obtain ⟨y,hy,rfl⟩:=List.mem_map.1 hd
 exact (hC y hy).1.2
end
end Go.Proofs.YtckcojkpghiclaaGreatDoor
namespace Go.Proofs.YtckcojkpghiclaaGreatDoor
set_option maxRecDepth 100000
open Go.RowKit Go.ChangeShapes Go.WideShapes Go.ChangeAt
def DC (d:Df):List Value:=[.int .i64 d.no,.string (txt d.name),.int .i64 d.kind,.int .i64 d.ref,.bool d.rep,.int .i64 d.key,.int .i64 d.one]
def dfv (l:List Df):List Value:=l.flatMap DC
def MDC (m:Md) (vF:Value):List Value:=[.string (txt m.name),vF]
def EDC (e:Ed) (vV vN:Value):List Value:=[.string (txt e.name),vV,vN]
theorem dfv_get:∀ (l:List Df) (k j:Nat) (d:Df),l[k]? = some d → j < 7 → (dfv l)[k * 7 + j]? = (DC d)[j]?
 | [],k,j,r,h,_=>by simp at h
 | x :: l,0,j,r,h,hj=>by
  obtain rfl:x = r:=by simpa using h
  rw [show dfv (x :: l) = DC x ++ dfv l by simp [dfv],Nat.zero_mul,Nat.zero_add,List.getElem?_append_left (by simp [DC]; omega)]
 | x :: l,k + 1,j,r,h,hj=>by
  rw [show dfv (x :: l) = DC x ++ dfv l by simp [dfv],List.getElem?_append_right (by simp [DC]; omega)]
  rw [show (k + 1) * 7 + j - (DC x).length = k * 7 + j by simp [DC]; omega]
  exact dfv_get l k j r (by simpa using h) hj
def MdsAt (B:Nat) (w:World):List Md → List Value → Prop
 | [],xs=>xs = []
 | m :: l,xs=>∃ vF ys,xs = MDC m vF ++ ys ∧ Rb B w vF m.F.length 7 (dfv m.F) ∧ MdsAt B w l ys
def EdsAt (B:Nat) (w:World):List Ed → List Value → Prop
 | [],xs=>xs = []
 | e :: l,xs=>∃ vV vN ys,xs = EDC e vV vN ++ ys ∧ Rb B w vV e.V.length 1 (strv e.V) ∧ Rb B w vN e.N.length 1 (intv e.N) ∧ EdsAt B w l ys
theorem MdsAt.low {B:Nat} {w w':World} (hl:Low B w w'):∀ {l:List Md} {xs:List Value},MdsAt B w l xs → MdsAt B w' l xs
 | [],_,h=>h
 | _ :: _,_,⟨vF,ys,h1,h2,h3⟩=>⟨vF,ys,h1,h2.low hl,h3.low hl⟩
theorem EdsAt.low {B:Nat} {w w':World} (hl:Low B w w'):∀ {l:List Ed} {xs:List Value},EdsAt B w l xs → EdsAt B w' l xs
 | [],_,h=>h
 | _ :: _,_,⟨vV,vN,ys,h1,h2,h3,h4⟩=>⟨vV,vN,ys,h1,h2.low hl,h3.low hl,h4.low hl⟩
theorem MdsAt.mono {B B':Nat} {w:World} (hB:B ≤ B'):∀ {l:List Md} {xs:List Value},MdsAt B w l xs → MdsAt B' w l xs
 | [],_,h=>h
 | _ :: _,_,⟨vF,ys,h1,h2,h3⟩=>⟨vF,ys,h1,h2.mono hB,h3.mono hB⟩
theorem EdsAt.mono {B B':Nat} {w:World} (hB:B ≤ B'):∀ {l:List Ed} {xs:List Value},EdsAt B w l xs → EdsAt B' w l xs
 | [],_,h=>h
 | _ :: _,_,⟨vV,vN,ys,h1,h2,h3,h4⟩=>⟨vV,vN,ys,h1,h2.mono hB,h3.mono hB,h4.mono hB⟩
def SAt (B:Nat) (w:World) (s:Sc) (vM vE:Value):Prop:=∃ xs ys,Rb B w vM s.M.length 2 xs ∧ MdsAt B w s.M xs ∧ Rb B w vE s.E.length 3 ys ∧ EdsAt B w s.E ys
theorem SAt.low {B:Nat} {w w':World} {s:Sc} {vM vE:Value} (h:SAt B w s vM vE) (hl:Low B w w'):SAt B w' s vM vE:=by
 obtain ⟨xs,ys,h1,h2,h3,h4⟩:=h
 exact ⟨xs,ys,h1.low hl,h2.low hl,h3.low hl,h4.low hl⟩
theorem SAt.mono {B B':Nat} {w:World} {s:Sc} {vM vE:Value} (h:SAt B w s vM vE) (hB:B ≤ B'):SAt B' w s vM vE:=by
 obtain ⟨xs,ys,h1,h2,h3,h4⟩:=h
 exact ⟨xs,ys,h1.mono hB,h2.mono hB,h3.mono hB,h4.mono hB⟩
structure DfIn (d:Df):Prop where
 no:inr d.no
 name:d.name.length ≤ maxLen
 kind:inr d.kind
 ref:inr d.ref
 key:inr d.key
 one:inr d.one
structure MdIn (m:Md):Prop where
 name:m.name.length ≤ maxLen
 F:∀ d ∈ m.F,DfIn d
structure EdIn (e:Ed):Prop where
 name:e.name.length ≤ maxLen
 V:∀ x ∈ e.V,x.length ≤ maxLen
 N:∀ n ∈ e.N,inr n
structure ScIn (s:Sc):Prop where
 M:∀ m ∈ s.M,MdIn m
 E:∀ e ∈ s.E,EdIn e
instance:Inhabited Df:=⟨⟨0,[],0,0,false,0,0⟩⟩
instance:Inhabited Md:=⟨⟨[],[]⟩⟩
instance:Inhabited Ed:=⟨⟨[],[],[]⟩⟩
theorem dfr_at {w:World} {A:Option Addr} {c:Nat} {l:List Df} (h:Sl w A l.length c 7 (dfv l)) {k:Nat} {d:Df} (hk:l[k]? = some d) :
  ∃ ad,A = some ad ∧ ad.block < w.heap.size ∧ w.cell? (ad.add (k * 7)) = some (.int .i64 d.no) ∧ w.cell? ⟨(ad.add (k * 7)).block,(ad.add (k * 7)).off + 1,none⟩ = some (.string (txt d.name)) ∧ w.cell? ⟨(ad.add (k * 7)).block,(ad.add (k * 7)).off + 2,none⟩ = some (.int .i64 d.kind) ∧
   w.cell? ⟨(ad.add (k * 7)).block,(ad.add (k * 7)).off + 3,none⟩ = some (.int .i64 d.ref) ∧ w.cell? ⟨(ad.add (k * 7)).block,(ad.add (k * 7)).off + 4,none⟩ = some (.bool d.rep) ∧ w.cell? ⟨(ad.add (k * 7)).block,(ad.add (k * 7)).off + 5,none⟩ = some (.int .i64 d.key) ∧ w.cell? ⟨(ad.add (k * 7)).block,(ad.add (k * 7)).off + 6,none⟩ = some (.int .i64 d.one):=by
 obtain ⟨ad,rfl,hb,h0,hj⟩:=Sl.elem h (List.getElem?_eq_some_iff.1 hk).1
 have hv:=fun (j:Nat) (hj:j < 7)=>dfv_get l k j d hk hj
 refine ⟨ad,rfl,hb,h0 _ (by have:=hv 0 (by omega); rw [Nat.add_zero] at this; rw [this]; rfl),hj 1 _ (by omega) (by rw [hv 1 (by omega)]; rfl),hj 2 _ (by omega) (by rw [hv 2 (by omega)]; rfl),hj 3 _ (by omega) (by rw [hv 3 (by omega)]; rfl),hj 4 _ (by omega) (by rw [hv 4 (by omega)]; rfl),hj 5 _ (by omega) (by rw [hv 5 (by omega)]; rfl),hj 6 _ (by omega) (by rw [hv 6 (by omega)]; rfl)⟩
theorem mdr_list {B:Nat} {w:World}:∀ {l:List Md} {xs:List Value},MdsAt B w l xs → ∀ {k:Nat} {m:Md},l[k]? = some m → ∃ vF,Rb B w vF m.F.length 7 (dfv m.F) ∧ ∀ j,j < 2 → xs[k * 2 + j]? = (MDC m vF)[j]?
 | [],xs,_,k,m,hk=>by simp at hk
 | x :: l,xs,⟨vF,ys,h1,h2,h3⟩,0,m,hk=>by
  obtain rfl:x = m:=by simpa using hk
  refine ⟨vF,h2,fun j hj=>?_⟩
  rw [h1,Nat.zero_mul,Nat.zero_add,List.getElem?_append_left (by simp [MDC]; omega)]
 | x :: l,xs,⟨vF,ys,h1,h2,h3⟩,k + 1,m,hk=>by
  obtain ⟨a,h4,h5⟩:=mdr_list h3 (k:=k) (m:=m) (by simpa using hk)
  refine ⟨a,h4,fun j hj=>?_⟩
  rw [h1,List.getElem?_append_right (by simp [MDC]; omega),← h5 j hj]
  congr 1
  simp [MDC]; omega
theorem edr_list {B:Nat} {w:World}:∀ {l:List Ed} {xs:List Value},EdsAt B w l xs → ∀ {k:Nat} {m:Ed},l[k]? = some m → ∃ vV vN,Rb B w vV m.V.length 1 (strv m.V) ∧ Rb B w vN m.N.length 1 (intv m.N) ∧ ∀ j,j < 3 → xs[k * 3 + j]? = (EDC m vV vN)[j]?
 | [],xs,_,k,m,hk=>by simp at hk
 | x :: l,xs,⟨vV,vN,ys,h1,h2,h2',h3⟩,0,m,hk=>by
  obtain rfl:x = m:=by simpa using hk
  refine ⟨vV,vN,h2,h2',fun j hj=>?_⟩
  rw [h1,Nat.zero_mul,Nat.zero_add,List.getElem?_append_left (by simp [EDC]; omega)]
 | x :: l,xs,⟨vV,vN,ys,h1,h2,h2',h3⟩,k + 1,m,hk=>by
  obtain ⟨a,b,h4,h4',h5⟩:=edr_list h3 (k:=k) (m:=m) (by simpa using hk)
  refine ⟨a,b,h4,h4',fun j hj=>?_⟩
  rw [h1,List.getElem?_append_right (by simp [EDC]; omega),← h5 j hj]
  congr 1
  simp [EDC]; omega
theorem mdr_at {B:Nat} {w:World} {A:Option Addr} {c:Nat} {l:List Md} {xs:List Value} (h:Sl w A l.length c 2 xs) (ha:MdsAt B w l xs) {k:Nat} {m:Md} (hk:l[k]? = some m) :
  ∃ ad vF,A = some ad ∧ ad.block < w.heap.size ∧ Rb B w vF m.F.length 7 (dfv m.F) ∧ w.cell? (ad.add (k * 2)) = some (.string (txt m.name)) ∧ w.cell? ⟨(ad.add (k * 2)).block,(ad.add (k * 2)).off + 1,none⟩ = some vF:=by
 obtain ⟨vF,hr,hx⟩:=mdr_list ha hk
 obtain ⟨ad,rfl,hb,h0,hj⟩:=Sl.elem h (List.getElem?_eq_some_iff.1 hk).1
 exact ⟨ad,vF,rfl,hb,hr,h0 _ (by have:=hx 0 (by omega); rw [Nat.add_zero] at this; rw [this]; rfl),hj 1 _ (by omega) (by rw [hx 1 (by omega)]; rfl)⟩
theorem edr_at {B:Nat} {w:World} {A:Option Addr} {c:Nat} {l:List Ed} {xs:List Value} (h:Sl w A l.length c 3 xs) (ha:EdsAt B w l xs) {k:Nat} {m:Ed} (hk:l[k]? = some m) :
  ∃ ad vV vN,A = some ad ∧ ad.block < w.heap.size ∧ Rb B w vV m.V.length 1 (strv m.V) ∧ Rb B w vN m.N.length 1 (intv m.N) ∧ w.cell? (ad.add (k * 3)) = some (.string (txt m.name)) ∧ w.cell? ⟨(ad.add (k * 3)).block,(ad.add (k * 3)).off + 1,none⟩ = some vV ∧ w.cell? ⟨(ad.add (k * 3)).block,(ad.add (k * 3)).off + 2,none⟩ = some vN:=by
 obtain ⟨vV,vN,hr,hr',hx⟩:=edr_list ha hk
 obtain ⟨ad,rfl,hb,h0,hj⟩:=Sl.elem h (List.getElem?_eq_some_iff.1 hk).1
 exact ⟨ad,vV,vN,rfl,hb,hr,hr',h0 _ (by have:=hx 0 (by omega); rw [Nat.add_zero] at this; rw [this]; rfl),hj 1 _ (by omega) (by rw [hx 1 (by omega)]; rfl),hj 2 _ (by omega) (by rw [hx 2 (by omega)]; rfl)⟩
section
variable {H:Type} {enc:TypeId × Value → H} {W:World} {n:Nat}
theorem k_df:Tryz.prog.cellsOf 45 = 7:=by kernel_rfl
theorem k_md:Tryz.prog.cellsOf 56 = 2:=by kernel_rfl
theorem k_ed:Tryz.prog.cellsOf 84 = 3:=by kernel_rfl
theorem k_dfs:Tryz.prog.cellsOf 54 = 1:=by kernel_rfl
theorem k_mds:Tryz.prog.cellsOf 22 = 1:=by kernel_rfl
theorem k_eds:Tryz.prog.cellsOf 23 = 1:=by kernel_rfl
theorem open_df {cs:List Value} {y:DataW H × List MemPlace} (hl:cs.length = 7) (h:DataW.trod enc Tryz.prog W 0 (fun _=>true) true n 45 cs = some y):∃ d:Df,cs = DC d ∧ DfIn d:=by
 obtain ⟨xs,k,-,-,-,hxl,hg⟩:=DataW.trod_struct Tryz.underlying45 h
 have hx7:xs.length = 7:=hxl
 obtain ⟨x0,x1,x2,x3,x4,x5,x6,rfl⟩:=list7 hx7
 obtain ⟨v0,v1,v2,v3,v4,v5,v6,rfl⟩:=list7 hl
 have g0:DataW.trod enc Tryz.prog W 0 (fun _=>true) true k 3 (List.take (Tryz.prog.cellsOf 3) [v0,v1,v2,v3,v4,v5,v6]) = some x0:=hg 0 _ rfl
 have g1:DataW.trod enc Tryz.prog W 0 (fun _=>true) true k 9 (List.take (Tryz.prog.cellsOf 9) [v1,v2,v3,v4,v5,v6]) = some x1:=hg 1 _ rfl
 have g2:DataW.trod enc Tryz.prog W 0 (fun _=>true) true k 3 (List.take (Tryz.prog.cellsOf 3) [v2,v3,v4,v5,v6]) = some x2:=hg 2 _ rfl
 have g3:DataW.trod enc Tryz.prog W 0 (fun _=>true) true k 3 (List.take (Tryz.prog.cellsOf 3) [v3,v4,v5,v6]) = some x3:=hg 3 _ rfl
 have g4:DataW.trod enc Tryz.prog W 0 (fun _=>true) true k 4 (List.take (Tryz.prog.cellsOf 4) [v4,v5,v6]) = some x4:=hg 4 _ rfl
 have g5:DataW.trod enc Tryz.prog W 0 (fun _=>true) true k 3 (List.take (Tryz.prog.cellsOf 3) [v5,v6]) = some x5:=hg 5 _ rfl
 have g6:DataW.trod enc Tryz.prog W 0 (fun _=>true) true k 3 (List.take (Tryz.prog.cellsOf 3) [v6]) = some x6:=hg 6 _ rfl
 rw [k_string] at g1
 rw [k_bool] at g4
 rw [k_int] at g0 g2 g3 g5 g6
 obtain ⟨a0,rfl,b0⟩:=one_int g0
 obtain ⟨a1,rfl,b1⟩:=one_string g1
 obtain ⟨a2,rfl,b2⟩:=one_int g2
 obtain ⟨a3,rfl,b3⟩:=one_int g3
 obtain ⟨a4,rfl⟩:=one_bool g4
 obtain ⟨a5,rfl,b5⟩:=one_int g5
 obtain ⟨a6,rfl,b6⟩:=one_int g6
 exact ⟨⟨a0,a1,a2,a3,a4,a5,a6⟩,rfl,b0,b1,b2,b3,b5,b6⟩
theorem open_dfs {v:Value} {x:DataW H × List MemPlace} (h:DataW.trod enc Tryz.prog W 0 (fun _=>true) true n 54 [v] = some x):∃ l:List Df,Rb W.heap.size W v l.length 7 (dfv l) ∧ ∀ d ∈ l,DfIn d:=by
 obtain ⟨A,c,l,rfl,hs,hC,hb⟩:=open_rows Tryz.underlying54 k_df (by decide) (fun (d:Df) cs=>cs = DC d ∧ DfIn d) (fun n cs y hl h=>open_df hl h) h
 have e:l.flatMap Prod.snd = dfv (l.map Prod.fst):=flat_of DC l fun y hy=>(hC y hy).1.1
 rw [e] at hs
 refine ⟨l.map Prod.fst,⟨A,c,by rw [List.length_map],by rw [List.length_map]; exact hs,by rw [List.length_map]; exact hb⟩,fun d hd=>?_⟩
 obtain ⟨y,hy,rfl⟩:=List.mem_map.1 hd
 exact (hC y hy).1.2
theorem open_md {cs:List Value} {y:DataW H × List MemPlace} (hl:cs.length = 2) (h:DataW.trod enc Tryz.prog W 0 (fun _=>true) true n 56 cs = some y):∃ m:Md,(∃ vF,cs = MDC m vF ∧ Rb W.heap.size W vF m.F.length 7 (dfv m.F)) ∧ MdIn m:=by
 obtain ⟨xs,k,-,-,-,hxl,hg⟩:=DataW.trod_struct Tryz.underlying56 h
 have hx2:xs.length = 2:=hxl
 obtain ⟨x0,x1,rfl⟩:=list2 hx2
 obtain ⟨v0,v1,rfl⟩:=list2 hl
 have g0:DataW.trod enc Tryz.prog W 0 (fun _=>true) true k 9 (List.take (Tryz.prog.cellsOf 9) [v0,v1]) = some x0:=hg 0 _ rfl
 have g1:DataW.trod enc Tryz.prog W 0 (fun _=>true) true k 54 (List.take (Tryz.prog.cellsOf 54) [v1]) = some x1:=hg 1 _ rfl
 rw [k_string] at g0
 rw [k_dfs] at g1
 obtain ⟨a0,rfl,b0⟩:=one_string g0
 obtain ⟨a1,r1,b1⟩:=open_dfs g1
 exact ⟨⟨a0,a1⟩,⟨v1,rfl,r1⟩,b0,b1⟩
theorem open_ed {cs:List Value} {y:DataW H × List MemPlace} (hl:cs.length = 3) (h:DataW.trod enc Tryz.prog W 0 (fun _=>true) true n 84 cs = some y):∃ e:Ed,(∃ vV vN,cs = EDC e vV vN ∧ Rb W.heap.size W vV e.V.length 1 (strv e.V) ∧ Rb W.heap.size W vN e.N.length 1 (intv e.N)) ∧ EdIn e:=by
 obtain ⟨xs,k,-,-,-,hxl,hg⟩:=DataW.trod_struct Tryz.underlying84 h
 have hx3:xs.length = 3:=hxl
 obtain ⟨x0,x1,x2,rfl⟩:=list3 hx3
 obtain ⟨v0,v1,v2,rfl⟩:=list3 hl
 have g0:DataW.trod enc Tryz.prog W 0 (fun _=>true) true k 9 (List.take (Tryz.prog.cellsOf 9) [v0,v1,v2]) = some x0:=hg 0 _ rfl
 have g1:DataW.trod enc Tryz.prog W 0 (fun _=>true) true k 82 (List.take (Tryz.prog.cellsOf 82) [v1,v2]) = some x1:=hg 1 _ rfl
 have g2:DataW.trod enc Tryz.prog W 0 (fun _=>true) true k 53 (List.take (Tryz.prog.cellsOf 53) [v2]) = some x2:=hg 2 _ rfl
 rw [k_string] at g0
 rw [k_strs] at g1
 rw [k_ints] at g2
 obtain ⟨a0,rfl,b0⟩:=one_string g0
 obtain ⟨a1,r1,b1⟩:=open_strv g1
 obtain ⟨a2,r2,b2⟩:=open_intv g2
 exact ⟨⟨a0,a1,a2⟩,⟨v1,v2,rfl,r1,r2⟩,b0,b1,b2⟩
theorem mdsat_of:∀ (l:List (Md × List Value)),(∀ y ∈ l,∃ vF,y.2 = MDC y.1 vF ∧ Rb W.heap.size W vF y.1.F.length 7 (dfv y.1.F)) → MdsAt W.heap.size W (l.map Prod.fst) (l.flatMap Prod.snd)
 | [],_=>rfl
 | y :: l,h=>by
  obtain ⟨a,h1,h2⟩:=h y (by simp)
  exact ⟨a,l.flatMap Prod.snd,by rw [List.flatMap_cons,h1],h2,mdsat_of l fun z hz=>h z (by simp [hz])⟩
theorem edsat_of:∀ (l:List (Ed × List Value)),(∀ y ∈ l,∃ vV vN,y.2 = EDC y.1 vV vN ∧ Rb W.heap.size W vV y.1.V.length 1 (strv y.1.V) ∧ Rb W.heap.size W vN y.1.N.length 1 (intv y.1.N)) → EdsAt W.heap.size W (l.map Prod.fst) (l.flatMap Prod.snd)
 | [],_=>rfl
 | y :: l,h=>by
  obtain ⟨a,b,h1,h2,h3⟩:=h y (by simp)
  exact ⟨a,b,l.flatMap Prod.snd,by rw [List.flatMap_cons,h1],h2,h3,edsat_of l fun z hz=>h z (by simp [hz])⟩
theorem open_schema {base:Nat} {v:Value} {d:DataW H} {ps:List MemPlace}
  (hval:Value.okWide Tryz.prog W .any base 25 v) (h:DataW.Trod enc Tryz.prog W 0 (fun _=>true) true 25 v d ps) :
  ∃ (s:Sc) (vM vE:Value),v = .agg #[vM,vE] ∧ SAt W.heap.size W s vM vE ∧ ScIn s:=by
 obtain ⟨cs,rfl,hsz⟩:=okWide_struct Tryz.underlying25 hval
 obtain ⟨l⟩:=cs
 obtain ⟨fuel,hf⟩:=h
 obtain ⟨xs,k,-,-,hlen,hxl,hg⟩:=DataW.trod_struct Tryz.underlying25 hf
 have kf:Tryz.prog.cellsOf 25 = 2:=by kernel_rfl
 have hl2:l.length = 2:=by rw [kf] at hlen; simpa [Value.cells] using hlen
 have hx2:xs.length = 2:=hxl
 obtain ⟨x0,x1,rfl⟩:=list2 hx2
 obtain ⟨v0,v1,rfl⟩:=list2 hl2
 have g0:DataW.trod enc Tryz.prog W 0 (fun _=>true) true k 22 (List.take (Tryz.prog.cellsOf 22) [v0,v1]) = some x0:=hg 0 _ rfl
 have g1:DataW.trod enc Tryz.prog W 0 (fun _=>true) true k 23 (List.take (Tryz.prog.cellsOf 23) [v1]) = some x1:=hg 1 _ rfl
 rw [k_mds] at g0
 rw [k_eds] at g1
 obtain ⟨A,c,M,rfl,hs,hC,hb⟩:=open_rows Tryz.underlying22 k_md (by decide) (fun (m:Md) cs=>(∃ vF,cs = MDC m vF ∧ Rb W.heap.size W vF m.F.length 7 (dfv m.F)) ∧ MdIn m) (fun n cs y hl h=>open_md hl h) (show DataW.trod enc Tryz.prog W 0 (fun _=>true) true k 22 [v0] = some x0 from g0)
 obtain ⟨A',c',E,rfl,hs',hC',hb'⟩:=open_rows Tryz.underlying23 k_ed (by decide) (fun (e:Ed) cs=>(∃ vV vN,cs = EDC e vV vN ∧ Rb W.heap.size W vV e.V.length 1 (strv e.V) ∧ Rb W.heap.size W vN e.N.length 1 (intv e.N)) ∧ EdIn e) (fun n cs y hl h=>open_ed hl h) (show DataW.trod enc Tryz.prog W 0 (fun _=>true) true k 23 [v1] = some x1 from g1)
 refine ⟨⟨M.map Prod.fst,E.map Prod.fst⟩,_,_,rfl,⟨_,_,⟨A,c,by simp,by simpa using hs,by simpa using hb⟩,mdsat_of M fun y hy=>(hC y hy).1.1,⟨A',c',by simp,by simpa using hs',by simpa using hb'⟩,edsat_of E fun y hy=>(hC' y hy).1.1⟩,⟨fun m hm=>?_,fun e he=>?_⟩⟩
 ·obtain ⟨y,hy,rfl⟩:=List.mem_map.1 hm
  exact (hC y hy).1.2
 ·obtain ⟨y,hy,rfl⟩:=List.mem_map.1 he
  exact (hC' y hy).1.2
end
end Go.Proofs.YtckcojkpghiclaaGreatDoor
namespace Go.Proofs.YtckcojkpghiclaaGreatDoor
set_option maxRecDepth 100000
open Go.RowKit
theorem all_next {α:Type} {g:α → Bool} {l:List α} {k:Nat} {x:α} (h:l[k]? = some x):(l.take (k + 1)).all g = ((l.take k).all g && g x):=by
 rw [List.take_add_one,h]; simp [List.all_append]
theorem all_part {α:Type} {g:α → Bool} {l:List α} {k:Nat} (h:(l.take k).all g = false):l.all g = false:=by
 rw [← List.take_append_drop k l,List.all_append,h,Bool.false_and]
theorem few_end {α:Type} {g:α → Bool} {c:Bool} {l:List α} {k:Nat} (h:false = (c && (l.take k).all g)):(c && l.all g) = false:=by
 cases c with
 | false=>rfl
 | true =>
  rw [Bool.true_and] at h ⊢
  exact all_part h.symm
def fewMd (m:Md):Bool:=decide (m.F.length ≤ 60)
def fewEd (e:Ed):Bool:=decide (e.V.length ≤ 60) && decide (e.N.length ≤ 60)
def fewS (s:Sc):Bool:=decide (s.M.length ≤ 30) && decide (s.E.length ≤ 30) && s.M.all fewMd && s.E.all fewEd
set_option maxRecDepth 1000000 in
set_option maxHeartbeats 4000000 in
theorem fews_any (B:Nat) (f:Sc) (vM vE:Value) (w:World) (hB:B ≤ w.heap.size) (hf:SAt B w f vM vE) :
  Calls Tryz.prog 13 #[.agg #[vM,vE]] w fun e w'=>e = .returned (.bool (fewS f)) ∧ Below w.heap.size w w':=by
 obtain ⟨xs,ys,⟨A1,q1,rfl,s1,b1⟩,h2,⟨A2,q2,rfl,s2,b2⟩,h4⟩:=hf
 obtain ⟨M,E⟩:=f
 simp only at s1 s2 h2 h4 b1 b2
 have HS:Hid (fewS ⟨M,E⟩ = ((decide (M.length ≤ 30) && decide (E.length ≤ 30)) && M.all fewMd && E.all fewEd)):=Lib.hid rfl
 have hlow:=Low.alloc w (.cells #[.slice A1 M.length q1,.slice A2 E.length q2] 25) hB
 have HM:=Lib.hid (s1.low b1 hlow)
 have HMA:=Lib.hid (h2.low hlow)
 have HE:=Lib.hid (s2.low b2 hlow)
 have HEA:=Lib.hid (h4.low hlow)
 have hbox:=heap_alloc_new w (.cells #[.slice A1 M.length q1,.slice A2 E.length q2] 25)
 have hbw:=below_new w (.cells #[.slice A1 M.length q1,.slice A2 E.length q2] 25)
 by_cases hsm:M.length ≤ 30 ∧ E.length ≤ 30
 ·have d1:decide ((M.length:Int) ≤ 30) = true:=by rw [decide_eq_true_eq]; omega
  have d2:decide ((E.length:Int) ≤ 30) = true:=by rw [decide_eq_true_eq]; omega
  have HS1:Hid (fewS ⟨M,E⟩ = (M.all fewMd && E.all fewEd)):=Lib.hid (by rw [HS.out,decide_eq_true hsm.1,decide_eq_true hsm.2]; simp)
  have hml:=hsm.1
  have hel:=hsm.2
  clear hsm
  go_enter Tryz.func13,Tryz.ntmps13
  go_wp2_with fail
  generalize w.alloc (.cells #[.slice A1 M.length q1,.slice A2 E.length q2] 25) = W at *
  have HBW:=Lib.hid hbw
  have b0:=heap_cell hbox 0
  have b1:=heap_cell hbox 1
  simp at b0 b1
  clear hbw hbox
  go_wp2
  go_loopw [3,4] (fun o i wr=>∃ (k:Nat) (b:Bool),i = .int .i64 k ∧ o = .bool b ∧ k ≤ M.length ∧ b = (M.take k).all fewMd ∧ wr = W) (fun _ i _=>M.length - (intOf i).toNat)
  case atStart=>exact ⟨0,true,rfl,rfl,by omega,by simp,rfl⟩
  case round =>
   obtain ⟨k,b,rfl,rfl,hk,hb,rfl⟩:=hrel
   have HB:=Lib.hid hb
   clear hb
   by_cases hlt:k < M.length
   ·cases b with
    | true =>
     obtain ⟨m,hm⟩:∃ m,M[k]? = some m:=⟨_,List.getElem?_eq_getElem hlt⟩
     obtain ⟨ad,vF,rfl,hg,hmr,c0,c1⟩:=mdr_at HM.out HMA.out hm
     obtain ⟨AF,cF,rfl,-,-⟩:=hmr
     have HN:=Lib.hid (all_next (g:=fewMd) hm)
     have HF:Hid (fewMd m = decide ((m.F.length:Int) ≤ 60)):=Lib.hid (by unfold fewMd; congr 1; apply propext; omega)
     clear hm c0
     go_wp2
     refine ⟨⟨k + 1,_,by go_num,rfl,by omega,?_,trivial⟩,by simp [intOf]; omega⟩
     have h:=HB.out
     rw [HN.out,← h,HF.out,Bool.true_and]
    | false =>
     obtain ⟨c,hc⟩:∃ c,c = false:=⟨_,rfl⟩
     have HS2:Hid (fewS ⟨M,E⟩ = (c && E.all fewEd)):=Lib.hid (by rw [HS1.out,hc,all_part HB.out.symm])
     go_wp2
     go_loopw [3,5] (fun o i wx=>∃ (k:Nat) (b:Bool),i = .int .i64 k ∧ o = .bool b ∧ k ≤ E.length ∧ b = (c && (E.take k).all fewEd) ∧ wx = wr) (fun _ i _=>E.length - (intOf i).toNat)
     case atStart=>exact ⟨0,c,rfl,by rw [hc],by omega,by simp,rfl⟩
     case round =>
      obtain ⟨k,b,rfl,rfl,hk2,hb2,rfl⟩:=hrel
      have HB2:=Lib.hid hb2
      clear hb2
      by_cases hlt2:k < E.length
      ·cases b with
       | false =>
        go_wp2
        go_ret
        exact ⟨by rw [HS2.out,few_end HB2.out]; rfl,HBW.out⟩
       | true =>
        obtain ⟨e,he⟩:∃ e,E[k]? = some e:=⟨_,List.getElem?_eq_getElem hlt2⟩
        obtain ⟨ad2,vV,vN,rfl,hg2,hmr2,hnr2,g0,g1,g2⟩:=edr_at HE.out HEA.out he
        obtain ⟨AV,cV,rfl,-,-⟩:=hmr2
        obtain ⟨AN,cN,rfl,-,-⟩:=hnr2
        have HN2:=Lib.hid (all_next (g:=fewEd) he)
        have HV:Hid (fewEd e = (decide ((e.V.length:Int) ≤ 60) && decide ((e.N.length:Int) ≤ 60))):=Lib.hid (by
         have e60:∀ n:Nat,decide (n ≤ 60) = decide ((n:Int) ≤ 60):=fun n=>by congr 1; apply propext; omega
         unfold fewEd
         rw [e60,e60])
        clear he g0
        obtain ⟨a1,ha1⟩:∃ a,decide ((e.V.length:Int) ≤ 60) = a:=⟨_,rfl⟩
        rw [ha1] at HV
        cases a1
        all_goals
         go_wp2
         refine ⟨⟨k + 1,_,by go_num,rfl,by omega,?_,trivial⟩,by simp [intOf]; omega⟩
         have h:=HB2.out
         rw [HN2.out,← Bool.and_assoc,← h,Bool.true_and,HV.out]
         simp
      ·obtain rfl:k = E.length:=by omega
       go_wp2
       go_ret
       exact ⟨by rw [HS2.out]; have h:=HB2.out; rw [List.take_length] at h; rw [← h]; rfl,HBW.out⟩
   ·obtain rfl:k = M.length:=by omega
    have HS2:Hid (fewS ⟨M,E⟩ = (b && E.all fewEd)):=Lib.hid (by rw [HS1.out]; have h:=HB.out; rw [List.take_length] at h; rw [h])
    obtain ⟨c,hc⟩:∃ c,c = b:=⟨_,rfl⟩
    rw [← hc] at HS2
    clear HB
    go_wp2
    go_loopw [3,5] (fun o i wx=>∃ (k:Nat) (b:Bool),i = .int .i64 k ∧ o = .bool b ∧ k ≤ E.length ∧ b = (c && (E.take k).all fewEd) ∧ wx = wr) (fun _ i _=>E.length - (intOf i).toNat)
    case atStart=>exact ⟨0,c,rfl,by rw [hc],by omega,by simp,rfl⟩
    case round =>
     obtain ⟨k,b,rfl,rfl,hk2,hb2,rfl⟩:=hrel
     have HB2:=Lib.hid hb2
     clear hb2
     by_cases hlt2:k < E.length
     ·cases b with
      | false =>
       go_wp2
       go_ret
       exact ⟨by rw [HS2.out,few_end HB2.out]; rfl,HBW.out⟩
      | true =>
       obtain ⟨e,he⟩:∃ e,E[k]? = some e:=⟨_,List.getElem?_eq_getElem hlt2⟩
       obtain ⟨ad2,vV,vN,rfl,hg2,hmr2,hnr2,g0,g1,g2⟩:=edr_at HE.out HEA.out he
       obtain ⟨AV,cV,rfl,-,-⟩:=hmr2
       obtain ⟨AN,cN,rfl,-,-⟩:=hnr2
       have HN2:=Lib.hid (all_next (g:=fewEd) he)
       have HV:Hid (fewEd e = (decide ((e.V.length:Int) ≤ 60) && decide ((e.N.length:Int) ≤ 60))):=Lib.hid (by
        have e60:∀ n:Nat,decide (n ≤ 60) = decide ((n:Int) ≤ 60):=fun n=>by congr 1; apply propext; omega
        unfold fewEd
        rw [e60,e60])
       clear he g0
       obtain ⟨a1,ha1⟩:∃ a,decide ((e.V.length:Int) ≤ 60) = a:=⟨_,rfl⟩
       rw [ha1] at HV
       cases a1
       all_goals
        go_wp2
        refine ⟨⟨k + 1,_,by go_num,rfl,by omega,?_,trivial⟩,by simp [intOf]; omega⟩
        have h:=HB2.out
        rw [HN2.out,← Bool.and_assoc,← h,Bool.true_and,HV.out]
        simp
     ·obtain rfl:k = E.length:=by omega
      go_wp2
      go_ret
      exact ⟨by rw [HS2.out]; have h:=HB2.out; rw [List.take_length] at h; rw [← h]; rfl,HBW.out⟩
 ·have HF:Hid (fewS ⟨M,E⟩ = false):=Lib.hid (by
   rw [HS.out]
   by_cases h1:M.length ≤ 30
   ·have h2:¬ E.length ≤ 30:=fun h=>hsm ⟨h1,h⟩
    simp [h2]
   ·simp [h1])
  have hor:decide ((M.length:Int) ≤ 30) = false ∨ (decide ((M.length:Int) ≤ 30) = true ∧ decide ((E.length:Int) ≤ 30) = false):=by
   by_cases h1:M.length ≤ 30
   ·right
    have h2:¬ E.length ≤ 30:=fun h=>hsm ⟨h1,h⟩
    exact ⟨by rw [decide_eq_true_eq]; omega,by rw [decide_eq_false_iff_not]; omega⟩
   ·left
    rw [decide_eq_false_iff_not]; omega
  have HBW:=Lib.hid hbw
  clear hsm HS HM HMA HE HEA hbw
  rcases hor with d1 | ⟨d1,d2⟩
  all_goals
   go_enter Tryz.func13,Tryz.ntmps13
   go_wp2_with fail
   generalize w.alloc (.cells #[.slice A1 M.length q1,.slice A2 E.length q2] 25) = W at *
   have b0:=heap_cell hbox 0
   have b1:=heap_cell hbox 1
   simp at b0 b1
   clear hbox
   go_wp2
   go_loopw [3,4] (fun o i wr=>∃ k:Nat,i = .int .i64 k ∧ o = .bool false ∧ k ≤ M.length ∧ wr = W) (fun _ _ _=>0)
   case atStart=>exact ⟨0,rfl,rfl,by omega,rfl⟩
   case round =>
    obtain ⟨k,rfl,rfl,hk,rfl⟩:=hrel
    by_cases hlt:k < M.length
    all_goals
     go_wp2
     go_loopw [3,5] (fun o i wx=>∃ k:Nat,i = .int .i64 k ∧ o = .bool false ∧ k ≤ E.length ∧ wx = wr) (fun _ _ _=>0)
     case atStart=>exact ⟨0,rfl,rfl,by omega,rfl⟩
     case round =>
      obtain ⟨k2,rfl,rfl,hk2,rfl⟩:=hrel
      by_cases hlt2:k2 < E.length
      all_goals
       go_wp2
       go_ret
       exact ⟨by rw [HF.out]; rfl,HBW.out⟩
end Go.Proofs.YtckcojkpghiclaaGreatDoor
namespace Go.Proofs.YtckcojkpghiclaaGreatDoor
set_option maxRecDepth 100000
theorem seven_cnt {k:Int} (h:cnt k = true):k = 0 ∨ k = 1 ∨ k = 2 ∨ k = 3 ∨ k = 4 ∨ k = 5 ∨ k = 6:=by
 simp [cnt] at h
 exact seven h
theorem ofI_bound (k:Int) {r:Int} (h0:0 ≤ r) (h1:r < 18446744073709551616):-9223372036854775808 ≤ ofI k r ∧ ofI k r ≤ 9223372036854775807:=by
 unfold ofI unzigI S64 S32
 repeat' split
 all_goals omega
theorem fits_of {k r:Int} (h0:0 ≤ r) (h1:r < 18446744073709551616) (h:cnt k = true):fitsB k (ofI k r) = true:=by
 rcases seven_cnt h with rfl | rfl | rfl | rfl | rfl | rfl | rfl
 ·rfl
 ·rfl
 ·simp [fitsB,ofI]; omega
 ·simp [fitsB,ofI]; omega
 ·simp [fitsB,ofI]; omega
 ·rfl
 ·simp [fitsB,ofI,S32]; split <;> omega
end Go.Proofs.YtckcojkpghiclaaGreatDoor
namespace Go.Proofs.YtckcojkpghiclaaGreatDoor.T12
set_option maxRecDepth 100000
open Go.Proofs.YtckcojkpghiclaaGreatDoor.T9 Go.Proofs.YtckcojkpghiclaaGreatDoor.T4
end Go.Proofs.YtckcojkpghiclaaGreatDoor.T12
namespace Go.Proofs.YtckcojkpghiclaaGreatDoor.T12
set_option maxRecDepth 100000
open Go.RowKit
open Go.Proofs.YtckcojkpghiclaaGreatDoor.T9
theorem of_own_ge {w:World} {base:Nat} {e:TypeId} {v:Value} {l:List UInt8} (h:w.ownsRow base e 1 v l.length (bs l)):∃ A c,v = .slice A l.length c ∧ SlB w A c l ∧ ∀ a,A = some a → base ≤ a.block:=by
 obtain ⟨A,c,rfl,hs⟩:=SlB.of_own h
 refine ⟨A,c,rfl,hs,fun a ha=>?_⟩
 subst ha
 exact (own_blk h a.block rfl).1
set_option maxRecDepth 1000000 in
set_option maxHeartbeats 4000000 in
theorem rcputB_any (no wire:Int) (num:Nat) (f u:Int) (A:Option Addr) (c:Nat) (run:List UInt8) (hn1:-9223372036854775808 ≤ no) (hn2:no ≤ 9223372036854775807) (hw1:-9223372036854775808 ≤ wire) (hw2:wire ≤ 9223372036854775807)
  (hnum:num < 18446744073709551616) (hl:run.length ≤ 140737488351232) (w:World) (h1:SlB w A c run) (T:Wires w) :
  Calls Tryz.prog 17 #[ZV no wire num f u,.slice A run.length c] w fun e w'=>∃ A' c',e = .returned (.tuple #[.slice A' (recL no wire num run).length c',.bool (putB no wire)]) ∧ SlB w' A' c' (recL no wire num run) ∧ (∀ a,A' = some a → 0 < (recL no wire num run).length → w.heap.size ≤ a.block) ∧ Below w.heap.size w w':=by
 obtain ⟨i0,hi,hz0,hz1,hz2⟩:=info_parts info_u8
 unfold ZV
 have h5:=putL_le5 (no:=no) (wire:=wire)
 by_cases hB:putB no wire = true
 ·rw [recL_yes hB,hB]
  have hk:=putB_iff.1 hB
  have hv10:=vput_len10 hnum
  have hr10:=vput_len10 (n:=run.length) (by omega)
  have HB:=Lib.hid hB
  clear hB
  generalize hP:putL no wire = P at *
  have HP:=Lib.hid hP
  clear hP
  rcases hk with ⟨_,rfl | rfl | rfl | rfl⟩
  ·-- a number
   have hR:restL 0 num run = vput num:=by unfold restL; simp
   rw [hR]
   generalize hV:vput num = V at *
   have HV:=Lib.hid hV
   clear hV hR
   have E1:Hid (P.length + V.length = (P ++ V).length):=Lib.hid (by rw [List.length_append])
   have E2:Hid (bs P ++ bs V = bs (P ++ V)):=Lib.hid (by rw [bs_append])
   generalize P ++ V = X at *
   go_enter Tryz.func17,Tryz.ntmps17
   go_wp2_with fail
   refine (tput_own no 0 hn1 hn2 hw1 hw2 _ (T.on (below_new _ _))).mono ?_
   rw [HP.out,HB.out]
   rintro e w1 ⟨v1,rfl,hown1,hb1⟩
   have hg1:=hb1.block w.heap.size (by simp)
   rw [heap_alloc_new] at hg1
   obtain ⟨q0,q1,q2,_,_⟩:=heap_cells hg1
   have hb1:=below_then (below_new w _) hb1
   go_wp2_with fail
   refine (put_reads num hnum _).mono ?_
   rw [HV.out]
   rintro e w2 ⟨A2,c2,rfl,hr2,hb2⟩
   have hown2:=own_mono5 (own_below5 hown1 hb2) (show w.heap.size ≤ _ by simp)
   have hb2:=below_then hb1 hb2
   go_wp2_with (at_builtin; refine wpList_app_sl rfl _ _ 26 rfl w.heap.size 5 i0 (.int .u8 0) 1 1 Tryz.underlying26 hi hz0 hz1 hz2 rfl (by omega) v1 P.length (bs P) rfl hown2 A2 V.length c2 (bs V) rfl hr2 (bs_one V) (by unfold maxLen; omega) (by omega) hb2.size ?_; intro v3 w3 hown3 hg3; have hb3:Below w.heap.size w w3:=hb2.grown hg3 hb2.size (own_ge hown2); rw [E1.out,E2.out] at hown3; obtain ⟨A4,c4,rfl,hr4,hge4⟩:=of_own_ge hown3)
   go_ret2
   exact ⟨A4,c4,rfl,hr4,(fun a h _=>hge4 a h),hb3⟩
  ·-- eight bytes
   have hR:restL 1 num run = fixb num 8:=by unfold restL; simp
   rw [hR]
   have hVl:(fixb num 8).length = 8:=fixb_length _ _
   generalize hV:fixb num 8 = V at *
   have HV:=Lib.hid hV
   clear hV hR
   have E1:Hid (P.length + 8 = (P ++ V).length):=Lib.hid (by rw [List.length_append,hVl])
   have E2:Hid (bs P ++ bs V = bs (P ++ V)):=Lib.hid (by rw [bs_append])
   have hRD:∀ (w:World) A c,SlB w A c V → Sl w A 8 c 1 (bs V):=fun w A c h=>by unfold SlB at h; rw [hVl] at h; exact h
   clear hVl
   generalize P ++ V = X at *
   go_enter Tryz.func17,Tryz.ntmps17
   go_wp2_with fail
   refine (tput_own no 1 hn1 hn2 hw1 hw2 _ (T.on (below_new _ _))).mono ?_
   rw [HP.out,HB.out]
   rintro e w1 ⟨v1,rfl,hown1,hb1⟩
   have hg1:=hb1.block w.heap.size (by simp)
   rw [heap_alloc_new] at hg1
   obtain ⟨q0,q1,q2,_,_⟩:=heap_cells hg1
   have hb1:=below_then (below_new w _) hb1
   go_wp2_with fail
   refine (fixed_any num 8 (by omega) hnum _).mono ?_
   rw [HV.out]
   rintro e w2 ⟨A2,c2,rfl,hr2,hb2⟩
   have hown2:=own_mono5 (own_below5 hown1 hb2) (show w.heap.size ≤ _ by simp)
   have hb2:=below_then hb1 hb2
   have hr2':=hRD _ _ _ hr2
   clear hr2 hRD
   go_wp2_with (at_builtin; refine wpList_app_sl rfl _ _ 26 rfl w.heap.size 5 i0 (.int .u8 0) 1 1 Tryz.underlying26 hi hz0 hz1 hz2 rfl (by omega) v1 P.length (bs P) rfl hown2 A2 8 c2 (bs V) rfl hr2' (bs_one V) (by unfold maxLen; omega) (by omega) hb2.size ?_; intro v3 w3 hown3 hg3; have hb3:Below w.heap.size w w3:=hb2.grown hg3 hb2.size (own_ge hown2); rw [E1.out,E2.out] at hown3; obtain ⟨A4,c4,rfl,hr4,hge4⟩:=of_own_ge hown3)
   go_ret2
   exact ⟨A4,c4,rfl,hr4,(fun a h _=>hge4 a h),hb3⟩
  ·-- a run
   have hR:restL 2 num run = vput run.length ++ run:=by unfold restL; simp
   rw [hR]
   have ew:IntKind.u64.wrap (run.length:Int) = run.length:=by simp [IntKind.wrap,IntKind.signed,IntKind.bits]; omega
   generalize hV:vput run.length = V at *
   have HV:=Lib.hid hV
   clear hV hR
   have E1:Hid (P.length + V.length + run.length = (P ++ (V ++ run)).length):=Lib.hid (by simp only [List.length_append]; omega)
   have E2:Hid (bs P ++ bs V ++ bs run = bs (P ++ (V ++ run))):=Lib.hid (by simp only [bs_append,List.append_assoc])
   generalize P ++ (V ++ run) = X at *
   go_enter Tryz.func17,Tryz.ntmps17
   go_wp2_with fail
   refine (tput_own no 2 hn1 hn2 hw1 hw2 _ (T.on (below_new _ _))).mono ?_
   rw [HP.out,HB.out]
   rintro e w1 ⟨v1,rfl,hown1,hb1⟩
   have hg1:=hb1.block w.heap.size (by simp)
   rw [heap_alloc_new] at hg1
   obtain ⟨q0,q1,q2,_,_⟩:=heap_cells hg1
   have hb1:=below_then (below_new w _) hb1
   go_wp2_with fail
   refine (put_reads run.length (by omega) _).mono ?_
   rw [HV.out]
   rintro e w2 ⟨A2,c2,rfl,hr2,hb2⟩
   have hown2:=own_mono5 (own_below5 hown1 hb2) (show w.heap.size ≤ _ by simp)
   have hb2:=below_then hb1 hb2
   have h1':=h1
   clear h1
   go_wp2_with (first
    | (at_builtin; refine wpList_app_sl rfl _ _ 26 rfl w.heap.size 5 i0 (.int .u8 0) 1 1 Tryz.underlying26 hi hz0 hz1 hz2 rfl (by omega) v1 P.length (bs P) rfl hown2 A2 V.length c2 (bs V) rfl hr2 (bs_one V) (by unfold maxLen; omega) (by omega) hb2.size ?_; intro v3 w3 hown3 hg3; have hb3:Below w.heap.size w w3:=hb2.grown hg3 hb2.size (own_ge hown2); have h3:=h1'.on hb3; clear hr2)
    | (at_builtin; refine wpList_app_sl rfl _ _ 26 rfl w.heap.size 5 i0 (.int .u8 0) 1 1 Tryz.underlying26 hi hz0 hz1 hz2 rfl (by omega) v3 (P.length + V.length) (bs P ++ bs V) rfl hown3 A run.length c (bs run) rfl h3 (bs_one run) (by unfold maxLen; omega) (by omega) hb3.size ?_; intro v4 w4 hown4 hg4; have hb4:Below w.heap.size w w4:=hb3.grown hg4 hb3.size (own_ge hown3); rw [E1.out,E2.out] at hown4; obtain ⟨A4,c4,rfl,hr4,hge4⟩:=of_own_ge hown4))
   go_ret2
   exact ⟨A4,c4,rfl,hr4,(fun a h _=>hge4 a h),hb4⟩
  ·-- four bytes
   have hR:restL 5 num run = fixb num 4:=by unfold restL; simp
   rw [hR]
   have hVl:(fixb num 4).length = 4:=fixb_length _ _
   generalize hV:fixb num 4 = V at *
   have HV:=Lib.hid hV
   clear hV hR
   have E1:Hid (P.length + 4 = (P ++ V).length):=Lib.hid (by rw [List.length_append,hVl])
   have E2:Hid (bs P ++ bs V = bs (P ++ V)):=Lib.hid (by rw [bs_append])
   have hRD:∀ (w:World) A c,SlB w A c V → Sl w A 4 c 1 (bs V):=fun w A c h=>by unfold SlB at h; rw [hVl] at h; exact h
   clear hVl
   generalize P ++ V = X at *
   go_enter Tryz.func17,Tryz.ntmps17
   go_wp2_with fail
   refine (tput_own no 5 hn1 hn2 hw1 hw2 _ (T.on (below_new _ _))).mono ?_
   rw [HP.out,HB.out]
   rintro e w1 ⟨v1,rfl,hown1,hb1⟩
   have hg1:=hb1.block w.heap.size (by simp)
   rw [heap_alloc_new] at hg1
   obtain ⟨q0,q1,q2,_,_⟩:=heap_cells hg1
   have hb1:=below_then (below_new w _) hb1
   go_wp2_with fail
   refine (fixed_any num 4 (by omega) hnum _).mono ?_
   rw [HV.out]
   rintro e w2 ⟨A2,c2,rfl,hr2,hb2⟩
   have hown2:=own_mono5 (own_below5 hown1 hb2) (show w.heap.size ≤ _ by simp)
   have hb2:=below_then hb1 hb2
   have hr2':=hRD _ _ _ hr2
   clear hr2 hRD
   go_wp2_with (at_builtin; refine wpList_app_sl rfl _ _ 26 rfl w.heap.size 5 i0 (.int .u8 0) 1 1 Tryz.underlying26 hi hz0 hz1 hz2 rfl (by omega) v1 P.length (bs P) rfl hown2 A2 4 c2 (bs V) rfl hr2' (bs_one V) (by unfold maxLen; omega) (by omega) hb2.size ?_; intro v3 w3 hown3 hg3; have hb3:Below w.heap.size w w3:=hb2.grown hg3 hb2.size (own_ge hown2); rw [E1.out,E2.out] at hown3; obtain ⟨A4,c4,rfl,hr4,hge4⟩:=of_own_ge hown3)
   go_ret2
   exact ⟨A4,c4,rfl,hr4,(fun a h _=>hge4 a h),hb3⟩
 ·have hB:putB no wire = false:=by simpa using hB
  rw [recL_no hB,hB]
  have HB:=Lib.hid hB
  have hP:=putL_no hB
  clear hB
  go_enter Tryz.func17,Tryz.ntmps17
  go_wp2_with fail
  refine (tput_own no wire hn1 hn2 hw1 hw2 _ (T.on (below_new _ _))).mono ?_
  rw [HB.out,hP]
  rintro e w1 ⟨v1,rfl,hown1,hb1⟩
  go_wp2
  go_ret2
  exact ⟨none,0,rfl,SlB.nil _,(fun a h=>by cases h),below_then (below_new _ _) hb1⟩
end Go.Proofs.YtckcojkpghiclaaGreatDoor.T12
namespace Go.Proofs.YtckcojkpghiclaaGreatDoor.T12
set_option maxRecDepth 100000
open Go.Proofs.YtckcojkpghiclaaGreatDoor.T9 Go.Proofs.YtckcojkpghiclaaGreatDoor.T4
end Go.Proofs.YtckcojkpghiclaaGreatDoor.T12
namespace Go.Proofs.YtckcojkpghiclaaGreatDoor
set_option maxRecDepth 100000
def plainsL:List (List UInt8 × Nat):=[(tInt64,0),(tSint64,1),(tUint32,2),(tBool,3),(tFixed32,4),(tSfixed64,5),(tString,7),(tBytes,8)]
theorem typeK_find (x:List UInt8):(plainsL.find? fun q=>q.1 == x).map (·.2) = typeK x:=by
 unfold typeK plainsL
 simp only [List.find?_cons,List.find?_nil]
 by_cases h0:x = tInt64
 ·subst h0; rfl
 by_cases h1:x = tSint64
 ·subst h1; rfl
 by_cases h2:x = tUint32
 ·subst h2; rfl
 by_cases h3:x = tBool
 ·subst h3; rfl
 by_cases h4:x = tFixed32
 ·subst h4; rfl
 by_cases h5:x = tSfixed64
 ·subst h5; rfl
 by_cases h6:x = tString
 ·subst h6; rfl
 by_cases h7:x = tBytes
 ·subst h7; rfl
 have e:∀ y:List UInt8,x ≠ y → (y == x) = false:=fun y hy=>beq_eq_false_iff_ne.2 (Ne.symm hy)
 simp only [h0,h1,h2,h3,h4,h5,h6,h7,if_false,e _ h0,e _ h1,e _ h2,e _ h3,e _ h4,e _ h5,e _ h6,e _ h7,Option.map_none]
theorem typeK_none (x:List UInt8):(typeK x).isNone = !(plainsL.map (·.1)).contains x:=by
 rw [← typeK_find]
 rw [Option.isNone_map]
 cases h:plainsL.find? fun q=>q.1 == x with
 | none =>
  rw [List.find?_eq_none] at h
  simp only [Option.isNone_none]
  symm
  rw [Bool.not_eq_true',List.contains_eq_mem,decide_eq_false_iff_not]
  intro hm
  obtain ⟨q,hq,rfl⟩:=List.mem_map.1 hm
  exact absurd (h q hq) (by simp)
 | some q =>
  have h1:=List.find?_some h
  have h2:=List.mem_of_find?_eq_some h
  simp only [Option.isNone_some]
  symm
  rw [Bool.not_eq_false',List.contains_eq_mem,decide_eq_true_eq]
  exact List.mem_map.2 ⟨q,h2,by simpa using h1⟩
def still {α:Type} [BEq α] (l bar:List α) (k:Nat) (x:α):Bool:=l.contains x && !bar.contains x && !(l.take k).contains x
theorem still_start {α:Type} [BEq α] [LawfulBEq α] (l bar:List α):still l bar 0 = fun x=>l.contains x && !bar.contains x:=by funext x; simp [still]
theorem still_next {α:Type} [BEq α] [LawfulBEq α] [DecidableEq α] {l bar:List α} {k:Nat} {y:α} (h:l[k]? = some y):(fun x=>still l bar k x && decide (x ≠ y)) = still l bar (k + 1):=by
 funext x
 unfold still
 rw [List.take_add_one,h]
 by_cases hx:x = y
 ·subst hx; simp
 ·simp [hx]
theorem still_self {α:Type} [BEq α] [LawfulBEq α] {l bar:List α} {k:Nat} {y:α} (h:l[k]? = some y):still l bar k y = (!bar.contains y && !(l.take k).contains y):=by
 have:l.contains y = true:=by rw [List.contains_eq_mem,decide_eq_true_eq]; exact List.mem_of_getElem? h
 simp only [still,this,Bool.true_and]
def standB (ones one:Int) (rep pairs:Bool):Bool:=decide (0 ≤ one) && decide (one ≤ ones) && !(rep && pairs) && !(decide (one ≠ 0) && (rep || pairs))
theorem take_map_contains {α β:Type} [BEq β] [LawfulBEq β] (g:α → β) (l:List α) (k:Nat) (y:β):((l.map g).take k).contains y = (l.take k).any fun x=>g x == y:=by
 rw [← List.map_take,List.contains_eq_any_beq,List.any_map]
 congr 1
 funext x
 simp only [Function.comp]
 exact BEq.comm
def stillT (l:List (List UInt8)) (k:Nat) (x:List UInt8):Bool:=still l (plainsL.map (·.1)) k x
theorem stillT_self {l:List (List UInt8)} {k:Nat} {y:List UInt8} (h:l[k]? = some y):stillT l k y = !((typeK y).isSome || (l.take k).contains y):=by
 unfold stillT
 rw [still_self h,← typeK_none]
 cases typeK y <;> simp
def wrongB (V:List (List UInt8)) (N:List Int) (k:Nat) (x:List UInt8) (n:Int):Bool :=
 (V.take k).contains x || (N.take k).contains n || !(decide (-2147483648 ≤ n) && decide (n ≤ 2147483647)) || (k == 0 && n != 0)
def referB (s:Sc) (kind ref:Int):Bool:=decide (0 ≤ kind) && decide (kind < 10) && decide (0 ≤ ref) && decide (ref < if kind = 9 then (s.M.length:Int) else if kind = 6 then (s.E.length:Int) else 1)
def fdMayB (s:Sc) (d:Df):Bool:=!(decide (d.key ≠ -1) && !keyedB d.key) && referB s d.kind d.ref && standB 30 d.one d.rep (decide (d.key ≠ -1))
theorem dfMay_iff (s:Sc) (d:Df):DfMay s d ↔ numberB d.no = true ∧ fdMayB s d = true:=by
 unfold fdMayB referB standB
 constructor
 ·intro h
  refine ⟨h.num,?_⟩
  have h9:=h.k9
  have hr:=h.ref
  have e0:decide (d.ref < if d.kind = 9 then (s.M.length:Int) else if d.kind = 6 then (s.E.length:Int) else 1) = true:=by
   rw [decide_eq_true_eq]
   split at hr
   ·rename_i h1; rw [if_pos h1]; omega
   ·rename_i h1
    rw [if_neg h1]
    split at hr
    ·rename_i h2; rw [if_pos h2]; omega
    ·rename_i h2; rw [if_neg h2]; omega
  rw [decide_eq_true h.k0,decide_eq_true (show d.kind < 10 by omega),decide_eq_true h.r0,e0,decide_eq_true h.o0,decide_eq_true h.o30]
  rcases h.key with hk | ⟨hk,hrep⟩
  ·rcases h.alone with ho | ⟨ho,-⟩
   ·simp [hk,ho]
   ·simp [hk,ho]
  ·rcases h.alone with ho | ⟨ho,hk2⟩
   ·simp [hk,ho,hrep]
   ·simp [hk2,hrep]
 ·rintro ⟨hn,h⟩
  simp only [Bool.and_eq_true,decide_eq_true_eq,Bool.not_eq_true',Bool.and_eq_false_iff,Bool.or_eq_false_iff,decide_eq_false_iff_not,Bool.not_eq_false',Classical.not_not] at h
  obtain ⟨⟨a1,⟨⟨a2,a3⟩,a4⟩,a5⟩,⟨⟨a6,a7⟩,a8⟩,a9⟩:=h
  refine ⟨hn,a2,by omega,a6,a7,a4,?_,?_,?_⟩
  ·split
   ·rename_i h1; rw [if_pos h1] at a5; omega
   ·rename_i h1
    rw [if_neg h1] at a5
    split
    ·rename_i h2; rw [if_pos h2] at a5; omega
    ·rename_i h2; rw [if_neg h2] at a5; omega
  ·by_cases hk:d.key = -1
   ·exact .inl hk
   ·refine .inr ⟨?_,?_⟩
    ·rcases a1 with a1 | a1
     ·exact absurd a1 hk
     ·exact a1
    ·rcases a8 with a8 | a8
     ·exact a8
     ·exact absurd a8 hk
  ·rcases a9 with a9 | a9
   ·exact .inl a9
   ·exact .inr a9
def lastNo (l:List Df) (k:Nat):Int:=if k = 0 then 0 else (l[k - 1]?.map (·.no)).getD 0
def mdNames (m:Md):List (List UInt8):=m.F.map (·.name)
def mdAtB (s:Sc) (m:Md) (k:Nat) (d:Df):Bool:=!decide (d.no ≤ lastNo m.F k) && numberB d.no && still (mdNames m) [] k d.name && fdMayB s d
theorem mdMay_iff (s:Sc) (m:Md):MdMay s m ↔ m.F.length ≤ 30 ∧ ∀ k d,m.F[k]? = some d → mdAtB s m k d = true:=by
 constructor
 ·intro h
  refine ⟨h.few,fun k d hd=>?_⟩
  have hmem:=List.mem_of_getElem? hd
  obtain ⟨a1,a2⟩:=(dfMay_iff s d).1 (h.each d hmem)
  unfold mdAtB
  rw [a1,a2,still_self (by simp [mdNames,hd]),mdNames,take_map_contains]
  have e1:decide (d.no ≤ lastNo m.F k) = false:=by
   rw [decide_eq_false_iff_not]
   unfold lastNo
   split
   ·have:=a1
    unfold numberB at this
    simp only [Bool.and_eq_true,decide_eq_true_eq] at this
    omega
   ·rename_i hk
    obtain ⟨hlt,rfl⟩:=List.getElem?_eq_some_iff.1 hd
    have:=(List.pairwise_iff_getElem.1 h.rise) (k - 1) k (by omega) hlt (by omega)
    rw [List.getElem?_eq_getElem (by omega)]
    simp only [Option.map_some,Option.getD_some]
    omega
  have e2:((m.F.take k).any fun x=>x.name == d.name) = false:=by
   have h2:(m.F.Pairwise fun a b=>(a.name == b.name) = false):=h.names.imp fun {a b} hab=>by simpa using hab
   exact (pair_take (R:=fun a b:Df=>a.name == b.name)).2 h2 k d hd
  rw [e1,e2]
  rfl
 ·rintro ⟨hf,h⟩
  have hp:∀ k d,m.F[k]? = some d → d.no > lastNo m.F k ∧ numberB d.no = true ∧ ((m.F.take k).any fun x=>x.name == d.name) = false ∧ fdMayB s d = true:=by
   intro k d hd
   have:=h k d hd
   unfold mdAtB at this
   rw [still_self (by simp [mdNames,hd]),mdNames,take_map_contains] at this
   simp only [Bool.and_eq_true,Bool.not_eq_true',decide_eq_false_iff_not,List.contains_nil,Bool.not_false,Bool.true_and] at this
   obtain ⟨⟨⟨b1,b2⟩,b3⟩,b4⟩:=this
   exact ⟨by omega,b2,by simpa using b3,b4⟩
  refine ⟨hf,?_,?_,fun d hd=>?_⟩
  ·rw [List.pairwise_iff_getElem]
   intro i j
   induction j with
   | zero=>intro _ _ h0; omega
   | succ j ih =>
    intro hi hj hij
    have h1:=(hp (j + 1) _ (List.getElem?_eq_getElem hj)).1
    unfold lastNo at h1
    rw [if_neg (by omega),Nat.add_sub_cancel,List.getElem?_eq_getElem (by omega)] at h1
    simp only [Option.map_some,Option.getD_some] at h1
    by_cases he:i = j
    ·subst he; omega
    ·have:=ih hi (by omega) (by omega)
     omega
  ·have h2:(m.F.Pairwise fun a b=>(a.name == b.name) = false):=pair_take.1 fun k x hx=>(hp k x hx).2.2.1
   exact h2.imp fun {a b} hab=>by simpa using hab
  ·obtain ⟨k,hk⟩:=List.mem_iff_getElem?.1 hd
   have:=hp k d hk
   exact (dfMay_iff s d).2 ⟨this.2.1,this.2.2.2⟩
theorem contains_pair {α:Type} [BEq α] [LawfulBEq α] {l:List α}:(∀ k x,l[k]? = some x → (l.take k).contains x = false) ↔ l.Pairwise (· ≠ ·):=by
 have h2:(l.Pairwise fun a b=>(a == b) = false) ↔ l.Pairwise (· ≠ ·):=by
  constructor <;> intro hp <;> exact hp.imp fun {a b} hab=>by simpa using hab
 rw [← h2,← pair_take]
 have e:∀ k x,(l.take k).contains x = (l.take k).any (· == x):=fun k x=>by
  rw [List.contains_eq_any_beq]
  congr 1
  funext y
  exact BEq.comm
 simp only [e]
theorem edMay_iff (e:Ed):EdMay e ↔ 1 ≤ e.V.length ∧ e.V.length ≤ 30 ∧ e.V.length = e.N.length ∧ ∀ k x n,e.V[k]? = some x → e.N[k]? = some n → wrongB e.V e.N k x n = false:=by
 constructor
 ·intro h
  refine ⟨h.some_,h.few,h.same.symm,fun k x n hx hn=>?_⟩
  unfold wrongB
  have hr:=h.each n (List.mem_of_getElem? hn)
  rw [contains_pair.2 h.names k x hx,contains_pair.2 h.nums k n hn,decide_eq_true hr.1,decide_eq_true hr.2]
  by_cases hk:k = 0
  ·subst hk
   have:=h.zero
   rw [hn] at this
   obtain rfl:=Option.some.inj this
   rfl
  ·simp [hk]
 ·rintro ⟨h1,h2,h3,h4⟩
  have key:∀ k (hk:k < e.V.length),(e.V.take k).contains e.V[k] = false ∧ (e.N.take k).contains (e.N[k]'(by omega)) = false ∧ (-2147483648 ≤ (e.N[k]'(by omega)) ∧ (e.N[k]'(by omega)) ≤ 2147483647) ∧ (k = 0 → (e.N[k]'(by omega)) = 0):=by
   intro k hk
   have:=h4 k _ _ (List.getElem?_eq_getElem hk) (List.getElem?_eq_getElem (by omega))
   unfold wrongB at this
   simp only [Bool.or_eq_false_iff,Bool.not_eq_false',Bool.and_eq_true,decide_eq_true_eq,Bool.and_eq_false_iff,beq_eq_false_iff_ne,bne_eq_false_iff_eq] at this
   obtain ⟨⟨⟨b1,b2⟩,b3⟩,b4⟩:=this
   exact ⟨b1,b2,b3,fun h0=>by rcases b4 with b4 | b4; exact absurd h0 b4; exact b4⟩
  refine ⟨h1,h2,h3.symm,?_,?_,?_,fun n hn=>?_⟩
  ·rw [List.getElem?_eq_getElem (by omega),(key 0 (by omega)).2.2.2 rfl]
  ·refine contains_pair.1 fun k x hx=>?_
   obtain ⟨hk,rfl⟩:=List.getElem?_eq_some_iff.1 hx
   exact (key k hk).1
  ·refine contains_pair.1 fun k x hx=>?_
   obtain ⟨hk,rfl⟩:=List.getElem?_eq_some_iff.1 hx
   exact (key k (by omega)).2.1
  ·obtain ⟨k,hk⟩:=List.mem_iff_getElem?.1 hn
   obtain ⟨hk,rfl⟩:=List.getElem?_eq_some_iff.1 hk
   exact (key k (by omega)).2.2.1
theorem scMay_iff (s:Sc):ScMay s ↔ 1 ≤ s.M.length ∧ s.M.length ≤ 20 ∧ s.E.length ≤ 20 ∧ (∀ k x,(namesS s)[k]? = some x → stillT (namesS s) k x = true) ∧ (∀ m ∈ s.M,MdMay s m) ∧ ∀ e ∈ s.E,EdMay e:=by
 have key:(∀ k x,(namesS s)[k]? = some x → stillT (namesS s) k x = true) ↔ (namesS s).Pairwise (· ≠ ·) ∧ ∀ x ∈ namesS s,typeK x = none:=by
  rw [← contains_pair]
  constructor
  ·intro h
   have h':∀ k x,(namesS s)[k]? = some x → typeK x = none ∧ ((namesS s).take k).contains x = false:=fun k x hx=>by
    have:=h k x hx
    rw [stillT_self hx] at this
    cases ht:typeK x <;> cases hc:((namesS s).take k).contains x <;> simp_all
   exact ⟨fun k x hx=>(h' k x hx).2,fun x hx=>by obtain ⟨k,hk⟩:=List.mem_iff_getElem?.1 hx; exact (h' k x hk).1⟩
  ·rintro ⟨h1,h2⟩ k x hx
   rw [stillT_self hx,h1 k x hx,h2 x (List.mem_of_getElem? hx)]
   rfl
 constructor
 ·intro h
  exact ⟨h.some_,h.fewM,h.fewE,key.2 ⟨h.names,h.plain⟩,h.M,h.E⟩
 ·rintro ⟨h1,h2,h3,h4,h5,h6⟩
  obtain ⟨k1,k2⟩:=key.1 h4
  exact ⟨h1,h2,h3,k1,k2,h5,h6⟩
end Go.Proofs.YtckcojkpghiclaaGreatDoor
