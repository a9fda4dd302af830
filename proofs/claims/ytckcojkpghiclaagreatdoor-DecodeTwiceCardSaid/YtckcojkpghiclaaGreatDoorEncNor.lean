/-
 Texts that are made of pieces: blanks,signs,and names and numbers with a blank or a sign behind them; what is told of their tokens.
-/
import Derived.Test.YtckcojkpghiclaaGreatDoorTokSkip
import Derived.Test.YtckcojkpghiclaaGreatDoorTokPlaces
import Derived.Test.YtckcojkpghiclaaGreatDoorConvRules
import Derived.Test.YtckcojkpghiclaaGreatDoorVarPut
import Derived.Test.YtckcojkpghiclaaGreatDoorRecPut
import Derived.Lib.AppendZeros
namespace Go.Proofs.YtckcojkpghiclaaGreatDoor
set_option maxRecDepth 100000
def inr (n:Int):Prop:=-9223372036854775808 ≤ n ∧ n ≤ 9223372036854775807
end Go.Proofs.YtckcojkpghiclaaGreatDoor
namespace Go.Proofs.YtckcojkpghiclaaGreatDoor
set_option maxRecDepth 100000
open Go.RowKit Go.ChangeShapes Go.WideShapes Go.ChangeAt
section
variable {H:Type} {enc:TypeId × Value → H} {W:World} {n:Nat}
theorem list7 {α:Type} {l:List α} (h:l.length = 7):∃ a b c d e f g,l = [a,b,c,d,e,f,g]:=by
 match l,h with
 | [a,b,c,d,e,f,g],_=>exact ⟨a,b,c,d,e,f,g,rfl⟩
theorem list3 {α:Type} {l:List α} (h:l.length = 3):∃ a b c,l = [a,b,c]:=by
 match l,h with
 | [a,b,c],_=>exact ⟨a,b,c,rfl⟩
theorem list2 {α:Type} {l:List α} (h:l.length = 2):∃ a b,l = [a,b]:=by
 match l,h with
 | [a,b],_=>exact ⟨a,b,rfl⟩
theorem one_string {v:Value} {y:DataW H × List MemPlace} (h:DataW.trod enc Tryz.prog W 0 (fun _=>true) true n 9 [v] = some y):∃ x:List UInt8,v = .string (txt x) ∧ x.length ≤ maxLen:=by
 obtain ⟨s,h1,_,h2⟩:=DataW.trod_string Tryz.underlying9 h
 exact ⟨s.data.toList,by rw [txt_of]; simpa using h1,by simpa using h2⟩
theorem one_int {v:Value} {y:DataW H × List MemPlace} (h:DataW.trod enc Tryz.prog W 0 (fun _=>true) true n 3 [v] = some y):∃ k:Int,v = .int .i64 k ∧ inr k:=by
 obtain ⟨k,h1,_,h2⟩:=DataW.trod_int Tryz.underlying3 h
 exact ⟨k,by simpa using h1,bounds_i64 h2⟩
theorem one_int64 {v:Value} {y:DataW H × List MemPlace} (h:DataW.trod enc Tryz.prog W 0 (fun _=>true) true n 2 [v] = some y):∃ k:Int,v = .int .i64 k ∧ inr k:=by
 obtain ⟨k,h1,_,h2⟩:=DataW.trod_int Tryz.underlying2 h
 exact ⟨k,by simpa using h1,bounds_i64 h2⟩
theorem one_bool {v:Value} {y:DataW H × List MemPlace} (h:DataW.trod enc Tryz.prog W 0 (fun _=>true) true n 4 [v] = some y):∃ b:Bool,v = .bool b:=by
 obtain ⟨b,h1,_⟩:=DataW.trod_bool Tryz.underlying4 h
 exact ⟨b,by simpa using h1⟩
theorem k_string:Tryz.prog.cellsOf 9 = 1:=by kernel_rfl
theorem k_int:Tryz.prog.cellsOf 3 = 1:=by kernel_rfl
theorem k_int64:Tryz.prog.cellsOf 2 = 1:=by kernel_rfl
theorem k_bool:Tryz.prog.cellsOf 4 = 1:=by kernel_rfl
theorem k_strs:Tryz.prog.cellsOf 82 = 1:=by kernel_rfl
theorem k_ints:Tryz.prog.cellsOf 53 = 1:=by kernel_rfl
theorem flat_of {α:Type} (g:α → List Value):∀ (l:List (α × List Value)),(∀ y ∈ l,y.2 = g y.1) → l.flatMap Prod.snd = (l.map Prod.fst).flatMap g
 | [],_=>rfl
 | y :: l,h=>by rw [List.flatMap_cons,List.map_cons,List.flatMap_cons,h y (by simp),flat_of g l fun z hz=>h z (by simp [hz])]
theorem flat_ones {α:Type} (g:α → Value):∀ (l:List α),(l.flatMap fun a=>[g a]) = l.map g
 | []=>rfl
 | a :: l=>by rw [List.flatMap_cons,flat_ones g l]; rfl
theorem list1 {α:Type} {l:List α} (h:l.length = 1):∃ a,l = [a]:=by
 match l,h with
 | [a],_=>exact ⟨a,rfl⟩
theorem open_strv {v:Value} {x:DataW H × List MemPlace} (h:DataW.trod enc Tryz.prog W 0 (fun _=>true) true n 82 [v] = some x):∃ l:List (List UInt8),Rb W.heap.size W v l.length 1 (strv l) ∧ ∀ d ∈ l,d.length ≤ maxLen:=by
 obtain ⟨A,c,l,rfl,hs,hC,hb⟩:=open_rows Tryz.underlying82 k_string (by decide) (fun (d:List UInt8) cs=>cs = [.string (txt d)] ∧ d.length ≤ maxLen) (fun n cs y hl h=>by
  obtain ⟨v,rfl⟩:=list1 hl
  obtain ⟨s,rfl,h2⟩:=one_string h
  exact ⟨s,rfl,h2⟩) h
 have e:l.flatMap Prod.snd = strv (l.map Prod.fst):=(flat_of (fun d=>[.string (txt d)]) l fun y hy=>(hC y hy).1.1).trans (flat_ones _ _)
 rw [e] at hs
 refine ⟨l.map Prod.fst,⟨A,c,by rw [List.length_map],by rw [List.length_map]; exact hs,by rw [List.length_map]; exact hb⟩,fun d hd=>?_⟩
 obtain ⟨y,hy,rfl⟩:=List.mem_map.1 hd
 exact (hC y hy).1.2
theorem open_intv {v:Value} {x:DataW H × List MemPlace} (h:DataW.trod enc Tryz.prog W 0 (fun _=>true) true n 53 [v] = some x):∃ l:List Int,Rb W.heap.size W v l.length 1 (intv l) ∧ ∀ d ∈ l,inr d:=by
 obtain ⟨A,c,l,rfl,hs,hC,hb⟩:=open_rows Tryz.underlying53 k_int64 (by decide) (fun (d:Int) cs=>cs = [.int .i64 d] ∧ inr d) (fun n cs y hl h=>by
  obtain ⟨v,rfl⟩:=list1 hl
  obtain ⟨s,rfl,h2⟩:=one_int64 h
  exact ⟨s,rfl,h2⟩) h
 have e:l.flatMap Prod.snd = intv (l.map Prod.fst):=(flat_of (fun d=>[.int .i64 d]) l fun y hy=>(hC y hy).1.1).trans (flat_ones _ _)
 rw [e] at hs
 refine ⟨l.map Prod.fst,⟨A,c,by rw [List.length_map],by rw [List.length_map]; exact hs,by rw [List.length_map]; exact hb⟩,fun d hd=>?_⟩
 obtain ⟨y,hy,rfl⟩:=List.mem_map.1 hd
 exact (hC y hy).1.2
end
end Go.Proofs.YtckcojkpghiclaaGreatDoor
namespace Go.Proofs.YtckcojkpghiclaaGreatDoor
set_option maxRecDepth 100000
open Go.RowKit Go.ChangeShapes Go.WideShapes Go.ChangeAt
def DC (d:Df):List Value:=[.int .i64 d.no,.string (txt d.name),.int .i64 d.kind,.int .i64 d.ref,.bool d.rep,.int .i64 d.key,.int .i64 d.one]
def dfv (l:List Df):List Value:=l.flatMap DC
def MDC (m:Md) (vF:Value):List Value:=[.string (txt m.name),vF]
def EDC (e:Ed) (vV vN:Value):List Value:=[.string (txt e.name),vV,vN]
theorem dfv_get:∀ (l:List Df) (k j:Nat) (d:Df),l[k]? = some d → j < 7 → (dfv l)[k * 7 + j]? = (DC d)[j]?
 | [],k,j,r,h,_=>by simp at h
 | x :: l,0,j,r,h,hj=>by
  obtain rfl:x = r:=by simpa using h
  rw [show dfv (x :: l) = DC x ++ dfv l by simp [dfv],Nat.zero_mul,Nat.zero_add,List.getElem?_append_left (by simp [DC]; omega)]
 | x :: l,k + 1,j,r,h,hj=>by
  rw [show dfv (x :: l) = DC x ++ dfv l by simp [dfv],List.getElem?_append_right (by simp [DC]; omega)]
  rw [show (k + 1) * 7 + j - (DC x).length = k * 7 + j by simp [DC]; omega]
  exact dfv_get l k j r (by simpa using h) hj
def MdsAt (B:Nat) (w:World):List Md → List Value → Prop
 | [],xs=>xs = []
 | m :: l,xs=>∃ vF ys,xs = MDC m vF ++ ys ∧ Rb B w vF m.F.length 7 (dfv m.F) ∧ MdsAt B w l ys
def EdsAt (B:Nat) (w:World):List Ed → List Value → Prop
 | [],xs=>xs = []
 | e :: l,xs=>∃ vV vN ys,xs = EDC e vV vN ++ ys ∧ Rb B w vV e.V.length 1 (strv e.V) ∧ Rb B w vN e.N.length 1 (intv e.N) ∧ EdsAt B w l ys
theorem MdsAt.low {B:Nat} {w w':World} (hl:Low B w w'):∀ {l:List Md} {xs:List Value},MdsAt B w l xs → MdsAt B w' l xs
 | [],_,h=>h
 | _ :: _,_,⟨vF,ys,h1,h2,h3⟩=>⟨vF,ys,h1,h2.low hl,h3.low hl⟩
theorem EdsAt.low {B:Nat} {w w':World} (hl:Low B w w'):∀ {l:List Ed} {xs:List Value},EdsAt B w l xs → EdsAt B w' l xs
 | [],_,h=>h
 | _ :: _,_,⟨vV,vN,ys,h1,h2,h3,h4⟩=>⟨vV,vN,ys,h1,h2.low hl,h3.low hl,h4.low hl⟩
theorem MdsAt.mono {B B':Nat} {w:World} (hB:B ≤ B'):∀ {l:List Md} {xs:List Value},MdsAt B w l xs → MdsAt B' w l xs
 | [],_,h=>h
 | _ :: _,_,⟨vF,ys,h1,h2,h3⟩=>⟨vF,ys,h1,h2.mono hB,h3.mono hB⟩
theorem EdsAt.mono {B B':Nat} {w:World} (hB:B ≤ B'):∀ {l:List Ed} {xs:List Value},EdsAt B w l xs → EdsAt B' w l xs
 | [],_,h=>h
 | _ :: _,_,⟨vV,vN,ys,h1,h2,h3,h4⟩=>⟨vV,vN,ys,h1,h2.mono hB,h3.mono hB,h4.mono hB⟩
def SAt (B:Nat) (w:World) (s:Sc) (vM vE:Value):Prop:=∃ xs ys,Rb B w vM s.M.length 2 xs ∧ MdsAt B w s.M xs ∧ Rb B w vE s.E.length 3 ys ∧ EdsAt B w s.E ys
theorem SAt.low {B:Nat} {w w':World} {s:Sc} {vM vE:Value} (h:SAt B w s vM vE) (hl:Low B w w'):SAt B w' s vM vE:=by
 obtain ⟨xs,ys,h1,h2,h3,h4⟩:=h
 exact ⟨xs,ys,h1.low hl,h2.low hl,h3.low hl,h4.low hl⟩
theorem SAt.mono {B B':Nat} {w:World} {s:Sc} {vM vE:Value} (h:SAt B w s vM vE) (hB:B ≤ B'):SAt B' w s vM vE:=by
 obtain ⟨xs,ys,h1,h2,h3,h4⟩:=h
 exact ⟨xs,ys,h1.mono hB,h2.mono hB,h3.mono hB,h4.mono hB⟩
structure DfIn (d:Df):Prop where
 no:inr d.no
 name:d.name.length ≤ maxLen
 kind:inr d.kind
 ref:inr d.ref
 key:inr d.key
 one:inr d.one
structure MdIn (m:Md):Prop where
 name:m.name.length ≤ maxLen
 F:∀ d ∈ m.F,DfIn d
structure EdIn (e:Ed):Prop where
 name:e.name.length ≤ maxLen
 V:∀ x ∈ e.V,x.length ≤ maxLen
 N:∀ n ∈ e.N,inr n
structure ScIn (s:Sc):Prop where
 M:∀ m ∈ s.M,MdIn m
 E:∀ e ∈ s.E,EdIn e
instance:Inhabited Df:=⟨⟨0,[],0,0,false,0,0⟩⟩
instance:Inhabited Md:=⟨⟨[],[]⟩⟩
instance:Inhabited Ed:=⟨⟨[],[],[]⟩⟩
theorem dfr_at {w:World} {A:Option Addr} {c:Nat} {l:List Df} (h:Sl w A l.length c 7 (dfv l)) {k:Nat} {d:Df} (hk:l[k]? = some d) :
  ∃ ad,A = some ad ∧ ad.block < w.heap.size ∧ w.cell? (ad.add (k * 7)) = some (.int .i64 d.no) ∧ w.cell? ⟨(ad.add (k * 7)).block,(ad.add (k * 7)).off + 1,none⟩ = some (.string (txt d.name)) ∧ w.cell? ⟨(ad.add (k * 7)).block,(ad.add (k * 7)).off + 2,none⟩ = some (.int .i64 d.kind) ∧
   w.cell? ⟨(ad.add (k * 7)).block,(ad.add (k * 7)).off + 3,none⟩ = some (.int .i64 d.ref) ∧ w.cell? ⟨(ad.add (k * 7)).block,(ad.add (k * 7)).off + 4,none⟩ = some (.bool d.rep) ∧ w.cell? ⟨(ad.add (k * 7)).block,(ad.add (k * 7)).off + 5,none⟩ = some (.int .i64 d.key) ∧ w.cell? ⟨(ad.add (k * 7)).block,(ad.add (k * 7)).off + 6,none⟩ = some (.int .i64 d.one):=by
 obtain ⟨ad,rfl,hb,h0,hj⟩:=Sl.elem h (List.getElem?_eq_some_iff.1 hk).1
 have hv:=fun (j:Nat) (hj:j < 7)=>dfv_get l k j d hk hj
 refine ⟨ad,rfl,hb,h0 _ (by have:=hv 0 (by omega); rw [Nat.add_zero] at this; rw [this]; rfl),hj 1 _ (by omega) (by rw [hv 1 (by omega)]; rfl),hj 2 _ (by omega) (by rw [hv 2 (by omega)]; rfl),hj 3 _ (by omega) (by rw [hv 3 (by omega)]; rfl),hj 4 _ (by omega) (by rw [hv 4 (by omega)]; rfl),hj 5 _ (by omega) (by rw [hv 5 (by omega)]; rfl),hj 6 _ (by omega) (by rw [hv 6 (by omega)]; rfl)⟩
theorem mdr_list {B:Nat} {w:World}:∀ {l:List Md} {xs:List Value},MdsAt B w l xs → ∀ {k:Nat} {m:Md},l[k]? = some m → ∃ vF,Rb B w vF m.F.length 7 (dfv m.F) ∧ ∀ j,j < 2 → xs[k * 2 + j]? = (MDC m vF)[j]?
 | [],xs,_,k,m,hk=>by simp at hk
 | x :: l,xs,⟨vF,ys,h1,h2,h3⟩,0,m,hk=>by
  obtain rfl:x = m:=by simpa using hk
  refine ⟨vF,h2,fun j hj=>?_⟩
  rw [h1,Nat.zero_mul,Nat.zero_add,List.getElem?_append_left (by simp [MDC]; omega)]
 | x :: l,xs,⟨vF,ys,h1,h2,h3⟩,k + 1,m,hk=>by
  obtain ⟨a,h4,h5⟩:=mdr_list h3 (k:=k) (m:=m) (by simpa using hk)
  refine ⟨a,h4,fun j hj=>?_⟩
  rw [h1,List.getElem?_append_right (by simp [MDC]; omega),← h5 j hj]
  congr 1
  simp [MDC]; omega
theorem edr_list {B:Nat} {w:World}:∀ {l:List Ed} {xs:List Value},EdsAt B w l xs → ∀ {k:Nat} {m:Ed},l[k]? = some m → ∃ vV vN,Rb B w vV m.V.length 1 (strv m.V) ∧ Rb B w vN m.N.length 1 (intv m.N) ∧ ∀ j,j < 3 → xs[k * 3 + j]? = (EDC m vV vN)[j]?
 | [],xs,_,k,m,hk=>by simp at hk
 | x :: l,xs,⟨vV,vN,ys,h1,h2,h2',h3⟩,0,m,hk=>by
  obtain rfl:x = m:=by simpa using hk
  refine ⟨vV,vN,h2,h2',fun j hj=>?_⟩
  rw [h1,Nat.zero_mul,Nat.zero_add,List.getElem?_append_left (by simp [EDC]; omega)]
 | x :: l,xs,⟨vV,vN,ys,h1,h2,h2',h3⟩,k + 1,m,hk=>by
  obtain ⟨a,b,h4,h4',h5⟩:=edr_list h3 (k:=k) (m:=m) (by simpa using hk)
  refine ⟨a,b,h4,h4',fun j hj=>?_⟩
  rw [h1,List.getElem?_append_right (by simp [EDC]; omega),← h5 j hj]
  congr 1
  simp [EDC]; omega
theorem mdr_at {B:Nat} {w:World} {A:Option Addr} {c:Nat} {l:List Md} {xs:List Value} (h:Sl w A l.length c 2 xs) (ha:MdsAt B w l xs) {k:Nat} {m:Md} (hk:l[k]? = some m) :
  ∃ ad vF,A = some ad ∧ ad.block < w.heap.size ∧ Rb B w vF m.F.length 7 (dfv m.F) ∧ w.cell? (ad.add (k * 2)) = some (.string (txt m.name)) ∧ w.cell? ⟨(ad.add (k * 2)).block,(ad.add (k * 2)).off + 1,none⟩ = some vF:=by
 obtain ⟨vF,hr,hx⟩:=mdr_list ha hk
 obtain ⟨ad,rfl,hb,h0,hj⟩:=Sl.elem h (List.getElem?_eq_some_iff.1 hk).1
 exact ⟨ad,vF,rfl,hb,hr,h0 _ (by have:=hx 0 (by omega); rw [Nat.add_zero] at this; rw [this]; rfl),hj 1 _ (by omega) (by rw [hx 1 (by omega)]; rfl)⟩
theorem edr_at {B:Nat} {w:World} {A:Option Addr} {c:Nat} {l:List Ed} {xs:List Value} (h:Sl w A l.length c 3 xs) (ha:EdsAt B w l xs) {k:Nat} {m:Ed} (hk:l[k]? = some m) :
  ∃ ad vV vN,A = some ad ∧ ad.block < w.heap.size ∧ Rb B w vV m.V.length 1 (strv m.V) ∧ Rb B w vN m.N.length 1 (intv m.N) ∧ w.cell? (ad.add (k * 3)) = some (.string (txt m.name)) ∧ w.cell? ⟨(ad.add (k * 3)).block,(ad.add (k * 3)).off + 1,none⟩ = some vV ∧ w.cell? ⟨(ad.add (k * 3)).block,(ad.add (k * 3)).off + 2,none⟩ = some vN:=by
 obtain ⟨vV,vN,hr,hr',hx⟩:=edr_list ha hk
 obtain ⟨ad,rfl,hb,h0,hj⟩:=Sl.elem h (List.getElem?_eq_some_iff.1 hk).1
 exact ⟨ad,vV,vN,rfl,hb,hr,hr',h0 _ (by have:=hx 0 (by omega); rw [Nat.add_zero] at this; rw [this]; rfl),hj 1 _ (by omega) (by rw [hx 1 (by omega)]; rfl),hj 2 _ (by omega) (by rw [hx 2 (by omega)]; rfl)⟩
section
variable {H:Type} {enc:TypeId × Value → H} {W:World} {n:Nat}
theorem k_df:Tryz.prog.cellsOf 45 = 7:=by kernel_rfl
theorem k_md:Tryz.prog.cellsOf 56 = 2:=by kernel_rfl
theorem k_ed:Tryz.prog.cellsOf 84 = 3:=by kernel_rfl
theorem k_dfs:Tryz.prog.cellsOf 54 = 1:=by kernel_rfl
theorem k_mds:Tryz.prog.cellsOf 22 = 1:=by kernel_rfl
theorem k_eds:Tryz.prog.cellsOf 23 = 1:=by kernel_rfl
theorem open_df {cs:List Value} {y:DataW H × List MemPlace} (hl:cs.length = 7) (h:DataW.trod enc Tryz.prog W 0 (fun _=>true) true n 45 cs = some y):∃ d:Df,cs = DC d ∧ DfIn d:=by
 obtain ⟨xs,k,-,-,-,hxl,hg⟩:=DataW.trod_struct Tryz.underlying45 h
 have hx7:xs.length = 7:=hxl
 obtain ⟨x0,x1,x2,x3,x4,x5,x6,rfl⟩:=list7 hx7
 obtain ⟨v0,v1,v2,v3,v4,v5,v6,rfl⟩:=list7 hl
 have g0:DataW.trod enc Tryz.prog W 0 (fun _=>true) true k 3 (List.take (Tryz.prog.cellsOf 3) [v0,v1,v2,v3,v4,v5,v6]) = some x0:=hg 0 _ rfl
 have g1:DataW.trod enc Tryz.prog W 0 (fun _=>true) true k 9 (List.take (Tryz.prog.cellsOf 9) [v1,v2,v3,v4,v5,v6]) = some x1:=hg 1 _ rfl
 have g2:DataW.trod enc Tryz.prog W 0 (fun _=>true) true k 3 (List.take (Tryz.prog.cellsOf 3) [v2,v3,v4,v5,v6]) = some x2:=hg 2 _ rfl
 have g3:DataW.trod enc Tryz.prog W 0 (fun _=>true) true k 3 (List.take (Tryz.prog.cellsOf 3) [v3,v4,v5,v6]) = some x3:=hg 3 _ rfl
 have g4:DataW.trod enc Tryz.prog W 0 (fun _=>true) true k 4 (List.take (Tryz.prog.cellsOf 4) [v4,v5,v6]) = some x4:=hg 4 _ rfl
 have g5:DataW.trod enc Tryz.prog W 0 (fun _=>true) true k 3 (List.take (Tryz.prog.cellsOf 3) [v5,v6]) = some x5:=hg 5 _ rfl
 have g6:DataW.trod enc Tryz.prog W 0 (fun _=>true) true k 3 (List.take (Tryz.prog.cellsOf 3) [v6]) = some x6:=hg 6 _ rfl
 rw [k_string] at g1
 rw [k_bool] at g4
 rw [k_int] at g0 g2 g3 g5 g6
 obtain ⟨a0,rfl,b0⟩:=one_int g0
 obtain ⟨a1,rfl,b1⟩:=one_string g1
 obtain ⟨a2,rfl,b2⟩:=one_int g2
 obtain ⟨a3,rfl,b3⟩:=one_int g3
 obtain ⟨a4,rfl⟩:=one_bool g4
 obtain ⟨a5,rfl,b5⟩:=one_int g5
 obtain ⟨a6,rfl,b6⟩:=one_int g6
 exact ⟨⟨a0,a1,a2,a3,a4,a5,a6⟩,rfl,b0,b1,b2,b3,b5,b6⟩
theorem open_dfs {v:Value} {x:DataW H × List MemPlace} (h:DataW.trod enc Tryz.prog W 0 (fun _=>true) true n 54 [v] = some x):∃ l:List Df,Rb W.heap.size W v l.length 7 (dfv l) ∧ ∀ d ∈ l,DfIn d:=by
 obtain ⟨A,c,l,rfl,hs,hC,hb⟩:=open_rows Tryz.underlying54 k_df (by decide) (fun (d:Df) cs=>cs = DC d ∧ DfIn d) (fun n cs y hl h=>open_df hl h) h
 have e:l.flatMap Prod.snd = dfv (l.map Prod.fst):=flat_of DC l fun y hy=>(hC y hy).1.1
 rw [e] at hs
 refine ⟨l.map Prod.fst,⟨A,c,by rw [List.length_map],by rw [List.length_map]; exact hs,by rw [List.length_map]; exact hb⟩,fun d hd=>?_⟩
 obtain ⟨y,hy,rfl⟩:=List.mem_map.1 hd
 exact (hC y hy).1.2
theorem open_md {cs:List Value} {y:DataW H × List MemPlace} (hl:cs.length = 2) (h:DataW.trod enc Tryz.prog W 0 (fun _=>true) true n 56 cs = some y):∃ m:Md,(∃ vF,cs = MDC m vF ∧ Rb W.heap.size W vF m.F.length 7 (dfv m.F)) ∧ MdIn m:=by
 obtain ⟨xs,k,-,-,-,hxl,hg⟩:=DataW.trod_struct Tryz.underlying56 h
 have hx2:xs.length = 2:=hxl
 obtain ⟨x0,x1,rfl⟩:=list2 hx2
 obtain ⟨v0,v1,rfl⟩:=list2 hl
 have g0:DataW.trod enc Tryz.prog W 0 (fun _=>true) true k 9 (List.take (Tryz.prog.cellsOf 9) [v0,v1]) = some x0:=hg 0 _ rfl
 have g1:DataW.trod enc Tryz.prog W 0 (fun _=>true) true k 54 (List.take (Tryz.prog.cellsOf 54) [v1]) = some x1:=hg 1 _ rfl
 rw [k_string] at g0
 rw [k_dfs] at g1
 obtain ⟨a0,rfl,b0⟩:=one_string g0
 obtain ⟨a1,r1,b1⟩:=open_dfs g1
 exact ⟨⟨a0,a1⟩,⟨v1,rfl,r1⟩,b0,b1⟩
theorem open_ed {cs:List Value} {y:DataW H × List MemPlace} (hl:cs.length = 3) (h:DataW.trod enc Tryz.prog W 0 (fun _=>true) true n 84 cs = some y):∃ e:Ed,(∃ vV vN,cs = EDC e vV vN ∧ Rb W.heap.size W vV e.V.length 1 (strv e.V) ∧ Rb W.heap.size W vN e.N.length 1 (intv e.N)) ∧ EdIn e:=by
 obtain ⟨xs,k,-,-,-,hxl,hg⟩:=DataW.trod_struct Tryz.underlying84 h
 have hx3:xs.length = 3:=hxl
 obtain ⟨x0,x1,x2,rfl⟩:=list3 hx3
 obtain ⟨v0,v1,v2,rfl⟩:=list3 hl
 have g0:DataW.trod enc Tryz.prog W 0 (fun _=>true) true k 9 (List.take (Tryz.prog.cellsOf 9) [v0,v1,v2]) = some x0:=hg 0 _ rfl
 have g1:DataW.trod enc Tryz.prog W 0 (fun _=>true) true k 82 (List.take (Tryz.prog.cellsOf 82) [v1,v2]) = some x1:=hg 1 _ rfl
 have g2:DataW.trod enc Tryz.prog W 0 (fun _=>true) true k 53 (List.take (Tryz.prog.cellsOf 53) [v2]) = some x2:=hg 2 _ rfl
 rw [k_string] at g0
 rw [k_strs] at g1
 rw [k_ints] at g2
 obtain ⟨a0,rfl,b0⟩:=one_string g0
 obtain ⟨a1,r1,b1⟩:=open_strv g1
 obtain ⟨a2,r2,b2⟩:=open_intv g2
 exact ⟨⟨a0,a1,a2⟩,⟨v1,v2,rfl,r1,r2⟩,b0,b1,b2⟩
theorem mdsat_of:∀ (l:List (Md × List Value)),(∀ y ∈ l,∃ vF,y.2 = MDC y.1 vF ∧ Rb W.heap.size W vF y.1.F.length 7 (dfv y.1.F)) → MdsAt W.heap.size W (l.map Prod.fst) (l.flatMap Prod.snd)
 | [],_=>rfl
 | y :: l,h=>by
  obtain ⟨a,h1,h2⟩:=h y (by simp)
  exact ⟨a,l.flatMap Prod.snd,by rw [List.flatMap_cons,h1],h2,mdsat_of l fun z hz=>h z (by simp [hz])⟩
theorem edsat_of:∀ (l:List (Ed × List Value)),(∀ y ∈ l,∃ vV vN,y.2 = EDC y.1 vV vN ∧ Rb W.heap.size W vV y.1.V.length 1 (strv y.1.V) ∧ Rb W.heap.size W vN y.1.N.length 1 (intv y.1.N)) → EdsAt W.heap.size W (l.map Prod.fst) (l.flatMap Prod.snd)
 | [],_=>rfl
 | y :: l,h=>by
  obtain ⟨a,b,h1,h2,h3⟩:=h y (by simp)
  exact ⟨a,b,l.flatMap Prod.snd,by rw [List.flatMap_cons,h1],h2,h3,edsat_of l fun z hz=>h z (by simp [hz])⟩
theorem open_schema {base:Nat} {v:Value} {d:DataW H} {ps:List MemPlace}
  (hval:Value.okWide Tryz.prog W .any base 25 v) (h:DataW.Trod enc Tryz.prog W 0 (fun _=>true) true 25 v d ps) :
  ∃ (s:Sc) (vM vE:Value),v = .agg #[vM,vE] ∧ SAt W.heap.size W s vM vE ∧ ScIn s:=by
 obtain ⟨cs,rfl,hsz⟩:=okWide_struct Tryz.underlying25 hval
 obtain ⟨l⟩:=cs
 obtain ⟨fuel,hf⟩:=h
 obtain ⟨xs,k,-,-,hlen,hxl,hg⟩:=DataW.trod_struct Tryz.underlying25 hf
 have kf:Tryz.prog.cellsOf 25 = 2:=by kernel_rfl
 have hl2:l.length = 2:=by rw [kf] at hlen; simpa [Value.cells] using hlen
 have hx2:xs.length = 2:=hxl
 obtain ⟨x0,x1,rfl⟩:=list2 hx2
 obtain ⟨v0,v1,rfl⟩:=list2 hl2
 have g0:DataW.trod enc Tryz.prog W 0 (fun _=>true) true k 22 (List.take (Tryz.prog.cellsOf 22) [v0,v1]) = some x0:=hg 0 _ rfl
 have g1:DataW.trod enc Tryz.prog W 0 (fun _=>true) true k 23 (List.take (Tryz.prog.cellsOf 23) [v1]) = some x1:=hg 1 _ rfl
 rw [k_mds] at g0
 rw [k_eds] at g1
 obtain ⟨A,c,M,rfl,hs,hC,hb⟩:=open_rows Tryz.underlying22 k_md (by decide) (fun (m:Md) cs=>(∃ vF,cs = MDC m vF ∧ Rb W.heap.size W vF m.F.length 7 (dfv m.F)) ∧ MdIn m) (fun n cs y hl h=>open_md hl h) (show DataW.trod enc Tryz.prog W 0 (fun _=>true) true k 22 [v0] = some x0 from g0)
 obtain ⟨A',c',E,rfl,hs',hC',hb'⟩:=open_rows Tryz.underlying23 k_ed (by decide) (fun (e:Ed) cs=>(∃ vV vN,cs = EDC e vV vN ∧ Rb W.heap.size W vV e.V.length 1 (strv e.V) ∧ Rb W.heap.size W vN e.N.length 1 (intv e.N)) ∧ EdIn e) (fun n cs y hl h=>open_ed hl h) (show DataW.trod enc Tryz.prog W 0 (fun _=>true) true k 23 [v1] = some x1 from g1)
 refine ⟨⟨M.map Prod.fst,E.map Prod.fst⟩,_,_,rfl,⟨_,_,⟨A,c,by simp,by simpa using hs,by simpa using hb⟩,mdsat_of M fun y hy=>(hC y hy).1.1,⟨A',c',by simp,by simpa using hs',by simpa using hb'⟩,edsat_of E fun y hy=>(hC' y hy).1.1⟩,⟨fun m hm=>?_,fun e he=>?_⟩⟩
 ·obtain ⟨y,hy,rfl⟩:=List.mem_map.1 hm
  exact (hC y hy).1.2
 ·obtain ⟨y,hy,rfl⟩:=List.mem_map.1 he
  exact (hC' y hy).1.2
end
end Go.Proofs.YtckcojkpghiclaaGreatDoor
namespace Go.Proofs.YtckcojkpghiclaaGreatDoor
set_option maxRecDepth 100000
open Go.RowKit
theorem all_next {α:Type} {g:α → Bool} {l:List α} {k:Nat} {x:α} (h:l[k]? = some x):(l.take (k + 1)).all g = ((l.take k).all g && g x):=by
 rw [List.take_add_one,h]; simp [List.all_append]
theorem all_part {α:Type} {g:α → Bool} {l:List α} {k:Nat} (h:(l.take k).all g = false):l.all g = false:=by
 rw [← List.take_append_drop k l,List.all_append,h,Bool.false_and]
theorem few_end {α:Type} {g:α → Bool} {c:Bool} {l:List α} {k:Nat} (h:false = (c && (l.take k).all g)):(c && l.all g) = false:=by
 cases c with
 | false=>rfl
 | true =>
  rw [Bool.true_and] at h ⊢
  exact all_part h.symm
def fewMd (m:Md):Bool:=decide (m.F.length ≤ 60)
def fewEd (e:Ed):Bool:=decide (e.V.length ≤ 60) && decide (e.N.length ≤ 60)
def fewS (s:Sc):Bool:=decide (s.M.length ≤ 30) && decide (s.E.length ≤ 30) && s.M.all fewMd && s.E.all fewEd
set_option maxRecDepth 1000000 in
set_option maxHeartbeats 4000000 in
theorem fews_any (B:Nat) (f:Sc) (vM vE:Value) (w:World) (hB:B ≤ w.heap.size) (hf:SAt B w f vM vE) :
  Calls Tryz.prog 13 #[.agg #[vM,vE]] w fun e w'=>e = .returned (.bool (fewS f)) ∧ Below w.heap.size w w':=by
 obtain ⟨xs,ys,⟨A1,q1,rfl,s1,b1⟩,h2,⟨A2,q2,rfl,s2,b2⟩,h4⟩:=hf
 obtain ⟨M,E⟩:=f
 simp only at s1 s2 h2 h4 b1 b2
 have HS:Hid (fewS ⟨M,E⟩ = ((decide (M.length ≤ 30) && decide (E.length ≤ 30)) && M.all fewMd && E.all fewEd)):=Lib.hid rfl
 have hlow:=Low.alloc w (.cells #[.slice A1 M.length q1,.slice A2 E.length q2] 25) hB
 have HM:=Lib.hid (s1.low b1 hlow)
 have HMA:=Lib.hid (h2.low hlow)
 have HE:=Lib.hid (s2.low b2 hlow)
 have HEA:=Lib.hid (h4.low hlow)
 have hbox:=heap_alloc_new w (.cells #[.slice A1 M.length q1,.slice A2 E.length q2] 25)
 have hbw:=below_new w (.cells #[.slice A1 M.length q1,.slice A2 E.length q2] 25)
 by_cases hsm:M.length ≤ 30 ∧ E.length ≤ 30
 ·have d1:decide ((M.length:Int) ≤ 30) = true:=by rw [decide_eq_true_eq]; omega
  have d2:decide ((E.length:Int) ≤ 30) = true:=by rw [decide_eq_true_eq]; omega
  have HS1:Hid (fewS ⟨M,E⟩ = (M.all fewMd && E.all fewEd)):=Lib.hid (by rw [HS.out,decide_eq_true hsm.1,decide_eq_true hsm.2]; simp)
  have hml:=hsm.1
  have hel:=hsm.2
  clear hsm
  go_enter Tryz.func13,Tryz.ntmps13
  go_wp2_with fail
  generalize w.alloc (.cells #[.slice A1 M.length q1,.slice A2 E.length q2] 25) = W at *
  have HBW:=Lib.hid hbw
  have b0:=heap_cell hbox 0
  have b1:=heap_cell hbox 1
  simp at b0 b1
  clear hbw hbox
  go_wp2
  go_loopw [3,4] (fun o i wr=>∃ (k:Nat) (b:Bool),i = .int .i64 k ∧ o = .bool b ∧ k ≤ M.length ∧ b = (M.take k).all fewMd ∧ wr = W) (fun _ i _=>M.length - (intOf i).toNat)
  case atStart=>exact ⟨0,true,rfl,rfl,by omega,by simp,rfl⟩
  case round =>
   obtain ⟨k,b,rfl,rfl,hk,hb,rfl⟩:=hrel
   have HB:=Lib.hid hb
   clear hb
   by_cases hlt:k < M.length
   ·cases b with
    | true =>
     obtain ⟨m,hm⟩:∃ m,M[k]? = some m:=⟨_,List.getElem?_eq_getElem hlt⟩
     obtain ⟨ad,vF,rfl,hg,hmr,c0,c1⟩:=mdr_at HM.out HMA.out hm
     obtain ⟨AF,cF,rfl,-,-⟩:=hmr
     have HN:=Lib.hid (all_next (g:=fewMd) hm)
     have HF:Hid (fewMd m = decide ((m.F.length:Int) ≤ 60)):=Lib.hid (by unfold fewMd; congr 1; apply propext; omega)
     clear hm c0
     go_wp2
     refine ⟨⟨k + 1,_,by go_num,rfl,by omega,?_,trivial⟩,by simp [intOf]; omega⟩
     have h:=HB.out
     rw [HN.out,← h,HF.out,Bool.true_and]
    | false =>
     obtain ⟨c,hc⟩:∃ c,c = false:=⟨_,rfl⟩
     have HS2:Hid (fewS ⟨M,E⟩ = (c && E.all fewEd)):=Lib.hid (by rw [HS1.out,hc,all_part HB.out.symm])
     go_wp2
     go_loopw [3,5] (fun o i wx=>∃ (k:Nat) (b:Bool),i = .int .i64 k ∧ o = .bool b ∧ k ≤ E.length ∧ b = (c && (E.take k).all fewEd) ∧ wx = wr) (fun _ i _=>E.length - (intOf i).toNat)
     case atStart=>exact ⟨0,c,rfl,by rw [hc],by omega,by simp,rfl⟩
     case round =>
      obtain ⟨k,b,rfl,rfl,hk2,hb2,rfl⟩:=hrel
      have HB2:=Lib.hid hb2
      clear hb2
      by_cases hlt2:k < E.length
      ·cases b with
       | false =>
        go_wp2
        go_ret
        exact ⟨by rw [HS2.out,few_end HB2.out]; rfl,HBW.out⟩
       | true =>
        obtain ⟨e,he⟩:∃ e,E[k]? = some e:=⟨_,List.getElem?_eq_getElem hlt2⟩
        obtain ⟨ad2,vV,vN,rfl,hg2,hmr2,hnr2,g0,g1,g2⟩:=edr_at HE.out HEA.out he
        obtain ⟨AV,cV,rfl,-,-⟩:=hmr2
        obtain ⟨AN,cN,rfl,-,-⟩:=hnr2
        have HN2:=Lib.hid (all_next (g:=fewEd) he)
        have HV:Hid (fewEd e = (decide ((e.V.length:Int) ≤ 60) && decide ((e.N.length:Int) ≤ 60))):=Lib.hid (by
         have e60:∀ n:Nat,decide (n ≤ 60) = decide ((n:Int) ≤ 60):=fun n=>by congr 1; apply propext; omega
         unfold fewEd
         rw [e60,e60])
        clear he g0
        obtain ⟨a1,ha1⟩:∃ a,decide ((e.V.length:Int) ≤ 60) = a:=⟨_,rfl⟩
        rw [ha1] at HV
        cases a1
        all_goals
         go_wp2
         refine ⟨⟨k + 1,_,by go_num,rfl,by omega,?_,trivial⟩,by simp [intOf]; omega⟩
         have h:=HB2.out
         rw [HN2.out,← Bool.and_assoc,← h,Bool.true_and,HV.out]
         simp
      ·obtain rfl:k = E.length:=by omega
       go_wp2
       go_ret
       exact ⟨by rw [HS2.out]; have h:=HB2.out; rw [List.take_length] at h; rw [← h]; rfl,HBW.out⟩
   ·obtain rfl:k = M.length:=by omega
    have HS2:Hid (fewS ⟨M,E⟩ = (b && E.all fewEd)):=Lib.hid (by rw [HS1.out]; have h:=HB.out; rw [List.take_length] at h; rw [h])
    obtain ⟨c,hc⟩:∃ c,c = b:=⟨_,rfl⟩
    rw [← hc] at HS2
    clear HB
    go_wp2
    go_loopw [3,5] (fun o i wx=>∃ (k:Nat) (b:Bool),i = .int .i64 k ∧ o = .bool b ∧ k ≤ E.length ∧ b = (c && (E.take k).all fewEd) ∧ wx = wr) (fun _ i _=>E.length - (intOf i).toNat)
    case atStart=>exact ⟨0,c,rfl,by rw [hc],by omega,by simp,rfl⟩
    case round =>
     obtain ⟨k,b,rfl,rfl,hk2,hb2,rfl⟩:=hrel
     have HB2:=Lib.hid hb2
     clear hb2
     by_cases hlt2:k < E.length
     ·cases b with
      | false =>
       go_wp2
       go_ret
       exact ⟨by rw [HS2.out,few_end HB2.out]; rfl,HBW.out⟩
      | true =>
       obtain ⟨e,he⟩:∃ e,E[k]? = some e:=⟨_,List.getElem?_eq_getElem hlt2⟩
       obtain ⟨ad2,vV,vN,rfl,hg2,hmr2,hnr2,g0,g1,g2⟩:=edr_at HE.out HEA.out he
       obtain ⟨AV,cV,rfl,-,-⟩:=hmr2
       obtain ⟨AN,cN,rfl,-,-⟩:=hnr2
       have HN2:=Lib.hid (all_next (g:=fewEd) he)
       have HV:Hid (fewEd e = (decide ((e.V.length:Int) ≤ 60) && decide ((e.N.length:Int) ≤ 60))):=Lib.hid (by
        have e60:∀ n:Nat,decide (n ≤ 60) = decide ((n:Int) ≤ 60):=fun n=>by congr 1; apply propext; omega
        unfold fewEd
        rw [e60,e60])
       clear he g0
       obtain ⟨a1,ha1⟩:∃ a,decide ((e.V.length:Int) ≤ 60) = a:=⟨_,rfl⟩
       rw [ha1] at HV
       cases a1
       all_goals
        go_wp2
        refine ⟨⟨k + 1,_,by go_num,rfl,by omega,?_,trivial⟩,by simp [intOf]; omega⟩
        have h:=HB2.out
        rw [HN2.out,← Bool.and_assoc,← h,Bool.true_and,HV.out]
        simp
     ·obtain rfl:k = E.length:=by omega
      go_wp2
      go_ret
      exact ⟨by rw [HS2.out]; have h:=HB2.out; rw [List.take_length] at h; rw [← h]; rfl,HBW.out⟩
 ·have HF:Hid (fewS ⟨M,E⟩ = false):=Lib.hid (by
   rw [HS.out]
   by_cases h1:M.length ≤ 30
   ·have h2:¬ E.length ≤ 30:=fun h=>hsm ⟨h1,h⟩
    simp [h2]
   ·simp [h1])
  have hor:decide ((M.length:Int) ≤ 30) = false ∨ (decide ((M.length:Int) ≤ 30) = true ∧ decide ((E.length:Int) ≤ 30) = false):=by
   by_cases h1:M.length ≤ 30
   ·right
    have h2:¬ E.length ≤ 30:=fun h=>hsm ⟨h1,h⟩
    exact ⟨by rw [decide_eq_true_eq]; omega,by rw [decide_eq_false_iff_not]; omega⟩
   ·left
    rw [decide_eq_false_iff_not]; omega
  have HBW:=Lib.hid hbw
  clear hsm HS HM HMA HE HEA hbw
  rcases hor with d1 | ⟨d1,d2⟩
  all_goals
   go_enter Tryz.func13,Tryz.ntmps13
   go_wp2_with fail
   generalize w.alloc (.cells #[.slice A1 M.length q1,.slice A2 E.length q2] 25) = W at *
   have b0:=heap_cell hbox 0
   have b1:=heap_cell hbox 1
   simp at b0 b1
   clear hbox
   go_wp2
   go_loopw [3,4] (fun o i wr=>∃ k:Nat,i = .int .i64 k ∧ o = .bool false ∧ k ≤ M.length ∧ wr = W) (fun _ _ _=>0)
   case atStart=>exact ⟨0,rfl,rfl,by omega,rfl⟩
   case round =>
    obtain ⟨k,rfl,rfl,hk,rfl⟩:=hrel
    by_cases hlt:k < M.length
    all_goals
     go_wp2
     go_loopw [3,5] (fun o i wx=>∃ k:Nat,i = .int .i64 k ∧ o = .bool false ∧ k ≤ E.length ∧ wx = wr) (fun _ _ _=>0)
     case atStart=>exact ⟨0,rfl,rfl,by omega,rfl⟩
     case round =>
      obtain ⟨k2,rfl,rfl,hk2,rfl⟩:=hrel
      by_cases hlt2:k2 < E.length
      all_goals
       go_wp2
       go_ret
       exact ⟨by rw [HF.out]; rfl,HBW.out⟩
end Go.Proofs.YtckcojkpghiclaaGreatDoor
namespace Go.Proofs.YtckcojkpghiclaaGreatDoor
set_option maxRecDepth 100000
theorem seven_cnt {k:Int} (h:cnt k = true):k = 0 ∨ k = 1 ∨ k = 2 ∨ k = 3 ∨ k = 4 ∨ k = 5 ∨ k = 6:=by
 simp [cnt] at h
 exact seven h
theorem ofI_bound (k:Int) {r:Int} (h0:0 ≤ r) (h1:r < 18446744073709551616):-9223372036854775808 ≤ ofI k r ∧ ofI k r ≤ 9223372036854775807:=by
 unfold ofI unzigI S64 S32
 repeat' split
 all_goals omega
theorem fits_of {k r:Int} (h0:0 ≤ r) (h1:r < 18446744073709551616) (h:cnt k = true):fitsB k (ofI k r) = true:=by
 rcases seven_cnt h with rfl | rfl | rfl | rfl | rfl | rfl | rfl
 ·rfl
 ·rfl
 ·simp [fitsB,ofI]; omega
 ·simp [fitsB,ofI]; omega
 ·simp [fitsB,ofI]; omega
 ·rfl
 ·simp [fitsB,ofI,S32]; split <;> omega
end Go.Proofs.YtckcojkpghiclaaGreatDoor
namespace Go.Proofs.YtckcojkpghiclaaGreatDoor.T12
set_option maxRecDepth 100000
open Go.Proofs.YtckcojkpghiclaaGreatDoor.T9 Go.Proofs.YtckcojkpghiclaaGreatDoor.T4
end Go.Proofs.YtckcojkpghiclaaGreatDoor.T12
namespace Go.Proofs.YtckcojkpghiclaaGreatDoor.T12
set_option maxRecDepth 100000
open Go.RowKit
open Go.Proofs.YtckcojkpghiclaaGreatDoor.T9
end Go.Proofs.YtckcojkpghiclaaGreatDoor.T12
namespace Go.Proofs.YtckcojkpghiclaaGreatDoor.T12
set_option maxRecDepth 100000
open Go.Proofs.YtckcojkpghiclaaGreatDoor.T9 Go.Proofs.YtckcojkpghiclaaGreatDoor.T4
end Go.Proofs.YtckcojkpghiclaaGreatDoor.T12
