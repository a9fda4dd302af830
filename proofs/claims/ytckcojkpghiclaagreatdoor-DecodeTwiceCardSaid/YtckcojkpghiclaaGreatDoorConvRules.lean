/-
 A file that is resolved,by plain functions: what is wrong with it,told first; the schema; and what makes a file right.
-/
import Derived.Test.YtckcojkpghiclaaGreatDoorProMath
import Derived.Test.YtckcojkpghiclaaGreatDoorTrSet
import Derived.Laws.BytesArg
import Derived.Laws.RangeAny
import Derived.Lib.Strings
import Derived.Lib.OthersKept
import Derived.Deep.QuietTactic
import Derived.BigQuiet
import Derived.Deep.WholeRow
import Derived.Great.BuildSlice
namespace Go.Proofs.YtckcojkpghiclaaGreatDoor
set_option maxRecDepth 100000
structure Df where
 no:Int
 name:List UInt8
 kind:Int
 ref:Int
 rep:Bool
 key:Int
 one:Int
 deriving DecidableEq
structure Md where
 name:List UInt8
 F:List Df
 deriving DecidableEq
structure Ed where
 name:List UInt8
 V:List (List UInt8)
 N:List Int
 deriving DecidableEq
structure Sc where
 M:List Md
 E:List Ed
 deriving DecidableEq
def tInt64:List UInt8:=[105,110,116,54,52]
def tSint64:List UInt8:=[115,105,110,116,54,52]
def tUint32:List UInt8:=[117,105,110,116,51,50]
def tBool:List UInt8:=[98,111,111,108]
def tFixed32:List UInt8:=[102,105,120,101,100,51,50]
def tSfixed64:List UInt8:=[115,102,105,120,101,100,54,52]
def tString:List UInt8:=[115,116,114,105,110,103]
def tBytes:List UInt8:=[98,121,116,101,115]
def typeK (x:List UInt8):Option Nat :=
 if x = tInt64 then some 0 else if x = tSint64 then some 1 else if x = tUint32 then some 2 else if x = tBool then some 3 else if x = tFixed32 then some 4 else if x = tSfixed64 then some 5 else if x = tString then some 7 else if x = tBytes then some 8 else none
def numberB (n:Int):Bool:=decide (1 ≤ n) && decide (n ≤ 536870911) && !(decide (19000 ≤ n) && decide (n ≤ 19999))
def keyedB (k:Int):Bool:=k == 0 || k == 1 || k == 2 || k == 3 || k == 4 || k == 5 || k == 7
theorem pair_take {α:Type} {R:α → α → Bool} {l:List α}:(∀ k x,l[k]? = some x → (l.take k).any (R · x) = false) ↔ l.Pairwise fun a b=>R a b = false:=by
 rw [List.pairwise_iff_getElem]
 constructor
 ·intro h i j hi hj hij
  have h1:=h j _ (List.getElem?_eq_getElem hj)
  rw [List.any_eq_false] at h1
  have h2:=h1 l[i] (List.mem_iff_getElem.2 ⟨i,by rw [List.length_take]; omega,by simp⟩)
  simpa using h2
 ·intro h k x hx
  rw [List.any_eq_false]
  intro y hy
  obtain ⟨i,hi,rfl⟩:=List.mem_iff_getElem.1 hy
  rw [List.length_take] at hi
  obtain ⟨hk,rfl⟩:=List.getElem?_eq_some_iff.1 hx
  have:=h i k (by omega) hk (by omega)
  simpa using this
structure DfMay (s:Sc) (d:Df):Prop where
 num:numberB d.no = true
 k0:0 ≤ d.kind
 k9:d.kind ≤ 9
 o0:0 ≤ d.one
 o30:d.one ≤ 30
 r0:0 ≤ d.ref
 ref:d.ref ≤ (if d.kind = 9 then (s.M.length:Int) - 1 else if d.kind = 6 then (s.E.length:Int) - 1 else 0)
 key:d.key = -1 ∨ (keyedB d.key = true ∧ d.rep = false)
 alone:d.one = 0 ∨ (d.rep = false ∧ d.key = -1)
structure MdMay (s:Sc) (m:Md):Prop where
 few:m.F.length ≤ 30
 rise:m.F.Pairwise fun a b=>a.no < b.no
 names:m.F.Pairwise fun a b=>a.name ≠ b.name
 each:∀ d ∈ m.F,DfMay s d
structure EdMay (e:Ed):Prop where
 some_:1 ≤ e.V.length
 few:e.V.length ≤ 30
 same:e.N.length = e.V.length
 zero:e.N[0]? = some 0
 names:e.V.Pairwise (· ≠ ·)
 nums:e.N.Pairwise (· ≠ ·)
 each:∀ n ∈ e.N,-2147483648 ≤ n ∧ n ≤ 2147483647
def namesS (s:Sc):List (List UInt8):=s.M.map (·.name) ++ s.E.map (·.name)
structure ScMay (s:Sc):Prop where
 some_:1 ≤ s.M.length
 fewM:s.M.length ≤ 20
 fewE:s.E.length ≤ 20
 names:(namesS s).Pairwise (· ≠ ·)
 plain:∀ x ∈ namesS s,typeK x = none
 M:∀ m ∈ s.M,MdMay s m
 E:∀ e ∈ s.E,EdMay e
def msgAt (s:Sc) (m:Int):Option Md:=if m < 0 then none else s.M[m.toNat]?
def byS (s:Sc) (m no:Int):Option Df:=(msgAt s m).bind fun d=>d.F.find? (·.no == no)
end Go.Proofs.YtckcojkpghiclaaGreatDoor
namespace Go.Proofs.YtckcojkpghiclaaGreatDoor
set_option maxRecDepth 100000
open Go.ChangeShapes Go.WideShapes Go.ChangeAt Go.RowKit
def BV (b:UInt8):Value:=.int .u8 (b.toNat:Int)
def bs (l:List UInt8):List Value:=l.map BV
theorem bs_length (a:List UInt8):(bs a).length = a.length:=by simp [bs]
theorem bs_get (a:List UInt8) (k:Nat):(bs a)[k]? = a[k]?.map BV:=by simp [bs]
theorem bs_one (a:List UInt8):∀ u ∈ bs a,u.oneCell' = true:=by
 intro u hu
 obtain ⟨b,_,rfl⟩:=List.mem_map.1 hu
 rfl
def SlB (w:World) (A:Option Addr) (c:Nat) (l:List UInt8):Prop:=Sl w A l.length c 1 (bs l)
theorem SlB.on {w w':World} {A:Option Addr} {c:Nat} {l:List UInt8} (h:SlB w A c l) (hb:Below w.heap.size w w'):SlB w' A c l:=Sl.on h hb
theorem SlB.lit {w:World} {A:Option Addr} {c:Nat} {l:List UInt8} (h:SlB w A c l) (o:Obj):SlB (w.alloc o) A c l:=h.on (below_new w o)
theorem SlB.le {w:World} {A:Option Addr} {c:Nat} {l:List UInt8} (h:SlB w A c l):l.length ≤ c:=Sl.le h
theorem SlB.at_ {w:World} {A:Option Addr} {c:Nat} {l:List UInt8} (h:SlB w A c l) {k:Nat} (hk:k < l.length):∃ ad b,A = some ad ∧ ad.block < w.heap.size ∧ l[k]? = some b ∧ w.cell? (ad.add k) = some (.int .u8 (b.toNat:Int)):=by
 obtain ⟨ad,rfl,hb,hcell⟩:=Sl.there h (by omega)
 exact ⟨ad,l[k],rfl,hb,List.getElem?_eq_getElem hk,hcell k _ (by rw [bs_get,List.getElem?_eq_getElem hk]; rfl)⟩
theorem SlB.of_own {w:World} {base:Nat} {e:TypeId} {v:Value} {l:List UInt8} (h:w.ownsRow base e 1 v l.length (bs l)):∃ A c,v = .slice A l.length c ∧ SlB w A c l:=Sl.of_own h
theorem SlB.nil (w:World):SlB w none 0 []:=Sl.nothing w 1
theorem info_u8:(Tryz.prog.info? 5).map (fun i=>(i.zero,i.size,i.bytes)) = some (some (.int .u8 0),1,1):=by kernel_rfl
theorem cells_u8:Tryz.prog.cellsOf 5 = 1:=by kernel_rfl
theorem bs_of_ints (zs:List Int) (h:∀ n ∈ zs,(Lit.int .u8 n).wf = true):∃ l:List UInt8,zs.map (Value.int .u8) = bs l:=by
 induction zs with
 | nil=>exact ⟨[],rfl⟩
 | cons z zs ih =>
  obtain ⟨l,hl⟩:=ih (fun n hn=>h n (by simp [hn]))
  have hb:=bounds_u8 (h z (by simp))
  refine ⟨UInt8.ofNat z.toNat :: l,?_⟩
  simp only [List.map_cons,bs,List.cons.injEq]
  refine ⟨?_,by simpa [bs] using hl⟩
  simp only [BV,Value.int.injEq,true_and]
  rw [UInt8.toNat_ofNat']
  omega
theorem open_bytes {H:Type} {enc:TypeId × Value → H} {W:World} {base:Nat} {v:Value} {d:DataW H} {ps:List MemPlace}
  (hval:Value.okWide Tryz.prog W .any base 26 v) (h:DataW.Trod enc Tryz.prog W 0 (fun _=>true) true 26 v d ps) :
  ∃ (A:Option Addr) (c:Nat) (l:List UInt8),v = .slice A l.length c ∧ SlB W A c l:=by
 obtain ⟨a0,len,cap,rfl⟩:=okWide_slice Tryz.underlying26 hval
 obtain ⟨fuel,hf⟩:=h
 rcases open_ints Tryz.underlying26 Tryz.underlying5 cells_u8 hf with ⟨hcs,hx⟩ | ⟨a,len',cap',zs,hcs,_,hl,hm,hz,hx,hcell,hwz⟩
 ·simp [Value.cells] at hcs
  obtain ⟨rfl,rfl,rfl⟩:=hcs
  exact ⟨none,0,[],rfl,SlB.nil W⟩
 ·simp [Value.cells] at hcs
  obtain ⟨rfl,rfl,rfl⟩:=hcs
  simp only [if_true] at hz
  obtain ⟨l,hl2⟩:=bs_of_ints (zs.take len) (fun n hn=>hwz n (List.mem_of_mem_take hn))
  have hlen:l.length = len:=by
   have:=congrArg List.length hl2
   simp [bs] at this
   omega
  subst hlen
  refine ⟨some a,cap,l,rfl,by simp [bs],hl,hm,by simp,fun ad ha hn=>?_,fun ad ha k u hu=>?_⟩
  ·obtain rfl:=Option.some.inj ha
   have hb:=World.block_lt_of_cell? W _ (hcell 0 (by omega))
   rwa [add_same_block] at hb
  ·obtain rfl:=Option.some.inj ha
   rw [← hl2] at hu
   have hk:k < l.length:=by
    have:=(List.getElem?_eq_some_iff.1 hu).1
    simp at this
    omega
   rw [hcell k (by omega)]
   rw [List.getElem?_map,List.getElem?_take,if_pos hk] at hu
   obtain ⟨z,hz2,rfl⟩:=Option.map_eq_some_iff.1 hu
   simp [List.getD,hz2]
theorem lit_reads (w:World) (l:List UInt8) (hl:l.length ≤ 100):SlB (w.alloc (.cells (bs l).toArray 5)) (some ⟨w.heap.size,0,none⟩) l.length l:=by
 have h:=Sl.new w (bs l) 5 (by rw [bs_length]; unfold maxLen; omega)
 rw [bs_length] at h
 exact h
end Go.Proofs.YtckcojkpghiclaaGreatDoor
namespace Go.Proofs.YtckcojkpghiclaaGreatDoor
set_option maxRecDepth 100000
open Go.RowKit
def txt (l:List UInt8):ByteArray:=⟨l.toArray⟩
theorem txt_list (l:List UInt8):(txt l).data.toList = l:=by simp [txt]
theorem txt_size (l:List UInt8):(txt l).size = l.length:=by simp [txt,ByteArray.size]
theorem txt_of (s:ByteArray):txt s.data.toList = s:=by cases s; simp [txt]
theorem run_str_of_bytes {P:Program} (w:World) (src dst e:TypeId) (hs:P.underlying src = some (.slice e)) (he:P.underlying e = some (.int .u8)) (hd:P.underlying dst = some .string)
  (A:Option Addr) (c:Nat) (l:List UInt8) (hr:SlB w A c l):(convert src dst (.slice A l.length c)).run P w = .ok (.string (txt l)) w:=by
 cases A with
 | none =>
  obtain ⟨hn,rfl,hx⟩:=Sl.none_len hr
  obtain rfl:l = []:=List.eq_nil_of_length_eq_zero hn
  exact run_convert_bytes_nil w src e hs he 0 0 dst hd
 | some ad =>
  have hm:(l.map fun b=>(b.toNat:Int)).map (Value.int .u8) = bs l:=by simp [bs,BV]
  have hl:(loadCells ad l.length).run P w = .ok ((l.map fun b=>(b.toNat:Int)).map (Value.int .u8)).toArray w:=by
   have:=run_loadCells_list (P:=P) w ad (bs l) (fun j v hj=>Sl.cell hr ad rfl j v hj)
   rw [bs_length] at this
   rw [hm]
   exact this
  rw [run_convert_bytes_string w src dst e _ _ _ hs he hd,run_bytesToString w _ _ _ _ hl,foldl_push_bytes]
  have h2:((l.map fun b=>(b.toNat:Int)).map fun n=>UInt8.ofNat n.toNat) = l:=by
   rw [List.map_map]
   conv=>rhs; rw [← List.map_id l]
   refine List.map_congr_left fun b _=>?_
   simp
  rw [h2]
  simp [txt,ByteArray.empty,ByteArray.emptyWithCapacity]
  rfl
end Go.Proofs.YtckcojkpghiclaaGreatDoor
namespace Go.Proofs.YtckcojkpghiclaaGreatDoor.T4
set_option maxRecDepth 100000
def sg (n b0 b1 b2 b3:Nat):Nat :=
 if n = 0 then 0
 else if b0 ≤ 127 then 1
 else if 194 ≤ b0 ∧ b0 ≤ 223 then (if 2 ≤ n ∧ 128 ≤ b1 ∧ b1 ≤ 191 then 2 else 0)
 else if 224 ≤ b0 ∧ b0 ≤ 239 then (if 3 ≤ n ∧ 128 ≤ b1 ∧ b1 ≤ 191 ∧ 128 ≤ b2 ∧ b2 ≤ 191 ∧ ¬ (b0 = 224 ∧ b1 < 160) ∧ ¬ (b0 = 237 ∧ 159 < b1) then 3 else 0)
 else if 240 ≤ b0 ∧ b0 ≤ 244 then (if 4 ≤ n ∧ 128 ≤ b1 ∧ b1 ≤ 191 ∧ 128 ≤ b2 ∧ b2 ≤ 191 ∧ 128 ≤ b3 ∧ b3 ≤ 191 ∧ ¬ (b0 = 240 ∧ b1 < 144) ∧ ¬ (b0 = 244 ∧ 143 < b1) then 4 else 0)
 else 0
def by' (l:List UInt8) (k:Nat):Nat:=(l.getD k 0).toNat
def sgn (l:List UInt8):Nat:=sg l.length (by' l 0) (by' l 1) (by' l 2) (by' l 3)
theorem by_lt (l:List UInt8) (k:Nat):by' l k < 256:=(l.getD k 0).toNat_lt
theorem sg_le (n b0 b1 b2 b3:Nat):sg n b0 b1 b2 b3 ≤ n ∧ sg n b0 b1 b2 b3 ≤ 4:=by
 unfold sg
 split
 ·omega
 split
 ·omega
 split
 ·split <;> omega
 split
 ·split <;> omega
 split
 ·split <;> omega
 ·omega
theorem sgn_le (l:List UInt8):sgn l ≤ l.length:=(sg_le _ _ _ _ _).1
def first (l:List UInt8):Nat:=if h:sgn l = 0 then 0 else sgn l + first (l.drop (sgn l))
termination_by l.length
decreasing_by
 have:=sgn_le l
 simp only [List.length_drop]
 omega
theorem first_none {l:List UInt8} (h:sgn l = 0):first l = 0:=by rw [first,dif_pos h]
theorem first_some {l:List UInt8} (h:sgn l ≠ 0):first l = sgn l + first (l.drop (sgn l)):=by rw [first,dif_neg h]
theorem first_nil:first [] = 0:=first_none rfl
theorem by_drop (l:List UInt8) (n k:Nat):by' (l.drop n) k = by' l (n + k):=by
 unfold by'
 rw [List.getD_eq_getElem?_getD,List.getD_eq_getElem?_getD,List.getElem?_drop]
def dec (n b0 b1 b2 b3:Nat):Nat × Nat :=
 if b0 < 0x80 then (b0,1)
 else if b0 / 32 == 6 && (decide (1 < n) && b1 / 64 == 2) then
  let c:=(b0 % 32) * 64 + b1 % 64
  if c ≥ 0x80 then (c,2) else (Utf8.runeError,1)
 else if b0 / 16 == 14 && (decide (1 < n) && b1 / 64 == 2) && (decide (2 < n) && b2 / 64 == 2) then
  let c:=(b0 % 16) * 4096 + (b1 % 64) * 64 + b2 % 64
  if c ≥ 0x800 && Utf8.valid c then (c,3) else (Utf8.runeError,1)
 else if b0 / 8 == 30 && (decide (1 < n) && b1 / 64 == 2) && (decide (2 < n) && b2 / 64 == 2) && (decide (3 < n) && b3 / 64 == 2) then
  let c:=(b0 % 8) * 262144 + (b1 % 64) * 4096 + (b2 % 64) * 64 + b3 % 64
  if c ≥ 0x10000 && Utf8.valid c then (c,4) else (Utf8.runeError,1)
 else (Utf8.runeError,1)
theorem dec_sg (n b0 b1 b2 b3:Nat) (hn:0 < n) (h0:b0 < 256) (h1:b1 < 256) (h2:b2 < 256) (h3:b3 < 256) :
  (sg n b0 b1 b2 b3 = 0 → dec n b0 b1 b2 b3 = (65533,1) ∧ ¬ (3 ≤ n ∧ b0 = 239 ∧ b1 = 191 ∧ b2 = 189)) ∧
  (sg n b0 b1 b2 b3 ≠ 0 → (dec n b0 b1 b2 b3).2 = sg n b0 b1 b2 b3 ∧ ((dec n b0 b1 b2 b3).1 = 65533 → 3 ≤ n ∧ b0 = 239 ∧ b1 = 191 ∧ b2 = 189)):=by
 have v3:∀ a b c:Nat,a < 16 → b < 64 → c < 64 → Utf8.valid ((a * 4096 + b * 64 + c:Nat):Int) = !decide (a = 13 ∧ 32 ≤ b):=by
  intro a b c ha hb hc
  unfold Utf8.valid
  rw [Bool.eq_iff_iff]
  simp only [Bool.or_eq_true,Bool.and_eq_true,decide_eq_true_eq,Bool.not_eq_true',decide_eq_false_iff_not]
  omega
 have v4:∀ a b c d:Nat,a < 8 → b < 64 → c < 64 → d < 64 → 65536 ≤ a * 262144 + b * 4096 + c * 64 + d → Utf8.valid ((a * 262144 + b * 4096 + c * 64 + d:Nat):Int) = !decide (4 < a ∨ a = 4 ∧ 16 ≤ b):=by
  intro a b c d ha hb hc hd hg
  unfold Utf8.valid
  rw [Bool.eq_iff_iff]
  simp only [Bool.or_eq_true,Bool.and_eq_true,decide_eq_true_eq,Bool.not_eq_true',decide_eq_false_iff_not]
  omega
 have w3:=v3 (b0 % 16) (b1 % 64) (b2 % 64) (by omega) (by omega) (by omega)
 have w4:=v4 (b0 % 8) (b1 % 64) (b2 % 64) (b3 % 64) (by omega) (by omega) (by omega) (by omega)
 clear v3 v4
 unfold sg dec Utf8.runeError
 rw [if_neg (by omega:¬ n = 0)]
 by_cases c0:b0 ≤ 127
 ·rw [if_pos c0,if_pos (by omega)]
  exact ⟨by omega,fun _=>⟨rfl,by simp only; omega⟩⟩
 rw [if_neg c0,if_neg (by omega:¬ b0 < 128)]
 have n3:∀ V:Bool,(V = true) = (V = true):=fun _=>rfl
 by_cases c1:b0 / 32 = 6
 ·have e1:(b0 / 32 == 6) = true:=by simpa using c1
  have g1:¬ (224 ≤ b0 ∧ b0 ≤ 239):=by omega
  have g2:¬ (240 ≤ b0 ∧ b0 ≤ 244):=by omega
  have e2:(b0 / 16 == 14) = false:=by simp; omega
  have e3:(b0 / 8 == 30) = false:=by simp; omega
  clear w3 w4 n3
  simp only [e1,e2,e3,Bool.true_and,Bool.false_and,if_neg g1,if_neg g2,Bool.and_eq_true,decide_eq_true_eq,beq_iff_eq,ge_iff_le,Bool.false_eq_true,if_false]
  constructor
  ·intro hs
   refine ⟨?_,by omega⟩
   split
   ·split
    ·exfalso
     rw [if_pos (by omega),if_pos (by omega)] at hs
     omega
    ·rfl
   ·rfl
  ·intro hs
   have hg:194 ≤ b0 ∧ b0 ≤ 223:=by
    by_cases hg:194 ≤ b0 ∧ b0 ≤ 223
    ·exact hg
    ·rw [if_neg hg] at hs; omega
   rw [if_pos hg] at hs ⊢
   have hk:2 ≤ n ∧ 128 ≤ b1 ∧ b1 ≤ 191:=by
    by_cases hk:2 ≤ n ∧ 128 ≤ b1 ∧ b1 ≤ 191
    ·exact hk
    ·rw [if_neg hk] at hs; omega
   rw [if_pos hk,if_pos (by omega),if_pos (by omega)]
   exact ⟨rfl,by simp only; omega⟩
 by_cases c2:b0 / 16 = 14
 ·have e1:(b0 / 32 == 6) = false:=by simp; omega
  have g1:¬ (194 ≤ b0 ∧ b0 ≤ 223):=by omega
  have g2:224 ≤ b0 ∧ b0 ≤ 239:=by omega
  have e2:(b0 / 16 == 14) = true:=by simpa using c2
  have e3:(b0 / 8 == 30) = false:=by simp; omega
  clear w4 n3
  simp only [e1,e2,e3,w3,Bool.true_and,Bool.false_and,if_neg g1,if_pos g2,Bool.and_eq_true,decide_eq_true_eq,beq_iff_eq,ge_iff_le,Bool.false_eq_true,if_false,Bool.not_eq_true',decide_eq_false_iff_not]
  clear w3
  constructor
  ·intro hs
   refine ⟨?_,?_⟩
   ·split
    ·split
     ·exfalso
      rw [if_pos (by omega)] at hs
      omega
     ·rfl
    ·rfl
   ·intro hx
    rw [if_pos (by omega)] at hs
    omega
  ·intro hs
   have hk:3 ≤ n ∧ 128 ≤ b1 ∧ b1 ≤ 191 ∧ 128 ≤ b2 ∧ b2 ≤ 191 ∧ ¬ (b0 = 224 ∧ b1 < 160) ∧ ¬ (b0 = 237 ∧ 159 < b1):=by
    by_cases hk:3 ≤ n ∧ 128 ≤ b1 ∧ b1 ≤ 191 ∧ 128 ≤ b2 ∧ b2 ≤ 191 ∧ ¬ (b0 = 224 ∧ b1 < 160) ∧ ¬ (b0 = 237 ∧ 159 < b1)
    ·exact hk
    ·rw [if_neg hk] at hs; omega
   rw [if_pos hk,if_pos (by omega),if_pos (by omega)]
   exact ⟨rfl,by simp only; omega⟩
 by_cases c3:b0 / 8 = 30
 ·have e1:(b0 / 32 == 6) = false:=by simp; omega
  have g1:¬ (194 ≤ b0 ∧ b0 ≤ 223):=by omega
  have g2:¬ (224 ≤ b0 ∧ b0 ≤ 239):=by omega
  have e2:(b0 / 16 == 14) = false:=by simp; omega
  have e3:(b0 / 8 == 30) = true:=by simpa using c3
  clear w3 n3
  simp only [e1,e2,e3,Bool.true_and,Bool.false_and,if_neg g1,if_neg g2,Bool.and_eq_true,decide_eq_true_eq,beq_iff_eq,ge_iff_le,Bool.false_eq_true,if_false,Bool.not_eq_true',decide_eq_false_iff_not]
  constructor
  ·intro hs
   refine ⟨?_,by omega⟩
   split
   ·split
    ·rename_i hq
     exfalso
     have hv:=w4 hq.1
     rw [hq.2] at hv
     have hv:¬ (4 < b0 % 8 ∨ b0 % 8 = 4 ∧ 16 ≤ b1 % 64):=by
      rw [eq_comm,Bool.not_eq_true',decide_eq_false_iff_not] at hv
      exact hv
     rw [if_pos (by omega),if_pos (by omega)] at hs
     omega
    ·rfl
   ·rfl
  ·intro hs
   have hg:240 ≤ b0 ∧ b0 ≤ 244:=by
    by_cases hg:240 ≤ b0 ∧ b0 ≤ 244
    ·exact hg
    ·rw [if_neg hg] at hs; omega
   rw [if_pos hg] at hs ⊢
   have hk:4 ≤ n ∧ 128 ≤ b1 ∧ b1 ≤ 191 ∧ 128 ≤ b2 ∧ b2 ≤ 191 ∧ 128 ≤ b3 ∧ b3 ≤ 191 ∧ ¬ (b0 = 240 ∧ b1 < 144) ∧ ¬ (b0 = 244 ∧ 143 < b1):=by
    by_cases hk:4 ≤ n ∧ 128 ≤ b1 ∧ b1 ≤ 191 ∧ 128 ≤ b2 ∧ b2 ≤ 191 ∧ 128 ≤ b3 ∧ b3 ≤ 191 ∧ ¬ (b0 = 240 ∧ b1 < 144) ∧ ¬ (b0 = 244 ∧ 143 < b1)
    ·exact hk
    ·rw [if_neg hk] at hs; omega
   have hge:65536 ≤ b0 % 8 * 262144 + b1 % 64 * 4096 + b2 % 64 * 64 + b3 % 64:=by omega
   have hv:=w4 hge
   have hd:decide (4 < b0 % 8 ∨ b0 % 8 = 4 ∧ 16 ≤ b1 % 64) = false:=by simp only [decide_eq_false_iff_not]; omega
   rw [hd,Bool.not_false] at hv
   have hc:((1 < n ∧ b1 / 64 = 2) ∧ 2 < n ∧ b2 / 64 = 2) ∧ 3 < n ∧ b3 / 64 = 2:=by omega
   rw [if_pos hk]
   simp only [hc,hv,hge,and_self,if_true,true_and]
   omega
 have e1:(b0 / 32 == 6) = false:=by simp; omega
 have g1:¬ (194 ≤ b0 ∧ b0 ≤ 223):=by omega
 have g2:¬ (224 ≤ b0 ∧ b0 ≤ 239):=by omega
 have g3:¬ (240 ≤ b0 ∧ b0 ≤ 244):=by omega
 have e2:(b0 / 16 == 14) = false:=by simp; omega
 have e3:(b0 / 8 == 30) = false:=by simp; omega
 simp only [e1,e2,e3,Bool.false_and,if_neg g1,if_neg g2,if_neg g3,Bool.false_eq_true,if_false]
 exact ⟨fun _=>⟨trivial,by omega⟩,fun h=>absurd rfl h⟩
theorem getBang (s:ByteArray) (i:Nat):s.get! i = s.data.toList.getD i 0:=by
 rcases Nat.lt_or_ge i s.size with h | h
 ·have h':i < s.data.size:=h
  rw [List.getD_eq_getElem?_getD,List.getElem?_eq_getElem (by simpa using h)]
  exact (getElem!_pos s.data i h').trans (by simp)
 ·rw [List.getD_eq_getElem?_getD,List.getElem?_eq_none (by simpa using h)]
  have h':¬ i < s.data.size:=Nat.not_lt.2 h
  exact (getElem!_neg s.data i h').trans rfl
theorem decode_dec (s:ByteArray) (i:Nat) (hi:i ≤ s.size):Utf8.decode s i = dec (s.data.toList.drop i).length (by' (s.data.toList.drop i) 0) (by' (s.data.toList.drop i) 1) (by' (s.data.toList.drop i) 2) (by' (s.data.toList.drop i) 3):=by
 have hl:(s.data.toList.drop i).length = s.size - i:=by simp
 have hc:∀ k,(s.get! (i + k)).toNat = by' (s.data.toList.drop i) k:=by
  intro k
  rw [by_drop,getBang]
  rfl
 have ht:∀ k,decide (i + k < s.size) = decide (k < (s.data.toList.drop i).length):=by
  intro k
  rw [hl]
  congr 1
  exact propext ⟨by omega,by omega⟩
 simp only [Utf8.decode,hc,ht,dec]
theorem decode_sign (s:ByteArray) (i:Nat) (hi:i < s.size) :
  (sgn (s.data.toList.drop i) = 0 → Utf8.decode s i = (65533,1) ∧ ¬ ((s.data.toList.drop i).take 3 = [239,191,189])) ∧
  (sgn (s.data.toList.drop i) ≠ 0 → (Utf8.decode s i).2 = sgn (s.data.toList.drop i) ∧ ((Utf8.decode s i).1 = 65533 → (s.data.toList.drop i).take 3 = [239,191,189])):=by
 rw [decode_dec s i (by omega)]
 have hl:(s.data.toList.drop i).length = s.size - i:=by simp
 generalize s.data.toList.drop i = l at *
 have h3:l.take 3 = [239,191,189] ↔ 3 ≤ l.length ∧ by' l 0 = 239 ∧ by' l 1 = 191 ∧ by' l 2 = 189:=by
  rcases l with _ | ⟨a,_ | ⟨b,_ | ⟨c,l⟩⟩⟩
  ·simp
  ·simp
  ·simp
  ·simp [by',← UInt8.toNat_inj]
 rw [h3]
 exact dec_sg l.length _ _ _ _ (by omega) (by_lt _ _) (by_lt _ _) (by_lt _ _) (by_lt _ _)
end Go.Proofs.YtckcojkpghiclaaGreatDoor.T4
namespace Go.Proofs.YtckcojkpghiclaaGreatDoor.T4
set_option maxRecDepth 100000
open Go.RowKit
theorem prefix_any (s p:ByteArray) (w:World) :
  Calls Tryz.prog 232 #[.string s,.string p] w fun e w'=>e = .returned (.bool (Lib.hasPrefix s.data.toList p.data.toList)) ∧ w = w':=by
 rw [← Lib.hasPrefix_of_take,← Lib.size_eq,← Lib.size_eq]
 go_enter Tryz.func232,Tryz.ntmps232
 go_wp2
 ·rename_i h
  go_ret
  refine ⟨?_,rfl⟩
  show Ending.returned (Value.bool ((s.extract 0 p.size).toList == p.toList)) = _
  rw [Lib.extract_toList,Lib.toList_data]
  simp [h]
 ·rename_i h
  go_ret
  refine ⟨?_,rfl⟩
  show Ending.returned (Value.bool false) = _
  simp [h]
theorem prefix3 (s:ByteArray) (pos:Nat):Lib.hasPrefix (s.extract pos s.size).data.toList [239,191,189] = decide ((s.data.toList.drop pos).take 3 = [239,191,189]):=by
 rw [← Lib.hasPrefix_of_take,← Lib.toList_data,Lib.extract_toList]
 have hsz:s.data.toList.length = s.size:=by simp
 rw [List.take_of_length_le (by rw [List.length_drop,hsz]; exact Nat.le_refl _)]
 generalize s.data.toList.drop pos = l
 rw [Bool.eq_iff_iff]
 simp only [List.length_cons,List.length_nil,Bool.and_eq_true,decide_eq_true_eq,beq_iff_eq]
 constructor
 ·exact fun h=>h.2
 ·intro h
  have:=congrArg List.length h
  simp at this
  exact ⟨by omega,h⟩
set_option maxRecDepth 1000000 in
theorem first_any (A:Option Addr) (c:Nat) (l:List UInt8) (hl:l.length ≤ 140737488351232) (w:World) (hr:SlB w A c l) :
  Calls Tryz.prog 227 #[.slice A l.length c] w fun e w'=>e = .returned (.int .i64 (first l)) ∧ Below w.heap.size w w':=by
 have hcv:=run_str_of_bytes (P:=Tryz.prog) w 26 9 5 Tryz.underlying26 Tryz.underlying5 Tryz.underlying9 A c l hr
 have hss:=txt_size l
 obtain ⟨s,hs⟩:∃ s,s = txt l:=⟨_,rfl⟩
 rw [← hs] at hcv hss
 have HS:=Lib.hid hs
 have HSZ:=Lib.hid hss
 have hsz:s.size ≤ 140737488351232:=by omega
 clear hs hss
 go_enter Tryz.func227,Tryz.ntmps227
 go_wp2_with fail
 go_step3
 go_wp2_with fail
 go_step3
 go_wp2_with fail
 go_loopw [4] (fun p w'=>∃ pos:Nat,w' = w.iter s pos ∧ p = .int .i64 l.length ∧ pos ≤ l.length ∧ first l = pos + first (l.drop pos)) (fun _ w'=>s.size - w'.iterPos w.heap.size)
 case atStart=>exact ⟨0,rfl,rfl,by omega,by simp⟩
 case round =>
  obtain ⟨pos,rfl,rfl,hpl,hf⟩:=hrel
  have HF:=Lib.hid hf
  clear hf
  by_cases hp:pos < s.size
  ·have hnx:∀ ty,(Instr.next (.pointer (some ⟨w.heap.size,0,none⟩)) true ty).run Tryz.prog (w.iter s pos) = _:=fun ty=>run_next_any w s pos ty hp
   have hsg:=decode_sign s pos hp
   have hdl:s.data.toList.drop pos = l.drop pos:=by rw [HS.out,txt_list]
   rw [hdl] at hsg
   have hpre:=prefix3 s pos
   rw [hdl] at hpre
   have hle:=sgn_le (l.drop pos)
   have hll:(l.drop pos).length = l.length - pos:=List.length_drop
   obtain ⟨d,hd⟩:∃ d,d = Utf8.decode s pos:=⟨_,rfl⟩
   rw [← hd] at hnx hsg
   clear hd hdl
   by_cases hz:sgn (l.drop pos) = 0
   ·obtain ⟨rfl,hno⟩:=hsg.1 hz
    have HP:=Lib.hid (hpre.trans (show decide _ = false by simp [hno]))
    have HR:=Lib.hid (HF.out.trans (by rw [first_none hz,Nat.add_zero]:_ = pos))
    clear hsg hpre hno hz hle hll
    go_wp2_with fail
    refine (prefix_any _ _ _).mono ?_
    rw [HP.out]
    rintro e w' ⟨rfl,rfl⟩
    go_wp2
    simp only [Exit.noGoto]
    go_ret
    exact ⟨ret_int (by rw [HR.out]),(below_new w (.stringIter s (pos + 1)))⟩
   ·obtain ⟨hd2,h65⟩:=hsg.2 hz
    have HN:=Lib.hid (first_some hz)
    have HDR:=Lib.hid (List.drop_drop (l:=l) (i:=sgn (l.drop pos)) (j:=pos))
    have hz':0 < sgn (l.drop pos):=by omega
    clear hsg hz
    by_cases hd1:d.1 = 65533
    ·have b1:((d.1:Int) != 65533) = false:=by simp; omega
     have HP:=Lib.hid (hpre.trans (show decide _ = true by simp [h65 hd1]))
     have HL:=Lib.hid hll
     have HD2:=Lib.hid hd2
     clear hpre h65 hll hd2
     go_wp2_with fail
     refine (prefix_any _ _ _).mono ?_
     rw [HP.out]
     rintro e w' ⟨rfl,rfl⟩
     go_wp2
     rw [HD2.out]
     have:=HL.out
     refine ⟨⟨_,rfl,rfl,by omega,?_⟩,by simp; omega⟩
     rw [HF.out,HN.out,HDR.out]; omega
    ·have b1:((d.1:Int) != 65533) = true:=by simp; omega
     have HL:=Lib.hid hll
     have HD2:=Lib.hid hd2
     clear hpre h65 hll hd2
     go_wp2_with fail
     rw [HD2.out]
     have:=HL.out
     refine ⟨⟨_,rfl,rfl,by omega,?_⟩,by simp; omega⟩
     rw [HF.out,HN.out,HDR.out]; omega
  ·have hnx:∀ ty,(Instr.next (.pointer (some ⟨w.heap.size,0,none⟩)) true ty).run Tryz.prog (w.iter s pos) = _:=fun ty=>run_next_end w s pos ty hp
   go_wp2
   have h:=HF.out
   have h2:=HSZ.out
   rw [List.drop_of_length_le (by omega),first_nil] at h
   simp only [Exit.noGoto]
   go_ret
   exact ⟨ret_int (by omega),(below_new w (.stringIter s pos))⟩
end Go.Proofs.YtckcojkpghiclaaGreatDoor.T4
namespace Go.Proofs.YtckcojkpghiclaaGreatDoor
set_option maxRecDepth 100000
open Go.RowKit
theorem Sl.part {w:World} {A:Option Addr} {n c:Nat} {xs:List Value} (h:Sl w A n c 1 xs) {i j:Nat} (hij:i ≤ j) (hj:j ≤ n):Sl w (if i = c then A else A.map (·.add i)) (j - i) (c - i) 1 ((xs.drop i).take (j - i)):=by
 have hl:=h.len
 have hle:=h.le
 refine ⟨by rw [List.length_take,List.length_drop]; omega,by omega,by have:=h.cap; omega,?_,?_,?_⟩
 ·intro hA
  have:A = none:=by
   cases A with
   | none=>rfl
   | some ad=>split at hA <;> simp at hA
  have:=h.nil this
  omega
 ·intro ad ha hn
  rw [if_neg (by omega)] at ha
  obtain ⟨ad0,rfl,rfl⟩:=Option.map_eq_some_iff.1 ha
  rw [add_same_block]
  exact h.old ad0 rfl (by omega)
 ·intro ad ha k u hu
  rw [List.getElem?_take] at hu
  split at hu
  ·rw [if_neg (by omega)] at ha
   obtain ⟨ad0,rfl,rfl⟩:=Option.map_eq_some_iff.1 ha
   rw [add_twice]
   exact h.cell ad0 rfl _ _ (by rw [← List.getElem?_drop]; exact hu)
  ·cases hu
theorem bs_part (l:List UInt8) (i n:Nat):((bs l).drop i).take n = bs ((l.drop i).take n):=by simp [bs]
end Go.Proofs.YtckcojkpghiclaaGreatDoor
namespace Go.Proofs.YtckcojkpghiclaaGreatDoor.T4
set_option maxRecDepth 100000
open Go.RowKit
def fineB (l:List UInt8) (a u:Int):Bool:=decide (0 ≤ a ∧ a ≤ u ∧ u ≤ l.length) && first ((l.drop a.toNat).take (u.toNat - a.toNat)) == u.toNat - a.toNat
theorem fine_eq (l:List UInt8) (i j:Nat) (hij:i ≤ j) (hj:j ≤ l.length):fineB l i j = ((first ((l.drop i).take (j - i)):Int) == (j:Int) - (i:Int)):=by
 unfold fineB
 rw [decide_eq_true (by omega),Bool.true_and,Bool.eq_iff_iff]
 simp only [beq_iff_eq,Int.toNat_natCast]
 omega
set_option maxRecDepth 1000000 in
theorem fine_any (A:Option Addr) (c:Nat) (l:List UInt8) (hl:l.length ≤ 140737488351232) (a u:Int) (w:World) (hr:SlB w A c l) :
  Calls Tryz.prog 215 #[.slice A l.length c,.int .i64 a,.int .i64 u] w fun e w'=>e = .returned (.bool (fineB l a u)) ∧ Below w.heap.size w w':=by
 by_cases h0:0 ≤ a
 ·by_cases h1:a ≤ u
  ·by_cases h2:u ≤ l.length
   ·obtain ⟨i,rfl⟩:=Int.eq_ofNat_of_zero_le h0
    obtain ⟨j,rfl⟩:=Int.eq_ofNat_of_zero_le (by omega:0 ≤ u)
    have hij:i ≤ j:=by omega
    have hj:j ≤ l.length:=by omega
    have hjc:j ≤ c:=by have:=hr.le; omega
    have hlen:((l.drop i).take (j - i)).length = j - i:=by rw [List.length_take,List.length_drop]; omega
    have d0:decide ((i:Int) < 0) = false:=by simp
    have d1:decide (j < i) = false:=by simp; omega
    have d2:decide (l.length < j) = false:=by simp; omega
    have hp:=Sl.part hr hij hj
    rw [bs_part] at hp
    have HF:=Lib.hid (fine_eq l i j hij hj)
    generalize (l.drop i).take (j - i) = m at *
    have HL:=Lib.hid hlen
    have hm:m.length ≤ 140737488351232:=by omega
    clear hlen h0 h1 h2
    by_cases hci:i = c
    ·rw [if_pos hci] at hp
     have hp:SlB w A (c - i) m:=by unfold SlB; rw [HL.out]; exact hp
     have H:=first_any A (c - i) m hm w hp
     rw [HL.out] at H
     have:=hr.le
     obtain rfl:j = i:=by omega
     rw [← hci,Nat.sub_self] at H
     have HH:=Lib.hid H
     have HC:=Lib.hid hci
     clear hci H
     go_enter Tryz.func215,Tryz.ntmps215
     go_wp2_with fail
     ·refine (HH.out).mono ?_
      rintro e w1 ⟨rfl,hb⟩
      go_wp2
      go_ret
      exact ⟨ret_bool (by rw [HF.out]; simp),hb⟩
     ·exfalso
      rename_i h
      exact h HC.out.symm
    ·rw [if_neg hci] at hp
     have hp:SlB w (A.map (·.add i)) (c - i) m:=by unfold SlB; rw [HL.out]; exact hp
     have H:=Lib.hid (first_any (A.map (·.add i)) (c - i) m hm w hp)
     rw [HL.out] at H
     have HC:=Lib.hid hci
     clear hci
     go_enter Tryz.func215,Tryz.ntmps215
     go_wp2_with fail
     ·exfalso
      rename_i h
      exact HC.out h.symm
     ·refine (H.out).mono ?_
      rintro e w1 ⟨rfl,hb⟩
      go_wp2
      go_ret
      exact ⟨ret_bool HF.out.symm,hb⟩
   ·have HF:Hid (fineB l a u = false):=Lib.hid (by simp [fineB,h2])
    have d0:decide (a < 0) = false:=by simp; omega
    have d1:decide (u < a) = false:=by simp; omega
    have d2:decide ((l.length:Int) < u) = true:=by simp; omega
    clear h0 h1 h2
    go_enter Tryz.func215,Tryz.ntmps215
    go_wp2
    go_ret
    exact ⟨ret_bool HF.out.symm,Below.refl _ _⟩
  ·have HF:Hid (fineB l a u = false):=Lib.hid (by simp [fineB,h1])
   have d0:decide (a < 0) = false:=by simp; omega
   have d1:decide (u < a) = true:=by simp; omega
   clear h0 h1
   go_enter Tryz.func215,Tryz.ntmps215
   go_wp2
   go_ret
   exact ⟨ret_bool HF.out.symm,Below.refl _ _⟩
 ·have HF:Hid (fineB l a u = false):=Lib.hid (by simp [fineB,h0])
  have d0:decide (a < 0) = true:=by simp; omega
  clear h0
  go_enter Tryz.func215,Tryz.ntmps215
  go_wp2
  go_ret
  exact ⟨ret_bool HF.out.symm,Below.refl _ _⟩
end Go.Proofs.YtckcojkpghiclaaGreatDoor.T4
namespace Go.Proofs.YtckcojkpghiclaaGreatDoor
set_option maxRecDepth 100000
open Go.RowKit
def S64 (r:Int):Int:=if r < 9223372036854775808 then r else r - 18446744073709551616
def S32 (r:Int):Int:=if r < 2147483648 then r else r - 4294967296
def unzigI (r:Int):Int:=if r % 2 = 0 then r / 2 else -(r / 2) - 1
theorem wrap_s64 {r:Int} (h0:0 ≤ r) (h1:r < 18446744073709551616):IntKind.i64.wrap r = S64 r:=by
 unfold S64 IntKind.wrap
 simp [IntKind.signed,IntKind.bits]
 split <;> omega
theorem counts_any (k:Int) (w:World):Calls Tryz.prog 114 #[.int .i64 k] w fun e w'=>e = .returned (.bool (decide (0 ≤ k) && decide (k < 7))) ∧ w = w':=by
 go_enter Tryz.func114,Tryz.ntmps114
 go_wp2
 all_goals
  go_ret
  refine ⟨?_,rfl⟩
  first | (simp_all; done) | (simp_all; omega) | (simp; omega)
theorem fitsAlways_any (n:Int) (w:World):Calls Tryz.prog 155 #[.int .i64 n] w fun e w'=>e = .returned (.bool true) ∧ w = w':=by
 go_enter Tryz.func155,Tryz.ntmps155
 go_wp2
 go_ret
 exact ⟨rfl,rfl⟩
theorem fitsLow_any (n:Int) (w:World):Calls Tryz.prog 160 #[.int .i64 n] w fun e w'=>e = .returned (.bool (decide (0 ≤ n) && decide (n ≤ 4294967295))) ∧ w = w':=by
 go_enter Tryz.func160,Tryz.ntmps160
 go_wp2
 all_goals
  go_ret
  refine ⟨?_,rfl⟩
  first | (simp_all; done) | (simp_all; omega) | (simp; omega)
theorem fitsFlag_any (n:Int) (w:World):Calls Tryz.prog 162 #[.int .i64 n] w fun e w'=>e = .returned (.bool (n == 0 || n == 1)) ∧ w = w':=by
 go_enter Tryz.func162,Tryz.ntmps162
 go_wp2
 all_goals
  go_ret
  refine ⟨?_,rfl⟩
  first | (simp_all; done) | (rename_i h; have e0:(n == 0) = false:=(by simp [h]); rw [e0]; rfl)
theorem fitsSignedLow_any (n:Int) (w:World):Calls Tryz.prog 164 #[.int .i64 n] w fun e w'=>e = .returned (.bool (decide (-2147483648 ≤ n) && decide (n ≤ 2147483647))) ∧ w = w':=by
 go_enter Tryz.func164,Tryz.ntmps164
 go_wp2
 all_goals
  go_ret
  refine ⟨?_,rfl⟩
  first | (simp_all; done) | (simp_all; omega) | (simp; omega)
theorem signed_any (r:Int) (h0:0 ≤ r) (h1:r < 18446744073709551616) (w:World):Calls Tryz.prog 156 #[.int .u64 r] w fun e w'=>e = .returned (.int .i64 (S64 r)) ∧ w = w':=by
 have hw:=wrap_s64 h0 h1
 go_enter Tryz.func156,Tryz.ntmps156
 go_wp2
 go_ret
 exact ⟨rfl,rfl⟩
theorem low_any (r:Int) (h0:0 ≤ r) (h1:r < 18446744073709551616) (w:World):Calls Tryz.prog 161 #[.int .u64 r] w fun e w'=>e = .returned (.int .i64 (r % 4294967296)) ∧ w = w':=by
 go_enter Tryz.func161,Tryz.ntmps161
 go_wp2
 go_ret
 exact ⟨rfl,rfl⟩
theorem signedLow_any (r:Int) (h0:0 ≤ r) (h1:r < 18446744073709551616) (w:World):Calls Tryz.prog 165 #[.int .u64 r] w fun e w'=>e = .returned (.int .i64 (S32 (r % 4294967296))) ∧ w = w':=by
 go_enter Tryz.func165,Tryz.ntmps165
 go_wp2
 go_ret
 refine ⟨ret_int ?_,rfl⟩
 unfold S32 wrap64 wrap32
 split <;> omega
theorem flag_any (r:Int) (w:World):Calls Tryz.prog 163 #[.int .u64 r] w fun e w'=>e = .returned (.int .i64 (if r = 0 then 0 else 1)) ∧ w = w':=by
 go_enter Tryz.func163,Tryz.ntmps163
 go_wp2
 all_goals
  go_ret
  refine ⟨?_,rfl⟩
  first | (simp_all; done) | (simp_all; omega) | (simp; omega)
theorem unzigzag_any (r:Int) (h0:0 ≤ r) (h1:r < 18446744073709551616) (w:World):Calls Tryz.prog 158 #[.int .u64 r] w fun e w'=>e = .returned (.int .i64 (unzigI r)) ∧ w = w':=by
 go_enter Tryz.func158,Tryz.ntmps158
 go_wp2
 all_goals
  go_ret
  refine ⟨ret_int ?_,rfl⟩
  unfold unzigI
  simp_all
def fv (k:Nat):Value:=.func (.func k) #[] #[]
def ruleV (t f o b:Nat):List Value:=[.int .i64 t,fv f,fv o,fv b]
def rulesL:List Value :=
 ruleV 0 155 156 157 ++ (
 ruleV 0 155 158 159 ++ (
 ruleV 0 160 161 157 ++ (
 ruleV 0 162 163 157 ++ (
 ruleV 5 160 161 157 ++ (
 ruleV 1 155 156 157 ++ (
 ruleV 0 164 165 157))))))
def rulesV:Value:=.agg rulesL.toArray
theorem rules_any (w:World):Calls Tryz.prog 115 #[] w fun e w'=>e = .returned rulesV ∧ Below w.heap.size w w':=by
 have hi:(Tryz.prog.info? 166).map (·.size) = some rulesL.toArray.size:=by kernel_rfl
 have h1:rulesL.toArray.all (·.oneCell') = true:=by kernel_rfl
 go_enter Tryz.func115,Tryz.ntmps115
 go_wp2_with (refine wpList_store_rowTo rfl 166 _ _ rfl rfl w.heap.size rulesL.toArray rfl rfl 166 _ (heap_alloc_last w _) hi rfl h1 ?_)
 rw [World.setRow_alloc_new]
 refine bodyPost_ret (v:=rulesV) ?_ rfl ⟨rfl,below_new w _⟩
 exact results_cell_row rfl _ _ w.heap.size 166 rulesL.toArray (0,0) _ rfl (heap_alloc_last w _) Tryz.underlying166 rfl hi
def ruleI (k:Nat):Value:=.agg ((rulesL.drop (4 * k)).take 4).toArray
theorem rule_at (k:Nat) (hk:k < 7) (w:World):(Instr.index 166 rulesV (.int .i64 k)).run Tryz.prog w = .ok (ruleI k) w:=by
 rcases k with _ | _ | _ | _ | _ | _ | _ | k
 ·kernel_rfl
 ·kernel_rfl
 ·kernel_rfl
 ·kernel_rfl
 ·kernel_rfl
 ·kernel_rfl
 ·kernel_rfl
 ·omega
def fitsB (k n:Int):Bool :=
 if k = 0 then true else if k = 1 then true else if k = 2 then decide (0 ≤ n) && decide (n ≤ 4294967295) else if k = 3 then n == 0 || n == 1
 else if k = 4 then decide (0 ≤ n) && decide (n ≤ 4294967295) else if k = 5 then true else if k = 6 then decide (-2147483648 ≤ n) && decide (n ≤ 2147483647) else false
theorem fits_by (k f:Nat) (n:Int) (b:Bool) (hk:k < 7)
  (hf:∀ w,(Instr.field 165 (ruleI k) 1).run Tryz.prog w = .ok (.func (.func f) #[] #[]) w)
  (hent:∀ args w,(callFunc f args).run Tryz.prog w = .ok (.enter f args) w)
  (hcall:∀ w,Calls Tryz.prog f #[.int .i64 n] w fun e w'=>e = .returned (.bool b) ∧ w = w')
  (w:World):Calls Tryz.prog 207 #[.int .i64 k,.int .i64 n] w fun e w'=>e = .returned (.bool b) ∧ Below w.heap.size w w':=by
 have hx:=rule_at k hk
 have hc:∀ w,Calls Tryz.prog 114 #[.int .i64 k] w fun e w'=>e = .returned (.bool true) ∧ w = w':=fun w=>by
  have h:=counts_any k w
  rw [show (decide (0 ≤ (k:Int)) && decide ((k:Int) < 7)) = true by simp; omega] at h
  exact h
 go_enter Tryz.func207,Tryz.ntmps207
 go_wp2_with fail
 refine (hc _).mono ?_
 rintro e w1 ⟨rfl,rfl⟩
 go_wp2_with fail
 refine (rules_any _).mono ?_
 rintro e w1 ⟨rfl,hb⟩
 go_wp2_with fail
 refine (hcall _).mono ?_
 rintro e w2 ⟨rfl,rfl⟩
 go_wp2
 go_ret
 exact ⟨rfl,hb⟩
theorem of_by (k f:Nat) (r:Int) (v:Int) (hk:k < 7)
  (hf:∀ w,(Instr.field 165 (ruleI k) 2).run Tryz.prog w = .ok (.func (.func f) #[] #[]) w)
  (hent:∀ args w,(callFunc f args).run Tryz.prog w = .ok (.enter f args) w)
  (hcall:∀ w,Calls Tryz.prog f #[.int .u64 r] w fun e w'=>e = .returned (.int .i64 v) ∧ w = w')
  (w:World):Calls Tryz.prog 82 #[.int .i64 k,.int .u64 r] w fun e w'=>e = .returned (.tuple #[.int .i64 v,.bool true]) ∧ Below w.heap.size w w':=by
 have hx:=rule_at k hk
 have hc:∀ w,Calls Tryz.prog 114 #[.int .i64 k] w fun e w'=>e = .returned (.bool true) ∧ w = w':=fun w=>by
  have h:=counts_any k w
  rw [show (decide (0 ≤ (k:Int)) && decide ((k:Int) < 7)) = true by simp; omega] at h
  exact h
 go_enter Tryz.func82,Tryz.ntmps82
 go_wp2_with fail
 refine (hc _).mono ?_
 rintro e w1 ⟨rfl,rfl⟩
 go_wp2_with fail
 refine (rules_any _).mono ?_
 rintro e w1 ⟨rfl,hb⟩
 go_wp2_with fail
 refine (hcall _).mono ?_
 rintro e w2 ⟨rfl,rfl⟩
 go_wp2
 go_ret2
 exact ⟨rfl,hb⟩
theorem wire_by (k:Nat) (v:Int) (hk:k < 7)
  (hf:∀ w,(Instr.field 165 (ruleI k) 0).run Tryz.prog w = .ok (.int .i64 v) w)
  (w:World):Calls Tryz.prog 80 #[.int .i64 k] w fun e w'=>e = .returned (.int .i64 v) ∧ Below w.heap.size w w':=by
 have hx:=rule_at k hk
 have hc:∀ w,Calls Tryz.prog 114 #[.int .i64 k] w fun e w'=>e = .returned (.bool true) ∧ w = w':=fun w=>by
  have h:=counts_any k w
  rw [show (decide (0 ≤ (k:Int)) && decide ((k:Int) < 7)) = true by simp; omega] at h
  exact h
 go_enter Tryz.func80,Tryz.ntmps80
 go_wp2_with fail
 refine (hc _).mono ?_
 rintro e w1 ⟨rfl,rfl⟩
 go_wp2_with fail
 refine (rules_any _).mono ?_
 rintro e w1 ⟨rfl,hb⟩
 go_wp2
 go_ret
 exact ⟨rfl,hb⟩
theorem counts_not {k:Int} (h:¬ (0 ≤ k ∧ k < 7)) (w:World):Calls Tryz.prog 114 #[.int .i64 k] w fun e w'=>e = .returned (.bool false) ∧ w = w':=by
 have h2:=counts_any k w
 rw [show (decide (0 ≤ k) && decide (k < 7)) = false by simp; omega] at h2
 exact h2
theorem wire_not (k:Int) (h:¬ (0 ≤ k ∧ k < 7)) (w:World) :
  Calls Tryz.prog 80 #[.int .i64 k] w fun e w'=>e = .returned (.int .i64 (if 0 ≤ k ∧ k < 10 then 2 else -1)) ∧ Below w.heap.size w w':=by
 have hc:=counts_not h
 by_cases h1:k < 0
 ·rw [if_neg (by omega)]
  clear h
  go_enter Tryz.func80,Tryz.ntmps80
  go_wp2_with fail
  refine (hc _).mono ?_
  rintro e w1 ⟨rfl,rfl⟩
  go_wp2
  go_ret
  exact ⟨rfl,Below.refl _ _⟩
 by_cases h2:k < 10
 ·rw [if_pos (by omega)]
  clear h
  go_enter Tryz.func80,Tryz.ntmps80
  go_wp2_with fail
  refine (hc _).mono ?_
  rintro e w1 ⟨rfl,rfl⟩
  go_wp2
  go_ret
  exact ⟨rfl,Below.refl _ _⟩
 ·rw [if_neg (by omega)]
  clear h
  go_enter Tryz.func80,Tryz.ntmps80
  go_wp2_with fail
  refine (hc _).mono ?_
  rintro e w1 ⟨rfl,rfl⟩
  go_wp2
  go_ret
  exact ⟨rfl,Below.refl _ _⟩
theorem of_not (k:Int) (r:Int) (h:¬ (0 ≤ k ∧ k < 7)) (w:World) :
  Calls Tryz.prog 82 #[.int .i64 k,.int .u64 r] w fun e w'=>e = .returned (.tuple #[.int .i64 0,.bool false]) ∧ Below w.heap.size w w':=by
 have hc:=counts_not h
 clear h
 go_enter Tryz.func82,Tryz.ntmps82
 go_wp2_with fail
 refine (hc _).mono ?_
 rintro e w1 ⟨rfl,rfl⟩
 go_wp2
 go_ret2
 exact ⟨rfl,Below.refl _ _⟩
theorem fits_not (k:Int) (n:Int) (h:¬ (0 ≤ k ∧ k < 7)) (w:World) :
  Calls Tryz.prog 207 #[.int .i64 k,.int .i64 n] w fun e w'=>e = .returned (.bool false) ∧ Below w.heap.size w w':=by
 have hc:=counts_not h
 clear h
 go_enter Tryz.func207,Tryz.ntmps207
 go_wp2_with fail
 refine (hc _).mono ?_
 rintro e w1 ⟨rfl,rfl⟩
 go_wp2
 go_ret
 exact ⟨rfl,Below.refl _ _⟩
def cnt (k:Int):Bool:=decide (0 ≤ k ∧ k < 7)
def wireI (k:Int):Int:=if k = 0 ∨ k = 1 ∨ k = 2 ∨ k = 3 ∨ k = 6 then 0 else if k = 4 then 5 else if k = 5 then 1 else if 0 ≤ k ∧ k < 10 then 2 else -1
def ofI (k r:Int):Int :=
 if k = 0 then S64 r else if k = 1 then unzigI r else if k = 2 then r % 4294967296 else if k = 3 then (if r = 0 then 0 else 1) else if k = 4 then r % 4294967296 else if k = 5 then S64 r else if k = 6 then S32 (r % 4294967296) else 0
theorem seven {k:Int} (h:0 ≤ k ∧ k < 7):k = 0 ∨ k = 1 ∨ k = 2 ∨ k = 3 ∨ k = 4 ∨ k = 5 ∨ k = 6:=by omega
theorem wire_any (k:Int) (w:World):Calls Tryz.prog 80 #[.int .i64 k] w fun e w'=>e = .returned (.int .i64 (wireI k)) ∧ Below w.heap.size w w':=by
 by_cases h:0 ≤ k ∧ k < 7
 ·rcases seven h with rfl | rfl | rfl | rfl | rfl | rfl | rfl
  ·exact wire_by 0 0 (by omega) (fun _=>by kernel_rfl) w
  ·exact wire_by 1 0 (by omega) (fun _=>by kernel_rfl) w
  ·exact wire_by 2 0 (by omega) (fun _=>by kernel_rfl) w
  ·exact wire_by 3 0 (by omega) (fun _=>by kernel_rfl) w
  ·exact wire_by 4 5 (by omega) (fun _=>by kernel_rfl) w
  ·exact wire_by 5 1 (by omega) (fun _=>by kernel_rfl) w
  ·exact wire_by 6 0 (by omega) (fun _=>by kernel_rfl) w
 ·have e:wireI k = if 0 ≤ k ∧ k < 10 then 2 else -1:=by
   unfold wireI
   rw [if_neg (by omega),if_neg (by omega),if_neg (by omega)]
  rw [e]
  exact wire_not k h w
theorem fits_any (k n:Int) (w:World):Calls Tryz.prog 207 #[.int .i64 k,.int .i64 n] w fun e w'=>e = .returned (.bool (fitsB k n)) ∧ Below w.heap.size w w':=by
 by_cases h:0 ≤ k ∧ k < 7
 ·rcases seven h with rfl | rfl | rfl | rfl | rfl | rfl | rfl
  ·exact fits_by 0 _ n _ (by omega) (fun _=>by kernel_rfl) (fun _ _=>by kernel_rfl) (fitsAlways_any n) w
  ·exact fits_by 1 _ n _ (by omega) (fun _=>by kernel_rfl) (fun _ _=>by kernel_rfl) (fitsAlways_any n) w
  ·exact fits_by 2 _ n _ (by omega) (fun _=>by kernel_rfl) (fun _ _=>by kernel_rfl) (fitsLow_any n) w
  ·exact fits_by 3 _ n _ (by omega) (fun _=>by kernel_rfl) (fun _ _=>by kernel_rfl) (fitsFlag_any n) w
  ·exact fits_by 4 _ n _ (by omega) (fun _=>by kernel_rfl) (fun _ _=>by kernel_rfl) (fitsLow_any n) w
  ·exact fits_by 5 _ n _ (by omega) (fun _=>by kernel_rfl) (fun _ _=>by kernel_rfl) (fitsAlways_any n) w
  ·exact fits_by 6 _ n _ (by omega) (fun _=>by kernel_rfl) (fun _ _=>by kernel_rfl) (fitsSignedLow_any n) w
 ·have e:fitsB k n = false:=by
   unfold fitsB
   rw [if_neg (by omega),if_neg (by omega),if_neg (by omega),if_neg (by omega),if_neg (by omega),if_neg (by omega),if_neg (by omega)]
  rw [e]
  exact fits_not k n h w
theorem of_any (k r:Int) (h0:0 ≤ r) (h1:r < 18446744073709551616) (w:World):Calls Tryz.prog 82 #[.int .i64 k,.int .u64 r] w fun e w'=>e = .returned (.tuple #[.int .i64 (ofI k r),.bool (cnt k)]) ∧ Below w.heap.size w w':=by
 by_cases h:0 ≤ k ∧ k < 7
 ·rcases seven h with rfl | rfl | rfl | rfl | rfl | rfl | rfl
  ·exact of_by 0 _ r _ (by omega) (fun _=>by kernel_rfl) (fun _ _=>by kernel_rfl) (signed_any r h0 h1) w
  ·exact of_by 1 _ r _ (by omega) (fun _=>by kernel_rfl) (fun _ _=>by kernel_rfl) (unzigzag_any r h0 h1) w
  ·exact of_by 2 _ r _ (by omega) (fun _=>by kernel_rfl) (fun _ _=>by kernel_rfl) (low_any r h0 h1) w
  ·exact of_by 3 _ r _ (by omega) (fun _=>by kernel_rfl) (fun _ _=>by kernel_rfl) (flag_any r) w
  ·exact of_by 4 _ r _ (by omega) (fun _=>by kernel_rfl) (fun _ _=>by kernel_rfl) (low_any r h0 h1) w
  ·exact of_by 5 _ r _ (by omega) (fun _=>by kernel_rfl) (fun _ _=>by kernel_rfl) (signed_any r h0 h1) w
  ·exact of_by 6 _ r _ (by omega) (fun _=>by kernel_rfl) (fun _ _=>by kernel_rfl) (signedLow_any r h0 h1) w
 ·have e:ofI k r = 0:=by
   unfold ofI
   rw [if_neg (by omega),if_neg (by omega),if_neg (by omega),if_neg (by omega),if_neg (by omega),if_neg (by omega),if_neg (by omega)]
  have e2:cnt k = false:=by simp [cnt]; omega
  rw [e,e2]
  exact of_not k r h w
end Go.Proofs.YtckcojkpghiclaaGreatDoor
