/-
 A field is printed: the contracts.
-/
import Derived.Test.YtckcojkpghiclaaGreatDoorProLine
import Derived.Test.YtckcojkpghiclaaGreatDoorProTake
import Derived.Deep.RegionHeld3
import Derived.Laws.MakeOwn
import Derived.Deep.Slices
import Derived.Deep.Strs
import Derived.Test.YtckcojkpghiclaaGreatDoorTokSkip
namespace Go.Proofs.YtckcojkpghiclaaGreatDoor
set_option maxRecDepth 100000
open Go.RowKit
def Rb (B:Nat) (w:World) (v:Value) (n size:Nat) (xs:List Value):Prop:=∃ A c,v = .slice A n c ∧ Sl w A n c size xs ∧ ∀ ad,A = some ad → 0 < n → ad.block < B
def Low (B:Nat) (w w':World):Prop:=w.heap.size ≤ w'.heap.size ∧ ∀ k,k < B → w'.heap[k]? = w.heap[k]?
theorem Low.trans {B:Nat} {a b c:World} (h:Low B a b) (k:Low B b c):Low B a c:=⟨Nat.le_trans h.1 k.1,fun i hi=>(k.2 i hi).trans (h.2 i hi)⟩
theorem Low.below {B:Nat} {w w':World} (h:Below w.heap.size w w') (hB:B ≤ w.heap.size):Low B w w':=⟨h.size,fun k hk=>h.block k (by omega)⟩
theorem Low.of {B:Nat} {w w':World} (h:Below B w w'):Low B w w':=⟨h.size,h.block⟩
theorem Low.alloc {B:Nat} (w:World) (o:Obj) (hB:B ≤ w.heap.size):Low B w (w.alloc o):=Low.below (below_new w o) hB
theorem Sl.low {B:Nat} {w w':World} {A:Option Addr} {n c size:Nat} {xs:List Value} (h:Sl w A n c size xs) (hA:∀ ad,A = some ad → 0 < n → ad.block < B) (hl:Low B w w'):Sl w' A n c size xs:=by
 refine ⟨h.len,h.le,h.cap,h.nil,fun ad ha hn=>Nat.lt_of_lt_of_le (h.old ad ha hn) hl.1,fun ad ha k u hu=>?_⟩
 have hn:0 < n:=by
  rcases Nat.eq_zero_or_pos n with h0 | h0
  ·have:=h.len
   rw [h0,Nat.zero_mul] at this
   rw [List.eq_nil_of_length_eq_zero this] at hu
   simp at hu
  ·exact h0
 have hk:w'.heap[(ad.add k).block]? = w.heap[(ad.add k).block]?:=by rw [add_same_block]; exact hl.2 _ (hA ad ha hn)
 exact (World.cell?_of_block hk).trans (h.cell ad ha k u hu)
theorem Rb.low {B:Nat} {w w':World} {v:Value} {n size:Nat} {xs:List Value} (h:Rb B w v n size xs) (hl:Low B w w'):Rb B w' v n size xs:=by
 obtain ⟨A,c,rfl,h1,h2⟩:=h
 exact ⟨A,c,rfl,h1.low h2 hl,h2⟩
theorem Rb.mono {B B':Nat} {w:World} {v:Value} {n size:Nat} {xs:List Value} (h:Rb B w v n size xs) (hB:B ≤ B'):Rb B' w v n size xs:=by
 obtain ⟨A,c,rfl,h1,h2⟩:=h
 exact ⟨A,c,rfl,h1,fun ad ha hn=>Nat.lt_of_lt_of_le (h2 ad ha hn) hB⟩
theorem Rb.of_own {w:World} {b:Nat} {e:TypeId} {v:Value} {n size:Nat} {xs:List Value} (h:w.ownsRow b e size v n xs):Rb w.heap.size w v n size xs:=by
 obtain ⟨A,c,rfl,hs⟩:=Sl.of_own h
 exact ⟨A,c,rfl,hs,fun ad ha hn=>hs.old ad ha hn⟩
theorem Sl.elem {w:World} {A:Option Addr} {n c size:Nat} {xs:List Value} (h:Sl w A n c size xs) {k:Nat} (hk:k < n):∃ ad,A = some ad ∧ ad.block < w.heap.size ∧ (∀ u,xs[k * size]? = some u → w.cell? (ad.add (k * size)) = some u) ∧
  ∀ j u,0 < j → xs[k * size + j]? = some u → w.cell? ⟨(ad.add (k * size)).block,(ad.add (k * size)).off + j,none⟩ = some u:=by
 obtain ⟨ad,rfl,hb,hcell⟩:=Sl.there h (by omega)
 refine ⟨ad,rfl,hb,fun u hu=>hcell _ _ hu,fun j u hj hu=>?_⟩
 have e:(⟨(ad.add (k * size)).block,(ad.add (k * size)).off + j,none⟩:Addr) = ad.add (k * size + j):=by
  rw [← add_twice]
  cases j with
  | zero=>omega
  | succ j=>simp [Addr.add]
 rw [e]
 exact hcell _ _ hu
theorem intr_at {w:World} {A:Option Addr} {c:Nat} {l:List Int} (h:Sl w A l.length c 1 (intv l)) {k:Nat} {n:Int} (hk:l[k]? = some n):∃ ad,A = some ad ∧ ad.block < w.heap.size ∧ w.cell? (ad.add k) = some (.int .i64 n):=by
 obtain ⟨ad,rfl,hb,hc⟩:=Sl.there h (by have:=(List.getElem?_eq_some_iff.1 hk).1; omega)
 exact ⟨ad,rfl,hb,hc k _ (by simp [intv,hk])⟩
theorem strr_at {w:World} {A:Option Addr} {c:Nat} {l:List (List UInt8)} (h:Sl w A l.length c 1 (strv l)) {k:Nat} {x:List UInt8} (hk:l[k]? = some x):∃ ad,A = some ad ∧ ad.block < w.heap.size ∧ w.cell? (ad.add k) = some (.string (txt x)):=by
 obtain ⟨ad,rfl,hb,hc⟩:=Sl.there h (by have:=(List.getElem?_eq_some_iff.1 hk).1; omega)
 exact ⟨ad,rfl,hb,hc k _ (by simp [strv,hk])⟩
end Go.Proofs.YtckcojkpghiclaaGreatDoor
namespace Go.Proofs.YtckcojkpghiclaaGreatDoor
set_option maxRecDepth 100000
open Go.RowKit Go.ChangeShapes Go.WideShapes Go.ChangeAt
section
variable {H:Type} {enc:TypeId × Value → H} {W:World} {n:Nat}
theorem open_rows {α:Type} [Inhabited α] {t e:TypeId} {size:Nat} {v:Value} {x:DataW H × List MemPlace} (ht:Tryz.prog.underlying t = some (.slice e)) (hc:Tryz.prog.cellsOf e = size) (hpos:0 < size)
  (C:α → List Value → Prop) (hone:∀ (n:Nat) (cs:List Value) (y:DataW H × List MemPlace),cs.length = size → DataW.trod enc Tryz.prog W 0 (fun _=>true) true n e cs = some y → ∃ a,C a cs)
  (h:DataW.trod enc Tryz.prog W 0 (fun _=>true) true n t [v] = some x) :
  ∃ (A:Option Addr) (c:Nat) (l:List (α × List Value)),v = .slice A l.length c ∧ Sl W A l.length c size (l.flatMap Prod.snd) ∧ (∀ y ∈ l,C y.1 y.2 ∧ y.2.length = size) ∧ (∀ ad,A = some ad → 0 < l.length → ad.block < W.heap.size):=by
 rcases Deep.open_slice ht h with ⟨h0,_⟩ | ⟨a,len,cap,m,k,D,Pl,h0,_,hl,hm,hmm,_,hx⟩
 ·have hv:v = .slice none 0 0:=by simpa using h0
  exact ⟨none,0,[],hv,Sl.nothing W size,by simp,by simp⟩
 ·have hv:v = .slice (some a) len cap:=by simpa using h0
  subst hv
  have hlm:len ≤ m:=by rw [hmm]; split <;> omega
  rw [hc] at hx
  have hy:∀ i,i < len → ∃ y:α × List Value,C y.1 y.2 ∧ y.2.length = size ∧ W.cells? 0 (a.add (i * size)) size = some y.2:=fun i hi=>by
   obtain ⟨cs,h1,h2⟩:=hx i (by omega)
   have hl2:=(World.cells?_some h1).2.1
   obtain ⟨b,hb⟩:=hone k cs _ hl2 h2
   exact ⟨(b,cs),hb,hl2,h1⟩
  obtain ⟨f,hf⟩:=Deep.choose_lt hy
  have hget:∀ (L:List Nat) (i:Nat),(∀ j ∈ L,j < len) → i < L.length → ∀ q,q < size → ((L.map f).flatMap Prod.snd)[i * size + q]? = (f (L.getD i 0)).2[q]?:=by
   intro L
   induction L with
   | nil=>intro i _ hi; simp at hi
   | cons j L ih =>
    intro i hL hi q hq
    have hj:=(hf j (hL j (by simp))).2.1
    cases i with
    | zero =>
     rw [List.map_cons,List.flatMap_cons,Nat.zero_mul,Nat.zero_add,List.getElem?_append_left (by omega)]
     rfl
    | succ i =>
     rw [List.map_cons,List.flatMap_cons,List.getElem?_append_right (by rw [hj,Nat.succ_mul]; omega),hj,show (i + 1) * size + q - size = i * size + q by rw [Nat.succ_mul]; omega]
     exact ih i (fun x hx=>hL x (by simp [hx])) (by simpa using hi) q hq
  have hlen:∀ (L:List Nat),(∀ j ∈ L,j < len) → ((L.map f).flatMap Prod.snd).length = L.length * size:=by
   intro L
   induction L with
   | nil=>intro _; simp
   | cons j L ih =>
    intro hL
    have hj:=(hf j (hL j (by simp))).2.1
    rw [List.map_cons,List.flatMap_cons,List.length_append,hj,ih (fun x hx=>hL x (by simp [hx])),List.length_cons,Nat.succ_mul]
    omega
  have hr:∀ j ∈ List.range len,j < len:=fun j hj=>List.mem_range.1 hj
  have hcell:∀ k u,(((List.range len).map f).flatMap Prod.snd)[k]? = some u → W.cell? (a.add k) = some u:=by
   intro k u hu
   have hk:k < len * size:=by
    have:=(List.getElem?_eq_some_iff.1 hu).1
    rw [hlen _ hr,List.length_range] at this
    exact this
   have hi:k / size < len:=(Nat.div_lt_iff_lt_mul hpos).2 hk
   have hq:k % size < size:=Nat.mod_lt _ hpos
   have hk2:k = k / size * size + k % size:=by rw [Nat.mul_comm]; exact (Nat.div_add_mod k size).symm
   rw [hk2,hget (List.range len) (k / size) hr (by simpa using hi) _ hq] at hu
   have e:(List.range len).getD (k / size) 0 = k / size:=by rw [List.getD_eq_getElem?_getD,List.getElem?_range hi]; rfl
   rw [e] at hu
   have h1:=(World.cells?_some (hf (k / size) hi).2.2).2.2 (k % size) hq
   rw [hu,add_twice,← hk2] at h1
   exact h1
  refine ⟨some a,cap,(List.range len).map f,by simp,⟨by rw [hlen _ hr]; simp,by simpa using hl,hm,by simp,fun ad ha hn=>?_,fun ad ha k u hu=>?_⟩,fun y hy=>?_,fun ad ha hn=>?_⟩
  ·obtain rfl:=Option.some.inj ha
   have h0:0 < len:=by simpa using hn
   have h1:=(World.cells?_some (hf 0 h0).2.2).2.2 0 hpos
   have h2:=(hf 0 h0).2.1
   rw [List.getElem?_eq_getElem (by omega)] at h1
   have hb:=World.block_lt_of_cell? W _ h1
   rwa [add_same_block,add_same_block] at hb
  ·obtain rfl:=Option.some.inj ha
   exact hcell k u hu
  ·obtain ⟨i,hi,rfl⟩:=List.mem_map.1 hy
   have:=hf i (hr i hi)
   exact ⟨this.1,this.2.1⟩
  ·obtain rfl:=Option.some.inj ha
   have h0:0 < len:=by simpa using hn
   have h1:=(World.cells?_some (hf 0 h0).2.2).2.2 0 hpos
   have h2:=(hf 0 h0).2.1
   rw [List.getElem?_eq_getElem (by omega)] at h1
   have hb:=World.block_lt_of_cell? W _ h1
   rwa [add_same_block,add_same_block] at hb
end
end Go.Proofs.YtckcojkpghiclaaGreatDoor
namespace Go.Proofs.YtckcojkpghiclaaGreatDoor
set_option maxRecDepth 100000
end Go.Proofs.YtckcojkpghiclaaGreatDoor
