/-
 A file is read: its rows of messages and of enums;the contract.
-/
import Derived.Test.YtckcojkpghiclaaGreatDoorProEnum
import Derived.Test.YtckcojkpghiclaaGreatDoorTokVars
import Derived.Test.YtckcojkpghiclaaGreatDoorUtfFine
import Derived.Lib.AppendStr
import Derived.Test.YtckcojkpghiclaaGreatDoorProBox
import Derived.Deep.RegionHeld3
import Derived.Laws.MakeOwn
namespace Go.Proofs.YtckcojkpghiclaaGreatDoor
set_option maxRecDepth 100000
open Go.RowKit
def Rb (B:Nat) (w:World) (v:Value) (n size:Nat) (xs:List Value):Prop:=∃ A c,v = .slice A n c∧Sl w A n c size xs∧∀ ad,A = some ad→0 < n→ad.block < B
def Low (B:Nat) (w w':World):Prop:=w.heap.size≤w'.heap.size∧∀ k,k < B→w'.heap[k]? = w.heap[k]?
theorem Low.trans {B:Nat} {a b c:World} (h:Low B a b) (k:Low B b c):Low B a c:=⟨Nat.le_trans h.1 k.1,fun i hi=>(k.2 i hi).trans (h.2 i hi)⟩
theorem Low.below {B:Nat} {w w':World} (h:Below w.heap.size w w') (hB:B≤w.heap.size):Low B w w':=⟨h.size,fun k hk=>h.block k (by omega)⟩
theorem Low.of {B:Nat} {w w':World} (h:Below B w w'):Low B w w':=⟨h.size,h.block⟩
theorem Low.alloc {B:Nat} (w:World) (o:Obj) (hB:B≤w.heap.size):Low B w (w.alloc o):=Low.below (below_new w o) hB
theorem Sl.low {B:Nat} {w w':World} {A:Option Addr} {n c size:Nat} {xs:List Value} (h:Sl w A n c size xs) (hA:∀ ad,A = some ad→0 < n→ad.block < B) (hl:Low B w w'):Sl w' A n c size xs:=by
 refine ⟨h.len,h.le,h.cap,h.nil,fun ad ha hn=>Nat.lt_of_lt_of_le (h.old ad ha hn) hl.1,fun ad ha k u hu=>?_⟩
 have hn:0 < n:=by
  rcases Nat.eq_zero_or_pos n with h0 | h0
  ·have:=h.len
   rw [h0,Nat.zero_mul] at this
   rw [List.eq_nil_of_length_eq_zero this] at hu
   simp at hu
  ·exact h0
 have hk:w'.heap[(ad.add k).block]? = w.heap[(ad.add k).block]?:=by rw [add_same_block];exact hl.2 _ (hA ad ha hn)
 exact (World.cell?_of_block hk).trans (h.cell ad ha k u hu)
theorem Rb.low {B:Nat} {w w':World} {v:Value} {n size:Nat} {xs:List Value} (h:Rb B w v n size xs) (hl:Low B w w'):Rb B w' v n size xs:=by
 obtain ⟨A,c,rfl,h1,h2⟩:=h
 exact ⟨A,c,rfl,h1.low h2 hl,h2⟩
theorem Rb.mono {B B':Nat} {w:World} {v:Value} {n size:Nat} {xs:List Value} (h:Rb B w v n size xs) (hB:B≤B'):Rb B' w v n size xs:=by
 obtain ⟨A,c,rfl,h1,h2⟩:=h
 exact ⟨A,c,rfl,h1,fun ad ha hn=>Nat.lt_of_lt_of_le (h2 ad ha hn) hB⟩
theorem Rb.of_own {w:World} {b:Nat} {e:TypeId} {v:Value} {n size:Nat} {xs:List Value} (h:w.ownsRow b e size v n xs):Rb w.heap.size w v n size xs:=by
 obtain ⟨A,c,rfl,hs⟩:=Sl.of_own h
 exact ⟨A,c,rfl,hs,fun ad ha hn=>hs.old ad ha hn⟩
theorem Sl.elem {w:World} {A:Option Addr} {n c size:Nat} {xs:List Value} (h:Sl w A n c size xs) {k:Nat} (hk:k < n):∃ ad,A = some ad∧ad.block < w.heap.size∧(∀ u,xs[k * size]? = some u→w.cell? (ad.add (k * size)) = some u) ∧
  ∀ j u,0 < j→xs[k * size+j]? = some u→w.cell? ⟨(ad.add (k * size)).block,(ad.add (k * size)).off+j,none⟩ = some u:=by
 obtain ⟨ad,rfl,hb,hcell⟩:=Sl.there h (by omega)
 refine ⟨ad,rfl,hb,fun u hu=>hcell _ _ hu,fun j u hj hu=>?_⟩
 have e:(⟨(ad.add (k * size)).block,(ad.add (k * size)).off+j,none⟩:Addr) = ad.add (k * size+j):=by
  rw [← add_twice]
  cases j with
  | zero=>omega
  | succ j=>simp [Addr.add]
 rw [e]
 exact hcell _ _ hu
theorem intr_at {w:World} {A:Option Addr} {c:Nat} {l:List Int} (h:Sl w A l.length c 1 (intv l)) {k:Nat} {n:Int} (hk:l[k]? = some n):∃ ad,A = some ad∧ad.block < w.heap.size∧w.cell? (ad.add k) = some (.int .i64 n):=by
 obtain ⟨ad,rfl,hb,hc⟩:=Sl.there h (by have:=(List.getElem?_eq_some_iff.1 hk).1;omega)
 exact ⟨ad,rfl,hb,hc k _ (by simp [intv,hk])⟩
theorem strr_at {w:World} {A:Option Addr} {c:Nat} {l:List (List UInt8)} (h:Sl w A l.length c 1 (strv l)) {k:Nat} {x:List UInt8} (hk:l[k]? = some x):∃ ad,A = some ad∧ad.block < w.heap.size∧w.cell? (ad.add k) = some (.string (txt x)):=by
 obtain ⟨ad,rfl,hb,hc⟩:=Sl.there h (by have:=(List.getElem?_eq_some_iff.1 hk).1;omega)
 exact ⟨ad,rfl,hb,hc k _ (by simp [strv,hk])⟩
end Go.Proofs.YtckcojkpghiclaaGreatDoor
