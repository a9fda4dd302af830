/-
  Slices of records that read as lists; the contract of the function that holds two of them against each other.
-/
import Derived.Test.YtipaangiehdgkaaGreatDoorRecRput
import Derived.BigQuiet
import Derived.RangeFuncNested
import Derived.RangeFuncBound
import Derived.RangeFuncCalls
import Derived.RangeFuncLeaves
import Derived.Shelf.Abstract
import Derived.Shelf.RegionOpen
import Derived.OwnWalkIn
import Derived.TacticsInMore
import Derived.LoopNIn
import Derived.LoopIn
import Derived.Test.YtipaangiehdgkaaGreatDoorVarMay
import Derived.Test.YtipaangiehdgkaaGreatDoorTokMath
import Derived.Deep.RegionHeldLaw
import Derived.Deep.RegionLaw
import Derived.Deep.RegionHeld3
import Derived.Lib.AppendZeros
namespace Go.Proofs.YtipaangiehdgkaaGreatDoor
set_option maxRecDepth 100000

open Go.RowKit

def rs (l : List Rc) : List Value := l.flatMap RC
theorem rs_cons (r : Rc) (l : List Rc) : rs (r :: l) = RC r ++ rs l := by simp [rs]
theorem rs_get : ∀ (l : List Rc) (k j : Nat) (r : Rc), l[k]? = some r → j < 5 → (rs l)[k * 5 + j]? = (RC r)[j]?
  | [], k, j, r, h, _ => by simp at h
  | x :: l, 0, j, r, h, hj => by
    obtain rfl : x = r := by simpa using h
    rw [rs_cons, Nat.zero_mul, Nat.zero_add, List.getElem?_append_left (by simp [RC]; omega)]
  | x :: l, k + 1, j, r, h, hj => by
    rw [rs_cons, List.getElem?_append_right (by simp [RC]; omega)]
    rw [show (k + 1) * 5 + j - (RC x).length = k * 5 + j by simp [RC]; omega]
    exact rs_get l k j r (by simpa using h) hj
/-- A slice of records that reads as the list l. -/
def SlR (w : World) (A : Option Addr) (c : Nat) (l : List Rc) : Prop := Sl w A l.length c 5 (rs l)
theorem SlR.on {w w' : World} {A : Option Addr} {c : Nat} {l : List Rc} (h : SlR w A c l) (hb : Below w.heap.size w w') : SlR w' A c l := Sl.on h hb
theorem SlR.nil (w : World) : SlR w none 0 [] := Sl.nothing w 5
theorem SlR.small {w : World} {A : Option Addr} {c : Nat} {l : List Rc} (h : SlR w A c l) : l.length ≤ 9223372036854775807 ∧ c ≤ 9223372036854775807 := by
  have h1 := Sl.le h
  have h2 := Sl.cap h
  unfold maxLen at h2
  omega
theorem SlR.of_own {w : World} {base : Nat} {e : TypeId} {v : Value} {l : List Rc} (h : w.ownsRow base e 5 v l.length (rs l)) : ∃ A c, v = .slice A l.length c ∧ SlR w A c l := Sl.of_own h
/-- The record at k: its address, and its cells. -/
theorem SlR.at_ {w : World} {A : Option Addr} {c : Nat} {l : List Rc} (h : SlR w A c l) {k : Nat} (hk : k < l.length) : ∃ ad r, A = some ad ∧ ad.block < w.heap.size ∧ l[k]? = some r ∧
    w.cell? (ad.add (k * 5)) = some (.int .i64 r.no) ∧ w.cell? ⟨(ad.add (k * 5)).block, (ad.add (k * 5)).off + 1, none⟩ = some (.int .i64 r.wire) ∧ w.cell? ⟨(ad.add (k * 5)).block, (ad.add (k * 5)).off + 2, none⟩ = some (.int .u64 r.num) ∧
    w.cell? ⟨(ad.add (k * 5)).block, (ad.add (k * 5)).off + 3, none⟩ = some (.int .i64 r.frm) ∧ w.cell? ⟨(ad.add (k * 5)).block, (ad.add (k * 5)).off + 4, none⟩ = some (.int .i64 r.upto) := by
  obtain ⟨ad, rfl, hb, hcell⟩ := Sl.there h (by omega)
  have hg : l[k]? = some l[k] := List.getElem?_eq_getElem hk
  have hadd : ∀ j : Nat, 0 < j → (⟨(ad.add (k * 5)).block, (ad.add (k * 5)).off + j, none⟩ : Addr) = ad.add (k * 5 + j) := fun j hj => by
    rw [← add_twice]
    cases j with
    | zero => omega
    | succ j => simp [Addr.add]
  refine ⟨ad, l[k], rfl, hb, hg, ?_, ?_, ?_, ?_, ?_⟩
  · exact hcell (k * 5) _ (by have := rs_get l k 0 _ hg (by omega); rw [Nat.add_zero] at this; rw [this]; rfl)
  · rw [hadd 1 (by omega)]; exact hcell _ _ (by rw [rs_get l k 1 _ hg (by omega)]; rfl)
  · rw [hadd 2 (by omega)]; exact hcell _ _ (by rw [rs_get l k 2 _ hg (by omega)]; rfl)
  · rw [hadd 3 (by omega)]; exact hcell _ _ (by rw [rs_get l k 3 _ hg (by omega)]; rfl)
  · rw [hadd 4 (by omega)]; exact hcell _ _ (by rw [rs_get l k 4 _ hg (by omega)]; rfl)

/-- A record is loaded. -/
theorem load_rec (w : World) (a : Addr) (r : Rc) (h : ∀ j v, (RC r)[j]? = some v → w.cell? (a.add j) = some v) : (Instr.loadAt 62 (.pointer (some a))).run Tryz.prog w = .ok (RV r) w := by
  have hl : (loadCells a 5).run Tryz.prog w = .ok (RC r).toArray w := run_loadCells_list (P := Tryz.prog) w a (RC r) h
  have hi := infoRec
  cases hq : Tryz.prog.info? 62 with
  | none => simp [hq] at hi
  | some i =>
    have hs : i.size = 5 := by simpa [hq] using hi
    have hagg : (isAgg 62).run Tryz.prog w = .ok true w := by
      unfold isAgg
      rw [Sem.run_bind, run_underlying Tryz.underlying62 w]
      simp
    simp only [Instr.loadAt, Instr.sureAddr, Sem.run_bind, Sem.run_pure, Result.andThen_ok]
    simp [loadVar, Sem.run_bind, hagg, sizeOf, typeInfo, hq, hs, hl, RV, RC]
theorem SlR.load {w : World} {A : Option Addr} {c : Nat} {l : List Rc} (h : SlR w A c l) {k : Nat} (hk : k < l.length) : ∃ ad r, A = some ad ∧ ad.block < w.heap.size ∧ l[k]? = some r ∧
    ∀ w' : World, w'.heap = w.heap → (Instr.loadAt 62 (.pointer (some (ad.add (k * 5))))).run Tryz.prog w' = .ok (RV r) w' := by
  obtain ⟨ad, rfl, hb, hcell⟩ := Sl.there h (by omega)
  have hg : l[k]? = some l[k] := List.getElem?_eq_getElem hk
  refine ⟨ad, l[k], rfl, hb, hg, fun w' hw' => load_rec w' _ _ fun j v hv => ?_⟩
  have hj : j < 5 := by have := (List.getElem?_eq_some_iff.1 hv).1; simpa [RC] using this
  rw [add_twice]
  have := hcell (k * 5 + j) v (by rw [rs_get l k j _ hg hj]; exact hv)
  simp only [World.cell?, hw'] at this ⊢
  exact this

end Go.Proofs.YtipaangiehdgkaaGreatDoor
/-
  All records from one place to another one, by the document's own function: its contract.
-/
namespace Go.Proofs.YtipaangiehdgkaaGreatDoor
set_option maxRecDepth 100000

open Go.RowKit

end Go.Proofs.YtipaangiehdgkaaGreatDoor
/-
  The records from one place to another one, handed on one by one: the function that makes the iterator, and what it hands on to whatever loop ranges over it.
-/
namespace Go.Proofs.YtipaangiehdgkaaGreatDoor
set_option maxRecDepth 100000

open Go.RowKit Go.Shelf

attribute [local go_sem] Oper.semAt_some

/-- What lay below n lies as it lay, and so do the blocks from m to k. -/
def Kept (n m k : Nat) (W W' : World) : Prop := Below n W W' ∧ ∀ j, m ≤ j → j < k → W'.heap[j]? = W.heap[j]?
theorem Kept.refl (n m k : Nat) (W : World) : Kept n m k W W := ⟨Below.refl _ _, fun _ _ _ => rfl⟩
theorem Kept.trans {n m k : Nat} {A B C : World} (h : Kept n m k A B) (g : Kept n m k B C) : Kept n m k A C := ⟨h.1.trans g.1, fun j hm hk => (g.2 j hm hk).trans (h.2 j hm hk)⟩
theorem Kept.cell {n m k b : Nat} {W W' : World} {v : Value} (h : Kept n m k W W') (hm : m ≤ b) (hk : b < k) (hc : W.cell? ⟨b, 0, none⟩ = some v) : W'.cell? ⟨b, 0, none⟩ = some v := by
  simp only [World.cell?, h.2 b hm hk] at hc ⊢
  exact hc
theorem Kept.put {n m k : Nat} {w : World} (hn : n ≤ w.heap.size) (hk : k ≤ w.heap.size) (W : World) (l : Nat) (o o' : Obj) (hl : w.heap.size ≤ l) (h : W.heap[l]? = some o) (h1 : o.isCells = false) (h2 : o.isWalk = false) : Kept n m k W (W.putObj l o') :=
  ⟨belowK_b hn W l o o' hl h h1 h2, fun j _ hj => World.putObj_heap_other (by omega)⟩
theorem Kept.own {β : Type} {n m k : Nat} {W0 : World} (hn : n ≤ W0.heap.size) (hk : k ≤ W0.heap.size) : OwnFrom W0.heap.size (fun (_ : β) W => Kept n m k W0 W) := fun s X Y row hs hg hr =>
  ⟨ownFrom_below (β := Unit) hn hn () X Y row hs.1 hg hr, fun j hm hj => (hg.block j (by have := hs.1.size; omega) (fun e => by have := (hr j e.symm).1; omega)).trans (hs.2 j hm hj)⟩

end Go.Proofs.YtipaangiehdgkaaGreatDoor
/-
  All records from one place to another one: the contract of the function that ranges over what is handed on.
-/
namespace Go.Proofs.YtipaangiehdgkaaGreatDoor
set_option maxRecDepth 100000

open Go.RowKit Go.Shelf

attribute [local go_sem] Oper.semAt_some

theorem Kept.set {n m k b : Nat} (W : World) (v : Value) (hn : n ≤ b) (hm : b < m) : Kept n m k W (W.setCell ⟨b, 0, none⟩ v) :=
  ⟨(Below.refl _ _).setCell (p := ⟨b, 0, none⟩) hn _, fun j hj _ => Below.heap_setCell _ _ _ j (fun e => by have : j = b := e; omega)⟩
/-- Between two rounds: what has come lies in the slice that is gathered. -/
def AllI (w W0 : World) (pre : List (Rc × Nat)) (W : World) : Prop :=
  ((∀ y ∈ pre, y.2 = 0) ∧ ((∃ v, Boxed W (w.heap.size + 1 + 1) 57 v ∧ W.ownsRow w.heap.size 62 5 v pre.length (rs (pre.map (·.1))) ∧ True) ∧ (Boxed W w.heap.size 57 (.slice none 0 0) ∧ Boxed W (w.heap.size + 1) 25 (.int .i64 0)))) ∧ Kept w.heap.size (w.heap.size + 3) (w.heap.size + 6) W0 W
theorem AllI.mk {w W0 W : World} {pre : List (Rc × Nat)} (h : ((∀ y ∈ pre, y.2 = 0) ∧ ((∃ v, Boxed W (w.heap.size + 1 + 1) 57 v ∧ W.ownsRow w.heap.size 62 5 v pre.length (rs (pre.map (·.1))) ∧ True) ∧ (Boxed W w.heap.size 57 (.slice none 0 0) ∧ Boxed W (w.heap.size + 1) 25 (.int .i64 0)))) ∧ Kept w.heap.size (w.heap.size + 3) (w.heap.size + 6) W0 W) : AllI w W0 pre W := h
theorem AllI.own {w W0 : World} (h : W0.heap.size = w.heap.size + 6) : OwnFrom W0.heap.size (AllI w W0) :=
  OwnFrom.and (OwnFrom.and (ownFrom_pure _ (fun pre : List (Rc × Nat) => ∀ y ∈ pre, y.2 = 0)) (OwnFrom.and (Own.from (holdsRow_own w.heap.size (w.heap.size + 1 + 1) 57 62 5 (fun pre : List (Rc × Nat) => pre.length) (fun pre => rs (pre.map (·.1))) (fun _ _ => True)) _) (OwnFrom.and (Own.from (boxed_own _ _ (fun _ => .slice none 0 0)) _) (Own.from (boxed_own _ _ (fun _ => .int .i64 0)) _)))) (Kept.own (by omega) (by omega))
/-- A round has left: what had come, and an error. -/
def AllIx (w W0 : World) (cd : Code) (pre : List (Rc × Nat)) (W : World) : Prop :=
  (cd = .ret ∧ ∃ pre' z, pre = pre' ++ [z] ∧ z.2 ≠ 0 ∧ ((∃ v, Boxed W w.heap.size 57 v ∧ W.ownsRow w.heap.size 62 5 v pre'.length (rs (pre'.map (·.1))) ∧ True) ∧ Boxed W (w.heap.size + 1) 25 (.int .i64 z.2))) ∧ Kept w.heap.size (w.heap.size + 3) (w.heap.size + 6) W0 W
theorem AllIx.mk {w W0 W : World} {cd : Code} {pre : List (Rc × Nat)} (h : (cd = .ret ∧ ∃ pre' z, pre = pre' ++ [z] ∧ z.2 ≠ 0 ∧ ((∃ v, Boxed W w.heap.size 57 v ∧ W.ownsRow w.heap.size 62 5 v pre'.length (rs (pre'.map (·.1))) ∧ True) ∧ Boxed W (w.heap.size + 1) 25 (.int .i64 z.2))) ∧ Kept w.heap.size (w.heap.size + 3) (w.heap.size + 6) W0 W) : AllIx w W0 cd pre W := h
theorem AllIx.own {w W0 : World} (h : W0.heap.size = w.heap.size + 6) (cd : Code) : OwnFrom W0.heap.size (AllIx w W0 cd) :=
  OwnFrom.and (fun s X Y row hs hg hr => by
    obtain ⟨rfl, pre', z, hp, hz, hh, hb⟩ := hs
    exact ⟨rfl, pre', z, hp, hz, holdsRow_own w.heap.size w.heap.size 57 62 5 (fun pre : List (Rc × Nat) => pre.length) (fun pre => rs (pre.map (·.1))) (fun _ _ => True) pre' X Y row hh hg (fun r e => (hr r e).2),
      boxed_own _ _ (fun (_ : Unit) => Value.int .i64 z.2) () X Y row hb hg (fun r e => (hr r e).2)⟩) (Kept.own (by omega) (by omega))

end Go.Proofs.YtipaangiehdgkaaGreatDoor
/-
  Numbers of kinds, their bits, and back: on integers alone.
-/
namespace Go.Proofs.YtipaangiehdgkaaGreatDoor
set_option maxRecDepth 100000

end Go.Proofs.YtipaangiehdgkaaGreatDoor
/-
  Messages as bytes, by plain functions: what a value, a field and a message are as bytes, and how long that is.
-/
namespace Go.Proofs.YtipaangiehdgkaaGreatDoor.T12
set_option maxRecDepth 100000

open Go.Proofs.YtipaangiehdgkaaGreatDoor.T9 Go.Proofs.YtipaangiehdgkaaGreatDoor.T4

/-! ### How many bytes all texts have -/

def Mg.txt (m : Mg) : Nat := sm (m.F.attach.map fun ⟨s, hs⟩ => sm (s.K.attach.map fun ⟨v, hv⟩ => v.s.length + sm (v.M.attach.map fun ⟨x, hx⟩ => Mg.txt x)) + sm (s.V.attach.map fun ⟨v, hv⟩ => v.s.length + sm (v.M.attach.map fun ⟨x, hx⟩ => Mg.txt x)))
termination_by SizeOf.sizeOf m
decreasing_by
  · exact Mg.sz hs (.inl hv) hx
  · exact Mg.sz hs (.inr hv) hx
/-! ### How long the bytes are -/

end Go.Proofs.YtipaangiehdgkaaGreatDoor.T12
/-
  What is normal has no longer texts; of a normal message each slot alone is normal, and its bytes are some.
-/
namespace Go.Proofs.YtipaangiehdgkaaGreatDoor.T12
set_option maxRecDepth 100000

open Go.Proofs.YtipaangiehdgkaaGreatDoor.T9 Go.Proofs.YtipaangiehdgkaaGreatDoor.T4

/-! ### Each slot of a normal message, alone -/

/-! ### No field that is there is without bytes -/

end Go.Proofs.YtipaangiehdgkaaGreatDoor.T12
/-
  How many bytes all texts have: the law's own texts.
-/
namespace Go.Proofs.YtipaangiehdgkaaGreatDoor.T12
set_option maxRecDepth 100000

open Go.RowKit

open Go.Proofs.YtipaangiehdgkaaGreatDoor.T9

end Go.Proofs.YtipaangiehdgkaaGreatDoor.T12
/-
  A record's bytes lie where nothing lay before: the contract of the function that puts them, told of that; bytes, and lists of bytes of the call's own.
-/
namespace Go.Proofs.YtipaangiehdgkaaGreatDoor.T12
set_option maxRecDepth 100000

open Go.RowKit

open Go.Proofs.YtipaangiehdgkaaGreatDoor.T9

theorem of_own_ge {w : World} {base : Nat} {e : TypeId} {v : Value} {l : List UInt8} (h : w.ownsRow base e 1 v l.length (bs l)) : ∃ A c, v = .slice A l.length c ∧ SlB w A c l ∧ ∀ a, A = some a → base ≤ a.block := by
  obtain ⟨A, c, rfl, hs⟩ := SlB.of_own h
  refine ⟨A, c, rfl, hs, fun a ha => ?_⟩
  subst ha
  exact (own_blk h a.block rfl).1
/-- Bytes that lie at a block b, or behind it. -/
def By (b : Nat) (w : World) (l : List UInt8) (v : Value) : Prop := ∃ A c, v = .slice A l.length c ∧ SlB w A c l ∧ ∀ a, A = some a → 0 < l.length → b ≤ a.block
theorem By.less {b b' : Nat} {w : World} {l : List UInt8} {v : Value} (h : By b w l v) (hb : b' ≤ b) : By b' w l v := by
  obtain ⟨A, c, e, h1, h2⟩ := h
  exact ⟨A, c, e, h1, fun a ha hl => Nat.le_trans hb (h2 a ha hl)⟩
theorem By.on {b : Nat} {w w' : World} {l : List UInt8} {v : Value} (h : By b w l v) (hb : Below w.heap.size w w') : By b w' l v := by
  obtain ⟨A, c, e, h1, h2⟩ := h
  exact ⟨A, c, e, h1.on hb, h2⟩
theorem By.own {b : Nat} {w : World} {e : TypeId} {v : Value} {l : List UInt8} (h : w.ownsRow b e 1 v l.length (bs l)) : By b w l v := by
  obtain ⟨A, c, e, h1, h2⟩ := of_own_ge h
  exact ⟨A, c, e, h1, fun a ha _ => h2 a ha⟩
theorem By.nil (b : Nat) (w : World) : By b w [] (.slice none 0 0) := ⟨none, 0, rfl, SlB.nil w, fun a h => by cases h⟩
theorem slB_kept {w w' : World} {A : Option Addr} {c : Nat} {l : List UInt8} (h : SlB w A c l) (hs : w.heap.size ≤ w'.heap.size) (hk : ∀ a, A = some a → 0 < l.length → a.block < w.heap.size → w'.heap[a.block]? = w.heap[a.block]?) : SlB w' A c l := by
  unfold SlB at h ⊢
  obtain ⟨h1, h2, h3, h4, h5, h6⟩ := h
  refine ⟨h1, h2, h3, h4, fun ad ha hn => Nat.lt_of_lt_of_le (h5 ad ha hn) hs, fun ad ha k u hu => ?_⟩
  have hl : 0 < l.length := by
    have := (List.getElem?_eq_some_iff.1 hu).1
    rw [h1] at this
    omega
  have e := hk ad ha hl (h5 ad ha hl)
  exact (World.cell?_of_block (by rw [add_same_block]; exact e)).trans (h6 ad ha k u hu)
/-- Lists of bytes that lie elsewhere than block r. -/
def BL (r : Option Nat) (w : World) (l : List UInt8) (cs : List Value) : Prop := ∃ A c, cs = [.slice A l.length c] ∧ SlB w A c l ∧ ∀ a, A = some a → 0 < l.length → r ≠ some a.block
theorem BL.len (r : Option Nat) (w : World) (l : List UInt8) (cs : List Value) (h : BL r w l cs) : cs.length = 1 := by
  obtain ⟨A, c, rfl, -⟩ := h
  rfl
/-- A list of bytes' slices, of the call's own. -/
structure PB (b : Nat) (w : World) (v : Value) (ls : List (List UInt8)) (zs : List Value) : Prop where
  own : w.ownsRow b 22 1 v ls.length zs
  rows : T9.Rows (BL v.ownBlock w) ls zs
section

variable {b : Nat} {w w' : World} {v : Value} {ls : List (List UInt8)} {zs : List Value}

theorem PB.nil (b : Nat) (w : World) : PB b w (.slice none 0 0) [] [] := ⟨World.ownsRow_nil _ _ _ _, rfl⟩
theorem PB.on (h : PB b w v ls zs) (hb : Below w.heap.size w w') : PB b w' v ls zs :=
  ⟨own_hi h.own (hi_below b hb), h.rows.imp fun l cs hl => by
    obtain ⟨A, c, e, h1, h2⟩ := hl
    exact ⟨A, c, e, h1.on hb, h2⟩⟩
theorem PB.lt (h : PB b w v ls zs) (k : Nat) (hk : v.ownBlock = some k) : k < w.heap.size := (own_blk h.own k hk).2
theorem PB.less (h : PB b w v ls zs) {b' : Nat} (hb : b' ≤ b) : PB b' w v ls zs := ⟨own_less h.own hb, h.rows⟩
/-- Behind an append of bytes that are newer than the row. -/
theorem PB.app (h : PB b w v ls zs) {l : List UInt8} {u : Value} {b' : Nat} (hv : ∀ k, v.ownBlock = some k → k < b') (hl : By b' w l u) {g cap : Nat}
    (hrow : w'.ownsRow b 22 1 (.slice (some ⟨g, 0, none⟩) (ls.length + 1) cap) (ls.length + 1) (zs ++ [u])) (hg : w.grownBy w' v.ownBlock) (hat : v.ownBlock = some g ∨ w.heap.size ≤ g) : PB b w' (.slice (some ⟨g, 0, none⟩) (ls.length + 1) cap) (ls ++ [l]) (zs ++ [u]) := by
  have H : ∀ l cs, BL v.ownBlock w l cs → BL (some g) w' l cs := by
    rintro l cs ⟨A, c, e, h1, h2⟩
    refine ⟨A, c, e, slB_kept h1 hg.size fun a ha hn hlt => hg.block _ hlt fun e => h2 a ha hn e.symm, fun a ha hn e => ?_⟩
    injection e with e
    rcases hat with hat | hat
    · exact h2 a ha hn (by rw [hat, e])
    · have := h1.old a ha hn
      omega
  refine ⟨by rw [List.length_append]; exact hrow, (h.rows.imp H).append (Rows.single (H _ _ ?_))⟩
  obtain ⟨A, c, rfl, h1, h2⟩ := hl
  refine ⟨A, c, rfl, h1, fun a ha hn e => ?_⟩
  have h3 := hv a.block e
  have h4 := h2 a ha hn
  omega
end

set_option maxRecDepth 1000000 in
set_option maxHeartbeats 4000000 in
theorem rcputB_any (no wire : Int) (num : Nat) (f u : Int) (A : Option Addr) (c : Nat) (run : List UInt8) (hn1 : -9223372036854775808 ≤ no) (hn2 : no ≤ 9223372036854775807) (hw1 : -9223372036854775808 ≤ wire) (hw2 : wire ≤ 9223372036854775807)
    (hnum : num < 18446744073709551616) (hl : run.length ≤ 140737488351232) (w : World) (h1 : SlB w A c run) (T : Wires w) :
    Calls Tryz.prog 154 #[ZV no wire num f u, .slice A run.length c] w fun e w' => ∃ A' c', e = .returned (.tuple #[.slice A' (recL no wire num run).length c', .bool (putB no wire)]) ∧ SlB w' A' c' (recL no wire num run) ∧ (∀ a, A' = some a → 0 < (recL no wire num run).length → w.heap.size ≤ a.block) ∧ Below w.heap.size w w' := by
  obtain ⟨i0, hi, hz0, hz1, hz2⟩ := info_parts info_u8
  unfold ZV
  have h5 := putL_le5 (no := no) (wire := wire)
  by_cases hB : putB no wire = true
  · rw [recL_yes hB, hB]
    have hk := putB_iff.1 hB
    have hv10 := vput_len10 hnum
    have hr10 := vput_len10 (n := run.length) (by omega)
    have HB := Lib.hid hB
    clear hB
    generalize hP : putL no wire = P at *
    have HP := Lib.hid hP
    clear hP
    rcases hk with ⟨_, rfl | rfl | rfl | rfl⟩
    · -- a number
      have hR : restL 0 num run = vput num := by unfold restL; simp
      rw [hR]
      generalize hV : vput num = V at *
      have HV := Lib.hid hV
      clear hV hR
      have E1 : Hid (P.length + V.length = (P ++ V).length) := Lib.hid (by rw [List.length_append])
      have E2 : Hid (bs P ++ bs V = bs (P ++ V)) := Lib.hid (by rw [bs_append])
      generalize P ++ V = X at *
      go_enter Tryz.func154, Tryz.ntmps154
      go_wp2_with fail
      refine (tput_own no 0 hn1 hn2 hw1 hw2 _ (T.on (below_new _ _))).mono ?_
      rw [HP.out, HB.out]
      rintro e w1 ⟨v1, rfl, hown1, hb1⟩
      have hg1 := hb1.block w.heap.size (by simp)
      rw [heap_alloc_new] at hg1
      obtain ⟨q0, q1, q2, _, _⟩ := heap_cells hg1
      have hb1 := below_then (below_new w _) hb1
      go_wp2_with fail
      refine (put_reads num hnum _).mono ?_
      rw [HV.out]
      rintro e w2 ⟨A2, c2, rfl, hr2, hb2⟩
      have hown2 := own_mono5 (own_below5 hown1 hb2) (show w.heap.size ≤ _ by simp)
      have hb2 := below_then hb1 hb2
      go_wp2_with (at_builtin; refine wpList_app_sl rfl _ _ 22 rfl w.heap.size 5 i0 (.int .u8 0) 1 1 Tryz.underlying22 hi hz0 hz1 hz2 rfl (by omega) v1 P.length (bs P) rfl hown2 A2 V.length c2 (bs V) rfl hr2 (bs_one V) (by unfold maxLen; omega) (by omega) hb2.size ?_; intro v3 w3 hown3 hg3; have hb3 : Below w.heap.size w w3 := hb2.grown hg3 hb2.size (own_ge hown2); rw [E1.out, E2.out] at hown3; obtain ⟨A4, c4, rfl, hr4, hge4⟩ := of_own_ge hown3)
      go_ret2
      exact ⟨A4, c4, rfl, hr4, (fun a h _ => hge4 a h), hb3⟩
    · -- eight bytes
      have hR : restL 1 num run = fixb num 8 := by unfold restL; simp
      rw [hR]
      have hVl : (fixb num 8).length = 8 := fixb_length _ _
      generalize hV : fixb num 8 = V at *
      have HV := Lib.hid hV
      clear hV hR
      have E1 : Hid (P.length + 8 = (P ++ V).length) := Lib.hid (by rw [List.length_append, hVl])
      have E2 : Hid (bs P ++ bs V = bs (P ++ V)) := Lib.hid (by rw [bs_append])
      have hRD : ∀ (w : World) A c, SlB w A c V → Sl w A 8 c 1 (bs V) := fun w A c h => by unfold SlB at h; rw [hVl] at h; exact h
      clear hVl
      generalize P ++ V = X at *
      go_enter Tryz.func154, Tryz.ntmps154
      go_wp2_with fail
      refine (tput_own no 1 hn1 hn2 hw1 hw2 _ (T.on (below_new _ _))).mono ?_
      rw [HP.out, HB.out]
      rintro e w1 ⟨v1, rfl, hown1, hb1⟩
      have hg1 := hb1.block w.heap.size (by simp)
      rw [heap_alloc_new] at hg1
      obtain ⟨q0, q1, q2, _, _⟩ := heap_cells hg1
      have hb1 := below_then (below_new w _) hb1
      go_wp2_with fail
      refine (fixed_any num 8 (by omega) hnum _).mono ?_
      rw [HV.out]
      rintro e w2 ⟨A2, c2, rfl, hr2, hb2⟩
      have hown2 := own_mono5 (own_below5 hown1 hb2) (show w.heap.size ≤ _ by simp)
      have hb2 := below_then hb1 hb2
      have hr2' := hRD _ _ _ hr2
      clear hr2 hRD
      go_wp2_with (at_builtin; refine wpList_app_sl rfl _ _ 22 rfl w.heap.size 5 i0 (.int .u8 0) 1 1 Tryz.underlying22 hi hz0 hz1 hz2 rfl (by omega) v1 P.length (bs P) rfl hown2 A2 8 c2 (bs V) rfl hr2' (bs_one V) (by unfold maxLen; omega) (by omega) hb2.size ?_; intro v3 w3 hown3 hg3; have hb3 : Below w.heap.size w w3 := hb2.grown hg3 hb2.size (own_ge hown2); rw [E1.out, E2.out] at hown3; obtain ⟨A4, c4, rfl, hr4, hge4⟩ := of_own_ge hown3)
      go_ret2
      exact ⟨A4, c4, rfl, hr4, (fun a h _ => hge4 a h), hb3⟩
    · -- a run
      have hR : restL 2 num run = vput run.length ++ run := by unfold restL; simp
      rw [hR]
      have ew : IntKind.u64.wrap (run.length : Int) = run.length := by simp [IntKind.wrap, IntKind.signed, IntKind.bits]; omega
      generalize hV : vput run.length = V at *
      have HV := Lib.hid hV
      clear hV hR
      have E1 : Hid (P.length + V.length + run.length = (P ++ (V ++ run)).length) := Lib.hid (by simp only [List.length_append]; omega)
      have E2 : Hid (bs P ++ bs V ++ bs run = bs (P ++ (V ++ run))) := Lib.hid (by simp only [bs_append, List.append_assoc])
      generalize P ++ (V ++ run) = X at *
      go_enter Tryz.func154, Tryz.ntmps154
      go_wp2_with fail
      refine (tput_own no 2 hn1 hn2 hw1 hw2 _ (T.on (below_new _ _))).mono ?_
      rw [HP.out, HB.out]
      rintro e w1 ⟨v1, rfl, hown1, hb1⟩
      have hg1 := hb1.block w.heap.size (by simp)
      rw [heap_alloc_new] at hg1
      obtain ⟨q0, q1, q2, _, _⟩ := heap_cells hg1
      have hb1 := below_then (below_new w _) hb1
      go_wp2_with fail
      refine (put_reads run.length (by omega) _).mono ?_
      rw [HV.out]
      rintro e w2 ⟨A2, c2, rfl, hr2, hb2⟩
      have hown2 := own_mono5 (own_below5 hown1 hb2) (show w.heap.size ≤ _ by simp)
      have hb2 := below_then hb1 hb2
      have h1' := h1
      clear h1
      go_wp2_with (first
        | (at_builtin; refine wpList_app_sl rfl _ _ 22 rfl w.heap.size 5 i0 (.int .u8 0) 1 1 Tryz.underlying22 hi hz0 hz1 hz2 rfl (by omega) v1 P.length (bs P) rfl hown2 A2 V.length c2 (bs V) rfl hr2 (bs_one V) (by unfold maxLen; omega) (by omega) hb2.size ?_; intro v3 w3 hown3 hg3; have hb3 : Below w.heap.size w w3 := hb2.grown hg3 hb2.size (own_ge hown2); have h3 := h1'.on hb3; clear hr2)
        | (at_builtin; refine wpList_app_sl rfl _ _ 22 rfl w.heap.size 5 i0 (.int .u8 0) 1 1 Tryz.underlying22 hi hz0 hz1 hz2 rfl (by omega) v3 (P.length + V.length) (bs P ++ bs V) rfl hown3 A run.length c (bs run) rfl h3 (bs_one run) (by unfold maxLen; omega) (by omega) hb3.size ?_; intro v4 w4 hown4 hg4; have hb4 : Below w.heap.size w w4 := hb3.grown hg4 hb3.size (own_ge hown3); rw [E1.out, E2.out] at hown4; obtain ⟨A4, c4, rfl, hr4, hge4⟩ := of_own_ge hown4))
      go_ret2
      exact ⟨A4, c4, rfl, hr4, (fun a h _ => hge4 a h), hb4⟩
    · -- four bytes
      have hR : restL 5 num run = fixb num 4 := by unfold restL; simp
      rw [hR]
      have hVl : (fixb num 4).length = 4 := fixb_length _ _
      generalize hV : fixb num 4 = V at *
      have HV := Lib.hid hV
      clear hV hR
      have E1 : Hid (P.length + 4 = (P ++ V).length) := Lib.hid (by rw [List.length_append, hVl])
      have E2 : Hid (bs P ++ bs V = bs (P ++ V)) := Lib.hid (by rw [bs_append])
      have hRD : ∀ (w : World) A c, SlB w A c V → Sl w A 4 c 1 (bs V) := fun w A c h => by unfold SlB at h; rw [hVl] at h; exact h
      clear hVl
      generalize P ++ V = X at *
      go_enter Tryz.func154, Tryz.ntmps154
      go_wp2_with fail
      refine (tput_own no 5 hn1 hn2 hw1 hw2 _ (T.on (below_new _ _))).mono ?_
      rw [HP.out, HB.out]
      rintro e w1 ⟨v1, rfl, hown1, hb1⟩
      have hg1 := hb1.block w.heap.size (by simp)
      rw [heap_alloc_new] at hg1
      obtain ⟨q0, q1, q2, _, _⟩ := heap_cells hg1
      have hb1 := below_then (below_new w _) hb1
      go_wp2_with fail
      refine (fixed_any num 4 (by omega) hnum _).mono ?_
      rw [HV.out]
      rintro e w2 ⟨A2, c2, rfl, hr2, hb2⟩
      have hown2 := own_mono5 (own_below5 hown1 hb2) (show w.heap.size ≤ _ by simp)
      have hb2 := below_then hb1 hb2
      have hr2' := hRD _ _ _ hr2
      clear hr2 hRD
      go_wp2_with (at_builtin; refine wpList_app_sl rfl _ _ 22 rfl w.heap.size 5 i0 (.int .u8 0) 1 1 Tryz.underlying22 hi hz0 hz1 hz2 rfl (by omega) v1 P.length (bs P) rfl hown2 A2 4 c2 (bs V) rfl hr2' (bs_one V) (by unfold maxLen; omega) (by omega) hb2.size ?_; intro v3 w3 hown3 hg3; have hb3 : Below w.heap.size w w3 := hb2.grown hg3 hb2.size (own_ge hown2); rw [E1.out, E2.out] at hown3; obtain ⟨A4, c4, rfl, hr4, hge4⟩ := of_own_ge hown3)
      go_ret2
      exact ⟨A4, c4, rfl, hr4, (fun a h _ => hge4 a h), hb3⟩
  · have hB : putB no wire = false := by simpa using hB
    rw [recL_no hB, hB]
    have HB := Lib.hid hB
    have hP := putL_no hB
    clear hB
    go_enter Tryz.func154, Tryz.ntmps154
    go_wp2_with fail
    refine (tput_own no wire hn1 hn2 hw1 hw2 _ (T.on (below_new _ _))).mono ?_
    rw [HB.out, hP]
    rintro e w1 ⟨v1, rfl, hown1, hb1⟩
    go_wp2
    go_ret2
    exact ⟨none, 0, rfl, SlB.nil _, (fun a h => by cases h), below_then (below_new _ _) hb1⟩
end Go.Proofs.YtipaangiehdgkaaGreatDoor.T12
/-
  Parts put one behind the other: slices.Grow of nothing, slices.Concat, and encode's put, run and together.
-/
namespace Go.Proofs.YtipaangiehdgkaaGreatDoor.T12
set_option maxRecDepth 100000

open Go.RowKit

open Go.Proofs.YtipaangiehdgkaaGreatDoor.T9

theorem BL.on {r : Option Nat} {w w' : World} (hb : Below w.heap.size w w') (l : List UInt8) (cs : List Value) (h : BL r w l cs) : BL r w' l cs := by
  obtain ⟨A, c, e, h1, h2⟩ := h
  exact ⟨A, c, e, h1.on hb, h2⟩
theorem BL.any {r : Option Nat} {w : World} (l : List UInt8) (cs : List Value) (h : BL r w l cs) : BL none w l cs := by
  obtain ⟨A, c, e, h1, h2⟩ := h
  exact ⟨A, c, e, h1, fun a ha hn e => by cases e⟩
set_option maxRecDepth 1000000 in
set_option maxHeartbeats 4000000 in
theorem put_any (no wire : Int) (num : Nat) (f u : Int) (A : Option Addr) (c : Nat) (run : List UInt8) (hn1 : inI no) (hw1 : inI wire) (hnum : num < 18446744073709551616) (hl : run.length ≤ 140737488351232) (w : World) (h1 : SlB w A c run) (T : Wires w) :
    Calls Tryz.prog 108 #[ZV no wire num f u, .slice A run.length c] w fun e w' => ∃ v, e = .returned v ∧ By w.heap.size w' (recL no wire num run) v ∧ Below w.heap.size w w' := by
  have X1 := heap_alloc_new w (.cells #[.int .i64 no, .int .i64 wire, .int .u64 num, .int .i64 f, .int .i64 u] 62)
  have LBD := below_new w (.cells #[.int .i64 no, .int .i64 wire, .int .u64 num, .int .i64 f, .int .i64 u] 62)
  have HP := Lib.hid (fun wx (h : Below w.heap.size w wx) => rcputB_any no wire num f u A c run hn1.1 hn1.2 hw1.1 hw1.2 hnum hl wx (h1.on h) (T.on h))
  obtain ⟨q0, q1, q2, q3, q4⟩ := heap_cells X1
  clear h1
  unfold ZV at HP ⊢
  go_enter Tryz.func108, Tryz.ntmps108
  go_wp2_with fail
  refine (HP.out _ LBD).mono ?_
  rintro e w1 ⟨A', c', rfl, hr, hge, hb⟩
  have HY : Hid (By w.heap.size w1 (recL no wire num run) (.slice A' (recL no wire num run).length c')) := Lib.hid ⟨A', c', rfl, hr, fun a ha hn => Nat.le_trans LBD.size (hge a ha hn)⟩
  clear hr hge
  go_wp2
  go_ret
  exact ⟨_, rfl, HY.out, below_then LBD hb⟩
theorem isCounting_any (k : Int) (w : World) : Calls Tryz.prog 76 #[.int .i64 k] w fun e w' => e = .returned (.bool (cnt k)) ∧ Below w.heap.size w w' := by
  have HO := Lib.hid (fun wx => of_any k 0 (by omega) (by omega) wx)
  obtain ⟨b, hb⟩ : ∃ b, cnt k = b := ⟨_, rfl⟩
  rw [hb] at HO ⊢
  clear hb
  go_enter Tryz.func76, Tryz.ntmps76
  go_wp2_with fail
  refine (HO.out _).mono ?_
  rintro e w1 ⟨rfl, hb1⟩
  go_wp2
  go_ret
  exact ⟨rfl, hb1⟩
end Go.Proofs.YtipaangiehdgkaaGreatDoor.T12
