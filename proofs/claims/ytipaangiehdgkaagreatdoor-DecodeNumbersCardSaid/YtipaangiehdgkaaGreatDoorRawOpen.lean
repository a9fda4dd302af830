/-
  Lines are appended to what is printed: the frame, and the contract.
-/
import Derived.Test.YtipaangiehdgkaaGreatDoorTabKit
import Derived.Test.YtipaangiehdgkaaGreatDoorProFile
import Derived.Test.YtipaangiehdgkaaGreatDoorConvSmall
import Derived.Lib.AppendStr
import Derived.Test.YtipaangiehdgkaaGreatDoorProSees
import Derived.Deep.RegionHeld3
import Derived.Laws.MakeOwn
import Derived.Deep.Slices
import Derived.Deep.Strs
namespace Go.Proofs.YtipaangiehdgkaaGreatDoor
set_option maxRecDepth 100000

open Go.RowKit

/-- Printing lets all be but the bytes' own block, and new ones: what lies below B, and what was there and is no row of bytes. -/
structure Pr (B : Nat) (w w' : World) : Prop where
  os : w'.os = w.os
  tape : w'.tape = w.tape
  output : w'.output = w.output
  size : w.heap.size ≤ w'.heap.size
  block : ∀ k, k < B → w'.heap[k]? = w.heap[k]?
  typed : ∀ (k : Nat) (cs : Array Value) (t : TypeId) (fr : Nat × Nat), w.heap[k]? = some (Obj.cells cs t fr) → t ≠ 5 → w'.heap[k]? = w.heap[k]?
theorem Pr.refl (B : Nat) (w : World) : Pr B w w := ⟨rfl, rfl, rfl, Nat.le_refl _, fun _ _ => rfl, fun _ _ _ _ _ _ => rfl⟩
theorem Pr.trans {B : Nat} {a b c : World} (h : Pr B a b) (k : Pr B b c) : Pr B a c :=
  ⟨k.os.trans h.os, k.tape.trans h.tape, k.output.trans h.output, Nat.le_trans h.size k.size, fun i hi => (k.block i hi).trans (h.block i hi),
    fun i cs t fr hi ht => (k.typed i cs t fr ((h.typed i cs t fr hi ht).trans hi) ht).trans (h.typed i cs t fr hi ht)⟩
theorem Pr.far {B : Nat} {a w w' : World} (h : Pr B a w) (os : w'.os = w.os) (tape : w'.tape = w.tape) (output : w'.output = w.output) (size : w.heap.size ≤ w'.heap.size)
    (hk : ∀ k, k < a.heap.size → w'.heap[k]? = w.heap[k]?) (hB : B ≤ a.heap.size) : Pr B a w' :=
  ⟨os.trans h.os, tape.trans h.tape, output.trans h.output, Nat.le_trans h.size size, fun k hkB => (hk k (by omega)).trans (h.block k hkB),
    fun k cs t fr hi ht => (hk k (Array.getElem?_eq_some_iff.1 hi).1).trans (h.typed k cs t fr hi ht)⟩
theorem Pr.alloc {B : Nat} {a w : World} (h : Pr B a w) (hB : B ≤ a.heap.size) (o : Obj) : Pr B a (w.alloc o) :=
  h.far rfl rfl rfl (by simp) (fun k hk => Below.heap_alloc w o k (Nat.lt_of_lt_of_le hk h.size)) hB
theorem Pr.drewN {B : Nat} {a w : World} (h : Pr B a w) (n : Nat) : Pr B a (w.drewN n) := ⟨h.os, h.tape, h.output, h.size, h.block, h.typed⟩
theorem Pr.drew {B : Nat} {a w : World} (h : Pr B a w) : Pr B a w.drew := ⟨h.os, h.tape, h.output, h.size, h.block, h.typed⟩
theorem Pr.setCell {B : Nat} {a w : World} (h : Pr B a w) (hB : B ≤ a.heap.size) {p : Addr} (hp : a.heap.size ≤ p.block) (u : Value) : Pr B a (w.setCell p u) :=
  h.far rfl rfl rfl (by simp [World.setCell]) (fun k hk => Below.heap_setCell w p u k (by omega)) hB
theorem Pr.below {B : Nat} {w w' : World} (h : Below w.heap.size w w') (hB : B ≤ w.heap.size) : Pr B w w' :=
  ⟨h.os, h.tape, h.output, h.size, fun k hk => h.block k (by omega), fun k _ _ _ hi _ => h.block k (Array.getElem?_eq_some_iff.1 hi).1⟩
theorem Pr.grown {B : Nat} {w w' : World} {v : Value} {n : Nat} {xs : List Value} (hr : w.ownsRow B 5 1 v n xs) (hg : w.grownBy w' v.ownBlock) (hB : B ≤ w.heap.size) : Pr B w w' := by
  refine ⟨hg.os, hg.tape, hg.output, hg.size, fun k hk => hg.block k (by omega) (fun e => by have := (hr.lt k e.symm).1; omega), fun k cs t fr hi ht => hg.block k (Array.getElem?_eq_some_iff.1 hi).1 ?_⟩
  rcases hr.2 with ⟨rfl, _⟩ | ⟨g, cap, cur, rfl, h1, h2, _⟩
  · simp [Value.ownBlock]
  · simp only [Value.ownBlock, ne_eq, Option.some.injEq]
    rintro rfl
    rw [hi] at h2
    simp only [Option.some.injEq, Obj.cells.injEq] at h2
    exact ht h2.2.1
theorem Pr.own {B b : Nat} {w w' : World} {e : TypeId} {size : Nat} {v : Value} {n : Nat} {xs : List Value} (h : Pr B w w') (hr : w.ownsRow b e size v n xs) (he : e ≠ 5) : w'.ownsRow b e size v n xs := by
  rcases hr with ⟨hl, ⟨rfl, rfl⟩ | ⟨g, cap, cur, rfl, h1, h2, h3⟩⟩
  · exact ⟨hl, .inl ⟨rfl, rfl⟩⟩
  · exact ⟨hl, .inr ⟨g, cap, cur, rfl, h1, (h.typed g _ _ _ h2 he).trans h2, h3⟩⟩
/-- What has been printed so far. -/
def Out (B : Nat) (w : World) (v : Value) (L : List UInt8) : Prop := w.ownsRow B 5 1 v L.length (bs L)
theorem Out.below {B : Nat} {w w' : World} {v : Value} {L : List UInt8} (h : Out B w v L) (hb : Below w.heap.size w w') : Out B w' v L := own_below h hb
theorem Out.alloc {B : Nat} {w : World} {v : Value} {L : List UInt8} (h : Out B w v L) (o : Obj) : Out B (w.alloc o) v L := World.ownsRow.alloc h o
theorem Out.grow {B : Nat} {w : World} {v : Value} {L X : List UInt8} {n : Nat} {xs : List Value} (h : w.ownsRow B 5 1 v n xs) (hn : n = (L ++ X).length) (hx : xs = bs L ++ bs X) : Out B w v (L ++ X) := by
  subst hn hx
  rw [← bs_append] at h
  exact h
def LineRel (B g : Nat) (L : List UInt8) (ps : List (List UInt8)) (w : World) (o i : Value) (wr : World) : Prop := ∃ k : Nat, i = .int .i64 k ∧ k ≤ ps.length ∧ Out B wr o (L ++ (ps.take k).flatten) ∧ Pr B w wr
theorem LineRel.mk {B g : Nat} {L : List UInt8} {ps : List (List UInt8)} {w wr : World} {o i : Value} (k : Nat) (h1 : i = .int .i64 k) (h2 : k ≤ ps.length) (h3 : Out B wr o (L ++ (ps.take k).flatten)) (h4 : Pr B w wr) : LineRel B g L ps w o i wr := ⟨k, h1, h2, h3, h4⟩

end Go.Proofs.YtipaangiehdgkaaGreatDoor
/-
  A field is printed: the contracts.
-/
namespace Go.Proofs.YtipaangiehdgkaaGreatDoor
set_option maxRecDepth 100000

open Go.RowKit

/-- A field whose texts and number are not too great. -/
structure FdOk (d : Fd) : Prop where
  key : d.key.length ≤ 2000000
  type : d.type.length ≤ 2000000
  name : d.name.length ≤ 2000000
  lo : -9223372036854775808 ≤ d.no
  hi : d.no ≤ 9223372036854775807
end Go.Proofs.YtipaangiehdgkaaGreatDoor
/-
  A oneof is printed: the contract.
-/
namespace Go.Proofs.YtipaangiehdgkaaGreatDoor
set_option maxRecDepth 100000

open Go.RowKit

/-- What is laid lies below B. -/
def LaidB (B : Nat) (w : World) : Prop := ∃ w0, Laid w0 ∧ w0.heap.size ≤ B ∧ Below w0.heap.size w0 w
theorem LaidB.laid {B : Nat} {w : World} (h : LaidB B w) : Laid w := by
  obtain ⟨w0, h1, h2, h3⟩ := h
  exact h1.on h3
theorem LaidB.start {w : World} (h : Laid w) : LaidB w.heap.size w := ⟨w, h, Nat.le_refl _, Below.refl _ _⟩
def FsRel (B : Nat) (a : List UInt8) (L : List UInt8) (l : List Fd) (w : World) (o i : Value) (wr : World) : Prop := ∃ k : Nat, i = .int .i64 k ∧ k ≤ l.length ∧ Out B wr o (L ++ fieldsB a (l.take k)) ∧ Pr B w wr
theorem FsRel.mk {B : Nat} {a L : List UInt8} {l : List Fd} {w wr : World} {o i : Value} (k : Nat) (h1 : i = .int .i64 k) (h2 : k ≤ l.length) (h3 : Out B wr o (L ++ fieldsB a (l.take k))) (h4 : Pr B w wr) : FsRel B a L l w o i wr := ⟨k, h1, h2, h3, h4⟩
end Go.Proofs.YtipaangiehdgkaaGreatDoor
/-
  Reserved numbers and an enum are printed: the contracts.
-/
namespace Go.Proofs.YtipaangiehdgkaaGreatDoor
set_option maxRecDepth 100000

open Go.RowKit

def NsRel (B : Nat) (L : List UInt8) (l : List Int) (w : World) (o s i : Value) (wr : World) : Prop := ∃ k : Nat, i = .int .i64 k ∧ s = .string (txt (if k = 0 then [32] else [44, 32])) ∧ k ≤ l.length ∧ Out B wr o (L ++ numsB [32] (l.take k)) ∧ Pr B w wr
theorem NsRel.mk {B : Nat} {L : List UInt8} {l : List Int} {w wr : World} {o s i : Value} (k : Nat) (h1 : i = .int .i64 k) (hs : s = .string (txt (if k = 0 then [32] else [44, 32]))) (h2 : k ≤ l.length) (h3 : Out B wr o (L ++ numsB [32] (l.take k))) (h4 : Pr B w wr) : NsRel B L l w o s i wr := ⟨k, h1, hs, h2, h3, h4⟩
end Go.Proofs.YtipaangiehdgkaaGreatDoor
/-
  An enum is printed: the contract.
-/
namespace Go.Proofs.YtipaangiehdgkaaGreatDoor
set_option maxRecDepth 100000

open Go.RowKit

def valsB (l : List Vl) : List UInt8 := (l.map valB).flatten
structure VlOk (d : Vl) : Prop where
  lo : -9223372036854775808 ≤ d.n
  hi : d.n ≤ 9223372036854775807
def VsRel (B : Nat) (L : List UInt8) (l : List Vl) (w : World) (o i : Value) (wr : World) : Prop := ∃ k : Nat, i = .int .i64 k ∧ k ≤ l.length ∧ Out B wr o (L ++ valsB (l.take k)) ∧ Pr B w wr
theorem VsRel.mk {B : Nat} {L : List UInt8} {l : List Vl} {w wr : World} {o i : Value} (k : Nat) (h1 : i = .int .i64 k) (h2 : k ≤ l.length) (h3 : Out B wr o (L ++ valsB (l.take k))) (h4 : Pr B w wr) : VsRel B L l w o i wr := ⟨k, h1, h2, h3, h4⟩
end Go.Proofs.YtipaangiehdgkaaGreatDoor
/-
  The fields of each oneof, in rows of their own: the contract.
-/
namespace Go.Proofs.YtipaangiehdgkaaGreatDoor
set_option maxRecDepth 100000

open Go.RowKit

end Go.Proofs.YtipaangiehdgkaaGreatDoor
/-
  A message is printed: the contract.
-/
namespace Go.Proofs.YtipaangiehdgkaaGreatDoor
set_option maxRecDepth 100000

open Go.RowKit

structure MsOk (m : Ms) : Prop where
  f : ∀ d ∈ m.F, FdOk d
  r : ∀ n ∈ m.res, -9223372036854775808 ≤ n ∧ n ≤ 9223372036854775807
  lf : m.F.length ≤ 100000
  lo : m.ones.length ≤ 100000
  lr : m.res.length ≤ 100000
end Go.Proofs.YtipaangiehdgkaaGreatDoor
/-
  A file is printed: the contract.
-/
namespace Go.Proofs.YtipaangiehdgkaaGreatDoor
set_option maxRecDepth 100000

open Go.RowKit

structure FlOk (f : Fl) : Prop where
  m : ∀ m ∈ f.M, MsOk m
  e : ∀ e ∈ f.E, (∀ d ∈ e.V, VlOk d) ∧ e.V.length ≤ 1000000
  lm : f.M.length ≤ 1000000
  le : f.E.length ≤ 1000000
def listB {α : Type} (g : α → List UInt8) (l : List α) : List UInt8 := (l.map g).flatten
def PfRel {α : Type} (B : Nat) (g : α → List UInt8) (L : List UInt8) (l : List α) (w : World) (o i : Value) (wr : World) : Prop := ∃ k : Nat, i = .int .i64 k ∧ k ≤ l.length ∧ Out B wr o (L ++ listB g (l.take k)) ∧ Pr B w wr
theorem PfRel.mk {α : Type} {B : Nat} {g : α → List UInt8} {L : List UInt8} {l : List α} {w wr : World} {o i : Value} (k : Nat) (h1 : i = .int .i64 k) (h2 : k ≤ l.length) (h3 : Out B wr o (L ++ listB g (l.take k))) (h4 : Pr B w wr) : PfRel B g L l w o i wr := ⟨k, h1, h2, h3, h4⟩
end Go.Proofs.YtipaangiehdgkaaGreatDoor
/-
  A file that comes in: its rows lie below a place, wherever they begin; what is read of them.
-/
namespace Go.Proofs.YtipaangiehdgkaaGreatDoor
set_option maxRecDepth 100000

open Go.RowKit

/-- A row that lies below B, wherever it begins. -/
def Rb (B : Nat) (w : World) (v : Value) (n size : Nat) (xs : List Value) : Prop := ∃ A c, v = .slice A n c ∧ Sl w A n c size xs ∧ ∀ ad, A = some ad → 0 < n → ad.block < B
/-- What lies below B is as it was. -/
def Low (B : Nat) (w w' : World) : Prop := w.heap.size ≤ w'.heap.size ∧ ∀ k, k < B → w'.heap[k]? = w.heap[k]?
theorem Low.refl (B : Nat) (w : World) : Low B w w := ⟨Nat.le_refl _, fun _ _ => rfl⟩
theorem Low.trans {B : Nat} {a b c : World} (h : Low B a b) (k : Low B b c) : Low B a c := ⟨Nat.le_trans h.1 k.1, fun i hi => (k.2 i hi).trans (h.2 i hi)⟩
theorem Pr.low {B : Nat} {w w' : World} (h : Pr B w w') : Low B w w' := ⟨h.size, h.block⟩
theorem Low.below {B : Nat} {w w' : World} (h : Below w.heap.size w w') (hB : B ≤ w.heap.size) : Low B w w' := ⟨h.size, fun k hk => h.block k (by omega)⟩
theorem Low.of {B : Nat} {w w' : World} (h : Below B w w') : Low B w w' := ⟨h.size, h.block⟩
theorem Low.alloc {B : Nat} (w : World) (o : Obj) (hB : B ≤ w.heap.size) : Low B w (w.alloc o) := Low.below (below_new w o) hB
theorem Sl.low {B : Nat} {w w' : World} {A : Option Addr} {n c size : Nat} {xs : List Value} (h : Sl w A n c size xs) (hA : ∀ ad, A = some ad → 0 < n → ad.block < B) (hl : Low B w w') : Sl w' A n c size xs := by
  refine ⟨h.len, h.le, h.cap, h.nil, fun ad ha hn => Nat.lt_of_lt_of_le (h.old ad ha hn) hl.1, fun ad ha k u hu => ?_⟩
  have hn : 0 < n := by
    rcases Nat.eq_zero_or_pos n with h0 | h0
    · have := h.len
      rw [h0, Nat.zero_mul] at this
      rw [List.eq_nil_of_length_eq_zero this] at hu
      simp at hu
    · exact h0
  have hk : w'.heap[(ad.add k).block]? = w.heap[(ad.add k).block]? := by rw [add_same_block]; exact hl.2 _ (hA ad ha hn)
  exact (World.cell?_of_block hk).trans (h.cell ad ha k u hu)
theorem Rb.low {B : Nat} {w w' : World} {v : Value} {n size : Nat} {xs : List Value} (h : Rb B w v n size xs) (hl : Low B w w') : Rb B w' v n size xs := by
  obtain ⟨A, c, rfl, h1, h2⟩ := h
  exact ⟨A, c, rfl, h1.low h2 hl, h2⟩
theorem Rb.mono {B B' : Nat} {w : World} {v : Value} {n size : Nat} {xs : List Value} (h : Rb B w v n size xs) (hB : B ≤ B') : Rb B' w v n size xs := by
  obtain ⟨A, c, rfl, h1, h2⟩ := h
  exact ⟨A, c, rfl, h1, fun ad ha hn => Nat.lt_of_lt_of_le (h2 ad ha hn) hB⟩
theorem Rb.of_own {w : World} {b : Nat} {e : TypeId} {v : Value} {n size : Nat} {xs : List Value} (h : w.ownsRow b e size v n xs) : Rb w.heap.size w v n size xs := by
  obtain ⟨A, c, rfl, hs⟩ := Sl.of_own h
  exact ⟨A, c, rfl, hs, fun ad ha hn => hs.old ad ha hn⟩
theorem Rb.one {B : Nat} {w : World} {v : Value} {n size : Nat} {xs : List Value} (h : Rb B w v n size xs) : v.oneCell' = true := by
  obtain ⟨A, c, rfl, _, _⟩ := h
  rfl
/-- Cell j of element k. -/
theorem Sl.elem {w : World} {A : Option Addr} {n c size : Nat} {xs : List Value} (h : Sl w A n c size xs) {k : Nat} (hk : k < n) : ∃ ad, A = some ad ∧ ad.block < w.heap.size ∧ (∀ u, xs[k * size]? = some u → w.cell? (ad.add (k * size)) = some u) ∧
    ∀ j u, 0 < j → xs[k * size + j]? = some u → w.cell? ⟨(ad.add (k * size)).block, (ad.add (k * size)).off + j, none⟩ = some u := by
  obtain ⟨ad, rfl, hb, hcell⟩ := Sl.there h (by omega)
  refine ⟨ad, rfl, hb, fun u hu => hcell _ _ hu, fun j u hj hu => ?_⟩
  have e : (⟨(ad.add (k * size)).block, (ad.add (k * size)).off + j, none⟩ : Addr) = ad.add (k * size + j) := by
    rw [← add_twice]
    cases j with
    | zero => omega
    | succ j => simp [Addr.add]
  rw [e]
  exact hcell _ _ hu

/-! ### Files that come in -/

structure MAt (B : Nat) (w : World) (m : Ms) (vF vO vR : Value) : Prop where
  f : Rb B w vF m.F.length 7 (fdv m.F)
  o : Rb B w vO m.ones.length 1 (strv m.ones)
  r : Rb B w vR m.res.length 1 (intv m.res)
def EAt (B : Nat) (w : World) (e : En) (vV : Value) : Prop := Rb B w vV e.V.length 3 (vlv e.V)
theorem MAt.low {B : Nat} {w w' : World} {m : Ms} {vF vO vR : Value} (h : MAt B w m vF vO vR) (hl : Low B w w') : MAt B w' m vF vO vR := ⟨h.f.low hl, h.o.low hl, h.r.low hl⟩
theorem EAt.low {B : Nat} {w w' : World} {e : En} {vV : Value} (h : EAt B w e vV) (hl : Low B w w') : EAt B w' e vV := Rb.low h hl
theorem MAt.mono {B B' : Nat} {w : World} {m : Ms} {vF vO vR : Value} (h : MAt B w m vF vO vR) (hB : B ≤ B') : MAt B' w m vF vO vR := ⟨h.f.mono hB, h.o.mono hB, h.r.mono hB⟩
theorem EAt.mono {B B' : Nat} {w : World} {e : En} {vV : Value} (h : EAt B w e vV) (hB : B ≤ B') : EAt B' w e vV := Rb.mono h hB
def MsAt (B : Nat) (w : World) : List Ms → List Value → Prop
  | [], xs => xs = []
  | m :: l, xs => ∃ vF vO vR ys, xs = MC m vF vO vR ++ ys ∧ MAt B w m vF vO vR ∧ MsAt B w l ys
def EnAt (B : Nat) (w : World) : List En → List Value → Prop
  | [], xs => xs = []
  | e :: l, xs => ∃ vV ys, xs = EC e vV ++ ys ∧ EAt B w e vV ∧ EnAt B w l ys
theorem MsAt.low {B : Nat} {w w' : World} (hl : Low B w w') : ∀ {l : List Ms} {xs : List Value}, MsAt B w l xs → MsAt B w' l xs
  | [], _, h => h
  | _ :: _, _, ⟨vF, vO, vR, ys, h1, h2, h3⟩ => ⟨vF, vO, vR, ys, h1, h2.low hl, h3.low hl⟩
theorem EnAt.low {B : Nat} {w w' : World} (hl : Low B w w') : ∀ {l : List En} {xs : List Value}, EnAt B w l xs → EnAt B w' l xs
  | [], _, h => h
  | _ :: _, _, ⟨vV, ys, h1, h2, h3⟩ => ⟨vV, ys, h1, h2.low hl, h3.low hl⟩
theorem MsAt.mono {B B' : Nat} {w : World} (hB : B ≤ B') : ∀ {l : List Ms} {xs : List Value}, MsAt B w l xs → MsAt B' w l xs
  | [], _, h => h
  | _ :: _, _, ⟨vF, vO, vR, ys, h1, h2, h3⟩ => ⟨vF, vO, vR, ys, h1, h2.mono hB, h3.mono hB⟩
theorem EnAt.mono {B B' : Nat} {w : World} (hB : B ≤ B') : ∀ {l : List En} {xs : List Value}, EnAt B w l xs → EnAt B' w l xs
  | [], _, h => h
  | _ :: _, _, ⟨vV, ys, h1, h2, h3⟩ => ⟨vV, ys, h1, h2.mono hB, h3.mono hB⟩
/-- A file, as it is read, wherever it lies below B. -/
def FAt (B : Nat) (w : World) (f : Fl) (vM vE : Value) : Prop := ∃ xs ys, Rb B w vM f.M.length 5 xs ∧ MsAt B w f.M xs ∧ Rb B w vE f.E.length 3 ys ∧ EnAt B w f.E ys
theorem FAt.low {B : Nat} {w w' : World} {f : Fl} {vM vE : Value} (h : FAt B w f vM vE) (hl : Low B w w') : FAt B w' f vM vE := by
  obtain ⟨xs, ys, h1, h2, h3, h4⟩ := h
  exact ⟨xs, ys, h1.low hl, h2.low hl, h3.low hl, h4.low hl⟩
theorem FAt.mono {B B' : Nat} {w : World} {f : Fl} {vM vE : Value} (h : FAt B w f vM vE) (hB : B ≤ B') : FAt B' w f vM vE := by
  obtain ⟨xs, ys, h1, h2, h3, h4⟩ := h
  exact ⟨xs, ys, h1.mono hB, h2.mono hB, h3.mono hB, h4.mono hB⟩
/-! ### What lies at a place -/

theorem intr_at {w : World} {A : Option Addr} {c : Nat} {l : List Int} (h : Sl w A l.length c 1 (intv l)) {k : Nat} {n : Int} (hk : l[k]? = some n) : ∃ ad, A = some ad ∧ ad.block < w.heap.size ∧ w.cell? (ad.add k) = some (.int .i64 n) := by
  obtain ⟨ad, rfl, hb, hc⟩ := Sl.there h (by have := (List.getElem?_eq_some_iff.1 hk).1; omega)
  exact ⟨ad, rfl, hb, hc k _ (by simp [intv, hk])⟩
theorem strr_at {w : World} {A : Option Addr} {c : Nat} {l : List (List UInt8)} (h : Sl w A l.length c 1 (strv l)) {k : Nat} {x : List UInt8} (hk : l[k]? = some x) : ∃ ad, A = some ad ∧ ad.block < w.heap.size ∧ w.cell? (ad.add k) = some (.string (txt x)) := by
  obtain ⟨ad, rfl, hb, hc⟩ := Sl.there h (by have := (List.getElem?_eq_some_iff.1 hk).1; omega)
  exact ⟨ad, rfl, hb, hc k _ (by simp [strv, hk])⟩
end Go.Proofs.YtipaangiehdgkaaGreatDoor
/-
  A file as an argument: how it lies there.
-/
namespace Go.Proofs.YtipaangiehdgkaaGreatDoor
set_option maxRecDepth 100000

open Go.RowKit Go.ChangeShapes Go.WideShapes Go.ChangeAt

section

variable {H : Type} {enc : TypeId × Value → H} {W : World} {n : Nat}

end

end Go.Proofs.YtipaangiehdgkaaGreatDoor
