/-
  A oneof is read, and reserved numbers: the contracts.
-/
import Derived.Test.YtipaangiehdgkaaGreatDoorProPairs
import Derived.Test.YtipaangiehdgkaaGreatDoorTokSmall
import Derived.Test.YtipaangiehdgkaaGreatDoorTrIn
import Derived.Lib.AppendStr
import Derived.Deep.RegionHeld3
import Derived.Laws.MakeOwn
namespace Go.Proofs.YtipaangiehdgkaaGreatDoor
set_option maxRecDepth 100000

open Go.RowKit

theorem infoStrs : (Tryz.prog.info? 9).map (fun i => (i.zero, i.size, i.bytes)) = some (some (.string ⟨#[]⟩), 1, 16) := by kernel_rfl
end Go.Proofs.YtipaangiehdgkaaGreatDoor
/-
  Reserved numbers are read: the contract.
-/
namespace Go.Proofs.YtipaangiehdgkaaGreatDoor
set_option maxRecDepth 100000

open Go.RowKit

end Go.Proofs.YtipaangiehdgkaaGreatDoor
/-
  What reads an item, and a message: the contracts.
-/
namespace Go.Proofs.YtipaangiehdgkaaGreatDoor
set_option maxRecDepth 100000

open Go.RowKit

end Go.Proofs.YtipaangiehdgkaaGreatDoor
/-
  A message is read: the contract.
-/
namespace Go.Proofs.YtipaangiehdgkaaGreatDoor
set_option maxRecDepth 100000

open Go.RowKit

theorem own_one {w : World} {b : Nat} {e : TypeId} {size : Nat} {v : Value} {n : Nat} {xs : List Value} (h : w.ownsRow b e size v n xs) : v.oneCell' = true := by
  rcases h.2 with ⟨rfl, _⟩ | ⟨g, cap, cur, rfl, _⟩ <;> rfl
end Go.Proofs.YtipaangiehdgkaaGreatDoor
/-
  An enum is read: the contract.
-/
namespace Go.Proofs.YtipaangiehdgkaaGreatDoor
set_option maxRecDepth 100000

open Go.RowKit

def VC (v : Vl) : List Value := [.string (txt v.name), .int .i64 v.n, .int .i64 v.at_]
def vlv (l : List Vl) : List Value := l.flatMap VC
/-- A row of one type stays while a block of another type is written. -/
theorem own_other {w w' : World} {b : Nat} {e : TypeId} {size : Nat} {v : Value} {n : Nat} {xs : List Value} (hr : w.ownsRow b e size v n xs) {g : Nat} {cs : Array Value} {t : TypeId} {fr : Nat × Nat} (hg : w.grownBy w' (some g)) (ho : w.heap[g]? = some (.cells cs t fr)) (ht : t ≠ e) : w'.ownsRow b e size v n xs := by
  refine hr.kept hg ?_
  rcases hr.2 with ⟨rfl, _⟩ | ⟨g', cap, cur, rfl, _, h2, _⟩
  · exact .inl rfl
  · right
    simp only [Value.ownBlock, ne_eq, Option.some.injEq]
    rintro rfl
    rw [h2] at ho
    simp only [Option.some.injEq, Obj.cells.injEq] at ho
    exact ht ho.2.1.symm
end Go.Proofs.YtipaangiehdgkaaGreatDoor
/-
  A file is read: its rows of messages and of enums; the contract.
-/
namespace Go.Proofs.YtipaangiehdgkaaGreatDoor
set_option maxRecDepth 100000

open Go.RowKit

def MC (m : Ms) (vF vO vR : Value) : List Value := [.string (txt m.name), vF, vO, vR, .int .i64 m.at_]
def EC (e : En) (vV : Value) : List Value := [.string (txt e.name), vV, .int .i64 e.at_]
end Go.Proofs.YtipaangiehdgkaaGreatDoor
/-
  Lines are appended to what is printed: the frame, and the contract.
-/
namespace Go.Proofs.YtipaangiehdgkaaGreatDoor
set_option maxRecDepth 100000

open Go.RowKit

/-- Printing lets all be but the bytes' own block, and new ones: what lies below B, and what was there and is no row of bytes. -/
structure Pr (B : Nat) (w w' : World) : Prop where
  os : w'.os = w.os
  tape : w'.tape = w.tape
  output : w'.output = w.output
  size : w.heap.size ≤ w'.heap.size
  block : ∀ k, k < B → w'.heap[k]? = w.heap[k]?
  typed : ∀ (k : Nat) (cs : Array Value) (t : TypeId) (fr : Nat × Nat), w.heap[k]? = some (Obj.cells cs t fr) → t ≠ 5 → w'.heap[k]? = w.heap[k]?
theorem Pr.refl (B : Nat) (w : World) : Pr B w w := ⟨rfl, rfl, rfl, Nat.le_refl _, fun _ _ => rfl, fun _ _ _ _ _ _ => rfl⟩
theorem Pr.trans {B : Nat} {a b c : World} (h : Pr B a b) (k : Pr B b c) : Pr B a c :=
  ⟨k.os.trans h.os, k.tape.trans h.tape, k.output.trans h.output, Nat.le_trans h.size k.size, fun i hi => (k.block i hi).trans (h.block i hi),
    fun i cs t fr hi ht => (k.typed i cs t fr ((h.typed i cs t fr hi ht).trans hi) ht).trans (h.typed i cs t fr hi ht)⟩
theorem Pr.far {B : Nat} {a w w' : World} (h : Pr B a w) (os : w'.os = w.os) (tape : w'.tape = w.tape) (output : w'.output = w.output) (size : w.heap.size ≤ w'.heap.size)
    (hk : ∀ k, k < a.heap.size → w'.heap[k]? = w.heap[k]?) (hB : B ≤ a.heap.size) : Pr B a w' :=
  ⟨os.trans h.os, tape.trans h.tape, output.trans h.output, Nat.le_trans h.size size, fun k hkB => (hk k (by omega)).trans (h.block k hkB),
    fun k cs t fr hi ht => (hk k (Array.getElem?_eq_some_iff.1 hi).1).trans (h.typed k cs t fr hi ht)⟩
theorem Pr.alloc {B : Nat} {a w : World} (h : Pr B a w) (hB : B ≤ a.heap.size) (o : Obj) : Pr B a (w.alloc o) :=
  h.far rfl rfl rfl (by simp) (fun k hk => Below.heap_alloc w o k (Nat.lt_of_lt_of_le hk h.size)) hB
theorem Pr.drewN {B : Nat} {a w : World} (h : Pr B a w) (n : Nat) : Pr B a (w.drewN n) := ⟨h.os, h.tape, h.output, h.size, h.block, h.typed⟩
theorem Pr.drew {B : Nat} {a w : World} (h : Pr B a w) : Pr B a w.drew := ⟨h.os, h.tape, h.output, h.size, h.block, h.typed⟩
theorem Pr.setCell {B : Nat} {a w : World} (h : Pr B a w) (hB : B ≤ a.heap.size) {p : Addr} (hp : a.heap.size ≤ p.block) (u : Value) : Pr B a (w.setCell p u) :=
  h.far rfl rfl rfl (by simp [World.setCell]) (fun k hk => Below.heap_setCell w p u k (by omega)) hB
theorem Pr.below {B : Nat} {w w' : World} (h : Below w.heap.size w w') (hB : B ≤ w.heap.size) : Pr B w w' :=
  ⟨h.os, h.tape, h.output, h.size, fun k hk => h.block k (by omega), fun k _ _ _ hi _ => h.block k (Array.getElem?_eq_some_iff.1 hi).1⟩
theorem Pr.grown {B : Nat} {w w' : World} {v : Value} {n : Nat} {xs : List Value} (hr : w.ownsRow B 5 1 v n xs) (hg : w.grownBy w' v.ownBlock) (hB : B ≤ w.heap.size) : Pr B w w' := by
  refine ⟨hg.os, hg.tape, hg.output, hg.size, fun k hk => hg.block k (by omega) (fun e => by have := (hr.lt k e.symm).1; omega), fun k cs t fr hi ht => hg.block k (Array.getElem?_eq_some_iff.1 hi).1 ?_⟩
  rcases hr.2 with ⟨rfl, _⟩ | ⟨g, cap, cur, rfl, h1, h2, _⟩
  · simp [Value.ownBlock]
  · simp only [Value.ownBlock, ne_eq, Option.some.injEq]
    rintro rfl
    rw [hi] at h2
    simp only [Option.some.injEq, Obj.cells.injEq] at h2
    exact ht h2.2.1
theorem Pr.own {B b : Nat} {w w' : World} {e : TypeId} {size : Nat} {v : Value} {n : Nat} {xs : List Value} (h : Pr B w w') (hr : w.ownsRow b e size v n xs) (he : e ≠ 5) : w'.ownsRow b e size v n xs := by
  rcases hr with ⟨hl, ⟨rfl, rfl⟩ | ⟨g, cap, cur, rfl, h1, h2, h3⟩⟩
  · exact ⟨hl, .inl ⟨rfl, rfl⟩⟩
  · exact ⟨hl, .inr ⟨g, cap, cur, rfl, h1, (h.typed g _ _ _ h2 he).trans h2, h3⟩⟩
/-- What has been printed so far. -/
def Out (B : Nat) (w : World) (v : Value) (L : List UInt8) : Prop := w.ownsRow B 5 1 v L.length (bs L)
theorem Out.below {B : Nat} {w w' : World} {v : Value} {L : List UInt8} (h : Out B w v L) (hb : Below w.heap.size w w') : Out B w' v L := own_below h hb
theorem Out.alloc {B : Nat} {w : World} {v : Value} {L : List UInt8} (h : Out B w v L) (o : Obj) : Out B (w.alloc o) v L := World.ownsRow.alloc h o
theorem Out.grow {B : Nat} {w : World} {v : Value} {L X : List UInt8} {n : Nat} {xs : List Value} (h : w.ownsRow B 5 1 v n xs) (hn : n = (L ++ X).length) (hx : xs = bs L ++ bs X) : Out B w v (L ++ X) := by
  subst hn hx
  rw [← bs_append] at h
  exact h
def LineRel (B g : Nat) (L : List UInt8) (ps : List (List UInt8)) (w : World) (o i : Value) (wr : World) : Prop := ∃ k : Nat, i = .int .i64 k ∧ k ≤ ps.length ∧ Out B wr o (L ++ (ps.take k).flatten) ∧ Pr B w wr
theorem LineRel.mk {B g : Nat} {L : List UInt8} {ps : List (List UInt8)} {w wr : World} {o i : Value} (k : Nat) (h1 : i = .int .i64 k) (h2 : k ≤ ps.length) (h3 : Out B wr o (L ++ (ps.take k).flatten)) (h4 : Pr B w wr) : LineRel B g L ps w o i wr := ⟨k, h1, h2, h3, h4⟩

end Go.Proofs.YtipaangiehdgkaaGreatDoor
/-
  A field is printed: the contracts.
-/
namespace Go.Proofs.YtipaangiehdgkaaGreatDoor
set_option maxRecDepth 100000

open Go.RowKit

/-- A field whose texts and number are not too great. -/
structure FdOk (d : Fd) : Prop where
  key : d.key.length ≤ 2000000
  type : d.type.length ≤ 2000000
  name : d.name.length ≤ 2000000
  lo : -9223372036854775808 ≤ d.no
  hi : d.no ≤ 9223372036854775807
end Go.Proofs.YtipaangiehdgkaaGreatDoor
/-
  A oneof is printed: the contract.
-/
namespace Go.Proofs.YtipaangiehdgkaaGreatDoor
set_option maxRecDepth 100000

open Go.RowKit

/-- What is laid lies below B. -/
def LaidB (B : Nat) (w : World) : Prop := ∃ w0, Laid w0 ∧ w0.heap.size ≤ B ∧ Below w0.heap.size w0 w
theorem LaidB.laid {B : Nat} {w : World} (h : LaidB B w) : Laid w := by
  obtain ⟨w0, h1, h2, h3⟩ := h
  exact h1.on h3
theorem LaidB.start {w : World} (h : Laid w) : LaidB w.heap.size w := ⟨w, h, Nat.le_refl _, Below.refl _ _⟩
def FsRel (B : Nat) (a : List UInt8) (L : List UInt8) (l : List Fd) (w : World) (o i : Value) (wr : World) : Prop := ∃ k : Nat, i = .int .i64 k ∧ k ≤ l.length ∧ Out B wr o (L ++ fieldsB a (l.take k)) ∧ Pr B w wr
theorem FsRel.mk {B : Nat} {a L : List UInt8} {l : List Fd} {w wr : World} {o i : Value} (k : Nat) (h1 : i = .int .i64 k) (h2 : k ≤ l.length) (h3 : Out B wr o (L ++ fieldsB a (l.take k))) (h4 : Pr B w wr) : FsRel B a L l w o i wr := ⟨k, h1, h2, h3, h4⟩
end Go.Proofs.YtipaangiehdgkaaGreatDoor
/-
  Reserved numbers and an enum are printed: the contracts.
-/
namespace Go.Proofs.YtipaangiehdgkaaGreatDoor
set_option maxRecDepth 100000

open Go.RowKit

def NsRel (B : Nat) (L : List UInt8) (l : List Int) (w : World) (o s i : Value) (wr : World) : Prop := ∃ k : Nat, i = .int .i64 k ∧ s = .string (txt (if k = 0 then [32] else [44, 32])) ∧ k ≤ l.length ∧ Out B wr o (L ++ numsB [32] (l.take k)) ∧ Pr B w wr
theorem NsRel.mk {B : Nat} {L : List UInt8} {l : List Int} {w wr : World} {o s i : Value} (k : Nat) (h1 : i = .int .i64 k) (hs : s = .string (txt (if k = 0 then [32] else [44, 32]))) (h2 : k ≤ l.length) (h3 : Out B wr o (L ++ numsB [32] (l.take k))) (h4 : Pr B w wr) : NsRel B L l w o s i wr := ⟨k, h1, hs, h2, h3, h4⟩
end Go.Proofs.YtipaangiehdgkaaGreatDoor
/-
  An enum is printed: the contract.
-/
namespace Go.Proofs.YtipaangiehdgkaaGreatDoor
set_option maxRecDepth 100000

open Go.RowKit

def valsB (l : List Vl) : List UInt8 := (l.map valB).flatten
structure VlOk (d : Vl) : Prop where
  lo : -9223372036854775808 ≤ d.n
  hi : d.n ≤ 9223372036854775807
def VsRel (B : Nat) (L : List UInt8) (l : List Vl) (w : World) (o i : Value) (wr : World) : Prop := ∃ k : Nat, i = .int .i64 k ∧ k ≤ l.length ∧ Out B wr o (L ++ valsB (l.take k)) ∧ Pr B w wr
theorem VsRel.mk {B : Nat} {L : List UInt8} {l : List Vl} {w wr : World} {o i : Value} (k : Nat) (h1 : i = .int .i64 k) (h2 : k ≤ l.length) (h3 : Out B wr o (L ++ valsB (l.take k))) (h4 : Pr B w wr) : VsRel B L l w o i wr := ⟨k, h1, h2, h3, h4⟩
end Go.Proofs.YtipaangiehdgkaaGreatDoor
/-
  The fields of each oneof, in rows of their own: the contract.
-/
namespace Go.Proofs.YtipaangiehdgkaaGreatDoor
set_option maxRecDepth 100000

open Go.RowKit

end Go.Proofs.YtipaangiehdgkaaGreatDoor
