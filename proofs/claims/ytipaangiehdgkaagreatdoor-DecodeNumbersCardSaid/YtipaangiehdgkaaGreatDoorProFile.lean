/-
  The parser takes tokens: the contracts of what takes one, and of a name with its number.
-/
import Derived.Test.YtipaangiehdgkaaGreatDoorProSees
import Derived.Deep.RegionLaw
namespace Go.Proofs.YtipaangiehdgkaaGreatDoor
set_option maxRecDepth 100000

open Go.RowKit

theorem SlT.none_left {w : World} {A : Option Addr} {c : Nat} (hc : c ≤ maxLen) (hA : A = none → c = 0) : SlT w A c [] :=
  ⟨by simp [tv], Nat.zero_le _, hc, hA, by simp, by simp [tv]⟩
theorem SlT.tail {w : World} {ad : Addr} {c : Nat} {t : T} {l : List T} (h : SlT w (some ad) c (t :: l)) : SlT w (some (ad.add 4)) (c - 1) l := by
  cases l with
  | nil => exact SlT.none_left (by have := h.cap; omega) (by simp)
  | cons u l =>
    obtain ⟨ad', ha, h2⟩ := Sl.from_ (k := 1) h (by simp)
    obtain rfl := Option.some.inj ha
    simpa [SlT, tv_cons, TC] using h2
end Go.Proofs.YtipaangiehdgkaaGreatDoor
/-
  A field is read: the contract.
-/
namespace Go.Proofs.YtipaangiehdgkaaGreatDoor
set_option maxRecDepth 100000

open Go.RowKit

/-- A field's cells. -/
def FC (d : Fd) : List Value := [.string (txt d.type), .string (txt d.key), .bool d.rep, .int .i64 d.one, .string (txt d.name), .int .i64 d.no, .int .i64 d.at_]
/-- Below block B nothing but block P has turned. -/
structure Kp (B P : Nat) (w w' : World) : Prop where
  os : w'.os = w.os
  tape : w'.tape = w.tape
  output : w'.output = w.output
  size : w.heap.size ≤ w'.heap.size
  block : ∀ k, k < B → k ≠ P → w'.heap[k]? = w.heap[k]?
theorem Kp.refl (B P : Nat) (w : World) : Kp B P w w := ⟨rfl, rfl, rfl, Nat.le_refl _, fun _ _ _ => rfl⟩
theorem Kp.trans {B P : Nat} {a b c : World} (h : Kp B P a b) (k : Kp B P b c) : Kp B P a c :=
  ⟨k.os.trans h.os, k.tape.trans h.tape, k.output.trans h.output, Nat.le_trans h.size k.size, fun i hi hp => (k.block i hi hp).trans (h.block i hi hp)⟩
theorem Kp.alloc {B P : Nat} {a w : World} (h : Kp B P a w) (hB : B ≤ w.heap.size) (o : Obj) : Kp B P a (w.alloc o) :=
  h.trans ⟨rfl, rfl, rfl, by simp, fun k hk _ => Below.heap_alloc _ _ _ (by omega)⟩
theorem Kp.setCell {B P : Nat} {a w : World} (h : Kp B P a w) {p : Addr} (hp : B ≤ p.block) (u : Value) : Kp B P a (w.setCell p u) :=
  h.trans ⟨rfl, rfl, rfl, by simp [World.setCell], fun k hk _ => Below.heap_setCell _ _ _ _ (by omega)⟩
theorem Kp.setRow {B P : Nat} {a w : World} (h : Kp B P a w) {g : Nat} (hp : B ≤ g) (cs : Array Value) : Kp B P a (w.setRow g cs) :=
  h.trans ⟨rfl, rfl, rfl, by simp, fun k hk _ => setRow_other _ _ _ _ (by omega)⟩
theorem Kp.grown {B P : Nat} {a w w' : World} {row : Option Nat} (h : Kp B P a w) (hg : w.grownBy w' row) (hB : B ≤ w.heap.size) (hr : ∀ k, row = some k → B ≤ k) : Kp B P a w' :=
  h.trans ⟨hg.os, hg.tape, hg.output, hg.size, fun k hk _ => hg.block k (by omega) (fun e => by have := hr k e.symm; omega)⟩
theorem Kp.drew {B P : Nat} {a w : World} (h : Kp B P a w) (n : Nat) : Kp B P a (w.drewN n) := h.trans ⟨rfl, rfl, rfl, Nat.le_refl _, fun _ _ _ => rfl⟩
theorem Kp.mono {B B' P : Nat} {a w : World} (h : Kp B P a w) (hB : B' ≤ B) : Kp B' P a w := ⟨h.os, h.tape, h.output, h.size, fun k hk hp => h.block k (by omega) hp⟩
theorem Kp.out {P : Nat} {w w' : World} (h : Kp w.heap.size P w w') : w.grownBy w' (some P) :=
  ⟨h.os, h.tape, h.output, h.size, fun k hk hp => h.block k hk (by simpa using hp)⟩
theorem heap_second (w : World) (o o' : Obj) : ((w.alloc o).alloc o').heap[w.heap.size + 1]? = some o' := by
  have := heap_alloc_new (w.alloc o) o'
  simpa using this
end Go.Proofs.YtipaangiehdgkaaGreatDoor
/-
  A message as it is read: its block and its rows; items of one field: the contracts.
-/
namespace Go.Proofs.YtipaangiehdgkaaGreatDoor
set_option maxRecDepth 100000

open Go.RowKit

def fdv (l : List Fd) : List Value := l.flatMap FC
def strv (l : List (List UInt8)) : List Value := l.map fun x => .string (txt x)
def intv (l : List Int) : List Value := l.map fun n => .int .i64 n
theorem own_kept {w w' : World} {base B P : Nat} {e : TypeId} {size : Nat} {v : Value} {n : Nat} {xs : List Value} (h : w.ownsRow base e size v n xs) (hk : ∀ k, base ≤ k → k < w.heap.size → w'.heap[k]? = w.heap[k]?) : w'.ownsRow base e size v n xs := by
  rcases h with ⟨hl, ⟨rfl, rfl⟩ | ⟨g, cap, cur, rfl, h1, h2, h3⟩⟩
  · exact ⟨hl, .inl ⟨rfl, rfl⟩⟩
  · exact ⟨hl, .inr ⟨g, cap, cur, rfl, h1, (hk g h1 (Array.getElem?_eq_some_iff.1 h2).1).trans h2, h3⟩⟩
end Go.Proofs.YtipaangiehdgkaaGreatDoor
/-
  A map is read: the contract.
-/
namespace Go.Proofs.YtipaangiehdgkaaGreatDoor
set_option maxRecDepth 100000

open Go.RowKit

end Go.Proofs.YtipaangiehdgkaaGreatDoor
/-
  A oneof is read, and reserved numbers: the contracts.
-/
namespace Go.Proofs.YtipaangiehdgkaaGreatDoor
set_option maxRecDepth 100000

open Go.RowKit

theorem infoStrs : (Tryz.prog.info? 9).map (fun i => (i.zero, i.size, i.bytes)) = some (some (.string ⟨#[]⟩), 1, 16) := by kernel_rfl
end Go.Proofs.YtipaangiehdgkaaGreatDoor
/-
  Reserved numbers are read: the contract.
-/
namespace Go.Proofs.YtipaangiehdgkaaGreatDoor
set_option maxRecDepth 100000

open Go.RowKit

end Go.Proofs.YtipaangiehdgkaaGreatDoor
/-
  What reads an item, and a message: the contracts.
-/
namespace Go.Proofs.YtipaangiehdgkaaGreatDoor
set_option maxRecDepth 100000

open Go.RowKit

end Go.Proofs.YtipaangiehdgkaaGreatDoor
/-
  A message is read: the contract.
-/
namespace Go.Proofs.YtipaangiehdgkaaGreatDoor
set_option maxRecDepth 100000

open Go.RowKit

theorem own_one {w : World} {b : Nat} {e : TypeId} {size : Nat} {v : Value} {n : Nat} {xs : List Value} (h : w.ownsRow b e size v n xs) : v.oneCell' = true := by
  rcases h.2 with ⟨rfl, _⟩ | ⟨g, cap, cur, rfl, _⟩ <;> rfl
end Go.Proofs.YtipaangiehdgkaaGreatDoor
/-
  An enum is read: the contract.
-/
namespace Go.Proofs.YtipaangiehdgkaaGreatDoor
set_option maxRecDepth 100000

open Go.RowKit

def VC (v : Vl) : List Value := [.string (txt v.name), .int .i64 v.n, .int .i64 v.at_]
def vlv (l : List Vl) : List Value := l.flatMap VC
end Go.Proofs.YtipaangiehdgkaaGreatDoor
/-
  A file is read: its rows of messages and of enums; the contract.
-/
namespace Go.Proofs.YtipaangiehdgkaaGreatDoor
set_option maxRecDepth 100000

open Go.RowKit

def MC (m : Ms) (vF vO vR : Value) : List Value := [.string (txt m.name), vF, vO, vR, .int .i64 m.at_]
def EC (e : En) (vV : Value) : List Value := [.string (txt e.name), vV, .int .i64 e.at_]
end Go.Proofs.YtipaangiehdgkaaGreatDoor
