/-
  Blanks: the contracts of the functions that go past them.
-/
import Derived.Test.YtipaangiehdgkaaGreatDoorTabKit
import Derived.BigQuiet
import Derived.Deep.QuietTactic
import Derived.Great.BuildSlice
import Derived.Deep.WholeRow
import Derived.Laws.CopyOwn
import Derived.Test.YtipaangiehdgkaaGreatDoorConvSmall
namespace Go.Proofs.YtipaangiehdgkaaGreatDoor
set_option maxRecDepth 100000

open Go.RowKit

end Go.Proofs.YtipaangiehdgkaaGreatDoor
/-
  Bytes by their sorts: the contracts of the small functions that tell them.
-/
namespace Go.Proofs.YtipaangiehdgkaaGreatDoor
set_option maxRecDepth 100000

open Go.RowKit

end Go.Proofs.YtipaangiehdgkaaGreatDoor
/-
  Blanks, signs, halves of bytes and digits, by the document's own functions: their contracts.
-/
namespace Go.Proofs.YtipaangiehdgkaaGreatDoor
set_option maxRecDepth 100000

open Go.RowKit

end Go.Proofs.YtipaangiehdgkaaGreatDoor
/-
  A number's digits, and the number of digits, by the document's own functions: their contracts.
-/
namespace Go.Proofs.YtipaangiehdgkaaGreatDoor
set_option maxRecDepth 100000

open Go.RowKit

end Go.Proofs.YtipaangiehdgkaaGreatDoor
/-
  The number of digits, with a sign or not, by the document's own function: its contract.
-/
namespace Go.Proofs.YtipaangiehdgkaaGreatDoor
set_option maxRecDepth 100000

open Go.RowKit

def NumPost (O : Option Int) (w : World) (e : Ending) (w' : World) : Prop := ∃ v, e = .returned (.tuple #[.int .i64 v, .bool O.isSome]) ∧ (∀ x, O = some x → v = x) ∧ Below w.heap.size w w'
theorem NumPost.no {O : Option Int} {w w' : World} (h : O = none) (hb : Below w.heap.size w w') : NumPost O w (.returned (.tuple #[.int .i64 0, .bool false])) w' := by
  subst h; exact ⟨0, rfl, fun x hx => (by cases hx), hb⟩
end Go.Proofs.YtipaangiehdgkaaGreatDoor
/-
  Marks within a string: the contracts of the functions that tell what they mean.
-/
namespace Go.Proofs.YtipaangiehdgkaaGreatDoor
set_option maxRecDepth 100000

open Go.RowKit

end Go.Proofs.YtipaangiehdgkaaGreatDoor
/-
  Tokens as they lie in memory: boxes of one token, results of which the first is one.
-/
namespace Go.Proofs.YtipaangiehdgkaaGreatDoor
set_option maxRecDepth 100000

open Go.RowKit

theorem results_row_tmp1 {P : Program} {fn : Func} {p u : Tmp} {ty : TypeId} (h : fn.results = #[.cell p ty, .tmp u]) (tmps : Array Value) (w : World) (g : Nat) (t : TypeId) (cs : Array Value) (fr : Nat × Nat) (d : TypeDesc)
    (hp : tmps.getD p undef = .pointer (some ⟨g, 0, none⟩)) (hg : w.heap[g]? = some (.cells cs t fr))
    (hu : P.underlying ty = some d) (hd : (match d with | .struct _ | .array _ _ => true | _ => false) = true) (hi : (P.info? ty).map (·.size) = some cs.size) :
    (results fn tmps).run P w = .ok (.tuple #[.agg cs, tmps.getD u undef]) w := by
  have hp' : tmps[p]?.getD undef = .pointer (some ⟨g, 0, none⟩) := by simpa using hp
  simp [results, h, hp', asAddr, run_loadVar_row w g t ty cs fr d hg hu hd hi]

/-- A row of the call's own stays where nothing old turns. -/
theorem own_below {w w' : World} {base : Nat} {e : TypeId} {size : Nat} {v : Value} {n : Nat} {xs : List Value} (h : w.ownsRow base e size v n xs) (hb : Below w.heap.size w w') : w'.ownsRow base e size v n xs := by
  rcases h with ⟨hl, ⟨rfl, rfl⟩ | ⟨g, cap, cur, rfl, h1, h2, h3⟩⟩
  · exact ⟨hl, .inl ⟨rfl, rfl⟩⟩
  · exact ⟨hl, .inr ⟨g, cap, cur, rfl, h1, (hb.block g (Array.getElem?_eq_some_iff.1 h2).1).trans h2, h3⟩⟩
def TokV (kind : Nat) (text : ByteArray) (n : Int) (p : Nat) : Value := .agg #[.int .i64 kind, .string text, .int .i64 n, .int .i64 p]

/-- What is told of a token that begins at a place. -/
def SV (o : Option Tk) (p : Nat) : Value := match o with
  | none => .tuple #[TokV 0 ⟨#[]⟩ 0 0, .int .i64 0, .bool false]
  | some t => .tuple #[TokV t.kind (txt t.text) t.num p, .int .i64 ((p + t.more + 1 : Nat) : Int), .bool true]
end Go.Proofs.YtipaangiehdgkaaGreatDoor
/-
  Slices of tokens that read as lists; the contract of the function that holds two of them against each other.
-/
namespace Go.Proofs.YtipaangiehdgkaaGreatDoor
set_option maxRecDepth 100000

open Go.RowKit

/-- A token's cells. -/
def TC (t : T) : List Value := [.int .i64 t.kind, .string (txt t.text), .int .i64 t.num, .int .i64 t.at_]
def tv (l : List T) : List Value := l.flatMap TC
theorem tv_cons (r : T) (l : List T) : tv (r :: l) = TC r ++ tv l := by simp [tv]
theorem tv_get : ∀ (l : List T) (k j : Nat) (r : T), l[k]? = some r → j < 4 → (tv l)[k * 4 + j]? = (TC r)[j]?
  | [], k, j, r, h, _ => by simp at h
  | x :: l, 0, j, r, h, hj => by
    obtain rfl : x = r := by simpa using h
    rw [tv_cons, Nat.zero_mul, Nat.zero_add, List.getElem?_append_left (by simp [TC]; omega)]
  | x :: l, k + 1, j, r, h, hj => by
    rw [tv_cons, List.getElem?_append_right (by simp [TC]; omega)]
    rw [show (k + 1) * 4 + j - (TC x).length = k * 4 + j by simp [TC]; omega]
    exact tv_get l k j r (by simpa using h) hj
/-- A slice of tokens that reads as the list l. -/
def SlT (w : World) (A : Option Addr) (c : Nat) (l : List T) : Prop := Sl w A l.length c 4 (tv l)
theorem SlT.on {w w' : World} {A : Option Addr} {c : Nat} {l : List T} (h : SlT w A c l) (hb : Below w.heap.size w w') : SlT w' A c l := Sl.on h hb
theorem SlT.of_own {w : World} {base : Nat} {e : TypeId} {v : Value} {l : List T} (h : w.ownsRow base e 4 v l.length (tv l)) : ∃ A c, v = .slice A l.length c ∧ SlT w A c l := Sl.of_own h
/-- The token at k: its address, and its cells. -/
theorem SlT.at_ {w : World} {A : Option Addr} {c : Nat} {l : List T} (h : SlT w A c l) {k : Nat} (hk : k < l.length) : ∃ ad r, A = some ad ∧ ad.block < w.heap.size ∧ l[k]? = some r ∧
    w.cell? (ad.add (k * 4)) = some (.int .i64 r.kind) ∧ w.cell? ⟨(ad.add (k * 4)).block, (ad.add (k * 4)).off + 1, none⟩ = some (.string (txt r.text)) ∧ w.cell? ⟨(ad.add (k * 4)).block, (ad.add (k * 4)).off + 2, none⟩ = some (.int .i64 r.num) ∧
    w.cell? ⟨(ad.add (k * 4)).block, (ad.add (k * 4)).off + 3, none⟩ = some (.int .i64 r.at_) := by
  obtain ⟨ad, rfl, hb, hcell⟩ := Sl.there h (by omega)
  have hg : l[k]? = some l[k] := List.getElem?_eq_getElem hk
  have hadd : ∀ j : Nat, 0 < j → (⟨(ad.add (k * 4)).block, (ad.add (k * 4)).off + j, none⟩ : Addr) = ad.add (k * 4 + j) := fun j hj => by
    rw [← add_twice]
    cases j with
    | zero => omega
    | succ j => simp [Addr.add]
  refine ⟨ad, l[k], rfl, hb, hg, ?_, ?_, ?_, ?_⟩
  · exact hcell (k * 4) _ (by have := tv_get l k 0 _ hg (by omega); rw [Nat.add_zero] at this; rw [this]; rfl)
  · rw [hadd 1 (by omega)]; exact hcell _ _ (by rw [tv_get l k 1 _ hg (by omega)]; rfl)
  · rw [hadd 2 (by omega)]; exact hcell _ _ (by rw [tv_get l k 2 _ hg (by omega)]; rfl)
  · rw [hadd 3 (by omega)]; exact hcell _ _ (by rw [tv_get l k 3 _ hg (by omega)]; rfl)
instance : DecidableEq T := fun a b => by
  obtain ⟨a1, a2, a3, a4⟩ := a
  obtain ⟨b1, b2, b3, b4⟩ := b
  exact decidable_of_iff (a1 = b1 ∧ a2 = b2 ∧ a3 = b3 ∧ a4 = b4) (by simp)
end Go.Proofs.YtipaangiehdgkaaGreatDoor
/-
  The parser as it lies in memory; the contracts of what only looks at it.
-/
namespace Go.Proofs.YtipaangiehdgkaaGreatDoor
set_option maxRecDepth 100000

open Go.RowKit

theorem heap_cell {w : World} {g : Nat} {cs : Array Value} {t : TypeId} {fr : Nat × Nat} (h : w.heap[g]? = some (.cells cs t fr)) (j : Nat) : w.cell? ⟨g, j, none⟩ = cs[j]? := by simp [World.cell?, h]
theorem heap_free {w : World} {g : Nat} {cs : Array Value} {t : TypeId} (h : w.heap[g]? = some (.cells cs t (0, 0))) (j : Nat) : w.frozen? ⟨g, j, none⟩ = false := by simp [World.frozen?, h]
theorem heap_setCell_same {w : World} {g j : Nat} {cs : Array Value} {t : TypeId} {fr : Nat × Nat} (h : w.heap[g]? = some (.cells cs t fr)) (v : Value) : (w.setCell ⟨g, j, none⟩ v).heap[g]? = some (.cells (cs.setIfInBounds j v) t fr) := by
  rw [setCell_eq_setRow w g j cs t fr v h]
  exact setRow_heap w g cs _ t fr h
/-- As a slice of tokens stays where no block of its own is written. -/
theorem SlT.kept {w w' : World} {A : Option Addr} {c : Nat} {l : List T} (h : SlT w A c l) (hs : w.heap.size ≤ w'.heap.size) (hb : ∀ ad, A = some ad → w'.heap[ad.block]? = w.heap[ad.block]?) : SlT w' A c l := by
  refine ⟨h.len, h.le, h.cap, h.nil, fun ad ha hn => Nat.lt_of_lt_of_le (h.old ad ha hn) hs, fun ad ha k u hu => ?_⟩
  have hk : w'.heap[(ad.add k).block]? = w.heap[(ad.add k).block]? := by rw [add_same_block]; exact hb ad ha
  exact (World.cell?_of_block hk).trans (h.cell ad ha k u hu)
/-- The first token, as it lies there. -/
theorem SlT.head {w : World} {A : Option Addr} {c : Nat} {t : T} {l : List T} (h : SlT w A c (t :: l)) : ∃ ad, A = some ad ∧ w.cell? ad = some (.int .i64 t.kind) ∧ w.cell? ⟨ad.block, ad.off + 1, none⟩ = some (.string (txt t.text)) ∧
    w.cell? ⟨ad.block, ad.off + 2, none⟩ = some (.int .i64 t.num) ∧ w.cell? ⟨ad.block, ad.off + 3, none⟩ = some (.int .i64 t.at_) := by
  obtain ⟨ad, r, rfl, hb, hr, p0, p1, p2, p3⟩ := SlT.at_ h (k := 0) (by simp)
  obtain rfl : t = r := by simpa using hr
  simp only [Nat.zero_mul, add_nothing] at p0 p1 p2 p3
  exact ⟨ad, rfl, p0, p1, p2, p3⟩
end Go.Proofs.YtipaangiehdgkaaGreatDoor
/-
  What the parser sees next: the contracts.
-/
namespace Go.Proofs.YtipaangiehdgkaaGreatDoor
set_option maxRecDepth 100000

open Go.RowKit

end Go.Proofs.YtipaangiehdgkaaGreatDoor
