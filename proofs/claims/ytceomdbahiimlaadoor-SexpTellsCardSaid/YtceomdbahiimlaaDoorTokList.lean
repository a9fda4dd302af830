/-
  Slices of tokens that read as lists; the contract of the function that holds two of them against each other.
-/
import Derived.Test.YtceomdbahiimlaaDoorTokBox
import Derived.BigQuiet
namespace Go.Proofs.YtceomdbahiimlaaDoor
set_option maxRecDepth 100000

open Go.RowKit

/-- A token's cells. -/
def TC (t : T) : List Value := [.int .i64 t.kind, .string (txt t.text), .int .i64 t.num, .int .i64 t.at_]
def tv (l : List T) : List Value := l.flatMap TC
theorem tv_append (a b : List T) : tv (a ++ b) = tv a ++ tv b := by simp [tv]
theorem tv_cons (r : T) (l : List T) : tv (r :: l) = TC r ++ tv l := by simp [tv]
theorem tv_length (a : List T) : (tv a).length = a.length * 4 := by
  induction a with
  | nil => rfl
  | cons r a ih => rw [tv_cons, List.length_append, ih]; simp [TC]; omega
theorem tv_get : ∀ (l : List T) (k j : Nat) (r : T), l[k]? = some r → j < 4 → (tv l)[k * 4 + j]? = (TC r)[j]?
  | [], k, j, r, h, _ => by simp at h
  | x :: l, 0, j, r, h, hj => by
    obtain rfl : x = r := by simpa using h
    rw [tv_cons, Nat.zero_mul, Nat.zero_add, List.getElem?_append_left (by simp [TC]; omega)]
  | x :: l, k + 1, j, r, h, hj => by
    rw [tv_cons, List.getElem?_append_right (by simp [TC]; omega)]
    rw [show (k + 1) * 4 + j - (TC x).length = k * 4 + j by simp [TC]; omega]
    exact tv_get l k j r (by simpa using h) hj
theorem tv_one (a : List T) : ∀ u ∈ tv a, u.oneCell' = true := by
  intro u hu
  obtain ⟨r, _, hr⟩ := List.mem_flatMap.1 hu
  simp only [TC, List.mem_cons, List.not_mem_nil, or_false] at hr
  rcases hr with rfl | rfl | rfl | rfl <;> rfl
/-- A slice of tokens that reads as the list l. -/
def SlT (w : World) (A : Option Addr) (c : Nat) (l : List T) : Prop := Sl w A l.length c 4 (tv l)
theorem SlT.on {w w' : World} {A : Option Addr} {c : Nat} {l : List T} (h : SlT w A c l) (hb : Below w.heap.size w w') : SlT w' A c l := Sl.on h hb
theorem SlT.of_own {w : World} {base : Nat} {e : TypeId} {v : Value} {l : List T} (h : w.ownsRow base e 4 v l.length (tv l)) : ∃ A c, v = .slice A l.length c ∧ SlT w A c l := Sl.of_own h
/-- The token at k: its address, and its cells. -/
theorem SlT.at_ {w : World} {A : Option Addr} {c : Nat} {l : List T} (h : SlT w A c l) {k : Nat} (hk : k < l.length) : ∃ ad r, A = some ad ∧ ad.block < w.heap.size ∧ l[k]? = some r ∧
    w.cell? (ad.add (k * 4)) = some (.int .i64 r.kind) ∧ w.cell? ⟨(ad.add (k * 4)).block, (ad.add (k * 4)).off + 1, none⟩ = some (.string (txt r.text)) ∧ w.cell? ⟨(ad.add (k * 4)).block, (ad.add (k * 4)).off + 2, none⟩ = some (.int .i64 r.num) ∧
    w.cell? ⟨(ad.add (k * 4)).block, (ad.add (k * 4)).off + 3, none⟩ = some (.int .i64 r.at_) := by
  obtain ⟨ad, rfl, hb, hcell⟩ := Sl.there h (by omega)
  have hg : l[k]? = some l[k] := List.getElem?_eq_getElem hk
  have hadd : ∀ j : Nat, 0 < j → (⟨(ad.add (k * 4)).block, (ad.add (k * 4)).off + j, none⟩ : Addr) = ad.add (k * 4 + j) := fun j hj => by
    rw [← add_twice]
    cases j with
    | zero => omega
    | succ j => simp [Addr.add]
  refine ⟨ad, l[k], rfl, hb, hg, ?_, ?_, ?_, ?_⟩
  · exact hcell (k * 4) _ (by have := tv_get l k 0 _ hg (by omega); rw [Nat.add_zero] at this; rw [this]; rfl)
  · rw [hadd 1 (by omega)]; exact hcell _ _ (by rw [tv_get l k 1 _ hg (by omega)]; rfl)
  · rw [hadd 2 (by omega)]; exact hcell _ _ (by rw [tv_get l k 2 _ hg (by omega)]; rfl)
  · rw [hadd 3 (by omega)]; exact hcell _ _ (by rw [tv_get l k 3 _ hg (by omega)]; rfl)
theorem ttake_ne {l m : List T} {k : Nat} {x y : T} (hx : l[k]? = some x) (hy : m[k]? = some y) (hne : x ≠ y) : l ≠ m := by
  rintro rfl
  rw [hx] at hy
  exact hne (by injection hy)
theorem ttake_next {l m : List T} {k : Nat} {x : T} (hx : l[k]? = some x) (hy : m[k]? = some x) (h : l.take k = m.take k) : l.take (k + 1) = m.take (k + 1) := by
  rw [List.take_add_one, List.take_add_one, h, hx, hy]
instance : DecidableEq T := fun a b => by
  obtain ⟨a1, a2, a3, a4⟩ := a
  obtain ⟨b1, b2, b3, b4⟩ := b
  exact decidable_of_iff (a1 = b1 ∧ a2 = b2 ∧ a3 = b3 ∧ a4 = b4) (by simp)
theorem txt_ne {a b : List UInt8} (h : a ≠ b) : ((txt a).toList == (txt b).toList) = false := by
  rw [beq_eq_false_iff_ne, Lib.toList_data, Lib.toList_data, txt_list, txt_list]; exact h

end Go.Proofs.YtceomdbahiimlaaDoor
