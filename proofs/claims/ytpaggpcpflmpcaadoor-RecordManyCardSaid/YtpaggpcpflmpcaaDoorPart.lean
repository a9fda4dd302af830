/-
  A piece of a slice of bytes, from one place to another one.
-/
import Derived.Test.YtpaggpcpflmpcaaDoorBytes
namespace Go.Proofs.YtpaggpcpflmpcaaDoor
open Go.RowKit

theorem Sl.part {w : World} {A : Option Addr} {n c : Nat} {xs : List Value} (h : Sl w A n c 1 xs) {i j : Nat} (hij : i ≤ j) (hj : j ≤ n) : Sl w (if i = c then A else A.map (·.add i)) (j - i) (c - i) 1 ((xs.drop i).take (j - i)) := by
  have hl := h.len
  have hle := h.le
  refine ⟨by rw [List.length_take, List.length_drop]; omega, by omega, by have := h.cap; omega, ?_, ?_, ?_⟩
  · intro hA
    have : A = none := by
      cases A with
      | none => rfl
      | some ad => split at hA <;> simp at hA
    have := h.nil this
    omega
  · intro ad ha hn
    rw [if_neg (by omega)] at ha
    obtain ⟨ad0, rfl, rfl⟩ := Option.map_eq_some_iff.1 ha
    rw [add_same_block]
    exact h.old ad0 rfl (by omega)
  · intro ad ha k u hu
    rw [List.getElem?_take] at hu
    split at hu
    · rw [if_neg (by omega)] at ha
      obtain ⟨ad0, rfl, rfl⟩ := Option.map_eq_some_iff.1 ha
      rw [add_twice]
      exact h.cell ad0 rfl _ _ (by rw [← List.getElem?_drop]; exact hu)
    · cases hu
theorem bs_part (l : List UInt8) (i n : Nat) : ((bs l).drop i).take n = bs ((l.drop i).take n) := by simp [bs]
/-- A piece, where it does not begin at the capacity's end. -/
theorem SlB.part {w : World} {A : Option Addr} {c : Nat} {l : List UInt8} (h : SlB w A c l) {i j : Nat} (hij : i ≤ j) (hj : j ≤ l.length) (hc : i ≠ c) : SlB w (A.map (·.add i)) (c - i) ((l.drop i).take (j - i)) := by
  have hp := Sl.part h hij hj
  rw [bs_part, if_neg hc] at hp
  unfold SlB
  rw [show ((l.drop i).take (j - i)).length = j - i by rw [List.length_take, List.length_drop]; omega]
  exact hp
/-- .. where it does. -/
theorem SlB.part_cap {w : World} {A : Option Addr} {c : Nat} {l : List UInt8} (h : SlB w A c l) {i j : Nat} (hij : i ≤ j) (hj : j ≤ l.length) (hc : i = c) : SlB w A (c - i) ((l.drop i).take (j - i)) := by
  have hp := Sl.part h hij hj
  rw [bs_part, if_pos hc] at hp
  unfold SlB
  rw [show ((l.drop i).take (j - i)).length = j - i by rw [List.length_take, List.length_drop]; omega]
  exact hp
end Go.Proofs.YtpaggpcpflmpcaaDoor
