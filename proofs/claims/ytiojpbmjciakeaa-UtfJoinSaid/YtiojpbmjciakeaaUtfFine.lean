/-
  Whether bytes are signs from one place to another one, and whether a text is less than another one: the contracts, of the program's functions and of the document's answers.
-/
import Derived.Test.YtiojpbmjciakeaaUtfFirst
import Derived.Deep.QuietTactic
import Derived.BigQuiet
namespace Go.Proofs.Ytiojpbmjciakeaa
open Go.RowKit

/-- Whether bytes are signs from one place to another one. -/
def fineB (l : List UInt8) (a u : Int) : Bool := decide (0 ≤ a ∧ a ≤ u ∧ u ≤ l.length) && first ((l.drop a.toNat).take (u.toNat - a.toNat)) == u.toNat - a.toNat

theorem Sl.part {w : World} {A : Option Addr} {n c : Nat} {xs : List Value} (h : Sl w A n c 1 xs) {i j : Nat} (hij : i ≤ j) (hj : j ≤ n) : Sl w (if i = c then A else A.map (·.add i)) (j - i) (c - i) 1 ((xs.drop i).take (j - i)) := by
  have hl := h.len
  have hle := h.le
  refine ⟨by rw [List.length_take, List.length_drop]; omega, by omega, by have := h.cap; omega, ?_, ?_, ?_⟩
  · intro hA
    have : A = none := by
      cases A with
      | none => rfl
      | some ad => split at hA <;> simp at hA
    have := h.nil this
    omega
  · intro ad ha hn
    rw [if_neg (by omega)] at ha
    obtain ⟨ad0, rfl, rfl⟩ := Option.map_eq_some_iff.1 ha
    rw [add_same_block]
    exact h.old ad0 rfl (by omega)
  · intro ad ha k u hu
    rw [List.getElem?_take] at hu
    split at hu
    · rw [if_neg (by omega)] at ha
      obtain ⟨ad0, rfl, rfl⟩ := Option.map_eq_some_iff.1 ha
      rw [add_twice]
      exact h.cell ad0 rfl _ _ (by rw [← List.getElem?_drop]; exact hu)
    · cases hu
theorem bs_part (l : List UInt8) (i n : Nat) : ((bs l).drop i).take n = bs ((l.drop i).take n) := by simp [bs]

theorem fine_eq (l : List UInt8) (i j : Nat) (hij : i ≤ j) (hj : j ≤ l.length) : fineB l i j = ((first ((l.drop i).take (j - i)) : Int) == (j : Int) - (i : Int)) := by
  unfold fineB
  rw [decide_eq_true (by omega), Bool.true_and, Bool.eq_iff_iff]
  simp only [beq_iff_eq, Int.toNat_natCast]
  omega

set_option maxRecDepth 1000000 in
theorem fine_any (A : Option Addr) (c : Nat) (l : List UInt8) (hl : l.length ≤ 100000) (a u : Int) (w : World) (hr : SlB w A c l) :
    Calls Try.prog 9 #[.slice A l.length c, .int .i64 a, .int .i64 u] w fun e w' => e = .returned (.bool (fineB l a u)) ∧ Below w.heap.size w w' := by
  by_cases h0 : 0 ≤ a
  · by_cases h1 : a ≤ u
    · by_cases h2 : u ≤ l.length
      · obtain ⟨i, rfl⟩ := Int.eq_ofNat_of_zero_le h0
        obtain ⟨j, rfl⟩ := Int.eq_ofNat_of_zero_le (by omega : 0 ≤ u)
        have hij : i ≤ j := by omega
        have hj : j ≤ l.length := by omega
        have hjc : j ≤ c := by have := hr.le; omega
        have hlen : ((l.drop i).take (j - i)).length = j - i := by rw [List.length_take, List.length_drop]; omega
        have d0 : decide ((i : Int) < 0) = false := by simp
        have d1 : decide (j < i) = false := by simp; omega
        have d2 : decide (l.length < j) = false := by simp; omega
        have hp := Sl.part hr hij hj
        rw [bs_part] at hp
        have HF := Lib.hid (fine_eq l i j hij hj)
        generalize (l.drop i).take (j - i) = m at *
        have HL := Lib.hid hlen
        have hm : m.length ≤ 100000 := by omega
        clear hlen h0 h1 h2
        by_cases hci : i = c
        · rw [if_pos hci] at hp
          have hp : SlB w A (c - i) m := by unfold SlB; rw [HL.out]; exact hp
          have H := first_any A (c - i) m hm w hp
          rw [HL.out] at H
          have := hr.le
          obtain rfl : j = i := by omega
          rw [← hci, Nat.sub_self] at H
          have HH := Lib.hid H
          have HC := Lib.hid hci
          clear hci H
          go_enter Try.func9, Try.ntmps9
          go_wp2_with fail
          · refine (HH.out).mono ?_
            rintro e w1 ⟨rfl, hb⟩
            go_wp2
            go_ret
            exact ⟨ret_bool (by rw [HF.out]; simp), hb⟩
          · exfalso
            rename_i h
            exact h HC.out.symm
        · rw [if_neg hci] at hp
          have hp : SlB w (A.map (·.add i)) (c - i) m := by unfold SlB; rw [HL.out]; exact hp
          have H := Lib.hid (first_any (A.map (·.add i)) (c - i) m hm w hp)
          rw [HL.out] at H
          have HC := Lib.hid hci
          clear hci
          go_enter Try.func9, Try.ntmps9
          go_wp2_with fail
          · exfalso
            rename_i h
            exact HC.out h.symm
          · refine (H.out).mono ?_
            rintro e w1 ⟨rfl, hb⟩
            go_wp2
            go_ret
            exact ⟨ret_bool HF.out.symm, hb⟩
      · have HF : Hid (fineB l a u = false) := Lib.hid (by simp [fineB, h2])
        have d0 : decide (a < 0) = false := by simp; omega
        have d1 : decide (u < a) = false := by simp; omega
        have d2 : decide ((l.length : Int) < u) = true := by simp; omega
        clear h0 h1 h2
        go_enter Try.func9, Try.ntmps9
        go_wp2
        go_ret
        exact ⟨ret_bool HF.out.symm, Below.refl _ _⟩
    · have HF : Hid (fineB l a u = false) := Lib.hid (by simp [fineB, h1])
      have d0 : decide (a < 0) = false := by simp; omega
      have d1 : decide (u < a) = true := by simp; omega
      clear h0 h1
      go_enter Try.func9, Try.ntmps9
      go_wp2
      go_ret
      exact ⟨ret_bool HF.out.symm, Below.refl _ _⟩
  · have HF : Hid (fineB l a u = false) := Lib.hid (by simp [fineB, h0])
    have d0 : decide (a < 0) = true := by simp; omega
    clear h0
    go_enter Try.func9, Try.ntmps9
    go_wp2
    go_ret
    exact ⟨ret_bool HF.out.symm, Below.refl _ _⟩
end Go.Proofs.Ytiojpbmjciakeaa
