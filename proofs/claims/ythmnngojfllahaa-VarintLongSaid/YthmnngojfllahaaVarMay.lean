/-
  The contracts of the small tests: places that may be, sizes that there are.
-/
import Derived.Test.YthmnngojfllahaaBase
import Derived.Deep.QuietTactic
import Derived.BigQuiet
namespace Go.Proofs.Ythmnngojfllahaa
open Go.RowKit

def mayB (at' upto : Int) (n : Nat) : Bool := decide (0 ≤ at' ∧ at' ≤ upto ∧ upto ≤ n)
theorem mayB_true {a u : Int} {n : Nat} : mayB a u n = true ↔ 0 ≤ a ∧ a ≤ u ∧ u ≤ n := by simp [mayB]
theorem mayB_false {a u : Int} {n : Nat} : mayB a u n = false ↔ ¬ (0 ≤ a ∧ a ≤ u ∧ u ≤ n) := by simp [mayB]
def sizeB (s : Int) : Bool := decide (s = 4 ∨ s = 8)

theorem mayBe_any (A : Option Addr) (n c : Nat) (a u : Int) (w : World) (hn : n ≤ 9223372036854775807) :
    Calls Try.prog 22 #[.slice A n c, .int .i64 a, .int .i64 u] w fun e w' => e = .returned (.bool (mayB a u n)) ∧ w = w' := by
  by_cases h0 : 0 ≤ a
  · by_cases h1 : a ≤ u
    · by_cases h2 : u ≤ n
      all_goals
        have HF : Hid (mayB a u n = decide (u ≤ n)) := Lib.hid (by simp [mayB, h0, h1])
        go_enter Try.func22, Try.ntmps22
        go_wp2
        go_ret
        exact ⟨by rw [HF.out]; simp [h0, h1, h2], rfl⟩
    · have HF : Hid (mayB a u n = false) := Lib.hid (by simp [mayB, h0, h1])
      go_enter Try.func22, Try.ntmps22
      go_wp2
      go_ret
      exact ⟨by rw [HF.out]; simp [h0, h1], rfl⟩
  · have HF : Hid (mayB a u n = false) := Lib.hid (by simp [mayB, h0])
    go_enter Try.func22, Try.ntmps22
    go_wp2
    go_ret
    exact ⟨by rw [HF.out]; simp [h0], rfl⟩

theorem may_any (A : Option Addr) (n c : Nat) (a u : Int) (w : World) (hn : n ≤ 9223372036854775807) :
    Calls Try.prog 23 #[.slice A n c, .int .i64 a, .int .i64 u] w fun e w' => e = .returned (.bool (mayB a u n)) ∧ w = w' := by
  by_cases h0 : 0 ≤ a
  · by_cases h1 : a ≤ u
    · by_cases h2 : u ≤ n
      all_goals
        have HF : Hid (mayB a u n = decide (u ≤ n)) := Lib.hid (by simp [mayB, h0, h1])
        go_enter Try.func23, Try.ntmps23
        go_wp2
        go_ret
        exact ⟨by rw [HF.out]; simp [h0, h1, h2], rfl⟩
    · have HF : Hid (mayB a u n = false) := Lib.hid (by simp [mayB, h0, h1])
      go_enter Try.func23, Try.ntmps23
      go_wp2
      go_ret
      exact ⟨by rw [HF.out]; simp [h0, h1], rfl⟩
  · have HF : Hid (mayB a u n = false) := Lib.hid (by simp [mayB, h0])
    go_enter Try.func23, Try.ntmps23
    go_wp2
    go_ret
    exact ⟨by rw [HF.out]; simp [h0], rfl⟩

theorem isSize_any (s : Int) (w : World) :
    Calls Try.prog 24 #[.int .i64 s] w fun e w' => e = .returned (.bool (sizeB s)) ∧ w = w' := by
  by_cases h4 : s = 4
  · have h : ((s : Int) == 4) = true := by simp [h4]
    have HF : Hid (sizeB s = true) := Lib.hid (by simp [sizeB, h4])
    clear h4
    go_enter Try.func24, Try.ntmps24
    go_wp2
    go_ret
    exact ⟨by rw [HF.out]; rfl, rfl⟩
  · have h : ((s : Int) == 4) = false := by simp [h4]
    by_cases h8 : s = 8
    · have h' : ((s : Int) == 8) = true := by simp [h8]
      have HF : Hid (sizeB s = true) := Lib.hid (by simp [sizeB, h8])
      clear h4 h8
      go_enter Try.func24, Try.ntmps24
      go_wp2
      go_ret
      exact ⟨by rw [HF.out]; rfl, rfl⟩
    · have h' : ((s : Int) == 8) = false := by simp [h8]
      have HF : Hid (sizeB s = false) := Lib.hid (by simp [sizeB, h4, h8])
      clear h4 h8
      go_enter Try.func24, Try.ntmps24
      go_wp2
      go_ret
      exact ⟨by rw [HF.out]; rfl, rfl⟩
end Go.Proofs.Ythmnngojfllahaa
