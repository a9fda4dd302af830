/-
  The contracts of the small tests: places that may be, sizes that there are.
-/
import Derived.Test.YtpaggpcpflmpcaaDoorBytes
import Derived.Deep.QuietTactic
import Derived.BigQuiet
namespace Go.Proofs.YtpaggpcpflmpcaaDoor
open Go.RowKit

def mayB (at' upto : Int) (n : Nat) : Bool := decide (0 ≤ at' ∧ at' ≤ upto ∧ upto ≤ n)
theorem mayB_true {a u : Int} {n : Nat} : mayB a u n = true ↔ 0 ≤ a ∧ a ≤ u ∧ u ≤ n := by simp [mayB]
theorem mayB_false {a u : Int} {n : Nat} : mayB a u n = false ↔ ¬ (0 ≤ a ∧ a ≤ u ∧ u ≤ n) := by simp [mayB]
def sizeB (s : Int) : Bool := decide (s = 4 ∨ s = 8)

theorem mayBe_any (A : Option Addr) (n c : Nat) (a u : Int) (w : World) (hn : n ≤ 9223372036854775807) :
    Calls Tryd.prog 38 #[.slice A n c, .int .i64 a, .int .i64 u] w fun e w' => e = .returned (.bool (mayB a u n)) ∧ w = w' := by
  by_cases h0 : 0 ≤ a
  · by_cases h1 : a ≤ u
    · by_cases h2 : u ≤ n
      all_goals
        have HF : Hid (mayB a u n = decide (u ≤ n)) := Lib.hid (by simp [mayB, h0, h1])
        go_enter Tryd.func38, Tryd.ntmps38
        go_wp2
        go_ret
        exact ⟨by rw [HF.out]; simp [h0, h1, h2], rfl⟩
    · have HF : Hid (mayB a u n = false) := Lib.hid (by simp [mayB, h0, h1])
      go_enter Tryd.func38, Tryd.ntmps38
      go_wp2
      go_ret
      exact ⟨by rw [HF.out]; simp [h0, h1], rfl⟩
  · have HF : Hid (mayB a u n = false) := Lib.hid (by simp [mayB, h0])
    go_enter Tryd.func38, Tryd.ntmps38
    go_wp2
    go_ret
    exact ⟨by rw [HF.out]; simp [h0], rfl⟩

theorem may_any (A : Option Addr) (n c : Nat) (a u : Int) (w : World) (hn : n ≤ 9223372036854775807) :
    Calls Tryd.prog 24 #[.slice A n c, .int .i64 a, .int .i64 u] w fun e w' => e = .returned (.bool (mayB a u n)) ∧ w = w' := by
  by_cases h0 : 0 ≤ a
  · by_cases h1 : a ≤ u
    · by_cases h2 : u ≤ n
      all_goals
        have HF : Hid (mayB a u n = decide (u ≤ n)) := Lib.hid (by simp [mayB, h0, h1])
        go_enter Tryd.func24, Tryd.ntmps24
        go_wp2
        go_ret
        exact ⟨by rw [HF.out]; simp [h0, h1, h2], rfl⟩
    · have HF : Hid (mayB a u n = false) := Lib.hid (by simp [mayB, h0, h1])
      go_enter Tryd.func24, Tryd.ntmps24
      go_wp2
      go_ret
      exact ⟨by rw [HF.out]; simp [h0, h1], rfl⟩
  · have HF : Hid (mayB a u n = false) := Lib.hid (by simp [mayB, h0])
    go_enter Tryd.func24, Tryd.ntmps24
    go_wp2
    go_ret
    exact ⟨by rw [HF.out]; simp [h0], rfl⟩

end Go.Proofs.YtpaggpcpflmpcaaDoor
