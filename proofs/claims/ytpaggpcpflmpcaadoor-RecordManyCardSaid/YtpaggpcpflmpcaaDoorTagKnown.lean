/-
  The wire types that there are: the contracts of the two functions that tell them.
-/
import Derived.Test.YtpaggpcpflmpcaaDoorVars
namespace Go.Proofs.YtpaggpcpflmpcaaDoor
open Go.RowKit

def wiresC : Array Value := #[.int .i64 0, .int .i64 1, .int .i64 2, .int .i64 5]
def Wires (w : World) : Prop := TabAt w 0 wiresC
theorem Wires.on {w w' : World} (h : Wires w) (hb : Below w.heap.size w w') : Wires w' := TabAt.on h hb

def knownB (i : Int) : Bool := decide (i = 0 ∨ i = 1 ∨ i = 2 ∨ i = 5)

def KnownRel (i : Int) (v : Value) : Prop := ∃ k : Nat, v = .int .i64 k ∧ k ≤ 4 ∧ (0 < k → i ≠ 0) ∧ (1 < k → i ≠ 1) ∧ (2 < k → i ≠ 2) ∧ (3 < k → i ≠ 5)

set_option maxRecDepth 1000000 in
theorem known_any (i : Int) (w : World) (T : Wires w) :
    Calls Tryd.prog 39 #[.int .i64 i] w fun e w' => e = .returned (.bool (knownB i)) ∧ w = w' := by
  obtain ⟨tt, fr, hT⟩ := T
  go_enter Tryd.func39, Tryd.ntmps39
  go_wp2_with (refine wpList_load_row rfl 63 _ rfl 0 rfl tt _ fr _ hT Tryd.underlying63 rfl (by kernel_rfl) ?_)
  go_loop [6] (fun v => KnownRel i v) (fun v => 4 - (intOf v).toNat)
  case atStart => exact ⟨0, rfl, by omega, by omega, by omega, by omega, by omega⟩
  case round =>
    obtain ⟨k, rfl, hk, h0, h1, h2, h3⟩ := hrel
    have hc : k = 0 ∨ k = 1 ∨ k = 2 ∨ k = 3 ∨ k = 4 := by omega
    have e0 : (Instr.index 63 (.agg wiresC) (.int .i64 0)).run Tryd.prog w = .ok (.int .i64 0) w := by kernel_rfl
    have e1 : (Instr.index 63 (.agg wiresC) (.int .i64 1)).run Tryd.prog w = .ok (.int .i64 1) w := by kernel_rfl
    have e2 : (Instr.index 63 (.agg wiresC) (.int .i64 2)).run Tryd.prog w = .ok (.int .i64 2) w := by kernel_rfl
    have e3 : (Instr.index 63 (.agg wiresC) (.int .i64 3)).run Tryd.prog w = .ok (.int .i64 5) w := by kernel_rfl
    rcases hc with rfl | rfl | rfl | rfl | rfl
    · by_cases h : i = 0
      · have hB : ((0 : Int) == i) = true := by simp [h]
        go_wp2
        go_ret
        exact ⟨ret_bool (by simp [knownB, h]), rfl⟩
      · have hB : ((0 : Int) == i) = false := by simp; omega
        go_wp2
        exact ⟨⟨1, rfl, by omega, by omega, by omega, by omega, by omega⟩, by simp [intOf]⟩
    · by_cases h : i = 1
      · have hB : ((1 : Int) == i) = true := by simp [h]
        go_wp2
        go_ret
        exact ⟨ret_bool (by simp [knownB, h]), rfl⟩
      · have hB : ((1 : Int) == i) = false := by simp; omega
        go_wp2
        exact ⟨⟨2, rfl, by omega, by omega, by omega, by omega, by omega⟩, by simp [intOf]⟩
    · by_cases h : i = 2
      · have hB : ((2 : Int) == i) = true := by simp [h]
        go_wp2
        go_ret
        exact ⟨ret_bool (by simp [knownB, h]), rfl⟩
      · have hB : ((2 : Int) == i) = false := by simp; omega
        go_wp2
        exact ⟨⟨3, rfl, by omega, by omega, by omega, by omega, by omega⟩, by simp [intOf]⟩
    · by_cases h : i = 5
      · have hB : ((5 : Int) == i) = true := by simp [h]
        go_wp2
        go_ret
        exact ⟨ret_bool (by simp [knownB, h]), rfl⟩
      · have hB : ((5 : Int) == i) = false := by simp; omega
        go_wp2
        exact ⟨⟨4, rfl, by omega, by omega, by omega, by omega, by omega⟩, by simp [intOf]⟩
    · go_wp2
      go_ret
      refine ⟨ret_bool ?_, rfl⟩
      have : ¬ (i = 0 ∨ i = 1 ∨ i = 2 ∨ i = 5) := by omega
      simp [knownB, this]

theorem rknown_any (i : Int) (w : World) :
    Calls Tryd.prog 34 #[.int .i64 i] w fun e w' => e = .returned (.bool (knownB i)) ∧ w = w' := by
  go_enter Tryd.func34, Tryd.ntmps34
  go_wp2
  all_goals (go_ret; refine ⟨ret_bool ?_, rfl⟩; unfold knownB; first | (simp_all; done) | (rw [Bool.eq_iff_iff]; simp [or_assoc]))
end Go.Proofs.YtpaggpcpflmpcaaDoor
