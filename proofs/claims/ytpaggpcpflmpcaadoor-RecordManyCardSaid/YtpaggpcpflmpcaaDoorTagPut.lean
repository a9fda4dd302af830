/-
  What stands ahead of a field: the contract of the function that puts it, and of the document's own.
-/
import Derived.Test.YtpaggpcpflmpcaaDoorTagTells
import Derived.Test.YtpaggpcpflmpcaaDoorVarPuts
namespace Go.Proofs.YtpaggpcpflmpcaaDoor
open Go.RowKit

theorem own_mono {w : World} {base base' : Nat} {e : TypeId} {size : Nat} {v : Value} {n : Nat} {xs : List Value} (h : w.ownsRow base e size v n xs) (hb : base' ≤ base) : w.ownsRow base' e size v n xs := by
  rcases h with ⟨hl, ⟨rfl, rfl⟩ | ⟨g, cap, cur, rfl, h1, h2⟩⟩
  · exact ⟨hl, .inl ⟨rfl, rfl⟩⟩
  · exact ⟨hl, .inr ⟨g, cap, cur, rfl, Nat.le_trans hb h1, h2⟩⟩
def putB (no wire : Int) : Bool := decide (1 ≤ no ∧ no ≤ 536870911) && knownB wire
def putN (no wire : Int) : Nat := (8 * no + wire).toNat
def putL (no wire : Int) : List UInt8 := if putB no wire then vput (putN no wire) else []
theorem putB_iff {no wire : Int} : putB no wire = true ↔ (1 ≤ no ∧ no ≤ 536870911) ∧ (wire = 0 ∨ wire = 1 ∨ wire = 2 ∨ wire = 5) := by simp [putB, knownB]
theorem putL_yes {no wire : Int} (h : putB no wire = true) : putL no wire = vput (putN no wire) := by unfold putL; rw [if_pos h]
theorem putL_no {no wire : Int} (h : putB no wire = false) : putL no wire = [] := by unfold putL; rw [if_neg (by simp [h])]
theorem putN_lt {no wire : Int} (h : putB no wire = true) : putN no wire < 4294967296 := by
  have := putB_iff.1 h
  unfold putN
  omega
/-- The number that the code reckons, which may wrap round. -/
theorem wrap_nat (x : Int) : ∃ k : Nat, IntKind.u64.wrap x = (k : Int) ∧ k < 18446744073709551616 ∧ (k : Int) = x % 18446744073709551616 := by
  have hw : IntKind.u64.wrap x = x % 18446744073709551616 := by simp [IntKind.wrap, IntKind.signed, IntKind.bits]
  exact ⟨(x % 18446744073709551616).toNat, by omega, by omega, by omega⟩

theorem tellsN_yes {no wire : Int} (h : putB no wire = true) : (((tellsN (putN no wire)).1 : Nat) : Int) = no ∧ (((tellsN (putN no wire)).2.1 : Nat) : Int) = wire ∧ (tellsN (putN no wire)).2.2 = 0 := by
  have hp := putB_iff.1 h
  have h1 : ¬ (putN no wire / 8 = 0 ∨ 536870911 < putN no wire / 8) := by unfold putN; omega
  have hr : ((putN no wire % 8 : Nat) : Int) = wire := by unfold putN; omega
  have h2 : knownB ((putN no wire % 8 : Nat) : Int) = true := by rw [hr]; simpa [knownB] using hp.2
  unfold tellsN
  rw [if_neg h1, if_pos h2]
  refine ⟨?_, hr, rfl⟩
  unfold putN; simp only; omega
theorem tellsN_no {no wire : Int} (h : putB no wire = false) (n : Nat) (h1 : (((tellsN n).1 : Nat) : Int) = no) (h2 : (((tellsN n).2.1 : Nat) : Int) = wire) : (tellsN n).2.2 ≠ 0 := by
  intro h3
  rw [← Bool.not_eq_true, putB_iff] at h
  apply h
  clear h
  unfold tellsN at h1 h2 h3
  split at h1
  · rename_i hc
    rw [if_pos hc] at h3
    simp at h3
  · rename_i hc
    rw [if_neg hc] at h2 h3
    split at h1
    · rename_i hk
      rw [if_pos hk] at h2
      simp only at h1 h2
      rw [h2] at hk
      exact ⟨by omega, by simpa [knownB] using hk⟩
    · rename_i hk
      rw [if_neg hk] at h3
      simp at h3

set_option maxRecDepth 1000000 in
theorem tput_own (no wire : Int) (hn1 : -9223372036854775808 ≤ no) (hn2 : no ≤ 9223372036854775807) (hw1 : -9223372036854775808 ≤ wire) (hw2 : wire ≤ 9223372036854775807) (w : World) (T : Wires w) :
    Calls Tryd.prog 25 #[.int .i64 no, .int .i64 wire] w fun e w' => ∃ v, e = .returned (.tuple #[v, .bool (putB no wire)]) ∧ w'.ownsRow w.heap.size 5 1 v (putL no wire).length (bs (putL no wire)) ∧ Below w.heap.size w w' := by
  obtain ⟨k, hk, bk, ek⟩ := wrap_nat (IntKind.u64.wrap (8 * IntKind.u64.wrap no) + IntKind.u64.wrap wire)
  have ek2 : (k : Int) = (8 * no + wire) % 18446744073709551616 := by
    obtain ⟨a, ha, _, ea⟩ := wrap_nat no
    obtain ⟨b, hb, _, eb⟩ := wrap_nat wire
    rw [ha, hb] at ek
    obtain ⟨m, hm, _, em⟩ := wrap_nat (8 * (a : Int))
    rw [hm] at ek
    omega
  clear ek
  by_cases hB : putB no wire = true
  · have hkn : k = putN no wire := by have := putN_lt hB; have := putB_iff.1 hB; unfold putN at *; omega
    obtain ⟨t1, t2, t3⟩ := tellsN_yes hB
    rw [← hkn] at t1 t2 t3
    have hT : TV (tellsN k) = .agg #[.int .i64 no, .int .i64 wire, .int .i64 0] := by unfold TV; rw [t1, t2, t3]; rfl
    rw [putL_yes hB, hB, ← hkn]
    clear t1 t2 t3 hkn ek2
    go_enter Tryd.func25, Tryd.ntmps25
    go_wp2_with fail
    refine (tells_any k bk w T).mono ?_
    rintro e w1 ⟨rfl, hb⟩
    rw [hT]
    go_wp2_with fail
    refine (put_any k bk _).mono ?_
    rintro e w2 ⟨v, rfl, hown, hb2⟩
    go_wp2
    go_ret2
    exact ⟨v, rfl, own_mono hown hb.size, below_then hb hb2⟩
  · have hB : putB no wire = false := by simpa using hB
    have hT := tellsN_no hB k
    rw [putL_no hB, hB]
    have hG : ∃ x y z : Int, TV (tellsN k) = .agg #[.int .i64 x, .int .i64 y, .int .i64 z] ∧ (x = no → y = wire → z ≠ 0) := ⟨_, _, _, rfl, fun h1 h2 h3 => hT h1 h2 (by omega)⟩
    obtain ⟨x, y, z, hx, hne⟩ := hG
    clear hT ek2
    go_enter Tryd.func25, Tryd.ntmps25
    go_wp2_with fail
    refine (tells_any k bk w T).mono ?_
    rintro e w1 ⟨rfl, hb⟩
    rw [hx]
    go_wp2
    all_goals go_ret2
    all_goals exact ⟨_, rfl, World.ownsRow_nil _ _ _ _, hb⟩

set_option maxRecDepth 1000000 in
theorem rtput_own (no wire : Int) (w : World) :
    Calls Tryd.prog 28 #[.int .i64 no, .int .i64 wire] w fun e w' => ∃ v, e = .returned (.tuple #[v, .bool (putB no wire)]) ∧ w'.ownsRow w.heap.size 5 1 v (putL no wire).length (bs (putL no wire)) ∧ Below w.heap.size w w' := by
  by_cases h1 : no < 1
  · have hB : putB no wire = false := by rw [← Bool.not_eq_true, putB_iff]; omega
    rw [putL_no hB, hB]
    have b1 : decide (no < 1) = true := by simp [h1]
    go_enter Tryd.func28, Tryd.ntmps28
    go_wp2
    go_ret2
    exact ⟨_, rfl, World.ownsRow_nil _ _ _ _, Below.refl _ _⟩
  have b1 : decide (no < 1) = false := by simp; omega
  by_cases h2 : 536870911 < no
  · have hB : putB no wire = false := by rw [← Bool.not_eq_true, putB_iff]; omega
    rw [putL_no hB, hB]
    have b2 : decide (536870911 < no) = true := by simp [h2]
    go_enter Tryd.func28, Tryd.ntmps28
    go_wp2
    go_ret2
    exact ⟨_, rfl, World.ownsRow_nil _ _ _ _, Below.refl _ _⟩
  have b2 : decide (536870911 < no) = false := by simp; omega
  by_cases h3 : knownB wire = true
  · have hB : putB no wire = true := by rw [putB_iff]; exact ⟨by omega, by simpa [knownB] using h3⟩
    obtain ⟨_, hk⟩ := putB_iff.1 hB
    rw [putL_yes hB, hB]
    have hl := putN_lt hB
    have e1 : IntKind.i64.wrap (8 * no) = 8 * no := by simp [IntKind.wrap, IntKind.signed, IntKind.bits]; split <;> omega
    have e2 : IntKind.i64.wrap (8 * no + wire) = 8 * no + wire := by simp [IntKind.wrap, IntKind.signed, IntKind.bits]; split <;> omega
    have e3 : IntKind.u64.wrap (8 * no + wire) = (putN no wire : Int) := by unfold putN; simp [IntKind.wrap, IntKind.signed, IntKind.bits]; omega
    clear hk
    go_enter Tryd.func28, Tryd.ntmps28
    go_wp2_with fail
    refine (rknown_any wire _).mono ?_
    rintro e w1 ⟨rfl, rfl⟩
    rw [h3]
    go_wp2_with fail
    refine (rput_any (putN no wire) (by omega) _).mono ?_
    rintro e w2 ⟨v, rfl, hown, hb2⟩
    go_wp2
    go_ret2
    exact ⟨v, rfl, hown, hb2⟩
  · have h3 : knownB wire = false := by simpa using h3
    have hB : putB no wire = false := by unfold putB; rw [h3, Bool.and_false]
    rw [putL_no hB, hB]
    go_enter Tryd.func28, Tryd.ntmps28
    go_wp2_with fail
    refine (rknown_any wire _).mono ?_
    rintro e w1 ⟨rfl, rfl⟩
    rw [h3]
    go_wp2
    go_ret2
    exact ⟨_, rfl, World.ownsRow_nil _ _ _ _, Below.refl _ _⟩

/-- A row of the call's own stays where nothing old turns. -/
theorem own_below {w w' : World} {base : Nat} {e : TypeId} {size : Nat} {v : Value} {n : Nat} {xs : List Value} (h : w.ownsRow base e size v n xs) (hb : Below w.heap.size w w') : w'.ownsRow base e size v n xs := by
  rcases h with ⟨hl, ⟨rfl, rfl⟩ | ⟨g, cap, cur, rfl, h1, h2, h3⟩⟩
  · exact ⟨hl, .inl ⟨rfl, rfl⟩⟩
  · exact ⟨hl, .inr ⟨g, cap, cur, rfl, h1, (hb.block g (Array.getElem?_eq_some_iff.1 h2).1).trans h2, h3⟩⟩
theorem tput_any (no wire : Int) (hn1 : -9223372036854775808 ≤ no) (hn2 : no ≤ 9223372036854775807) (hw1 : -9223372036854775808 ≤ wire) (hw2 : wire ≤ 9223372036854775807) (w : World) (T : Wires w) :
    Calls Tryd.prog 25 #[.int .i64 no, .int .i64 wire] w fun e w' => ∃ A c, e = .returned (.tuple #[.slice A (putL no wire).length c, .bool (putB no wire)]) ∧ SlB w' A c (putL no wire) ∧ Below w.heap.size w w' := by
  refine (tput_own no wire hn1 hn2 hw1 hw2 w T).mono ?_
  rintro e w' ⟨v, rfl, hown, hb⟩
  obtain ⟨A, c, rfl, hr⟩ := SlB.of_own hown
  exact ⟨A, c, rfl, hr, hb⟩
end Go.Proofs.YtpaggpcpflmpcaaDoor
