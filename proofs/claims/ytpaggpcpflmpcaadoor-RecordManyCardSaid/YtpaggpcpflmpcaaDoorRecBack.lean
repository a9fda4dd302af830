/-
  What is put is told, and told to be cut off where it is cut: facts on lists of bytes.
-/
import Derived.Test.YtpaggpcpflmpcaaDoorRecWin
namespace Go.Proofs.YtpaggpcpflmpcaaDoor
open Go.RowKit

def numQ (wire : Nat) (num : Nat) (run : List UInt8) : Nat := if wire = 2 then run.length else if wire = 5 then num % 4294967296 else num
def headL (no wire : Int) (run : List UInt8) : Nat := (putL no wire).length + (if wire = 2 then (vput run.length).length else 0)

theorem tells_put {no wire : Nat} (h : putB no wire = true) : tellsN (putN no wire) = (no, wire, 0) := by
  obtain ⟨h1, h2, h3⟩ := tellsN_yes h
  generalize tellsN (putN no wire) = x at *
  obtain ⟨a, b, c⟩ := x
  simp only [Prod.mk.injEq]
  simp only at h1 h2 h3
  omega
theorem wire_nat {wire : Nat} {no : Nat} (h : putB no wire = true) : wire = 0 ∨ wire = 1 ∨ wire = 2 ∨ wire = 5 := by
  have := (putB_iff.1 h).2
  omega
/-- The number behind what is ahead of a field. -/
theorem wnum_put {wire num : Nat} {run t : List UInt8} (hw : wire = 0 ∨ wire = 1 ∨ wire = 5) (hn : num < 18446744073709551616) : wnum wire (restL wire num run ++ t) = (numQ wire num run, (restL wire num run).length, 0) := by
  rcases hw with rfl | rfl | rfl
  · have hr : restL ((0 : Nat) : Int) num run = vput num := by simp [restL]
    rw [hr]
    unfold wnum numQ
    rw [if_neg (by decide), if_neg (by decide), if_neg (by decide), if_neg (by decide)]
    exact vget_vput hn t
  · have hr : restL ((1 : Nat) : Int) num run = fixb num 8 := by simp [restL]
    rw [hr]
    unfold wnum numQ wfix
    rw [if_pos rfl, if_neg (show ¬ (fixb num 8 ++ t).length < 8 by rw [List.length_append, fixb_length]; omega), if_neg (by decide), if_neg (by decide), List.take_left' (fixb_length _ _), fixn_fixb, fixb_length]
    rw [Nat.mod_eq_of_lt (by omega)]
  · have hr : restL ((5 : Nat) : Int) num run = fixb num 4 := by simp [restL]
    rw [hr]
    unfold wnum numQ wfix
    rw [if_neg (show ¬ 5 = 1 by decide), if_pos rfl, if_neg (show ¬ (fixb num 4 ++ t).length < 4 by rw [List.length_append, fixb_length]; omega), if_neg (show ¬ 5 = 2 by decide), if_pos rfl, List.take_left' (fixb_length _ _), fixn_fixb, fixb_length]
theorem wnext_put {no wire : Nat} (h : putB no wire = true) {num : Nat} (hn : num < 18446744073709551616) {run : List UInt8} (hr : run.length < 18446744073709551616) (t : List UInt8) :
    wnext (recL no wire num run ++ t) = (⟨no, wire, numQ wire num run, headL no wire run, (recL no wire num run).length⟩, (recL no wire num run).length, 0) := by
  have hl := putN_lt h
  have ht := tells_put h
  rw [recL_yes h]
  have hp : putL no wire = vput (putN no wire) := putL_yes h
  have hv : vget (putL no wire ++ restL wire num run ++ t) = (putN no wire, (putL no wire).length, 0) := by
    rw [hp, List.append_assoc]; exact vget_vput (by omega) _
  have hd : (putL no wire ++ restL wire num run ++ t).drop (putL no wire).length = restL wire num run ++ t := by rw [List.append_assoc, List.drop_left]
  by_cases h2 : wire = 2
  · subst h2
    have hq : restL ((2 : Nat) : Int) num run = vput run.length ++ run := by simp [restL]
    have hw : wnum 2 ((putL no (2 : Nat) ++ restL (2 : Nat) num run ++ t).drop (putL no (2 : Nat)).length) = (run.length, (vput run.length).length, 0) := by
      rw [hd, hq]
      unfold wnum
      rw [if_neg (by decide), if_neg (by decide), List.append_assoc]
      exact vget_vput hr _
    rw [wnext_of hv ht hw]
    have e1 : numQ 2 num run = run.length := by simp [numQ]
    have e2 : headL no (2 : Nat) run = (putL no (2 : Nat)).length + (vput run.length).length := by simp [headL]
    unfold wrun
    rw [e1, e2, if_pos rfl, hq, if_pos (by simp only [List.length_append]; omega)]
    simp only [Prod.mk.injEq, Rc.mk.injEq, true_and, and_true, List.length_append]
    omega
  · have h3 : wire = 0 ∨ wire = 1 ∨ wire = 5 := by have := wire_nat h; omega
    have hw : wnum wire ((putL no wire ++ restL wire num run ++ t).drop (putL no wire).length) = (numQ wire num run, (restL wire num run).length, 0) := by
      rw [hd]; exact wnum_put h3 hn
    rw [wnext_of hv ht hw]
    have e2 : headL no wire run = (putL no wire).length := by unfold headL; rw [if_neg (by omega)]; rfl
    unfold wrun
    rw [e2, if_neg h2]
    simp only [Prod.mk.injEq, Rc.mk.injEq, true_and, and_true, List.length_append]
theorem vget_less {n : Nat} (hn : n < 18446744073709551616) {k : Nat} (hk : k < (vput n).length) : vget ((vput n).take k) = (0, 0, 6) := by
  have h10 := vput_len10 hn
  have hl : ((vput n).take k).length = k := by rw [List.length_take]; omega
  exact vget_cut (l := (vput n).take k) (by omega) (fun j hj => by rw [take_get (by omega)]; exact vput_cont n j (by omega))
theorem wnum_less {wire num : Nat} {run : List UInt8} (hw : wire = 0 ∨ wire = 1 ∨ wire = 5) (hn : num < 18446744073709551616) {j : Nat} (hj : j < (restL wire num run).length) : wnum wire ((restL wire num run).take j) = (0, 0, 6) := by
  rcases hw with rfl | rfl | rfl
  · have hr : restL ((0 : Nat) : Int) num run = vput num := by simp [restL]
    rw [hr] at hj ⊢
    unfold wnum
    rw [if_neg (by decide), if_neg (by decide)]
    exact vget_less hn hj
  · have hr : restL ((1 : Nat) : Int) num run = fixb num 8 := by simp [restL]
    rw [hr] at hj ⊢
    rw [fixb_length] at hj
    unfold wnum wfix
    rw [if_pos rfl, if_pos (by rw [List.length_take, fixb_length]; omega)]
  · have hr : restL ((5 : Nat) : Int) num run = fixb num 4 := by simp [restL]
    rw [hr] at hj ⊢
    rw [fixb_length] at hj
    unfold wnum wfix
    rw [if_neg (by decide), if_pos rfl, if_pos (by rw [List.length_take, fixb_length]; omega)]
theorem wnext_less {no wire : Nat} (h : putB no wire = true) {num : Nat} (hn : num < 18446744073709551616) {run : List UInt8} (hr : run.length < 18446744073709551616) {j : Nat} (hj : j < (recL no wire num run).length) :
    wnext ((recL no wire num run).take j) = (Rc.zero, 0, 6) := by
  have hl := putN_lt h
  have ht := tells_put h
  rw [recL_yes h] at hj ⊢
  have hp : putL no wire = vput (putN no wire) := putL_yes h
  by_cases hk : j < (putL no wire).length
  · rw [List.take_append_of_le_length (by omega), hp]
    unfold wnext
    rw [vget_less (by omega) (by rw [← hp]; exact hk)]
    rfl
  · obtain ⟨i, rfl⟩ : ∃ i, j = (putL no wire).length + i := ⟨j - (putL no wire).length, by omega⟩
    rw [List.length_append] at hj
    rw [List.take_length_add_append]
    have hv : vget (putL no wire ++ (restL wire num run).take i) = (putN no wire, (putL no wire).length, 0) := by
      rw [hp]; exact vget_vput (by omega) _
    have hd : (putL no wire ++ (restL wire num run).take i).drop (putL no wire).length = (restL wire num run).take i := by rw [List.drop_left]
    have herr : ∀ x : Nat × Nat × Nat, wnum wire ((putL no wire ++ (restL wire num run).take i).drop (putL no wire).length) = x → x.2.2 = 6 → wnext (putL no wire ++ (restL wire num run).take i) = (Rc.zero, 0, 6) := by
      intro x hx hx6
      unfold wnext
      rw [hv]
      simp only [if_true]
      unfold wtell
      rw [ht]
      simp only [if_true]
      unfold wrest
      rw [hx, hx6]
      rfl
    by_cases h2 : wire = 2
    · subst h2
      have hq : restL ((2 : Nat) : Int) num run = vput run.length ++ run := by simp [restL]
      rw [hq, List.length_append] at hj
      by_cases hi : i < (vput run.length).length
      · refine herr (0, 0, 6) ?_ rfl
        rw [hd, hq, List.take_append_of_le_length (by omega)]
        unfold wnum
        rw [if_neg (by decide), if_neg (by decide)]
        exact vget_less hr hi
      · obtain ⟨s, rfl⟩ : ∃ s, i = (vput run.length).length + s := ⟨i - (vput run.length).length, by omega⟩
        have hw : wnum 2 ((putL no (2 : Nat) ++ (restL (2 : Nat) num run).take ((vput run.length).length + s)).drop (putL no (2 : Nat)).length) = (run.length, (vput run.length).length, 0) := by
          rw [hd, hq, List.take_length_add_append]
          unfold wnum
          rw [if_neg (by decide), if_neg (by decide)]
          exact vget_vput hr _
        rw [wnext_of hv ht hw]
        unfold wrun
        rw [if_pos rfl, hq, List.take_length_add_append, if_neg (by simp only [List.length_append, List.length_take]; omega)]
    · have h3 : wire = 0 ∨ wire = 1 ∨ wire = 5 := by have := wire_nat h; omega
      refine herr (0, 0, 6) ?_ rfl
      rw [hd]
      exact wnum_less h3 hn (by omega)

/-- What is put stands anywhere, and is told there. -/
theorem next_back {no wire : Nat} (h : putB no wire = true) {num : Nat} (hn : num < 18446744073709551616) {run : List UInt8} (hr : run.length < 18446744073709551616) (a t : List UInt8) :
    nextR (a ++ (recL no wire num run ++ t)) a.length (a ++ (recL no wire num run ++ t)).length = (⟨no, wire, numQ wire num run, a.length + headL no wire run, a.length + (recL no wire num run).length⟩, a.length + (recL no wire num run).length, 0) := by
  rw [next_win _ _ _ (by simp) (Nat.le_refl _), List.drop_left, List.take_of_length_le (by simp), wnext_put h hn hr t]
  rfl
theorem next_less {no wire : Nat} (h : putB no wire = true) {num : Nat} (hn : num < 18446744073709551616) {run : List UInt8} (hr : run.length < 18446744073709551616) {j : Nat} (hj : j < (recL no wire num run).length) :
    nextR (recL no wire num run) 0 j = (Rc.zero, 0, 6) := by
  have := next_win (recL no wire num run) 0 j (by omega) (by omega)
  rw [show ((0 : Nat) : Int) = 0 from rfl] at this
  rw [this, List.drop_zero, Nat.sub_zero, wnext_less h hn hr hj]
  exact sh_err (by omega)
end Go.Proofs.YtpaggpcpflmpcaaDoor
