/-
  What is told of a record hangs on the bytes from its place to the end alone; and, where there is no error, on its own bytes alone: facts on lists of bytes.
-/
import Derived.Test.YtpaggpcpflmpcaaDoorRecAll
namespace Go.Proofs.YtpaggpcpflmpcaaDoor
open Go.RowKit

/-! ### The window -/
def wfix (d : List UInt8) (S : Nat) : Nat × Nat × Nat := if d.length < S then (0, 0, 6) else (fixn (d.take S), S, 0)
def wnum (wire : Nat) (d : List UInt8) : Nat × Nat × Nat := if wire = 1 then wfix d 8 else if wire = 5 then wfix d 4 else vget d
def wrun (no wire k n q : Nat) (len : Nat) : Rc × Nat × Nat :=
  if wire = 2 then (if n ≤ len - (k + q) then (⟨no, wire, n, k + q, k + q + n⟩, k + q + n, 0) else (Rc.zero, 0, 6)) else (⟨no, wire, n, k, k + q⟩, k + q, 0)
def wrest (no wire k : Nat) (len : Nat) (x : Nat × Nat × Nat) : Rc × Nat × Nat := if x.2.2 = 0 then wrun no wire k x.1 x.2.1 len else (Rc.zero, 0, x.2.2)
def wtell (t : Nat × Nat × Nat) (k : Nat) (d : List UInt8) : Rc × Nat × Nat := if t.2.2 = 0 then wrest t.1 t.2.1 k d.length (wnum t.2.1 (d.drop k)) else (Rc.zero, 0, t.2.2)
def wnext (d : List UInt8) : Rc × Nat × Nat := if (vget d).2.2 = 0 then wtell (tellsN (vget d).1) (vget d).2.1 d else (Rc.zero, 0, (vget d).2.2)
/-- Further on by a. -/
def shR (a : Nat) (x : Rc × Nat × Nat) : Rc × Nat × Nat := if x.2.2 = 0 then (⟨x.1.no, x.1.wire, x.1.num, a + x.1.frm, a + x.1.upto⟩, a + x.2.1, 0) else (Rc.zero, 0, x.2.2)

theorem getS_win (l : List UInt8) (a u : Nat) : getS l a u = ((vget ((l.drop a).take (u - a))).1, (if (vget ((l.drop a).take (u - a))).2.2 = 0 then a + (vget ((l.drop a).take (u - a))).2.1 else 0), (vget ((l.drop a).take (u - a))).2.2) := rfl
theorem win_drop (l : List UInt8) (a u k : Nat) : (l.drop (a + k)).take (u - (a + k)) = ((l.drop a).take (u - a)).drop k := by
  rw [List.drop_take, List.drop_drop, Nat.sub_sub]
theorem num_win (l : List UInt8) (a u wire : Nat) (hau : a ≤ u) (hu : u ≤ l.length) :
    numR l a u wire = ((wnum wire ((l.drop a).take (u - a))).1, (if (wnum wire ((l.drop a).take (u - a))).2.2 = 0 then a + (wnum wire ((l.drop a).take (u - a))).2.1 else 0), (wnum wire ((l.drop a).take (u - a))).2.2) := by
  have hm : mayB a u l.length = true := by rw [mayB_true]; omega
  have hl : ((l.drop a).take (u - a)).length = u - a := by simp; omega
  have hf : ∀ S : Nat, S = 4 ∨ S = 8 → unfixR l a u S = ((wfix ((l.drop a).take (u - a)) S).1, (if (wfix ((l.drop a).take (u - a)) S).2.2 = 0 then a + (wfix ((l.drop a).take (u - a)) S).2.1 else 0), (wfix ((l.drop a).take (u - a)) S).2.2) := by
    intro S hS
    have hs : sizeB S = true := by rcases hS with rfl | rfl <;> rfl
    unfold unfixR unfixS wfix
    rw [hm, hs, hl]
    simp only [Bool.and_self, if_true, Int.toNat_natCast]
    split
    · rfl
    · simp only [if_true]
      rw [List.take_take, Nat.min_eq_left (by omega)]
  unfold numR wnum
  split
  · exact hf 8 (Or.inr rfl)
  · split
    · exact hf 4 (Or.inl rfl)
    · unfold getR
      rw [if_pos hm]
      simp only [Int.toNat_natCast]
      rfl
theorem vget_le {d : List UInt8} : (vget d).2.1 ≤ d.length := vget_bound d
theorem wfix_le {d : List UInt8} {S : Nat} : (wfix d S).2.1 ≤ d.length := by
  unfold wfix
  split
  · simp
  · simp only; omega
theorem wnum_le {wire : Nat} {d : List UInt8} : (wnum wire d).2.1 ≤ d.length := by
  unfold wnum
  split
  · exact wfix_le
  · split
    · exact wfix_le
    · exact vget_le
theorem sh_err {a e : Nat} (h : e ≠ 0) : shR a (Rc.zero, 0, e) = (Rc.zero, 0, e) := by unfold shR; rw [if_neg h]
theorem next_win (l : List UInt8) (a u : Nat) (hau : a ≤ u) (hu : u ≤ l.length) : nextR l a u = shR a (wnext ((l.drop a).take (u - a))) := by
  have hm : mayB a u l.length = true := by rw [mayB_true]; omega
  have hl : ((l.drop a).take (u - a)).length = u - a := by simp; omega
  have hg : getR l a u = getS l a u := by unfold getR; rw [if_pos hm]; simp only [Int.toNat_natCast]
  have hk := vget_le (d := (l.drop a).take (u - a))
  unfold nextR tgetR
  rw [hg, getS_win]
  unfold wnext
  by_cases h0 : (vget ((l.drop a).take (u - a))).2.2 = 0
  · simp only [h0, if_true]
    unfold wtell
    by_cases h1 : (tellsN (vget ((l.drop a).take (u - a))).1).2.2 = 0
    · simp only [h1, if_true]
      rw [hl] at hk
      rw [num_win l _ u _ (by omega) hu, win_drop]
      unfold restR wrest
      by_cases h2 : (wnum (tellsN (vget ((l.drop a).take (u - a))).1).2.1 (((l.drop a).take (u - a)).drop (vget ((l.drop a).take (u - a))).2.1)).2.2 = 0
      · simp only [h2, if_true]
        unfold runR wrun shR
        rw [hl]
        by_cases h3 : (tellsN (vget ((l.drop a).take (u - a))).1).2.1 = 2
        · simp only [h3, if_true]
          have hq := wnum_le (wire := 2) (d := ((l.drop a).take (u - a)).drop (vget ((l.drop a).take (u - a))).2.1)
          rw [List.length_drop, hl] at hq
          generalize (wnum 2 (((l.drop a).take (u - a)).drop (vget ((l.drop a).take (u - a))).2.1)) = x at hq ⊢
          generalize (vget ((l.drop a).take (u - a))).2.1 = k at *
          obtain ⟨n, q, e⟩ := x
          simp only
          by_cases h4 : (n : Int) ≤ (u : Int) - ((a + k + q : Nat) : Int)
          · rw [if_pos h4, if_pos (show n ≤ u - a - (k + q) by omega)]
            simp only [if_true, Prod.mk.injEq, Rc.mk.injEq, true_and, and_true]
            omega
          · rw [if_neg h4, if_neg (show ¬ n ≤ u - a - (k + q) by have hq' : q ≤ u - a - k := hq; omega)]
            exact (sh_err (by omega)).symm
        · simp only [h3, if_false, if_true]
          simp only [Prod.mk.injEq, Rc.mk.injEq, true_and, and_true]
          omega
      · simp only [h2, if_false]
        exact (sh_err h2).symm
    · simp only [h1, if_false]
      exact (sh_err h1).symm
  · simp only [h0, if_false]
    unfold shR
    simp [h0]

/-! ### What is told without an error hangs on its own bytes alone -/
theorem lead_spec : ∀ (l : List UInt8), (∀ j, j < lead l → ∃ c, l[j]? = some c ∧ 128 ≤ c.toNat) ∧ (lead l < l.length → ∃ c, l[lead l]? = some c ∧ c.toNat < 128)
  | [] => by simp [lead]
  | b :: l => by
    obtain ⟨h1, h2⟩ := lead_spec l
    unfold lead
    split
    · rename_i h
      exact ⟨fun j hj => by omega, fun _ => ⟨b, by simp, h⟩⟩
    · rename_i h
      refine ⟨fun j hj => ?_, fun hl => ?_⟩
      · cases j with
        | zero => exact ⟨b, by simp, by omega⟩
        | succ j => simpa using h1 j (by omega)
      · simpa using h2 (by simpa using hl)
theorem vget_parts {d : List UInt8} {n k : Nat} (h : vget d = (n, k, 0)) : 1 ≤ k ∧ k ≤ 10 ∧ k ≤ d.length ∧ (∀ j, j < k - 1 → ∃ c, d[j]? = some c ∧ 128 ≤ c.toNat) ∧ (∃ c, d[k - 1]? = some c ∧ c.toNat < 128) ∧ n = vnum (d.take k) % 18446744073709551616 := by
  unfold vget at h
  by_cases c1 : lead (d.take 10) = 10
  · rw [if_pos c1] at h; simp at h
  · rw [if_neg c1] at h
    by_cases c2 : lead (d.take 10) = d.length
    · rw [if_pos c2] at h; simp at h
    · rw [if_neg c2] at h
      simp only [Prod.mk.injEq, and_true] at h
      obtain ⟨h1, rfl⟩ := h
      have hlt := lead_lt c1 c2
      have hle := lead_le (d.take 10)
      rw [List.length_take] at hle
      obtain ⟨s1, s2⟩ := lead_spec (d.take 10)
      refine ⟨by omega, by omega, hlt, fun j hj => ?_, ?_, h1.symm⟩
      · obtain ⟨c, hc, hge⟩ := s1 j (by omega)
        exact ⟨c, by rw [← hc, take_get (by omega)], hge⟩
      · obtain ⟨c, hc, hl⟩ := s2 (by rw [List.length_take]; omega)
        exact ⟨c, by rw [Nat.add_sub_cancel, ← hc, take_get (by omega)], hl⟩
theorem vget_local {d : List UInt8} {n k : Nat} (h : vget d = (n, k, 0)) (t : List UInt8) : vget (d.take k ++ t) = (n, k, 0) := by
  obtain ⟨h1, h2, h3, h4, ⟨c, h5, h5'⟩, h6⟩ := vget_parts h
  have hl : (d.take k).length = k := by rw [List.length_take]; omega
  rw [vget_ok (l := d.take k ++ t) (k := k - 1) (b := c) (by omega) (fun j hj => by
    obtain ⟨c, hc, hge⟩ := h4 j hj
    exact ⟨c, by rw [List.getElem?_append_left (by omega), take_get (by omega)]; exact hc, hge⟩) (by rw [List.getElem?_append_left (by omega), take_get (by omega)]; exact h5) h5']
  rw [show k - 1 + 1 = k by omega, List.take_left' hl, h6]
theorem wfix_local {d : List UInt8} {S n k : Nat} (h : wfix d S = (n, k, 0)) (t : List UInt8) : wfix (d.take k ++ t) S = (n, k, 0) := by
  unfold wfix at h ⊢
  split at h
  · simp at h
  · simp only [Prod.mk.injEq, and_true] at h
    obtain ⟨h1, rfl⟩ := h
    have hl : (d.take S).length = S := by rw [List.length_take]; omega
    rw [if_neg (by rw [List.length_append]; omega), List.take_left' hl, h1]
theorem wnum_local {wire : Nat} {d : List UInt8} {n k : Nat} (h : wnum wire d = (n, k, 0)) (t : List UInt8) : wnum wire (d.take k ++ t) = (n, k, 0) := by
  unfold wnum at h ⊢
  split
  · rename_i c
    rw [if_pos c] at h
    exact wfix_local h t
  · rename_i c
    rw [if_neg c] at h
    split
    · rename_i c
      rw [if_pos c] at h
      exact wfix_local h t
    · rename_i c
      rw [if_neg c] at h
      exact vget_local h t
/-- The parts of a record that is told. -/
theorem wnext_parts {d : List UInt8} {r : Rc} {p : Nat} (h : wnext d = (r, p, 0)) :
    ∃ m k n q, vget d = (m, k, 0) ∧ tellsN m = (r.no, r.wire, 0) ∧ wnum r.wire (d.drop k) = (n, q, 0) ∧ r.num = n ∧ r.upto = p ∧
      ((r.wire = 2 ∧ r.frm = k + q ∧ p = k + q + n ∧ n ≤ d.length - (k + q)) ∨ (r.wire ≠ 2 ∧ r.frm = k ∧ p = k + q)) := by
  unfold wnext at h
  split at h
  · rename_i h0
    obtain ⟨m, k, hv⟩ : ∃ m k, vget d = (m, k, 0) := ⟨_, _, by rw [← h0]⟩
    rw [hv] at h
    unfold wtell at h
    simp only at h
    split at h
    · rename_i h1
      obtain ⟨no, wire, ht⟩ : ∃ no wire, tellsN m = (no, wire, 0) := ⟨_, _, by rw [← h1]⟩
      rw [ht] at h
      simp only at h
      unfold wrest at h
      split at h
      · rename_i h2
        obtain ⟨n, q, hn⟩ : ∃ n q, wnum wire (d.drop k) = (n, q, 0) := ⟨_, _, by rw [← h2]⟩
        rw [hn] at h
        unfold wrun at h
        simp only at h
        split at h
        · rename_i h3
          split at h
          · rename_i h4
            simp only [Prod.mk.injEq, and_true] at h
            obtain ⟨rfl, rfl⟩ := h
            exact ⟨m, k, n, q, hv, ht, hn, rfl, rfl, Or.inl ⟨h3, rfl, rfl, h4⟩⟩
          · simp at h
        · rename_i h3
          simp only [Prod.mk.injEq, and_true] at h
          obtain ⟨rfl, rfl⟩ := h
          exact ⟨m, k, n, q, hv, ht, hn, rfl, rfl, Or.inr ⟨h3, rfl, rfl⟩⟩
      · simp only [Prod.mk.injEq] at h; omega
    · simp only [Prod.mk.injEq] at h; omega
  · simp only [Prod.mk.injEq] at h; omega
/-- .. and the parts make it. -/
theorem wnext_of {d : List UInt8} {m k n q no wire : Nat} (hv : vget d = (m, k, 0)) (ht : tellsN m = (no, wire, 0)) (hn : wnum wire (d.drop k) = (n, q, 0)) : wnext d = wrun no wire k n q d.length := by
  unfold wnext
  rw [hv]
  simp only [if_true]
  unfold wtell
  rw [ht]
  simp only [if_true]
  unfold wrest
  rw [hn]
  simp
theorem wnext_le {d : List UInt8} {r : Rc} {p : Nat} (h : wnext d = (r, p, 0)) : 2 ≤ p ∧ p ≤ d.length ∧ r.upto = p ∧ 1 ≤ r.frm ∧ r.frm ≤ p := by
  obtain ⟨m, k, n, q, h1, h2, h3, h4, h5, h6⟩ := wnext_parts h
  obtain ⟨b1, _, b2, _⟩ := vget_parts h1
  have b3 := wnum_le (wire := r.wire) (d := d.drop k)
  rw [h3, List.length_drop] at b3
  have b4 : 1 ≤ q := by
    unfold wnum at h3
    split at h3
    · unfold wfix at h3
      split at h3
      · simp at h3
      · simp only [Prod.mk.injEq] at h3; omega
    · split at h3
      · unfold wfix at h3
        split at h3
        · simp at h3
        · simp only [Prod.mk.injEq] at h3; omega
      · exact (vget_parts h3).1
  simp only at b3
  rcases h6 with ⟨_, h7, h8, h9⟩ | ⟨_, h7, h8⟩ <;> omega
theorem wnext_local {d : List UInt8} {r : Rc} {p : Nat} (h : wnext d = (r, p, 0)) (t : List UInt8) : wnext (d.take p ++ t) = (r, p, 0) := by
  have hp := wnext_le h
  obtain ⟨m, k, n, q, h1, h2, h3, h4, h5, h6⟩ := wnext_parts h
  obtain ⟨b1, _, b2, _⟩ := vget_parts h1
  have b3 := wnum_le (wire := r.wire) (d := d.drop k)
  rw [h3, List.length_drop] at b3
  simp only at b3
  have hkp : k + q ≤ p := by rcases h6 with ⟨_, h7, h8, h9⟩ | ⟨_, h7, h8⟩ <;> omega
  have e1 : d.take p ++ t = d.take k ++ ((d.drop k).take (p - k) ++ t) := by
    rw [← List.append_assoc, show p = k + (p - k) by omega, List.take_add, show k + (p - k) - k = p - k by omega]
  have e2 : (d.take p ++ t).drop k = (d.drop k).take q ++ (((d.drop k).drop q).take (p - k - q) ++ t) := by
    rw [e1, List.drop_left' (by rw [List.length_take]; omega), ← List.append_assoc, show p - k = q + (p - k - q) by omega, List.take_add, show q + (p - k - q) - q = p - k - q by omega]
  have v1 : vget (d.take p ++ t) = (m, k, 0) := by rw [e1]; exact vget_local h1 _
  have v3 : wnum r.wire ((d.take p ++ t).drop k) = (n, q, 0) := by rw [e2]; exact wnum_local h3 _
  rw [wnext_of v1 h2 v3]
  have hlen : p ≤ (d.take p ++ t).length := by rw [List.length_append, List.length_take]; omega
  unfold wrun
  obtain ⟨no, wire, num, frm, upto⟩ := r
  simp only at h4 h5 h6 ⊢
  rcases h6 with ⟨h7, h8, h9, _⟩ | ⟨h7, h8, h9⟩
  · rw [if_pos h7, if_pos (by omega)]
    simp only [Prod.mk.injEq, Rc.mk.injEq, true_and, and_true]
    omega
  · rw [if_neg h7]
    simp only [Prod.mk.injEq, Rc.mk.injEq, true_and, and_true]
    omega
end Go.Proofs.YtpaggpcpflmpcaaDoor
