/-
  Records that are put again, one behind the other, are read again: facts on lists of bytes.
-/
import Derived.Test.YtpaggpcpflmpcaaDoorRecBack
import Derived.Test.YtpaggpcpflmpcaaDoorRecJoin
namespace Go.Proofs.YtpaggpcpflmpcaaDoor
open Go.RowKit

/-- What is known of a record that is told. -/
structure Good (n : Nat) (r : Rc) : Prop where
  put : putB r.no r.wire = true
  num : r.num < 18446744073709551616
  le : r.frm ≤ r.upto
  upto : r.upto ≤ n
  run : r.wire = 2 → r.num = r.upto - r.frm
  four : r.wire = 5 → r.num < 4294967296 ∧ r.upto - r.frm = 4
  eight : r.wire = 1 → r.upto - r.frm = 8
  var : r.wire = 0 → (vput r.num).length ≤ r.upto - r.frm

theorem tells_ok {m no wire : Nat} (h : tellsN m = (no, wire, 0)) : putB no wire = true := by
  by_cases hp : putB (no : Int) (wire : Int) = true
  · exact hp
  · have := tellsN_no (by simpa using hp) m (by rw [h]) (by rw [h])
    rw [h] at this
    exact absurd rfl this
theorem vget_short {d : List UInt8} {n k : Nat} (h : vget d = (n, k, 0)) : (vput n).length ≤ k := by
  obtain ⟨h1, h2, h3, _, _, h6⟩ := vget_parts h
  have hl := vnum_lt (d.take k)
  rw [List.length_take, Nat.min_eq_left h3] at hl
  have hn : n ≤ vnum (d.take k) := by rw [h6]; exact Nat.mod_le _ _
  obtain ⟨j, rfl⟩ : ∃ j, k = j + 1 := ⟨k - 1, by omega⟩
  rw [vput_length]
  exact vlong_le j (by omega)
theorem wfix_num {d : List UInt8} {S n k : Nat} (h : wfix d S = (n, k, 0)) : n < 256 ^ S ∧ k = S := by
  unfold wfix at h
  split at h
  · simp at h
  · simp only [Prod.mk.injEq, and_true] at h
    have hl := fixn_lt (d.take S)
    rw [List.length_take, Nat.min_eq_left (by omega), h.1] at hl
    exact ⟨hl, h.2.symm⟩
theorem next_good {l : List UInt8} {a u : Nat} {r : Rc} {p : Nat} (h : nextR l a u = (r, p, 0)) : Good l.length r := by
  have hk := next_ok h
  have h1 := next_win l a u (by omega) (by omega)
  rw [h] at h1
  have hw : (wnext ((l.drop a).take (u - a))).2.2 = 0 := by
    unfold shR at h1
    split at h1
    · rename_i h2; exact h2
    · rename_i h2
      simp only [Prod.mk.injEq] at h1
      exact absurd h1.2.2.symm h2
  obtain ⟨s, q, hs⟩ : ∃ s q, wnext ((l.drop a).take (u - a)) = (s, q, 0) := ⟨_, _, by rw [← hw]⟩
  rw [hs] at h1
  unfold shR at h1
  simp only [if_true, Prod.mk.injEq, and_true] at h1
  obtain ⟨hr, hp⟩ := h1
  obtain ⟨m, k, n, q', e1, e2, e3, e4, e5, e6⟩ := wnext_parts hs
  have hle := wnext_le hs
  have hput := tells_ok e2
  have hwire := wire_nat hput
  have hn : n < 18446744073709551616 := by
    unfold wnum at e3
    split at e3
    · have := wfix_num e3; omega
    · split at e3
      · have := wfix_num e3; omega
      · have := vget_lt ((List.drop k ((l.drop a).take (u - a))))
        rw [e3] at this
        exact this
  subst hr
  refine ⟨hput, by simp only; omega, by simp only; omega, by have := hk.2.2.2.2.1; simp only at this ⊢; omega, fun h2 => ?_, fun h5 => ?_, fun h8 => ?_, fun h0 => ?_⟩
  · simp only at h2 ⊢
    rcases e6 with ⟨_, e7, e8, _⟩ | ⟨e7, _⟩
    · omega
    · exact absurd h2 e7
  · simp only at h5 ⊢
    rw [h5] at e3
    unfold wnum at e3
    rw [if_neg (by decide), if_pos rfl] at e3
    have := wfix_num e3
    rcases e6 with ⟨e7, _⟩ | ⟨_, e8, e9⟩ <;> omega
  · simp only at h8 ⊢
    rw [h8] at e3
    unfold wnum at e3
    rw [if_pos rfl] at e3
    have := wfix_num e3
    rcases e6 with ⟨e7, _⟩ | ⟨_, e8, e9⟩ <;> omega
  · simp only at h0 ⊢
    rw [h0] at e3
    unfold wnum at e3
    rw [if_neg (by decide), if_neg (by decide)] at e3
    have := vget_short e3
    rw [e4]
    rcases e6 with ⟨e7, _⟩ | ⟨_, e8, e9⟩ <;> omega
theorem recs_good (l : List UInt8) (u : Nat) : ∀ (f a k : Nat) (r : Rc), u - a ≤ f → (recs l u a).1[k]? = some r → Good l.length r
  | 0, a, k, r, hf, h => by
    rw [recs_end (by omega)] at h
    simp at h
  | f + 1, a, k, r, hf, h => by
    by_cases ha : a < u
    · rcases recs_fst (l := l) ha with ⟨s, p, hn, hr⟩ | ⟨e, _, hr⟩
      · have hk := next_ok hn
        rw [hr] at h
        cases k with
        | zero =>
          obtain rfl : s = r := by simpa using h
          exact next_good hn
        | succ k => exact recs_good l u f p k r (by omega) (by simpa using h)
      · rw [hr] at h
        simp at h
    · rw [recs_end ha] at h
      simp at h
theorem recs_two (l : List UInt8) (u : Nat) : ∀ (f a : Nat), u - a ≤ f → 2 * (recs l u a).1.length ≤ u - a
  | 0, a, hf => by rw [recs_end (by omega)]; simp
  | f + 1, a, hf => by
    by_cases ha : a < u
    · rcases recs_fst (l := l) ha with ⟨s, p, hn, hr⟩ | ⟨e, _, hr⟩
      · have hk := next_ok hn
        have := recs_two l u f p (by omega)
        rw [hr]
        simp only [List.length_cons]
        omega
      · rw [hr]; simp
    · rw [recs_end ha]; simp

/-! ### Put again -/
def againL (l : List UInt8) : List Rc → List UInt8
  | [] => []
  | r :: xs => recL r.no r.wire r.num ((l.drop r.frm).take (r.upto - r.frm)) ++ againL l xs
theorem againL_snoc (l : List UInt8) : ∀ (xs : List Rc) (r : Rc), againL l (xs ++ [r]) = againL l xs ++ recL r.no r.wire r.num ((l.drop r.frm).take (r.upto - r.frm))
  | [], r => by simp [againL]
  | x :: xs, r => by simp [againL, againL_snoc l xs r]
/-- The same number and wire type, the same number there, and no more bytes. -/
def Same (r s : Rc) : Prop := s.no = r.no ∧ s.wire = r.wire ∧ s.num = r.num ∧ s.frm ≤ s.upto ∧ s.upto - s.frm ≤ r.upto - r.frm
theorem again_one {n : Nat} {r : Rc} (g : Good n r) {l : List UInt8} (hl : l.length = n) (hn : n < 18446744073709551616) (a t : List UInt8) :
    ∃ s, nextR (a ++ (recL r.no r.wire r.num ((l.drop r.frm).take (r.upto - r.frm)) ++ t)) a.length (a ++ (recL r.no r.wire r.num ((l.drop r.frm).take (r.upto - r.frm)) ++ t)).length =
      (s, a.length + (recL r.no r.wire r.num ((l.drop r.frm).take (r.upto - r.frm))).length, 0) ∧ Same r s := by
  have hu := g.upto
  have hle := g.le
  have hrl : ((l.drop r.frm).take (r.upto - r.frm)).length = r.upto - r.frm := by rw [List.length_take, List.length_drop]; omega
  refine ⟨_, next_back g.put g.num (by omega) a t, rfl, rfl, ?_, ?_, ?_⟩
  · unfold numQ
    split
    · rename_i h; rw [hrl]; exact (g.run h).symm
    · split
      · rename_i h; exact Nat.mod_eq_of_lt (g.four h).1
      · rfl
  all_goals
    simp only
    rw [recL_yes g.put, List.length_append]
    unfold headL restL
    rcases wire_nat g.put with h | h | h | h
    · have := g.var h
      simp only [h]
      simp
      try omega
    · have := g.eight h
      simp only [h]
      simp [fixb_length]
      try omega
    · simp only [h]
      rw [if_pos (show ((2 : Nat) : Int) = 2 from rfl), if_pos (show ((2 : Nat) : Int) = 2 from rfl)]
      simp only [List.length_append, hrl]
      omega
    · have := g.four h
      simp only [h]
      simp [fixb_length]
      try omega
theorem again_all (l : List UInt8) (hn : l.length < 18446744073709551616) : ∀ (xs : List Rc), (∀ (k : Nat) (r : Rc), xs[k]? = some r → Good l.length r) → ∀ pre : List UInt8,
    ∃ ys : List Rc, recs (pre ++ againL l xs) (pre ++ againL l xs).length pre.length = (ys, 0) ∧ ys.length = xs.length ∧ ∀ (k : Nat) (r s : Rc), xs[k]? = some r → ys[k]? = some s → Same r s
  | [], _, pre => ⟨[], by rw [recs_end (by simp [againL])], rfl, fun k r s h => by simp at h⟩
  | r :: xs, hg, pre => by
    obtain ⟨s, h1, h2⟩ := again_one (hg 0 r rfl) rfl hn pre (againL l xs)
    obtain ⟨ys, h3, h4, h5⟩ := again_all l hn xs (fun k r h => hg (k + 1) r (by simpa using h)) (pre ++ recL r.no r.wire r.num ((l.drop r.frm).take (r.upto - r.frm)))
    have hlen : (pre ++ recL r.no r.wire r.num ((l.drop r.frm).take (r.upto - r.frm))).length = pre.length + (recL r.no r.wire r.num ((l.drop r.frm).take (r.upto - r.frm))).length := List.length_append
    rw [List.append_assoc, hlen] at h3
    have hk := next_ok h1
    refine ⟨s :: ys, ?_, by simp [h4], fun k x y hx hy => ?_⟩
    · have eA : againL l (r :: xs) = recL r.no r.wire r.num ((l.drop r.frm).take (r.upto - r.frm)) ++ againL l xs := rfl
      rw [eA, recs_step (by omega) h1, h3]
    · cases k with
      | zero =>
        obtain rfl : r = x := by simpa using hx
        obtain rfl : s = y := by simpa using hy
        exact h2
      | succ k => exact h5 k x y (by simpa using hx) (by simpa using hy)
end Go.Proofs.YtpaggpcpflmpcaaDoor
