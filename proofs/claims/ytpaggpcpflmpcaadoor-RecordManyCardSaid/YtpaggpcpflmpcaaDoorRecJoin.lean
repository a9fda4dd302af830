/-
  Records stand one behind the other; those of two parts are those of both: facts on lists.
-/
import Derived.Test.YtpaggpcpflmpcaaDoorRecWin
namespace Go.Proofs.YtpaggpcpflmpcaaDoor
open Go.RowKit

/-- Where the last one of some records ends. -/
def ends : Nat → List Rc → Nat
  | a, [] => a
  | _, r :: xs => ends r.upto xs
theorem ends_snoc : ∀ (a : Nat) (xs : List Rc) (r : Rc), ends a (xs ++ [r]) = r.upto
  | _, [], _ => rfl
  | _, x :: xs, r => ends_snoc x.upto xs r
theorem ends_take {a : Nat} {xs : List Rc} {k : Nat} {r : Rc} (h : xs[k]? = some r) : ends a (xs.take (k + 1)) = r.upto := by
  rw [List.take_add_one, h]
  exact ends_snoc _ _ _
theorem recs_fst {l : List UInt8} {u a : Nat} (h : a < u) : (∃ r p, nextR l a u = (r, p, 0) ∧ recs l u a = (r :: (recs l u p).1, (recs l u p).2)) ∨ (∃ e, e ≠ 0 ∧ recs l u a = ([], e)) := by
  obtain ⟨r, p, e, hn⟩ : ∃ r p e, nextR l a u = (r, p, e) := ⟨_, _, _, rfl⟩
  by_cases he : e = 0
  · subst he
    exact Or.inl ⟨r, p, hn, recs_step h hn⟩
  · exact Or.inr ⟨e, he, recs_stop h hn he⟩
theorem recs_chain (l : List UInt8) (u : Nat) : ∀ (f a k : Nat) (r : Rc), u - a ≤ f → (recs l u a).1[k]? = some r → ends a ((recs l u a).1.take k) < r.frm ∧ r.frm ≤ r.upto ∧ r.upto ≤ u
  | 0, a, k, r, hf, h => by
    rw [recs_end (by omega)] at h
    simp at h
  | f + 1, a, k, r, hf, h => by
    by_cases ha : a < u
    · rcases recs_fst (l := l) ha with ⟨s, p, hn, hr⟩ | ⟨e, _, hr⟩
      · have hk := next_ok hn
        rw [hr] at h ⊢
        cases k with
        | zero =>
          obtain rfl : s = r := by simpa using h
          simp only [List.take_zero, ends]
          omega
        | succ k =>
          have := recs_chain l u f p k r (by omega) (by simpa using h)
          simp only [List.take_succ_cons, ends]
          rw [hk.2.2.2.2.1]
          exact this
      · rw [hr] at h
        simp at h
    · rw [recs_end ha] at h
      simp at h
theorem recs_ends (l : List UInt8) (u : Nat) : ∀ (f a : Nat), u - a ≤ f → a ≤ u → (recs l u a).2 = 0 → ends a (recs l u a).1 = u
  | 0, a, hf, hau, _ => by
    rw [recs_end (by omega)]
    simp only [ends]
    omega
  | f + 1, a, hf, hau, h => by
    by_cases ha : a < u
    · rcases recs_fst (l := l) ha with ⟨s, p, hn, hr⟩ | ⟨e, he, hr⟩
      · have hk := next_ok hn
        rw [hr] at h ⊢
        simp only [ends]
        rw [hk.2.2.2.2.1]
        exact recs_ends l u f p (by omega) (by omega) h
      · rw [hr] at h
        exact absurd h he
    · rw [recs_end ha]
      simp only [ends]
      omega
/-- With more bytes behind the end, what is told stays. -/
theorem next_more {l : List UInt8} {a u u' : Nat} {r : Rc} {p : Nat} (h : nextR l a u = (r, p, 0)) (hu : u ≤ u') (hl : u' ≤ l.length) : nextR l a u' = (r, p, 0) := by
  have hk := next_ok h
  have h1 := next_win l a u (by omega) (by omega)
  rw [h] at h1
  have hw : (wnext ((l.drop a).take (u - a))).2.2 = 0 := by
    unfold shR at h1
    split at h1
    · rename_i h2; exact h2
    · rename_i h2
      simp only [Prod.mk.injEq] at h1
      exact absurd h1.2.2.symm h2
  obtain ⟨s, q, hs⟩ : ∃ s q, wnext ((l.drop a).take (u - a)) = (s, q, 0) := ⟨_, _, by rw [← hw]⟩
  have hq := wnext_le hs
  rw [List.length_take, List.length_drop] at hq
  have e : (l.drop a).take (u' - a) = ((l.drop a).take (u - a)).take q ++ ((l.drop a).drop q).take (u' - a - q) := by
    rw [List.take_take, Nat.min_eq_left (by omega)]
    have := List.take_add (l := l.drop a) (i := q) (j := u' - a - q)
    rw [show q + (u' - a - q) = u' - a by omega] at this
    exact this
  rw [next_win l a u' (by omega) hl, e, wnext_local hs, ← hs, ← h1]
/-- Those of two parts are those of both, if the first part has no error. -/
theorem recs_join (l : List UInt8) (u cut : Nat) (hu : u ≤ l.length) (hc : cut ≤ u) : ∀ (f a : Nat), cut - a ≤ f → a ≤ cut → (recs l cut a).2 = 0 → recs l u a = ((recs l cut a).1 ++ (recs l u cut).1, (recs l u cut).2)
  | 0, a, hf, hac, _ => by
    obtain rfl : a = cut := by omega
    rw [recs_end (u := a) (a := a) (by omega)]
    simp
  | f + 1, a, hf, hac, h => by
    by_cases ha : a < cut
    · rcases recs_fst (l := l) ha with ⟨s, p, hn, hr⟩ | ⟨e, he, hr⟩
      · have hk := next_ok hn
        rw [hr] at h ⊢
        have ih := recs_join l u cut hu hc f p (by omega) (by omega) h
        rw [recs_step (show a < u by omega) (next_more hn hc hu), ih]
        simp
      · rw [hr] at h
        exact absurd h he
    · obtain rfl : a = cut := by omega
      rw [recs_end (u := a) (a := a) (by omega)]
      simp
end Go.Proofs.YtpaggpcpflmpcaaDoor
