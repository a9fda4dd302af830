/-
  Records of bytes as lists: what is told at a place, and of all places from one to another one.
-/
import Derived.Test.YtpaggpcpflmpcaaDoorVarUnfix
import Derived.Test.YtpaggpcpflmpcaaDoorTagGet
import Derived.Test.YtpaggpcpflmpcaaDoorTagPut
namespace Go.Proofs.YtpaggpcpflmpcaaDoor
open Go.RowKit

structure Rc where
  no : Nat
  wire : Nat
  num : Nat
  frm : Nat
  upto : Nat
  deriving DecidableEq

def Rc.zero : Rc := ⟨0, 0, 0, 0, 0⟩
def RC (r : Rc) : List Value := [.int .i64 r.no, .int .i64 r.wire, .int .u64 r.num, .int .i64 r.frm, .int .i64 r.upto]
def RV (r : Rc) : Value := .agg #[.int .i64 r.no, .int .i64 r.wire, .int .u64 r.num, .int .i64 r.frm, .int .i64 r.upto]

/-- The number behind what stands ahead of a field, by its wire type. -/
def numR (l : List UInt8) (a u : Int) (wire : Nat) : Nat × Nat × Nat :=
  if wire = 1 then unfixR l a u 8 else if wire = 5 then unfixR l a u 4 else getR l a u
/-- What is told of a number n that ends at p. -/
def runR (no wire f n p : Nat) (u : Int) : Rc × Nat × Nat :=
  if wire = 2 then (if (n : Int) ≤ u - p then (⟨no, wire, n, p, p + n⟩, p + n, 0) else (Rc.zero, 0, 6)) else (⟨no, wire, n, f, p⟩, p, 0)
def restR (no wire f : Nat) (u : Int) (x : Nat × Nat × Nat) : Rc × Nat × Nat :=
  if x.2.2 = 0 then runR no wire f x.1 x.2.1 u else (Rc.zero, 0, x.2.2)
def nextR (l : List UInt8) (a u : Int) : Rc × Nat × Nat :=
  if (tgetR l a u).2.2.2 = 0 then restR (tgetR l a u).1 (tgetR l a u).2.1 (tgetR l a u).2.2.1 u (numR l (tgetR l a u).2.2.1 u (tgetR l a u).2.1)
  else (Rc.zero, 0, (tgetR l a u).2.2.2)
def NV (x : Rc × Nat × Nat) : Value := .tuple #[RV x.1, .int .i64 x.2.1, .int .i64 x.2.2]

theorem lead_lt {l : List UInt8} (h : ¬ lead (l.take 10) = 10) (h2 : ¬ lead (l.take 10) = l.length) : lead (l.take 10) + 1 ≤ l.length := by
  have := lead_le (l.take 10)
  rw [List.length_take] at this
  omega
theorem get_ok {l : List UInt8} {a u : Int} {n p : Nat} (h : getR l a u = (n, p, 0)) : 0 ≤ a ∧ a < p ∧ (p : Int) ≤ u ∧ u ≤ l.length ∧ n < 18446744073709551616 ∧ (p : Int) ≤ a + 10 := by
  have hn := get_lt l a u
  rw [h] at hn
  unfold getR at h
  split at h
  · rename_i hm
    have hm := mayB_true.1 hm
    obtain ⟨an, rfl⟩ := Int.eq_ofNat_of_zero_le hm.1
    obtain ⟨un, rfl⟩ := Int.eq_ofNat_of_zero_le (show 0 ≤ u by omega)
    unfold getS at h
    simp only [Int.toNat_natCast] at h
    have hL : ((l.drop an).take (un - an)).length = un - an := by simp; omega
    generalize (l.drop an).take (un - an) = d at *
    have h2 := congrArg (·.2.1) h
    have h3 := congrArg (·.2.2) h
    simp only at h2 h3
    rw [if_pos h3] at h2
    unfold vget at h3 h2
    by_cases c1 : lead (d.take 10) = 10
    · rw [if_pos c1] at h3; simp at h3
    · rw [if_neg c1] at h3 h2
      by_cases c2 : lead (d.take 10) = d.length
      · rw [if_pos c2] at h3; simp at h3
      · rw [if_neg c2] at h2
        simp only at h2
        have := lead_lt c1 c2
        have h10 := lead_le (d.take 10)
        rw [List.length_take] at h10
        simp only at hn
        omega
  · simp at h
theorem unfix_ok {l : List UInt8} {a u s : Int} {n p : Nat} (h : unfixR l a u s = (n, p, 0)) : 0 ≤ a ∧ (p : Int) = a + s ∧ (s = 4 ∨ s = 8) ∧ (p : Int) ≤ u ∧ u ≤ l.length ∧ n < 18446744073709551616 := by
  unfold unfixR at h
  split at h
  · rename_i hm
    rw [Bool.and_eq_true] at hm
    have hs : s = 4 ∨ s = 8 := by simpa [sizeB] using hm.2
    have hm := mayB_true.1 hm.1
    obtain ⟨an, rfl⟩ := Int.eq_ofNat_of_zero_le hm.1
    obtain ⟨un, rfl⟩ := Int.eq_ofNat_of_zero_le (show 0 ≤ u by omega)
    obtain ⟨sn, rfl⟩ := Int.eq_ofNat_of_zero_le (show 0 ≤ s by omega)
    simp only [Int.toNat_natCast] at h
    unfold unfixS at h
    split at h
    · simp at h
    · simp only [Prod.mk.injEq] at h
      have := fix_lt l an sn (by omega)
      omega
  · simp at h
theorem num_ok {l : List UInt8} {a u : Int} {w n p : Nat} (h : numR l a u w = (n, p, 0)) : 0 ≤ a ∧ a < p ∧ (p : Int) ≤ u ∧ u ≤ l.length ∧ n < 18446744073709551616 := by
  unfold numR at h
  split at h
  · have := unfix_ok h; omega
  · split at h
    · have := unfix_ok h; omega
    · have := get_ok h; omega
theorem tells_le (n : Nat) : (tellsN n).1 ≤ 536870911 ∧ (tellsN n).2.1 ≤ 7 := by
  unfold tellsN
  split
  · simp
  · split
    · simp only; omega
    · simp
theorem tget_ok {l : List UInt8} {a u : Int} {no w p : Nat} (h : tgetR l a u = (no, w, p, 0)) : 0 ≤ a ∧ a < p ∧ (p : Int) ≤ u ∧ u ≤ l.length ∧ (p : Int) ≤ a + 10 ∧ putB no w = true ∧ ∃ n, getR l a u = (n, p, 0) ∧ tellsN n = (no, w, 0) := by
  unfold tgetR at h
  split at h
  · rename_i h1
    split at h
    · rename_i h2
      simp only [Prod.mk.injEq] at h
      have hg : getR l a u = ((getR l a u).1, p, 0) := by rw [← h.2.2.1, ← h1]
      have ht : tellsN (getR l a u).1 = (no, w, 0) := by rw [← h.1, ← h.2.1, ← h2]
      have := get_ok hg
      refine ⟨by omega, by omega, by omega, by omega, by omega, ?_, _, hg, ht⟩
      have h0 := tells_le (getR l a u).1
      rw [ht] at h0
      by_cases hp : putB (no : Int) (w : Int) = true
      · exact hp
      · have := tellsN_no (by simpa using hp) (getR l a u).1 (by rw [ht]) (by rw [ht])
        rw [ht] at this
        exact absurd rfl this
    · rename_i h2
      simp only [Prod.mk.injEq] at h
      exact absurd h.2.2.2 h2
  · rename_i h1
    simp only [Prod.mk.injEq] at h
    exact absurd h.2.2.2 h1
theorem next_ok {l : List UInt8} {a u : Int} {r : Rc} {p : Nat} (h : nextR l a u = (r, p, 0)) : 0 ≤ a ∧ a + 2 ≤ p ∧ (p : Int) ≤ u ∧ u ≤ l.length ∧ r.upto = p ∧ a < r.frm ∧ r.frm ≤ r.upto := by
  unfold nextR at h
  split at h
  · rename_i h1
    obtain ⟨no, w, f, ht⟩ : ∃ no w f, tgetR l a u = (no, w, f, 0) := ⟨_, _, _, by rw [← h1]⟩
    rw [ht] at h
    have h2 := tget_ok ht
    simp only at h
    unfold restR at h
    split at h
    · rename_i h3
      obtain ⟨n, q, hn⟩ : ∃ n q, numR l f u w = (n, q, 0) := ⟨_, _, by rw [← h3]⟩
      rw [hn] at h
      have h4 := num_ok hn
      unfold runR at h
      simp only at h
      split at h
      · split at h
        · simp only [Prod.mk.injEq] at h
          obtain ⟨rfl, rfl, _⟩ := h
          exact ⟨by omega, by omega, by omega, by omega, rfl, by show a < (q : Int); omega, by show q ≤ q + n; omega⟩
        · simp at h
      · simp only [Prod.mk.injEq] at h
        obtain ⟨rfl, rfl, _⟩ := h
        exact ⟨by omega, by omega, by omega, by omega, rfl, by show a < (f : Int); omega, by show f ≤ q; omega⟩
    · simp only [Prod.mk.injEq] at h
      omega
  · simp only [Prod.mk.injEq] at h
    omega

/-! ### All records from one place to another one -/
def recsF (l : List UInt8) (u : Nat) : Nat → Nat → List Rc × Nat
  | 0, _ => ([], 0)
  | f + 1, a => if a < u then (if (nextR l a u).2.2 = 0 then ((nextR l a u).1 :: (recsF l u f (nextR l a u).2.1).1, (recsF l u f (nextR l a u).2.1).2) else ([], (nextR l a u).2.2)) else ([], 0)
theorem recsF_more (l : List UInt8) (u : Nat) : ∀ f g a, u - a ≤ f → u - a ≤ g → recsF l u f a = recsF l u g a
  | 0, 0, _, _, _ => rfl
  | 0, g + 1, a, h, _ => by
    have : ¬ a < u := by omega
    simp [recsF, this]
  | f + 1, 0, a, _, h => by
    have : ¬ a < u := by omega
    simp [recsF, this]
  | f + 1, g + 1, a, hf, hg => by
    unfold recsF
    by_cases ha : a < u
    · rw [if_pos ha, if_pos ha]
      by_cases h0 : (nextR l a u).2.2 = 0
      · rw [if_pos h0, if_pos h0]
        have h1 := next_ok (r := (nextR l a u).1) (p := (nextR l a u).2.1) (show nextR l a u = _ by rw [← h0])
        rw [recsF_more l u f g _ (by omega) (by omega)]
      · rw [if_neg h0, if_neg h0]
    · rw [if_neg ha, if_neg ha]
def recs (l : List UInt8) (u a : Nat) : List Rc × Nat := recsF l u (u - a) a
theorem recs_end {l : List UInt8} {u a : Nat} (h : ¬ a < u) : recs l u a = ([], 0) := by
  unfold recs
  rw [recsF_more l u _ 1 a (by omega) (by omega)]
  simp [recsF, h]
theorem recs_step {l : List UInt8} {u a : Nat} {r : Rc} {p : Nat} (h : a < u) (hn : nextR l a u = (r, p, 0)) : recs l u a = (r :: (recs l u p).1, (recs l u p).2) := by
  have h1 := next_ok hn
  unfold recs
  obtain ⟨f, hf⟩ : ∃ f, u - a = f + 1 := ⟨u - a - 1, by omega⟩
  rw [hf, recsF, if_pos h, hn, if_pos rfl, recsF_more l u f (u - p) p (by omega) (by omega)]
theorem recs_stop {l : List UInt8} {u a : Nat} {r : Rc} {p e : Nat} (h : a < u) (hn : nextR l a u = (r, p, e)) (he : e ≠ 0) : recs l u a = ([], e) := by
  unfold recs
  obtain ⟨f, hf⟩ : ∃ f, u - a = f + 1 := ⟨u - a - 1, by omega⟩
  rw [hf, recsF, if_pos h, hn]
  simp only
  rw [if_neg he]
def allR (l : List UInt8) (a u : Int) : List Rc × Nat := if mayB a u l.length then recs l u.toNat a.toNat else ([], 1)
end Go.Proofs.YtpaggpcpflmpcaaDoor
