/-
  A number's text: its digits, what digits spell, and what is told of digits with a sign or not.
-/
import Derived.Test.YtceomdbahiimlaaDoorTokMath
import Derived.Lib.ItoaNum
import Derived.Lib.ParseIntBTie
import Derived.Lib.AtoiAllCases
namespace Go.Proofs.YtceomdbahiimlaaDoor
set_option maxRecDepth 100000

theorem dval_nil (a : Nat) : dval a [] = a := by unfold dval; rw [List.foldl_nil]
theorem dval_cons (a : Nat) (c : UInt8) (r : List UInt8) : dval a (c :: r) = dval (10 * a + (c.toNat - 48)) r := by unfold dval; rw [List.foldl_cons]
theorem dval_app (c : UInt8) (l : List UInt8) : ∀ (a : Nat), dval a (l ++ [c]) = 10 * dval a l + (c.toNat - 48) := by
  induction l with
  | nil => intro a; simp [dval_nil, dval_cons]
  | cons d r ih => intro a; rw [List.cons_append, dval_cons, dval_cons, ih]
theorem digit_of {k : Nat} (h : k < 10) : isDigit (UInt8.ofNat (48 + k)) = true ∧ (UInt8.ofNat (48 + k)).toNat = 48 + k := by
  have e : (UInt8.ofNat (48 + k)).toNat = 48 + k := by simp; omega
  exact ⟨by simp only [isDigit, e, Bool.and_eq_true, decide_eq_true_eq]; omega, e⟩
theorem dec_step {u : Nat} (h : ¬ u < 10) : Lib.decDigits u = Lib.decDigits (u / 10) ++ [UInt8.ofNat (48 + u % 10)] := by
  rw [Lib.decDigits, dif_neg h]
theorem dec_val (u : Nat) : dval 0 (Lib.decDigits u) = u := by
  by_cases h : u < 10
  · rw [Lib.decDigits_one h]
    simp only [dval_nil, dval_cons, (digit_of h).2]; omega
  · rw [dec_step h, dval_app, dec_val (u / 10), (digit_of (Nat.mod_lt u (by decide))).2]
    omega
  termination_by u
theorem dec_digits (u : Nat) : ∀ c ∈ Lib.decDigits u, isDigit c = true := by
  by_cases h : u < 10
  · rw [Lib.decDigits_one h]
    intro c hc
    rw [List.mem_singleton.1 hc]
    exact (digit_of h).1
  · rw [dec_step h]
    intro c hc
    rw [List.mem_append] at hc
    rcases hc with hc | hc
    · exact dec_digits (u / 10) c hc
    · rw [List.mem_singleton.1 hc]
      exact (digit_of (Nat.mod_lt u (by decide))).1
  termination_by u
theorem dec_ne (u : Nat) : Lib.decDigits u ≠ [] := by
  intro h
  have := Lib.decDigits_length u
  have h1 := Lib.nDigits_pos u
  rw [h] at this
  simp at this; omega
theorem nDigits_le (k : Nat) : ∀ u, u < 10 ^ (k + 1) → Lib.nDigits u ≤ k + 1 := by
  induction k with
  | zero => intro u h; rw [Lib.nDigits_small (by simpa using h)]; omega
  | succ k ih =>
    intro u h
    by_cases h10 : u < 10
    · rw [Lib.nDigits_small h10]; omega
    · rw [Lib.nDigits_big h10]
      have := ih (u / 10) (by rw [Nat.pow_succ] at h; omega)
      omega

theorem itoa_nonneg (n : Int) (h : 0 ≤ n) : Lib.itoa n = Lib.decDigits n.toNat := by unfold Lib.itoa; rw [if_neg (by omega)]
theorem itoa_neg (n : Int) (h : n < 0) : Lib.itoa n = 45 :: Lib.decDigits n.natAbs := by unfold Lib.itoa; rw [if_pos h]

/-- What a text of a number spells. -/
def spell (t : List UInt8) : Int :=
  match t with
  | [] => 0
  | c :: r => if c = 45 then -(dval 0 r : Int) else (dval 0 (c :: r) : Int)
theorem spell_itoa (n : Int) : spell (Lib.itoa n) = n := by
  by_cases h : n < 0
  · rw [itoa_neg n h]
    simp only [spell, if_true, dec_val]
    omega
  · rw [itoa_nonneg n (by omega)]
    have h1 := dec_digits n.toNat
    have h2 := dec_val n.toNat
    revert h1 h2
    cases hd : Lib.decDigits n.toNat with
    | nil => exact absurd hd (dec_ne _)
    | cons c r =>
      intro h1 h2
      have hc := h1 c (by simp)
      have h45 : c ≠ 45 := by intro e; subst e; simp [isDigit] at hc
      simp only [spell, h45, if_false, h2]
      omega
theorem itoa_inj {n k : Int} (h : Lib.itoa n = Lib.itoa k) : n = k := by rw [← spell_itoa n, h, spell_itoa]
theorem numOf_eq (t : List UInt8) : numOf Lib.itoa t = if t ≠ [] ∧ -9223372036854775808 ≤ spell t ∧ spell t ≤ 9223372036854775807 ∧ Lib.itoa (spell t) = t then some (spell t) else none := by
  cases t with
  | nil => simp [numOf]
  | cons c r => simp [numOf, spell]
theorem itoa_ne (n : Int) : Lib.itoa n ≠ [] := by
  by_cases h : n < 0
  · rw [itoa_neg n h]; simp
  · rw [itoa_nonneg n (by omega)]; exact dec_ne _
theorem numOf_itoa {n : Int} (h0 : -9223372036854775808 ≤ n) (h1 : n ≤ 9223372036854775807) : numOf Lib.itoa (Lib.itoa n) = some n := by
  rw [numOf_eq, spell_itoa, if_pos ⟨itoa_ne n, h0, h1, rfl⟩]
theorem numOf_some {t : List UInt8} {n : Int} (h : numOf Lib.itoa t = some n) : t = Lib.itoa n ∧ -9223372036854775808 ≤ n ∧ n ≤ 9223372036854775807 := by
  rw [numOf_eq] at h
  split at h
  · rename_i hc
    cases h
    exact ⟨hc.2.2.2.symm, hc.2.1, hc.2.2.1⟩
  · cases h
/-- Digits, with a sign ahead or not. -/
def numText (t : List UInt8) : Prop := ∃ c r, t = c :: r ∧ (c = 45 ∨ isDigit c = true) ∧ ∀ d ∈ r, isDigit d = true

theorem dval_ge : ∀ (l : List UInt8) (a : Nat), a ≤ dval a l
  | [], _ => Nat.le_refl _
  | c :: r, a => by
    have := dval_ge r (10 * a + (c.toNat - 48))
    simp only [dval_nil, dval_cons]; omega
theorem parse_digits : ∀ (l : List UInt8), (∀ d ∈ l, isDigit d = true) → ∀ a, a < 18446744073709551616 → Lib.parseUint10 a l = if dval a l < 18446744073709551616 then .ok (dval a l) else .range
  | [], _, a, ha => by simp [Lib.parseUint10, dval_nil, ha]
  | c :: r, h, a, ha => by
    have hc := h c (by simp)
    simp only [isDigit, Bool.and_eq_true, decide_eq_true_eq] at hc
    have ge := dval_ge r (10 * a + (c.toNat - 48))
    rw [dval_cons, Lib.parseUint10, if_pos hc]
    by_cases h1 : 1844674407370955162 ≤ a
    · rw [if_pos h1, if_neg (by omega)]
    · rw [if_neg h1, show a * 10 + (c.toNat - 48) = 10 * a + (c.toNat - 48) by omega]
      by_cases h2 : 18446744073709551616 ≤ 10 * a + (c.toNat - 48)
      · rw [if_pos h2, if_neg (by omega)]
      · rw [if_neg h2, parse_digits r (fun d hd => h d (by simp [hd])) _ (by omega)]
theorem code_num {t : List UInt8} (h : numText t) :
    (∀ v, Lib.parseIntB 64 t = .ok v → numOf Lib.itoa t = if Lib.itoa v = t then some v else none) ∧ ((∀ v, Lib.parseIntB 64 t ≠ .ok v) → numOf Lib.itoa t = none) := by
  obtain ⟨c, r, rfl, hc, hr⟩ := h
  rw [Lib.parseIntB_64, numOf_eq]
  by_cases h45 : c = 45
  · subst h45
    rw [Lib.atoiAll_minus]
    have hs : spell (45 :: r) = -(dval 0 r : Int) := by simp [spell]
    rw [hs]
    by_cases hn : r = []
    · subst hn
      refine ⟨fun v hv => by simp [Lib.parseMag, Lib.signed] at hv, fun _ => ?_⟩
      rw [if_neg]
      rintro ⟨_, _, _, h⟩
      simp only [dval_nil, dval_cons] at h
      rw [itoa_nonneg _ (by omega)] at h
      simp [Lib.decDigits_one] at h
    · have hm : Lib.parseMag r = if dval 0 r < 18446744073709551616 then .ok (dval 0 r) else .range := by
        simp only [Lib.parseMag, hn, if_false]
        exact parse_digits r hr 0 (by omega)
      rw [hm]
      by_cases h1 : dval 0 r < 18446744073709551616
      · rw [if_pos h1]
        simp only [Lib.signed]
        by_cases h2 : 9223372036854775808 < dval 0 r
        · rw [if_pos h2]
          exact ⟨fun v hv => (by cases hv), fun _ => by rw [if_neg (by omega)]⟩
        · rw [if_neg h2]
          refine ⟨fun v hv => ?_, fun hv => absurd rfl (hv _)⟩
          injection hv with hv
          subst hv
          by_cases he : Lib.itoa (-(dval 0 r : Int)) = 45 :: r
          · rw [if_pos he, if_pos ⟨by simp, by omega, by omega, he⟩]
          · rw [if_neg he, if_neg (by rintro ⟨_, _, _, h⟩; exact he h)]
      · rw [if_neg h1]
        exact ⟨fun v hv => by simp [Lib.signed] at hv, fun _ => by rw [if_neg (by omega)]⟩
  · have hd : isDigit c = true := by rcases hc with hc | hc; exact absurd hc h45; exact hc
    have hall : ∀ d ∈ c :: r, isDigit d = true := by intro d hd'; rcases List.mem_cons.1 hd' with rfl | h; exact hd; exact hr d h
    have h43 : c.toNat ≠ 43 := by intro e; simp [isDigit, e] at hd
    have h45' : c.toNat ≠ 45 := fun e => h45 (UInt8.toNat_inj.1 e)
    rw [Lib.atoiAll_plain c r h43 h45']
    have hs : spell (c :: r) = (dval 0 (c :: r) : Int) := by simp [spell, h45]
    rw [hs]
    have hm : Lib.parseMag (c :: r) = if dval 0 (c :: r) < 18446744073709551616 then .ok (dval 0 (c :: r)) else .range := by
      simp only [Lib.parseMag, reduceCtorEq, if_false]
      exact parse_digits (c :: r) hall 0 (by omega)
    rw [hm]
    by_cases h1 : dval 0 (c :: r) < 18446744073709551616
    · rw [if_pos h1]
      simp only [Lib.signless]
      by_cases h2 : 9223372036854775808 ≤ dval 0 (c :: r)
      · rw [if_pos h2]
        exact ⟨fun v hv => (by cases hv), fun _ => by rw [if_neg (by omega)]⟩
      · rw [if_neg h2]
        refine ⟨fun v hv => ?_, fun hv => absurd rfl (hv _)⟩
        injection hv with hv
        subst hv
        by_cases he : Lib.itoa (dval 0 (c :: r) : Int) = c :: r
        · rw [if_pos he, if_pos ⟨by simp, by omega, by omega, he⟩]
        · rw [if_neg he, if_neg (by rintro ⟨_, _, _, h⟩; exact he h)]
    · rw [if_neg h1]
      exact ⟨fun v hv => by simp [Lib.signless] at hv, fun _ => by rw [if_neg (by omega)]⟩

/-! ### The document's way -/

theorem dval_bound : ∀ (l : List UInt8), (∀ d ∈ l, isDigit d = true) → ∀ a k, a < 10 ^ k → dval a l < 10 ^ (k + l.length)
  | [], _, a, k, h => by simpa [dval_nil] using h
  | c :: r, h, a, k, ha => by
    have hc := h c (by simp)
    simp only [isDigit, Bool.and_eq_true, decide_eq_true_eq] at hc
    have := dval_bound r (fun d hd => h d (by simp [hd])) (10 * a + (c.toNat - 48)) (k + 1) (by rw [Nat.pow_succ]; omega)
    simp only [dval_nil, dval_cons, List.length_cons]
    rw [show k + (r.length + 1) = k + 1 + r.length by omega]
    exact this
/-- The digits behind the sign. -/
def mags (t : List UInt8) : List UInt8 := if t.head? = some 45 then t.tail else t
theorem spell_mags {t : List UInt8} (h : numText t) : spell t = if t.head? = some 45 then -(dval 0 (mags t) : Int) else (dval 0 (mags t) : Int) := by
  obtain ⟨c, r, rfl, hc, hr⟩ := h
  by_cases h45 : c = 45
  · subst h45; simp [spell, mags]
  · simp [spell, mags, h45]
theorem mags_digits {t : List UInt8} (h : numText t) : ∀ d ∈ mags t, isDigit d = true := by
  obtain ⟨c, r, rfl, hc, hr⟩ := h
  by_cases h45 : c = 45
  · subst h45; simpa [mags] using hr
  · have hd : isDigit c = true := by rcases hc with hc | hc; exact absurd hc h45; exact hc
    simp only [mags, List.head?_cons, Option.some.injEq, h45, if_false]
    intro d hd'; rcases List.mem_cons.1 hd' with rfl | h; exact hd; exact hr d h
theorem mags_itoa (n : Int) : mags (Lib.itoa n) = Lib.decDigits n.natAbs := by
  by_cases h : n < 0
  · rw [itoa_neg n h]; simp [mags]
  · rw [itoa_nonneg n (by omega), show n.natAbs = n.toNat by omega]
    have h1 := dec_digits n.toNat
    revert h1
    cases hd : Lib.decDigits n.toNat with
    | nil => exact absurd hd (dec_ne _)
    | cons c r =>
      intro h1
      have hc := h1 c (by simp)
      have h45 : c ≠ 45 := by intro e; subst e; simp [isDigit] at hc
      simp [mags, h45]
/-- More than 19 digits, or none, are no number. -/
theorem num_long {t : List UInt8} (hl : (mags t).length = 0 ∨ 19 < (mags t).length) : numOf Lib.itoa t = none := by
  cases h : numOf Lib.itoa t with
  | none => rfl
  | some n =>
    obtain ⟨rfl, h0, h1⟩ := numOf_some h
    rw [mags_itoa, Lib.decDigits_length] at hl
    have h2 := Lib.nDigits_pos n.natAbs
    have h3 := nDigits_le 18 n.natAbs (by have : (10 : Nat) ^ (18 + 1) = 10000000000000000000 := by decide
                                          omega)
    omega
/-- Up to 19 digits spell a number below 2^64. -/
theorem num_fits {t : List UInt8} (h : numText t) (hl : (mags t).length ≤ 19) : dval 0 (mags t) < 10000000000000000000 := by
  have := dval_bound (mags t) (mags_digits h) 0 0 (by simp)
  have h2 : 10 ^ (0 + (mags t).length) ≤ 10 ^ 19 := Nat.pow_le_pow_right (by decide) (by omega)
  have h3 : (10 : Nat) ^ 19 = 10000000000000000000 := by decide
  omega
end Go.Proofs.YtceomdbahiimlaaDoor
