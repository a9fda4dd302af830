/-
  A number's text: its digits, what digits spell, and what is told of digits with a sign or not.
-/
import Derived.Test.YtggcjdajmbkpiaaGreatDoorTokMath
import Derived.Lib.ItoaNum
import Derived.Lib.ParseIntBTie
import Derived.Lib.AtoiAllCases
import Derived.Test.YtggcjdajmbkpiaaGreatDoorText
import Derived.Maps.OwnSet
import Derived.Test.YtggcjdajmbkpiaaGreatDoorTrSize
import Derived.Lib.LaidTab
import Derived.Shelf.Lays
import Derived.Shelf.LaysM
import Derived.Shelf.Small.Strs
import Derived.Lib.OthersKept
import Derived.Lib.Strings
import Derived.Lib.Index
import Derived.Sort.Grow
import Derived.Test.YtggcjdajmbkpiaaGreatDoorProg
namespace Go.Proofs.YtggcjdajmbkpiaaGreatDoor
set_option maxRecDepth 100000

theorem dval_nil (a : Nat) : dval a [] = a := by unfold dval; rw [List.foldl_nil]
theorem dval_cons (a : Nat) (c : UInt8) (r : List UInt8) : dval a (c :: r) = dval (10 * a + (c.toNat - 48)) r := by unfold dval; rw [List.foldl_cons]
theorem dval_app (c : UInt8) (l : List UInt8) : ∀ (a : Nat), dval a (l ++ [c]) = 10 * dval a l + (c.toNat - 48) := by
  induction l with
  | nil => intro a; simp [dval_nil, dval_cons]
  | cons d r ih => intro a; rw [List.cons_append, dval_cons, dval_cons, ih]
theorem digit_of {k : Nat} (h : k < 10) : isDigit (UInt8.ofNat (48 + k)) = true ∧ (UInt8.ofNat (48 + k)).toNat = 48 + k := by
  have e : (UInt8.ofNat (48 + k)).toNat = 48 + k := by simp; omega
  exact ⟨by simp only [isDigit, e, Bool.and_eq_true, decide_eq_true_eq]; omega, e⟩
theorem dec_step {u : Nat} (h : ¬ u < 10) : Lib.decDigits u = Lib.decDigits (u / 10) ++ [UInt8.ofNat (48 + u % 10)] := by
  rw [Lib.decDigits, dif_neg h]
theorem dec_val (u : Nat) : dval 0 (Lib.decDigits u) = u := by
  by_cases h : u < 10
  · rw [Lib.decDigits_one h]
    simp only [dval_nil, dval_cons, (digit_of h).2]; omega
  · rw [dec_step h, dval_app, dec_val (u / 10), (digit_of (Nat.mod_lt u (by decide))).2]
    omega
  termination_by u
theorem dec_digits (u : Nat) : ∀ c ∈ Lib.decDigits u, isDigit c = true := by
  by_cases h : u < 10
  · rw [Lib.decDigits_one h]
    intro c hc
    rw [List.mem_singleton.1 hc]
    exact (digit_of h).1
  · rw [dec_step h]
    intro c hc
    rw [List.mem_append] at hc
    rcases hc with hc | hc
    · exact dec_digits (u / 10) c hc
    · rw [List.mem_singleton.1 hc]
      exact (digit_of (Nat.mod_lt u (by decide))).1
  termination_by u
theorem dec_ne (u : Nat) : Lib.decDigits u ≠ [] := by
  intro h
  have := Lib.decDigits_length u
  have h1 := Lib.nDigits_pos u
  rw [h] at this
  simp at this; omega
theorem nDigits_le (k : Nat) : ∀ u, u < 10 ^ (k + 1) → Lib.nDigits u ≤ k + 1 := by
  induction k with
  | zero => intro u h; rw [Lib.nDigits_small (by simpa using h)]; omega
  | succ k ih =>
    intro u h
    by_cases h10 : u < 10
    · rw [Lib.nDigits_small h10]; omega
    · rw [Lib.nDigits_big h10]
      have := ih (u / 10) (by rw [Nat.pow_succ] at h; omega)
      omega

theorem itoa_nonneg (n : Int) (h : 0 ≤ n) : Lib.itoa n = Lib.decDigits n.toNat := by unfold Lib.itoa; rw [if_neg (by omega)]
theorem itoa_neg (n : Int) (h : n < 0) : Lib.itoa n = 45 :: Lib.decDigits n.natAbs := by unfold Lib.itoa; rw [if_pos h]

/-- What a text of a number spells. -/
def spell (t : List UInt8) : Int :=
  match t with
  | [] => 0
  | c :: r => if c = 45 then -(dval 0 r : Int) else (dval 0 (c :: r) : Int)
theorem spell_itoa (n : Int) : spell (Lib.itoa n) = n := by
  by_cases h : n < 0
  · rw [itoa_neg n h]
    simp only [spell, if_true, dec_val]
    omega
  · rw [itoa_nonneg n (by omega)]
    have h1 := dec_digits n.toNat
    have h2 := dec_val n.toNat
    revert h1 h2
    cases hd : Lib.decDigits n.toNat with
    | nil => exact absurd hd (dec_ne _)
    | cons c r =>
      intro h1 h2
      have hc := h1 c (by simp)
      have h45 : c ≠ 45 := by intro e; subst e; simp [isDigit] at hc
      simp only [spell, h45, if_false, h2]
      omega
theorem itoa_inj {n k : Int} (h : Lib.itoa n = Lib.itoa k) : n = k := by rw [← spell_itoa n, h, spell_itoa]
theorem numOf_eq (t : List UInt8) : numOf Lib.itoa t = if t ≠ [] ∧ -9223372036854775808 ≤ spell t ∧ spell t ≤ 9223372036854775807 ∧ Lib.itoa (spell t) = t then some (spell t) else none := by
  cases t with
  | nil => simp [numOf]
  | cons c r => simp [numOf, spell]
theorem itoa_ne (n : Int) : Lib.itoa n ≠ [] := by
  by_cases h : n < 0
  · rw [itoa_neg n h]; simp
  · rw [itoa_nonneg n (by omega)]; exact dec_ne _
theorem numOf_itoa {n : Int} (h0 : -9223372036854775808 ≤ n) (h1 : n ≤ 9223372036854775807) : numOf Lib.itoa (Lib.itoa n) = some n := by
  rw [numOf_eq, spell_itoa, if_pos ⟨itoa_ne n, h0, h1, rfl⟩]
theorem numOf_some {t : List UInt8} {n : Int} (h : numOf Lib.itoa t = some n) : t = Lib.itoa n ∧ -9223372036854775808 ≤ n ∧ n ≤ 9223372036854775807 := by
  rw [numOf_eq] at h
  split at h
  · rename_i hc
    cases h
    exact ⟨hc.2.2.2.symm, hc.2.1, hc.2.2.1⟩
  · cases h
/-- Digits, with a sign ahead or not. -/
def numText (t : List UInt8) : Prop := ∃ c r, t = c :: r ∧ (c = 45 ∨ isDigit c = true) ∧ ∀ d ∈ r, isDigit d = true

theorem dval_ge : ∀ (l : List UInt8) (a : Nat), a ≤ dval a l
  | [], _ => Nat.le_refl _
  | c :: r, a => by
    have := dval_ge r (10 * a + (c.toNat - 48))
    simp only [dval_nil, dval_cons]; omega
theorem parse_digits : ∀ (l : List UInt8), (∀ d ∈ l, isDigit d = true) → ∀ a, a < 18446744073709551616 → Lib.parseUint10 a l = if dval a l < 18446744073709551616 then .ok (dval a l) else .range
  | [], _, a, ha => by simp [Lib.parseUint10, dval_nil, ha]
  | c :: r, h, a, ha => by
    have hc := h c (by simp)
    simp only [isDigit, Bool.and_eq_true, decide_eq_true_eq] at hc
    have ge := dval_ge r (10 * a + (c.toNat - 48))
    rw [dval_cons, Lib.parseUint10, if_pos hc]
    by_cases h1 : 1844674407370955162 ≤ a
    · rw [if_pos h1, if_neg (by omega)]
    · rw [if_neg h1, show a * 10 + (c.toNat - 48) = 10 * a + (c.toNat - 48) by omega]
      by_cases h2 : 18446744073709551616 ≤ 10 * a + (c.toNat - 48)
      · rw [if_pos h2, if_neg (by omega)]
      · rw [if_neg h2, parse_digits r (fun d hd => h d (by simp [hd])) _ (by omega)]
theorem code_num {t : List UInt8} (h : numText t) :
    (∀ v, Lib.parseIntB 64 t = .ok v → numOf Lib.itoa t = if Lib.itoa v = t then some v else none) ∧ ((∀ v, Lib.parseIntB 64 t ≠ .ok v) → numOf Lib.itoa t = none) := by
  obtain ⟨c, r, rfl, hc, hr⟩ := h
  rw [Lib.parseIntB_64, numOf_eq]
  by_cases h45 : c = 45
  · subst h45
    rw [Lib.atoiAll_minus]
    have hs : spell (45 :: r) = -(dval 0 r : Int) := by simp [spell]
    rw [hs]
    by_cases hn : r = []
    · subst hn
      refine ⟨fun v hv => by simp [Lib.parseMag, Lib.signed] at hv, fun _ => ?_⟩
      rw [if_neg]
      rintro ⟨_, _, _, h⟩
      simp only [dval_nil, dval_cons] at h
      rw [itoa_nonneg _ (by omega)] at h
      simp [Lib.decDigits_one] at h
    · have hm : Lib.parseMag r = if dval 0 r < 18446744073709551616 then .ok (dval 0 r) else .range := by
        simp only [Lib.parseMag, hn, if_false]
        exact parse_digits r hr 0 (by omega)
      rw [hm]
      by_cases h1 : dval 0 r < 18446744073709551616
      · rw [if_pos h1]
        simp only [Lib.signed]
        by_cases h2 : 9223372036854775808 < dval 0 r
        · rw [if_pos h2]
          exact ⟨fun v hv => (by cases hv), fun _ => by rw [if_neg (by omega)]⟩
        · rw [if_neg h2]
          refine ⟨fun v hv => ?_, fun hv => absurd rfl (hv _)⟩
          injection hv with hv
          subst hv
          by_cases he : Lib.itoa (-(dval 0 r : Int)) = 45 :: r
          · rw [if_pos he, if_pos ⟨by simp, by omega, by omega, he⟩]
          · rw [if_neg he, if_neg (by rintro ⟨_, _, _, h⟩; exact he h)]
      · rw [if_neg h1]
        exact ⟨fun v hv => by simp [Lib.signed] at hv, fun _ => by rw [if_neg (by omega)]⟩
  · have hd : isDigit c = true := by rcases hc with hc | hc; exact absurd hc h45; exact hc
    have hall : ∀ d ∈ c :: r, isDigit d = true := by intro d hd'; rcases List.mem_cons.1 hd' with rfl | h; exact hd; exact hr d h
    have h43 : c.toNat ≠ 43 := by intro e; simp [isDigit, e] at hd
    have h45' : c.toNat ≠ 45 := fun e => h45 (UInt8.toNat_inj.1 e)
    rw [Lib.atoiAll_plain c r h43 h45']
    have hs : spell (c :: r) = (dval 0 (c :: r) : Int) := by simp [spell, h45]
    rw [hs]
    have hm : Lib.parseMag (c :: r) = if dval 0 (c :: r) < 18446744073709551616 then .ok (dval 0 (c :: r)) else .range := by
      simp only [Lib.parseMag, reduceCtorEq, if_false]
      exact parse_digits (c :: r) hall 0 (by omega)
    rw [hm]
    by_cases h1 : dval 0 (c :: r) < 18446744073709551616
    · rw [if_pos h1]
      simp only [Lib.signless]
      by_cases h2 : 9223372036854775808 ≤ dval 0 (c :: r)
      · rw [if_pos h2]
        exact ⟨fun v hv => (by cases hv), fun _ => by rw [if_neg (by omega)]⟩
      · rw [if_neg h2]
        refine ⟨fun v hv => ?_, fun hv => absurd rfl (hv _)⟩
        injection hv with hv
        subst hv
        by_cases he : Lib.itoa (dval 0 (c :: r) : Int) = c :: r
        · rw [if_pos he, if_pos ⟨by simp, by omega, by omega, he⟩]
        · rw [if_neg he, if_neg (by rintro ⟨_, _, _, h⟩; exact he h)]
    · rw [if_neg h1]
      exact ⟨fun v hv => by simp [Lib.signless] at hv, fun _ => by rw [if_neg (by omega)]⟩

/-! ### The document's way -/

theorem dval_bound : ∀ (l : List UInt8), (∀ d ∈ l, isDigit d = true) → ∀ a k, a < 10 ^ k → dval a l < 10 ^ (k + l.length)
  | [], _, a, k, h => by simpa [dval_nil] using h
  | c :: r, h, a, k, ha => by
    have hc := h c (by simp)
    simp only [isDigit, Bool.and_eq_true, decide_eq_true_eq] at hc
    have := dval_bound r (fun d hd => h d (by simp [hd])) (10 * a + (c.toNat - 48)) (k + 1) (by rw [Nat.pow_succ]; omega)
    simp only [dval_nil, dval_cons, List.length_cons]
    rw [show k + (r.length + 1) = k + 1 + r.length by omega]
    exact this
/-- The digits behind the sign. -/
def mags (t : List UInt8) : List UInt8 := if t.head? = some 45 then t.tail else t
theorem spell_mags {t : List UInt8} (h : numText t) : spell t = if t.head? = some 45 then -(dval 0 (mags t) : Int) else (dval 0 (mags t) : Int) := by
  obtain ⟨c, r, rfl, hc, hr⟩ := h
  by_cases h45 : c = 45
  · subst h45; simp [spell, mags]
  · simp [spell, mags, h45]
theorem mags_digits {t : List UInt8} (h : numText t) : ∀ d ∈ mags t, isDigit d = true := by
  obtain ⟨c, r, rfl, hc, hr⟩ := h
  by_cases h45 : c = 45
  · subst h45; simpa [mags] using hr
  · have hd : isDigit c = true := by rcases hc with hc | hc; exact absurd hc h45; exact hc
    simp only [mags, List.head?_cons, Option.some.injEq, h45, if_false]
    intro d hd'; rcases List.mem_cons.1 hd' with rfl | h; exact hd; exact hr d h
theorem mags_itoa (n : Int) : mags (Lib.itoa n) = Lib.decDigits n.natAbs := by
  by_cases h : n < 0
  · rw [itoa_neg n h]; simp [mags]
  · rw [itoa_nonneg n (by omega), show n.natAbs = n.toNat by omega]
    have h1 := dec_digits n.toNat
    revert h1
    cases hd : Lib.decDigits n.toNat with
    | nil => exact absurd hd (dec_ne _)
    | cons c r =>
      intro h1
      have hc := h1 c (by simp)
      have h45 : c ≠ 45 := by intro e; subst e; simp [isDigit] at hc
      simp [mags, h45]
/-- More than 19 digits, or none, are no number. -/
theorem num_long {t : List UInt8} (hl : (mags t).length = 0 ∨ 19 < (mags t).length) : numOf Lib.itoa t = none := by
  cases h : numOf Lib.itoa t with
  | none => rfl
  | some n =>
    obtain ⟨rfl, h0, h1⟩ := numOf_some h
    rw [mags_itoa, Lib.decDigits_length] at hl
    have h2 := Lib.nDigits_pos n.natAbs
    have h3 := nDigits_le 18 n.natAbs (by have : (10 : Nat) ^ (18 + 1) = 10000000000000000000 := by decide
                                          omega)
    omega
/-- Up to 19 digits spell a number below 2^64. -/
theorem num_fits {t : List UInt8} (h : numText t) (hl : (mags t).length ≤ 19) : dval 0 (mags t) < 10000000000000000000 := by
  have := dval_bound (mags t) (mags_digits h) 0 0 (by simp)
  have h2 : 10 ^ (0 + (mags t).length) ≤ 10 ^ 19 := Nat.pow_le_pow_right (by decide) (by omega)
  have h3 : (10 : Nat) ^ 19 = 10000000000000000000 := by decide
  omega
end Go.Proofs.YtggcjdajmbkpiaaGreatDoor
/-
  A file as a text: what is printed, by plain functions.
-/
namespace Go.Proofs.YtggcjdajmbkpiaaGreatDoor
set_option maxRecDepth 100000

def lineB (ps : List (List UInt8)) : List UInt8 := ps.flatten ++ [10]
def digB (n : Int) : List UInt8 := Lib.itoa n
def typeB (d : Fd) : List UInt8 := if d.key ≠ [] then ([109, 97, 112, 60] ++ d.key ++ [44, 32] ++ d.type ++ [62]) else if d.rep then ([114, 101, 112, 101, 97, 116, 101, 100, 32] ++ d.type) else d.type
def fieldB (ahead : List UInt8) (d : Fd) : List UInt8 := lineB [ahead, typeB d, [32], d.name, [32, 61, 32], digB d.no, [59]]
def fieldsB (ahead : List UInt8) (l : List Fd) : List UInt8 := (l.map (fieldB ahead)).flatten
def oneB (name : List UInt8) (l : List Fd) : List UInt8 := if l = [] then [] else lineB [[32, 32], wOneof, [32], name, [32, 123]] ++ fieldsB [32, 32, 32, 32] l ++ lineB [[32, 32], [125]]
/-- Numbers, with what stands ahead of the first one. -/
def numsB (ahead : List UInt8) : List Int → List UInt8
  | [] => []
  | n :: l => ahead ++ digB n ++ numsB [44, 32] l
def resB (l : List Int) : List UInt8 := [32, 32, 114, 101, 115, 101, 114, 118, 101, 100] ++ numsB [32] l ++ lineB [[59]]
def inOne (n : Nat) (d : Fd) : Bool := decide (0 < d.one) && decide (d.one ≤ (n : Int))
/-- The place of its oneof. -/
def oneAt (d : Fd) : Nat := d.one.toNat - 1
/-- The fields of each oneof. -/
def memStep (n : Nat) (ms : List (List Fd)) (d : Fd) : List (List Fd) := if inOne n d then ms.set (oneAt d) (ms.getD (oneAt d) [] ++ [d]) else ms
def memsB (n : Nat) (l : List Fd) : List (List Fd) := l.foldl (memStep n) (List.replicate n [])
theorem memStep_length (n : Nat) (ms : List (List Fd)) (d : Fd) : (memStep n ms d).length = ms.length := by unfold memStep; split <;> simp
theorem memsB_take (n : Nat) (l : List Fd) (k : Nat) (d : Fd) (h : l[k]? = some d) : memsB n (l.take (k + 1)) = memStep n (memsB n (l.take k)) d := by
  rw [List.take_add_one, h]; simp [memsB, List.foldl_append]
theorem foldl_length (n : Nat) : ∀ (l : List Fd) (ms : List (List Fd)), (l.foldl (memStep n) ms).length = ms.length
  | [], _ => rfl
  | d :: l, ms => by rw [List.foldl_cons, foldl_length n l, memStep_length]
theorem memsB_length (n : Nat) (l : List Fd) : (memsB n l).length = n := by rw [memsB, foldl_length]; simp
theorem foldl_few (n : Nat) : ∀ (l : List Fd) (ms : List (List Fd)) (k : Nat), ((l.foldl (memStep n) ms).getD k []).length ≤ (ms.getD k []).length + l.length
  | [], _, _ => by simp
  | d :: l, ms, k => by
    rw [List.foldl_cons]
    have := foldl_few n l (memStep n ms d) k
    have h2 : ((memStep n ms d).getD k []).length ≤ (ms.getD k []).length + 1 := by
      unfold memStep
      split
      · simp only [List.getD_eq_getElem?_getD, List.getElem?_set]
        split
        · rename_i h3
          subst h3
          split
          · simp
          · simp
        · omega
      · omega
    simp only [List.length_cons]
    omega
theorem memsB_few (n : Nat) (l : List Fd) (k : Nat) : ((memsB n l).getD k []).length ≤ l.length := by
  have := foldl_few n l (List.replicate n []) k
  have h : ((List.replicate n ([] : List Fd)).getD k []).length = 0 := by
    rw [List.getD_eq_getElem?_getD, List.getElem?_replicate]
    split <;> rfl
  unfold memsB
  omega
/-- The items, one after the other: all that are in a oneof stand at the first of them. -/
def itemsB (ones : List (List UInt8)) : List (List Fd) → List Fd → List UInt8
  | _, [] => []
  | ms, d :: l => if inOne ones.length d then oneB (ones.getD (oneAt d) []) (ms.getD (oneAt d) []) ++ itemsB ones (ms.set (oneAt d) []) l else fieldB [32, 32] d ++ itemsB ones ms l
def messageB (m : Ms) : List UInt8 := lineB [wMessage, [32], m.name, [32, 123]] ++ itemsB m.ones (memsB m.ones.length m.F) m.F ++ (if m.res = [] then [] else resB m.res) ++ lineB [[125]]
def valB (v : Vl) : List UInt8 := lineB [[32, 32], v.name, [32, 61, 32], digB v.n, [59]]
def enumB (e : En) : List UInt8 := lineB [wEnum, [32], e.name, [32, 123]] ++ (e.V.map valB).flatten ++ lineB [[125]]
def fileB (f : Fl) : List UInt8 := (f.M.map messageB).flatten ++ (f.E.map enumB).flatten
theorem numsB_snoc (a : List UInt8) (l : List Int) (n : Int) : numsB a (l ++ [n]) = numsB a l ++ ((if l = [] then a else [44, 32]) ++ digB n) := by
  induction l generalizing a with
  | nil => simp [numsB]
  | cons x l ih =>
    rw [List.cons_append, numsB, ih]
    simp only [numsB, List.append_assoc, reduceCtorEq, if_false]
    split <;> rfl
end Go.Proofs.YtggcjdajmbkpiaaGreatDoor
/-
  Where tokens begin, and by which byte; how All ends.
-/
namespace Go.Proofs.YtggcjdajmbkpiaaGreatDoor
set_option maxRecDepth 100000

/-- A token at the beginning of what is left. -/
structure Good (l : List UInt8) (t : T) : Prop where
  kind : t.kind < 4
  str : t.kind = 2 ↔ l.head? = some 34
  ne : t.kind ≠ 2 → t.text ≠ []
  text : t.kind ≠ 2 → l.take t.text.length = t.text
theorem tk_good {it : Int → List UInt8} {l : List UInt8} {t : Tk} (h : tk it l = some t) (p : Nat) : Good l ⟨t.kind, t.text, t.num, p⟩ := by
  cases l with
  | nil => simp [tk] at h
  | cons c r =>
    have s1 := span_le isNext r
    have s2 := span_le isDigit r
    simp only [tk] at h
    by_cases h1 : isFirst c = true
    · rw [if_pos h1] at h
      injection h with h
      subst h
      have hc : c ≠ 34 := by rintro rfl; exact absurd h1 (by decide)
      exact ⟨by simp, by simp [hc], by simp, fun _ => by simp only [List.length_cons, List.length_take, Nat.min_eq_left s1, List.take_succ_cons]⟩
    · rw [if_neg h1] at h
      by_cases h2 : (isDigit c || c == 45) = true
      · rw [if_pos h2] at h
        simp only [Option.map_eq_some_iff] at h
        obtain ⟨n, _, rfl⟩ := h
        have hc : c ≠ 34 := by rintro rfl; exact absurd h2 (by decide)
        exact ⟨by simp, by simp [hc], by simp, fun _ => by simp only [List.length_cons, List.length_take, Nat.min_eq_left s2, List.take_succ_cons]⟩
      · rw [if_neg h2] at h
        by_cases h3 : (c == 34) = true
        · rw [if_pos h3] at h
          simp only [Option.map_eq_some_iff] at h
          obtain ⟨x, _, rfl⟩ := h
          have hc : c = 34 := by simpa using h3
          exact ⟨by simp, by simp [hc], by simp, by simp⟩
        · rw [if_neg h3] at h
          have hc : c ≠ 34 := by simpa using h3
          split at h
          · injection h with h
            subst h
            exact ⟨by simp, by simp [hc], by simp, fun _ => by simp⟩
          · cases h
section

variable {it : Int → List UInt8}

theorem lex_good : ∀ (l : List UInt8) (k p : Nat), ∀ t ∈ (lex it k p l).1, p + k ≤ t.at_ ∧ t.at_ < p + l.length ∧ Good (l.drop (t.at_ - p)) t
  | [], k, p, t, h => by cases k <;> simp [lex] at h
  | c :: r, k + 1, p, t, h => by
    simp only [lex] at h
    obtain ⟨h1, h2, h3⟩ := lex_good r k (p + 1) t h
    refine ⟨by omega, by simp only [List.length_cons]; omega, ?_⟩
    rw [show t.at_ - p = t.at_ - (p + 1) + 1 by omega, List.drop_succ_cons]
    exact h3
  | c :: r, 0, p, t, h => by
    simp only [lex] at h
    split at h
    · rename_i w _
      obtain ⟨h1, h2, h3⟩ := lex_good r w (p + 1) t h
      refine ⟨by omega, by simp only [List.length_cons]; omega, ?_⟩
      rw [show t.at_ - p = t.at_ - (p + 1) + 1 by omega, List.drop_succ_cons]
      exact h3
    · split at h
      · simp at h
      · rename_i x hx
        rcases List.mem_cons.1 h with rfl | h
        · refine ⟨by simp, by simp, ?_⟩
          simp only [Nat.sub_self, List.drop_zero]
          exact tk_good hx p
        · obtain ⟨h1, h2, h3⟩ := lex_good r x.more (p + 1) t h
          refine ⟨by omega, by simp only [List.length_cons]; omega, ?_⟩
          rw [show t.at_ - p = t.at_ - (p + 1) + 1 by omega, List.drop_succ_cons]
          exact h3
theorem lex_rise : ∀ (l : List UInt8) (k p : Nat), (lex it k p l).1.Pairwise fun a b => a.at_ < b.at_
  | [], k, p => by cases k <;> simp [lex]
  | c :: r, k + 1, p => by
    simp only [lex]
    exact lex_rise r k (p + 1)
  | c :: r, 0, p => by
    simp only [lex]
    split
    · exact lex_rise r _ (p + 1)
    · split
      · exact List.Pairwise.nil
      · rename_i x hx
        refine List.Pairwise.cons (fun b hb => ?_) (lex_rise r x.more (p + 1))
        have := (lex_good r x.more (p + 1) b hb).1
        show p < b.at_
        omega
theorem all_cases (L : List UInt8) :
    (allE it L = 0 ∧ allAt it L = L.length ∧ (allT it L).length ≤ 1000 ∧ allT it L = (lex it 0 0 L).1) ∨ (allT it L = [] ∧ allAt it L < L.length ∧ (allE it L = 4 ∨ allE it L = 2)) := by
  unfold allE allAt allT
  by_cases h5 : 5000 < L.length
  · right
    simp only [if_pos h5]
    exact ⟨trivial, by omega, .inr trivial⟩
  · simp only [if_neg h5]
    unfold ansT ansAt ansE
    by_cases h1 : 1000 < (lex it 0 0 L).1.length
    · right
      simp only [if_pos h1]
      refine ⟨trivial, ?_, .inr trivial⟩
      have hm := List.getElem_mem h1
      have hg := lex_good L 0 0 _ hm
      rw [List.getD_eq_getElem?_getD, List.getElem?_eq_getElem h1]
      simp only [Option.getD_some]
      omega
    · simp only [if_neg h1]
      cases h2 : (lex it 0 0 L).2 with
      | none =>
        left
        exact ⟨rfl, rfl, by simp; omega, by simp⟩
      | some q =>
        right
        have := lex_place L 0 0 q h2
        exact ⟨rfl, by simp; omega, .inl rfl⟩
end

end Go.Proofs.YtggcjdajmbkpiaaGreatDoor
/-
  Texts that are made of pieces: blanks, signs, and names and numbers with a blank or a sign behind them; what is told of their tokens.
-/
namespace Go.Proofs.YtggcjdajmbkpiaaGreatDoor
set_option maxRecDepth 100000

def nameOK (x : List UInt8) : Prop := (∃ c r, x = c :: r ∧ isFirst c = true ∧ ∀ d ∈ r, isNext d = true) ∧ x.length ≤ 1500
def inr (n : Int) : Prop := -9223372036854775808 ≤ n ∧ n ≤ 9223372036854775807
/-- A token of a text. -/
def tokOK (t : T) : Prop := (t.kind = 0 → nameOK t.text) ∧ (t.kind = 1 → inr t.num)
theorem lex_tokOK : ∀ (l : List UInt8) (k p : Nat), l.length ≤ 1500 → ∀ t ∈ (lex Lib.itoa k p l).1, tokOK t
  | [], k, p, _, t, h => by cases k <;> simp [lex] at h
  | c :: r, k + 1, p, hl, t, h => by
    simp only [lex] at h
    exact lex_tokOK r k (p + 1) (by simp at hl; omega) t h
  | c :: r, 0, p, hl, t, h => by
    have hl' : r.length ≤ 1500 := by simp at hl; omega
    simp only [lex] at h
    split at h
    · exact lex_tokOK r _ (p + 1) hl' t h
    · split at h
      · simp at h
      · rename_i x hx
        rcases List.mem_cons.1 h with rfl | h
        · have s1 := span_le isNext r
          simp only [tk] at hx
          by_cases h1 : isFirst c = true
          · rw [if_pos h1] at hx
            injection hx with hx
            subst hx
            refine ⟨fun _ => ⟨⟨c, _, rfl, h1, span_all isNext r⟩, ?_⟩, fun h => by simp at h⟩
            simp only [List.length_cons, List.length_take, Nat.min_eq_left s1]
            simp at hl
            omega
          · rw [if_neg h1] at hx
            by_cases h2 : (isDigit c || c == 45) = true
            · rw [if_pos h2] at hx
              simp only [Option.map_eq_some_iff] at hx
              obtain ⟨n, hn, rfl⟩ := hx
              exact ⟨fun h => by simp at h, fun _ => (numOf_some hn).2⟩
            · rw [if_neg h2] at hx
              by_cases h3 : (c == 34) = true
              · rw [if_pos h3] at hx
                simp only [Option.map_eq_some_iff] at hx
                obtain ⟨y, _, rfl⟩ := hx
                exact ⟨fun h => by simp at h, fun h => by simp at h⟩
              · rw [if_neg h3] at hx
                split at hx
                · injection hx with hx
                  subst hx
                  exact ⟨fun h => by simp at h, fun h => by simp at h⟩
                · cases hx
        · exact lex_tokOK r x.more (p + 1) hl' t h

/-! ### Pieces -/
inductive Pce where
  | bl (c : UInt8)
  | sg (c : UInt8)
  | nb (x : List UInt8)
  | ns (x : List UInt8) (c : UInt8)
  | us (n : Int) (c : UInt8)
def Pce.ok : Pce → Prop
  | .bl c => isBlank c = true
  | .sg c => isSign c = true
  | .nb x => nameOK x
  | .ns x c => nameOK x ∧ isSign c = true
  | .us n c => inr n ∧ isSign c = true
def Pce.byt : Pce → List UInt8
  | .bl c => [c]
  | .sg c => [c]
  | .nb x => x ++ [32]
  | .ns x c => x ++ [c]
  | .us n c => Lib.itoa n ++ [c]
def tSg (c : UInt8) : T := ⟨3, [c], 0, 0⟩
def tNm (x : List UInt8) : T := ⟨0, x, 0, 0⟩
def tNu (n : Int) : T := ⟨1, Lib.itoa n, n, 0⟩
def Pce.tks : Pce → List T
  | .bl _ => []
  | .sg c => [tSg c]
  | .nb x => [tNm x]
  | .ns x c => [tNm x, tSg c]
  | .us n c => [tNu n, tSg c]
def bytP (l : List Pce) : List UInt8 := l.flatMap Pce.byt
def tksP (l : List Pce) : List T := l.flatMap Pce.tks
def unAt (t : T) : T := { t with at_ := 0 }
/-- The tokens, but for where they are, and that there are no others. -/
def Lexed (l : List UInt8) (X : List T) : Prop := ∀ p, (lex Lib.itoa 0 p l).1.map unAt = X ∧ (lex Lib.itoa 0 p l).2 = none
theorem Lexed.nil : Lexed [] [] := fun p => by simp [lex]
theorem ws_hard {c : UInt8} (h1 : isBlank c = false) (h2 : c ≠ 47) (r : List UInt8) : ws false (c :: r) = 0 := by
  have h3 : (c == 47) = false := by simpa using h2
  simp [ws, h1, h3]
theorem Lexed.bl {c : UInt8} (h : isBlank c = true) {l : List UInt8} {X : List T} (hl : Lexed l X) : Lexed (c :: l) X := by
  intro p
  have e : lex Lib.itoa 0 p (c :: l) = lex Lib.itoa 0 (p + 1) l := by
    rw [lex_ws, show c :: l = [c] ++ l from rfl, ws_blanks [c] (by simpa using h), List.length_singleton]
    rw [show ([c] ++ l).drop (1 + ws false l) = l.drop (ws false l) by rw [Nat.add_comm]; rfl, ← Nat.add_assoc, ← lex_ws]
  rw [e]
  exact hl (p + 1)
theorem Lexed.tok {y : List UInt8} {k : Nat} {n : Int} {l : List UInt8} {X : List T} (hw : ws false (y ++ l) = 0) (hy : y ≠ []) (ht : tk Lib.itoa (y ++ l) = some ⟨k, y, n, y.length - 1⟩) (hl : Lexed l X) : Lexed (y ++ l) (⟨k, y, n, 0⟩ :: X) := by
  intro p
  have hpos : 0 < y.length := List.length_pos_iff.2 hy
  rw [lex_some hw ht]
  simp only
  rw [show y.length - 1 + 1 = y.length by omega, List.drop_left]
  obtain ⟨h1, h2⟩ := hl (p + (y.length - 1) + 1)
  exact ⟨by rw [List.map_cons, h1]; rfl, h2⟩
theorem sign_hard {c : UInt8} (h : isSign c = true) : isBlank c = false ∧ c ≠ 47 ∧ isFirst c = false ∧ (isDigit c || c == 45) = false ∧ (c == 34) = false ∧ isNext c = false ∧ isDigit c = false := by
  simp only [isSign, List.contains_eq_mem, List.mem_cons, List.not_mem_nil, or_false, decide_eq_true_eq] at h
  rcases h with rfl | rfl | rfl | rfl | rfl | rfl | rfl | rfl | rfl | rfl | rfl | rfl <;> decide
theorem Lexed.sg {c : UInt8} (h : isSign c = true) {l : List UInt8} {X : List T} (hl : Lexed l X) : Lexed (c :: l) (tSg c :: X) := by
  obtain ⟨h1, h2, h3, h4, h5, _, _⟩ := sign_hard h
  exact Lexed.tok (y := [c]) (ws_hard h1 h2 l) (by simp) (by simp [tk, h3, h4, h5, h]) hl
theorem first_hard {c : UInt8} (h : isFirst c = true) : isBlank c = false ∧ c ≠ 47 := by
  simp only [isFirst, Bool.or_eq_true, Bool.and_eq_true, decide_eq_true_eq, beq_iff_eq] at h
  constructor
  · simp only [isBlank, Bool.or_eq_false_iff, beq_eq_false_iff_ne]
    refine ⟨⟨⟨?_, ?_⟩, ?_⟩, ?_⟩ <;> (rintro rfl; simp at h)
  · rintro rfl; simp at h
theorem Lexed.nm {x : List UInt8} (h : nameOK x) {d : UInt8} (hd : isNext d = false) {l : List UInt8} {X : List T} (hl : Lexed (d :: l) X) : Lexed (x ++ d :: l) (tNm x :: X) := by
  obtain ⟨⟨c, r, rfl, hc, hr⟩, _⟩ := h
  obtain ⟨h1, h2⟩ := first_hard hc
  have hs : span isNext (r ++ d :: l) = r.length := by rw [span_app isNext d hd, span_whole isNext r hr]
  refine Lexed.tok (y := c :: r) (ws_hard h1 h2 _) (by simp) ?_ hl
  simp [tk, hc, hs]
theorem itoa_form (n : Int) : ∃ c r, Lib.itoa n = c :: r ∧ (c = 45 ∨ isDigit c = true) ∧ ∀ d ∈ r, isDigit d = true := by
  by_cases hn : n < 0
  · exact ⟨45, _, itoa_neg n hn, .inl rfl, dec_digits _⟩
  · rw [itoa_nonneg n (by omega)]
    have hd := dec_digits n.toNat
    cases hdd : Lib.decDigits n.toNat with
    | nil => exact absurd hdd (dec_ne _)
    | cons c r =>
      rw [hdd] at hd
      exact ⟨c, r, rfl, .inr (hd c (by simp)), fun d h => hd d (by simp [h])⟩
theorem num_hard {c : UInt8} (h : c = 45 ∨ isDigit c = true) : isBlank c = false ∧ c ≠ 47 ∧ isFirst c = false ∧ (isDigit c || c == 45) = true := by
  rcases h with rfl | h
  · decide
  · simp only [isDigit, Bool.and_eq_true, decide_eq_true_eq] at h
    refine ⟨?_, ?_, ?_, ?_⟩
    · simp only [isBlank, Bool.or_eq_false_iff, beq_eq_false_iff_ne]
      refine ⟨⟨⟨?_, ?_⟩, ?_⟩, ?_⟩ <;> (rintro rfl; simp at h)
    · rintro rfl; simp at h
    · have h95 : (c == 95) = false := by
        rw [beq_eq_false_iff_ne]; rintro rfl; simp at h
      simp only [isFirst, h95, Bool.or_false, Bool.or_eq_false_iff, Bool.and_eq_false_iff, decide_eq_false_iff_not]
      omega
    · simp [isDigit, h]
theorem Lexed.nu {n : Int} (h : inr n) {d : UInt8} (hd : isDigit d = false) {l : List UInt8} {X : List T} (hl : Lexed (d :: l) X) : Lexed (Lib.itoa n ++ d :: l) (tNu n :: X) := by
  obtain ⟨c, r, hc, hcc, hr⟩ := itoa_form n
  obtain ⟨h1, h2, h3, h4⟩ := num_hard hcc
  have hn := numOf_itoa h.1 h.2
  unfold tNu
  rw [hc] at hn ⊢
  have hs : span isDigit (r ++ d :: l) = r.length := by rw [span_app isDigit d hd, span_whole isDigit r hr]
  refine Lexed.tok (y := c :: r) (ws_hard h1 h2 _) (by simp) ?_ hl
  simp [tk, h3, h4, hs, hn]
theorem lexed_pcs : ∀ (l : List Pce), (∀ p ∈ l, p.ok) → Lexed (bytP l) (tksP l)
  | [], _ => Lexed.nil
  | q :: l, h => by
    have ih := lexed_pcs l fun p hp => h p (by simp [hp])
    have hq := h q (by simp)
    have e1 : bytP (q :: l) = q.byt ++ bytP l := by simp [bytP]
    have e2 : tksP (q :: l) = q.tks ++ tksP l := by simp [tksP]
    rw [e1, e2]
    cases q with
    | bl c => exact ih.bl hq
    | sg c => exact ih.sg hq
    | nb x =>
      simp only [Pce.byt, Pce.tks, List.append_assoc, List.singleton_append, List.cons_append, List.nil_append]
      exact Lexed.nm hq (by decide) (ih.bl (by decide))
    | ns x c =>
      simp only [Pce.byt, Pce.tks, List.append_assoc, List.singleton_append, List.cons_append, List.nil_append]
      exact Lexed.nm hq.1 (sign_hard hq.2).2.2.2.2.2.1 (ih.sg hq.2)
    | us n c =>
      simp only [Pce.byt, Pce.tks, List.append_assoc, List.singleton_append, List.cons_append, List.nil_append]
      exact Lexed.nu hq.1 (sign_hard hq.2).2.2.2.2.2.2 (ih.sg hq.2)
theorem bytP_app (a b : List Pce) : bytP (a ++ b) = bytP a ++ bytP b := by simp [bytP]
theorem tksP_app (a b : List Pce) : tksP (a ++ b) = tksP a ++ tksP b := by simp [tksP]
end Go.Proofs.YtggcjdajmbkpiaaGreatDoor
/-
  A set of keys as a map of the program: 'Free'; its laws at the operations: a key is put, taken out, asked for.
-/
namespace Go.Proofs.YtggcjdajmbkpiaaGreatDoor
set_option maxRecDepth 100000

open Go.RowKit Go.WideMaps Go.Maps

section

variable {α : Type} {K : TypeId} {ky : α → Lit}

/-- Block b is a map of at most n entries; its keys are those that p tells. -/
def Free (K : TypeId) (ky : α → Lit) (w : World) (b n : Nat) (p : α → Bool) : Prop := ∃ D : DataW Unit, w.ownsMap Tryz.prog K unitElem b n D ∧ ∀ x, has D (ky x) = p x
theorem Free.made (w : World) : Free K ky (w.alloc (.map #[] 0)) w.heap.size 0 (fun _ => false) := ⟨.map [], World.ownsMap_made w _ _ _, fun _ => rfl⟩
theorem Free.mono {w : World} {b n n' : Nat} {p : α → Bool} (h : Free K ky w b n p) (hn : n ≤ n') : Free K ky w b n' p := by
  obtain ⟨D, h1, h2⟩ := h
  exact ⟨D, h1.mono hn, h2⟩
theorem Free.lt {w : World} {b n : Nat} {p : α → Bool} (h : Free K ky w b n p) : b < w.heap.size := by
  obtain ⟨D, h1, _⟩ := h
  exact h1.lt
theorem Free.block {w w' : World} {b n : Nat} {p : α → Bool} (h : Free K ky w b n p) (hb : w'.heap[b]? = w.heap[b]?) : Free K ky w' b n p := by
  obtain ⟨D, ⟨es, clock, h1, h2⟩, h3⟩ := h
  exact ⟨D, ⟨es, clock, hb.trans h1, h2⟩, h3⟩
theorem Free.on {w w' : World} {b n : Nat} {p : α → Bool} (h : Free K ky w b n p) (hb : Below w.heap.size w w') : Free K ky w' b n p := h.block (hb.block b h.lt)
theorem Free.alloc {w : World} {b n : Nat} {p : α → Bool} (h : Free K ky w b n p) (o : Obj) : Free K ky (w.alloc o) b n p := h.on (below_new w o)
theorem Free.kept {w w' : World} {b n : Nat} {p : α → Bool} {row : Option Nat} (h : Free K ky w b n p) (hg : w.grownBy w' row) (hne : some b ≠ row) : Free K ky w' b n p := h.block (hg.block b h.lt hne)
theorem Free.eq {w : World} {b n : Nat} {p q : α → Bool} (h : Free K ky w b n p) (e : p = q) : Free K ky w b n q := e ▸ h

variable {w : World} {ops : Array Oper} {rest : List Oper} {o : Oper} {a : Act} {Q : Exit → Act → World → Prop}

theorem wpList_free_put [DecidableEq α] (hg : o.guard = none) (m x v : Operand) (T E : TypeId) (hop : o.op = Op.mapUpdate T m x v) (KK : Keyed Tryz.prog K) (ht : Tryz.prog.underlying T = some (.map K E)) (inj : ∀ x y, ky x = ky y → x = y) (lit : ∀ x, WideAt.IsKeyLit (ky x))
    (b n : Nat) (p : α → Bool) (hm : a.eval m = .map (some b)) (hown : Free K ky w b n p) (hn : n < 1000000000) (key : Value) (y : α) (hx : a.eval x = key) (hv : a.eval v = .agg #[]) (hkey : keyOf Tryz.prog K key = some (ky y))
    (hK : ∀ w', Free K ky w' b (n + 1) (fun z => p z || decide (z = y)) → w.grownBy w' (some b) → wpList Tryz.prog ops Q rest (a.put o.dst undef) w') : wpList Tryz.prog ops Q (o :: rest) a w := by
  obtain ⟨D, h1, h2⟩ := hown
  refine wpList_mapUpdate_own w hg m x v T hop K E KK ht unitElem b n D hm h1 (by unfold maxLen; omega) _ _ (ky y) hx hv hkey _ [] unitElem_mk ?_
  intro w' r1 r2
  refine hK w' ⟨_, r1, fun z => ?_⟩ r2
  by_cases hz : z = y
  · subst hz
    rw [has_put_same h1.isMap (lit z)]
    simp
  · rw [has_put_other (fun e => hz (inj _ _ e)), h2 z]
    simp [hz]
theorem wpList_free_del [DecidableEq α] (hg : o.guard = none) (m x : Operand) (T E : TypeId) (hop : o.op = Op.call { callee := Callee.builtin Builtin.delete, args := #[m, x], argTypes := #[T, K] }) (KK : Keyed Tryz.prog K) (ht : Tryz.prog.underlying T = some (.map K E)) (inj : ∀ x y, ky x = ky y → x = y)
    (b n : Nat) (p : α → Bool) (hm : a.eval m = .map (some b)) (hown : Free K ky w b n p) (key : Value) (y : α) (hx : a.eval x = key) (hkey : keyOf Tryz.prog K key = some (ky y))
    (hK : ∀ w', Free K ky w' b n (fun z => p z && decide (z ≠ y)) → w.grownBy w' (some b) → wpList Tryz.prog ops Q rest (a.put o.dst (.tuple #[])) w') : wpList Tryz.prog ops Q (o :: rest) a w := by
  obtain ⟨D, h1, h2⟩ := hown
  refine wpList_delete_own w hg m x T K hop E KK ht unitElem b n D hm h1 _ (ky y) hx hkey ?_
  intro w' r1 r2
  refine hK w' ⟨_, r1, fun z => ?_⟩ r2.grown
  by_cases hz : z = y
  · subst hz
    rw [has_del_same]
    simp
  · rw [has_del_other (fun e => hz (inj _ _ e)), h2 z]
    simp [hz]
theorem wpList_free_look (hg : o.guard = none) (m x : Operand) (T E : TypeId) (hop : o.op = Op.lookup T m x true) (KK : Keyed Tryz.prog K) (ht : Tryz.prog.underlying T = some (.map K E)) (hz : (zeroValue E).run Tryz.prog w = .ok (.agg #[]) w)
    (b n : Nat) (p : α → Bool) (hm : a.eval m = .map (some b)) (hown : Free K ky w b n p) (key : Value) (y : α) (hx : a.eval x = key) (hkey : keyOf Tryz.prog K key = some (ky y))
    (hK : wpList Tryz.prog ops Q rest (a.put o.dst (.tuple #[.agg #[], .bool (p y)])) w) : wpList Tryz.prog ops Q (o :: rest) a w := by
  obtain ⟨D, h1, h2⟩ := hown
  refine wpList_lookup_own_unit w hg m x T hop K E KK ht hz b n D hm h1 _ (ky y) hx hkey ?_
  rw [h2 y]
  exact hK
end

/-! ### The two kinds of keys -/

def kS (x : List UInt8) : Lit := .string x
def kI (n : Int) : Lit := .int .i64 n
theorem kS_inj (x y : List UInt8) (h : kS x = kS y) : x = y := by injection h
theorem kI_inj (x y : Int) (h : kI x = kI y) : x = y := by injection h
theorem kS_lit (x : List UInt8) : WideAt.IsKeyLit (kS x) := trivial
theorem kI_lit (x : Int) : WideAt.IsKeyLit (kI x) := trivial
theorem kS_law : Keyed Tryz.prog 9 := string_keyed Tryz.underlying9
theorem kI_law : Keyed Tryz.prog 2 := int_keyed Tryz.underlying2
theorem kS_key {x : List UInt8} (h : x.length ≤ maxLen) : keyOf Tryz.prog 9 (.string (txt x)) = some (kS x) := by
  have hs : (txt x).size ≤ maxLen := by simpa [txt, ByteArray.size] using h
  rw [keyOf_string_mk Tryz.underlying9 hs]
  rfl
theorem kI_key {n : Int} (h : inr n) : keyOf Tryz.prog 2 (.int .i64 n) = some (kI n) := by
  refine keyOf_int_mk Tryz.underlying2 ?_
  simp only [Lit.wf, Bool.and_eq_true, decide_eq_true_eq]
  exact ⟨by show (-9223372036854775808 : Int) ≤ _; unfold inr at h; omega, by show _ ≤ (9223372036854775807 : Int); unfold inr at h; omega⟩
end Go.Proofs.YtggcjdajmbkpiaaGreatDoor
/-
  Package-level variables: an array of numbers that lies in its own block, and that nothing turns.
-/
namespace Go.Proofs.YtggcjdajmbkpiaaGreatDoor
set_option maxRecDepth 100000

open Go.RowKit

/-- The block g holds these cells. -/
def TabAt (w : World) (g : Nat) (cs : Array Value) : Prop := ∃ t fr, w.heap[g]? = some (.cells cs t fr)
theorem TabAt.on {w w' : World} {g : Nat} {cs : Array Value} (h : TabAt w g cs) (hb : Below w.heap.size w w') : TabAt w' g cs := by
  obtain ⟨t, fr, h⟩ := h
  exact ⟨t, fr, (hb.block g (Array.getElem?_eq_some_iff.1 h).1).trans h⟩
theorem TabAt.of_var {P : Program} {w : World} {n : String} {g : Nat} {cs : Array Value} (hg : P.globalNamed n = some g) (h : w.var? P n = some cs) : TabAt w g cs := by
  simp only [World.var?, hg, Option.bind_some] at h
  split at h
  · rename_i c t fr hb
    cases h
    exact ⟨t, fr, hb⟩
  · cases h
end Go.Proofs.YtggcjdajmbkpiaaGreatDoor
/-
  The library's contracts that the texts use.
-/

/-
  The package-level variables of Go's own packages that this program reads, and the contracts of the functions of Go that it calls.
-/
namespace Go.Proofs.YtggcjdajmbkpiaaGreatDoor
set_option maxRecDepth 100000

open Go.RowKit

theorem var_on {P : Program} {n : String} {w w' : World} {cs : Array Value} (h : w.var? P n = some cs) (hb : Below w.heap.size w w') : w'.var? P n = some cs := by
  unfold World.var? at h ⊢
  cases hg : P.globalNamed n with
  | none => simp [hg] at h
  | some g =>
    simp only [hg, Option.bind_some] at h ⊢
    have hlt : g < w.heap.size := by
      rcases Nat.lt_or_ge g w.heap.size with h' | h'
      · exact h'
      · rw [Array.getElem?_eq_none h'] at h; simp at h
    rw [hb.block g hlt]
    exact h
/-- The table of powers of ten, and the two errors of numbers, lie there. -/
structure Laid (w : World) : Prop where
  tab : Lib.TabIs Tryz.prog w "internal/strconv.uint64pow10" .u64 Lib.pow10Tab
  syn : ∃ tp p, w.var? Tryz.prog "strconv.ErrSyntax" = some #[.iface tp p]
  ran : ∃ tp p, w.var? Tryz.prog "strconv.ErrRange" = some #[.iface tp p]
theorem Laid.on {w w' : World} (h : Laid w) (hb : Below w.heap.size w w') : Laid w' := by
  obtain ⟨h1, ⟨t2, p2, h2⟩, ⟨t3, p3, h3⟩⟩ := h
  exact ⟨var_on h1 hb, ⟨t2, p2, var_on h2 hb⟩, ⟨t3, p3, var_on h3 hb⟩⟩
theorem below_grows (w : World) (k : Nat) (os : Array Obj) : Below w.heap.size w (Go.Sort.grow (w.drewN k) os) :=
  ⟨rfl, rfl, rfl, by simp [Go.Sort.grow], fun i hi => by simp only [Go.Sort.grow]; rw [Array.getElem?_append_left (by simpa using hi)]; rfl⟩

theorem prefix_any (s p : ByteArray) (w : World) :
    Calls Tryz.prog 231 #[.string s, .string p] w fun e w' => e = .returned (.bool (Lib.hasPrefix s.data.toList p.data.toList)) ∧ w = w' := by
  rw [← Lib.hasPrefix_of_take, ← Lib.size_eq, ← Lib.size_eq]
  go_enter Tryz.func231, Tryz.ntmps231
  go_wp2
  · rename_i h
    go_ret
    refine ⟨?_, rfl⟩
    show Ending.returned (Value.bool ((s.extract 0 p.size).toList == p.toList)) = _
    rw [Lib.extract_toList, Lib.toList_data]
    simp [h]
  · rename_i h
    go_ret
    refine ⟨?_, rfl⟩
    show Ending.returned (Value.bool false) = _
    simp [h]
end Go.Proofs.YtggcjdajmbkpiaaGreatDoor
/-
  The two tables of package table, and the contracts of its small functions.
-/
namespace Go.Proofs.YtggcjdajmbkpiaaGreatDoor
set_option maxRecDepth 100000

open Go.RowKit

def plainsC : Array Value := #[.string (txt tInt64), .int .i64 0, .string (txt tSint64), .int .i64 1, .string (txt tUint32), .int .i64 2, .string (txt tBool), .int .i64 3, .string (txt tFixed32), .int .i64 4, .string (txt tSfixed64), .int .i64 5, .string (txt tString), .int .i64 7, .string (txt tBytes), .int .i64 8]
def stancesC : Array Value := #[.bool false, .bool false, .bool false, .bool true, .bool false, .bool false, .bool false, .bool true, .bool false, .bool false, .bool false, .bool true]
/-- The tables lie there. -/
structure Tabs (w : World) : Prop where
  plains : TabAt w 0 plainsC
  stances : TabAt w 2 stancesC
theorem Tabs.on {w w' : World} (h : Tabs w) (hb : Below w.heap.size w w') : Tabs w' := ⟨h.plains.on hb, h.stances.on hb⟩

theorem index_plain (w : World) {k : Nat} {p : List UInt8 × Nat} (h : plainsL[k]? = some p) : (Instr.index 187 (.agg plainsC) (.int .i64 k)).run Tryz.prog w = .ok (.agg #[.string (txt p.1), .int .i64 p.2]) w := by
  obtain ⟨hk, rfl⟩ := List.getElem?_eq_some_iff.1 h
  have hc : k = 0 ∨ k = 1 ∨ k = 2 ∨ k = 3 ∨ k = 4 ∨ k = 5 ∨ k = 6 ∨ k = 7 := by simp [plainsL] at hk; omega
  clear h
  rcases hc with rfl | rfl | rfl | rfl | rfl | rfl | rfl | rfl <;> (change _ = _; kernel_rfl)
def stanceL : List (Bool × Bool × Bool) := [(false, false, false), (true, false, false), (false, true, false), (false, false, true)]
theorem index_stance (w : World) {k : Nat} {p : Bool × Bool × Bool} (h : stanceL[k]? = some p) : (Instr.index 245 (.agg stancesC) (.int .i64 k)).run Tryz.prog w = .ok (.agg #[.bool p.1, .bool p.2.1, .bool p.2.2]) w := by
  obtain ⟨hk, rfl⟩ := List.getElem?_eq_some_iff.1 h
  have hc : k = 0 ∨ k = 1 ∨ k = 2 ∨ k = 3 := by simp [stanceL] at hk; omega
  clear h
  rcases hc with rfl | rfl | rfl | rfl <;> (change _ = _; kernel_rfl)

theorem isKey_any (k : Int) (w : World) : Calls Tryz.prog 196 #[.int .i64 k] w fun e w' => e = .returned (.bool (keyedB k)) ∧ w = w' := by
  have H : Hid (keyedB k = (k == 0 || k == 1 || k == 2 || k == 3 || k == 4 || k == 5 || k == 7)) := Lib.hid rfl
  go_enter Tryz.func196, Tryz.ntmps196
  go_wp2
  all_goals (go_ret; refine ⟨ret_bool ?_, rfl⟩; rw [H.out]; first | (simp_all; done) | (rw [Bool.eq_iff_iff]; simp_all [or_assoc]))
theorem isNumber_any (n : Int) (w : World) : Calls Tryz.prog 158 #[.int .i64 n] w fun e w' => e = .returned (.bool (numberB n)) ∧ w = w' := by
  have H : Hid (numberB n = (decide (1 ≤ n) && decide (n ≤ 536870911) && (decide (n < 19000) || decide (19999 < n)))) := Lib.hid (by
    unfold numberB
    congr 1
    rw [Bool.eq_iff_iff]
    simp only [Bool.not_eq_true', Bool.and_eq_false_iff, decide_eq_false_iff_not, Bool.or_eq_true, decide_eq_true_eq]
    omega)
  go_enter Tryz.func158, Tryz.ntmps158
  go_wp2
  all_goals (go_ret; refine ⟨ret_bool ?_, rfl⟩; rw [H.out]; first | (simp_all; done) | (rw [Bool.eq_iff_iff]; simp only [Bool.and_eq_true, Bool.or_eq_true, decide_eq_true_eq, Bool.false_eq_true, true_iff, false_iff]; omega))
theorem isEnums_any (n : Int) (w : World) : Calls Tryz.prog 201 #[.int .i64 n] w fun e w' => e = .returned (.bool (decide (-2147483648 ≤ n) && decide (n ≤ 2147483647))) ∧ w = w' := by
  go_enter Tryz.func201, Tryz.ntmps201
  go_wp2
  all_goals (go_ret; refine ⟨ret_bool ?_, rfl⟩; first | (simp_all; done) | (rw [Bool.eq_iff_iff]; simp only [Bool.and_eq_true, Bool.or_eq_true, decide_eq_true_eq, Bool.false_eq_true, true_iff, false_iff]; omega))
theorem mayName_any (n : Int) (w : World) : Calls Tryz.prog 160 #[.int .i64 n] w fun e w' => e = .returned (.bool (decide (1 ≤ n) && decide (n ≤ 30))) ∧ w = w' := by
  go_enter Tryz.func160, Tryz.ntmps160
  go_wp2
  all_goals (go_ret; refine ⟨ret_bool ?_, rfl⟩; first | (simp_all; done) | (rw [Bool.eq_iff_iff]; simp only [Bool.and_eq_true, Bool.or_eq_true, decide_eq_true_eq, Bool.false_eq_true, true_iff, false_iff]; omega))
theorem mayHold_any (n m : Int) (w : World) : Calls Tryz.prog 95 #[.int .i64 n, .int .i64 m] w fun e w' => e = .returned (.bool (decide (1 ≤ n) && decide (n ≤ 20) && decide (m ≤ 20))) ∧ w = w' := by
  go_enter Tryz.func95, Tryz.ntmps95
  go_wp2
  all_goals (go_ret; refine ⟨ret_bool ?_, rfl⟩; first | (simp_all; done) | (rw [Bool.eq_iff_iff]; simp only [Bool.and_eq_true, Bool.or_eq_true, decide_eq_true_eq, Bool.false_eq_true, true_iff, false_iff]; omega))

theorem find_take_next {l : List (List UInt8 × Nat)} {k : Nat} {p : List UInt8 × Nat} {x : List UInt8} (hk : l[k]? = some p) (h : ((l.take k).find? fun q => q.1 == x) = none) : ((l.take (k + 1)).find? fun q => q.1 == x) = if p.1 = x then some p else none := by
  rw [List.take_add_one, hk, List.find?_append, h, Option.none_or]
  simp only [Option.toList, List.find?_cons, List.find?_nil]
  by_cases hx : p.1 = x
  · simp [hx]
  · have : (p.1 == x) = false := beq_eq_false_iff_ne.2 hx
    simp [hx, this]
theorem find_of_take {α : Type} {l : List α} {k : Nat} {g : α → Bool} {p : α} (h : (l.take k).find? g = some p) : l.find? g = some p := by
  rw [← List.take_append_drop k l, List.find?_append, h]
  rfl
theorem eql_stance (a b c a' b' c' : Bool) (w : World) : Sem.run Tryz.prog (binOp .eql 244 (.agg #[.bool a, .bool b, .bool c]) (.agg #[.bool a', .bool b', .bool c'])) w = .ok (.bool (decide ((a, b, c) = (a', b', c')))) w := by
  cases a <;> cases b <;> cases c <;> cases a' <;> cases b' <;> cases c' <;> kernel_rfl
theorem stand_list (ones one : Int) (rep pairs : Bool) (h0 : 0 ≤ one) (h1 : one ≤ ones) : standB ones one rep pairs = stanceL.contains (rep, pairs, decide (one ≠ 0)) := by
  unfold standB
  rw [decide_eq_true h0, decide_eq_true h1]
  cases rep <;> cases pairs <;> cases decide (one ≠ 0) <;> rfl
set_option maxRecDepth 1000000 in
set_option maxHeartbeats 1000000 in
theorem mayStand_any (ones one : Int) (rep pairs : Bool) (w : World) (T : Tabs w) :
    Calls Tryz.prog 198 #[.int .i64 ones, .int .i64 one, .bool rep, .bool pairs] w fun e w' => e = .returned (.bool (standB ones one rep pairs)) ∧ Below w.heap.size w w' := by
  obtain ⟨tt, fr, hT⟩ := T.stances
  clear T
  by_cases h0 : one < 0
  · have H : Hid (standB ones one rep pairs = false) := Lib.hid (by unfold standB; rw [decide_eq_false (by omega)]; simp)
    have hd : decide (one < 0) = true := decide_eq_true h0
    go_enter Tryz.func198, Tryz.ntmps198
    go_wp2
    go_ret
    exact ⟨by rw [H.out]; rfl, Below.refl _ _⟩
  · have hd : decide (one < 0) = false := decide_eq_false h0
    by_cases h1 : ones < one
    · have H : Hid (standB ones one rep pairs = false) := Lib.hid (by unfold standB; rw [decide_eq_false (show ¬ one ≤ ones by omega)]; simp)
      have hd2 : decide (one > ones) = true := decide_eq_true h1
      have hd3 : decide (ones < one) = true := decide_eq_true h1
      go_enter Tryz.func198, Tryz.ntmps198
      go_wp2
      go_ret
      exact ⟨by rw [H.out]; rfl, Below.refl _ _⟩
    · have H := Lib.hid (stand_list ones one rep pairs (by omega) (by omega))
      have hd2 : decide (one > ones) = false := decide_eq_false h1
      have hd3 : decide (ones < one) = false := decide_eq_false h1
      obtain ⟨o, ho⟩ : ∃ o, (one != 0) = o := ⟨_, rfl⟩
      have HO : Hid (decide (one ≠ 0) = o) := Lib.hid (by rw [← ho]; by_cases h : one = 0 <;> simp [h])
      go_enter Tryz.func198, Tryz.ntmps198
      go_wp2_with (refine wpList_load_row rfl 245 _ rfl 2 rfl tt _ fr _ hT Tryz.underlying245 rfl (by kernel_rfl) ?_)
      go_loopw [19] (fun i wr => ∃ k : Nat, i = .int .i64 k ∧ k ≤ 4 ∧ (stanceL.take k).contains (rep, pairs, o) = false ∧ Below w.heap.size w wr) (fun i _ => 4 - (intOf i).toNat)
      case atStart => exact ⟨0, rfl, by omega, rfl, Below.refl _ _⟩
      case round =>
        obtain ⟨k, rfl, hk, hf, hb⟩ := hrel
        by_cases hlt : k < 4
        · obtain ⟨p, hp⟩ : ∃ p, stanceL[k]? = some p := ⟨_, List.getElem?_eq_getElem hlt⟩
          have hi := index_stance wr hp
          have hq := fun w => eql_stance p.1 p.2.1 p.2.2 rep pairs o w
          have HF := Lib.hid hf
          have HP := Lib.hid hp
          clear hf hp
          obtain ⟨d, hd⟩ : ∃ d, decide ((p.1, p.2.1, p.2.2) = (rep, pairs, o)) = d := ⟨_, rfl⟩
          have HD := Lib.hid hd
          rw [hd] at hq
          clear hd
          cases d with
          | true =>
            go_wp2
            go_ret
            refine ⟨?_, hb.trans (below_new _ _ |>.mono hb.size)⟩
            rw [H.out, HO.out, ← of_decide_eq_true HD.out]
            have : stanceL.contains (p.1, p.2.1, p.2.2) = true := by rw [List.contains_eq_mem, decide_eq_true_eq]; exact List.mem_of_getElem? HP.out
            rw [this]; rfl
          | false =>
            go_wp2
            refine ⟨⟨k + 1, by go_num, by omega, ?_, hb.trans (below_new _ _ |>.mono hb.size)⟩, by simp [intOf]; omega⟩
            rw [List.take_add_one, HP.out]
            have h1 := HF.out
            have h2 := of_decide_eq_false HD.out
            rw [List.contains_eq_mem, decide_eq_false_iff_not] at h1 ⊢
            intro hm
            rcases List.mem_append.1 hm with hm | hm
            · exact h1 hm
            · have : (rep, pairs, o) = p := by simpa using hm
              exact h2 this.symm
        · obtain rfl : k = 4 := by omega
          go_wp2
          go_ret
          refine ⟨?_, hb⟩
          rw [H.out, HO.out]
          rw [show stanceL.take 4 = stanceL from rfl] at hf
          rw [hf]; rfl
end Go.Proofs.YtggcjdajmbkpiaaGreatDoor
/-
  Blanks: the contracts of the functions that go past them.
-/
namespace Go.Proofs.YtggcjdajmbkpiaaGreatDoor
set_option maxRecDepth 100000

open Go.RowKit

theorem index_span (c : UInt8) : ∀ l : List UInt8, Lib.indexByte l c = if c ∈ l then (span (fun d => d != c) l : Int) else -1
  | [] => by simp [Lib.indexByte]
  | d :: r => by
    have ih := index_span c r
    by_cases h : d = c
    · subst h; simp [Lib.indexByte, span]
    · have h1 : (d == c) = false := by simpa using h
      have h2 : (d != c) = true := by simpa using h
      have h3 : c ≠ d := fun e => h e.symm
      simp only [Lib.indexByte, h1, span, h2, if_true, List.mem_cons, h3, false_or, Bool.false_eq_true, if_false]
      rw [ih]
      by_cases hm : c ∈ r
      · simp only [hm, if_true]
        have : ((span (fun d => d != c) r : Int) == -1) = false := by rw [beq_eq_false_iff_ne]; omega
        simp [this]
      · simp [hm]
theorem at_list (s : ByteArray) (k : Nat) (h : k < s.size) : s.data.toList[k]? = some (s[k]'h) := by
  rw [List.getElem?_eq_getElem (by simpa using h)]
  simp [ByteArray.getElem_eq_getElem_data]
theorem from_list (s : ByteArray) (p : Nat) : (s.extract p s.size).data.toList = s.data.toList.drop p := by
  rw [Lib.extract_data]
  exact List.take_of_length_le (by simp)
theorem from_size (s : ByteArray) (p : Nat) : (s.extract p s.size).size = s.size - p := by simp

theorem span_next {f : UInt8 → Bool} {l : List UInt8} {k : Nat} {c : UInt8} (hc : l[k]? = some c) (hf : f c = true) : span f (l.drop k) = span f (l.drop (k + 1)) + 1 := by
  obtain ⟨h, e⟩ := List.getElem?_eq_some_iff.1 hc
  rw [List.drop_eq_getElem_cons h, e]
  simp [span, hf]
theorem span_stop {f : UInt8 → Bool} {l : List UInt8} {k : Nat} {c : UInt8} (hc : l[k]? = some c) (hf : f c = false) : span f (l.drop k) = 0 := by
  obtain ⟨h, e⟩ := List.getElem?_eq_some_iff.1 hc
  rw [List.drop_eq_getElem_cons h, e]
  simp [span, hf]
theorem span_end {f : UInt8 → Bool} {l : List UInt8} {k : Nat} (h : l.length ≤ k) : span f (l.drop k) = 0 := by
  rw [List.drop_of_length_le h]; rfl

def blankS : ByteArray := ⟨#[32, 9, 10, 13]⟩
theorem blank_set (c : UInt8) : decide (0 ≤ Lib.indexByte blankS.data.toList c) = isBlank c := by
  have h : ∀ k : Fin 256, decide (0 ≤ Lib.indexByte blankS.data.toList (UInt8.ofNat k.val)) = isBlank (UInt8.ofNat k.val) := by decide +kernel
  have := h ⟨c.toNat, c.toNat_lt⟩
  simpa using this
theorem prefix2 (s : ByteArray) : Lib.hasPrefix s.data.toList [47, 47] = decide (s.data.toList.take 2 = [47, 47]) := by
  generalize s.data.toList = l
  match l with
  | [] => rfl
  | [a] => simp [Lib.hasPrefix, List.isPrefixOf]
  | a :: b :: r =>
    rw [Bool.eq_iff_iff]
    simp only [Lib.hasPrefix, List.isPrefixOf, Bool.and_eq_true, beq_iff_eq, decide_eq_true_eq, List.take_succ_cons, List.take_zero, List.cons.injEq, and_true, Bool.and_true]
    constructor
    · rintro ⟨h1, h2⟩; exact ⟨h1.symm, h2.symm⟩
    · rintro ⟨h1, h2⟩; exact ⟨h1.symm, h2.symm⟩
/-- One step past blanks, and what is left. -/
theorem skip_more {l : List UInt8} {k : Nat} (hk : k ≤ l.length) (h2 : (l.drop k).take 2 = [47, 47]) :
    (10 ∉ l.drop k → k + ws false (l.drop k) = l.length) ∧
    (10 ∈ l.drop k → ∃ i, Lib.indexByte (l.drop k) 10 = ((i : Nat) : Int) ∧ 0 < i ∧ k + i ≤ l.length ∧ k + ws false (l.drop k) = k + i + span isBlank (l.drop (k + i)) + ws false (l.drop (k + i + span isBlank (l.drop (k + i))))) := by
  have hc := ws_comment h2
  have ht := ws_true (l.drop k)
  rw [hc, ht]
  constructor
  · intro h; rw [if_neg h, List.length_drop]; omega
  · intro h
    have hi := index_span 10 (l.drop k)
    rw [if_pos h] at hi
    have hle := span_le (fun d => d != 10) (l.drop k)
    rw [List.length_drop] at hle
    refine ⟨_, hi, ?_, by omega, ?_⟩
    · match hd : l.drop k with
      | [] => rw [hd] at h2; simp at h2
      | a :: b => rw [hd] at h2; simp at h2; obtain ⟨rfl, _⟩ := h2; simp [span]
    · rw [if_pos h, List.drop_drop]
      have := ws_step (l.drop (k + span (fun d => d != 10) (l.drop k)))
      rw [this, List.drop_drop]
      omega

end Go.Proofs.YtggcjdajmbkpiaaGreatDoor
