/-
  What texts are made of: blanks, tokens, and all tokens of a text, by plain functions on lists of bytes; and what is plain of them.
-/
import Derived.Test.YtceomdbahiimlaaDoorBase
namespace Go.Proofs.YtceomdbahiimlaaDoor
set_option maxRecDepth 100000

def isBlank (c : UInt8) : Bool := c == 32 || c == 9 || c == 10 || c == 13
def isDigit (c : UInt8) : Bool := decide (48 ≤ c.toNat) && decide (c.toNat ≤ 57)
def isFirst (c : UInt8) : Bool := decide (97 ≤ c.toNat) && decide (c.toNat ≤ 122) || decide (65 ≤ c.toNat) && decide (c.toNat ≤ 90) || c == 95
def isNext (c : UInt8) : Bool := isFirst c || isDigit c
def isSign (c : UInt8) : Bool := [123, 125, 40, 41, 91, 93, 60, 62, 61, 59, 44, 46].contains c
def isPlain (c : UInt8) : Bool := decide (32 ≤ c.toNat) && decide (c.toNat ≤ 126)

/-- How many first bytes are of a set. -/
def span (f : UInt8 → Bool) : List UInt8 → Nat
  | [] => 0
  | c :: r => if f c then span f r + 1 else 0

/-- How many first bytes are blanks (true: within a comment). -/
def ws : Bool → List UInt8 → Nat
  | _, [] => 0
  | true, c :: r => 1 + ws (c != 10) r
  | false, c :: r => if isBlank c then 1 + ws false r else if c == 47 && r.head? == some 47 then 1 + ws true r else 0

def hexv (c : UInt8) : Option Nat :=
  if isDigit c then some (c.toNat - 48) else if decide (97 ≤ c.toNat) && decide (c.toNat ≤ 102) then some (c.toNat - 87) else none

/-- The byte that is meant, within a string, and how many bytes more mean it. -/
def meant : List UInt8 → Option (UInt8 × Nat)
  | [] => none
  | c :: r =>
    if c == 92 then
      match r with
      | [] => none
      | d :: r2 =>
        if d == 34 || d == 92 then some (d, 1)
        else if d == 110 then some (10, 1)
        else if d == 120 then
          match r2 with
          | h :: k :: _ => match hexv h, hexv k with
            | some a, some b => some (UInt8.ofNat (16 * a + b), 3)
            | _, _ => none
          | _ => none
        else none
    else if isPlain c || decide (128 ≤ c.toNat) then some (c, 0) else none

/-- What a string means, behind so many bytes of a mark, and how many bytes it has, with the sign that ends it. -/
def strB : Nat → List UInt8 → Option (List UInt8 × Nat)
  | _, [] => none
  | k + 1, _ :: r => (strB k r).map fun x => (x.1, x.2 + 1)
  | 0, c :: r =>
    if c == 34 then some ([], 1)
    else match meant (c :: r) with
      | none => none
      | some (b, k) => (strB k r).map fun x => (b :: x.1, x.2 + 1)

/-- What digits spell. -/
def dval (a : Nat) (l : List UInt8) : Nat := l.foldl (fun a c => 10 * a + (c.toNat - 48)) a

/-- The number of digits, with a sign or not. -/
def numOf (itoa : Int → List UInt8) (t : List UInt8) : Option Int :=
  match t with
  | [] => none
  | c :: r =>
    let v : Int := if c = 45 then -(dval 0 r : Int) else (dval 0 (c :: r) : Int)
    if -9223372036854775808 ≤ v ∧ v ≤ 9223372036854775807 ∧ itoa v = t then some v else none

/-- A token: its kind, text, number, and how many bytes it has, but one. -/
structure Tk where
  kind : Nat
  text : List UInt8
  num : Int
  more : Nat

structure T where
  kind : Nat
  text : List UInt8
  num : Int
  at_ : Nat
  deriving Inhabited

def tk (itoa : Int → List UInt8) : List UInt8 → Option Tk
  | [] => none
  | c :: r =>
    if isFirst c then some ⟨0, c :: r.take (span isNext r), 0, span isNext r⟩
    else if isDigit c || c == 45 then (numOf itoa (c :: r.take (span isDigit r))).map fun n => ⟨1, c :: r.take (span isDigit r), n, span isDigit r⟩
    else if c == 34 then (strB 0 r).map fun x => ⟨2, x.1, 0, x.2⟩
    else if isSign c then some ⟨3, [c], 0, 0⟩
    else none

/-- All tokens of what follows, behind so many bytes; and where none begins. -/
def lex (itoa : Int → List UInt8) : Nat → Nat → List UInt8 → List T × Option Nat
  | _, _, [] => ([], none)
  | k + 1, p, _ :: r => lex itoa k (p + 1) r
  | 0, p, c :: r =>
    match ws false (c :: r) with
    | w + 1 => lex itoa w (p + 1) r
    | 0 => match tk itoa (c :: r) with
      | none => ([], some p)
      | some t => (⟨t.kind, t.text, t.num, p⟩ :: (lex itoa t.more (p + 1) r).1, (lex itoa t.more (p + 1) r).2)

/-- What is told of a text. -/
def ansT (x : List T × Option Nat) : List T := if 1000 < x.1.length then [] else if x.2.isSome then [] else x.1
def ansAt (n : Nat) (x : List T × Option Nat) : Nat := if 1000 < x.1.length then (x.1.getD 1000 default).at_ else x.2.getD n
def ansE (x : List T × Option Nat) : Nat := if 1000 < x.1.length then 2 else if x.2.isSome then 4 else 0
def allT (itoa : Int → List UInt8) (l : List UInt8) : List T := if 5000 < l.length then [] else ansT (lex itoa 0 0 l)
def allAt (itoa : Int → List UInt8) (l : List UInt8) : Nat := if 5000 < l.length then 0 else ansAt l.length (lex itoa 0 0 l)
def allE (itoa : Int → List UInt8) (l : List UInt8) : Nat := if 5000 < l.length then 2 else ansE (lex itoa 0 0 l)

def hexd (n : Nat) : UInt8 := [48, 49, 50, 51, 52, 53, 54, 55, 56, 57, 97, 98, 99, 100, 101, 102].getD n 0
/-- What means a byte. -/
def q1 (c : UInt8) : List UInt8 :=
  if c == 34 || c == 92 then [92, c] else if c == 10 then [92, 110] else if isPlain c then [c] else [92, 120, hexd (c.toNat / 16), hexd (c.toNat % 16)]
def quote (s : List UInt8) : List UInt8 := 34 :: (s.flatMap q1 ++ [34])

/-! ### Spans -/

theorem span_le (f : UInt8 → Bool) : ∀ l : List UInt8, span f l ≤ l.length
  | [] => Nat.le_refl _
  | c :: r => by
    have := span_le f r
    unfold span
    split
    · simp; omega
    · simp
theorem span_drop (f : UInt8 → Bool) : ∀ l : List UInt8, span f (l.drop (span f l)) = 0
  | [] => rfl
  | c :: r => by
    by_cases h : f c
    · simp only [span, h, if_true, List.drop_succ_cons]
      exact span_drop f r
    · simp [span, h]
theorem span_all (f : UInt8 → Bool) : ∀ l : List UInt8, ∀ c ∈ l.take (span f l), f c = true
  | [], c, h => by simp at h
  | b :: r, c, h => by
    by_cases hb : f b
    · simp only [span, hb, if_true, List.take_succ_cons, List.mem_cons] at h
      rcases h with rfl | h
      · exact hb
      · exact span_all f r c h
    · simp [span, hb] at h
theorem span_whole (f : UInt8 → Bool) : ∀ l : List UInt8, (∀ c ∈ l, f c = true) → span f l = l.length
  | [], _ => rfl
  | c :: r, h => by
    have h1 := h c (by simp)
    have h2 := span_whole f r (fun d hd => h d (by simp [hd]))
    simp [span, h1, h2]
theorem span_app (f : UInt8 → Bool) (x : UInt8) (hx : f x = false) (t : List UInt8) : ∀ l, span f (l ++ x :: t) = span f l
  | [] => by simp [span, hx]
  | c :: r => by
    have := span_app f x hx t r
    simp only [List.cons_append, span, this]
theorem span_succ {f : UInt8 → Bool} {l : List UInt8} {k : Nat} (hk : k ≤ span f l) {c : UInt8} (hc : l[k]? = some c) : f c = true ↔ k + 1 ≤ span f l := by
  induction l generalizing k with
  | nil => simp at hc
  | cons b r ih =>
    unfold span at hk ⊢
    by_cases hb : f b
    · simp only [hb, if_true] at hk ⊢
      cases k with
      | zero => simp at hc; subst hc; simp [hb]
      | succ k =>
        have := ih (k := k) (by omega) (by simpa using hc)
        rw [this]; omega
    · simp only [hb] at hk ⊢
      obtain rfl : k = 0 := by simpa using hk
      simp at hc
      subst hc
      simp [hb]

/-! ### Blanks -/

theorem ws_le : ∀ (b : Bool) (l : List UInt8), ws b l ≤ l.length
  | _, [] => by simp [ws]
  | true, c :: r => by
    have := ws_le (c != 10) r
    simp only [ws, List.length_cons]; omega
  | false, c :: r => by
    have h1 := ws_le false r
    have h2 := ws_le true r
    simp only [ws, List.length_cons]
    split
    · omega
    · split <;> omega
theorem ws_step (l : List UInt8) : ws false l = span isBlank l + ws false (l.drop (span isBlank l)) := by
  induction l with
  | nil => simp [ws, span]
  | cons c r ih =>
    by_cases h : isBlank c
    · simp only [ws, span, h, if_true, List.drop_succ_cons]; omega
    · simp [span, h]
theorem ws_none {l : List UInt8} (h : span isBlank l = 0) (h2 : l.take 2 ≠ [47, 47]) : ws false l = 0 := by
  cases l with
  | nil => simp [ws]
  | cons c r =>
    have hb : isBlank c = false := by
      by_cases hb : isBlank c
      · simp [span, hb] at h
      · simpa using hb
    simp only [ws, hb]
    cases r with
    | nil => simp
    | cons d r =>
      simp at h2
      simp
      exact h2
theorem ws_true (l : List UInt8) : ws true l = if 10 ∈ l then span (fun c => c != 10) l + ws false (l.drop (span (fun c => c != 10) l)) else l.length := by
  induction l with
  | nil => simp [ws]
  | cons c r ih =>
    by_cases h : c = 10
    · subst h
      simp [ws, span, isBlank]
    · have h1 : (c != 10) = true := by simpa using h
      have h2 : (10 : UInt8) ≠ c := fun e => h e.symm
      simp only [ws, h1, span, if_true, List.mem_cons, h2, false_or, List.drop_succ_cons, List.length_cons]
      rw [ih]
      split <;> omega
theorem ws_comment {l : List UInt8} (h2 : l.take 2 = [47, 47]) : ws false l = ws true l := by
  obtain ⟨r, rfl⟩ : ∃ r, l = 47 :: 47 :: r := by
    match l with
    | [] => simp at h2
    | [a] => simp at h2
    | a :: b :: r => simp at h2; obtain ⟨rfl, rfl⟩ := h2; exact ⟨r, rfl⟩
  simp [ws, isBlank]
theorem ws_drop : ∀ (b : Bool) (l : List UInt8), ws false (l.drop (ws b l)) = 0
  | _, [] => by simp [ws]
  | true, c :: r => by
    simp only [ws, Nat.add_comm 1, List.drop_succ_cons]
    exact ws_drop _ r
  | false, c :: r => by
    by_cases h : isBlank c
    · simp only [ws, h, if_true, Nat.add_comm 1, List.drop_succ_cons]
      exact ws_drop _ r
    · by_cases h2 : (c == 47 && r.head? == some 47) = true
      · simp only [ws, h, h2, if_true, Nat.add_comm 1, List.drop_succ_cons, Bool.false_eq_true, if_false]
        exact ws_drop _ r
      · simp [ws, h, h2]
/-- Blanks ahead of a line feed. -/
theorem ws_app (t : List UInt8) : ∀ (b : Bool) (l : List UInt8), (ws b l = l.length → ws b (l ++ 10 :: t) = l.length + 1 + ws false t) ∧ (ws b l ≠ l.length → ws b (l ++ 10 :: t) = ws b l)
  | b, [] => by cases b <;> simp [ws, isBlank]
  | true, c :: r => by
    obtain ⟨h2, h3⟩ := ws_app t (c != 10) r
    have h1 := ws_le (c != 10) r
    have e1 : ws true (c :: r) = 1 + ws (c != 10) r := rfl
    have e2 : ws true (c :: r ++ 10 :: t) = 1 + ws (c != 10) (r ++ 10 :: t) := rfl
    rw [e1, e2, List.length_cons]
    exact ⟨fun h => by rw [h2 (by omega)]; omega, fun h => by rw [h3 (by omega)]⟩
  | false, c :: r => by
    obtain ⟨h2, h3⟩ := ws_app t false r
    obtain ⟨h4, h5⟩ := ws_app t true r
    have l1 := ws_le false r
    have l2 := ws_le true r
    have hh : ((r ++ 10 :: t).head? == some 47) = (r.head? == some 47) := by cases r <;> simp
    have e1 : ws false (c :: r) = if isBlank c then 1 + ws false r else if c == 47 && r.head? == some 47 then 1 + ws true r else 0 := rfl
    have e2 : ws false (c :: r ++ 10 :: t) = if isBlank c then 1 + ws false (r ++ 10 :: t) else if c == 47 && (r ++ 10 :: t).head? == some 47 then 1 + ws true (r ++ 10 :: t) else 0 := rfl
    rw [hh] at e2
    rw [e1, e2, List.length_cons]
    by_cases hb : isBlank c = true
    · rw [if_pos hb, if_pos hb]
      exact ⟨fun h => by rw [h2 (by omega)]; omega, fun h => by rw [h3 (by omega)]⟩
    · rw [if_neg hb, if_neg hb]
      by_cases hc : (c == 47 && r.head? == some 47) = true
      · rw [if_pos hc, if_pos hc]
        exact ⟨fun h => by rw [h4 (by omega)]; omega, fun h => by rw [h5 (by omega)]⟩
      · rw [if_neg hc, if_neg hc]
        exact ⟨fun h => by omega, fun _ => rfl⟩
theorem ws_blanks : ∀ (b : List UInt8), (∀ c ∈ b, isBlank c = true) → ∀ s, ws false (b ++ s) = b.length + ws false s
  | [], _, s => by simp
  | c :: b, h, s => by
    have h1 := h c (by simp)
    have h2 := ws_blanks b (fun d hd => h d (by simp [hd])) s
    simp only [List.cons_append, ws, h1, if_true, h2, List.length_cons]
    omega

/-! ### Strings -/

theorem meant_more {l : List UInt8} {b : UInt8} {k : Nat} (h : meant l = some (b, k)) : k + 1 ≤ l.length := by
  unfold meant at h
  split at h
  · simp at h
  · split at h
    · split at h
      · simp at h
      · split at h
        · simp at h; simp; omega
        · split at h
          · simp at h; simp; omega
          · split at h
            · split at h
              · split at h
                · simp at h; simp; omega
                · simp at h
              · simp at h
            · simp at h
    · split at h
      · simp at h; simp; omega
      · simp at h
theorem meant_app {l : List UInt8} {x : UInt8 × Nat} (h : meant l = some x) (t : List UInt8) : meant (l ++ t) = some x := by
  cases l with
  | nil => simp [meant] at h
  | cons c r =>
    cases r with
    | nil =>
      simp only [meant, List.cons_append, List.nil_append] at h ⊢
      by_cases hc : c == 92
      · simp [hc] at h
      · simpa [hc] using h
    | cons d r =>
      simp only [meant, List.cons_append] at h ⊢
      match r with
      | [] =>
        by_cases hc : c == 92
        · by_cases h1 : d == 34 || d == 92
          · simp only [hc, h1, if_true] at h ⊢; exact h
          · by_cases h2 : d == 110
            · simp only [hc, h1, h2, if_true] at h ⊢; exact h
            · by_cases h3 : d == 120 <;> simp [hc, h1, h2, h3] at h
        · simp only [hc, Bool.false_eq_true, if_false] at h ⊢; exact h
      | [a] =>
        by_cases hc : c == 92
        · by_cases h1 : d == 34 || d == 92
          · simp only [hc, h1, if_true] at h ⊢; exact h
          · by_cases h2 : d == 110
            · simp only [hc, h1, h2, if_true] at h ⊢; exact h
            · by_cases h3 : d == 120 <;> simp [hc, h1, h2, h3] at h
        · simp only [hc, Bool.false_eq_true, if_false] at h ⊢; exact h
      | a :: b :: r => simpa only [List.cons_append] using h
theorem strB_skip : ∀ (k : Nat) (l : List UInt8), strB k l = (strB 0 (l.drop k)).map fun x => (x.1, x.2 + k)
  | k, [] => by cases k <;> simp [strB]
  | 0, c :: r => by
    simp only [List.drop_zero, Nat.add_zero]
    cases strB 0 (c :: r) <;> rfl
  | k + 1, c :: r => by
    simp only [strB, List.drop_succ_cons]
    rw [strB_skip k r]
    cases strB 0 (r.drop k) <;> simp; try omega
theorem strB_app (t : List UInt8) : ∀ (l : List UInt8) (k : Nat) {x : List UInt8 × Nat}, strB k l = some x → strB k (l ++ t) = some x
  | [], k, x, h => by cases k <;> simp [strB] at h
  | c :: r, k + 1, x, h => by
    simp only [strB, List.cons_append, Option.map_eq_some_iff] at h ⊢
    obtain ⟨y, hy, rfl⟩ := h
    exact ⟨y, strB_app t r k hy, rfl⟩
  | c :: r, 0, x, h => by
    simp only [strB, List.cons_append] at h ⊢
    by_cases hc : c == 34
    · simpa [hc] using h
    · simp only [hc] at h ⊢
      cases hm : meant (c :: r) with
      | none => simp [hm] at h
      | some y =>
        have := meant_app hm t
        rw [List.cons_append] at this
        simp only [hm, this, Bool.false_eq_true, if_false, Option.map_eq_some_iff] at h ⊢
        obtain ⟨z, hz, rfl⟩ := h
        exact ⟨z, strB_app t r y.2 hz, rfl⟩
theorem strB_le : ∀ (l : List UInt8) (k : Nat) {x : List UInt8 × Nat}, strB k l = some x → x.2 ≤ l.length
  | [], k, x, h => by cases k <;> simp [strB] at h
  | c :: r, k + 1, x, h => by
    simp only [strB, Option.map_eq_some_iff] at h
    obtain ⟨y, hy, rfl⟩ := h
    have := strB_le r k hy
    simp; omega
  | c :: r, 0, x, h => by
    simp only [strB] at h
    by_cases hc : c == 34
    · simp [hc] at h; subst h; simp
    · simp only [hc] at h
      cases hm : meant (c :: r) with
      | none => simp [hm] at h
      | some y =>
        simp only [hm, Bool.false_eq_true, if_false, Option.map_eq_some_iff] at h
        obtain ⟨z, hz, rfl⟩ := h
        have := strB_le r y.2 hz
        simp; omega
theorem strB_text : ∀ (l : List UInt8) (k : Nat) {x : List UInt8 × Nat}, strB k l = some x → x.1.length ≤ l.length
  | [], k, x, h => by cases k <;> simp [strB] at h
  | c :: r, k + 1, x, h => by
    simp only [strB, Option.map_eq_some_iff] at h
    obtain ⟨y, hy, rfl⟩ := h
    have := strB_text r k hy
    simp; omega
  | c :: r, 0, x, h => by
    simp only [strB] at h
    by_cases hc : c == 34
    · simp [hc] at h; subst h; simp
    · simp only [hc] at h
      cases hm : meant (c :: r) with
      | none => simp [hm] at h
      | some y =>
        simp only [hm, Bool.false_eq_true, if_false, Option.map_eq_some_iff] at h
        obtain ⟨z, hz, rfl⟩ := h
        have := strB_text r y.2 hz
        simp; omega

/-! ### Tokens -/

theorem tk_more {it : Int → List UInt8} {l : List UInt8} {t : Tk} (h : tk it l = some t) : t.more + 1 ≤ l.length := by
  cases l with
  | nil => simp [tk] at h
  | cons c r =>
    have s1 := span_le isNext r
    have s2 := span_le isDigit r
    simp only [tk] at h
    split at h
    · simp at h; subst h; simp; omega
    · split at h
      · simp only [Option.map_eq_some_iff] at h
        obtain ⟨n, _, rfl⟩ := h
        simp; omega
      · split at h
        · simp only [Option.map_eq_some_iff] at h
          obtain ⟨x, hx, rfl⟩ := h
          have := strB_le r 0 hx
          simp; omega
        · split at h
          · simp at h; subst h; simp
          · simp at h
theorem tk_app {it : Int → List UInt8} {l : List UInt8} {t : Tk} (h : tk it l = some t) (s : List UInt8) : tk it (l ++ 10 :: s) = some t := by
  cases l with
  | nil => simp [tk] at h
  | cons c r =>
    have e1 := span_app isNext 10 (by decide) s r
    have e2 := span_app isDigit 10 (by decide) s r
    have t1 : (r ++ 10 :: s).take (span isNext r) = r.take (span isNext r) := by rw [List.take_append_of_le_length (span_le _ _)]
    have t2 : (r ++ 10 :: s).take (span isDigit r) = r.take (span isDigit r) := by rw [List.take_append_of_le_length (span_le _ _)]
    simp only [tk, List.cons_append, e1, e2, t1, t2] at h ⊢
    split at h
    · rename_i h1; rw [if_pos h1]; exact h
    · rename_i h1; rw [if_neg h1]
      split at h
      · rename_i h2; rw [if_pos h2]; exact h
      · rename_i h2; rw [if_neg h2]
        split at h
        · rename_i h3; rw [if_pos h3]
          simp only [Option.map_eq_some_iff] at h ⊢
          obtain ⟨x, hx, rfl⟩ := h
          exact ⟨x, strB_app _ _ _ hx, rfl⟩
        · rename_i h3; rw [if_neg h3]; exact h

/-! ### All tokens -/

section

variable {it : Int → List UInt8}

theorem lex_skip : ∀ (k p : Nat) (l : List UInt8), lex it k p l = lex it 0 (p + k) (l.drop k)
  | k, p, [] => by cases k <;> simp [lex]
  | 0, p, c :: r => by simp
  | k + 1, p, c :: r => by
    rw [show lex it (k + 1) p (c :: r) = lex it k (p + 1) r by simp [lex], lex_skip k (p + 1) r, List.drop_succ_cons]
    congr 1
    omega
theorem lex_ws (p : Nat) (l : List UInt8) : lex it 0 p l = lex it 0 (p + ws false l) (l.drop (ws false l)) := by
  cases l with
  | nil => simp [lex]
  | cons c r =>
    cases h : ws false (c :: r) with
    | zero => simp
    | succ w =>
      rw [show lex it 0 p (c :: r) = lex it w (p + 1) r by simp [lex, h], lex_skip, List.drop_succ_cons]
      congr 1
      omega
theorem lex_none {l : List UInt8} (h : ws false l = 0) (hn : tk it l = none) (hl : l ≠ []) (p : Nat) : lex it 0 p l = ([], some p) := by
  cases l with
  | nil => exact absurd rfl hl
  | cons c r => simp [lex, h, hn]
theorem lex_some {l : List UInt8} (h : ws false l = 0) {t : Tk} (hn : tk it l = some t) (p : Nat) :
    lex it 0 p l = (⟨t.kind, t.text, t.num, p⟩ :: (lex it 0 (p + t.more + 1) (l.drop (t.more + 1))).1, (lex it 0 (p + t.more + 1) (l.drop (t.more + 1))).2) := by
  cases l with
  | nil => simp [tk] at hn
  | cons c r =>
    have e : lex it t.more (p + 1) r = lex it 0 (p + t.more + 1) ((c :: r).drop (t.more + 1)) := by
      rw [lex_skip, List.drop_succ_cons]
      congr 1
      omega
    simp [lex, h, hn, e]
theorem lex_shift (d : Nat) : ∀ (l : List UInt8) (k p : Nat), lex it k (p + d) l = ((lex it k p l).1.map (fun t => { t with at_ := t.at_ + d }), (lex it k p l).2.map (· + d))
  | [], k, p => by cases k <;> simp [lex]
  | c :: r, k + 1, p => by
    simp only [lex]
    rw [show p + d + 1 = p + 1 + d by omega, lex_shift d r]
  | c :: r, 0, p => by
    simp only [lex]
    rw [show p + d + 1 = p + 1 + d by omega]
    split
    · rw [lex_shift d r]
    · split
      · simp
      · rw [lex_shift d r]; simp
theorem lex_join (t : List UInt8) : ∀ (l : List UInt8) (k p : Nat), k ≤ l.length → (lex it k p l).2 = none →
    lex it k p (l ++ 10 :: t) = ((lex it k p l).1 ++ (lex it 0 (p + l.length + 1) t).1, (lex it 0 (p + l.length + 1) t).2)
  | [], k, p, hk, _ => by
    obtain rfl : k = 0 := by simpa using hk
    have e : ws false (10 :: t) = ws false t + 1 := by simp [ws, isBlank]; omega
    have e2 : lex it 0 p (10 :: t) = lex it 0 (p + 1) t := by
      rw [lex_ws p (10 :: t), e, List.drop_succ_cons, lex_ws (p + 1) t]
      congr 1
      omega
    simp [lex, e2]
  | c :: r, k + 1, p, hk, h => by
    simp only [lex, List.cons_append] at h ⊢
    rw [lex_join t r k (p + 1) (by simpa using hk) h]
    simp only [List.length_cons, show p + 1 + r.length + 1 = p + (r.length + 1) + 1 by omega]
  | c :: r, 0, p, hk, h => by
    obtain ⟨hw1, hw2⟩ := ws_app t false (c :: r)
    have hle := ws_le false (c :: r)
    simp only [List.cons_append, List.length_cons] at hw1 hw2 hle
    cases h0 : ws false (c :: r) with
    | succ w =>
      have e1 : lex it 0 p (c :: r) = lex it w (p + 1) r := by simp [lex, h0]
      rw [e1] at h ⊢
      rw [h0] at hw1 hw2 hle
      have ih := lex_join t r w (p + 1) (by omega) h
      by_cases hl : w + 1 = r.length + 1
      · have hw := hw1 hl
        have e2 : lex it 0 p (c :: r ++ 10 :: t) = lex it (r.length + 1 + ws false t) (p + 1) (r ++ 10 :: t) := by
          simp only [List.cons_append, lex]
          rw [show ws false (c :: (r ++ 10 :: t)) = r.length + 1 + ws false t + 1 by omega]
        have e3 : lex it w (p + 1) r = ([], none) := by
          rw [lex_skip, List.drop_of_length_le (by omega)]
          simp [lex]
        have e4 : (r ++ 10 :: t).drop (r.length + 1 + ws false t) = t.drop (ws false t) := by
          rw [List.drop_append]
          rw [List.drop_of_length_le (by omega), show r.length + 1 + ws false t - r.length = ws false t + 1 by omega]
          simp
        rw [e2, e3, lex_skip, e4, List.length_cons, List.nil_append, lex_ws (p + (r.length + 1) + 1) t]
        rw [show p + 1 + (r.length + 1 + ws false t) = p + (r.length + 1) + 1 + ws false t by omega]
      · have hw := hw2 hl
        have e2 : lex it 0 p (c :: r ++ 10 :: t) = lex it w (p + 1) (r ++ 10 :: t) := by
          simp only [List.cons_append, lex]
          rw [hw]
        rw [e2, ih]
        simp only [List.length_cons, show p + 1 + r.length + 1 = p + (r.length + 1) + 1 by omega]
    | zero =>
      rw [h0] at hw2
      have hw := hw2 (by omega)
      cases ht : tk it (c :: r) with
      | none => simp [lex, h0, ht] at h
      | some x =>
        have hm := tk_more ht
        have ha := tk_app ht t
        simp only [List.cons_append] at ha
        have h2 : (lex it x.more (p + 1) r).2 = none := by simpa [lex, h0, ht] using h
        have ih := lex_join t r x.more (p + 1) (by simp at hm; omega) h2
        have e1 : lex it 0 p (c :: r ++ 10 :: t) = (⟨x.kind, x.text, x.num, p⟩ :: (lex it x.more (p + 1) (r ++ 10 :: t)).1, (lex it x.more (p + 1) (r ++ 10 :: t)).2) := by
          simp [lex, hw, ha]
        have e2 : lex it 0 p (c :: r) = (⟨x.kind, x.text, x.num, p⟩ :: (lex it x.more (p + 1) r).1, (lex it x.more (p + 1) r).2) := by
          simp [lex, h0, ht]
        rw [e1, e2, ih]
        simp only [List.length_cons, List.cons_append, show p + 1 + r.length + 1 = p + (r.length + 1) + 1 by omega]
theorem lex_count : ∀ (l : List UInt8) (k p : Nat), (lex it k p l).1.length ≤ l.length
  | [], k, p => by cases k <;> simp [lex]
  | c :: r, k + 1, p => by
    have := lex_count r k (p + 1)
    simp only [lex, List.length_cons]; omega
  | c :: r, 0, p => by
    simp only [lex, List.length_cons]
    split
    · rename_i w _
      have := lex_count r w (p + 1); omega
    · split
      · simp
      · rename_i t _
        have := lex_count r t.more (p + 1)
        simp; omega
theorem lex_place : ∀ (l : List UInt8) (k p q : Nat), (lex it k p l).2 = some q → p ≤ q ∧ q < p + l.length
  | [], k, p, q, h => by cases k <;> simp [lex] at h
  | c :: r, k + 1, p, q, h => by
    simp only [lex] at h
    have := lex_place r k (p + 1) q h
    simp only [List.length_cons]; omega
  | c :: r, 0, p, q, h => by
    simp only [lex] at h
    simp only [List.length_cons]
    split at h
    · have := lex_place r _ (p + 1) q h; omega
    · split at h
      · simp at h; omega
      · have := lex_place r _ (p + 1) q h; omega
end

end Go.Proofs.YtceomdbahiimlaaDoor
