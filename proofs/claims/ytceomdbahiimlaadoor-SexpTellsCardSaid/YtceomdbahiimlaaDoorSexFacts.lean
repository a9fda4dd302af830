/-
  Where tokens begin, and by which byte; how All ends.
-/
import Derived.Test.YtceomdbahiimlaaDoorTokNum
import Derived.Test.YtceomdbahiimlaaDoorSexApp
namespace Go.Proofs.YtceomdbahiimlaaDoor
set_option maxRecDepth 100000

/-- A token at the beginning of what is left. -/
structure Good (l : List UInt8) (t : T) : Prop where
  kind : t.kind < 4
  str : t.kind = 2 ↔ l.head? = some 34
  ne : t.kind ≠ 2 → t.text ≠ []
  text : t.kind ≠ 2 → l.take t.text.length = t.text
theorem tk_good {it : Int → List UInt8} {l : List UInt8} {t : Tk} (h : tk it l = some t) (p : Nat) : Good l ⟨t.kind, t.text, t.num, p⟩ := by
  cases l with
  | nil => simp [tk] at h
  | cons c r =>
    have s1 := span_le isNext r
    have s2 := span_le isDigit r
    simp only [tk] at h
    by_cases h1 : isFirst c = true
    · rw [if_pos h1] at h
      injection h with h
      subst h
      have hc : c ≠ 34 := by rintro rfl; exact absurd h1 (by decide)
      exact ⟨by simp, by simp [hc], by simp, fun _ => by simp only [List.length_cons, List.length_take, Nat.min_eq_left s1, List.take_succ_cons]⟩
    · rw [if_neg h1] at h
      by_cases h2 : (isDigit c || c == 45) = true
      · rw [if_pos h2] at h
        simp only [Option.map_eq_some_iff] at h
        obtain ⟨n, _, rfl⟩ := h
        have hc : c ≠ 34 := by rintro rfl; exact absurd h2 (by decide)
        exact ⟨by simp, by simp [hc], by simp, fun _ => by simp only [List.length_cons, List.length_take, Nat.min_eq_left s2, List.take_succ_cons]⟩
      · rw [if_neg h2] at h
        by_cases h3 : (c == 34) = true
        · rw [if_pos h3] at h
          simp only [Option.map_eq_some_iff] at h
          obtain ⟨x, _, rfl⟩ := h
          have hc : c = 34 := by simpa using h3
          exact ⟨by simp, by simp [hc], by simp, by simp⟩
        · rw [if_neg h3] at h
          have hc : c ≠ 34 := by simpa using h3
          split at h
          · injection h with h
            subst h
            exact ⟨by simp, by simp [hc], by simp, fun _ => by simp⟩
          · cases h
section

variable {it : Int → List UInt8}

theorem lex_good : ∀ (l : List UInt8) (k p : Nat), ∀ t ∈ (lex it k p l).1, p + k ≤ t.at_ ∧ t.at_ < p + l.length ∧ Good (l.drop (t.at_ - p)) t
  | [], k, p, t, h => by cases k <;> simp [lex] at h
  | c :: r, k + 1, p, t, h => by
    simp only [lex] at h
    obtain ⟨h1, h2, h3⟩ := lex_good r k (p + 1) t h
    refine ⟨by omega, by simp only [List.length_cons]; omega, ?_⟩
    rw [show t.at_ - p = t.at_ - (p + 1) + 1 by omega, List.drop_succ_cons]
    exact h3
  | c :: r, 0, p, t, h => by
    simp only [lex] at h
    split at h
    · rename_i w _
      obtain ⟨h1, h2, h3⟩ := lex_good r w (p + 1) t h
      refine ⟨by omega, by simp only [List.length_cons]; omega, ?_⟩
      rw [show t.at_ - p = t.at_ - (p + 1) + 1 by omega, List.drop_succ_cons]
      exact h3
    · split at h
      · simp at h
      · rename_i x hx
        rcases List.mem_cons.1 h with rfl | h
        · refine ⟨by simp, by simp, ?_⟩
          simp only [Nat.sub_self, List.drop_zero]
          exact tk_good hx p
        · obtain ⟨h1, h2, h3⟩ := lex_good r x.more (p + 1) t h
          refine ⟨by omega, by simp only [List.length_cons]; omega, ?_⟩
          rw [show t.at_ - p = t.at_ - (p + 1) + 1 by omega, List.drop_succ_cons]
          exact h3
theorem lex_rise : ∀ (l : List UInt8) (k p : Nat), (lex it k p l).1.Pairwise fun a b => a.at_ < b.at_
  | [], k, p => by cases k <;> simp [lex]
  | c :: r, k + 1, p => by
    simp only [lex]
    exact lex_rise r k (p + 1)
  | c :: r, 0, p => by
    simp only [lex]
    split
    · exact lex_rise r _ (p + 1)
    · split
      · exact List.Pairwise.nil
      · rename_i x hx
        refine List.Pairwise.cons (fun b hb => ?_) (lex_rise r x.more (p + 1))
        have := (lex_good r x.more (p + 1) b hb).1
        show p < b.at_
        omega
theorem all_cases (L : List UInt8) :
    (allE it L = 0 ∧ allAt it L = L.length ∧ (allT it L).length ≤ 1000 ∧ allT it L = (lex it 0 0 L).1) ∨ (allT it L = [] ∧ allAt it L < L.length ∧ (allE it L = 4 ∨ allE it L = 2)) := by
  unfold allE allAt allT
  by_cases h5 : 5000 < L.length
  · right
    simp only [if_pos h5]
    exact ⟨trivial, by omega, .inr trivial⟩
  · simp only [if_neg h5]
    unfold ansT ansAt ansE
    by_cases h1 : 1000 < (lex it 0 0 L).1.length
    · right
      simp only [if_pos h1]
      refine ⟨trivial, ?_, .inr trivial⟩
      have hm := List.getElem_mem h1
      have hg := lex_good L 0 0 _ hm
      rw [List.getD_eq_getElem?_getD, List.getElem?_eq_getElem h1]
      simp only [Option.getD_some]
      omega
    · simp only [if_neg h1]
      cases h2 : (lex it 0 0 L).2 with
      | none =>
        left
        exact ⟨rfl, rfl, by simp; omega, by simp⟩
      | some q =>
        right
        have := lex_place L 0 0 q h2
        exact ⟨rfl, by simp; omega, .inl rfl⟩
end

end Go.Proofs.YtceomdbahiimlaaDoor
/-
  What follows of tokens: what is quoted is read again; blanks; places.
-/
namespace Go.Proofs.YtceomdbahiimlaaDoor
set_option maxRecDepth 100000

theorem hexd_ok : ∀ k : Fin 16, hexv (hexd k.val) = some k.val ∧ 32 ≤ (hexd k.val).toNat ∧ (hexd k.val).toNat ≤ 126 := by decide +kernel
theorem str_q1 (c : UInt8) (X : List UInt8) : strB 0 (q1 c ++ X) = (strB 0 X).map fun y => (c :: y.1, y.2 + (q1 c).length) := by
  have hlt := c.toNat_lt
  by_cases h1 : (c == 34 || c == 92) = true
  · have e : q1 c = [92, c] := by simp only [q1, h1, if_true]
    have hm : meant (92 :: c :: X) = some (c, 1) := by simp only [meant, h1, beq_self_eq_true, if_true]
    rw [e]
    simp only [List.cons_append, List.nil_append, strB, show ((92 : UInt8) == 34) = false from rfl, Bool.false_eq_true, if_false, hm]
    cases strB 0 X <;> simp
  · have h1' : (c == 34 || c == 92) = false := by simpa using h1
    obtain ⟨a1, a2⟩ : (c == 34) = false ∧ (c == 92) = false := by simpa only [Bool.or_eq_false_iff] using h1'
    by_cases h2 : (c == 10) = true
    · have e : q1 c = [92, 110] := by simp only [q1, h1', h2, if_true, Bool.false_eq_true, if_false]
      have hc : c = 10 := by simpa using h2
      have hm : meant (92 :: 110 :: X) = some (10, 1) := rfl
      rw [e, hc]
      simp only [List.cons_append, List.nil_append, strB, show ((92 : UInt8) == 34) = false from rfl, Bool.false_eq_true, if_false, hm]
      cases strB 0 X <;> simp
    · have h2' : (c == 10) = false := by simpa using h2
      by_cases h3 : isPlain c = true
      · have e : q1 c = [c] := by simp only [q1, h1', h2', h3, if_true, Bool.false_eq_true, if_false]
        have hm : meant (c :: X) = some (c, 0) := by simp only [meant, a2, h3, Bool.true_or, Bool.false_eq_true, if_false, if_true]
        rw [e]
        simp only [List.cons_append, List.nil_append, strB, a1, Bool.false_eq_true, if_false, hm]
        cases strB 0 X <;> simp
      · have h3' : isPlain c = false := by simpa using h3
        have e : q1 c = [92, 120, hexd (c.toNat / 16), hexd (c.toNat % 16)] := by simp only [q1, h1', h2', h3', Bool.false_eq_true, if_false]
        have x1 := (hexd_ok ⟨c.toNat / 16, by omega⟩).1
        have x2 := (hexd_ok ⟨c.toNat % 16, by omega⟩).1
        simp only at x1 x2
        have hb : UInt8.ofNat (16 * (c.toNat / 16) + c.toNat % 16) = c := by
          rw [show 16 * (c.toNat / 16) + c.toNat % 16 = c.toNat by omega]; simp
        have hm : meant (92 :: 120 :: hexd (c.toNat / 16) :: hexd (c.toNat % 16) :: X) = some (c, 3) := by
          have : meant (92 :: 120 :: hexd (c.toNat / 16) :: hexd (c.toNat % 16) :: X) = match hexv (hexd (c.toNat / 16)), hexv (hexd (c.toNat % 16)) with | some a, some b => some (UInt8.ofNat (16 * a + b), 3) | _, _ => none := rfl
          rw [this, x1, x2]
          simp only [hb]
        rw [e]
        simp only [List.cons_append, List.nil_append, strB, show ((92 : UInt8) == 34) = false from rfl, Bool.false_eq_true, if_false, hm]
        cases strB 0 X <;> simp
theorem str_quote (d : List UInt8) : ∀ s : List UInt8, strB 0 (s.flatMap q1 ++ 34 :: d) = some (s, (s.flatMap q1).length + 1)
  | [] => rfl
  | c :: r => by
    have ih := str_quote d r
    rw [List.flatMap_cons, List.append_assoc, str_q1, ih]
    simp; omega
theorem quote_inj {s t : List UInt8} (h : quote s = quote t) : s = t := by
  have h1 := str_quote [] s
  have h2 := str_quote [] t
  simp only [quote, List.cons.injEq, true_and] at h
  rw [h, h2] at h1
  simp only [Option.some.injEq, Prod.mk.injEq] at h1
  exact h1.1.symm
theorem q1_bytes (c : UInt8) : ∀ b ∈ q1 c, 32 ≤ b.toNat ∧ b.toNat ≤ 126 := by
  have hlt := c.toNat_lt
  intro b hb
  unfold q1 at hb
  split at hb
  · rename_i h1
    have : c = 34 ∨ c = 92 := by simpa using h1
    rcases this with rfl | rfl <;> simp at hb <;> rcases hb with rfl | rfl <;> decide
  · split at hb
    · simp at hb; rcases hb with rfl | rfl <;> decide
    · split at hb
      · rename_i h3
        simp at hb; subst hb
        simpa [isPlain] using h3
      · have x1 := (hexd_ok ⟨c.toNat / 16, by omega⟩).2
        have x2 := (hexd_ok ⟨c.toNat % 16, by omega⟩).2
        simp only at x1 x2
        simp only [List.mem_cons, List.not_mem_nil, or_false] at hb
        rcases hb with rfl | rfl | rfl | rfl
        · decide
        · decide
        · exact x1
        · exact x2
theorem quote_bytes (s : List UInt8) : ∀ b ∈ quote s, 32 ≤ b.toNat ∧ b.toNat ≤ 126 := by
  intro b hb
  simp only [quote, List.mem_cons, List.mem_append, List.mem_flatMap, List.not_mem_nil, or_false] at hb
  rcases hb with rfl | ⟨c, _, hc⟩ | rfl
  · decide
  · exact q1_bytes c b hc
  · decide

/-! ### What is quoted, and a number's text behind it -/

theorem lex_back (s : List UInt8) (n : Int) (h0 : -9223372036854775808 ≤ n) (h1 : n ≤ 9223372036854775807) :
    lex Lib.itoa 0 0 (quote s ++ Lib.itoa n) = ([⟨2, s, 0, 0⟩, ⟨1, Lib.itoa n, n, (quote s).length⟩], none) := by
  have hq : quote s ++ Lib.itoa n = 34 :: (s.flatMap q1 ++ 34 :: Lib.itoa n) := by simp [quote]
  have hl : (quote s).length = (s.flatMap q1).length + 2 := by simp [quote]
  have ht : tk Lib.itoa (34 :: (s.flatMap q1 ++ 34 :: Lib.itoa n)) = some ⟨2, s, 0, (s.flatMap q1).length + 1⟩ := by
    simp only [tk, show isFirst 34 = false from rfl, show (isDigit 34 || (34 : UInt8) == 45) = false from rfl, Bool.false_eq_true, if_false, beq_self_eq_true, if_true, str_quote]
    rfl
  have hw : ws false (34 :: (s.flatMap q1 ++ 34 :: Lib.itoa n)) = 0 := by
    simp only [ws, show isBlank 34 = false from rfl, show ((34 : UInt8) == 47) = false from rfl, Bool.false_and, Bool.false_eq_true, if_false]
  have hdrop : (34 :: (s.flatMap q1 ++ 34 :: Lib.itoa n)).drop ((s.flatMap q1).length + 1 + 1) = Lib.itoa n := by
    rw [List.drop_succ_cons, List.drop_append, List.drop_of_length_le (by omega), show (s.flatMap q1).length + 1 - (s.flatMap q1).length = 1 by omega]
    rfl
  rw [hq, lex_some hw ht, hdrop]
  obtain ⟨c, r, hc, hcc, hr⟩ : ∃ c r, Lib.itoa n = c :: r ∧ (c = 45 ∨ isDigit c = true) ∧ ∀ d ∈ r, isDigit d = true := by
    by_cases hn : n < 0
    · exact ⟨45, _, itoa_neg n hn, .inl rfl, dec_digits _⟩
    · rw [itoa_nonneg n (by omega)]
      have hd := dec_digits n.toNat
      cases hdd : Lib.decDigits n.toNat with
      | nil => exact absurd hdd (dec_ne _)
      | cons c r =>
        rw [hdd] at hd
        exact ⟨c, r, rfl, .inr (hd c (by simp)), fun d h => hd d (by simp [h])⟩
  have hsp := span_whole isDigit r hr
  have hf : isFirst c = false := by
    rcases hcc with rfl | hcc
    · rfl
    · simp only [isDigit, Bool.and_eq_true, decide_eq_true_eq] at hcc
      have : c ≠ 95 := by intro e; subst e; simp at hcc
      have h95 : (c == 95) = false := by simpa using this
      simp only [isFirst, h95, Bool.or_false, Bool.or_eq_false_iff, Bool.and_eq_false_iff, decide_eq_false_iff_not]
      omega
  have hdg : (isDigit c || c == 45) = true := by rcases hcc with rfl | hcc <;> simp [*]
  have hw2 : ws false (c :: r) = 0 := by
    have hb : isBlank c = false := by
      rcases hcc with rfl | hcc
      · rfl
      · simp only [isDigit, Bool.and_eq_true, decide_eq_true_eq] at hcc
        simp only [isBlank, Bool.or_eq_false_iff, beq_eq_false_iff_ne]
        refine ⟨⟨⟨?_, ?_⟩, ?_⟩, ?_⟩ <;> (intro e; subst e; simp at hcc)
    have h47 : (c == 47) = false := by
      rcases hcc with rfl | hcc
      · rfl
      · simp only [isDigit, Bool.and_eq_true, decide_eq_true_eq] at hcc
        rw [beq_eq_false_iff_ne]; intro e; subst e; simp at hcc
    simp only [ws, hb, h47, Bool.false_and, Bool.false_eq_true, if_false]
  have ht2 : tk Lib.itoa (c :: r) = some ⟨1, c :: r, n, r.length⟩ := by
    have hnum := numOf_itoa h0 h1
    rw [hc] at hnum
    simp only [tk, hf, hdg, hsp, List.take_length, hnum, Bool.false_eq_true, if_false, if_true]
    rfl
  rw [hc, lex_some hw2 ht2]
  simp [lex, hl]
end Go.Proofs.YtceomdbahiimlaaDoor
/-
  What tokens are: each means itself, alone; what is parsed may be; where its nodes begin.
-/
namespace Go.Proofs.YtceomdbahiimlaaDoor.T14
set_option maxRecDepth 100000

theorem ws_hd {c : UInt8} (h1 : isBlank c = false) (h2 : c ≠ 47) (r : List UInt8) : ws false (c :: r) = 0 := by
  have h3 : (c == 47) = false := by simpa using h2
  simp [ws, h1, h3]
theorem first_hd {c : UInt8} (h : isFirst c = true) : isBlank c = false ∧ c ≠ 47 := by
  simp only [isFirst, Bool.or_eq_true, Bool.and_eq_true, decide_eq_true_eq, beq_iff_eq] at h
  constructor
  · simp only [isBlank, Bool.or_eq_false_iff, beq_eq_false_iff_ne]
    refine ⟨⟨⟨?_, ?_⟩, ?_⟩, ?_⟩ <;> (rintro rfl; simp at h)
  · rintro rfl; simp at h
theorem num_hd {c : UInt8} (h : (isDigit c || c == 45) = true) : isBlank c = false ∧ c ≠ 47 ∧ isFirst c = false := by
  have h : c = 45 ∨ isDigit c = true := by simp only [Bool.or_eq_true, beq_iff_eq] at h; exact h.symm
  rcases h with rfl | h
  · decide
  · simp only [isDigit, Bool.and_eq_true, decide_eq_true_eq] at h
    refine ⟨?_, ?_, ?_⟩
    · simp only [isBlank, Bool.or_eq_false_iff, beq_eq_false_iff_ne]
      refine ⟨⟨⟨?_, ?_⟩, ?_⟩, ?_⟩ <;> (rintro rfl; simp at h)
    · rintro rfl; simp at h
    · have h95 : (c == 95) = false := by
        rw [beq_eq_false_iff_ne]; rintro rfl; simp at h
      simp only [isFirst, h95, Bool.or_false, Bool.or_eq_false_iff, Bool.and_eq_false_iff, decide_eq_false_iff_not]
      omega
theorem sign_hd {c : UInt8} (h : isSign c = true) : isBlank c = false ∧ c ≠ 47 ∧ isFirst c = false ∧ (isDigit c || c == 45) = false ∧ (c == 34) = false ∧ isNext c = false ∧ isDigit c = false := by
  simp only [isSign, List.contains_eq_mem, List.mem_cons, List.not_mem_nil, or_false, decide_eq_true_eq] at h
  rcases h with rfl | rfl | rfl | rfl | rfl | rfl | rfl | rfl | rfl | rfl | rfl | rfl <;> decide

section

variable {it : Int → List UInt8}

/-- What begins with what is a token up to its end, and no further. -/
def Stop (l : List UInt8) : Prop := ∀ c r, l = c :: r → isNext c = false
theorem next_digit {c : UInt8} (h : isNext c = false) : isDigit c = false := by
  simp only [isNext, Bool.or_eq_false_iff] at h
  exact h.2
theorem span_stop {f : UInt8 → Bool} {l : List UInt8} (hl : ∀ c r, l = c :: r → f c = false) (y : List UInt8) (hy : ∀ c ∈ y, f c = true) : span f (y ++ l) = y.length := by
  cases l with
  | nil => rw [List.append_nil, span_whole f y hy]
  | cons c r => rw [span_app f c (hl c r rfl), span_whole f y hy]
/-- A name's or a number's token, wherever it stands. -/
theorem tk_self {L : List UInt8} {t : Tk} (h : tk it L = some t) (hk : t.kind = 0 ∨ t.kind = 1) {l : List UInt8} (hl : Stop l) :
    ws false (t.text ++ l) = 0 ∧ tk it (t.text ++ l) = some t ∧ t.more + 1 = t.text.length := by
  cases L with
  | nil => simp [tk] at h
  | cons c r =>
    simp only [tk] at h
    by_cases h1 : isFirst c = true
    · rw [if_pos h1] at h
      injection h with h
      subst h
      obtain ⟨a1, a2⟩ := first_hd h1
      have hs := span_stop (f := isNext) (fun c r e => hl c r e) (r.take (span isNext r)) (span_all isNext r)
      refine ⟨ws_hd a1 a2 _, ?_, ?_⟩
      · show tk it (c :: (r.take (span isNext r) ++ l)) = _
        have e1 : (r.take (span isNext r) ++ l).take (r.take (span isNext r)).length = r.take (span isNext r) := List.take_left
        simp only [tk, h1, if_true]
        rw [hs, e1]
        simp [List.length_take, Nat.min_eq_left (span_le isNext r)]
      · simp [List.length_take, Nat.min_eq_left (span_le isNext r)]
    · rw [if_neg h1] at h
      by_cases h2 : (isDigit c || c == 45) = true
      · rw [if_pos h2] at h
        simp only [Option.map_eq_some_iff] at h
        obtain ⟨n, hn, rfl⟩ := h
        obtain ⟨a1, a2, a3⟩ := num_hd h2
        have hs := span_stop (f := isDigit) (fun c r e => next_digit (hl c r e)) (r.take (span isDigit r)) (span_all isDigit r)
        have e1 : (r.take (span isDigit r) ++ l).take (r.take (span isDigit r)).length = r.take (span isDigit r) := List.take_left
        refine ⟨ws_hd a1 a2 _, ?_, ?_⟩
        · show tk it (c :: (r.take (span isDigit r) ++ l)) = _
          simp only [tk, h1, h2, if_true]
          rw [hs, e1, hn]
          simp [List.length_take, Nat.min_eq_left (span_le isDigit r)]
        · simp [List.length_take, Nat.min_eq_left (span_le isDigit r)]
      · rw [if_neg h2] at h
        by_cases h3 : (c == 34) = true
        · rw [if_pos h3] at h
          simp only [Option.map_eq_some_iff] at h
          obtain ⟨x, _, rfl⟩ := h
          simp at hk
        · rw [if_neg h3] at h
          split at h
          · injection h with h
            subst h
            simp at hk
          · cases h
/-- What a token of a text is. -/
def TG (it : Int → List UInt8) (t : T) : Prop :=
  t.kind < 4 ∧ (t.kind = 0 ∨ t.kind = 1 → t.text.length ≤ 5000 ∧ ∃ m, m + 1 = t.text.length ∧ ∀ l, Stop l → ws false (t.text ++ l) = 0 ∧ tk it (t.text ++ l) = some ⟨t.kind, t.text, t.num, m⟩) ∧ (t.kind = 2 ∨ t.kind = 3 → t.num = 0)
theorem tk_tg {L : List UInt8} {t : Tk} (h : tk it L = some t) (hL : L.length ≤ 5000) (p : Nat) : TG it ⟨t.kind, t.text, t.num, p⟩ := by
  refine ⟨(tk_good h p).kind, fun hk => ⟨?_, t.more, ?_, fun l hl => ?_⟩, fun hk => ?_⟩
  · have h1 := tk_more h
    have h2 := (tk_self h hk (l := []) (fun c r e => by cases e)).2.2
    show t.text.length ≤ 5000
    omega
  · exact (tk_self h hk (l := []) (fun c r e => by cases e)).2.2
  · exact ⟨(tk_self h hk hl).1, (tk_self h hk hl).2.1⟩
  · cases L with
    | nil => simp [tk] at h
    | cons c r =>
      simp only [tk] at h
      by_cases h1 : isFirst c = true
      · rw [if_pos h1] at h
        injection h with h
        subst h
        rfl
      · rw [if_neg h1] at h
        by_cases h2 : (isDigit c || c == 45) = true
        · rw [if_pos h2] at h
          simp only [Option.map_eq_some_iff] at h
          obtain ⟨n, hn, rfl⟩ := h
          simp at hk
        · rw [if_neg h2] at h
          by_cases h3 : (c == 34) = true
          · rw [if_pos h3] at h
            simp only [Option.map_eq_some_iff] at h
            obtain ⟨x, _, rfl⟩ := h
            rfl
          · rw [if_neg h3] at h
            split at h
            · injection h with h
              subst h
              rfl
            · cases h
theorem lex_tg : ∀ (l : List UInt8) (k p : Nat), l.length ≤ 5000 → ∀ t ∈ (lex it k p l).1, TG it t
  | [], k, p, _, t, h => by cases k <;> simp [lex] at h
  | c :: r, k + 1, p, hl, t, h => by
    simp only [lex] at h
    exact lex_tg r k (p + 1) (by simp at hl; omega) t h
  | c :: r, 0, p, hl, t, h => by
    have hl' : r.length ≤ 5000 := by simp at hl; omega
    simp only [lex] at h
    split at h
    · exact lex_tg r _ (p + 1) hl' t h
    · split at h
      · simp at h
      · rename_i x hx
        rcases List.mem_cons.1 h with rfl | h
        · exact tk_tg hx hl p
        · exact lex_tg r x.more (p + 1) hl' t h
theorem allT_lex {L : List UInt8} {t : T} (h : t ∈ allT it L) : L.length ≤ 5000 ∧ t ∈ (lex it 0 0 L).1 := by
  unfold allT at h
  split at h
  · cases h
  · unfold ansT at h
    split at h
    · cases h
    · split at h
      · cases h
      · exact ⟨by omega, h⟩
theorem all_tg {L : List UInt8} {t : T} (h : t ∈ allT it L) : TG it t := lex_tg L 0 0 (allT_lex h).1 t (allT_lex h).2
/-- A name's or a number's text is just that token. -/
theorem tg_self {t : T} (h : TG it t) (hk : t.kind = 0 ∨ t.kind = 1) : allT it t.text = [⟨t.kind, t.text, t.num, 0⟩] := by
  obtain ⟨h1, m, hm, h2⟩ := h.2.1 hk
  obtain ⟨h3, h4⟩ := h2 [] (fun c r e => by cases e)
  rw [List.append_nil] at h3 h4
  have e : lex it 0 0 t.text = ([⟨t.kind, t.text, t.num, 0⟩], none) := by
    rw [lex_some h3 h4]
    simp only
    rw [hm, List.drop_length]
    simp [lex]
  unfold allT ansT
  rw [if_neg (by omega), e]
  simp
theorem leaf_fit {t : T} (h : TG it t) (hs : t.kind ≠ 3 ∨ t.text = [46]) (i : Nat) : fitB it (leaf t) i = true := by
  have hk := h.1
  have hi : ((t.kind : Nat) : Int) ≠ 4 := by omega
  unfold fitB
  rw [if_neg (show ¬ (leaf t).kind = 4 from hi)]
  unfold leafB
  rw [show (leaf t).l.isEmpty = true from rfl, Bool.true_and]
  by_cases h01 : t.kind = 0 ∨ t.kind = 1
  · rw [if_pos (show (leaf t).kind = 0 ∨ (leaf t).kind = 1 from by show (t.kind : Int) = 0 ∨ (t.kind : Int) = 1; omega)]
    unfold tokB
    rw [show (leaf t).text = t.text from rfl, tg_self h h01]
    simp [leaf, Nd.kind, Nd.num]
  · rw [if_neg (show ¬ ((leaf t).kind = 0 ∨ (leaf t).kind = 1) from by show ¬ ((t.kind : Int) = 0 ∨ (t.kind : Int) = 1); omega)]
    have hn := h.2.2 (by omega)
    by_cases h2 : t.kind = 2
    · rw [if_pos (show (leaf t).kind = 2 from by show (t.kind : Int) = 2; omega)]
      exact decide_eq_true hn
    · rw [if_neg (show ¬ (leaf t).kind = 2 from by show ¬ (t.kind : Int) = 2; omega), if_pos (show (leaf t).kind = 3 from by show (t.kind : Int) = 3; omega)]
      have h3 : t.text = [46] := hs.resolve_left (by omega)
      rw [show (leaf t).text = t.text from rfl, show (leaf t).num = t.num from rfl, h3, hn]
      rfl

/-! ### What is parsed may be -/

def FitN (it : Int → List UInt8) (x : Nd) (i : Nat) : Prop := ∀ y ∈ x.pre i, fitB it y.1 y.2 = true
theorem may_iff {x : Nd} : mayB it x = true ↔ FitN it x 0 := by unfold mayB FitN; rw [List.all_eq_true]
theorem FitN.intro {x : Nd} {i : Nat} (h : fitB it x i = true) (hl : ∀ y ∈ x.l, FitN it y (i + 1)) : FitN it x i := by
  intro y hy
  rw [Nd.pre_eq] at hy
  rcases List.mem_cons.1 hy with rfl | hy
  · exact h
  · obtain ⟨s, hs, hy⟩ := List.mem_flatten.1 hy
    obtain ⟨z, hz, rfl⟩ := List.mem_map.1 hs
    exact hl z hz y hy
theorem FitN.head {x : Nd} {i : Nat} (h : FitN it x i) : fitB it x i = true := h (x, i) (by rw [Nd.pre_eq]; exact List.mem_cons_self ..)
theorem FitN.below {x : Nd} {i : Nat} (h : FitN it x i) {y : Nd} (hy : y ∈ x.l) : FitN it y (i + 1) := fun z hz => h z (by
  rw [Nd.pre_eq]
  exact List.mem_cons_of_mem _ (List.mem_flatten.2 ⟨_, List.mem_map.2 ⟨y, hy, rfl⟩, hz⟩))
def OkO (it : Int → List UInt8) : List Nd → Prop
  | [] => True
  | q :: r => (q.kind = 4 ∧ q.text = [] ∧ q.num = 0 ∧ r.length < 16 ∧ ∀ y ∈ q.l, FitN it y (r.length + 1)) ∧ OkO it r
def OkP (it : Int → List UInt8) (p : Ps) : Prop := OkO it p.o ∧ ∀ x, p.w = some x → FitN it x 0 ∧ p.o = []
theorem put_ok {o : List Nd} {n : Nd} (ho : OkO it o) (hn : FitN it n o.length) : OkP it (putP o n) := by
  cases o with
  | nil => exact ⟨trivial, fun x e => by cases e; exact ⟨hn, rfl⟩⟩
  | cons q r =>
    obtain ⟨⟨h1, h2, h3, h4, h5⟩, h6⟩ := ho
    refine ⟨⟨⟨h1, h2, h3, h4, fun y hy => ?_⟩, h6⟩, fun x e => by cases e⟩
    rcases List.mem_append.1 (show y ∈ q.l ++ [n] from hy) with hy | hy
    · exact h5 y hy
    · obtain rfl := List.mem_singleton.1 hy
      exact hn
theorem step_ok {t : T} {p q : Ps} (ht : TG it t) (hp : OkP it p) (h : stepP t p = .ok q) : OkP it q := by
  unfold stepP at h
  split at h
  · cases h
  · split at h
    · rename_i hs
      injection h with h
      subst h
      exact put_ok hp.1 (FitN.intro (leaf_fit ht hs _) (fun y hy => by cases hy))
    · split at h
      · split at h
        · cases h
        · rename_i hw _ _ hlen
          injection h with h
          subst h
          have hlt : p.o.length < 16 := by
            have : ∀ o : List Nd, OkO it o → o.length ≤ 16 := by
              intro o ho
              cases o with
              | nil => simp
              | cons q r => have := ho.1.2.2.2.1; simp; omega
            have := this _ hp.1
            omega
          exact ⟨⟨⟨rfl, rfl, rfl, hlt, fun y hy => by cases hy⟩, hp.1⟩, fun x e => by cases e⟩
      · split at h
        · split at h
          · cases h
          · rename_i q r ho
            injection h with h
            subst h
            have h0 := hp.1
            rw [ho] at h0
            obtain ⟨⟨h1, h2, h3, h4, h5⟩, h6⟩ := h0
            exact put_ok h6 (FitN.intro (by unfold fitB; rw [if_pos h1, h2, h3]; simp [h4]) h5)
        · cases h
theorem run_ok : ∀ (l : List T) (p q : Ps), (∀ t ∈ l, TG it t) → OkP it p → runP l p = .ok q → OkP it q
  | [], p, q, _, hp, h => by
    injection h with h
    subst h
    exact hp
  | t :: l, p, q, ht, hp, h => by
    unfold runP at h
    split at h
    · cases h
    · rename_i q' hq
      exact run_ok l q' q (fun t h => ht t (List.mem_cons_of_mem _ h)) (step_ok (ht t (List.mem_cons_self ..)) hp hq) h
theorem step_err {t : T} {p : Ps} {e : Nat} (he : stepP t p = .error e) : e = 2 ∨ e = 4 := by
  unfold stepP at he
  split at he
  · injection he with he; omega
  · split at he
    · cases he
    · split at he
      · split at he
        · injection he with he; omega
        · cases he
      · split at he
        · split at he
          · injection he with he; omega
          · cases he
        · injection he with he; omega
theorem run_err : ∀ (l : List T) (p : Ps) (e a : Nat), runP l p = .error (e, a) → e ≠ 0
  | [], p, e, a, h => by cases h
  | t :: l, p, e, a, h => by
    unfold runP at h
    split at h
    · rename_i e' he
      injection h with h
      injection h with h1 h2
      subst h1
      rcases step_err he with h | h <;> omega
    · exact run_err l _ _ _ h
theorem run_at : ∀ (l : List T) (p : Ps) (e a : Nat), runP l p = .error (e, a) → ∃ t ∈ l, t.at_ = a
  | [], p, e, a, h => by cases h
  | t :: l, p, e, a, h => by
    unfold runP at h
    split at h
    · rename_i e' he
      injection h with h
      injection h with h1 h2
      exact ⟨t, List.mem_cons_self .., h2⟩
    · obtain ⟨u, hu, h2⟩ := run_at l _ _ _ h
      exact ⟨u, List.mem_cons_of_mem _ hu, h2⟩
theorem par_may {L : List UInt8} (h : (parR it L).2.2 = 0) : mayB it (parR it L).1 = true := by
  unfold parR at h ⊢
  split at h
  · rename_i h0; exact absurd h h0
  · rename_i h0
    rw [if_neg h0]
    unfold endP at h ⊢
    split at h
    · rename_i e a hr
      exact absurd h (run_err _ _ _ _ hr)
    · rename_i p hp
      split at h
      · rename_i x hx
        simp only [hp, hx]
        exact may_iff.2 ((run_ok (allT it L) ⟨[], none⟩ p (fun t ht => all_tg ht) ⟨trivial, fun x e => by cases e⟩ hp).2 x hx).1
      · cases h

/-! ### Where its nodes begin -/

def Asc (x : Nd) (m : Int) : Prop := 0 ≤ x.at_ ∧ x.at_ ≤ m ∧ x.l.Pairwise (fun a b => a.at_ < b.at_) ∧ ∀ y ∈ x.l, x.at_ < y.at_ ∧ y.at_ ≤ m
def AO : List Nd → Int → Prop
  | [], _ => True
  | q :: r, m => Asc q m ∧ AO r (q.at_ - 1)
def AP (p : Ps) (m : Int) : Prop := AO p.o m ∧ ∀ x, p.w = some x → Asc x m
theorem Asc.mono {x : Nd} {m m' : Int} (h : Asc x m) (hm : m ≤ m') : Asc x m' := ⟨h.1, by have := h.2.1; omega, h.2.2.1, fun y hy => ⟨(h.2.2.2 y hy).1, by have := (h.2.2.2 y hy).2; omega⟩⟩
theorem AO.mono {o : List Nd} {m m' : Int} (h : AO o m) (hm : m ≤ m') : AO o m' := by
  cases o with
  | nil => trivial
  | cons q r => exact ⟨h.1.mono hm, h.2⟩
theorem put_asc {o : List Nd} {n : Nd} {m : Int} (ho : AO o (n.at_ - 1)) (hn : Asc n m) : AP (putP o n) m := by
  cases o with
  | nil => exact ⟨trivial, fun x e => by cases e; exact hn⟩
  | cons q r =>
    obtain ⟨⟨h1, h2, h3, h4⟩, h5⟩ := ho
    have hm := hn.2.1
    refine ⟨⟨⟨h1, (by show q.at_ ≤ m; omega), ?_, ?_⟩, h5⟩, fun x e => by cases e⟩
    · show (q.l ++ [n]).Pairwise _
      refine List.pairwise_append.2 ⟨h3, List.pairwise_singleton _ _, fun a ha b hb => ?_⟩
      obtain rfl := List.mem_singleton.1 hb
      have := (h4 a ha).2
      omega
    · intro y hy
      show q.at_ < y.at_ ∧ _
      rcases List.mem_append.1 (show y ∈ q.l ++ [n] from hy) with hy | hy
      · have := h4 y hy; omega
      · obtain rfl := List.mem_singleton.1 hy
        omega
theorem step_asc {t : T} {p q : Ps} {m : Int} (hp : AP p m) (hm : m < t.at_) (h : stepP t p = .ok q) : AP q t.at_ := by
  have hl : Asc (leaf t) t.at_ := ⟨by show (0 : Int) ≤ (t.at_ : Int); omega, by show (t.at_ : Int) ≤ t.at_; omega, List.Pairwise.nil, fun y hy => by cases hy⟩
  unfold stepP at h
  split at h
  · cases h
  · split at h
    · injection h with h
      subst h
      exact put_asc (hp.1.mono (by show m ≤ (t.at_ : Int) - 1; omega)) hl
    · split at h
      · split at h
        · cases h
        · injection h with h
          subst h
          exact ⟨⟨⟨by show (0 : Int) ≤ (t.at_ : Int); omega, by show (t.at_ : Int) ≤ t.at_; omega, List.Pairwise.nil, fun y hy => by cases hy⟩, hp.1.mono (by show m ≤ (t.at_ : Int) - 1; omega)⟩, fun x e => by cases e⟩
      · split at h
        · split at h
          · cases h
          · rename_i q r ho
            injection h with h
            subst h
            have h0 := hp.1
            rw [ho] at h0
            exact put_asc h0.2 (h0.1.mono (by omega))
        · cases h
theorem run_asc : ∀ (l : List T) (p q : Ps) (m N : Int), l.Pairwise (fun a b => a.at_ < b.at_) → (∀ t ∈ l, m < (t.at_ : Int) ∧ (t.at_ : Int) ≤ N) → m ≤ N → AP p m → runP l p = .ok q → AP q N
  | [], p, q, m, N, _, _, hN, hp, h => by
    injection h with h
    subst h
    exact ⟨hp.1.mono hN, fun x e => (hp.2 x e).mono hN⟩
  | t :: l, p, q, m, N, hr, ht, hN, hp, h => by
    unfold runP at h
    obtain ⟨h1, h2⟩ := ht t (List.mem_cons_self ..)
    rw [List.pairwise_cons] at hr
    split at h
    · cases h
    · rename_i q' hq
      exact run_asc l q' q t.at_ N hr.2 (fun u hu => ⟨by have := hr.1 u hu; omega, (ht u (List.mem_cons_of_mem _ hu)).2⟩) h2 (step_asc hp h1 hq) h
theorem par_places {L : List UInt8} (h : (parR it L).2.2 = 0) : Asc (parR it L).1 ((L.length : Int) - 1) ∧ (parR it L).2.1 = L.length := by
  unfold parR at h ⊢
  split at h
  · rename_i h0; exact absurd h h0
  · rename_i h0
    rw [if_neg h0]
    unfold endP at h ⊢
    split at h
    · rename_i e a hr
      exact absurd h (run_err _ _ _ _ hr)
    · rename_i p hp
      split at h
      · rename_i x hx
        simp only [hp, hx]
        refine ⟨?_, trivial⟩
        have hlen : 0 < L.length := by
          rcases Nat.eq_zero_or_pos L.length with h1 | h1
          · have : L = [] := List.eq_nil_of_length_eq_zero h1
            subst this
            have : allT it [] = [] := by simp [allT, lex, ansT]
            rw [this] at hp
            injection hp with hp
            subst hp
            cases hx
          · exact h1
        refine (run_asc (allT it L) ⟨[], none⟩ p (-1) ((L.length : Int) - 1) ?_ (fun t ht => ?_) (by omega) ⟨trivial, fun x e => by cases e⟩ hp).2 x hx
        · unfold allT
          split
          · exact List.Pairwise.nil
          · unfold ansT
            split
            · exact List.Pairwise.nil
            · split
              · exact List.Pairwise.nil
              · exact lex_rise L 0 0
        · have := lex_good L 0 0 t (allT_lex ht).2
          omega
      · cases h
theorem par_err {L : List UInt8} (h : (parR it L).2.2 ≠ 0) : (parR it L).1 = Nd.zero ∧ (parR it L).2.1 ≤ L.length := by
  unfold parR at h ⊢
  split at h
  · rename_i h0
    rw [if_pos h0]
    refine ⟨rfl, ?_⟩
    rcases all_cases (it := it) L with ⟨h1, _⟩ | ⟨_, h2, _⟩
    · exact absurd h1 h0
    · exact Nat.le_of_lt h2
  · rename_i h0
    rw [if_neg h0]
    unfold endP at h ⊢
    split at h
    · rename_i e a hr
      simp only [hr]
      refine ⟨trivial, ?_⟩
      obtain ⟨t, ht, rfl⟩ := run_at _ _ _ _ hr
      have := lex_good L 0 0 t (allT_lex ht).2
      show t.at_ ≤ _
      omega
    · rename_i p hp
      split at h
      · exact absurd rfl h
      · rename_i hx
        simp only [hp, hx]
        exact ⟨trivial, Nat.le_refl _⟩
end

end Go.Proofs.YtceomdbahiimlaaDoor.T14
