/-
  What follows of tokens: what is quoted is read again; blanks; places.
-/
import Derived.Test.YtceomdbahiimlaaDoorTokNum
namespace Go.Proofs.YtceomdbahiimlaaDoor
set_option maxRecDepth 100000

theorem hexd_ok : ∀ k : Fin 16, hexv (hexd k.val) = some k.val ∧ 32 ≤ (hexd k.val).toNat ∧ (hexd k.val).toNat ≤ 126 := by decide +kernel
theorem str_q1 (c : UInt8) (X : List UInt8) : strB 0 (q1 c ++ X) = (strB 0 X).map fun y => (c :: y.1, y.2 + (q1 c).length) := by
  have hlt := c.toNat_lt
  by_cases h1 : (c == 34 || c == 92) = true
  · have e : q1 c = [92, c] := by simp only [q1, h1, if_true]
    have hm : meant (92 :: c :: X) = some (c, 1) := by simp only [meant, h1, beq_self_eq_true, if_true]
    rw [e]
    simp only [List.cons_append, List.nil_append, strB, show ((92 : UInt8) == 34) = false from rfl, Bool.false_eq_true, if_false, hm]
    cases strB 0 X <;> simp
  · have h1' : (c == 34 || c == 92) = false := by simpa using h1
    obtain ⟨a1, a2⟩ : (c == 34) = false ∧ (c == 92) = false := by simpa only [Bool.or_eq_false_iff] using h1'
    by_cases h2 : (c == 10) = true
    · have e : q1 c = [92, 110] := by simp only [q1, h1', h2, if_true, Bool.false_eq_true, if_false]
      have hc : c = 10 := by simpa using h2
      have hm : meant (92 :: 110 :: X) = some (10, 1) := rfl
      rw [e, hc]
      simp only [List.cons_append, List.nil_append, strB, show ((92 : UInt8) == 34) = false from rfl, Bool.false_eq_true, if_false, hm]
      cases strB 0 X <;> simp
    · have h2' : (c == 10) = false := by simpa using h2
      by_cases h3 : isPlain c = true
      · have e : q1 c = [c] := by simp only [q1, h1', h2', h3, if_true, Bool.false_eq_true, if_false]
        have hm : meant (c :: X) = some (c, 0) := by simp only [meant, a2, h3, Bool.true_or, Bool.false_eq_true, if_false, if_true]
        rw [e]
        simp only [List.cons_append, List.nil_append, strB, a1, Bool.false_eq_true, if_false, hm]
        cases strB 0 X <;> simp
      · have h3' : isPlain c = false := by simpa using h3
        have e : q1 c = [92, 120, hexd (c.toNat / 16), hexd (c.toNat % 16)] := by simp only [q1, h1', h2', h3', Bool.false_eq_true, if_false]
        have x1 := (hexd_ok ⟨c.toNat / 16, by omega⟩).1
        have x2 := (hexd_ok ⟨c.toNat % 16, by omega⟩).1
        simp only at x1 x2
        have hb : UInt8.ofNat (16 * (c.toNat / 16) + c.toNat % 16) = c := by
          rw [show 16 * (c.toNat / 16) + c.toNat % 16 = c.toNat by omega]; simp
        have hm : meant (92 :: 120 :: hexd (c.toNat / 16) :: hexd (c.toNat % 16) :: X) = some (c, 3) := by
          have : meant (92 :: 120 :: hexd (c.toNat / 16) :: hexd (c.toNat % 16) :: X) = match hexv (hexd (c.toNat / 16)), hexv (hexd (c.toNat % 16)) with | some a, some b => some (UInt8.ofNat (16 * a + b), 3) | _, _ => none := rfl
          rw [this, x1, x2]
          simp only [hb]
        rw [e]
        simp only [List.cons_append, List.nil_append, strB, show ((92 : UInt8) == 34) = false from rfl, Bool.false_eq_true, if_false, hm]
        cases strB 0 X <;> simp
theorem str_quote (d : List UInt8) : ∀ s : List UInt8, strB 0 (s.flatMap q1 ++ 34 :: d) = some (s, (s.flatMap q1).length + 1)
  | [] => rfl
  | c :: r => by
    have ih := str_quote d r
    rw [List.flatMap_cons, List.append_assoc, str_q1, ih]
    simp; omega
theorem quote_inj {s t : List UInt8} (h : quote s = quote t) : s = t := by
  have h1 := str_quote [] s
  have h2 := str_quote [] t
  simp only [quote, List.cons.injEq, true_and] at h
  rw [h, h2] at h1
  simp only [Option.some.injEq, Prod.mk.injEq] at h1
  exact h1.1.symm
theorem q1_bytes (c : UInt8) : ∀ b ∈ q1 c, 32 ≤ b.toNat ∧ b.toNat ≤ 126 := by
  have hlt := c.toNat_lt
  intro b hb
  unfold q1 at hb
  split at hb
  · rename_i h1
    have : c = 34 ∨ c = 92 := by simpa using h1
    rcases this with rfl | rfl <;> simp at hb <;> rcases hb with rfl | rfl <;> decide
  · split at hb
    · simp at hb; rcases hb with rfl | rfl <;> decide
    · split at hb
      · rename_i h3
        simp at hb; subst hb
        simpa [isPlain] using h3
      · have x1 := (hexd_ok ⟨c.toNat / 16, by omega⟩).2
        have x2 := (hexd_ok ⟨c.toNat % 16, by omega⟩).2
        simp only at x1 x2
        simp only [List.mem_cons, List.not_mem_nil, or_false] at hb
        rcases hb with rfl | rfl | rfl | rfl
        · decide
        · decide
        · exact x1
        · exact x2
theorem quote_bytes (s : List UInt8) : ∀ b ∈ quote s, 32 ≤ b.toNat ∧ b.toNat ≤ 126 := by
  intro b hb
  simp only [quote, List.mem_cons, List.mem_append, List.mem_flatMap, List.not_mem_nil, or_false] at hb
  rcases hb with rfl | ⟨c, _, hc⟩ | rfl
  · decide
  · exact q1_bytes c b hc
  · decide

/-! ### What is quoted, and a number's text behind it -/

theorem lex_back (s : List UInt8) (n : Int) (h0 : -9223372036854775808 ≤ n) (h1 : n ≤ 9223372036854775807) :
    lex Lib.itoa 0 0 (quote s ++ Lib.itoa n) = ([⟨2, s, 0, 0⟩, ⟨1, Lib.itoa n, n, (quote s).length⟩], none) := by
  have hq : quote s ++ Lib.itoa n = 34 :: (s.flatMap q1 ++ 34 :: Lib.itoa n) := by simp [quote]
  have hl : (quote s).length = (s.flatMap q1).length + 2 := by simp [quote]
  have ht : tk Lib.itoa (34 :: (s.flatMap q1 ++ 34 :: Lib.itoa n)) = some ⟨2, s, 0, (s.flatMap q1).length + 1⟩ := by
    simp only [tk, show isFirst 34 = false from rfl, show (isDigit 34 || (34 : UInt8) == 45) = false from rfl, Bool.false_eq_true, if_false, beq_self_eq_true, if_true, str_quote]
    rfl
  have hw : ws false (34 :: (s.flatMap q1 ++ 34 :: Lib.itoa n)) = 0 := by
    simp only [ws, show isBlank 34 = false from rfl, show ((34 : UInt8) == 47) = false from rfl, Bool.false_and, Bool.false_eq_true, if_false]
  have hdrop : (34 :: (s.flatMap q1 ++ 34 :: Lib.itoa n)).drop ((s.flatMap q1).length + 1 + 1) = Lib.itoa n := by
    rw [List.drop_succ_cons, List.drop_append, List.drop_of_length_le (by omega), show (s.flatMap q1).length + 1 - (s.flatMap q1).length = 1 by omega]
    rfl
  rw [hq, lex_some hw ht, hdrop]
  obtain ⟨c, r, hc, hcc, hr⟩ : ∃ c r, Lib.itoa n = c :: r ∧ (c = 45 ∨ isDigit c = true) ∧ ∀ d ∈ r, isDigit d = true := by
    by_cases hn : n < 0
    · exact ⟨45, _, itoa_neg n hn, .inl rfl, dec_digits _⟩
    · rw [itoa_nonneg n (by omega)]
      have hd := dec_digits n.toNat
      cases hdd : Lib.decDigits n.toNat with
      | nil => exact absurd hdd (dec_ne _)
      | cons c r =>
        rw [hdd] at hd
        exact ⟨c, r, rfl, .inr (hd c (by simp)), fun d h => hd d (by simp [h])⟩
  have hsp := span_whole isDigit r hr
  have hf : isFirst c = false := by
    rcases hcc with rfl | hcc
    · rfl
    · simp only [isDigit, Bool.and_eq_true, decide_eq_true_eq] at hcc
      have : c ≠ 95 := by intro e; subst e; simp at hcc
      have h95 : (c == 95) = false := by simpa using this
      simp only [isFirst, h95, Bool.or_false, Bool.or_eq_false_iff, Bool.and_eq_false_iff, decide_eq_false_iff_not]
      omega
  have hdg : (isDigit c || c == 45) = true := by rcases hcc with rfl | hcc <;> simp [*]
  have hw2 : ws false (c :: r) = 0 := by
    have hb : isBlank c = false := by
      rcases hcc with rfl | hcc
      · rfl
      · simp only [isDigit, Bool.and_eq_true, decide_eq_true_eq] at hcc
        simp only [isBlank, Bool.or_eq_false_iff, beq_eq_false_iff_ne]
        refine ⟨⟨⟨?_, ?_⟩, ?_⟩, ?_⟩ <;> (intro e; subst e; simp at hcc)
    have h47 : (c == 47) = false := by
      rcases hcc with rfl | hcc
      · rfl
      · simp only [isDigit, Bool.and_eq_true, decide_eq_true_eq] at hcc
        rw [beq_eq_false_iff_ne]; intro e; subst e; simp at hcc
    simp only [ws, hb, h47, Bool.false_and, Bool.false_eq_true, if_false]
  have ht2 : tk Lib.itoa (c :: r) = some ⟨1, c :: r, n, r.length⟩ := by
    have hnum := numOf_itoa h0 h1
    rw [hc] at hnum
    simp only [tk, hf, hdg, hsp, List.take_length, hnum, Bool.false_eq_true, if_false, if_true]
    rfl
  rw [hc, lex_some hw2 ht2]
  simp [lex, hl]
end Go.Proofs.YtceomdbahiimlaaDoor
