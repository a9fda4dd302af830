/-
  Where tokens begin, and by which byte; how All ends.
-/
import Derived.Test.YtldgfepimegbmaaDoorTokNum
import Derived.Test.YtldgfepimegbmaaDoorProRun
namespace Go.Proofs.YtldgfepimegbmaaDoor
set_option maxRecDepth 100000

/-- A token at the beginning of what is left. -/
structure Good (l : List UInt8) (t : T) : Prop where
  kind : t.kind < 4
  str : t.kind = 2 ↔ l.head? = some 34
  ne : t.kind ≠ 2 → t.text ≠ []
  text : t.kind ≠ 2 → l.take t.text.length = t.text
theorem tk_good {it : Int → List UInt8} {l : List UInt8} {t : Tk} (h : tk it l = some t) (p : Nat) : Good l ⟨t.kind, t.text, t.num, p⟩ := by
  cases l with
  | nil => simp [tk] at h
  | cons c r =>
    have s1 := span_le isNext r
    have s2 := span_le isDigit r
    simp only [tk] at h
    by_cases h1 : isFirst c = true
    · rw [if_pos h1] at h
      injection h with h
      subst h
      have hc : c ≠ 34 := by rintro rfl; exact absurd h1 (by decide)
      exact ⟨by simp, by simp [hc], by simp, fun _ => by simp only [List.length_cons, List.length_take, Nat.min_eq_left s1, List.take_succ_cons]⟩
    · rw [if_neg h1] at h
      by_cases h2 : (isDigit c || c == 45) = true
      · rw [if_pos h2] at h
        simp only [Option.map_eq_some_iff] at h
        obtain ⟨n, _, rfl⟩ := h
        have hc : c ≠ 34 := by rintro rfl; exact absurd h2 (by decide)
        exact ⟨by simp, by simp [hc], by simp, fun _ => by simp only [List.length_cons, List.length_take, Nat.min_eq_left s2, List.take_succ_cons]⟩
      · rw [if_neg h2] at h
        by_cases h3 : (c == 34) = true
        · rw [if_pos h3] at h
          simp only [Option.map_eq_some_iff] at h
          obtain ⟨x, _, rfl⟩ := h
          have hc : c = 34 := by simpa using h3
          exact ⟨by simp, by simp [hc], by simp, by simp⟩
        · rw [if_neg h3] at h
          have hc : c ≠ 34 := by simpa using h3
          split at h
          · injection h with h
            subst h
            exact ⟨by simp, by simp [hc], by simp, fun _ => by simp⟩
          · cases h
section

variable {it : Int → List UInt8}

theorem lex_good : ∀ (l : List UInt8) (k p : Nat), ∀ t ∈ (lex it k p l).1, p + k ≤ t.at_ ∧ t.at_ < p + l.length ∧ Good (l.drop (t.at_ - p)) t
  | [], k, p, t, h => by cases k <;> simp [lex] at h
  | c :: r, k + 1, p, t, h => by
    simp only [lex] at h
    obtain ⟨h1, h2, h3⟩ := lex_good r k (p + 1) t h
    refine ⟨by omega, by simp only [List.length_cons]; omega, ?_⟩
    rw [show t.at_ - p = t.at_ - (p + 1) + 1 by omega, List.drop_succ_cons]
    exact h3
  | c :: r, 0, p, t, h => by
    simp only [lex] at h
    split at h
    · rename_i w _
      obtain ⟨h1, h2, h3⟩ := lex_good r w (p + 1) t h
      refine ⟨by omega, by simp only [List.length_cons]; omega, ?_⟩
      rw [show t.at_ - p = t.at_ - (p + 1) + 1 by omega, List.drop_succ_cons]
      exact h3
    · split at h
      · simp at h
      · rename_i x hx
        rcases List.mem_cons.1 h with rfl | h
        · refine ⟨by simp, by simp, ?_⟩
          simp only [Nat.sub_self, List.drop_zero]
          exact tk_good hx p
        · obtain ⟨h1, h2, h3⟩ := lex_good r x.more (p + 1) t h
          refine ⟨by omega, by simp only [List.length_cons]; omega, ?_⟩
          rw [show t.at_ - p = t.at_ - (p + 1) + 1 by omega, List.drop_succ_cons]
          exact h3
theorem lex_rise : ∀ (l : List UInt8) (k p : Nat), (lex it k p l).1.Pairwise fun a b => a.at_ < b.at_
  | [], k, p => by cases k <;> simp [lex]
  | c :: r, k + 1, p => by
    simp only [lex]
    exact lex_rise r k (p + 1)
  | c :: r, 0, p => by
    simp only [lex]
    split
    · exact lex_rise r _ (p + 1)
    · split
      · exact List.Pairwise.nil
      · rename_i x hx
        refine List.Pairwise.cons (fun b hb => ?_) (lex_rise r x.more (p + 1))
        have := (lex_good r x.more (p + 1) b hb).1
        show p < b.at_
        omega
theorem all_cases (L : List UInt8) :
    (allE it L = 0 ∧ allAt it L = L.length ∧ (allT it L).length ≤ 1000 ∧ allT it L = (lex it 0 0 L).1) ∨ (allT it L = [] ∧ allAt it L < L.length ∧ (allE it L = 4 ∨ allE it L = 2)) := by
  unfold allE allAt allT
  by_cases h5 : 5000 < L.length
  · right
    simp only [if_pos h5]
    exact ⟨trivial, by omega, .inr trivial⟩
  · simp only [if_neg h5]
    unfold ansT ansAt ansE
    by_cases h1 : 1000 < (lex it 0 0 L).1.length
    · right
      simp only [if_pos h1]
      refine ⟨trivial, ?_, .inr trivial⟩
      have hm := List.getElem_mem h1
      have hg := lex_good L 0 0 _ hm
      rw [List.getD_eq_getElem?_getD, List.getElem?_eq_getElem h1]
      simp only [Option.getD_some]
      omega
    · simp only [if_neg h1]
      cases h2 : (lex it 0 0 L).2 with
      | none =>
        left
        exact ⟨rfl, rfl, by simp; omega, by simp⟩
      | some q =>
        right
        have := lex_place L 0 0 q h2
        exact ⟨rfl, by simp; omega, .inl rfl⟩
end

end Go.Proofs.YtldgfepimegbmaaDoor
/-
  A text that is cut where a token begins has the tokens ahead of it; the machine on parts of tokens.
-/
namespace Go.Proofs.YtldgfepimegbmaaDoor
set_option maxRecDepth 100000

theorem head_take {r : List UInt8} {j : Nat} {c : UInt8} (h : (r.take j).head? = some c) : r.head? = some c := by
  cases j with
  | zero => simp at h
  | succ j => cases r with
    | nil => simp at h
    | cons x r => simpa using h
theorem ws_take : ∀ (b : Bool) (l : List UInt8) (j : Nat), ws b l ≤ j → ws b (l.take j) = ws b l
  | b, [], j, _ => by simp
  | true, c :: r, 0, h => by simp [ws] at h
  | true, c :: r, j + 1, h => by
    have h' : 1 + ws (c != 10) r ≤ j + 1 := h
    rw [List.take_succ_cons]
    show 1 + ws (c != 10) (r.take j) = 1 + ws (c != 10) r
    rw [ws_take (c != 10) r j (by omega)]
  | false, c :: r, j, h => by
    cases hb : isBlank c with
    | true =>
      have e : ws false (c :: r) = 1 + ws false r := by simp [ws, hb]
      rw [e] at h
      cases j with
      | zero => omega
      | succ j =>
        rw [List.take_succ_cons, e]
        have e2 : ws false (c :: r.take j) = 1 + ws false (r.take j) := by simp [ws, hb]
        rw [e2, ws_take false r j (by omega)]
    | false =>
      cases hc : (c == 47 && r.head? == some 47) with
      | true =>
        have e : ws false (c :: r) = 1 + ws true r := by
          show (if isBlank c then 1 + ws false r else if c == 47 && r.head? == some 47 then 1 + ws true r else 0) = _
          rw [hb, hc]; rfl
        rw [e] at h
        cases j with
        | zero => omega
        | succ j =>
          rw [List.take_succ_cons, e]
          have hr : 1 ≤ ws true r := by
            simp only [Bool.and_eq_true] at hc
            cases r with
            | nil => simp at hc
            | cons x r => show 1 ≤ 1 + ws (x != 10) r; omega
          have hh : (c == 47 && (r.take j).head? == some 47) = true := by
            cases j with
            | zero => omega
            | succ j => cases r with
              | nil => simp at hc
              | cons x r => simpa using hc
          have e2 : ws false (c :: r.take j) = 1 + ws true (r.take j) := by
            show (if isBlank c then 1 + ws false (r.take j) else if c == 47 && (r.take j).head? == some 47 then 1 + ws true (r.take j) else 0) = _
            rw [hb, hh]; rfl
          rw [e2, ws_take true r j (by omega)]
      | false =>
        have e : ws false (c :: r) = 0 := by
          show (if isBlank c then 1 + ws false r else if c == 47 && r.head? == some 47 then 1 + ws true r else 0) = _
          rw [hb, hc]; rfl
        rw [e]
        cases j with
        | zero => simp [ws]
        | succ j =>
          rw [List.take_succ_cons]
          have hh : (c == 47 && (r.take j).head? == some 47) = false := by
            cases h47 : (c == 47) with
            | false => rfl
            | true =>
              rw [h47, Bool.true_and] at hc
              rw [Bool.true_and, beq_eq_false_iff_ne]
              intro e3
              rw [head_take e3] at hc
              simp at hc
          show (if isBlank c then 1 + ws false (r.take j) else if c == 47 && (r.take j).head? == some 47 then 1 + ws true (r.take j) else 0) = _
          rw [hb, hh]; rfl
theorem span_take (f : UInt8 → Bool) : ∀ (l : List UInt8) (j : Nat), span f l ≤ j → span f (l.take j) = span f l
  | [], j, _ => by simp
  | c :: r, 0, h => by
    simp only [span] at h
    split at h
    · omega
    · rename_i hc; simp [span, hc]
  | c :: r, j + 1, h => by
    rw [List.take_succ_cons]
    simp only [span] at h ⊢
    split
    · rename_i hc
      rw [if_pos hc] at h
      rw [span_take f r j (by omega)]
    · rfl
theorem meant_take {l : List UInt8} {x : UInt8 × Nat} (h : meant l = some x) {j : Nat} (hj : x.2 + 1 ≤ j) : meant (l.take j) = some x := by
  cases j with
  | zero => omega
  | succ j =>
    cases l with
    | nil => simp [meant] at h
    | cons c r =>
      rw [List.take_succ_cons]
      by_cases hc : (c == 92) = true
      · cases r with
        | nil => simp [meant, hc] at h
        | cons d r2 =>
          cases j with
          | zero =>
            exfalso
            simp only [meant, hc, if_true] at h
            split at h
            · injection h with h; subst h; simp at hj
            · split at h
              · injection h with h; subst h; simp at hj
              · split at h
                · split at h
                  · split at h
                    · injection h with h; subst h; simp at hj
                    · cases h
                  · cases h
                · cases h
          | succ j =>
            rw [List.take_succ_cons]
            simp only [meant, hc, if_true] at h ⊢
            split at h
            · rename_i h1; rw [if_pos h1]; exact h
            · rename_i h1
              rw [if_neg h1]
              split at h
              · rename_i h2; rw [if_pos h2]; exact h
              · rename_i h2
                rw [if_neg h2]
                split at h
                · rename_i h3
                  rw [if_pos h3]
                  match r2, h with
                  | a :: b :: r3, h =>
                    have hx : x.2 = 3 := by
                      simp only at h
                      split at h
                      · injection h with h; subst h; rfl
                      · cases h
                    obtain ⟨j', rfl⟩ : ∃ j', j = j' + 2 := ⟨j - 2, by omega⟩
                    simp only [List.take_succ_cons] at h ⊢
                    exact h
                  | [], h => simp at h
                  | [a], h => simp at h
                · cases h
      · simp only [meant, hc, Bool.false_eq_true, if_false] at h ⊢
        exact h
theorem strB_take : ∀ (l : List UInt8) (k : Nat) {x : List UInt8 × Nat}, strB k l = some x → ∀ j, x.2 ≤ j → strB k (l.take j) = some x
  | [], k, x, h, _, _ => by cases k <;> simp [strB] at h
  | c :: r, k + 1, x, h, j, hj => by
    simp only [strB, Option.map_eq_some_iff] at h
    obtain ⟨y, hy, rfl⟩ := h
    cases j with
    | zero => simp at hj
    | succ j =>
      rw [List.take_succ_cons]
      simp only [strB, Option.map_eq_some_iff]
      exact ⟨y, strB_take r k hy j (by simpa using hj), rfl⟩
  | c :: r, 0, x, h, j, hj => by
    cases j with
    | zero =>
      exfalso
      simp only [strB] at h
      split at h
      · injection h with h; subst h; simp at hj
      · split at h
        · cases h
        · simp only [Option.map_eq_some_iff] at h
          obtain ⟨y, _, rfl⟩ := h
          simp at hj
    | succ j =>
      rw [List.take_succ_cons]
      simp only [strB] at h ⊢
      by_cases hc : (c == 34) = true
      · rw [if_pos hc] at h ⊢; exact h
      · rw [if_neg hc] at h ⊢
        cases hm : meant (c :: r) with
        | none => simp [hm] at h
        | some y =>
          rw [hm] at h
          simp only [Option.map_eq_some_iff] at h
          obtain ⟨z, hz, rfl⟩ := h
          have hzz := strB_skip y.2 r
          rw [hz] at hzz
          have hge : y.2 ≤ z.2 := by
            cases hs : strB 0 (r.drop y.2) with
            | none => rw [hs] at hzz; simp at hzz
            | some q => rw [hs] at hzz; simp at hzz; rw [hzz]; simp
          have hmt := meant_take hm (j := j + 1) (by simp at hj; omega)
          rw [List.take_succ_cons] at hmt
          rw [hmt]
          simp only [Option.map_eq_some_iff]
          exact ⟨z, strB_take r y.2 hz j (by simpa using hj), rfl⟩
section
variable {it : Int → List UInt8}
theorem tk_take {l : List UInt8} {x : Tk} (h : tk it l = some x) {j : Nat} (hj : x.more + 1 ≤ j) : tk it (l.take j) = some x := by
  cases j with
  | zero => omega
  | succ j =>
    cases l with
    | nil => simp [tk] at h
    | cons c r =>
      rw [List.take_succ_cons]
      simp only [tk] at h ⊢
      split at h
      · rename_i h1
        rw [if_pos h1]
        injection h with h
        subst h
        have hs : span isNext r ≤ j := by simpa using hj
        rw [span_take isNext r j hs, List.take_take, Nat.min_eq_left hs]
      · rename_i h1
        rw [if_neg h1]
        split at h
        · rename_i h2
          rw [if_pos h2]
          have hm := h
          simp only [Option.map_eq_some_iff] at hm
          obtain ⟨n, hn, rfl⟩ := hm
          have hs : span isDigit r ≤ j := by simpa using hj
          rw [span_take isDigit r j hs, List.take_take, Nat.min_eq_left hs]
          exact h
        · rename_i h2
          rw [if_neg h2]
          split at h
          · rename_i h3
            rw [if_pos h3]
            simp only [Option.map_eq_some_iff] at h ⊢
            obtain ⟨y, hy, rfl⟩ := h
            exact ⟨y, strB_take r 0 hy j (by simpa using hj), rfl⟩
          · rename_i h3
            rw [if_neg h3]
            exact h
theorem lex_take : ∀ (l : List UInt8) (k p : Nat) (pre : List T) (t : T) (r : List T) (x : Option Nat), lex it k p l = (pre ++ t :: r, x) → lex it k p (l.take (t.at_ - p)) = (pre, none)
  | [], k, p, pre, t, r, x, h => by
    cases k <;> simp [lex] at h
  | c :: l, k + 1, p, pre, t, r, x, h => by
    have hm := lex_good (it := it) (c :: l) (k + 1) p t (by rw [h]; simp)
    simp only [lex] at h
    obtain ⟨m, hm2⟩ : ∃ m, t.at_ - p = m + 1 := ⟨t.at_ - p - 1, by omega⟩
    rw [hm2, List.take_succ_cons]
    simp only [lex]
    have := lex_take l k (p + 1) pre t r x h
    rw [show t.at_ - (p + 1) = m by omega] at this
    exact this
  | c :: l, 0, p, pre, t, r, x, h => by
    have hm := lex_good (it := it) (c :: l) 0 p t (by rw [h]; simp)
    cases hw : ws false (c :: l) with
    | succ w =>
      have e : lex it 0 p (c :: l) = lex it w (p + 1) l := by simp [lex, hw]
      rw [e] at h
      have hm2 := lex_good (it := it) l w (p + 1) t (by rw [h]; simp)
      obtain ⟨m, hm3⟩ : ∃ m, t.at_ - p = m + 1 := ⟨t.at_ - p - 1, by omega⟩
      have hwt := ws_take false (c :: l) (m + 1) (by omega)
      rw [List.take_succ_cons, hw] at hwt
      rw [hm3, List.take_succ_cons]
      have e2 : lex it 0 p (c :: l.take m) = lex it w (p + 1) (l.take m) := by simp [lex, hwt]
      rw [e2]
      have := lex_take l w (p + 1) pre t r x h
      rw [show t.at_ - (p + 1) = m by omega] at this
      exact this
    | zero =>
      cases ht : tk it (c :: l) with
      | none => simp [lex, hw, ht] at h
      | some y =>
        have e : lex it 0 p (c :: l) = (⟨y.kind, y.text, y.num, p⟩ :: (lex it y.more (p + 1) l).1, (lex it y.more (p + 1) l).2) := by simp [lex, hw, ht]
        rw [e] at h
        cases pre with
        | nil =>
          simp only [List.nil_append, Prod.mk.injEq, List.cons.injEq] at h
          have hp : t.at_ = p := by rw [← h.1.1]
          rw [hp, Nat.sub_self]
          simp [lex]
        | cons a pre =>
          simp only [List.cons_append, Prod.mk.injEq, List.cons.injEq] at h
          obtain ⟨⟨ha, hr⟩, hx⟩ := h
          have h2 : lex it y.more (p + 1) l = (pre ++ t :: r, x) := by rw [← hr, ← hx]
          have hm2 := lex_good (it := it) l y.more (p + 1) t (by rw [h2]; simp)
          obtain ⟨m, hm3⟩ : ∃ m, t.at_ - p = m + 1 := ⟨t.at_ - p - 1, by omega⟩
          have hwt := ws_take false (c :: l) (m + 1) (by omega)
          rw [List.take_succ_cons, hw] at hwt
          have htt := tk_take ht (j := m + 1) (by omega)
          rw [List.take_succ_cons] at htt
          rw [hm3, List.take_succ_cons]
          have e2 : lex it 0 p (c :: l.take m) = (⟨y.kind, y.text, y.num, p⟩ :: (lex it y.more (p + 1) (l.take m)).1, (lex it y.more (p + 1) (l.take m)).2) := by simp [lex, hwt, htt]
          have := lex_take l y.more (p + 1) pre t r x h2
          rw [show t.at_ - (p + 1) = m by omega] at this
          rw [e2, this, ha]
end
theorem run_split : ∀ (l : List T) (c : C), ∃ pre, l = pre ++ (run c l).2 ∧ run c pre = ((run c l).1, [])
  | [], c => ⟨[], by simp [run], by simp [run]⟩
  | t :: l, c => by
    cases h : step c t with
    | none => exact ⟨[], by rw [run_none h]; rfl, by rw [run_none h]; rfl⟩
    | some c' =>
      obtain ⟨pre, h1, h2⟩ := run_split l c'
      refine ⟨t :: pre, ?_, ?_⟩
      · rw [run_some h]; simpa using h1
      · rw [run_some h, run_some h]; exact h2
theorem run_append : ∀ (l m : List T) (c : C), (run c l).2 = [] → run c (l ++ m) = run (run c l).1 m
  | [], m, c, _ => by simp [run]
  | t :: l, m, c, h => by
    cases hs : step c t with
    | none => rw [run_none hs] at h; cases h
    | some c' =>
      rw [run_some hs] at h ⊢
      rw [List.cons_append, run_some hs]
      exact run_append l m c' h
end Go.Proofs.YtldgfepimegbmaaDoor
