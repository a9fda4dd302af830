/-
  Signs of UTF-8, on lists alone: how many bytes a sign has, how many first bytes are signs, what the model's own decoder makes of the same bytes; one text less than another one.
-/
import Derived.Laws.RangeAny
import Derived.Lib.Strings
namespace Go.Proofs.Ytiojpbmjciakeaa

/-- How many bytes the sign has with which n bytes begin, of which the first four are these; 0: none. -/
def sg (n b0 b1 b2 b3 : Nat) : Nat :=
  if n = 0 then 0
  else if b0 ≤ 127 then 1
  else if 194 ≤ b0 ∧ b0 ≤ 223 then (if 2 ≤ n ∧ 128 ≤ b1 ∧ b1 ≤ 191 then 2 else 0)
  else if 224 ≤ b0 ∧ b0 ≤ 239 then (if 3 ≤ n ∧ 128 ≤ b1 ∧ b1 ≤ 191 ∧ 128 ≤ b2 ∧ b2 ≤ 191 ∧ ¬ (b0 = 224 ∧ b1 < 160) ∧ ¬ (b0 = 237 ∧ 159 < b1) then 3 else 0)
  else if 240 ≤ b0 ∧ b0 ≤ 244 then (if 4 ≤ n ∧ 128 ≤ b1 ∧ b1 ≤ 191 ∧ 128 ≤ b2 ∧ b2 ≤ 191 ∧ 128 ≤ b3 ∧ b3 ≤ 191 ∧ ¬ (b0 = 240 ∧ b1 < 144) ∧ ¬ (b0 = 244 ∧ 143 < b1) then 4 else 0)
  else 0
def by' (l : List UInt8) (k : Nat) : Nat := (l.getD k 0).toNat
def sgn (l : List UInt8) : Nat := sg l.length (by' l 0) (by' l 1) (by' l 2) (by' l 3)

theorem by_lt (l : List UInt8) (k : Nat) : by' l k < 256 := (l.getD k 0).toNat_lt
theorem sg_le (n b0 b1 b2 b3 : Nat) : sg n b0 b1 b2 b3 ≤ n ∧ sg n b0 b1 b2 b3 ≤ 4 := by
  unfold sg
  split
  · omega
  split
  · omega
  split
  · split <;> omega
  split
  · split <;> omega
  split
  · split <;> omega
  · omega
theorem sgn_le (l : List UInt8) : sgn l ≤ l.length := (sg_le _ _ _ _ _).1
theorem sgn_le4 (l : List UInt8) : sgn l ≤ 4 := (sg_le _ _ _ _ _).2

/-- How many bytes are signs, from the first one on. -/
def first (l : List UInt8) : Nat := if h : sgn l = 0 then 0 else sgn l + first (l.drop (sgn l))
termination_by l.length
decreasing_by
  have := sgn_le l
  simp only [List.length_drop]
  omega
theorem first_none {l : List UInt8} (h : sgn l = 0) : first l = 0 := by rw [first, dif_pos h]
theorem first_some {l : List UInt8} (h : sgn l ≠ 0) : first l = sgn l + first (l.drop (sgn l)) := by rw [first, dif_neg h]
theorem first_le (l : List UInt8) : first l ≤ l.length := by
  induction l using first.induct with
  | case1 l h => rw [first_none h]; omega
  | case2 l h ih =>
    rw [first_some h]
    have := sgn_le l
    simp only [List.length_drop] at ih
    omega
theorem sgn_nil : sgn [] = 0 := rfl
theorem first_nil : first [] = 0 := first_none rfl
/-- What stands behind a sign changes nothing of it. -/
theorem by_append (l m : List UInt8) {k : Nat} (h : k < l.length) : by' (l ++ m) k = by' l k := by
  unfold by'
  rw [List.getD_eq_getElem?_getD, List.getD_eq_getElem?_getD, List.getElem?_append_left h]
theorem by_take (l : List UInt8) {k n : Nat} (h : k < n) : by' (l.take n) k = by' l k := by
  unfold by'
  rw [List.getD_eq_getElem?_getD, List.getD_eq_getElem?_getD, List.getElem?_take, if_pos h]
theorem sgn_append {l : List UInt8} (m : List UInt8) (h : sgn l ≠ 0) : sgn (l ++ m) = sgn l := by
  unfold sgn at h ⊢
  have hl : (l ++ m).length = l.length + m.length := List.length_append
  rw [hl]
  rcases Nat.lt_or_ge 0 l.length with h0 | h0
  · rw [by_append l m h0]
    rcases Nat.lt_or_ge 1 l.length with h1 | h1
    · rw [by_append l m h1]
      rcases Nat.lt_or_ge 2 l.length with h2 | h2
      · rw [by_append l m h2]
        rcases Nat.lt_or_ge 3 l.length with h3 | h3
        · rw [by_append l m h3]
          unfold sg at h ⊢
          grind
        · unfold sg at h ⊢
          grind
      · unfold sg at h ⊢
        grind
    · unfold sg at h ⊢
      grind
  · exfalso
    apply h
    unfold sg
    rw [if_pos (by omega)]
theorem first_append {l : List UInt8} (m : List UInt8) (h : first l = l.length) : first (l ++ m) = l.length + first m := by
  induction l using first.induct with
  | case1 l h0 =>
    rw [first_none h0] at h
    obtain rfl : l = [] := List.eq_nil_of_length_eq_zero h.symm
    simp
  | case2 l h0 ih =>
    rw [first_some h0] at h
    have hle := sgn_le l
    have hd : (l ++ m).drop (sgn l) = l.drop (sgn l) ++ m := by rw [List.drop_append_of_le_length hle]
    have h2 := ih (by simp only [List.length_drop]; omega)
    rw [first_some (by rw [sgn_append m h0]; exact h0), sgn_append m h0, hd, h2]
    simp only [List.length_drop]
    omega
theorem sgn_take {l : List UInt8} {n : Nat} (h : sgn l ≠ 0) (hn : sgn l ≤ n) : sgn (l.take n) = sgn l := by
  have hl : (l.take n).length = min n l.length := List.length_take
  have hle := sgn_le l
  unfold sgn at h hn hle ⊢
  rw [hl]
  rcases Nat.lt_or_ge 0 n with h0 | h0
  · rw [by_take l h0]
    rcases Nat.lt_or_ge 1 n with h1 | h1
    · rw [by_take l h1]
      rcases Nat.lt_or_ge 2 n with h2 | h2
      · rw [by_take l h2]
        rcases Nat.lt_or_ge 3 n with h3 | h3
        · rw [by_take l h3]
          unfold sg at h hn hle ⊢
          grind
        · unfold sg at h hn hle ⊢
          grind
      · unfold sg at h hn hle ⊢
        grind
    · unfold sg at h hn hle ⊢
      grind
  · omega
theorem first_take (l : List UInt8) : first (l.take (first l)) = first l := by
  induction l using first.induct with
  | case1 l h => rw [first_none h, List.take_zero, first_nil]
  | case2 l h ih =>
    rw [first_some h]
    have ht : sgn (l.take (sgn l + first (l.drop (sgn l)))) = sgn l := sgn_take h (by omega)
    rw [first_some (by rw [ht]; exact h), ht, List.drop_take, Nat.add_sub_cancel_left, ih]
/-- No beginning is fine that goes one byte further. -/
theorem sgn_one {l : List UInt8} (h : sgn l = 0) : sgn (l.take 1) = 0 := by
  have hl : (l.take 1).length = min 1 l.length := List.length_take
  unfold sgn at h ⊢
  rw [hl, by_take l (by omega : 0 < 1)]
  unfold sg at h ⊢
  grind
theorem first_more (l : List UInt8) : first (l.take (first l + 1)) = first l := by
  induction l using first.induct with
  | case1 l h => rw [first_none h, Nat.zero_add, first_none (sgn_one h)]
  | case2 l h ih =>
    rw [first_some h]
    have ht : sgn (l.take (sgn l + first (l.drop (sgn l)) + 1)) = sgn l := sgn_take h (by omega)
    rw [first_some (by rw [ht]; exact h), ht, List.drop_take, Nat.add_assoc, Nat.add_sub_cancel_left, ih]
/-- Bytes below 128 are fine. -/
theorem first_low (l : List UInt8) (h : ∀ b ∈ l, b.toNat < 128) : first l = l.length := by
  induction l with
  | nil => exact first_nil
  | cons b l ih =>
    have hb := h b (by simp)
    have hs : sgn (b :: l) = 1 := by
      unfold sgn sg by'
      rw [if_neg (by simp), if_pos (by simpa using by omega)]
    rw [first_some (by omega), hs, List.drop_one, List.tail_cons, ih (fun c hc => h c (by simp [hc]))]
    simp
    omega
/-- A byte that is in no sign is where what is fine ends. -/
def badN (b : Nat) : Prop := 245 ≤ b ∨ b = 192 ∨ b = 193
theorem sgn_bad {l : List UInt8} {k : Nat} (hk : k < l.length) (hb : badN (by' l k)) : sgn l ≤ k := by
  unfold badN at hb
  rcases Nat.lt_or_ge k 4 with h4 | h4
  · have h0 : k = 0 ∨ k = 1 ∨ k = 2 ∨ k = 3 := by omega
    unfold sgn sg
    rcases h0 with rfl | rfl | rfl | rfl <;> grind
  · have := sgn_le4 l
    omega
theorem by_drop (l : List UInt8) (n k : Nat) : by' (l.drop n) k = by' l (n + k) := by
  unfold by'
  rw [List.getD_eq_getElem?_getD, List.getD_eq_getElem?_getD, List.getElem?_drop]
theorem first_bad {l : List UInt8} : ∀ {k : Nat}, k < l.length → badN (by' l k) → first l ≤ k := by
  induction l using first.induct with
  | case1 l h => intro k _ _; rw [first_none h]; omega
  | case2 l h ih =>
    intro k hk hb
    have h1 := sgn_bad hk hb
    have h2 := ih (k := k - sgn l) (by simp only [List.length_drop]; omega) (by rw [by_drop, Nat.add_sub_cancel' h1]; exact hb)
    rw [first_some h]
    omega

/-! ### The model's own decoder -/
def dec (n b0 b1 b2 b3 : Nat) : Nat × Nat :=
  if b0 < 0x80 then (b0, 1)
  else if b0 / 32 == 6 && (decide (1 < n) && b1 / 64 == 2) then
    let c := (b0 % 32) * 64 + b1 % 64
    if c ≥ 0x80 then (c, 2) else (Utf8.runeError, 1)
  else if b0 / 16 == 14 && (decide (1 < n) && b1 / 64 == 2) && (decide (2 < n) && b2 / 64 == 2) then
    let c := (b0 % 16) * 4096 + (b1 % 64) * 64 + b2 % 64
    if c ≥ 0x800 && Utf8.valid c then (c, 3) else (Utf8.runeError, 1)
  else if b0 / 8 == 30 && (decide (1 < n) && b1 / 64 == 2) && (decide (2 < n) && b2 / 64 == 2) && (decide (3 < n) && b3 / 64 == 2) then
    let c := (b0 % 8) * 262144 + (b1 % 64) * 4096 + (b2 % 64) * 64 + b3 % 64
    if c ≥ 0x10000 && Utf8.valid c then (c, 4) else (Utf8.runeError, 1)
  else (Utf8.runeError, 1)

/-- Of a sign the decoder tells its bytes, and U+FFFD of just the one that is written so; of no sign it tells U+FFFD, and one byte. -/
theorem dec_sg (n b0 b1 b2 b3 : Nat) (hn : 0 < n) (h0 : b0 < 256) (h1 : b1 < 256) (h2 : b2 < 256) (h3 : b3 < 256) :
    (sg n b0 b1 b2 b3 = 0 → dec n b0 b1 b2 b3 = (65533, 1) ∧ ¬ (3 ≤ n ∧ b0 = 239 ∧ b1 = 191 ∧ b2 = 189)) ∧
    (sg n b0 b1 b2 b3 ≠ 0 → (dec n b0 b1 b2 b3).2 = sg n b0 b1 b2 b3 ∧ ((dec n b0 b1 b2 b3).1 = 65533 → 3 ≤ n ∧ b0 = 239 ∧ b1 = 191 ∧ b2 = 189)) := by
  have v3 : ∀ a b c : Nat, a < 16 → b < 64 → c < 64 → Utf8.valid ((a * 4096 + b * 64 + c : Nat) : Int) = !decide (a = 13 ∧ 32 ≤ b) := by
    intro a b c ha hb hc
    unfold Utf8.valid
    rw [Bool.eq_iff_iff]
    simp only [Bool.or_eq_true, Bool.and_eq_true, decide_eq_true_eq, Bool.not_eq_true', decide_eq_false_iff_not]
    omega
  have v4 : ∀ a b c d : Nat, a < 8 → b < 64 → c < 64 → d < 64 → 65536 ≤ a * 262144 + b * 4096 + c * 64 + d → Utf8.valid ((a * 262144 + b * 4096 + c * 64 + d : Nat) : Int) = !decide (4 < a ∨ a = 4 ∧ 16 ≤ b) := by
    intro a b c d ha hb hc hd hg
    unfold Utf8.valid
    rw [Bool.eq_iff_iff]
    simp only [Bool.or_eq_true, Bool.and_eq_true, decide_eq_true_eq, Bool.not_eq_true', decide_eq_false_iff_not]
    omega
  have w3 := v3 (b0 % 16) (b1 % 64) (b2 % 64) (by omega) (by omega) (by omega)
  have w4 := v4 (b0 % 8) (b1 % 64) (b2 % 64) (b3 % 64) (by omega) (by omega) (by omega) (by omega)
  clear v3 v4
  unfold sg dec Utf8.runeError
  rw [if_neg (by omega : ¬ n = 0)]
  by_cases c0 : b0 ≤ 127
  · rw [if_pos c0, if_pos (by omega)]
    exact ⟨by omega, fun _ => ⟨rfl, by simp only; omega⟩⟩
  rw [if_neg c0, if_neg (by omega : ¬ b0 < 128)]
  have n3 : ∀ V : Bool, (V = true) = (V = true) := fun _ => rfl
  by_cases c1 : b0 / 32 = 6
  · have e1 : (b0 / 32 == 6) = true := by simpa using c1
    have g1 : ¬ (224 ≤ b0 ∧ b0 ≤ 239) := by omega
    have g2 : ¬ (240 ≤ b0 ∧ b0 ≤ 244) := by omega
    have e2 : (b0 / 16 == 14) = false := by simp; omega
    have e3 : (b0 / 8 == 30) = false := by simp; omega
    clear w3 w4 n3
    simp only [e1, e2, e3, Bool.true_and, Bool.false_and, if_neg g1, if_neg g2, Bool.and_eq_true, decide_eq_true_eq, beq_iff_eq, ge_iff_le, Bool.false_eq_true, if_false]
    constructor
    · intro hs
      refine ⟨?_, by omega⟩
      split
      · split
        · exfalso
          rw [if_pos (by omega), if_pos (by omega)] at hs
          omega
        · rfl
      · rfl
    · intro hs
      have hg : 194 ≤ b0 ∧ b0 ≤ 223 := by
        by_cases hg : 194 ≤ b0 ∧ b0 ≤ 223
        · exact hg
        · rw [if_neg hg] at hs; omega
      rw [if_pos hg] at hs ⊢
      have hk : 2 ≤ n ∧ 128 ≤ b1 ∧ b1 ≤ 191 := by
        by_cases hk : 2 ≤ n ∧ 128 ≤ b1 ∧ b1 ≤ 191
        · exact hk
        · rw [if_neg hk] at hs; omega
      rw [if_pos hk, if_pos (by omega), if_pos (by omega)]
      exact ⟨rfl, by simp only; omega⟩
  by_cases c2 : b0 / 16 = 14
  · have e1 : (b0 / 32 == 6) = false := by simp; omega
    have g1 : ¬ (194 ≤ b0 ∧ b0 ≤ 223) := by omega
    have g2 : 224 ≤ b0 ∧ b0 ≤ 239 := by omega
    have e2 : (b0 / 16 == 14) = true := by simpa using c2
    have e3 : (b0 / 8 == 30) = false := by simp; omega
    clear w4 n3
    simp only [e1, e2, e3, w3, Bool.true_and, Bool.false_and, if_neg g1, if_pos g2, Bool.and_eq_true, decide_eq_true_eq, beq_iff_eq, ge_iff_le, Bool.false_eq_true, if_false, Bool.not_eq_true', decide_eq_false_iff_not]
    clear w3
    constructor
    · intro hs
      refine ⟨?_, ?_⟩
      · split
        · split
          · exfalso
            rw [if_pos (by omega)] at hs
            omega
          · rfl
        · rfl
      · intro hx
        rw [if_pos (by omega)] at hs
        omega
    · intro hs
      have hk : 3 ≤ n ∧ 128 ≤ b1 ∧ b1 ≤ 191 ∧ 128 ≤ b2 ∧ b2 ≤ 191 ∧ ¬ (b0 = 224 ∧ b1 < 160) ∧ ¬ (b0 = 237 ∧ 159 < b1) := by
        by_cases hk : 3 ≤ n ∧ 128 ≤ b1 ∧ b1 ≤ 191 ∧ 128 ≤ b2 ∧ b2 ≤ 191 ∧ ¬ (b0 = 224 ∧ b1 < 160) ∧ ¬ (b0 = 237 ∧ 159 < b1)
        · exact hk
        · rw [if_neg hk] at hs; omega
      rw [if_pos hk, if_pos (by omega), if_pos (by omega)]
      exact ⟨rfl, by simp only; omega⟩
  by_cases c3 : b0 / 8 = 30
  · have e1 : (b0 / 32 == 6) = false := by simp; omega
    have g1 : ¬ (194 ≤ b0 ∧ b0 ≤ 223) := by omega
    have g2 : ¬ (224 ≤ b0 ∧ b0 ≤ 239) := by omega
    have e2 : (b0 / 16 == 14) = false := by simp; omega
    have e3 : (b0 / 8 == 30) = true := by simpa using c3
    clear w3 n3
    simp only [e1, e2, e3, Bool.true_and, Bool.false_and, if_neg g1, if_neg g2, Bool.and_eq_true, decide_eq_true_eq, beq_iff_eq, ge_iff_le, Bool.false_eq_true, if_false, Bool.not_eq_true', decide_eq_false_iff_not]
    constructor
    · intro hs
      refine ⟨?_, by omega⟩
      split
      · split
        · rename_i hq
          exfalso
          have hv := w4 hq.1
          rw [hq.2] at hv
          have hv : ¬ (4 < b0 % 8 ∨ b0 % 8 = 4 ∧ 16 ≤ b1 % 64) := by
            rw [eq_comm, Bool.not_eq_true', decide_eq_false_iff_not] at hv
            exact hv
          rw [if_pos (by omega), if_pos (by omega)] at hs
          omega
        · rfl
      · rfl
    · intro hs
      have hg : 240 ≤ b0 ∧ b0 ≤ 244 := by
        by_cases hg : 240 ≤ b0 ∧ b0 ≤ 244
        · exact hg
        · rw [if_neg hg] at hs; omega
      rw [if_pos hg] at hs ⊢
      have hk : 4 ≤ n ∧ 128 ≤ b1 ∧ b1 ≤ 191 ∧ 128 ≤ b2 ∧ b2 ≤ 191 ∧ 128 ≤ b3 ∧ b3 ≤ 191 ∧ ¬ (b0 = 240 ∧ b1 < 144) ∧ ¬ (b0 = 244 ∧ 143 < b1) := by
        by_cases hk : 4 ≤ n ∧ 128 ≤ b1 ∧ b1 ≤ 191 ∧ 128 ≤ b2 ∧ b2 ≤ 191 ∧ 128 ≤ b3 ∧ b3 ≤ 191 ∧ ¬ (b0 = 240 ∧ b1 < 144) ∧ ¬ (b0 = 244 ∧ 143 < b1)
        · exact hk
        · rw [if_neg hk] at hs; omega
      have hge : 65536 ≤ b0 % 8 * 262144 + b1 % 64 * 4096 + b2 % 64 * 64 + b3 % 64 := by omega
      have hv := w4 hge
      have hd : decide (4 < b0 % 8 ∨ b0 % 8 = 4 ∧ 16 ≤ b1 % 64) = false := by simp only [decide_eq_false_iff_not]; omega
      rw [hd, Bool.not_false] at hv
      have hc : ((1 < n ∧ b1 / 64 = 2) ∧ 2 < n ∧ b2 / 64 = 2) ∧ 3 < n ∧ b3 / 64 = 2 := by omega
      rw [if_pos hk]
      simp only [hc, hv, hge, and_self, if_true, true_and]
      omega
  have e1 : (b0 / 32 == 6) = false := by simp; omega
  have g1 : ¬ (194 ≤ b0 ∧ b0 ≤ 223) := by omega
  have g2 : ¬ (224 ≤ b0 ∧ b0 ≤ 239) := by omega
  have g3 : ¬ (240 ≤ b0 ∧ b0 ≤ 244) := by omega
  have e2 : (b0 / 16 == 14) = false := by simp; omega
  have e3 : (b0 / 8 == 30) = false := by simp; omega
  simp only [e1, e2, e3, Bool.false_and, if_neg g1, if_neg g2, if_neg g3, Bool.false_eq_true, if_false]
  exact ⟨fun _ => ⟨trivial, by omega⟩, fun h => absurd rfl h⟩

theorem getBang (s : ByteArray) (i : Nat) : s.get! i = s.data.toList.getD i 0 := by
  rcases Nat.lt_or_ge i s.size with h | h
  · have h' : i < s.data.size := h
    rw [List.getD_eq_getElem?_getD, List.getElem?_eq_getElem (by simpa using h)]
    exact (getElem!_pos s.data i h').trans (by simp)
  · rw [List.getD_eq_getElem?_getD, List.getElem?_eq_none (by simpa using h)]
    have h' : ¬ i < s.data.size := Nat.not_lt.2 h
    exact (getElem!_neg s.data i h').trans rfl
theorem decode_dec (s : ByteArray) (i : Nat) (hi : i ≤ s.size) : Utf8.decode s i = dec (s.data.toList.drop i).length (by' (s.data.toList.drop i) 0) (by' (s.data.toList.drop i) 1) (by' (s.data.toList.drop i) 2) (by' (s.data.toList.drop i) 3) := by
  have hl : (s.data.toList.drop i).length = s.size - i := by simp
  have hc : ∀ k, (s.get! (i + k)).toNat = by' (s.data.toList.drop i) k := by
    intro k
    rw [by_drop, getBang]
    rfl
  have ht : ∀ k, decide (i + k < s.size) = decide (k < (s.data.toList.drop i).length) := by
    intro k
    rw [hl]
    congr 1
    exact propext ⟨by omega, by omega⟩
  simp only [Utf8.decode, hc, ht, dec]

/-- What the decoder tells at a place, by what stands there: a sign, or none. -/
theorem decode_sign (s : ByteArray) (i : Nat) (hi : i < s.size) :
    (sgn (s.data.toList.drop i) = 0 → Utf8.decode s i = (65533, 1) ∧ ¬ ((s.data.toList.drop i).take 3 = [239, 191, 189])) ∧
    (sgn (s.data.toList.drop i) ≠ 0 → (Utf8.decode s i).2 = sgn (s.data.toList.drop i) ∧ ((Utf8.decode s i).1 = 65533 → (s.data.toList.drop i).take 3 = [239, 191, 189])) := by
  rw [decode_dec s i (by omega)]
  have hl : (s.data.toList.drop i).length = s.size - i := by simp
  generalize s.data.toList.drop i = l at *
  have h3 : l.take 3 = [239, 191, 189] ↔ 3 ≤ l.length ∧ by' l 0 = 239 ∧ by' l 1 = 191 ∧ by' l 2 = 189 := by
    rcases l with _ | ⟨a, _ | ⟨b, _ | ⟨c, l⟩⟩⟩
    · simp
    · simp
    · simp
    · simp [by', ← UInt8.toNat_inj]
  rw [h3]
  exact dec_sg l.length _ _ _ _ (by omega) (by_lt _ _) (by_lt _ _) (by_lt _ _) (by_lt _ _)
end Go.Proofs.Ytiojpbmjciakeaa
