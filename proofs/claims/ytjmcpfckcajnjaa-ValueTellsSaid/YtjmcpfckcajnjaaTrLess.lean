/-
  How values are ordered: one of two that differ is less, what is less than what is less is less.
-/
import Derived.Test.YtjmcpfckcajnjaaTrAwake
namespace Go.Proofs.Ytjmcpfckcajnjaa.T9
set_option maxRecDepth 100000

theorem by_same : ∀ a : List UInt8, Op.bytesLess a a = false
  | [] => rfl
  | x :: a => by
    have h : Op.bytesLess (x :: a) (x :: a) = (decide (x < x) || (x == x && Op.bytesLess a a)) := rfl
    rw [h, by_same a]
    simp
theorem by_asym : ∀ a b : List UInt8, Op.bytesLess a b = true → Op.bytesLess b a = false
  | [], [], _ => rfl
  | [], _ :: _, _ => rfl
  | _ :: _, [], h => by cases h
  | x :: a, y :: b, h => by
    have h1 : Op.bytesLess (x :: a) (y :: b) = (decide (x < y) || (x == y && Op.bytesLess a b)) := rfl
    have h2 : Op.bytesLess (y :: b) (x :: a) = (decide (y < x) || (y == x && Op.bytesLess b a)) := rfl
    rw [h1] at h
    rw [h2]
    simp only [Bool.or_eq_true, decide_eq_true_eq, Bool.and_eq_true, beq_iff_eq] at h
    rw [Bool.or_eq_false_iff]
    simp only [decide_eq_false_iff_not, Bool.and_eq_false_iff, beq_eq_false_iff_ne, ne_eq]
    rcases h with h | ⟨rfl, h⟩
    · refine ⟨fun h3 => ?_, .inl fun e => ?_⟩
      · rw [UInt8.lt_iff_toNat_lt] at h h3; omega
      · subst e; rw [UInt8.lt_iff_toNat_lt] at h; omega
    · exact ⟨fun h3 => by rw [UInt8.lt_iff_toNat_lt] at h3; omega, .inr (by_asym a b h)⟩
theorem by_total : ∀ a b : List UInt8, Op.bytesLess a b = false → Op.bytesLess b a = false → a = b
  | [], [], _, _ => rfl
  | [], _ :: _, h, _ => by cases h
  | _ :: _, [], _, h => by cases h
  | x :: a, y :: b, h, h' => by
    have h1 : Op.bytesLess (x :: a) (y :: b) = (decide (x < y) || (x == y && Op.bytesLess a b)) := rfl
    have h2 : Op.bytesLess (y :: b) (x :: a) = (decide (y < x) || (y == x && Op.bytesLess b a)) := rfl
    rw [h1] at h
    rw [h2] at h'
    simp only [Bool.or_eq_false_iff, decide_eq_false_iff_not, Bool.and_eq_false_iff, beq_eq_false_iff_ne, ne_eq] at h h'
    have e : x = y := by
      apply UInt8.toNat_inj.1
      have h3 := h.1
      have h4 := h'.1
      rw [UInt8.lt_iff_toNat_lt] at h3 h4
      omega
    subst e
    rw [by_total a b (by simpa using h.2) (by simpa using h'.2)]
theorem by_trans : ∀ a b c : List UInt8, Op.bytesLess a b = true → Op.bytesLess b c = true → Op.bytesLess a c = true
  | [], [], _, h, _ => by cases h
  | _ :: _, [], _, h, _ => by cases h
  | _, _ :: _, [], _, h => by cases h
  | [], _ :: _, _ :: _, _, _ => rfl
  | x :: a, y :: b, z :: c, h, h' => by
    have h1 : Op.bytesLess (x :: a) (y :: b) = (decide (x < y) || (x == y && Op.bytesLess a b)) := rfl
    have h2 : Op.bytesLess (y :: b) (z :: c) = (decide (y < z) || (y == z && Op.bytesLess b c)) := rfl
    have h3 : Op.bytesLess (x :: a) (z :: c) = (decide (x < z) || (x == z && Op.bytesLess a c)) := rfl
    rw [h1] at h
    rw [h2] at h'
    rw [h3]
    simp only [Bool.or_eq_true, decide_eq_true_eq, Bool.and_eq_true, beq_iff_eq, UInt8.lt_iff_toNat_lt] at h h' ⊢
    rcases h with h | ⟨rfl, h⟩
    · rcases h' with h' | ⟨rfl, h'⟩
      · left; omega
      · left; omega
    · rcases h' with h' | ⟨rfl, h'⟩
      · left; omega
      · right; exact ⟨rfl, by_trans a b c h h'⟩
theorem lessV_asym {a b : Vl'} (h : lessV a b = true) : lessV b a = false := by
  unfold lessV at h ⊢
  by_cases e : a.n = b.n
  · rw [if_pos e] at h
    rw [if_pos e.symm]
    exact by_asym _ _ h
  · rw [if_neg e] at h
    rw [if_neg (fun h => e h.symm)]
    rw [decide_eq_true_eq] at h
    rw [decide_eq_false_iff_not]
    omega
theorem lessV_same {a b : Vl'} (hn : a.n = b.n) (hs : a.s = b.s) : lessV a b = false := by
  unfold lessV
  rw [if_pos hn, hs, by_same]
theorem lessV_total {a b : Vl'} (h : lessV a b = false) (h' : lessV b a = false) : a.n = b.n ∧ a.s = b.s := by
  unfold lessV at h h'
  by_cases e : a.n = b.n
  · rw [if_pos e] at h
    rw [if_pos e.symm] at h'
    exact ⟨e, by_total _ _ h h'⟩
  · rw [if_neg e] at h
    rw [if_neg (fun h => e h.symm)] at h'
    rw [decide_eq_false_iff_not] at h h'
    omega
theorem lessV_trans {a b c : Vl'} (h : lessV a b = true) (h' : lessV b c = true) : lessV a c = true := by
  unfold lessV at h h' ⊢
  by_cases e : a.n = b.n
  · rw [if_pos e] at h
    by_cases f : b.n = c.n
    · rw [if_pos f] at h'
      rw [if_pos (e.trans f)]
      exact by_trans _ _ _ h h'
    · rw [if_neg f, decide_eq_true_eq] at h'
      rw [if_neg (by omega), decide_eq_true_eq]
      omega
  · rw [if_neg e, decide_eq_true_eq] at h
    by_cases f : b.n = c.n
    · rw [if_neg (by omega), decide_eq_true_eq]
      omega
    · rw [if_neg f, decide_eq_true_eq] at h'
      rw [if_neg (by omega), decide_eq_true_eq]
      omega
end Go.Proofs.Ytjmcpfckcajnjaa.T9
