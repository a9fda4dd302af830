/-
  Numbers as bytes of seven bits, on lists alone: how many bytes, which bytes.
-/
namespace Go.Proofs.YtpaggpcpflmpcaaDoor
def vlong (n : Nat) : Nat := if n < 128 then 1 else vlong (n / 128) + 1
termination_by n
decreasing_by omega

theorem vlong_small {n : Nat} (h : n < 128) : vlong n = 1 := by rw [vlong, if_pos h]
theorem vlong_big {n : Nat} (h : ¬ n < 128) : vlong n = vlong (n/128) + 1 := by rw [vlong, if_neg h]
theorem vlong_pos (n : Nat) : 1 ≤ vlong n := by
  by_cases h : n < 128
  · rw [vlong_small h]; omega
  · rw [vlong_big h]; omega
theorem vlong_le : ∀ (k : Nat) {n : Nat}, n < 128 ^ (k+1) → vlong n ≤ k + 1 := by
  intro k
  induction k with
  | zero => intro n h; rw [vlong_small (by simpa using h)]; omega
  | succ k ih =>
    intro n h
    by_cases hn : n < 128
    · rw [vlong_small hn]; omega
    · rw [vlong_big hn]
      have := @ih (n/128) (by rw [Nat.pow_succ] at h; omega)
      omega
theorem vlong_le10 {n : Nat} (h : n < 18446744073709551616) : vlong n ≤ 10 := vlong_le 9 (by omega)
theorem vlong_mono : ∀ (m n : Nat), n ≤ m → vlong n ≤ vlong m := by
  intro m
  induction m using Nat.strongRecOn with
  | _ m ih =>
    intro n h
    by_cases hn : n < 128
    · rw [vlong_small hn]; exact vlong_pos m
    · rw [vlong_big hn, vlong_big (by omega : ¬ m < 128)]
      have := ih (m / 128) (by omega) (n / 128) (by omega)
      omega

def vput (n : Nat) : List UInt8 := if n < 128 then [UInt8.ofNat n] else UInt8.ofNat (n % 128 + 128) :: vput (n / 128)
termination_by n
decreasing_by omega
theorem vput_small {n : Nat} (h : n < 128) : vput n = [UInt8.ofNat n] := by rw [vput, if_pos h]
theorem vput_big {n : Nat} (h : ¬ n < 128) : vput n = UInt8.ofNat (n % 128 + 128) :: vput (n / 128) := by rw [vput, if_neg h]
theorem vput_length : ∀ n, (vput n).length = vlong n := by
  intro n
  induction n using Nat.strongRecOn with
  | _ n ih =>
    by_cases h : n < 128
    · rw [vput_small h, vlong_small h]; rfl
    · rw [vput_big h, vlong_big h, List.length_cons, ih (n/128) (by omega)]
theorem ofNat_toNat {n : Nat} (h : n < 256) : (UInt8.ofNat n).toNat = n := by simp [UInt8.toNat_ofNat']; omega

/-! ### Four or eight bytes -/
def fixb (n : Nat) : Nat → List UInt8
  | 0 => []
  | k + 1 => UInt8.ofNat (n % 256) :: fixb (n / 256) k
theorem fixb_length : ∀ (k n : Nat), (fixb n k).length = k
  | 0, _ => rfl
  | k + 1, n => by simp [fixb, fixb_length k]
theorem fixb_snoc : ∀ (k n : Nat), fixb n (k + 1) = fixb n k ++ [UInt8.ofNat (n / 256 ^ k % 256)]
  | 0, n => by simp [fixb]
  | k + 1, n => by
    show UInt8.ofNat (n % 256) :: fixb (n / 256) (k + 1) = (UInt8.ofNat (n % 256) :: fixb (n / 256) k) ++ _
    rw [fixb_snoc k (n / 256), List.cons_append, Nat.div_div_eq_div_mul, ← Nat.pow_succ']

/-- The number of bytes, the lowest one first. -/
def fixn : List UInt8 → Nat
  | [] => 0
  | b :: l => b.toNat + 256 * fixn l
theorem fixn_lt : ∀ l : List UInt8, fixn l < 256 ^ l.length
  | [] => by simp [fixn]
  | b :: l => by
    have := fixn_lt l
    have hb := b.toNat_lt
    simp only [fixn, List.length_cons, Nat.pow_succ]
    omega
theorem fixn_snoc : ∀ (l : List UInt8) (b : UInt8), fixn (l ++ [b]) = fixn l + 256 ^ l.length * b.toNat
  | [], b => by simp [fixn]
  | x :: l, b => by
    simp only [List.cons_append, fixn, fixn_snoc l b, List.length_cons, Nat.pow_succ]
    rw [Nat.mul_add, Nat.mul_comm (256 ^ l.length) 256, Nat.mul_assoc]; omega
theorem fixn_fixb : ∀ (k n : Nat), fixn (fixb n k) = n % 256 ^ k
  | 0, n => by simp [fixb, fixn, Nat.mod_one]
  | k + 1, n => by
    rw [fixb, fixn, fixn_fixb k, ofNat_toNat (by omega), Nat.pow_succ', Nat.mod_mul]

/-! ### A number of seven bits a byte, read -/
def lead : List UInt8 → Nat
  | [] => 0
  | b :: l => if b.toNat < 128 then 0 else lead l + 1
def vnum : List UInt8 → Nat
  | [] => 0
  | b :: l => b.toNat % 128 + 128 * vnum l
/-- Number, bytes, error: of bytes that begin where it is read, and end where reading ends. -/
def vget (l : List UInt8) : Nat × Nat × Nat :=
  if lead (l.take 10) = 10 then (0, 0, 7)
  else if lead (l.take 10) = l.length then (0, 0, 6)
  else (vnum (l.take (lead (l.take 10) + 1)) % 18446744073709551616, lead (l.take 10) + 1, 0)
theorem lead_le : ∀ l : List UInt8, lead l ≤ l.length
  | [] => by simp [lead]
  | b :: l => by
    have := lead_le l
    unfold lead
    split <;> simp <;> omega
theorem vnum_lt : ∀ l : List UInt8, vnum l < 128 ^ l.length
  | [] => by simp [vnum]
  | b :: l => by
    have := vnum_lt l
    simp only [vnum, List.length_cons, Nat.pow_succ]
    omega
theorem vnum_snoc : ∀ (l : List UInt8) (b : UInt8), vnum (l ++ [b]) = vnum l + 128 ^ l.length * (b.toNat % 128)
  | [], b => by simp [vnum]
  | x :: l, b => by
    simp only [List.cons_append, vnum, vnum_snoc l b, List.length_cons, Nat.pow_succ]
    rw [Nat.mul_add, Nat.mul_comm (128 ^ l.length) 128, Nat.mul_assoc]; omega
/-- The first k bytes go on, the next one does not. -/
theorem lead_at : ∀ (l : List UInt8) (k : Nat) (b : UInt8), (∀ j, j < k → ∃ c, l[j]? = some c ∧ 128 ≤ c.toNat) → l[k]? = some b → b.toNat < 128 → lead l = k
  | [], k, b, _, hb, _ => by simp at hb
  | x :: l, 0, b, _, hb, hlt => by
    simp at hb
    subst hb
    simp [lead, hlt]
  | x :: l, k + 1, b, h, hb, hlt => by
    obtain ⟨c, hc, hge⟩ := h 0 (by omega)
    simp at hc
    subst hc
    have := lead_at l k b (fun j hj => by
      obtain ⟨c, hc, hge⟩ := h (j + 1) (by omega)
      exact ⟨c, by simpa using hc, hge⟩) (by simpa using hb) hlt
    simp only [lead]
    rw [if_neg (by omega), this]
theorem lead_all : ∀ (l : List UInt8), (∀ j, j < l.length → ∃ c, l[j]? = some c ∧ 128 ≤ c.toNat) → lead l = l.length
  | [], _ => rfl
  | x :: l, h => by
    obtain ⟨c, hc, hge⟩ := h 0 (by simp)
    simp at hc
    subst hc
    have := lead_all l (fun j hj => by
      obtain ⟨c, hc, hge⟩ := h (j + 1) (by simp; omega)
      exact ⟨c, by simpa using hc, hge⟩)
    simp only [lead, List.length_cons]
    rw [if_neg (by omega), this]
theorem take_get {l : List UInt8} {n k : Nat} (h : k < n) : (l.take n)[k]? = l[k]? := by rw [List.getElem?_take, if_pos h]
theorem vget_ok {l : List UInt8} {k : Nat} {b : UInt8} (hk : k < 10) (h : ∀ j, j < k → ∃ c, l[j]? = some c ∧ 128 ≤ c.toNat) (hb : l[k]? = some b) (hlt : b.toNat < 128) :
    vget l = (vnum (l.take (k + 1)) % 18446744073709551616, k + 1, 0) := by
  have hl : lead (l.take 10) = k := lead_at _ k b (fun j hj => by rw [take_get (by omega)]; exact h j hj) (by rw [take_get hk]; exact hb) hlt
  have hkl : k < l.length := (List.getElem?_eq_some_iff.1 hb).1
  unfold vget
  rw [hl, if_neg (by omega), if_neg (by omega)]
theorem vget_long {l : List UInt8} (hl : 10 ≤ l.length) (h : ∀ j, j < 10 → ∃ c, l[j]? = some c ∧ 128 ≤ c.toNat) : vget l = (0, 0, 7) := by
  have hk : lead (l.take 10) = (l.take 10).length := lead_all _ (fun j hj => by
    have : j < 10 := by simp at hj; omega
    rw [take_get this]; exact h j this)
  unfold vget
  rw [hk, List.length_take, if_pos (by omega)]
theorem vget_cut {l : List UInt8} (hl : l.length < 10) (h : ∀ j, j < l.length → ∃ c, l[j]? = some c ∧ 128 ≤ c.toNat) : vget l = (0, 0, 6) := by
  have hk : lead (l.take 10) = l.length := by rw [List.take_of_length_le (by omega)]; exact lead_all _ h
  unfold vget
  rw [hk, if_neg (by omega), if_pos rfl]
theorem vget_lt (l : List UInt8) : (vget l).1 < 18446744073709551616 := by
  unfold vget
  split
  · decide
  · split
    · decide
    · exact Nat.mod_lt _ (by decide)

/-- What is read, from one place to another one, of a list: number, place behind it, error. -/
def getS (l : List UInt8) (a u : Nat) : Nat × Nat × Nat :=
  ((vget ((l.drop a).take (u - a))).1, (if (vget ((l.drop a).take (u - a))).2.2 = 0 then a + (vget ((l.drop a).take (u - a))).2.1 else 0), (vget ((l.drop a).take (u - a))).2.2)

theorem or_shift (x j b : Nat) (hx : x < 2 ^ j) (hj : j ≤ 64) : (x ||| (b * 2 ^ j) % 2 ^ 64) = (x + b * 2 ^ j) % 2 ^ 64 := by
  have h1 : (b * 2 ^ j) % 2 ^ 64 = (b % 2 ^ (64 - j)) * 2 ^ j := by
    rw [show (2 : Nat) ^ 64 = 2 ^ (64 - j) * 2 ^ j by rw [← Nat.pow_add]; congr 1; omega, Nat.mul_mod_mul_right]
  have h2 : (b % 2 ^ (64 - j)) * 2 ^ j + x = (b % 2 ^ (64 - j)) <<< j ||| x := by
    rw [← Nat.shiftLeft_add_eq_or_of_lt hx, Nat.shiftLeft_eq]
  have h3 : (b % 2 ^ (64 - j)) * 2 ^ j + x < 2 ^ 64 := by
    have ha : b % 2 ^ (64 - j) < 2 ^ (64 - j) := Nat.mod_lt _ (Nat.pow_pos (by decide))
    have hb : (b % 2 ^ (64 - j) + 1) * 2 ^ j ≤ 2 ^ (64 - j) * 2 ^ j := Nat.mul_le_mul_right _ ha
    rw [← Nat.pow_add, show 64 - j + j = 64 by omega, Nat.add_mul, Nat.one_mul] at hb
    omega
  have h4 : (x + b * 2 ^ j) % 2 ^ 64 = ((b * 2 ^ j) % 2 ^ 64 + x) % 2 ^ 64 := by rw [Nat.add_comm, Nat.mod_add_mod]
  rw [h4, h1, Nat.mod_eq_of_lt h3, Nat.or_comm, h2, Nat.shiftLeft_eq]

/-! ### What is put is got -/
theorem vput_cont : ∀ (n j : Nat), j + 1 < (vput n).length → ∃ c, (vput n)[j]? = some c ∧ 128 ≤ c.toNat := by
  intro n
  induction n using Nat.strongRecOn with
  | _ n ih =>
    intro j hj
    by_cases h : n < 128
    · rw [vput_small h] at hj; simp at hj
    · rw [vput_big h] at hj ⊢
      rcases j with _ | j
      · exact ⟨_, rfl, by rw [ofNat_toNat (by omega)]; omega⟩
      · obtain ⟨c, hc, hge⟩ := ih (n / 128) (by omega) j (by simpa using hj)
        exact ⟨c, by simpa using hc, hge⟩
theorem vput_last : ∀ (n : Nat), ∃ c, (vput n)[(vput n).length - 1]? = some c ∧ c.toNat < 128 := by
  intro n
  induction n using Nat.strongRecOn with
  | _ n ih =>
    by_cases h : n < 128
    · rw [vput_small h]; exact ⟨_, rfl, by rw [ofNat_toNat (by omega)]; exact h⟩
    · rw [vput_big h]
      obtain ⟨c, hc, hlt⟩ := ih (n / 128) (by omega)
      have hp : 1 ≤ (vput (n / 128)).length := by rw [vput_length]; exact vlong_pos _
      refine ⟨c, ?_, hlt⟩
      rw [List.length_cons, show (vput (n / 128)).length + 1 - 1 = ((vput (n / 128)).length - 1) + 1 by omega]
      simpa using hc
theorem vnum_vput : ∀ (n : Nat), vnum (vput n) = n := by
  intro n
  induction n using Nat.strongRecOn with
  | _ n ih =>
    by_cases h : n < 128
    · rw [vput_small h]; simp only [vnum]; rw [ofNat_toNat (by omega)]; omega
    · rw [vput_big h]; simp only [vnum]; rw [ih (n / 128) (by omega), ofNat_toNat (by omega)]; omega
theorem vput_pos (n : Nat) : 1 ≤ (vput n).length := by rw [vput_length]; exact vlong_pos _
theorem vget_vput {n : Nat} (hn : n < 18446744073709551616) (t : List UInt8) : vget (vput n ++ t) = (n, (vput n).length, 0) := by
  have hp := vput_pos n
  have h10 : (vput n).length ≤ 10 := by rw [vput_length]; exact vlong_le10 hn
  obtain ⟨c, hc, hlt⟩ := vput_last n
  rw [vget_ok (l := vput n ++ t) (k := (vput n).length - 1) (b := c) (by omega) (fun j hj => by
    obtain ⟨c, hc, hge⟩ := vput_cont n j (by omega)
    exact ⟨c, by rw [List.getElem?_append_left (by omega)]; exact hc, hge⟩) (by rw [List.getElem?_append_left (by omega)]; exact hc) hlt]
  rw [show (vput n).length - 1 + 1 = (vput n).length by omega, List.take_left, vnum_vput, Nat.mod_eq_of_lt hn]
theorem vget_vput_cut {n : Nat} (hn : n < 18446744073709551616) (t : List UInt8) : vget ((vput n ++ t).take ((vput n).length - 1)) = (0, 0, 6) := by
  have hp := vput_pos n
  have h10 : (vput n).length ≤ 10 := by rw [vput_length]; exact vlong_le10 hn
  have hl : ((vput n ++ t).take ((vput n).length - 1)).length = (vput n).length - 1 := by simp; omega
  refine vget_cut (by omega) (fun j hj => ?_)
  rw [hl] at hj
  obtain ⟨c, hc, hge⟩ := vput_cont n j (by omega)
  exact ⟨c, by rw [take_get hj, List.getElem?_append_left (by omega)]; exact hc, hge⟩
end Go.Proofs.YtpaggpcpflmpcaaDoor
