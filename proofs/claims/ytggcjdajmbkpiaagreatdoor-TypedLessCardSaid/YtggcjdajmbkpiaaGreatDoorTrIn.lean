/-
  The document's own Find and By: the contracts.
-/
import Derived.Test.YtggcjdajmbkpiaaGreatDoorRtRoot
import Derived.Laws.RangeAny
import Derived.Lib.Strings
import Derived.Test.YtggcjdajmbkpiaaGreatDoorText
import Derived.Lib.OthersKept
import Derived.Deep.QuietTactic
import Derived.BigQuiet
import Derived.Test.YtggcjdajmbkpiaaGreatDoorTrSize
import Derived.Deep.WholeRow
import Derived.Great.BuildSlice
import Derived.Test.YtggcjdajmbkpiaaGreatDoorTokSkip
import Derived.DeepKeys5
import Derived.OpenShut
namespace Go.Proofs.YtggcjdajmbkpiaaGreatDoor
set_option maxRecDepth 100000

open Go.RowKit

set_option maxRecDepth 1000000 in
set_option maxHeartbeats 4000000 in
theorem rBy_any (B : Nat) (s : Sc) (vM vE : Value) (m : Int) (x : Int) (w : World) (hB : B ≤ w.heap.size) (hs : SAt B w s vM vE) :
    Calls Tryz.prog 36 #[.agg #[vM, vE], .int .i64 m, .int .i64 x] w fun e w' => e = .returned (foundV (byS s m x)) ∧ Below w.heap.size w w' := by
  obtain ⟨xs, ys, ⟨A1, q1, rfl, s1, b1⟩, h2, ⟨A2, q2, rfl, s2, b2⟩, h4⟩ := hs
  have hb0 : Below w.heap.size w ((w.alloc (.cells #[.slice A1 s.M.length q1, .slice A2 s.E.length q2] 25)).alloc (.cells #[.int .i64 0, .string ⟨#[]⟩, .int .i64 0, .int .i64 0, .bool false, .int .i64 0, .int .i64 0] 64)) := below_lit (below_new _ _) _
  have hx0 : ((w.alloc (.cells #[.slice A1 s.M.length q1, .slice A2 s.E.length q2] 25)).alloc (.cells #[.int .i64 0, .string ⟨#[]⟩, .int .i64 0, .int .i64 0, .bool false, .int .i64 0, .int .i64 0] 64)).heap[w.heap.size]? = some (.cells #[.slice A1 s.M.length q1, .slice A2 s.E.length q2] 25 (0, 0)) := ((below_new _ _).block _ (by simp)).trans (heap_alloc_new w _)
  have hr0 := heap_second w (.cells #[.slice A1 s.M.length q1, .slice A2 s.E.length q2] 25) (.cells #[.int .i64 0, .string ⟨#[]⟩, .int .i64 0, .int .i64 0, .bool false, .int .i64 0, .int .i64 0] 64)
  have hsm : s.M.length ≤ 9223372036854775807 := by have h1 := s1.le; have h2 := s1.cap; unfold maxLen at h2; omega
  have HM := Lib.hid (s1.low b1 (Low.below hb0 hB))
  have HMA := Lib.hid (h2.low (Low.below hb0 hB))
  have HB0 := Lib.hid hb0
  clear s1 h2 s2 h4 hB b1 b2
  go_enter Tryz.func36, Tryz.ntmps36
  go_upto_region 1 with fail
  obtain ⟨W0, hW0⟩ : ∃ W, W = ((w.alloc (.cells #[.slice A1 s.M.length q1, .slice A2 s.E.length q2] 25)).alloc (.cells #[.int .i64 0, .string ⟨#[]⟩, .int .i64 0, .int .i64 0, .bool false, .int .i64 0, .int .i64 0] 64)) := ⟨_, rfl⟩
  rw [← hW0] at HM HMA HB0 hx0 hr0 ⊢
  clear hW0 hb0
  have v0 := heap_cell hx0 0
  simp at v0
  by_cases hm : 0 ≤ m ∧ m < s.M.length
  · obtain ⟨k, rfl⟩ : ∃ k : Nat, m = k := ⟨m.toNat, by omega⟩
    have hlt : k < s.M.length := by omega
    obtain ⟨d, hd0⟩ : ∃ d, s.M[k]? = some d := ⟨_, List.getElem?_eq_getElem hlt⟩
    have hn : byS s (k : Int) x = d.F.find? (fun y => y.no == x) := by
      have e : msgAt s (k : Int) = some d := by unfold msgAt; rw [if_neg (by omega), Int.toNat_natCast, hd0]
      unfold byS
      rw [e]
      rfl
    obtain ⟨ad, vF, rfl, hg, hmr, c0, c1⟩ := mdr_at HM.out HMA.out hd0
    obtain ⟨AF, cF, rfl, sF, aF⟩ := hmr
    have hfl : d.F.length ≤ 9223372036854775807 := by have h1 := sF.le; have h2 := sF.cap; unfold maxLen at h2; omega
    have HSF := Lib.hid sF
    have HN := Lib.hid hn
    have HX0 := Lib.hid hx0
    have HR0 := Lib.hid hr0
    have h1 : decide ((k : Int) < 0) = false := by rw [decide_eq_false_iff_not]; omega
    have h2 : decide ((s.M.length : Int) ≤ (k : Int)) = false := by rw [decide_eq_false_iff_not]; omega
    have h3 : decide ((k : Int) ≥ (s.M.length : Int)) = false := by rw [decide_eq_false_iff_not]; omega
    clear hm hn sF hd0 hx0 hr0
    go_wp2
    go_loopw [8] (fun i wr => ∃ j : Nat, i = .int .i64 j ∧ j ≤ d.F.length ∧ (∀ i y, i < j → d.F[i]? = some y → (y.no == x) = false) ∧ wr = W0) (fun i _ => d.F.length - (intOf i).toNat)
    case atStart => exact ⟨0, rfl, by omega, fun j y hj => by omega, rfl⟩
    case round =>
      obtain ⟨j, rfl, hj, herr, rfl⟩ := hrel
      have HQ := Lib.hid herr
      clear herr
      by_cases hlj : j < d.F.length
      · obtain ⟨y, hy⟩ : ∃ d', d.F[j]? = some d' := ⟨_, List.getElem?_eq_getElem hlj⟩
        obtain ⟨ad3, rfl, hg3, k0, k1, k2, k3, k4, k5, k6⟩ := dfr_at HSF.out hy
        have HY := Lib.hid hy
        clear hy
        skip
        by_cases hx : y.no = x
        · have he : (y.no == x) = true := beq_iff_eq.2 hx
          have HF := Lib.hid (HN.out.trans (find_first HQ.out HY.out (beq_iff_eq.2 hx)))
          clear hx
          go_wp2_with (refine wpList_store_df rfl _ _ rfl rfl (w.heap.size + 1) _ _ _ _ _ _ _ _ _ _ _ _ _ _ rfl rfl _ HR0.out ?_)
          refine bodyPost_ret (results_df1 rfl _ _ (w.heap.size + 1) _ _ _ _ _ _ _ _ (0, 0) rfl (setRow_heap _ _ _ _ _ _ HR0.out)) rfl ?_
          exact ⟨by rw [HF.out]; rfl, below_setRow HB0.out (by omega) _⟩
        · have he : (y.no == x) = false := beq_eq_false_iff_ne.2 hx
          have HX := Lib.hid (show (y.no == x) = false from beq_eq_false_iff_ne.2 hx)
          clear hx
          go_wp2
          exact ⟨⟨j + 1, by go_num, by omega, not_next (P := fun y => (y.no == x) = false) HY.out HX.out HQ.out, trivial⟩, by simp [intOf]; omega⟩
      · obtain rfl : j = d.F.length := by omega
        have HF := Lib.hid (HN.out.trans (find_none HQ.out))
        go_wp2_with (refine wpList_store_df rfl _ _ rfl rfl (w.heap.size + 1) _ _ _ _ _ _ _ _ _ _ _ _ _ _ rfl rfl _ HR0.out ?_)
        refine bodyPost_ret (results_df1 rfl _ _ (w.heap.size + 1) _ _ _ _ _ _ _ _ (0, 0) rfl (setRow_heap _ _ _ _ _ _ HR0.out)) rfl ?_
        exact ⟨by rw [HF.out]; rfl, below_setRow HB0.out (by omega) _⟩
  · have HN : Hid (byS s m x = none) := Lib.hid (by
      have e : msgAt s m = none := by
        unfold msgAt
        split
        · rfl
        · exact List.getElem?_eq_none (by omega)
      unfold byS
      rw [e]
      rfl)
    obtain ⟨v1, hv1⟩ : ∃ v, decide (m < 0) = v := ⟨_, rfl⟩
    obtain ⟨v2, hv2⟩ : ∃ v, decide ((s.M.length : Int) ≤ m) = v := ⟨_, rfl⟩
    have HV : Hid ((v1 || v2) = true) := Lib.hid (by rw [← hv1, ← hv2]; simp only [Bool.or_eq_true, decide_eq_true_eq]; omega)
    have hv3 : decide (m ≥ (s.M.length : Int)) = v2 := hv2
    clear hm
    cases v1 <;> cases v2
    · exact absurd HV.out (by simp)
    all_goals
      go_wp2_with (refine wpList_store_df rfl _ _ rfl rfl (w.heap.size + 1) _ _ _ _ _ _ _ _ _ _ _ _ _ _ rfl rfl _ hr0 ?_)
      refine bodyPost_ret (results_df1 rfl _ _ (w.heap.size + 1) _ _ _ _ _ _ _ _ (0, 0) rfl (setRow_heap _ _ _ _ _ _ hr0)) rfl ?_
      exact ⟨by rw [HN.out]; rfl, below_setRow HB0.out (by omega) _⟩
end Go.Proofs.YtggcjdajmbkpiaaGreatDoor
/-
  Signs of UTF-8, on lists alone: how many bytes a sign has, how many first bytes are signs, what the model's own decoder makes of the same bytes; one text less than another one.
-/
namespace Go.Proofs.YtggcjdajmbkpiaaGreatDoor.T4
set_option maxRecDepth 100000

/-- How many bytes the sign has with which n bytes begin, of which the first four are these; 0: none. -/
def sg (n b0 b1 b2 b3 : Nat) : Nat :=
  if n = 0 then 0
  else if b0 ≤ 127 then 1
  else if 194 ≤ b0 ∧ b0 ≤ 223 then (if 2 ≤ n ∧ 128 ≤ b1 ∧ b1 ≤ 191 then 2 else 0)
  else if 224 ≤ b0 ∧ b0 ≤ 239 then (if 3 ≤ n ∧ 128 ≤ b1 ∧ b1 ≤ 191 ∧ 128 ≤ b2 ∧ b2 ≤ 191 ∧ ¬ (b0 = 224 ∧ b1 < 160) ∧ ¬ (b0 = 237 ∧ 159 < b1) then 3 else 0)
  else if 240 ≤ b0 ∧ b0 ≤ 244 then (if 4 ≤ n ∧ 128 ≤ b1 ∧ b1 ≤ 191 ∧ 128 ≤ b2 ∧ b2 ≤ 191 ∧ 128 ≤ b3 ∧ b3 ≤ 191 ∧ ¬ (b0 = 240 ∧ b1 < 144) ∧ ¬ (b0 = 244 ∧ 143 < b1) then 4 else 0)
  else 0
def by' (l : List UInt8) (k : Nat) : Nat := (l.getD k 0).toNat
def sgn (l : List UInt8) : Nat := sg l.length (by' l 0) (by' l 1) (by' l 2) (by' l 3)

theorem by_lt (l : List UInt8) (k : Nat) : by' l k < 256 := (l.getD k 0).toNat_lt
theorem sg_le (n b0 b1 b2 b3 : Nat) : sg n b0 b1 b2 b3 ≤ n ∧ sg n b0 b1 b2 b3 ≤ 4 := by
  unfold sg
  split
  · omega
  split
  · omega
  split
  · split <;> omega
  split
  · split <;> omega
  split
  · split <;> omega
  · omega
theorem sgn_le (l : List UInt8) : sgn l ≤ l.length := (sg_le _ _ _ _ _).1
theorem sgn_le4 (l : List UInt8) : sgn l ≤ 4 := (sg_le _ _ _ _ _).2

/-- How many bytes are signs, from the first one on. -/
def first (l : List UInt8) : Nat := if h : sgn l = 0 then 0 else sgn l + first (l.drop (sgn l))
termination_by l.length
decreasing_by
  have := sgn_le l
  simp only [List.length_drop]
  omega
theorem first_none {l : List UInt8} (h : sgn l = 0) : first l = 0 := by rw [first, dif_pos h]
theorem first_some {l : List UInt8} (h : sgn l ≠ 0) : first l = sgn l + first (l.drop (sgn l)) := by rw [first, dif_neg h]
theorem first_le (l : List UInt8) : first l ≤ l.length := by
  induction l using first.induct with
  | case1 l h => rw [first_none h]; omega
  | case2 l h ih =>
    rw [first_some h]
    have := sgn_le l
    simp only [List.length_drop] at ih
    omega
theorem sgn_nil : sgn [] = 0 := rfl
theorem first_nil : first [] = 0 := first_none rfl
/-- What stands behind a sign changes nothing of it. -/
theorem by_append (l m : List UInt8) {k : Nat} (h : k < l.length) : by' (l ++ m) k = by' l k := by
  unfold by'
  rw [List.getD_eq_getElem?_getD, List.getD_eq_getElem?_getD, List.getElem?_append_left h]
theorem by_take (l : List UInt8) {k n : Nat} (h : k < n) : by' (l.take n) k = by' l k := by
  unfold by'
  rw [List.getD_eq_getElem?_getD, List.getD_eq_getElem?_getD, List.getElem?_take, if_pos h]
theorem sgn_append {l : List UInt8} (m : List UInt8) (h : sgn l ≠ 0) : sgn (l ++ m) = sgn l := by
  unfold sgn at h ⊢
  have hl : (l ++ m).length = l.length + m.length := List.length_append
  rw [hl]
  rcases Nat.lt_or_ge 0 l.length with h0 | h0
  · rw [by_append l m h0]
    rcases Nat.lt_or_ge 1 l.length with h1 | h1
    · rw [by_append l m h1]
      rcases Nat.lt_or_ge 2 l.length with h2 | h2
      · rw [by_append l m h2]
        rcases Nat.lt_or_ge 3 l.length with h3 | h3
        · rw [by_append l m h3]
          unfold sg at h ⊢
          grind
        · unfold sg at h ⊢
          grind
      · unfold sg at h ⊢
        grind
    · unfold sg at h ⊢
      grind
  · exfalso
    apply h
    unfold sg
    rw [if_pos (by omega)]
theorem first_append {l : List UInt8} (m : List UInt8) (h : first l = l.length) : first (l ++ m) = l.length + first m := by
  induction l using first.induct with
  | case1 l h0 =>
    rw [first_none h0] at h
    obtain rfl : l = [] := List.eq_nil_of_length_eq_zero h.symm
    simp
  | case2 l h0 ih =>
    rw [first_some h0] at h
    have hle := sgn_le l
    have hd : (l ++ m).drop (sgn l) = l.drop (sgn l) ++ m := by rw [List.drop_append_of_le_length hle]
    have h2 := ih (by simp only [List.length_drop]; omega)
    rw [first_some (by rw [sgn_append m h0]; exact h0), sgn_append m h0, hd, h2]
    simp only [List.length_drop]
    omega
theorem sgn_take {l : List UInt8} {n : Nat} (h : sgn l ≠ 0) (hn : sgn l ≤ n) : sgn (l.take n) = sgn l := by
  have hl : (l.take n).length = min n l.length := List.length_take
  have hle := sgn_le l
  unfold sgn at h hn hle ⊢
  rw [hl]
  rcases Nat.lt_or_ge 0 n with h0 | h0
  · rw [by_take l h0]
    rcases Nat.lt_or_ge 1 n with h1 | h1
    · rw [by_take l h1]
      rcases Nat.lt_or_ge 2 n with h2 | h2
      · rw [by_take l h2]
        rcases Nat.lt_or_ge 3 n with h3 | h3
        · rw [by_take l h3]
          unfold sg at h hn hle ⊢
          grind
        · unfold sg at h hn hle ⊢
          grind
      · unfold sg at h hn hle ⊢
        grind
    · unfold sg at h hn hle ⊢
      grind
  · omega
theorem first_take (l : List UInt8) : first (l.take (first l)) = first l := by
  induction l using first.induct with
  | case1 l h => rw [first_none h, List.take_zero, first_nil]
  | case2 l h ih =>
    rw [first_some h]
    have ht : sgn (l.take (sgn l + first (l.drop (sgn l)))) = sgn l := sgn_take h (by omega)
    rw [first_some (by rw [ht]; exact h), ht, List.drop_take, Nat.add_sub_cancel_left, ih]
/-- No beginning is fine that goes one byte further. -/
theorem sgn_one {l : List UInt8} (h : sgn l = 0) : sgn (l.take 1) = 0 := by
  have hl : (l.take 1).length = min 1 l.length := List.length_take
  unfold sgn at h ⊢
  rw [hl, by_take l (by omega : 0 < 1)]
  unfold sg at h ⊢
  grind
theorem first_more (l : List UInt8) : first (l.take (first l + 1)) = first l := by
  induction l using first.induct with
  | case1 l h => rw [first_none h, Nat.zero_add, first_none (sgn_one h)]
  | case2 l h ih =>
    rw [first_some h]
    have ht : sgn (l.take (sgn l + first (l.drop (sgn l)) + 1)) = sgn l := sgn_take h (by omega)
    rw [first_some (by rw [ht]; exact h), ht, List.drop_take, Nat.add_assoc, Nat.add_sub_cancel_left, ih]
/-- Bytes below 128 are fine. -/
theorem first_low (l : List UInt8) (h : ∀ b ∈ l, b.toNat < 128) : first l = l.length := by
  induction l with
  | nil => exact first_nil
  | cons b l ih =>
    have hb := h b (by simp)
    have hs : sgn (b :: l) = 1 := by
      unfold sgn sg by'
      rw [if_neg (by simp), if_pos (by simpa using by omega)]
    rw [first_some (by omega), hs, List.drop_one, List.tail_cons, ih (fun c hc => h c (by simp [hc]))]
    simp
    omega
/-- A byte that is in no sign is where what is fine ends. -/
def badN (b : Nat) : Prop := 245 ≤ b ∨ b = 192 ∨ b = 193
theorem sgn_bad {l : List UInt8} {k : Nat} (hk : k < l.length) (hb : badN (by' l k)) : sgn l ≤ k := by
  unfold badN at hb
  rcases Nat.lt_or_ge k 4 with h4 | h4
  · have h0 : k = 0 ∨ k = 1 ∨ k = 2 ∨ k = 3 := by omega
    unfold sgn sg
    rcases h0 with rfl | rfl | rfl | rfl <;> grind
  · have := sgn_le4 l
    omega
theorem by_drop (l : List UInt8) (n k : Nat) : by' (l.drop n) k = by' l (n + k) := by
  unfold by'
  rw [List.getD_eq_getElem?_getD, List.getD_eq_getElem?_getD, List.getElem?_drop]
theorem first_bad {l : List UInt8} : ∀ {k : Nat}, k < l.length → badN (by' l k) → first l ≤ k := by
  induction l using first.induct with
  | case1 l h => intro k _ _; rw [first_none h]; omega
  | case2 l h ih =>
    intro k hk hb
    have h1 := sgn_bad hk hb
    have h2 := ih (k := k - sgn l) (by simp only [List.length_drop]; omega) (by rw [by_drop, Nat.add_sub_cancel' h1]; exact hb)
    rw [first_some h]
    omega

/-! ### The model's own decoder -/

def dec (n b0 b1 b2 b3 : Nat) : Nat × Nat :=
  if b0 < 0x80 then (b0, 1)
  else if b0 / 32 == 6 && (decide (1 < n) && b1 / 64 == 2) then
    let c := (b0 % 32) * 64 + b1 % 64
    if c ≥ 0x80 then (c, 2) else (Utf8.runeError, 1)
  else if b0 / 16 == 14 && (decide (1 < n) && b1 / 64 == 2) && (decide (2 < n) && b2 / 64 == 2) then
    let c := (b0 % 16) * 4096 + (b1 % 64) * 64 + b2 % 64
    if c ≥ 0x800 && Utf8.valid c then (c, 3) else (Utf8.runeError, 1)
  else if b0 / 8 == 30 && (decide (1 < n) && b1 / 64 == 2) && (decide (2 < n) && b2 / 64 == 2) && (decide (3 < n) && b3 / 64 == 2) then
    let c := (b0 % 8) * 262144 + (b1 % 64) * 4096 + (b2 % 64) * 64 + b3 % 64
    if c ≥ 0x10000 && Utf8.valid c then (c, 4) else (Utf8.runeError, 1)
  else (Utf8.runeError, 1)

/-- Of a sign the decoder tells its bytes, and U+FFFD of just the one that is written so; of no sign it tells U+FFFD, and one byte. -/
theorem dec_sg (n b0 b1 b2 b3 : Nat) (hn : 0 < n) (h0 : b0 < 256) (h1 : b1 < 256) (h2 : b2 < 256) (h3 : b3 < 256) :
    (sg n b0 b1 b2 b3 = 0 → dec n b0 b1 b2 b3 = (65533, 1) ∧ ¬ (3 ≤ n ∧ b0 = 239 ∧ b1 = 191 ∧ b2 = 189)) ∧
    (sg n b0 b1 b2 b3 ≠ 0 → (dec n b0 b1 b2 b3).2 = sg n b0 b1 b2 b3 ∧ ((dec n b0 b1 b2 b3).1 = 65533 → 3 ≤ n ∧ b0 = 239 ∧ b1 = 191 ∧ b2 = 189)) := by
  have v3 : ∀ a b c : Nat, a < 16 → b < 64 → c < 64 → Utf8.valid ((a * 4096 + b * 64 + c : Nat) : Int) = !decide (a = 13 ∧ 32 ≤ b) := by
    intro a b c ha hb hc
    unfold Utf8.valid
    rw [Bool.eq_iff_iff]
    simp only [Bool.or_eq_true, Bool.and_eq_true, decide_eq_true_eq, Bool.not_eq_true', decide_eq_false_iff_not]
    omega
  have v4 : ∀ a b c d : Nat, a < 8 → b < 64 → c < 64 → d < 64 → 65536 ≤ a * 262144 + b * 4096 + c * 64 + d → Utf8.valid ((a * 262144 + b * 4096 + c * 64 + d : Nat) : Int) = !decide (4 < a ∨ a = 4 ∧ 16 ≤ b) := by
    intro a b c d ha hb hc hd hg
    unfold Utf8.valid
    rw [Bool.eq_iff_iff]
    simp only [Bool.or_eq_true, Bool.and_eq_true, decide_eq_true_eq, Bool.not_eq_true', decide_eq_false_iff_not]
    omega
  have w3 := v3 (b0 % 16) (b1 % 64) (b2 % 64) (by omega) (by omega) (by omega)
  have w4 := v4 (b0 % 8) (b1 % 64) (b2 % 64) (b3 % 64) (by omega) (by omega) (by omega) (by omega)
  clear v3 v4
  unfold sg dec Utf8.runeError
  rw [if_neg (by omega : ¬ n = 0)]
  by_cases c0 : b0 ≤ 127
  · rw [if_pos c0, if_pos (by omega)]
    exact ⟨by omega, fun _ => ⟨rfl, by simp only; omega⟩⟩
  rw [if_neg c0, if_neg (by omega : ¬ b0 < 128)]
  have n3 : ∀ V : Bool, (V = true) = (V = true) := fun _ => rfl
  by_cases c1 : b0 / 32 = 6
  · have e1 : (b0 / 32 == 6) = true := by simpa using c1
    have g1 : ¬ (224 ≤ b0 ∧ b0 ≤ 239) := by omega
    have g2 : ¬ (240 ≤ b0 ∧ b0 ≤ 244) := by omega
    have e2 : (b0 / 16 == 14) = false := by simp; omega
    have e3 : (b0 / 8 == 30) = false := by simp; omega
    clear w3 w4 n3
    simp only [e1, e2, e3, Bool.true_and, Bool.false_and, if_neg g1, if_neg g2, Bool.and_eq_true, decide_eq_true_eq, beq_iff_eq, ge_iff_le, Bool.false_eq_true, if_false]
    constructor
    · intro hs
      refine ⟨?_, by omega⟩
      split
      · split
        · exfalso
          rw [if_pos (by omega), if_pos (by omega)] at hs
          omega
        · rfl
      · rfl
    · intro hs
      have hg : 194 ≤ b0 ∧ b0 ≤ 223 := by
        by_cases hg : 194 ≤ b0 ∧ b0 ≤ 223
        · exact hg
        · rw [if_neg hg] at hs; omega
      rw [if_pos hg] at hs ⊢
      have hk : 2 ≤ n ∧ 128 ≤ b1 ∧ b1 ≤ 191 := by
        by_cases hk : 2 ≤ n ∧ 128 ≤ b1 ∧ b1 ≤ 191
        · exact hk
        · rw [if_neg hk] at hs; omega
      rw [if_pos hk, if_pos (by omega), if_pos (by omega)]
      exact ⟨rfl, by simp only; omega⟩
  by_cases c2 : b0 / 16 = 14
  · have e1 : (b0 / 32 == 6) = false := by simp; omega
    have g1 : ¬ (194 ≤ b0 ∧ b0 ≤ 223) := by omega
    have g2 : 224 ≤ b0 ∧ b0 ≤ 239 := by omega
    have e2 : (b0 / 16 == 14) = true := by simpa using c2
    have e3 : (b0 / 8 == 30) = false := by simp; omega
    clear w4 n3
    simp only [e1, e2, e3, w3, Bool.true_and, Bool.false_and, if_neg g1, if_pos g2, Bool.and_eq_true, decide_eq_true_eq, beq_iff_eq, ge_iff_le, Bool.false_eq_true, if_false, Bool.not_eq_true', decide_eq_false_iff_not]
    clear w3
    constructor
    · intro hs
      refine ⟨?_, ?_⟩
      · split
        · split
          · exfalso
            rw [if_pos (by omega)] at hs
            omega
          · rfl
        · rfl
      · intro hx
        rw [if_pos (by omega)] at hs
        omega
    · intro hs
      have hk : 3 ≤ n ∧ 128 ≤ b1 ∧ b1 ≤ 191 ∧ 128 ≤ b2 ∧ b2 ≤ 191 ∧ ¬ (b0 = 224 ∧ b1 < 160) ∧ ¬ (b0 = 237 ∧ 159 < b1) := by
        by_cases hk : 3 ≤ n ∧ 128 ≤ b1 ∧ b1 ≤ 191 ∧ 128 ≤ b2 ∧ b2 ≤ 191 ∧ ¬ (b0 = 224 ∧ b1 < 160) ∧ ¬ (b0 = 237 ∧ 159 < b1)
        · exact hk
        · rw [if_neg hk] at hs; omega
      rw [if_pos hk, if_pos (by omega), if_pos (by omega)]
      exact ⟨rfl, by simp only; omega⟩
  by_cases c3 : b0 / 8 = 30
  · have e1 : (b0 / 32 == 6) = false := by simp; omega
    have g1 : ¬ (194 ≤ b0 ∧ b0 ≤ 223) := by omega
    have g2 : ¬ (224 ≤ b0 ∧ b0 ≤ 239) := by omega
    have e2 : (b0 / 16 == 14) = false := by simp; omega
    have e3 : (b0 / 8 == 30) = true := by simpa using c3
    clear w3 n3
    simp only [e1, e2, e3, Bool.true_and, Bool.false_and, if_neg g1, if_neg g2, Bool.and_eq_true, decide_eq_true_eq, beq_iff_eq, ge_iff_le, Bool.false_eq_true, if_false, Bool.not_eq_true', decide_eq_false_iff_not]
    constructor
    · intro hs
      refine ⟨?_, by omega⟩
      split
      · split
        · rename_i hq
          exfalso
          have hv := w4 hq.1
          rw [hq.2] at hv
          have hv : ¬ (4 < b0 % 8 ∨ b0 % 8 = 4 ∧ 16 ≤ b1 % 64) := by
            rw [eq_comm, Bool.not_eq_true', decide_eq_false_iff_not] at hv
            exact hv
          rw [if_pos (by omega), if_pos (by omega)] at hs
          omega
        · rfl
      · rfl
    · intro hs
      have hg : 240 ≤ b0 ∧ b0 ≤ 244 := by
        by_cases hg : 240 ≤ b0 ∧ b0 ≤ 244
        · exact hg
        · rw [if_neg hg] at hs; omega
      rw [if_pos hg] at hs ⊢
      have hk : 4 ≤ n ∧ 128 ≤ b1 ∧ b1 ≤ 191 ∧ 128 ≤ b2 ∧ b2 ≤ 191 ∧ 128 ≤ b3 ∧ b3 ≤ 191 ∧ ¬ (b0 = 240 ∧ b1 < 144) ∧ ¬ (b0 = 244 ∧ 143 < b1) := by
        by_cases hk : 4 ≤ n ∧ 128 ≤ b1 ∧ b1 ≤ 191 ∧ 128 ≤ b2 ∧ b2 ≤ 191 ∧ 128 ≤ b3 ∧ b3 ≤ 191 ∧ ¬ (b0 = 240 ∧ b1 < 144) ∧ ¬ (b0 = 244 ∧ 143 < b1)
        · exact hk
        · rw [if_neg hk] at hs; omega
      have hge : 65536 ≤ b0 % 8 * 262144 + b1 % 64 * 4096 + b2 % 64 * 64 + b3 % 64 := by omega
      have hv := w4 hge
      have hd : decide (4 < b0 % 8 ∨ b0 % 8 = 4 ∧ 16 ≤ b1 % 64) = false := by simp only [decide_eq_false_iff_not]; omega
      rw [hd, Bool.not_false] at hv
      have hc : ((1 < n ∧ b1 / 64 = 2) ∧ 2 < n ∧ b2 / 64 = 2) ∧ 3 < n ∧ b3 / 64 = 2 := by omega
      rw [if_pos hk]
      simp only [hc, hv, hge, and_self, if_true, true_and]
      omega
  have e1 : (b0 / 32 == 6) = false := by simp; omega
  have g1 : ¬ (194 ≤ b0 ∧ b0 ≤ 223) := by omega
  have g2 : ¬ (224 ≤ b0 ∧ b0 ≤ 239) := by omega
  have g3 : ¬ (240 ≤ b0 ∧ b0 ≤ 244) := by omega
  have e2 : (b0 / 16 == 14) = false := by simp; omega
  have e3 : (b0 / 8 == 30) = false := by simp; omega
  simp only [e1, e2, e3, Bool.false_and, if_neg g1, if_neg g2, if_neg g3, Bool.false_eq_true, if_false]
  exact ⟨fun _ => ⟨trivial, by omega⟩, fun h => absurd rfl h⟩

theorem getBang (s : ByteArray) (i : Nat) : s.get! i = s.data.toList.getD i 0 := by
  rcases Nat.lt_or_ge i s.size with h | h
  · have h' : i < s.data.size := h
    rw [List.getD_eq_getElem?_getD, List.getElem?_eq_getElem (by simpa using h)]
    exact (getElem!_pos s.data i h').trans (by simp)
  · rw [List.getD_eq_getElem?_getD, List.getElem?_eq_none (by simpa using h)]
    have h' : ¬ i < s.data.size := Nat.not_lt.2 h
    exact (getElem!_neg s.data i h').trans rfl
theorem decode_dec (s : ByteArray) (i : Nat) (hi : i ≤ s.size) : Utf8.decode s i = dec (s.data.toList.drop i).length (by' (s.data.toList.drop i) 0) (by' (s.data.toList.drop i) 1) (by' (s.data.toList.drop i) 2) (by' (s.data.toList.drop i) 3) := by
  have hl : (s.data.toList.drop i).length = s.size - i := by simp
  have hc : ∀ k, (s.get! (i + k)).toNat = by' (s.data.toList.drop i) k := by
    intro k
    rw [by_drop, getBang]
    rfl
  have ht : ∀ k, decide (i + k < s.size) = decide (k < (s.data.toList.drop i).length) := by
    intro k
    rw [hl]
    congr 1
    exact propext ⟨by omega, by omega⟩
  simp only [Utf8.decode, hc, ht, dec]

/-- What the decoder tells at a place, by what stands there: a sign, or none. -/
theorem decode_sign (s : ByteArray) (i : Nat) (hi : i < s.size) :
    (sgn (s.data.toList.drop i) = 0 → Utf8.decode s i = (65533, 1) ∧ ¬ ((s.data.toList.drop i).take 3 = [239, 191, 189])) ∧
    (sgn (s.data.toList.drop i) ≠ 0 → (Utf8.decode s i).2 = sgn (s.data.toList.drop i) ∧ ((Utf8.decode s i).1 = 65533 → (s.data.toList.drop i).take 3 = [239, 191, 189])) := by
  rw [decode_dec s i (by omega)]
  have hl : (s.data.toList.drop i).length = s.size - i := by simp
  generalize s.data.toList.drop i = l at *
  have h3 : l.take 3 = [239, 191, 189] ↔ 3 ≤ l.length ∧ by' l 0 = 239 ∧ by' l 1 = 191 ∧ by' l 2 = 189 := by
    rcases l with _ | ⟨a, _ | ⟨b, _ | ⟨c, l⟩⟩⟩
    · simp
    · simp
    · simp
    · simp [by', ← UInt8.toNat_inj]
  rw [h3]
  exact dec_sg l.length _ _ _ _ (by omega) (by_lt _ _) (by_lt _ _) (by_lt _ _) (by_lt _ _)
end Go.Proofs.YtggcjdajmbkpiaaGreatDoor.T4
/-
  How many first bytes are signs: the contract of the function that goes through them.
-/
namespace Go.Proofs.YtggcjdajmbkpiaaGreatDoor.T4
set_option maxRecDepth 100000

open Go.RowKit

theorem prefix_any (s p : ByteArray) (w : World) :
    Calls Tryz.prog 231 #[.string s, .string p] w fun e w' => e = .returned (.bool (Lib.hasPrefix s.data.toList p.data.toList)) ∧ w = w' := by
  rw [← Lib.hasPrefix_of_take, ← Lib.size_eq, ← Lib.size_eq]
  go_enter Tryz.func231, Tryz.ntmps231
  go_wp2
  · rename_i h
    go_ret
    refine ⟨?_, rfl⟩
    show Ending.returned (Value.bool ((s.extract 0 p.size).toList == p.toList)) = _
    rw [Lib.extract_toList, Lib.toList_data]
    simp [h]
  · rename_i h
    go_ret
    refine ⟨?_, rfl⟩
    show Ending.returned (Value.bool false) = _
    simp [h]

theorem prefix3 (s : ByteArray) (pos : Nat) : Lib.hasPrefix (s.extract pos s.size).data.toList [239, 191, 189] = decide ((s.data.toList.drop pos).take 3 = [239, 191, 189]) := by
  rw [← Lib.hasPrefix_of_take, ← Lib.toList_data, Lib.extract_toList]
  have hsz : s.data.toList.length = s.size := by simp
  rw [List.take_of_length_le (by rw [List.length_drop, hsz]; exact Nat.le_refl _)]
  generalize s.data.toList.drop pos = l
  rw [Bool.eq_iff_iff]
  simp only [List.length_cons, List.length_nil, Bool.and_eq_true, decide_eq_true_eq, beq_iff_eq]
  constructor
  · exact fun h => h.2
  · intro h
    have := congrArg List.length h
    simp at this
    exact ⟨by omega, h⟩
set_option maxRecDepth 1000000 in
theorem first_any (A : Option Addr) (c : Nat) (l : List UInt8) (hl : l.length ≤ 140737488351232) (w : World) (hr : SlB w A c l) :
    Calls Tryz.prog 203 #[.slice A l.length c] w fun e w' => e = .returned (.int .i64 (first l)) ∧ Below w.heap.size w w' := by
  have hcv := run_str_of_bytes (P := Tryz.prog) w 51 9 5 Tryz.underlying51 Tryz.underlying5 Tryz.underlying9 A c l hr
  have hss := txt_size l
  obtain ⟨s, hs⟩ : ∃ s, s = txt l := ⟨_, rfl⟩
  rw [← hs] at hcv hss
  have HS := Lib.hid hs
  have HSZ := Lib.hid hss
  have hsz : s.size ≤ 140737488351232 := by omega
  clear hs hss
  go_enter Tryz.func203, Tryz.ntmps203
  go_wp2_with fail
  go_step3
  go_wp2_with fail
  go_step3
  go_wp2_with fail
  go_loopw [4] (fun p w' => ∃ pos : Nat, w' = w.iter s pos ∧ p = .int .i64 l.length ∧ pos ≤ l.length ∧ first l = pos + first (l.drop pos)) (fun _ w' => s.size - w'.iterPos w.heap.size)
  case atStart => exact ⟨0, rfl, rfl, by omega, by simp⟩
  case round =>
    obtain ⟨pos, rfl, rfl, hpl, hf⟩ := hrel
    have HF := Lib.hid hf
    clear hf
    by_cases hp : pos < s.size
    · have hnx : ∀ ty, (Instr.next (.pointer (some ⟨w.heap.size, 0, none⟩)) true ty).run Tryz.prog (w.iter s pos) = _ := fun ty => run_next_any w s pos ty hp
      have hsg := decode_sign s pos hp
      have hdl : s.data.toList.drop pos = l.drop pos := by rw [HS.out, txt_list]
      rw [hdl] at hsg
      have hpre := prefix3 s pos
      rw [hdl] at hpre
      have hle := sgn_le (l.drop pos)
      have hll : (l.drop pos).length = l.length - pos := List.length_drop
      obtain ⟨d, hd⟩ : ∃ d, d = Utf8.decode s pos := ⟨_, rfl⟩
      rw [← hd] at hnx hsg
      clear hd hdl
      by_cases hz : sgn (l.drop pos) = 0
      · obtain ⟨rfl, hno⟩ := hsg.1 hz
        have HP := Lib.hid (hpre.trans (show decide _ = false by simp [hno]))
        have HR := Lib.hid (HF.out.trans (by rw [first_none hz, Nat.add_zero] : _ = pos))
        clear hsg hpre hno hz hle hll
        go_wp2_with fail
        refine (prefix_any _ _ _).mono ?_
        rw [HP.out]
        rintro e w' ⟨rfl, rfl⟩
        go_wp2
        simp only [Exit.noGoto]
        go_ret
        exact ⟨ret_int (by rw [HR.out]), (below_new w (.stringIter s (pos + 1)))⟩
      · obtain ⟨hd2, h65⟩ := hsg.2 hz
        have HN := Lib.hid (first_some hz)
        have HDR := Lib.hid (List.drop_drop (l := l) (i := sgn (l.drop pos)) (j := pos))
        have hz' : 0 < sgn (l.drop pos) := by omega
        clear hsg hz
        by_cases hd1 : d.1 = 65533
        · have b1 : ((d.1 : Int) != 65533) = false := by simp; omega
          have HP := Lib.hid (hpre.trans (show decide _ = true by simp [h65 hd1]))
          have HL := Lib.hid hll
          have HD2 := Lib.hid hd2
          clear hpre h65 hll hd2
          go_wp2_with fail
          refine (prefix_any _ _ _).mono ?_
          rw [HP.out]
          rintro e w' ⟨rfl, rfl⟩
          go_wp2
          rw [HD2.out]
          have := HL.out
          refine ⟨⟨_, rfl, rfl, by omega, ?_⟩, by simp; omega⟩
          rw [HF.out, HN.out, HDR.out]; omega
        · have b1 : ((d.1 : Int) != 65533) = true := by simp; omega
          have HL := Lib.hid hll
          have HD2 := Lib.hid hd2
          clear hpre h65 hll hd2
          go_wp2_with fail
          rw [HD2.out]
          have := HL.out
          refine ⟨⟨_, rfl, rfl, by omega, ?_⟩, by simp; omega⟩
          rw [HF.out, HN.out, HDR.out]; omega
    · have hnx : ∀ ty, (Instr.next (.pointer (some ⟨w.heap.size, 0, none⟩)) true ty).run Tryz.prog (w.iter s pos) = _ := fun ty => run_next_end w s pos ty hp
      go_wp2
      have h := HF.out
      have h2 := HSZ.out
      rw [List.drop_of_length_le (by omega), first_nil] at h
      simp only [Exit.noGoto]
      go_ret
      exact ⟨ret_int (by omega), (below_new w (.stringIter s pos))⟩
end Go.Proofs.YtggcjdajmbkpiaaGreatDoor.T4
/-
  A piece of a slice of bytes, from one place to another one.
-/
namespace Go.Proofs.YtggcjdajmbkpiaaGreatDoor
set_option maxRecDepth 100000

open Go.RowKit

theorem Sl.part {w : World} {A : Option Addr} {n c : Nat} {xs : List Value} (h : Sl w A n c 1 xs) {i j : Nat} (hij : i ≤ j) (hj : j ≤ n) : Sl w (if i = c then A else A.map (·.add i)) (j - i) (c - i) 1 ((xs.drop i).take (j - i)) := by
  have hl := h.len
  have hle := h.le
  refine ⟨by rw [List.length_take, List.length_drop]; omega, by omega, by have := h.cap; omega, ?_, ?_, ?_⟩
  · intro hA
    have : A = none := by
      cases A with
      | none => rfl
      | some ad => split at hA <;> simp at hA
    have := h.nil this
    omega
  · intro ad ha hn
    rw [if_neg (by omega)] at ha
    obtain ⟨ad0, rfl, rfl⟩ := Option.map_eq_some_iff.1 ha
    rw [add_same_block]
    exact h.old ad0 rfl (by omega)
  · intro ad ha k u hu
    rw [List.getElem?_take] at hu
    split at hu
    · rw [if_neg (by omega)] at ha
      obtain ⟨ad0, rfl, rfl⟩ := Option.map_eq_some_iff.1 ha
      rw [add_twice]
      exact h.cell ad0 rfl _ _ (by rw [← List.getElem?_drop]; exact hu)
    · cases hu
theorem bs_part (l : List UInt8) (i n : Nat) : ((bs l).drop i).take n = bs ((l.drop i).take n) := by simp [bs]
/-- A piece, where it does not begin at the capacity's end. -/
theorem SlB.part {w : World} {A : Option Addr} {c : Nat} {l : List UInt8} (h : SlB w A c l) {i j : Nat} (hij : i ≤ j) (hj : j ≤ l.length) (hc : i ≠ c) : SlB w (A.map (·.add i)) (c - i) ((l.drop i).take (j - i)) := by
  have hp := Sl.part h hij hj
  rw [bs_part, if_neg hc] at hp
  unfold SlB
  rw [show ((l.drop i).take (j - i)).length = j - i by rw [List.length_take, List.length_drop]; omega]
  exact hp
/-- .. where it does. -/
theorem SlB.part_cap {w : World} {A : Option Addr} {c : Nat} {l : List UInt8} (h : SlB w A c l) {i j : Nat} (hij : i ≤ j) (hj : j ≤ l.length) (hc : i = c) : SlB w A (c - i) ((l.drop i).take (j - i)) := by
  have hp := Sl.part h hij hj
  rw [bs_part, if_pos hc] at hp
  unfold SlB
  rw [show ((l.drop i).take (j - i)).length = j - i by rw [List.length_take, List.length_drop]; omega]
  exact hp
end Go.Proofs.YtggcjdajmbkpiaaGreatDoor
/-
  Whether bytes are signs from one place to another one, and whether a text is less than another one: the contracts, of the program's functions and of the document's answers.
-/
namespace Go.Proofs.YtggcjdajmbkpiaaGreatDoor.T4
set_option maxRecDepth 100000

open Go.RowKit

/-- Whether bytes are signs from one place to another one. -/
def fineB (l : List UInt8) (a u : Int) : Bool := decide (0 ≤ a ∧ a ≤ u ∧ u ≤ l.length) && first ((l.drop a.toNat).take (u.toNat - a.toNat)) == u.toNat - a.toNat

theorem fine_eq (l : List UInt8) (i j : Nat) (hij : i ≤ j) (hj : j ≤ l.length) : fineB l i j = ((first ((l.drop i).take (j - i)) : Int) == (j : Int) - (i : Int)) := by
  unfold fineB
  rw [decide_eq_true (by omega), Bool.true_and, Bool.eq_iff_iff]
  simp only [beq_iff_eq, Int.toNat_natCast]
  omega

set_option maxRecDepth 1000000 in
theorem fine_any (A : Option Addr) (c : Nat) (l : List UInt8) (hl : l.length ≤ 140737488351232) (a u : Int) (w : World) (hr : SlB w A c l) :
    Calls Tryz.prog 167 #[.slice A l.length c, .int .i64 a, .int .i64 u] w fun e w' => e = .returned (.bool (fineB l a u)) ∧ Below w.heap.size w w' := by
  by_cases h0 : 0 ≤ a
  · by_cases h1 : a ≤ u
    · by_cases h2 : u ≤ l.length
      · obtain ⟨i, rfl⟩ := Int.eq_ofNat_of_zero_le h0
        obtain ⟨j, rfl⟩ := Int.eq_ofNat_of_zero_le (by omega : 0 ≤ u)
        have hij : i ≤ j := by omega
        have hj : j ≤ l.length := by omega
        have hjc : j ≤ c := by have := hr.le; omega
        have hlen : ((l.drop i).take (j - i)).length = j - i := by rw [List.length_take, List.length_drop]; omega
        have d0 : decide ((i : Int) < 0) = false := by simp
        have d1 : decide (j < i) = false := by simp; omega
        have d2 : decide (l.length < j) = false := by simp; omega
        have hp := Sl.part hr hij hj
        rw [bs_part] at hp
        have HF := Lib.hid (fine_eq l i j hij hj)
        generalize (l.drop i).take (j - i) = m at *
        have HL := Lib.hid hlen
        have hm : m.length ≤ 140737488351232 := by omega
        clear hlen h0 h1 h2
        by_cases hci : i = c
        · rw [if_pos hci] at hp
          have hp : SlB w A (c - i) m := by unfold SlB; rw [HL.out]; exact hp
          have H := first_any A (c - i) m hm w hp
          rw [HL.out] at H
          have := hr.le
          obtain rfl : j = i := by omega
          rw [← hci, Nat.sub_self] at H
          have HH := Lib.hid H
          have HC := Lib.hid hci
          clear hci H
          go_enter Tryz.func167, Tryz.ntmps167
          go_wp2_with fail
          · refine (HH.out).mono ?_
            rintro e w1 ⟨rfl, hb⟩
            go_wp2
            go_ret
            exact ⟨ret_bool (by rw [HF.out]; simp), hb⟩
          · exfalso
            rename_i h
            exact h HC.out.symm
        · rw [if_neg hci] at hp
          have hp : SlB w (A.map (·.add i)) (c - i) m := by unfold SlB; rw [HL.out]; exact hp
          have H := Lib.hid (first_any (A.map (·.add i)) (c - i) m hm w hp)
          rw [HL.out] at H
          have HC := Lib.hid hci
          clear hci
          go_enter Tryz.func167, Tryz.ntmps167
          go_wp2_with fail
          · exfalso
            rename_i h
            exact HC.out h.symm
          · refine (H.out).mono ?_
            rintro e w1 ⟨rfl, hb⟩
            go_wp2
            go_ret
            exact ⟨ret_bool HF.out.symm, hb⟩
      · have HF : Hid (fineB l a u = false) := Lib.hid (by simp [fineB, h2])
        have d0 : decide (a < 0) = false := by simp; omega
        have d1 : decide (u < a) = false := by simp; omega
        have d2 : decide ((l.length : Int) < u) = true := by simp; omega
        clear h0 h1 h2
        go_enter Tryz.func167, Tryz.ntmps167
        go_wp2
        go_ret
        exact ⟨ret_bool HF.out.symm, Below.refl _ _⟩
    · have HF : Hid (fineB l a u = false) := Lib.hid (by simp [fineB, h1])
      have d0 : decide (a < 0) = false := by simp; omega
      have d1 : decide (u < a) = true := by simp; omega
      clear h0 h1
      go_enter Tryz.func167, Tryz.ntmps167
      go_wp2
      go_ret
      exact ⟨ret_bool HF.out.symm, Below.refl _ _⟩
  · have HF : Hid (fineB l a u = false) := Lib.hid (by simp [fineB, h0])
    have d0 : decide (a < 0) = true := by simp; omega
    clear h0
    go_enter Tryz.func167, Tryz.ntmps167
    go_wp2
    go_ret
    exact ⟨ret_bool HF.out.symm, Below.refl _ _⟩
end Go.Proofs.YtggcjdajmbkpiaaGreatDoor.T4
/-
  The numbers of kinds: what the small functions of package conv hand back.
-/
namespace Go.Proofs.YtggcjdajmbkpiaaGreatDoor
set_option maxRecDepth 100000

open Go.RowKit

def S64 (r : Int) : Int := if r < 9223372036854775808 then r else r - 18446744073709551616
def S32 (r : Int) : Int := if r < 2147483648 then r else r - 4294967296
def U64 (n : Int) : Int := if 0 ≤ n then n else n + 18446744073709551616
def unzigI (r : Int) : Int := if r % 2 = 0 then r / 2 else -(r / 2) - 1
def zigI (n : Int) : Int := if 0 ≤ n then 2 * n else -2 * n - 1

theorem wrap_s64 {r : Int} (h0 : 0 ≤ r) (h1 : r < 18446744073709551616) : IntKind.i64.wrap r = S64 r := by
  unfold S64 IntKind.wrap
  simp [IntKind.signed, IntKind.bits]
  split <;> omega
theorem wrap_u64 {n : Int} (h0 : -9223372036854775808 ≤ n) (h1 : n ≤ 9223372036854775807) : IntKind.u64.wrap n = U64 n := by
  unfold U64 IntKind.wrap
  simp [IntKind.signed, IntKind.bits]
  split <;> omega

theorem counts_any (k : Int) (w : World) : Calls Tryz.prog 168 #[.int .i64 k] w fun e w' => e = .returned (.bool (decide (0 ≤ k) && decide (k < 7))) ∧ w = w' := by
  go_enter Tryz.func168, Tryz.ntmps168
  go_wp2
  all_goals
    go_ret
    refine ⟨?_, rfl⟩
    first | (simp_all; done) | (simp_all; omega) | (simp; omega)
theorem fitsAlways_any (n : Int) (w : World) : Calls Tryz.prog 204 #[.int .i64 n] w fun e w' => e = .returned (.bool true) ∧ w = w' := by
  go_enter Tryz.func204, Tryz.ntmps204
  go_wp2
  go_ret
  exact ⟨rfl, rfl⟩
theorem fitsLow_any (n : Int) (w : World) : Calls Tryz.prog 209 #[.int .i64 n] w fun e w' => e = .returned (.bool (decide (0 ≤ n) && decide (n ≤ 4294967295))) ∧ w = w' := by
  go_enter Tryz.func209, Tryz.ntmps209
  go_wp2
  all_goals
    go_ret
    refine ⟨?_, rfl⟩
    first | (simp_all; done) | (simp_all; omega) | (simp; omega)
theorem fitsFlag_any (n : Int) (w : World) : Calls Tryz.prog 211 #[.int .i64 n] w fun e w' => e = .returned (.bool (n == 0 || n == 1)) ∧ w = w' := by
  go_enter Tryz.func211, Tryz.ntmps211
  go_wp2
  all_goals
    go_ret
    refine ⟨?_, rfl⟩
    first | (simp_all; done) | (rename_i h; have e0 : (n == 0) = false := (by simp [h]); rw [e0]; rfl)
theorem fitsSignedLow_any (n : Int) (w : World) : Calls Tryz.prog 213 #[.int .i64 n] w fun e w' => e = .returned (.bool (decide (-2147483648 ≤ n) && decide (n ≤ 2147483647))) ∧ w = w' := by
  go_enter Tryz.func213, Tryz.ntmps213
  go_wp2
  all_goals
    go_ret
    refine ⟨?_, rfl⟩
    first | (simp_all; done) | (simp_all; omega) | (simp; omega)
theorem signed_any (r : Int) (h0 : 0 ≤ r) (h1 : r < 18446744073709551616) (w : World) : Calls Tryz.prog 205 #[.int .u64 r] w fun e w' => e = .returned (.int .i64 (S64 r)) ∧ w = w' := by
  have hw := wrap_s64 h0 h1
  go_enter Tryz.func205, Tryz.ntmps205
  go_wp2
  go_ret
  exact ⟨rfl, rfl⟩
theorem bitsOf_any (n : Int) (h0 : -9223372036854775808 ≤ n) (h1 : n ≤ 9223372036854775807) (w : World) : Calls Tryz.prog 206 #[.int .i64 n] w fun e w' => e = .returned (.int .u64 (U64 n)) ∧ w = w' := by
  have hw := wrap_u64 h0 h1
  go_enter Tryz.func206, Tryz.ntmps206
  go_wp2
  go_ret
  exact ⟨rfl, rfl⟩
theorem low_any (r : Int) (h0 : 0 ≤ r) (h1 : r < 18446744073709551616) (w : World) : Calls Tryz.prog 210 #[.int .u64 r] w fun e w' => e = .returned (.int .i64 (r % 4294967296)) ∧ w = w' := by
  go_enter Tryz.func210, Tryz.ntmps210
  go_wp2
  go_ret
  exact ⟨rfl, rfl⟩
theorem signedLow_any (r : Int) (h0 : 0 ≤ r) (h1 : r < 18446744073709551616) (w : World) : Calls Tryz.prog 214 #[.int .u64 r] w fun e w' => e = .returned (.int .i64 (S32 (r % 4294967296))) ∧ w = w' := by
  go_enter Tryz.func214, Tryz.ntmps214
  go_wp2
  go_ret
  refine ⟨ret_int ?_, rfl⟩
  unfold S32 wrap64 wrap32
  split <;> omega
theorem flag_any (r : Int) (w : World) : Calls Tryz.prog 212 #[.int .u64 r] w fun e w' => e = .returned (.int .i64 (if r = 0 then 0 else 1)) ∧ w = w' := by
  go_enter Tryz.func212, Tryz.ntmps212
  go_wp2
  all_goals
    go_ret
    refine ⟨?_, rfl⟩
    first | (simp_all; done) | (simp_all; omega) | (simp; omega)
theorem unzigzag_any (r : Int) (h0 : 0 ≤ r) (h1 : r < 18446744073709551616) (w : World) : Calls Tryz.prog 207 #[.int .u64 r] w fun e w' => e = .returned (.int .i64 (unzigI r)) ∧ w = w' := by
  go_enter Tryz.func207, Tryz.ntmps207
  go_wp2
  all_goals
    go_ret
    refine ⟨ret_int ?_, rfl⟩
    unfold unzigI
    simp_all
theorem zigzag_any (n : Int) (h0 : -9223372036854775808 ≤ n) (h1 : n ≤ 9223372036854775807) (w : World) : Calls Tryz.prog 208 #[.int .i64 n] w fun e w' => e = .returned (.int .u64 (zigI n)) ∧ w = w' := by
  go_enter Tryz.func208, Tryz.ntmps208
  go_wp2
  all_goals
    go_ret
    refine ⟨ret_int ?_, rfl⟩
    unfold zigI
    try simp [wrap64, IntKind.wrap, IntKind.signed, IntKind.bits]
    first | omega | (split <;> omega)
end Go.Proofs.YtggcjdajmbkpiaaGreatDoor
/-
  The array of rules.
-/
namespace Go.Proofs.YtggcjdajmbkpiaaGreatDoor
set_option maxRecDepth 100000

open Go.RowKit

def fv (k : Nat) : Value := .func (.func k) #[] #[]
def ruleV (t f o b : Nat) : List Value := [.int .i64 t, fv f, fv o, fv b]
def rulesL : List Value :=
  ruleV 0 204 205 206 ++ (
  ruleV 0 204 207 208 ++ (
  ruleV 0 209 210 206 ++ (
  ruleV 0 211 212 206 ++ (
  ruleV 5 209 210 206 ++ (
  ruleV 1 204 205 206 ++ (
  ruleV 0 213 214 206))))))
def rulesV : Value := .agg rulesL.toArray

theorem rules_any (w : World) : Calls Tryz.prog 169 #[] w fun e w' => e = .returned rulesV ∧ Below w.heap.size w w' := by
  have hi : (Tryz.prog.info? 202).map (·.size) = some rulesL.toArray.size := by kernel_rfl
  have h1 : rulesL.toArray.all (·.oneCell') = true := by kernel_rfl
  go_enter Tryz.func169, Tryz.ntmps169
  go_wp2_with (refine wpList_store_rowTo rfl 202 _ _ rfl rfl w.heap.size rulesL.toArray rfl rfl 202 _ (heap_alloc_last w _) hi rfl h1 ?_)
  rw [World.setRow_alloc_new]
  refine bodyPost_ret (v := rulesV) ?_ rfl ⟨rfl, below_new w _⟩
  exact results_cell_row rfl _ _ w.heap.size 202 rulesL.toArray (0, 0) _ rfl (heap_alloc_last w _) Tryz.underlying202 rfl hi

/-- The rule of one kind. -/
def ruleI (k : Nat) : Value := .agg ((rulesL.drop (4 * k)).take 4).toArray
theorem rule_at (k : Nat) (hk : k < 7) (w : World) : (Instr.index 202 rulesV (.int .i64 k)).run Tryz.prog w = .ok (ruleI k) w := by
  rcases k with _ | _ | _ | _ | _ | _ | _ | k
  · kernel_rfl
  · kernel_rfl
  · kernel_rfl
  · kernel_rfl
  · kernel_rfl
  · kernel_rfl
  · kernel_rfl
  · omega

def fitsB (k n : Int) : Bool :=
  if k = 0 then true else if k = 1 then true else if k = 2 then decide (0 ≤ n) && decide (n ≤ 4294967295) else if k = 3 then n == 0 || n == 1
  else if k = 4 then decide (0 ≤ n) && decide (n ≤ 4294967295) else if k = 5 then true else if k = 6 then decide (-2147483648 ≤ n) && decide (n ≤ 2147483647) else false


theorem fits_by (k f : Nat) (n : Int) (b : Bool) (hk : k < 7)
    (hf : ∀ w, (Instr.field 201 (ruleI k) 1).run Tryz.prog w = .ok (.func (.func f) #[] #[]) w)
    (hent : ∀ args w, (callFunc f args).run Tryz.prog w = .ok (.enter f args) w)
    (hcall : ∀ w, Calls Tryz.prog f #[.int .i64 n] w fun e w' => e = .returned (.bool b) ∧ w = w')
    (w : World) : Calls Tryz.prog 115 #[.int .i64 k, .int .i64 n] w fun e w' => e = .returned (.bool b) ∧ Below w.heap.size w w' := by
  have hx := rule_at k hk
  have hc : ∀ w, Calls Tryz.prog 168 #[.int .i64 k] w fun e w' => e = .returned (.bool true) ∧ w = w' := fun w => by
    have h := counts_any k w
    rw [show (decide (0 ≤ (k : Int)) && decide ((k : Int) < 7)) = true by simp; omega] at h
    exact h
  go_enter Tryz.func115, Tryz.ntmps115
  go_wp2_with fail
  refine (hc _).mono ?_
  rintro e w1 ⟨rfl, rfl⟩
  go_wp2_with fail
  refine (rules_any _).mono ?_
  rintro e w1 ⟨rfl, hb⟩
  go_wp2_with fail
  refine (hcall _).mono ?_
  rintro e w2 ⟨rfl, rfl⟩
  go_wp2
  go_ret
  exact ⟨rfl, hb⟩
theorem of_by (k f : Nat) (r : Int) (v : Int) (hk : k < 7)
    (hf : ∀ w, (Instr.field 201 (ruleI k) 2).run Tryz.prog w = .ok (.func (.func f) #[] #[]) w)
    (hent : ∀ args w, (callFunc f args).run Tryz.prog w = .ok (.enter f args) w)
    (hcall : ∀ w, Calls Tryz.prog f #[.int .u64 r] w fun e w' => e = .returned (.int .i64 v) ∧ w = w')
    (w : World) : Calls Tryz.prog 142 #[.int .i64 k, .int .u64 r] w fun e w' => e = .returned (.tuple #[.int .i64 v, .bool true]) ∧ Below w.heap.size w w' := by
  have hx := rule_at k hk
  have hc : ∀ w, Calls Tryz.prog 168 #[.int .i64 k] w fun e w' => e = .returned (.bool true) ∧ w = w' := fun w => by
    have h := counts_any k w
    rw [show (decide (0 ≤ (k : Int)) && decide ((k : Int) < 7)) = true by simp; omega] at h
    exact h
  go_enter Tryz.func142, Tryz.ntmps142
  go_wp2_with fail
  refine (hc _).mono ?_
  rintro e w1 ⟨rfl, rfl⟩
  go_wp2_with fail
  refine (rules_any _).mono ?_
  rintro e w1 ⟨rfl, hb⟩
  go_wp2_with fail
  refine (hcall _).mono ?_
  rintro e w2 ⟨rfl, rfl⟩
  go_wp2
  go_ret2
  exact ⟨rfl, hb⟩
theorem wire_by (k : Nat) (v : Int) (hk : k < 7)
    (hf : ∀ w, (Instr.field 201 (ruleI k) 0).run Tryz.prog w = .ok (.int .i64 v) w)
    (w : World) : Calls Tryz.prog 140 #[.int .i64 k] w fun e w' => e = .returned (.int .i64 v) ∧ Below w.heap.size w w' := by
  have hx := rule_at k hk
  have hc : ∀ w, Calls Tryz.prog 168 #[.int .i64 k] w fun e w' => e = .returned (.bool true) ∧ w = w' := fun w => by
    have h := counts_any k w
    rw [show (decide (0 ≤ (k : Int)) && decide ((k : Int) < 7)) = true by simp; omega] at h
    exact h
  go_enter Tryz.func140, Tryz.ntmps140
  go_wp2_with fail
  refine (hc _).mono ?_
  rintro e w1 ⟨rfl, rfl⟩
  go_wp2_with fail
  refine (rules_any _).mono ?_
  rintro e w1 ⟨rfl, hb⟩
  go_wp2
  go_ret
  exact ⟨rfl, hb⟩

theorem counts_not {k : Int} (h : ¬ (0 ≤ k ∧ k < 7)) (w : World) : Calls Tryz.prog 168 #[.int .i64 k] w fun e w' => e = .returned (.bool false) ∧ w = w' := by
  have h2 := counts_any k w
  rw [show (decide (0 ≤ k) && decide (k < 7)) = false by simp; omega] at h2
  exact h2
theorem wire_not (k : Int) (h : ¬ (0 ≤ k ∧ k < 7)) (w : World) :
    Calls Tryz.prog 140 #[.int .i64 k] w fun e w' => e = .returned (.int .i64 (if 0 ≤ k ∧ k < 10 then 2 else -1)) ∧ Below w.heap.size w w' := by
  have hc := counts_not h
  by_cases h1 : k < 0
  · rw [if_neg (by omega)]
    clear h
    go_enter Tryz.func140, Tryz.ntmps140
    go_wp2_with fail
    refine (hc _).mono ?_
    rintro e w1 ⟨rfl, rfl⟩
    go_wp2
    go_ret
    exact ⟨rfl, Below.refl _ _⟩
  by_cases h2 : k < 10
  · rw [if_pos (by omega)]
    clear h
    go_enter Tryz.func140, Tryz.ntmps140
    go_wp2_with fail
    refine (hc _).mono ?_
    rintro e w1 ⟨rfl, rfl⟩
    go_wp2
    go_ret
    exact ⟨rfl, Below.refl _ _⟩
  · rw [if_neg (by omega)]
    clear h
    go_enter Tryz.func140, Tryz.ntmps140
    go_wp2_with fail
    refine (hc _).mono ?_
    rintro e w1 ⟨rfl, rfl⟩
    go_wp2
    go_ret
    exact ⟨rfl, Below.refl _ _⟩
theorem of_not (k : Int) (r : Int) (h : ¬ (0 ≤ k ∧ k < 7)) (w : World) :
    Calls Tryz.prog 142 #[.int .i64 k, .int .u64 r] w fun e w' => e = .returned (.tuple #[.int .i64 0, .bool false]) ∧ Below w.heap.size w w' := by
  have hc := counts_not h
  clear h
  go_enter Tryz.func142, Tryz.ntmps142
  go_wp2_with fail
  refine (hc _).mono ?_
  rintro e w1 ⟨rfl, rfl⟩
  go_wp2
  go_ret2
  exact ⟨rfl, Below.refl _ _⟩
theorem fits_not (k : Int) (n : Int) (h : ¬ (0 ≤ k ∧ k < 7)) (w : World) :
    Calls Tryz.prog 115 #[.int .i64 k, .int .i64 n] w fun e w' => e = .returned (.bool false) ∧ Below w.heap.size w w' := by
  have hc := counts_not h
  clear h
  go_enter Tryz.func115, Tryz.ntmps115
  go_wp2_with fail
  refine (hc _).mono ?_
  rintro e w1 ⟨rfl, rfl⟩
  go_wp2
  go_ret
  exact ⟨rfl, Below.refl _ _⟩

/-! ### The document's numbers -/

def cnt (k : Int) : Bool := decide (0 ≤ k ∧ k < 7)
def wireI (k : Int) : Int := if k = 0 ∨ k = 1 ∨ k = 2 ∨ k = 3 ∨ k = 6 then 0 else if k = 4 then 5 else if k = 5 then 1 else if 0 ≤ k ∧ k < 10 then 2 else -1
def ofI (k r : Int) : Int :=
  if k = 0 then S64 r else if k = 1 then unzigI r else if k = 2 then r % 4294967296 else if k = 3 then (if r = 0 then 0 else 1) else if k = 4 then r % 4294967296 else if k = 5 then S64 r else if k = 6 then S32 (r % 4294967296) else 0
def bitsI (k n : Int) : Int := if fitsB k n = true then (if k = 1 then zigI n else U64 n) else 0

theorem seven {k : Int} (h : 0 ≤ k ∧ k < 7) : k = 0 ∨ k = 1 ∨ k = 2 ∨ k = 3 ∨ k = 4 ∨ k = 5 ∨ k = 6 := by omega
theorem wire_any (k : Int) (w : World) : Calls Tryz.prog 140 #[.int .i64 k] w fun e w' => e = .returned (.int .i64 (wireI k)) ∧ Below w.heap.size w w' := by
  by_cases h : 0 ≤ k ∧ k < 7
  · rcases seven h with rfl | rfl | rfl | rfl | rfl | rfl | rfl
    · exact wire_by 0 0 (by omega) (fun _ => by kernel_rfl) w
    · exact wire_by 1 0 (by omega) (fun _ => by kernel_rfl) w
    · exact wire_by 2 0 (by omega) (fun _ => by kernel_rfl) w
    · exact wire_by 3 0 (by omega) (fun _ => by kernel_rfl) w
    · exact wire_by 4 5 (by omega) (fun _ => by kernel_rfl) w
    · exact wire_by 5 1 (by omega) (fun _ => by kernel_rfl) w
    · exact wire_by 6 0 (by omega) (fun _ => by kernel_rfl) w
  · have e : wireI k = if 0 ≤ k ∧ k < 10 then 2 else -1 := by
      unfold wireI
      rw [if_neg (by omega), if_neg (by omega), if_neg (by omega)]
    rw [e]
    exact wire_not k h w
theorem fits_any (k n : Int) (w : World) : Calls Tryz.prog 115 #[.int .i64 k, .int .i64 n] w fun e w' => e = .returned (.bool (fitsB k n)) ∧ Below w.heap.size w w' := by
  by_cases h : 0 ≤ k ∧ k < 7
  · rcases seven h with rfl | rfl | rfl | rfl | rfl | rfl | rfl
    · exact fits_by 0 _ n _ (by omega) (fun _ => by kernel_rfl) (fun _ _ => by kernel_rfl) (fitsAlways_any n) w
    · exact fits_by 1 _ n _ (by omega) (fun _ => by kernel_rfl) (fun _ _ => by kernel_rfl) (fitsAlways_any n) w
    · exact fits_by 2 _ n _ (by omega) (fun _ => by kernel_rfl) (fun _ _ => by kernel_rfl) (fitsLow_any n) w
    · exact fits_by 3 _ n _ (by omega) (fun _ => by kernel_rfl) (fun _ _ => by kernel_rfl) (fitsFlag_any n) w
    · exact fits_by 4 _ n _ (by omega) (fun _ => by kernel_rfl) (fun _ _ => by kernel_rfl) (fitsLow_any n) w
    · exact fits_by 5 _ n _ (by omega) (fun _ => by kernel_rfl) (fun _ _ => by kernel_rfl) (fitsAlways_any n) w
    · exact fits_by 6 _ n _ (by omega) (fun _ => by kernel_rfl) (fun _ _ => by kernel_rfl) (fitsSignedLow_any n) w
  · have e : fitsB k n = false := by
      unfold fitsB
      rw [if_neg (by omega), if_neg (by omega), if_neg (by omega), if_neg (by omega), if_neg (by omega), if_neg (by omega), if_neg (by omega)]
    rw [e]
    exact fits_not k n h w
theorem of_any (k r : Int) (h0 : 0 ≤ r) (h1 : r < 18446744073709551616) (w : World) : Calls Tryz.prog 142 #[.int .i64 k, .int .u64 r] w fun e w' => e = .returned (.tuple #[.int .i64 (ofI k r), .bool (cnt k)]) ∧ Below w.heap.size w w' := by
  by_cases h : 0 ≤ k ∧ k < 7
  · rcases seven h with rfl | rfl | rfl | rfl | rfl | rfl | rfl
    · exact of_by 0 _ r _ (by omega) (fun _ => by kernel_rfl) (fun _ _ => by kernel_rfl) (signed_any r h0 h1) w
    · exact of_by 1 _ r _ (by omega) (fun _ => by kernel_rfl) (fun _ _ => by kernel_rfl) (unzigzag_any r h0 h1) w
    · exact of_by 2 _ r _ (by omega) (fun _ => by kernel_rfl) (fun _ _ => by kernel_rfl) (low_any r h0 h1) w
    · exact of_by 3 _ r _ (by omega) (fun _ => by kernel_rfl) (fun _ _ => by kernel_rfl) (flag_any r) w
    · exact of_by 4 _ r _ (by omega) (fun _ => by kernel_rfl) (fun _ _ => by kernel_rfl) (low_any r h0 h1) w
    · exact of_by 5 _ r _ (by omega) (fun _ => by kernel_rfl) (fun _ _ => by kernel_rfl) (signed_any r h0 h1) w
    · exact of_by 6 _ r _ (by omega) (fun _ => by kernel_rfl) (fun _ _ => by kernel_rfl) (signedLow_any r h0 h1) w
  · have e : ofI k r = 0 := by
      unfold ofI
      rw [if_neg (by omega), if_neg (by omega), if_neg (by omega), if_neg (by omega), if_neg (by omega), if_neg (by omega), if_neg (by omega)]
    have e2 : cnt k = false := by simp [cnt]; omega
    rw [e, e2]
    exact of_not k r h w
end Go.Proofs.YtggcjdajmbkpiaaGreatDoor
/-
  Messages that a schema allows, by plain functions: what is of a kind, what is of a message.
-/
namespace Go.Proofs.YtggcjdajmbkpiaaGreatDoor.T9
set_option maxRecDepth 100000
open Go.Proofs.YtggcjdajmbkpiaaGreatDoor.T4

/-- Is a text UTF-8? -/
def utfB (s : List UInt8) : Bool := fineB s 0 s.length
/-- Is something so of a list's only element? -/
def oneB (f : Mg → Bool) : List Mg → Bool
  | [x] => f x
  | _ => false
theorem oneB_ne {f : Mg → Bool} {l : List Mg} (h : l.length ≠ 1) : oneB f l = false := by
  match l, h with
  | [], _ => rfl
  | _ :: _ :: _, _ => rfl
/-- Is a value of a kind? G: is a message of one? -/
def askG (G : Int → Mg → Bool) (kind ref : Int) (v : Vl') : Bool :=
  if kind = 7 then (v.n == 0) && (utfB v.s && v.M.isEmpty)
  else if kind = 8 then (v.n == 0) && v.M.isEmpty
  else if kind = 9 then (v.n == 0) && (v.s.isEmpty && oneB (G ref) v.M)
  else fitsB kind v.n && (v.s.isEmpty && v.M.isEmpty)
/-- May a field's slot have as many keys, and values? -/
def manyB (f : Df) (k v : Nat) : Bool := if f.key = -1 then (k == 0) && (f.rep || v == 1) else k == v
def fillG (G : Int → Mg → Bool) (f : Df) (s : So) : Bool := manyB f s.K.length s.V.length && (s.K.all (askG G f.key 0) && s.V.all (askG G f.kind f.ref))
/-- What a field claims, the last one first. -/
def claimsOf (f : Df) : List (Int × Int) := if f.one = 0 then [(f.no, 0)] else [(0, f.one), (f.no, 0)]
def claimB (cl : List (Int × Int)) (f : Df) : Bool := !cl.contains (f.no, 0) && (f.one == 0 || !((f.no, 0) :: cl).contains (0, f.one))
def slotsG (fd : Int → Option Df) (fill : Df → So → Bool) : List (Int × Int) → List So → Bool
  | _, [] => true
  | cl, s :: l => match fd s.no with
    | none => false
    | some f => claimB cl f && (fill f s && slotsG fd fill (claimsOf f ++ cl) l)
def isG (s : Sc) (G : Int → Mg → Bool) (m : Int) (x : Mg) : Bool := decide (0 ≤ m ∧ m < s.M.length) && slotsG (byS s m) (fillG G) [] x.F
/-- Is a message of message m, and at most so deep? -/
def isB (s : Sc) : Nat → Int → Mg → Bool
  | 0 => fun _ _ => false
  | d + 1 => isG s (isB s d)
/-- Is a value of a kind, its message at most so deep? -/
def valB (s : Sc) (d : Nat) (kind ref : Int) (v : Vl') : Bool := askG (isB s d) kind ref v
open Classical in
noncomputable def mayT (s : Sc) (m : Int) (x : Mg) : Bool := decide (ScMay s) && isB s 64 m x
open Classical in
noncomputable def valT (s : Sc) (kind ref : Int) (v : Vl') : Bool := decide (ScMay s) && valB s 63 kind ref v

theorem slotsG_cons {fd : Int → Option Df} {fill : Df → So → Bool} {cl : List (Int × Int)} {s : So} {l : List So} : slotsG fd fill cl (s :: l) = match fd s.no with | none => false | some f => claimB cl f && (fill f s && slotsG fd fill (claimsOf f ++ cl) l) := rfl
theorem drop_cons {α : Type} {l : List α} {k : Nat} {a : α} (h : l[k]? = some a) : l.drop k = a :: l.drop (k + 1) := by
  obtain ⟨hk, rfl⟩ := List.getElem?_eq_some_iff.1 h
  exact List.drop_eq_getElem_cons hk
/-- What is claimed, of a list of slots whose fields there are. -/
def claimed (fd : Int → Option Df) : List So → List (Int × Int)
  | [] => []
  | s :: l => claimed fd l ++ (match fd s.no with | none => [] | some f => claimsOf f)
theorem slots_append {fd : Int → Option Df} {fill : Df → So → Bool} {cl : List (Int × Int)} {a b : List So} : slotsG fd fill cl (a ++ b) = (slotsG fd fill cl a && slotsG fd fill (claimed fd a ++ cl) b) := by
  induction a generalizing cl with
  | nil => simp [slotsG, claimed]
  | cons s a ih =>
    rw [List.cons_append, slotsG_cons, slotsG_cons]
    cases h : fd s.no with
    | none => rfl
    | some f =>
      simp only
      rw [ih, claimed, h, Bool.and_assoc, Bool.and_assoc, List.append_assoc]
theorem claim_in {fd : Int → Option Df} {l : List So} {s : So} {f : Df} (hs : s ∈ l) (hf : fd s.no = some f) : (f.no, 0) ∈ claimed fd l := by
  induction l with
  | nil => cases hs
  | cons x l ih =>
    rw [claimed, List.mem_append]
    rcases List.mem_cons.1 hs with rfl | hs
    · right
      rw [hf]
      simp only [claimsOf]
      split <;> simp
    · exact .inl (ih hs)
theorem ask_of {G : Int → Mg → Bool} {kind ref : Int} {v : Vl'} (h : askG G kind ref v = true) (h9 : kind ≠ 9) : v.M = [] := by
  unfold askG at h
  repeat' split at h
  all_goals simp_all
end Go.Proofs.YtggcjdajmbkpiaaGreatDoor.T9
/-
  What a field claims, as a map of the program: the contracts of take and claims.
-/
namespace Go.Proofs.YtggcjdajmbkpiaaGreatDoor.T9
set_option maxRecDepth 100000
open Go.RowKit Go.Maps

/-- A claim of two numbers that a machine has. -/
abbrev Cl := {p : Int × Int // inr p.1 ∧ inr p.2}
def cVal (p : Int × Int) : Value := .agg #[.int .i64 p.1, .int .i64 p.2]
theorem cl_wf {n : Int} (h : inr n) : (Lit.int .i64 n).wf = true := by
  simp only [Lit.wf, Bool.and_eq_true, decide_eq_true_eq]
  exact ⟨by show (-9223372036854775808 : Int) ≤ _; unfold inr at h; omega, by show _ ≤ (9223372036854775807 : Int); unfold inr at h; omega⟩
theorem cl_law : Keyed Tryz.prog 195 := Keyed.of_law (deep_law_laid Tryz.laidOut (m := 2) (by omega) (by decide +kernel) (by kernel_rfl) (by kernel_rfl))
theorem ck_int : Tryz.prog.cellsOf 3 = 1 := by kernel_rfl
theorem ck_claim : Tryz.prog.cellsOf 195 = 2 := by kernel_rfl
theorem ck_key : Tryz.prog.keyType 195 = true := by kernel_rfl
theorem ck_size : ∃ n, Tryz.prog.types.size + 1 = n + 1 + 1 := by
  have : 0 < Tryz.prog.types.size := by decide +kernel
  exact ⟨Tryz.prog.types.size - 1, by omega⟩
theorem lits_int {n : Int} (d : Nat) (h : (Lit.int .i64 n).wf = true) : Tryz.prog.keyLits (d + 1) 3 [.int .i64 n] = some [.int .i64 n] := by
  simp [Program.keyLits, Tryz.underlying3, h]
theorem cl_some (p : Cl) : ∃ l, keyOf Tryz.prog 195 (cVal p.1) = some l := by
  have h1 := cl_wf p.2.1
  have h2 := cl_wf p.2.2
  obtain ⟨n, hn⟩ := ck_size
  have hf : (cVal p.1).formed Tryz.prog 195 = true := by
    unfold Value.formed cVal
    simp [Tryz.underlying195, ck_claim]
  unfold keyOf
  rw [Tryz.underlying195]
  simp only [ck_key, hf, Bool.and_self, if_true]
  rw [hn]
  unfold Program.keyLits
  rw [Tryz.underlying195]
  simp [cVal, Value.cells, ck_claim, ck_int, lits_int n h1, lits_int n h2]
noncomputable def kC (p : Cl) : Lit := (keyOf Tryz.prog 195 (cVal p.1)).getD (.bool false)
theorem kC_key (p : Cl) : keyOf Tryz.prog 195 (cVal p.1) = some (kC p) := by
  obtain ⟨l, hl⟩ := cl_some p
  unfold kC
  rw [hl]; rfl
theorem kC_inj (x y : Cl) (h : kC x = kC y) : x = y := by
  have h1 := kC_key x
  rw [h] at h1
  have h2 := cl_law.inj h1 (kC_key y)
  unfold cVal at h2
  simp only [Value.agg.injEq, Array.mk.injEq, List.cons.injEq, Value.int.injEq, true_and, and_true] at h2
  exact Subtype.ext (Prod.ext h2.1 h2.2)
theorem kC_lit (x : Cl) : WideAt.IsKeyLit (kC x) := cl_law.key (kC_key x)
abbrev FreeC := Free 195 kC
/-- The map of what has been claimed. -/
def Claims (w : World) (b n : Nat) (cl : List (Int × Int)) : Prop := FreeC w b n fun p => cl.contains p.1
theorem Claims.made (w : World) : Claims (w.alloc (.map #[] 0)) w.heap.size 0 [] := Free.made w
set_option maxRecDepth 1000000 in
set_option maxHeartbeats 2000000 in
theorem take_any (b n : Nat) (cl : List (Int × Int)) (x y : Int) (hx : inr x) (hy : inr y) (w : World) (h : Claims w b n cl) (hn : n < 1000000) :
    Calls Tryz.prog 162 #[.map (some b), .agg #[.int .i64 x, .int .i64 y]] w fun e w' => e = .returned (.bool (!cl.contains (x, y))) ∧ Claims w' b (n + 1) ((x, y) :: cl) ∧ w.grownBy w' (some b) := by
  obtain ⟨kl, hkl⟩ : ∃ p : Cl, p.1 = (x, y) := ⟨⟨(x, y), hx, hy⟩, rfl⟩
  have hkey := kC_key kl
  rw [hkl] at hkey
  have X1 := heap_alloc_new w (.cells #[.int .i64 x, .int .i64 y] 195)
  have H1 := Lib.hid (Free.alloc h (.cells #[.int .i64 x, .int .i64 y] 195))
  have H2 := Lib.hid (H1.out.alloc (.cells #[] 188))
  have c0 := heap_cell X1 0
  have c1 := heap_cell X1 1
  simp at c0 c1
  go_enter Tryz.func162, Tryz.ntmps162
  go_wp2_with (first
    | (at_lookup; refine wpList_free_look rfl _ _ 138 188 rfl cl_law Tryz.underlying138 (zero_unit _) b n _ rfl H1.out _ kl rfl hkey ?_)
    | (at_mapUpdate; refine wpList_free_put rfl _ _ _ 138 188 rfl cl_law Tryz.underlying138 kC_inj kC_lit b n _ rfl H2.out (by omega) _ kl rfl rfl hkey ?_; intro w1 h1 hg1)
    | fail)
  go_ret
  refine ⟨by simp, h1.eq ?_, ((World.grownBy_alloc w _ _).trans (World.grownBy_alloc _ _ _)).trans hg1⟩
  funext z
  rw [Bool.eq_iff_iff]
  simp only [Bool.or_eq_true, decide_eq_true_eq, List.contains_cons, beq_iff_eq]
  constructor
  · rintro (h | h)
    · exact .inr h
    · exact .inl (by rw [h, hkl])
  · rintro (h | h)
    · exact .inr (Subtype.ext (h.trans hkl.symm))
    · exact .inl h
abbrev dC (f : Df) : Obj := .cells #[.int .i64 f.no, .string (txt f.name), .int .i64 f.kind, .int .i64 f.ref, .bool f.rep, .int .i64 f.key, .int .i64 f.one] 64
set_option maxRecDepth 1000000 in
set_option maxHeartbeats 2000000 in
theorem claims_any (b n : Nat) (cl : List (Int × Int)) (f : Df) (hf : DfIn f) (w : World) (h : Claims w b n cl) (hn : n < 900000) :
    Calls Tryz.prog 104 #[.map (some b), .agg #[.int .i64 f.no, .string (txt f.name), .int .i64 f.kind, .int .i64 f.ref, .bool f.rep, .int .i64 f.key, .int .i64 f.one]] w fun e w' => e = .returned (.bool (claimB cl f)) ∧ (claimB cl f = true → Claims w' b (n + 2) (claimsOf f ++ cl)) ∧ w.grownBy w' (some b) := by
  have i0 : inr 0 := by unfold inr; omega
  have X1 := heap_alloc_new w (dC f)
  have LBD := World.grownBy_alloc w (dC f) (some b)
  have hlt := Free.lt h
  have H1 := take_any b n cl f.no 0 hf.no i0 (w.alloc (dC f)) (Free.alloc h _) (by omega)
  have HB : Hid (claimB cl f = (!cl.contains (f.no, 0) && (f.one == 0 || !((f.no, 0) :: cl).contains (0, f.one)))) := Lib.hid rfl
  have hne : w.heap.size ≠ b := by omega
  obtain ⟨d, hd⟩ : ∃ d, (!cl.contains (f.no, 0)) = d := ⟨_, rfl⟩
  rw [hd] at H1 HB
  have HH1 := Lib.hid H1
  clear hd H1
  cases d with
  | false =>
    go_enter Tryz.func104, Tryz.ntmps104
    go_wp2_with (go_at_call 162; refine HH1.out.mono ?_; rintro e w1 ⟨rfl, hc1, hg1⟩)
    go_ret
    rw [HB.out]
    exact ⟨rfl, fun h => by simp at h, LBD.trans hg1⟩
  | true =>
    by_cases h0 : f.one = 0
    · have hb0 : (f.one == 0) = true := by simp [h0]
      have HO := Lib.hid h0
      clear h0
      go_enter Tryz.func104, Tryz.ntmps104
      go_wp2_with (go_at_call 162; refine HH1.out.mono ?_; rintro e w1 ⟨rfl, hc1, hg1⟩; have X2 := box_kept X1 hg1 hne; have d6 := heap_cell X2 6; simp at d6)
      go_ret
      rw [HB.out]
      refine ⟨by simp [hb0], fun _ => ?_, LBD.trans hg1⟩
      unfold claimsOf
      rw [if_pos HO.out]
      exact Free.mono hc1 (by omega)
    · have hb0 : (f.one == 0) = false := by simp [h0]
      have HO := Lib.hid h0
      obtain ⟨d2, hd2⟩ : ∃ d, (!((f.no, 0) :: cl).contains (0, f.one)) = d := ⟨_, rfl⟩
      rw [hd2] at HB
      have HH2 := Lib.hid (fun wx (hx : Claims wx b (n + 1) ((f.no, 0) :: cl)) => hd2 ▸ take_any b (n + 1) ((f.no, 0) :: cl) 0 f.one i0 hf.one wx hx (by omega))
      clear h0 hd2
      go_enter Tryz.func104, Tryz.ntmps104
      go_wp2_with fail
      refine HH1.out.mono ?_
      rintro e w1 ⟨rfl, hc1, hg1⟩
      have X2 := box_kept X1 hg1 hne
      have d6 := heap_cell X2 6
      simp at d6
      go_wp2_with fail
      refine (HH2.out _ hc1).mono ?_
      rintro e w2 ⟨rfl, hc2, hg2⟩
      go_wp2
      go_ret
      rw [HB.out]
      refine ⟨by simp [hb0], fun _ => ?_, (LBD.trans hg1).trans hg2⟩
      unfold claimsOf
      rw [if_neg HO.out]
      exact hc2
end Go.Proofs.YtggcjdajmbkpiaaGreatDoor.T9
/-
  Messages, slots and values as arguments, with what their numbers and texts fit.
-/
namespace Go.Proofs.YtggcjdajmbkpiaaGreatDoor.T9
set_option maxRecDepth 100000

open Go.RowKit Go.ChangeShapes Go.WideShapes Go.ChangeAt

/-- A number of 64 bits. -/
def inI (n : Int) : Prop := -9223372036854775808 ≤ n ∧ n ≤ 9223372036854775807
/-- All numbers of a tree have 64 bits, all texts fit the form's memory. -/
inductive MIn : Mg → Prop
  | mk {m : Mg} (h1 : ∀ s ∈ m.F, inI s.no) (h2 : ∀ s ∈ m.F, ∀ v, v ∈ s.K ∨ v ∈ s.V → inI v.n ∧ v.s.length ≤ 140737488351232) (h3 : ∀ s ∈ m.F, ∀ v, v ∈ s.K ∨ v ∈ s.V → ∀ x ∈ v.M, MIn x) : MIn m
def VIn (v : Vl') : Prop := (inI v.n ∧ v.s.length ≤ 140737488351232) ∧ ∀ x ∈ v.M, MIn x
def SIn (s : So) : Prop := inI s.no ∧ ∀ v, v ∈ s.K ∨ v ∈ s.V → VIn v
theorem MIn.slot {m : Mg} (h : MIn m) {s : So} (hs : s ∈ m.F) : SIn s := by
  cases h with
  | mk h1 h2 h3 => exact ⟨h1 s hs, fun v hv => ⟨h2 s hs v hv, h3 s hs v hv⟩⟩
theorem MIn.of {m : Mg} (h : ∀ s ∈ m.F, SIn s) : MIn m := .mk (fun s hs => (h s hs).1) (fun s hs v hv => ((h s hs).2 v hv).1) fun s hs v hv => ((h s hs).2 v hv).2
theorem SIn.val {s : So} (h : SIn s) {v : Vl'} (hv : v ∈ s.K ∨ v ∈ s.V) : VIn v := h.2 v hv
theorem VIn.msg {v : Vl'} (h : VIn v) {x : Mg} (hx : x ∈ v.M) : MIn x := h.2 x hx
/-- What is so of each element, beside how it lies. -/
theorem LsAt.both {α : Type} {R : RP} {e : TypeId} {size : Nat} {C : α → List Value → Prop} {p : α → Prop} {l : List α} {u : Value} (h : LsAt R e size (fun a cs => C a cs ∧ p a) l u) : LsAt R e size C l u ∧ ∀ a ∈ l, p a := by
  obtain ⟨xs, h1, h2⟩ := h
  refine ⟨⟨xs, h1, h2.imp fun a cs h => h.1⟩, ?_⟩
  clear h1
  induction l generalizing xs with
  | nil => intro a ha; cases ha
  | cons y l ih =>
    obtain ⟨cs, ys, h3, h4, h5⟩ := h2
    intro a ha
    rcases List.mem_cons.1 ha with rfl | ha
    · exact h4.2
    · exact ih ys h5 a ha

section

variable {H : Type} {enc : TypeId × Value → H} {W : World} {n : Nat}

theorem ti_string {v : Value} {y : DataW H × List MemPlace} (h : DataW.trod enc Tryz.prog W 0 (fun _ => true) true n 9 [v] = some y) (hz : Szd 9 y.1) : ∃ x : List UInt8, v = .string (tx x) ∧ x.length ≤ 140737488351232 := by
  obtain ⟨s, h1, h3, h2⟩ := DataW.trod_string Tryz.underlying9 h
  refine ⟨s.data.toList, by rw [tx_of]; simpa using h1, ?_⟩
  rw [h3] at hz
  exact hz _ (by simp [DataW.weights])
theorem ti_int {v : Value} {y : DataW H × List MemPlace} (h : DataW.trod enc Tryz.prog W 0 (fun _ => true) true n 3 [v] = some y) : ∃ k : Int, v = .int .i64 k ∧ inI k := by
  obtain ⟨k, h1, _, h2⟩ := DataW.trod_int Tryz.underlying3 h
  exact ⟨k, by simpa using h1, bounds_i64 h2⟩
theorem ti_int64 {v : Value} {y : DataW H × List MemPlace} (h : DataW.trod enc Tryz.prog W 0 (fun _ => true) true n 2 [v] = some y) : ∃ k : Int, v = .int .i64 k ∧ inI k := by
  obtain ⟨k, h1, _, h2⟩ := DataW.trod_int Tryz.underlying2 h
  exact ⟨k, by simpa using h1, bounds_i64 h2⟩
theorem open_valI {N : Nat} (ih : ∀ (n : Nat) (cs : List Value) (y : DataW H × List MemPlace), cs.length = 1 → DataW.trod enc Tryz.prog W 0 (fun _ => true) true n 28 cs = some y → SizeOf.sizeOf y.1 < N → Szd 28 y.1 → ∃ m, MAt (Rd W.heap.size W) N m cs ∧ MIn m)
    {cs : List Value} {y : DataW H × List MemPlace} (hl : cs.length = 3) (h : DataW.trod enc Tryz.prog W 0 (fun _ => true) true n 31 cs = some y) (hy : SizeOf.sizeOf y.1 < N + 2) (hz : Szd 31 y.1) : ∃ v, VAt (Rd W.heap.size W) N v cs ∧ VIn v := by
  obtain ⟨xs, k, -, hx0, -, hxl, hg⟩ := DataW.trod_struct Tryz.underlying31 h
  obtain ⟨x0, x1, x2, rfl⟩ := tr_list3 (show xs.length = 3 from hxl)
  obtain ⟨v0, v1, v2, rfl⟩ := tr_list3 hl
  have g0 : DataW.trod enc Tryz.prog W 0 (fun _ => true) true k 2 (List.take (Tryz.prog.cellsOf 2) [v0, v1, v2]) = some x0 := hg 0 _ rfl
  have g1 : DataW.trod enc Tryz.prog W 0 (fun _ => true) true k 9 (List.take (Tryz.prog.cellsOf 9) [v1, v2]) = some x1 := hg 1 _ rfl
  have g2 : DataW.trod enc Tryz.prog W 0 (fun _ => true) true k 29 (List.take (Tryz.prog.cellsOf 29) [v2]) = some x2 := hg 2 _ rfl
  rw [kt_int64] at g0
  rw [kt_string] at g1
  rw [kt_msgs] at g2
  subst hx0
  obtain ⟨a0, rfl, b0⟩ := ti_int64 g0
  obtain ⟨a1, rfl, b1⟩ := ti_string g1 (hz.struct Tryz.underlying31 1 rfl rfl)
  have hz2 : Szd 29 x2.1 := hz.struct Tryz.underlying31 2 rfl rfl
  have hlt : SizeOf.sizeOf x2.1 < _ := sz_part (parts := [x0.1, x1.1, x2.1]) (by simp : x2.1 ∈ _)
  obtain ⟨M, hM⟩ := open_lesser Tryz.underlying29 kt_msg (by decide) kb_msg (fun m cs => MAt (Rd W.heap.size W) N m cs ∧ MIn m) (fun n cs y hl h hy hz => ih n cs y hl h (by simp only [List.map_cons, List.map_nil] at *; omega) hz) (show DataW.trod enc Tryz.prog W 0 (fun _ => true) true k 29 [v2] = some x2 from g2) hz2
  obtain ⟨hM1, hM2⟩ := hM.both
  exact ⟨⟨a0, a1, M⟩, ⟨v2, rfl, hM1⟩, ⟨b0, b1⟩, hM2⟩
theorem open_slotI {N : Nat} (ih : ∀ (n : Nat) (cs : List Value) (y : DataW H × List MemPlace), cs.length = 1 → DataW.trod enc Tryz.prog W 0 (fun _ => true) true n 28 cs = some y → SizeOf.sizeOf y.1 < N → Szd 28 y.1 → ∃ m, MAt (Rd W.heap.size W) N m cs ∧ MIn m)
    {cs : List Value} {y : DataW H × List MemPlace} (hl : cs.length = 3) (h : DataW.trod enc Tryz.prog W 0 (fun _ => true) true n 36 cs = some y) (hy : SizeOf.sizeOf y.1 < N + 3) (hz : Szd 36 y.1) : ∃ s, SAt' (Rd W.heap.size W) N s cs ∧ SIn s := by
  obtain ⟨xs, k, -, hx0, -, hxl, hg⟩ := DataW.trod_struct Tryz.underlying36 h
  obtain ⟨x0, x1, x2, rfl⟩ := tr_list3 (show xs.length = 3 from hxl)
  obtain ⟨v0, v1, v2, rfl⟩ := tr_list3 hl
  have g0 : DataW.trod enc Tryz.prog W 0 (fun _ => true) true k 3 (List.take (Tryz.prog.cellsOf 3) [v0, v1, v2]) = some x0 := hg 0 _ rfl
  have g1 : DataW.trod enc Tryz.prog W 0 (fun _ => true) true k 34 (List.take (Tryz.prog.cellsOf 34) [v1, v2]) = some x1 := hg 1 _ rfl
  have g2 : DataW.trod enc Tryz.prog W 0 (fun _ => true) true k 34 (List.take (Tryz.prog.cellsOf 34) [v2]) = some x2 := hg 2 _ rfl
  rw [kt_int] at g0
  rw [kt_vals] at g1 g2
  obtain ⟨a0, rfl, b0⟩ := ti_int g0
  subst hx0
  have hz1 : Szd 34 x1.1 := hz.struct Tryz.underlying36 1 rfl rfl
  have hz2 : Szd 34 x2.1 := hz.struct Tryz.underlying36 2 rfl rfl
  have hlt1 : SizeOf.sizeOf x1.1 < _ := sz_part (parts := [x0.1, x1.1, x2.1]) (by simp : x1.1 ∈ _)
  have hlt2 : SizeOf.sizeOf x2.1 < _ := sz_part (parts := [x0.1, x1.1, x2.1]) (by simp : x2.1 ∈ _)
  obtain ⟨K, hK⟩ := open_lesser Tryz.underlying34 kt_val (by decide) kb_val (fun m cs => VAt (Rd W.heap.size W) N m cs ∧ VIn m) (fun n cs y hl h hy hz => open_valI ih hl h (by simp only [List.map_cons, List.map_nil] at *; omega) hz) (show DataW.trod enc Tryz.prog W 0 (fun _ => true) true k 34 [v1] = some x1 from g1) hz1
  obtain ⟨V, hV⟩ := open_lesser Tryz.underlying34 kt_val (by decide) kb_val (fun m cs => VAt (Rd W.heap.size W) N m cs ∧ VIn m) (fun n cs y hl h hy hz => open_valI ih hl h (by simp only [List.map_cons, List.map_nil] at *; omega) hz) (show DataW.trod enc Tryz.prog W 0 (fun _ => true) true k 34 [v2] = some x2 from g2) hz2
  obtain ⟨hK1, hK2⟩ := hK.both
  obtain ⟨hV1, hV2⟩ := hV.both
  exact ⟨⟨a0, K, V⟩, ⟨v1, v2, rfl, hK1, hV1⟩, b0, fun v hv => hv.elim (hK2 v) (hV2 v)⟩
theorem open_msg0I : ∀ (N n : Nat) (cs : List Value) (y : DataW H × List MemPlace), cs.length = 1 → DataW.trod enc Tryz.prog W 0 (fun _ => true) true n 28 cs = some y → SizeOf.sizeOf y.1 < N → Szd 28 y.1 → ∃ m, MAt (Rd W.heap.size W) N m cs ∧ MIn m
  | 0, _, _, _, _, _, h, _ => by omega
  | N + 1, n, cs, y, hl, h, hy, hz => by
    obtain ⟨xs, k, -, hx0, -, hxl, hg⟩ := DataW.trod_struct Tryz.underlying28 h
    obtain ⟨x0, rfl⟩ := tr_list1 (show xs.length = 1 from hxl)
    obtain ⟨v0, rfl⟩ := tr_list1 hl
    have g0 : DataW.trod enc Tryz.prog W 0 (fun _ => true) true k 26 (List.take (Tryz.prog.cellsOf 26) [v0]) = some x0 := hg 0 _ rfl
    rw [kt_slots] at g0
    subst hx0
    have hz1 : Szd 26 x0.1 := hz.struct Tryz.underlying28 0 rfl rfl
    have hlt1 : SizeOf.sizeOf x0.1 < _ := sz_part (parts := [x0.1]) (by simp : x0.1 ∈ _)
    obtain ⟨F, hF⟩ := open_lesser Tryz.underlying26 kt_slot (by decide) kb_slot (fun m cs => SAt' (Rd W.heap.size W) N m cs ∧ SIn m) (fun n cs y hl h hy hz => open_slotI (open_msg0I N) hl h (by simp only [List.map_cons, List.map_nil] at *; omega) hz) (show DataW.trod enc Tryz.prog W 0 (fun _ => true) true k 26 [v0] = some x0 from g0) hz1
    obtain ⟨hF1, hF2⟩ := hF.both
    exact ⟨.mk F, ⟨v0, rfl, hF1⟩, .of hF2⟩
/-- A message that comes in. -/
theorem open_msgI {base : Nat} {v : Value} {d : DataW H} {ps : List MemPlace}
    (hval : Value.okWide Tryz.prog W .any base 28 v) (h : DataW.Trod enc Tryz.prog W 0 (fun _ => true) true 28 v d ps) (hz : Szd 28 d) :
    ∃ (m : Mg) (u : Value) (k : Nat), v = .agg #[u] ∧ MRd W.heap.size W k m u ∧ MIn m := by
  obtain ⟨cs, rfl, hsz⟩ := okWide_struct Tryz.underlying28 hval
  obtain ⟨l⟩ := cs
  obtain ⟨fuel, hf⟩ := h
  obtain ⟨xs, k, -, -, hlen, hxl, hg⟩ := DataW.trod_struct Tryz.underlying28 hf
  have hl1 : l.length = 1 := by rw [kt_msg] at hlen; simpa [Value.cells] using hlen
  obtain ⟨u, rfl⟩ := tr_list1 hl1
  obtain ⟨m, hm, hi⟩ := open_msg0I (SizeOf.sizeOf d + 1) fuel [u] (d, ps) rfl (by simpa [Value.cells] using hf) (Nat.lt_succ_self _) hz
  exact ⟨m, u, _, rfl, hm, hi⟩
/-- A slot that comes in. -/
theorem open_slI {base : Nat} {v : Value} {d : DataW H} {ps : List MemPlace}
    (hval : Value.okWide Tryz.prog W .any base 36 v) (h : DataW.Trod enc Tryz.prog W 0 (fun _ => true) true 36 v d ps) (hz : Szd 36 d) :
    ∃ (s : So) (u1 u2 : Value) (k : Nat), v = .agg #[.int .i64 s.no, u1, u2] ∧ SAt' (Rd W.heap.size W) k s [.int .i64 s.no, u1, u2] ∧ SIn s := by
  obtain ⟨cs, rfl, hsz⟩ := okWide_struct Tryz.underlying36 hval
  obtain ⟨l⟩ := cs
  obtain ⟨fuel, hf⟩ := h
  obtain ⟨xs, k, -, -, hlen, hxl, hg⟩ := DataW.trod_struct Tryz.underlying36 hf
  have hl1 : l.length = 3 := by rw [kt_slot] at hlen; simpa [Value.cells] using hlen
  obtain ⟨s, hs, hi⟩ := open_slotI (open_msg0I (SizeOf.sizeOf d + 1)) (y := (d, ps)) hl1 (by simpa [Value.cells] using hf) (show SizeOf.sizeOf d < _ by omega) hz
  obtain ⟨u1, u2, rfl, h2⟩ := id hs
  exact ⟨s, u1, u2, _, rfl, hs, hi⟩
/-- A value that comes in. -/
theorem open_vaI {base : Nat} {v : Value} {d : DataW H} {ps : List MemPlace}
    (hval : Value.okWide Tryz.prog W .any base 31 v) (h : DataW.Trod enc Tryz.prog W 0 (fun _ => true) true 31 v d ps) (hz : Szd 31 d) :
    ∃ (s : Vl') (u : Value) (k : Nat), v = .agg #[.int .i64 s.n, .string (tx s.s), u] ∧ VAt (Rd W.heap.size W) k s [.int .i64 s.n, .string (tx s.s), u] ∧ VIn s := by
  obtain ⟨cs, rfl, hsz⟩ := okWide_struct Tryz.underlying31 hval
  obtain ⟨l⟩ := cs
  obtain ⟨fuel, hf⟩ := h
  obtain ⟨xs, k, -, -, hlen, hxl, hg⟩ := DataW.trod_struct Tryz.underlying31 hf
  have hl1 : l.length = 3 := by rw [kt_val] at hlen; simpa [Value.cells] using hlen
  obtain ⟨s, hs, hi⟩ := open_valI (open_msg0I (SizeOf.sizeOf d + 1)) (y := (d, ps)) hl1 (by simpa [Value.cells] using hf) (show SizeOf.sizeOf d < _ by omega) hz
  obtain ⟨u, rfl, h2⟩ := id hs
  exact ⟨s, u, _, rfl, hs, hi⟩
end

end Go.Proofs.YtggcjdajmbkpiaaGreatDoor.T9
