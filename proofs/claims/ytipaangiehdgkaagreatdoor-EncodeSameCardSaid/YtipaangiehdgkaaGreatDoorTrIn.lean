/-
  Slices of bytes that read as lists of bytes.
-/
import Derived.Test.YtipaangiehdgkaaGreatDoorTrAwake
import Derived.Laws.BytesArg
import Derived.Laws.RangeAny
import Derived.Lib.Strings
import Derived.Lib.OthersKept
import Derived.Deep.QuietTactic
import Derived.BigQuiet
import Derived.Deep.WholeRow
import Derived.Great.BuildSlice
import Derived.Test.YtipaangiehdgkaaGreatDoorTabFacts
import Derived.OpenShut
namespace Go.Proofs.YtipaangiehdgkaaGreatDoor
set_option maxRecDepth 100000

open Go.ChangeShapes Go.WideShapes Go.ChangeAt Go.RowKit

/-! ### Bytes -/

def BV (b : UInt8) : Value := .int .u8 (b.toNat : Int)
def bs (l : List UInt8) : List Value := l.map BV
theorem bs_append (a b : List UInt8) : bs (a ++ b) = bs a ++ bs b := by simp [bs]
theorem bs_length (a : List UInt8) : (bs a).length = a.length := by simp [bs]
theorem bs_get (a : List UInt8) (k : Nat) : (bs a)[k]? = a[k]?.map BV := by simp [bs]
theorem bs_one (a : List UInt8) : ∀ u ∈ bs a, u.oneCell' = true := by
  intro u hu
  obtain ⟨b, _, rfl⟩ := List.mem_map.1 hu
  rfl

/-- A slice of bytes that reads as the list l. -/
def SlB (w : World) (A : Option Addr) (c : Nat) (l : List UInt8) : Prop := Sl w A l.length c 1 (bs l)
theorem SlB.on {w w' : World} {A : Option Addr} {c : Nat} {l : List UInt8} (h : SlB w A c l) (hb : Below w.heap.size w w') : SlB w' A c l := Sl.on h hb
theorem SlB.lit {w : World} {A : Option Addr} {c : Nat} {l : List UInt8} (h : SlB w A c l) (o : Obj) : SlB (w.alloc o) A c l := h.on (below_new w o)
theorem SlB.drew {w : World} {A : Option Addr} {c : Nat} {l : List UInt8} (h : SlB w A c l) : SlB w.drew A c l := h.on (Below.refl _ _).drew
theorem SlB.le {w : World} {A : Option Addr} {c : Nat} {l : List UInt8} (h : SlB w A c l) : l.length ≤ c := Sl.le h
theorem SlB.small {w : World} {A : Option Addr} {c : Nat} {l : List UInt8} (h : SlB w A c l) : l.length ≤ 9223372036854775807 ∧ c ≤ 9223372036854775807 := by
  have h1 := Sl.le h
  have h2 := Sl.cap h
  unfold maxLen at h2
  omega
/-- The byte at k: its address, and its cell. -/
theorem SlB.at_ {w : World} {A : Option Addr} {c : Nat} {l : List UInt8} (h : SlB w A c l) {k : Nat} (hk : k < l.length) : ∃ ad b, A = some ad ∧ ad.block < w.heap.size ∧ l[k]? = some b ∧ w.cell? (ad.add k) = some (.int .u8 (b.toNat : Int)) := by
  obtain ⟨ad, rfl, hb, hcell⟩ := Sl.there h (by omega)
  exact ⟨ad, l[k], rfl, hb, List.getElem?_eq_getElem hk, hcell k _ (by rw [bs_get, List.getElem?_eq_getElem hk]; rfl)⟩
theorem SlB.of_own {w : World} {base : Nat} {e : TypeId} {v : Value} {l : List UInt8} (h : w.ownsRow base e 1 v l.length (bs l)) : ∃ A c, v = .slice A l.length c ∧ SlB w A c l := Sl.of_own h
theorem SlB.nil (w : World) : SlB w none 0 [] := Sl.nothing w 1

theorem info_u8 : (Tryz.prog.info? 5).map (fun i => (i.zero, i.size, i.bytes)) = some (some (.int .u8 0), 1, 1) := by kernel_rfl
theorem lit_reads (w : World) (l : List UInt8) (hl : l.length ≤ 100) : SlB (w.alloc (.cells (bs l).toArray 5)) (some ⟨w.heap.size, 0, none⟩) l.length l := by
  have h := Sl.new w (bs l) 5 (by rw [bs_length]; unfold maxLen; omega)
  rw [bs_length] at h
  exact h

end Go.Proofs.YtipaangiehdgkaaGreatDoor
/-
  Bytes that become a text: the conversion of a slice of bytes.
-/
namespace Go.Proofs.YtipaangiehdgkaaGreatDoor
set_option maxRecDepth 100000

open Go.RowKit

def txt (l : List UInt8) : ByteArray := ⟨l.toArray⟩
theorem txt_list (l : List UInt8) : (txt l).data.toList = l := by simp [txt]
theorem txt_size (l : List UInt8) : (txt l).size = l.length := by simp [txt, ByteArray.size]
theorem txt_of (s : ByteArray) : txt s.data.toList = s := by cases s; simp [txt]
theorem run_str_of_bytes {P : Program} (w : World) (src dst e : TypeId) (hs : P.underlying src = some (.slice e)) (he : P.underlying e = some (.int .u8)) (hd : P.underlying dst = some .string)
    (A : Option Addr) (c : Nat) (l : List UInt8) (hr : SlB w A c l) : (convert src dst (.slice A l.length c)).run P w = .ok (.string (txt l)) w := by
  cases A with
  | none =>
    obtain ⟨hn, rfl, hx⟩ := Sl.none_len hr
    obtain rfl : l = [] := List.eq_nil_of_length_eq_zero hn
    exact run_convert_bytes_nil w src e hs he 0 0 dst hd
  | some ad =>
    have hm : (l.map fun b => (b.toNat : Int)).map (Value.int .u8) = bs l := by simp [bs, BV]
    have hl : (loadCells ad l.length).run P w = .ok ((l.map fun b => (b.toNat : Int)).map (Value.int .u8)).toArray w := by
      have := run_loadCells_list (P := P) w ad (bs l) (fun j v hj => Sl.cell hr ad rfl j v hj)
      rw [bs_length] at this
      rw [hm]
      exact this
    rw [run_convert_bytes_string w src dst e _ _ _ hs he hd, run_bytesToString w _ _ _ _ hl, foldl_push_bytes]
    have h2 : ((l.map fun b => (b.toNat : Int)).map fun n => UInt8.ofNat n.toNat) = l := by
      rw [List.map_map]
      conv => rhs; rw [← List.map_id l]
      refine List.map_congr_left fun b _ => ?_
      simp
    rw [h2]
    simp [txt, ByteArray.empty, ByteArray.emptyWithCapacity]
    rfl
end Go.Proofs.YtipaangiehdgkaaGreatDoor
/-
  Signs of UTF-8, on lists alone: how many bytes a sign has, how many first bytes are signs, what the model's own decoder makes of the same bytes; one text less than another one.
-/
namespace Go.Proofs.YtipaangiehdgkaaGreatDoor.T4
set_option maxRecDepth 100000

/-- How many bytes the sign has with which n bytes begin, of which the first four are these; 0: none. -/
def sg (n b0 b1 b2 b3 : Nat) : Nat :=
  if n = 0 then 0
  else if b0 ≤ 127 then 1
  else if 194 ≤ b0 ∧ b0 ≤ 223 then (if 2 ≤ n ∧ 128 ≤ b1 ∧ b1 ≤ 191 then 2 else 0)
  else if 224 ≤ b0 ∧ b0 ≤ 239 then (if 3 ≤ n ∧ 128 ≤ b1 ∧ b1 ≤ 191 ∧ 128 ≤ b2 ∧ b2 ≤ 191 ∧ ¬ (b0 = 224 ∧ b1 < 160) ∧ ¬ (b0 = 237 ∧ 159 < b1) then 3 else 0)
  else if 240 ≤ b0 ∧ b0 ≤ 244 then (if 4 ≤ n ∧ 128 ≤ b1 ∧ b1 ≤ 191 ∧ 128 ≤ b2 ∧ b2 ≤ 191 ∧ 128 ≤ b3 ∧ b3 ≤ 191 ∧ ¬ (b0 = 240 ∧ b1 < 144) ∧ ¬ (b0 = 244 ∧ 143 < b1) then 4 else 0)
  else 0
def by' (l : List UInt8) (k : Nat) : Nat := (l.getD k 0).toNat
def sgn (l : List UInt8) : Nat := sg l.length (by' l 0) (by' l 1) (by' l 2) (by' l 3)

theorem by_lt (l : List UInt8) (k : Nat) : by' l k < 256 := (l.getD k 0).toNat_lt
theorem sg_le (n b0 b1 b2 b3 : Nat) : sg n b0 b1 b2 b3 ≤ n ∧ sg n b0 b1 b2 b3 ≤ 4 := by
  unfold sg
  split
  · omega
  split
  · omega
  split
  · split <;> omega
  split
  · split <;> omega
  split
  · split <;> omega
  · omega
theorem sgn_le (l : List UInt8) : sgn l ≤ l.length := (sg_le _ _ _ _ _).1
/-- How many bytes are signs, from the first one on. -/
def first (l : List UInt8) : Nat := if h : sgn l = 0 then 0 else sgn l + first (l.drop (sgn l))
termination_by l.length
decreasing_by
  have := sgn_le l
  simp only [List.length_drop]
  omega
theorem first_none {l : List UInt8} (h : sgn l = 0) : first l = 0 := by rw [first, dif_pos h]
theorem first_some {l : List UInt8} (h : sgn l ≠ 0) : first l = sgn l + first (l.drop (sgn l)) := by rw [first, dif_neg h]
theorem first_nil : first [] = 0 := first_none rfl
theorem by_drop (l : List UInt8) (n k : Nat) : by' (l.drop n) k = by' l (n + k) := by
  unfold by'
  rw [List.getD_eq_getElem?_getD, List.getD_eq_getElem?_getD, List.getElem?_drop]
/-! ### The model's own decoder -/

def dec (n b0 b1 b2 b3 : Nat) : Nat × Nat :=
  if b0 < 0x80 then (b0, 1)
  else if b0 / 32 == 6 && (decide (1 < n) && b1 / 64 == 2) then
    let c := (b0 % 32) * 64 + b1 % 64
    if c ≥ 0x80 then (c, 2) else (Utf8.runeError, 1)
  else if b0 / 16 == 14 && (decide (1 < n) && b1 / 64 == 2) && (decide (2 < n) && b2 / 64 == 2) then
    let c := (b0 % 16) * 4096 + (b1 % 64) * 64 + b2 % 64
    if c ≥ 0x800 && Utf8.valid c then (c, 3) else (Utf8.runeError, 1)
  else if b0 / 8 == 30 && (decide (1 < n) && b1 / 64 == 2) && (decide (2 < n) && b2 / 64 == 2) && (decide (3 < n) && b3 / 64 == 2) then
    let c := (b0 % 8) * 262144 + (b1 % 64) * 4096 + (b2 % 64) * 64 + b3 % 64
    if c ≥ 0x10000 && Utf8.valid c then (c, 4) else (Utf8.runeError, 1)
  else (Utf8.runeError, 1)

/-- Of a sign the decoder tells its bytes, and U+FFFD of just the one that is written so; of no sign it tells U+FFFD, and one byte. -/
theorem dec_sg (n b0 b1 b2 b3 : Nat) (hn : 0 < n) (h0 : b0 < 256) (h1 : b1 < 256) (h2 : b2 < 256) (h3 : b3 < 256) :
    (sg n b0 b1 b2 b3 = 0 → dec n b0 b1 b2 b3 = (65533, 1) ∧ ¬ (3 ≤ n ∧ b0 = 239 ∧ b1 = 191 ∧ b2 = 189)) ∧
    (sg n b0 b1 b2 b3 ≠ 0 → (dec n b0 b1 b2 b3).2 = sg n b0 b1 b2 b3 ∧ ((dec n b0 b1 b2 b3).1 = 65533 → 3 ≤ n ∧ b0 = 239 ∧ b1 = 191 ∧ b2 = 189)) := by
  have v3 : ∀ a b c : Nat, a < 16 → b < 64 → c < 64 → Utf8.valid ((a * 4096 + b * 64 + c : Nat) : Int) = !decide (a = 13 ∧ 32 ≤ b) := by
    intro a b c ha hb hc
    unfold Utf8.valid
    rw [Bool.eq_iff_iff]
    simp only [Bool.or_eq_true, Bool.and_eq_true, decide_eq_true_eq, Bool.not_eq_true', decide_eq_false_iff_not]
    omega
  have v4 : ∀ a b c d : Nat, a < 8 → b < 64 → c < 64 → d < 64 → 65536 ≤ a * 262144 + b * 4096 + c * 64 + d → Utf8.valid ((a * 262144 + b * 4096 + c * 64 + d : Nat) : Int) = !decide (4 < a ∨ a = 4 ∧ 16 ≤ b) := by
    intro a b c d ha hb hc hd hg
    unfold Utf8.valid
    rw [Bool.eq_iff_iff]
    simp only [Bool.or_eq_true, Bool.and_eq_true, decide_eq_true_eq, Bool.not_eq_true', decide_eq_false_iff_not]
    omega
  have w3 := v3 (b0 % 16) (b1 % 64) (b2 % 64) (by omega) (by omega) (by omega)
  have w4 := v4 (b0 % 8) (b1 % 64) (b2 % 64) (b3 % 64) (by omega) (by omega) (by omega) (by omega)
  clear v3 v4
  unfold sg dec Utf8.runeError
  rw [if_neg (by omega : ¬ n = 0)]
  by_cases c0 : b0 ≤ 127
  · rw [if_pos c0, if_pos (by omega)]
    exact ⟨by omega, fun _ => ⟨rfl, by simp only; omega⟩⟩
  rw [if_neg c0, if_neg (by omega : ¬ b0 < 128)]
  have n3 : ∀ V : Bool, (V = true) = (V = true) := fun _ => rfl
  by_cases c1 : b0 / 32 = 6
  · have e1 : (b0 / 32 == 6) = true := by simpa using c1
    have g1 : ¬ (224 ≤ b0 ∧ b0 ≤ 239) := by omega
    have g2 : ¬ (240 ≤ b0 ∧ b0 ≤ 244) := by omega
    have e2 : (b0 / 16 == 14) = false := by simp; omega
    have e3 : (b0 / 8 == 30) = false := by simp; omega
    clear w3 w4 n3
    simp only [e1, e2, e3, Bool.true_and, Bool.false_and, if_neg g1, if_neg g2, Bool.and_eq_true, decide_eq_true_eq, beq_iff_eq, ge_iff_le, Bool.false_eq_true, if_false]
    constructor
    · intro hs
      refine ⟨?_, by omega⟩
      split
      · split
        · exfalso
          rw [if_pos (by omega), if_pos (by omega)] at hs
          omega
        · rfl
      · rfl
    · intro hs
      have hg : 194 ≤ b0 ∧ b0 ≤ 223 := by
        by_cases hg : 194 ≤ b0 ∧ b0 ≤ 223
        · exact hg
        · rw [if_neg hg] at hs; omega
      rw [if_pos hg] at hs ⊢
      have hk : 2 ≤ n ∧ 128 ≤ b1 ∧ b1 ≤ 191 := by
        by_cases hk : 2 ≤ n ∧ 128 ≤ b1 ∧ b1 ≤ 191
        · exact hk
        · rw [if_neg hk] at hs; omega
      rw [if_pos hk, if_pos (by omega), if_pos (by omega)]
      exact ⟨rfl, by simp only; omega⟩
  by_cases c2 : b0 / 16 = 14
  · have e1 : (b0 / 32 == 6) = false := by simp; omega
    have g1 : ¬ (194 ≤ b0 ∧ b0 ≤ 223) := by omega
    have g2 : 224 ≤ b0 ∧ b0 ≤ 239 := by omega
    have e2 : (b0 / 16 == 14) = true := by simpa using c2
    have e3 : (b0 / 8 == 30) = false := by simp; omega
    clear w4 n3
    simp only [e1, e2, e3, w3, Bool.true_and, Bool.false_and, if_neg g1, if_pos g2, Bool.and_eq_true, decide_eq_true_eq, beq_iff_eq, ge_iff_le, Bool.false_eq_true, if_false, Bool.not_eq_true', decide_eq_false_iff_not]
    clear w3
    constructor
    · intro hs
      refine ⟨?_, ?_⟩
      · split
        · split
          · exfalso
            rw [if_pos (by omega)] at hs
            omega
          · rfl
        · rfl
      · intro hx
        rw [if_pos (by omega)] at hs
        omega
    · intro hs
      have hk : 3 ≤ n ∧ 128 ≤ b1 ∧ b1 ≤ 191 ∧ 128 ≤ b2 ∧ b2 ≤ 191 ∧ ¬ (b0 = 224 ∧ b1 < 160) ∧ ¬ (b0 = 237 ∧ 159 < b1) := by
        by_cases hk : 3 ≤ n ∧ 128 ≤ b1 ∧ b1 ≤ 191 ∧ 128 ≤ b2 ∧ b2 ≤ 191 ∧ ¬ (b0 = 224 ∧ b1 < 160) ∧ ¬ (b0 = 237 ∧ 159 < b1)
        · exact hk
        · rw [if_neg hk] at hs; omega
      rw [if_pos hk, if_pos (by omega), if_pos (by omega)]
      exact ⟨rfl, by simp only; omega⟩
  by_cases c3 : b0 / 8 = 30
  · have e1 : (b0 / 32 == 6) = false := by simp; omega
    have g1 : ¬ (194 ≤ b0 ∧ b0 ≤ 223) := by omega
    have g2 : ¬ (224 ≤ b0 ∧ b0 ≤ 239) := by omega
    have e2 : (b0 / 16 == 14) = false := by simp; omega
    have e3 : (b0 / 8 == 30) = true := by simpa using c3
    clear w3 n3
    simp only [e1, e2, e3, Bool.true_and, Bool.false_and, if_neg g1, if_neg g2, Bool.and_eq_true, decide_eq_true_eq, beq_iff_eq, ge_iff_le, Bool.false_eq_true, if_false, Bool.not_eq_true', decide_eq_false_iff_not]
    constructor
    · intro hs
      refine ⟨?_, by omega⟩
      split
      · split
        · rename_i hq
          exfalso
          have hv := w4 hq.1
          rw [hq.2] at hv
          have hv : ¬ (4 < b0 % 8 ∨ b0 % 8 = 4 ∧ 16 ≤ b1 % 64) := by
            rw [eq_comm, Bool.not_eq_true', decide_eq_false_iff_not] at hv
            exact hv
          rw [if_pos (by omega), if_pos (by omega)] at hs
          omega
        · rfl
      · rfl
    · intro hs
      have hg : 240 ≤ b0 ∧ b0 ≤ 244 := by
        by_cases hg : 240 ≤ b0 ∧ b0 ≤ 244
        · exact hg
        · rw [if_neg hg] at hs; omega
      rw [if_pos hg] at hs ⊢
      have hk : 4 ≤ n ∧ 128 ≤ b1 ∧ b1 ≤ 191 ∧ 128 ≤ b2 ∧ b2 ≤ 191 ∧ 128 ≤ b3 ∧ b3 ≤ 191 ∧ ¬ (b0 = 240 ∧ b1 < 144) ∧ ¬ (b0 = 244 ∧ 143 < b1) := by
        by_cases hk : 4 ≤ n ∧ 128 ≤ b1 ∧ b1 ≤ 191 ∧ 128 ≤ b2 ∧ b2 ≤ 191 ∧ 128 ≤ b3 ∧ b3 ≤ 191 ∧ ¬ (b0 = 240 ∧ b1 < 144) ∧ ¬ (b0 = 244 ∧ 143 < b1)
        · exact hk
        · rw [if_neg hk] at hs; omega
      have hge : 65536 ≤ b0 % 8 * 262144 + b1 % 64 * 4096 + b2 % 64 * 64 + b3 % 64 := by omega
      have hv := w4 hge
      have hd : decide (4 < b0 % 8 ∨ b0 % 8 = 4 ∧ 16 ≤ b1 % 64) = false := by simp only [decide_eq_false_iff_not]; omega
      rw [hd, Bool.not_false] at hv
      have hc : ((1 < n ∧ b1 / 64 = 2) ∧ 2 < n ∧ b2 / 64 = 2) ∧ 3 < n ∧ b3 / 64 = 2 := by omega
      rw [if_pos hk]
      simp only [hc, hv, hge, and_self, if_true, true_and]
      omega
  have e1 : (b0 / 32 == 6) = false := by simp; omega
  have g1 : ¬ (194 ≤ b0 ∧ b0 ≤ 223) := by omega
  have g2 : ¬ (224 ≤ b0 ∧ b0 ≤ 239) := by omega
  have g3 : ¬ (240 ≤ b0 ∧ b0 ≤ 244) := by omega
  have e2 : (b0 / 16 == 14) = false := by simp; omega
  have e3 : (b0 / 8 == 30) = false := by simp; omega
  simp only [e1, e2, e3, Bool.false_and, if_neg g1, if_neg g2, if_neg g3, Bool.false_eq_true, if_false]
  exact ⟨fun _ => ⟨trivial, by omega⟩, fun h => absurd rfl h⟩

theorem getBang (s : ByteArray) (i : Nat) : s.get! i = s.data.toList.getD i 0 := by
  rcases Nat.lt_or_ge i s.size with h | h
  · have h' : i < s.data.size := h
    rw [List.getD_eq_getElem?_getD, List.getElem?_eq_getElem (by simpa using h)]
    exact (getElem!_pos s.data i h').trans (by simp)
  · rw [List.getD_eq_getElem?_getD, List.getElem?_eq_none (by simpa using h)]
    have h' : ¬ i < s.data.size := Nat.not_lt.2 h
    exact (getElem!_neg s.data i h').trans rfl
theorem decode_dec (s : ByteArray) (i : Nat) (hi : i ≤ s.size) : Utf8.decode s i = dec (s.data.toList.drop i).length (by' (s.data.toList.drop i) 0) (by' (s.data.toList.drop i) 1) (by' (s.data.toList.drop i) 2) (by' (s.data.toList.drop i) 3) := by
  have hl : (s.data.toList.drop i).length = s.size - i := by simp
  have hc : ∀ k, (s.get! (i + k)).toNat = by' (s.data.toList.drop i) k := by
    intro k
    rw [by_drop, getBang]
    rfl
  have ht : ∀ k, decide (i + k < s.size) = decide (k < (s.data.toList.drop i).length) := by
    intro k
    rw [hl]
    congr 1
    exact propext ⟨by omega, by omega⟩
  simp only [Utf8.decode, hc, ht, dec]

/-- What the decoder tells at a place, by what stands there: a sign, or none. -/
theorem decode_sign (s : ByteArray) (i : Nat) (hi : i < s.size) :
    (sgn (s.data.toList.drop i) = 0 → Utf8.decode s i = (65533, 1) ∧ ¬ ((s.data.toList.drop i).take 3 = [239, 191, 189])) ∧
    (sgn (s.data.toList.drop i) ≠ 0 → (Utf8.decode s i).2 = sgn (s.data.toList.drop i) ∧ ((Utf8.decode s i).1 = 65533 → (s.data.toList.drop i).take 3 = [239, 191, 189])) := by
  rw [decode_dec s i (by omega)]
  have hl : (s.data.toList.drop i).length = s.size - i := by simp
  generalize s.data.toList.drop i = l at *
  have h3 : l.take 3 = [239, 191, 189] ↔ 3 ≤ l.length ∧ by' l 0 = 239 ∧ by' l 1 = 191 ∧ by' l 2 = 189 := by
    rcases l with _ | ⟨a, _ | ⟨b, _ | ⟨c, l⟩⟩⟩
    · simp
    · simp
    · simp
    · simp [by', ← UInt8.toNat_inj]
  rw [h3]
  exact dec_sg l.length _ _ _ _ (by omega) (by_lt _ _) (by_lt _ _) (by_lt _ _) (by_lt _ _)
end Go.Proofs.YtipaangiehdgkaaGreatDoor.T4
/-
  How many first bytes are signs: the contract of the function that goes through them.
-/
namespace Go.Proofs.YtipaangiehdgkaaGreatDoor.T4
set_option maxRecDepth 100000

open Go.RowKit

theorem prefix_any (s p : ByteArray) (w : World) :
    Calls Tryz.prog 192 #[.string s, .string p] w fun e w' => e = .returned (.bool (Lib.hasPrefix s.data.toList p.data.toList)) ∧ w = w' := by
  rw [← Lib.hasPrefix_of_take, ← Lib.size_eq, ← Lib.size_eq]
  go_enter Tryz.func192, Tryz.ntmps192
  go_wp2
  · rename_i h
    go_ret
    refine ⟨?_, rfl⟩
    show Ending.returned (Value.bool ((s.extract 0 p.size).toList == p.toList)) = _
    rw [Lib.extract_toList, Lib.toList_data]
    simp [h]
  · rename_i h
    go_ret
    refine ⟨?_, rfl⟩
    show Ending.returned (Value.bool false) = _
    simp [h]

theorem prefix3 (s : ByteArray) (pos : Nat) : Lib.hasPrefix (s.extract pos s.size).data.toList [239, 191, 189] = decide ((s.data.toList.drop pos).take 3 = [239, 191, 189]) := by
  rw [← Lib.hasPrefix_of_take, ← Lib.toList_data, Lib.extract_toList]
  have hsz : s.data.toList.length = s.size := by simp
  rw [List.take_of_length_le (by rw [List.length_drop, hsz]; exact Nat.le_refl _)]
  generalize s.data.toList.drop pos = l
  rw [Bool.eq_iff_iff]
  simp only [List.length_cons, List.length_nil, Bool.and_eq_true, decide_eq_true_eq, beq_iff_eq]
  constructor
  · exact fun h => h.2
  · intro h
    have := congrArg List.length h
    simp at this
    exact ⟨by omega, h⟩
set_option maxRecDepth 1000000 in
theorem first_any (A : Option Addr) (c : Nat) (l : List UInt8) (hl : l.length ≤ 140737488351232) (w : World) (hr : SlB w A c l) :
    Calls Tryz.prog 174 #[.slice A l.length c] w fun e w' => e = .returned (.int .i64 (first l)) ∧ Below w.heap.size w w' := by
  have hcv := run_str_of_bytes (P := Tryz.prog) w 22 9 5 Tryz.underlying22 Tryz.underlying5 Tryz.underlying9 A c l hr
  have hss := txt_size l
  obtain ⟨s, hs⟩ : ∃ s, s = txt l := ⟨_, rfl⟩
  rw [← hs] at hcv hss
  have HS := Lib.hid hs
  have HSZ := Lib.hid hss
  have hsz : s.size ≤ 140737488351232 := by omega
  clear hs hss
  go_enter Tryz.func174, Tryz.ntmps174
  go_wp2_with fail
  go_step3
  go_wp2_with fail
  go_step3
  go_wp2_with fail
  go_loopw [4] (fun p w' => ∃ pos : Nat, w' = w.iter s pos ∧ p = .int .i64 l.length ∧ pos ≤ l.length ∧ first l = pos + first (l.drop pos)) (fun _ w' => s.size - w'.iterPos w.heap.size)
  case atStart => exact ⟨0, rfl, rfl, by omega, by simp⟩
  case round =>
    obtain ⟨pos, rfl, rfl, hpl, hf⟩ := hrel
    have HF := Lib.hid hf
    clear hf
    by_cases hp : pos < s.size
    · have hnx : ∀ ty, (Instr.next (.pointer (some ⟨w.heap.size, 0, none⟩)) true ty).run Tryz.prog (w.iter s pos) = _ := fun ty => run_next_any w s pos ty hp
      have hsg := decode_sign s pos hp
      have hdl : s.data.toList.drop pos = l.drop pos := by rw [HS.out, txt_list]
      rw [hdl] at hsg
      have hpre := prefix3 s pos
      rw [hdl] at hpre
      have hle := sgn_le (l.drop pos)
      have hll : (l.drop pos).length = l.length - pos := List.length_drop
      obtain ⟨d, hd⟩ : ∃ d, d = Utf8.decode s pos := ⟨_, rfl⟩
      rw [← hd] at hnx hsg
      clear hd hdl
      by_cases hz : sgn (l.drop pos) = 0
      · obtain ⟨rfl, hno⟩ := hsg.1 hz
        have HP := Lib.hid (hpre.trans (show decide _ = false by simp [hno]))
        have HR := Lib.hid (HF.out.trans (by rw [first_none hz, Nat.add_zero] : _ = pos))
        clear hsg hpre hno hz hle hll
        go_wp2_with fail
        refine (prefix_any _ _ _).mono ?_
        rw [HP.out]
        rintro e w' ⟨rfl, rfl⟩
        go_wp2
        simp only [Exit.noGoto]
        go_ret
        exact ⟨ret_int (by rw [HR.out]), (below_new w (.stringIter s (pos + 1)))⟩
      · obtain ⟨hd2, h65⟩ := hsg.2 hz
        have HN := Lib.hid (first_some hz)
        have HDR := Lib.hid (List.drop_drop (l := l) (i := sgn (l.drop pos)) (j := pos))
        have hz' : 0 < sgn (l.drop pos) := by omega
        clear hsg hz
        by_cases hd1 : d.1 = 65533
        · have b1 : ((d.1 : Int) != 65533) = false := by simp; omega
          have HP := Lib.hid (hpre.trans (show decide _ = true by simp [h65 hd1]))
          have HL := Lib.hid hll
          have HD2 := Lib.hid hd2
          clear hpre h65 hll hd2
          go_wp2_with fail
          refine (prefix_any _ _ _).mono ?_
          rw [HP.out]
          rintro e w' ⟨rfl, rfl⟩
          go_wp2
          rw [HD2.out]
          have := HL.out
          refine ⟨⟨_, rfl, rfl, by omega, ?_⟩, by simp; omega⟩
          rw [HF.out, HN.out, HDR.out]; omega
        · have b1 : ((d.1 : Int) != 65533) = true := by simp; omega
          have HL := Lib.hid hll
          have HD2 := Lib.hid hd2
          clear hpre h65 hll hd2
          go_wp2_with fail
          rw [HD2.out]
          have := HL.out
          refine ⟨⟨_, rfl, rfl, by omega, ?_⟩, by simp; omega⟩
          rw [HF.out, HN.out, HDR.out]; omega
    · have hnx : ∀ ty, (Instr.next (.pointer (some ⟨w.heap.size, 0, none⟩)) true ty).run Tryz.prog (w.iter s pos) = _ := fun ty => run_next_end w s pos ty hp
      go_wp2
      have h := HF.out
      have h2 := HSZ.out
      rw [List.drop_of_length_le (by omega), first_nil] at h
      simp only [Exit.noGoto]
      go_ret
      exact ⟨ret_int (by omega), (below_new w (.stringIter s pos))⟩
end Go.Proofs.YtipaangiehdgkaaGreatDoor.T4
/-
  A piece of a slice of bytes, from one place to another one.
-/
namespace Go.Proofs.YtipaangiehdgkaaGreatDoor
set_option maxRecDepth 100000

open Go.RowKit

theorem Sl.part {w : World} {A : Option Addr} {n c : Nat} {xs : List Value} (h : Sl w A n c 1 xs) {i j : Nat} (hij : i ≤ j) (hj : j ≤ n) : Sl w (if i = c then A else A.map (·.add i)) (j - i) (c - i) 1 ((xs.drop i).take (j - i)) := by
  have hl := h.len
  have hle := h.le
  refine ⟨by rw [List.length_take, List.length_drop]; omega, by omega, by have := h.cap; omega, ?_, ?_, ?_⟩
  · intro hA
    have : A = none := by
      cases A with
      | none => rfl
      | some ad => split at hA <;> simp at hA
    have := h.nil this
    omega
  · intro ad ha hn
    rw [if_neg (by omega)] at ha
    obtain ⟨ad0, rfl, rfl⟩ := Option.map_eq_some_iff.1 ha
    rw [add_same_block]
    exact h.old ad0 rfl (by omega)
  · intro ad ha k u hu
    rw [List.getElem?_take] at hu
    split at hu
    · rw [if_neg (by omega)] at ha
      obtain ⟨ad0, rfl, rfl⟩ := Option.map_eq_some_iff.1 ha
      rw [add_twice]
      exact h.cell ad0 rfl _ _ (by rw [← List.getElem?_drop]; exact hu)
    · cases hu
theorem bs_part (l : List UInt8) (i n : Nat) : ((bs l).drop i).take n = bs ((l.drop i).take n) := by simp [bs]
/-- A piece, where it does not begin at the capacity's end. -/
theorem SlB.part {w : World} {A : Option Addr} {c : Nat} {l : List UInt8} (h : SlB w A c l) {i j : Nat} (hij : i ≤ j) (hj : j ≤ l.length) (hc : i ≠ c) : SlB w (A.map (·.add i)) (c - i) ((l.drop i).take (j - i)) := by
  have hp := Sl.part h hij hj
  rw [bs_part, if_neg hc] at hp
  unfold SlB
  rw [show ((l.drop i).take (j - i)).length = j - i by rw [List.length_take, List.length_drop]; omega]
  exact hp
end Go.Proofs.YtipaangiehdgkaaGreatDoor
/-
  Whether bytes are signs from one place to another one, and whether a text is less than another one: the contracts, of the program's functions and of the document's answers.
-/
namespace Go.Proofs.YtipaangiehdgkaaGreatDoor.T4
set_option maxRecDepth 100000

open Go.RowKit

/-- Whether bytes are signs from one place to another one. -/
def fineB (l : List UInt8) (a u : Int) : Bool := decide (0 ≤ a ∧ a ≤ u ∧ u ≤ l.length) && first ((l.drop a.toNat).take (u.toNat - a.toNat)) == u.toNat - a.toNat

theorem fine_eq (l : List UInt8) (i j : Nat) (hij : i ≤ j) (hj : j ≤ l.length) : fineB l i j = ((first ((l.drop i).take (j - i)) : Int) == (j : Int) - (i : Int)) := by
  unfold fineB
  rw [decide_eq_true (by omega), Bool.true_and, Bool.eq_iff_iff]
  simp only [beq_iff_eq, Int.toNat_natCast]
  omega

set_option maxRecDepth 1000000 in
theorem fine_any (A : Option Addr) (c : Nat) (l : List UInt8) (hl : l.length ≤ 140737488351232) (a u : Int) (w : World) (hr : SlB w A c l) :
    Calls Tryz.prog 153 #[.slice A l.length c, .int .i64 a, .int .i64 u] w fun e w' => e = .returned (.bool (fineB l a u)) ∧ Below w.heap.size w w' := by
  by_cases h0 : 0 ≤ a
  · by_cases h1 : a ≤ u
    · by_cases h2 : u ≤ l.length
      · obtain ⟨i, rfl⟩ := Int.eq_ofNat_of_zero_le h0
        obtain ⟨j, rfl⟩ := Int.eq_ofNat_of_zero_le (by omega : 0 ≤ u)
        have hij : i ≤ j := by omega
        have hj : j ≤ l.length := by omega
        have hjc : j ≤ c := by have := hr.le; omega
        have hlen : ((l.drop i).take (j - i)).length = j - i := by rw [List.length_take, List.length_drop]; omega
        have d0 : decide ((i : Int) < 0) = false := by simp
        have d1 : decide (j < i) = false := by simp; omega
        have d2 : decide (l.length < j) = false := by simp; omega
        have hp := Sl.part hr hij hj
        rw [bs_part] at hp
        have HF := Lib.hid (fine_eq l i j hij hj)
        generalize (l.drop i).take (j - i) = m at *
        have HL := Lib.hid hlen
        have hm : m.length ≤ 140737488351232 := by omega
        clear hlen h0 h1 h2
        by_cases hci : i = c
        · rw [if_pos hci] at hp
          have hp : SlB w A (c - i) m := by unfold SlB; rw [HL.out]; exact hp
          have H := first_any A (c - i) m hm w hp
          rw [HL.out] at H
          have := hr.le
          obtain rfl : j = i := by omega
          rw [← hci, Nat.sub_self] at H
          have HH := Lib.hid H
          have HC := Lib.hid hci
          clear hci H
          go_enter Tryz.func153, Tryz.ntmps153
          go_wp2_with fail
          · refine (HH.out).mono ?_
            rintro e w1 ⟨rfl, hb⟩
            go_wp2
            go_ret
            exact ⟨ret_bool (by rw [HF.out]; simp), hb⟩
          · exfalso
            rename_i h
            exact h HC.out.symm
        · rw [if_neg hci] at hp
          have hp : SlB w (A.map (·.add i)) (c - i) m := by unfold SlB; rw [HL.out]; exact hp
          have H := Lib.hid (first_any (A.map (·.add i)) (c - i) m hm w hp)
          rw [HL.out] at H
          have HC := Lib.hid hci
          clear hci
          go_enter Tryz.func153, Tryz.ntmps153
          go_wp2_with fail
          · exfalso
            rename_i h
            exact HC.out h.symm
          · refine (H.out).mono ?_
            rintro e w1 ⟨rfl, hb⟩
            go_wp2
            go_ret
            exact ⟨ret_bool HF.out.symm, hb⟩
      · have HF : Hid (fineB l a u = false) := Lib.hid (by simp [fineB, h2])
        have d0 : decide (a < 0) = false := by simp; omega
        have d1 : decide (u < a) = false := by simp; omega
        have d2 : decide ((l.length : Int) < u) = true := by simp; omega
        clear h0 h1 h2
        go_enter Tryz.func153, Tryz.ntmps153
        go_wp2
        go_ret
        exact ⟨ret_bool HF.out.symm, Below.refl _ _⟩
    · have HF : Hid (fineB l a u = false) := Lib.hid (by simp [fineB, h1])
      have d0 : decide (a < 0) = false := by simp; omega
      have d1 : decide (u < a) = true := by simp; omega
      clear h0 h1
      go_enter Tryz.func153, Tryz.ntmps153
      go_wp2
      go_ret
      exact ⟨ret_bool HF.out.symm, Below.refl _ _⟩
  · have HF : Hid (fineB l a u = false) := Lib.hid (by simp [fineB, h0])
    have d0 : decide (a < 0) = true := by simp; omega
    clear h0
    go_enter Tryz.func153, Tryz.ntmps153
    go_wp2
    go_ret
    exact ⟨ret_bool HF.out.symm, Below.refl _ _⟩
end Go.Proofs.YtipaangiehdgkaaGreatDoor.T4
/-
  The numbers of kinds: what the small functions of package conv hand back.
-/
namespace Go.Proofs.YtipaangiehdgkaaGreatDoor
set_option maxRecDepth 100000

open Go.RowKit

def S64 (r : Int) : Int := if r < 9223372036854775808 then r else r - 18446744073709551616
def S32 (r : Int) : Int := if r < 2147483648 then r else r - 4294967296
def U64 (n : Int) : Int := if 0 ≤ n then n else n + 18446744073709551616
def unzigI (r : Int) : Int := if r % 2 = 0 then r / 2 else -(r / 2) - 1
def zigI (n : Int) : Int := if 0 ≤ n then 2 * n else -2 * n - 1

theorem wrap_s64 {r : Int} (h0 : 0 ≤ r) (h1 : r < 18446744073709551616) : IntKind.i64.wrap r = S64 r := by
  unfold S64 IntKind.wrap
  simp [IntKind.signed, IntKind.bits]
  split <;> omega
theorem wrap_u64 {n : Int} (h0 : -9223372036854775808 ≤ n) (h1 : n ≤ 9223372036854775807) : IntKind.u64.wrap n = U64 n := by
  unfold U64 IntKind.wrap
  simp [IntKind.signed, IntKind.bits]
  split <;> omega

theorem counts_any (k : Int) (w : World) : Calls Tryz.prog 70 #[.int .i64 k] w fun e w' => e = .returned (.bool (decide (0 ≤ k) && decide (k < 7))) ∧ w = w' := by
  go_enter Tryz.func70, Tryz.ntmps70
  go_wp2
  all_goals
    go_ret
    refine ⟨?_, rfl⟩
    first | (simp_all; done) | (simp_all; omega) | (simp; omega)
theorem fitsAlways_any (n : Int) (w : World) : Calls Tryz.prog 116 #[.int .i64 n] w fun e w' => e = .returned (.bool true) ∧ w = w' := by
  go_enter Tryz.func116, Tryz.ntmps116
  go_wp2
  go_ret
  exact ⟨rfl, rfl⟩
theorem fitsLow_any (n : Int) (w : World) : Calls Tryz.prog 121 #[.int .i64 n] w fun e w' => e = .returned (.bool (decide (0 ≤ n) && decide (n ≤ 4294967295))) ∧ w = w' := by
  go_enter Tryz.func121, Tryz.ntmps121
  go_wp2
  all_goals
    go_ret
    refine ⟨?_, rfl⟩
    first | (simp_all; done) | (simp_all; omega) | (simp; omega)
theorem fitsFlag_any (n : Int) (w : World) : Calls Tryz.prog 123 #[.int .i64 n] w fun e w' => e = .returned (.bool (n == 0 || n == 1)) ∧ w = w' := by
  go_enter Tryz.func123, Tryz.ntmps123
  go_wp2
  all_goals
    go_ret
    refine ⟨?_, rfl⟩
    first | (simp_all; done) | (rename_i h; have e0 : (n == 0) = false := (by simp [h]); rw [e0]; rfl)
theorem fitsSignedLow_any (n : Int) (w : World) : Calls Tryz.prog 125 #[.int .i64 n] w fun e w' => e = .returned (.bool (decide (-2147483648 ≤ n) && decide (n ≤ 2147483647))) ∧ w = w' := by
  go_enter Tryz.func125, Tryz.ntmps125
  go_wp2
  all_goals
    go_ret
    refine ⟨?_, rfl⟩
    first | (simp_all; done) | (simp_all; omega) | (simp; omega)
theorem signed_any (r : Int) (h0 : 0 ≤ r) (h1 : r < 18446744073709551616) (w : World) : Calls Tryz.prog 117 #[.int .u64 r] w fun e w' => e = .returned (.int .i64 (S64 r)) ∧ w = w' := by
  have hw := wrap_s64 h0 h1
  go_enter Tryz.func117, Tryz.ntmps117
  go_wp2
  go_ret
  exact ⟨rfl, rfl⟩
theorem bitsOf_any (n : Int) (h0 : -9223372036854775808 ≤ n) (h1 : n ≤ 9223372036854775807) (w : World) : Calls Tryz.prog 118 #[.int .i64 n] w fun e w' => e = .returned (.int .u64 (U64 n)) ∧ w = w' := by
  have hw := wrap_u64 h0 h1
  go_enter Tryz.func118, Tryz.ntmps118
  go_wp2
  go_ret
  exact ⟨rfl, rfl⟩
theorem low_any (r : Int) (h0 : 0 ≤ r) (h1 : r < 18446744073709551616) (w : World) : Calls Tryz.prog 122 #[.int .u64 r] w fun e w' => e = .returned (.int .i64 (r % 4294967296)) ∧ w = w' := by
  go_enter Tryz.func122, Tryz.ntmps122
  go_wp2
  go_ret
  exact ⟨rfl, rfl⟩
theorem signedLow_any (r : Int) (h0 : 0 ≤ r) (h1 : r < 18446744073709551616) (w : World) : Calls Tryz.prog 126 #[.int .u64 r] w fun e w' => e = .returned (.int .i64 (S32 (r % 4294967296))) ∧ w = w' := by
  go_enter Tryz.func126, Tryz.ntmps126
  go_wp2
  go_ret
  refine ⟨ret_int ?_, rfl⟩
  unfold S32 wrap64 wrap32
  split <;> omega
theorem flag_any (r : Int) (w : World) : Calls Tryz.prog 124 #[.int .u64 r] w fun e w' => e = .returned (.int .i64 (if r = 0 then 0 else 1)) ∧ w = w' := by
  go_enter Tryz.func124, Tryz.ntmps124
  go_wp2
  all_goals
    go_ret
    refine ⟨?_, rfl⟩
    first | (simp_all; done) | (simp_all; omega) | (simp; omega)
theorem unzigzag_any (r : Int) (h0 : 0 ≤ r) (h1 : r < 18446744073709551616) (w : World) : Calls Tryz.prog 119 #[.int .u64 r] w fun e w' => e = .returned (.int .i64 (unzigI r)) ∧ w = w' := by
  go_enter Tryz.func119, Tryz.ntmps119
  go_wp2
  all_goals
    go_ret
    refine ⟨ret_int ?_, rfl⟩
    unfold unzigI
    simp_all
theorem zigzag_any (n : Int) (h0 : -9223372036854775808 ≤ n) (h1 : n ≤ 9223372036854775807) (w : World) : Calls Tryz.prog 120 #[.int .i64 n] w fun e w' => e = .returned (.int .u64 (zigI n)) ∧ w = w' := by
  go_enter Tryz.func120, Tryz.ntmps120
  go_wp2
  all_goals
    go_ret
    refine ⟨ret_int ?_, rfl⟩
    unfold zigI
    try simp [wrap64, IntKind.wrap, IntKind.signed, IntKind.bits]
    first | omega | (split <;> omega)
end Go.Proofs.YtipaangiehdgkaaGreatDoor
/-
  The array of rules.
-/
namespace Go.Proofs.YtipaangiehdgkaaGreatDoor
set_option maxRecDepth 100000

open Go.RowKit

def fv (k : Nat) : Value := .func (.func k) #[] #[]
def ruleV (t f o b : Nat) : List Value := [.int .i64 t, fv f, fv o, fv b]
def rulesL : List Value :=
  ruleV 0 116 117 118 ++ (
  ruleV 0 116 119 120 ++ (
  ruleV 0 121 122 118 ++ (
  ruleV 0 123 124 118 ++ (
  ruleV 5 121 122 118 ++ (
  ruleV 1 116 117 118 ++ (
  ruleV 0 125 126 118))))))
def rulesV : Value := .agg rulesL.toArray

theorem rules_any (w : World) : Calls Tryz.prog 71 #[] w fun e w' => e = .returned rulesV ∧ Below w.heap.size w w' := by
  have hi : (Tryz.prog.info? 129).map (·.size) = some rulesL.toArray.size := by kernel_rfl
  have h1 : rulesL.toArray.all (·.oneCell') = true := by kernel_rfl
  go_enter Tryz.func71, Tryz.ntmps71
  go_wp2_with (refine wpList_store_rowTo rfl 129 _ _ rfl rfl w.heap.size rulesL.toArray rfl rfl 129 _ (heap_alloc_last w _) hi rfl h1 ?_)
  rw [World.setRow_alloc_new]
  refine bodyPost_ret (v := rulesV) ?_ rfl ⟨rfl, below_new w _⟩
  exact results_cell_row rfl _ _ w.heap.size 129 rulesL.toArray (0, 0) _ rfl (heap_alloc_last w _) Tryz.underlying129 rfl hi

/-- The rule of one kind. -/
def ruleI (k : Nat) : Value := .agg ((rulesL.drop (4 * k)).take 4).toArray
theorem rule_at (k : Nat) (hk : k < 7) (w : World) : (Instr.index 129 rulesV (.int .i64 k)).run Tryz.prog w = .ok (ruleI k) w := by
  rcases k with _ | _ | _ | _ | _ | _ | _ | k
  · kernel_rfl
  · kernel_rfl
  · kernel_rfl
  · kernel_rfl
  · kernel_rfl
  · kernel_rfl
  · kernel_rfl
  · omega

def fitsB (k n : Int) : Bool :=
  if k = 0 then true else if k = 1 then true else if k = 2 then decide (0 ≤ n) && decide (n ≤ 4294967295) else if k = 3 then n == 0 || n == 1
  else if k = 4 then decide (0 ≤ n) && decide (n ≤ 4294967295) else if k = 5 then true else if k = 6 then decide (-2147483648 ≤ n) && decide (n ≤ 2147483647) else false


theorem fits_by (k f : Nat) (n : Int) (b : Bool) (hk : k < 7)
    (hf : ∀ w, (Instr.field 128 (ruleI k) 1).run Tryz.prog w = .ok (.func (.func f) #[] #[]) w)
    (hent : ∀ args w, (callFunc f args).run Tryz.prog w = .ok (.enter f args) w)
    (hcall : ∀ w, Calls Tryz.prog f #[.int .i64 n] w fun e w' => e = .returned (.bool b) ∧ w = w')
    (w : World) : Calls Tryz.prog 107 #[.int .i64 k, .int .i64 n] w fun e w' => e = .returned (.bool b) ∧ Below w.heap.size w w' := by
  have hx := rule_at k hk
  have hc : ∀ w, Calls Tryz.prog 70 #[.int .i64 k] w fun e w' => e = .returned (.bool true) ∧ w = w' := fun w => by
    have h := counts_any k w
    rw [show (decide (0 ≤ (k : Int)) && decide ((k : Int) < 7)) = true by simp; omega] at h
    exact h
  go_enter Tryz.func107, Tryz.ntmps107
  go_wp2_with fail
  refine (hc _).mono ?_
  rintro e w1 ⟨rfl, rfl⟩
  go_wp2_with fail
  refine (rules_any _).mono ?_
  rintro e w1 ⟨rfl, hb⟩
  go_wp2_with fail
  refine (hcall _).mono ?_
  rintro e w2 ⟨rfl, rfl⟩
  go_wp2
  go_ret
  exact ⟨rfl, hb⟩
theorem of_by (k f : Nat) (r : Int) (v : Int) (hk : k < 7)
    (hf : ∀ w, (Instr.field 128 (ruleI k) 2).run Tryz.prog w = .ok (.func (.func f) #[] #[]) w)
    (hent : ∀ args w, (callFunc f args).run Tryz.prog w = .ok (.enter f args) w)
    (hcall : ∀ w, Calls Tryz.prog f #[.int .u64 r] w fun e w' => e = .returned (.int .i64 v) ∧ w = w')
    (w : World) : Calls Tryz.prog 45 #[.int .i64 k, .int .u64 r] w fun e w' => e = .returned (.tuple #[.int .i64 v, .bool true]) ∧ Below w.heap.size w w' := by
  have hx := rule_at k hk
  have hc : ∀ w, Calls Tryz.prog 70 #[.int .i64 k] w fun e w' => e = .returned (.bool true) ∧ w = w' := fun w => by
    have h := counts_any k w
    rw [show (decide (0 ≤ (k : Int)) && decide ((k : Int) < 7)) = true by simp; omega] at h
    exact h
  go_enter Tryz.func45, Tryz.ntmps45
  go_wp2_with fail
  refine (hc _).mono ?_
  rintro e w1 ⟨rfl, rfl⟩
  go_wp2_with fail
  refine (rules_any _).mono ?_
  rintro e w1 ⟨rfl, hb⟩
  go_wp2_with fail
  refine (hcall _).mono ?_
  rintro e w2 ⟨rfl, rfl⟩
  go_wp2
  go_ret2
  exact ⟨rfl, hb⟩
theorem bits_by (k f : Nat) (n : Int) (v : Int) (hk : k < 7)
    (hfits : ∀ w, Calls Tryz.prog 107 #[.int .i64 k, .int .i64 n] w fun e w' => e = .returned (.bool true) ∧ Below w.heap.size w w')
    (hf : ∀ w, (Instr.field 128 (ruleI k) 3).run Tryz.prog w = .ok (.func (.func f) #[] #[]) w)
    (hent : ∀ args w, (callFunc f args).run Tryz.prog w = .ok (.enter f args) w)
    (hcall : ∀ w, Calls Tryz.prog f #[.int .i64 n] w fun e w' => e = .returned (.int .u64 v) ∧ w = w')
    (w : World) : Calls Tryz.prog 110 #[.int .i64 k, .int .i64 n] w fun e w' => e = .returned (.tuple #[.int .u64 v, .bool true]) ∧ Below w.heap.size w w' := by
  have hx := rule_at k hk
  go_enter Tryz.func110, Tryz.ntmps110
  go_wp2_with fail
  refine (hfits _).mono ?_
  rintro e w1 ⟨rfl, hb1⟩
  go_wp2_with fail
  refine (rules_any _).mono ?_
  rintro e w2 ⟨rfl, hb2⟩
  go_wp2_with fail
  refine (hcall _).mono ?_
  rintro e w3 ⟨rfl, rfl⟩
  go_wp2
  go_ret2
  exact ⟨rfl, below_then hb1 hb2⟩
theorem bits_not (k n : Int)
    (hfits : ∀ w, Calls Tryz.prog 107 #[.int .i64 k, .int .i64 n] w fun e w' => e = .returned (.bool false) ∧ Below w.heap.size w w')
    (w : World) : Calls Tryz.prog 110 #[.int .i64 k, .int .i64 n] w fun e w' => e = .returned (.tuple #[.int .u64 0, .bool false]) ∧ Below w.heap.size w w' := by
  go_enter Tryz.func110, Tryz.ntmps110
  go_wp2_with fail
  refine (hfits _).mono ?_
  rintro e w1 ⟨rfl, hb1⟩
  go_wp2
  go_ret2
  exact ⟨rfl, hb1⟩
theorem wire_by (k : Nat) (v : Int) (hk : k < 7)
    (hf : ∀ w, (Instr.field 128 (ruleI k) 0).run Tryz.prog w = .ok (.int .i64 v) w)
    (w : World) : Calls Tryz.prog 43 #[.int .i64 k] w fun e w' => e = .returned (.int .i64 v) ∧ Below w.heap.size w w' := by
  have hx := rule_at k hk
  have hc : ∀ w, Calls Tryz.prog 70 #[.int .i64 k] w fun e w' => e = .returned (.bool true) ∧ w = w' := fun w => by
    have h := counts_any k w
    rw [show (decide (0 ≤ (k : Int)) && decide ((k : Int) < 7)) = true by simp; omega] at h
    exact h
  go_enter Tryz.func43, Tryz.ntmps43
  go_wp2_with fail
  refine (hc _).mono ?_
  rintro e w1 ⟨rfl, rfl⟩
  go_wp2_with fail
  refine (rules_any _).mono ?_
  rintro e w1 ⟨rfl, hb⟩
  go_wp2
  go_ret
  exact ⟨rfl, hb⟩

theorem counts_not {k : Int} (h : ¬ (0 ≤ k ∧ k < 7)) (w : World) : Calls Tryz.prog 70 #[.int .i64 k] w fun e w' => e = .returned (.bool false) ∧ w = w' := by
  have h2 := counts_any k w
  rw [show (decide (0 ≤ k) && decide (k < 7)) = false by simp; omega] at h2
  exact h2
theorem wire_not (k : Int) (h : ¬ (0 ≤ k ∧ k < 7)) (w : World) :
    Calls Tryz.prog 43 #[.int .i64 k] w fun e w' => e = .returned (.int .i64 (if 0 ≤ k ∧ k < 10 then 2 else -1)) ∧ Below w.heap.size w w' := by
  have hc := counts_not h
  by_cases h1 : k < 0
  · rw [if_neg (by omega)]
    clear h
    go_enter Tryz.func43, Tryz.ntmps43
    go_wp2_with fail
    refine (hc _).mono ?_
    rintro e w1 ⟨rfl, rfl⟩
    go_wp2
    go_ret
    exact ⟨rfl, Below.refl _ _⟩
  by_cases h2 : k < 10
  · rw [if_pos (by omega)]
    clear h
    go_enter Tryz.func43, Tryz.ntmps43
    go_wp2_with fail
    refine (hc _).mono ?_
    rintro e w1 ⟨rfl, rfl⟩
    go_wp2
    go_ret
    exact ⟨rfl, Below.refl _ _⟩
  · rw [if_neg (by omega)]
    clear h
    go_enter Tryz.func43, Tryz.ntmps43
    go_wp2_with fail
    refine (hc _).mono ?_
    rintro e w1 ⟨rfl, rfl⟩
    go_wp2
    go_ret
    exact ⟨rfl, Below.refl _ _⟩
theorem of_not (k : Int) (r : Int) (h : ¬ (0 ≤ k ∧ k < 7)) (w : World) :
    Calls Tryz.prog 45 #[.int .i64 k, .int .u64 r] w fun e w' => e = .returned (.tuple #[.int .i64 0, .bool false]) ∧ Below w.heap.size w w' := by
  have hc := counts_not h
  clear h
  go_enter Tryz.func45, Tryz.ntmps45
  go_wp2_with fail
  refine (hc _).mono ?_
  rintro e w1 ⟨rfl, rfl⟩
  go_wp2
  go_ret2
  exact ⟨rfl, Below.refl _ _⟩
theorem fits_not (k : Int) (n : Int) (h : ¬ (0 ≤ k ∧ k < 7)) (w : World) :
    Calls Tryz.prog 107 #[.int .i64 k, .int .i64 n] w fun e w' => e = .returned (.bool false) ∧ Below w.heap.size w w' := by
  have hc := counts_not h
  clear h
  go_enter Tryz.func107, Tryz.ntmps107
  go_wp2_with fail
  refine (hc _).mono ?_
  rintro e w1 ⟨rfl, rfl⟩
  go_wp2
  go_ret
  exact ⟨rfl, Below.refl _ _⟩

/-! ### The document's numbers -/

def cnt (k : Int) : Bool := decide (0 ≤ k ∧ k < 7)
def wireI (k : Int) : Int := if k = 0 ∨ k = 1 ∨ k = 2 ∨ k = 3 ∨ k = 6 then 0 else if k = 4 then 5 else if k = 5 then 1 else if 0 ≤ k ∧ k < 10 then 2 else -1
def ofI (k r : Int) : Int :=
  if k = 0 then S64 r else if k = 1 then unzigI r else if k = 2 then r % 4294967296 else if k = 3 then (if r = 0 then 0 else 1) else if k = 4 then r % 4294967296 else if k = 5 then S64 r else if k = 6 then S32 (r % 4294967296) else 0
def bitsI (k n : Int) : Int := if fitsB k n = true then (if k = 1 then zigI n else U64 n) else 0

theorem seven {k : Int} (h : 0 ≤ k ∧ k < 7) : k = 0 ∨ k = 1 ∨ k = 2 ∨ k = 3 ∨ k = 4 ∨ k = 5 ∨ k = 6 := by omega
theorem wire_any (k : Int) (w : World) : Calls Tryz.prog 43 #[.int .i64 k] w fun e w' => e = .returned (.int .i64 (wireI k)) ∧ Below w.heap.size w w' := by
  by_cases h : 0 ≤ k ∧ k < 7
  · rcases seven h with rfl | rfl | rfl | rfl | rfl | rfl | rfl
    · exact wire_by 0 0 (by omega) (fun _ => by kernel_rfl) w
    · exact wire_by 1 0 (by omega) (fun _ => by kernel_rfl) w
    · exact wire_by 2 0 (by omega) (fun _ => by kernel_rfl) w
    · exact wire_by 3 0 (by omega) (fun _ => by kernel_rfl) w
    · exact wire_by 4 5 (by omega) (fun _ => by kernel_rfl) w
    · exact wire_by 5 1 (by omega) (fun _ => by kernel_rfl) w
    · exact wire_by 6 0 (by omega) (fun _ => by kernel_rfl) w
  · have e : wireI k = if 0 ≤ k ∧ k < 10 then 2 else -1 := by
      unfold wireI
      rw [if_neg (by omega), if_neg (by omega), if_neg (by omega)]
    rw [e]
    exact wire_not k h w
theorem fits_any (k n : Int) (w : World) : Calls Tryz.prog 107 #[.int .i64 k, .int .i64 n] w fun e w' => e = .returned (.bool (fitsB k n)) ∧ Below w.heap.size w w' := by
  by_cases h : 0 ≤ k ∧ k < 7
  · rcases seven h with rfl | rfl | rfl | rfl | rfl | rfl | rfl
    · exact fits_by 0 _ n _ (by omega) (fun _ => by kernel_rfl) (fun _ _ => by kernel_rfl) (fitsAlways_any n) w
    · exact fits_by 1 _ n _ (by omega) (fun _ => by kernel_rfl) (fun _ _ => by kernel_rfl) (fitsAlways_any n) w
    · exact fits_by 2 _ n _ (by omega) (fun _ => by kernel_rfl) (fun _ _ => by kernel_rfl) (fitsLow_any n) w
    · exact fits_by 3 _ n _ (by omega) (fun _ => by kernel_rfl) (fun _ _ => by kernel_rfl) (fitsFlag_any n) w
    · exact fits_by 4 _ n _ (by omega) (fun _ => by kernel_rfl) (fun _ _ => by kernel_rfl) (fitsLow_any n) w
    · exact fits_by 5 _ n _ (by omega) (fun _ => by kernel_rfl) (fun _ _ => by kernel_rfl) (fitsAlways_any n) w
    · exact fits_by 6 _ n _ (by omega) (fun _ => by kernel_rfl) (fun _ _ => by kernel_rfl) (fitsSignedLow_any n) w
  · have e : fitsB k n = false := by
      unfold fitsB
      rw [if_neg (by omega), if_neg (by omega), if_neg (by omega), if_neg (by omega), if_neg (by omega), if_neg (by omega), if_neg (by omega)]
    rw [e]
    exact fits_not k n h w
theorem of_any (k r : Int) (h0 : 0 ≤ r) (h1 : r < 18446744073709551616) (w : World) : Calls Tryz.prog 45 #[.int .i64 k, .int .u64 r] w fun e w' => e = .returned (.tuple #[.int .i64 (ofI k r), .bool (cnt k)]) ∧ Below w.heap.size w w' := by
  by_cases h : 0 ≤ k ∧ k < 7
  · rcases seven h with rfl | rfl | rfl | rfl | rfl | rfl | rfl
    · exact of_by 0 _ r _ (by omega) (fun _ => by kernel_rfl) (fun _ _ => by kernel_rfl) (signed_any r h0 h1) w
    · exact of_by 1 _ r _ (by omega) (fun _ => by kernel_rfl) (fun _ _ => by kernel_rfl) (unzigzag_any r h0 h1) w
    · exact of_by 2 _ r _ (by omega) (fun _ => by kernel_rfl) (fun _ _ => by kernel_rfl) (low_any r h0 h1) w
    · exact of_by 3 _ r _ (by omega) (fun _ => by kernel_rfl) (fun _ _ => by kernel_rfl) (flag_any r) w
    · exact of_by 4 _ r _ (by omega) (fun _ => by kernel_rfl) (fun _ _ => by kernel_rfl) (low_any r h0 h1) w
    · exact of_by 5 _ r _ (by omega) (fun _ => by kernel_rfl) (fun _ _ => by kernel_rfl) (signed_any r h0 h1) w
    · exact of_by 6 _ r _ (by omega) (fun _ => by kernel_rfl) (fun _ _ => by kernel_rfl) (signedLow_any r h0 h1) w
  · have e : ofI k r = 0 := by
      unfold ofI
      rw [if_neg (by omega), if_neg (by omega), if_neg (by omega), if_neg (by omega), if_neg (by omega), if_neg (by omega), if_neg (by omega)]
    have e2 : cnt k = false := by simp [cnt]; omega
    rw [e, e2]
    exact of_not k r h w
theorem bits_any (k n : Int) (h0 : -9223372036854775808 ≤ n) (h1 : n ≤ 9223372036854775807) (w : World) : Calls Tryz.prog 110 #[.int .i64 k, .int .i64 n] w fun e w' => e = .returned (.tuple #[.int .u64 (bitsI k n), .bool (fitsB k n)]) ∧ Below w.heap.size w w' := by
  have hf := fits_any k n
  unfold bitsI
  by_cases hb : fitsB k n = true
  · rw [if_pos hb, hb]
    rw [hb] at hf
    have h : 0 ≤ k ∧ k < 7 := by
      by_cases h : 0 ≤ k ∧ k < 7
      · exact h
      · unfold fitsB at hb
        rw [if_neg (by omega), if_neg (by omega), if_neg (by omega), if_neg (by omega), if_neg (by omega), if_neg (by omega), if_neg (by omega)] at hb
        cases hb
    rcases seven h with rfl | rfl | rfl | rfl | rfl | rfl | rfl
    · exact bits_by 0 _ n _ (by omega) hf (fun _ => by kernel_rfl) (fun _ _ => by kernel_rfl) (bitsOf_any n h0 h1) w
    · exact bits_by 1 _ n _ (by omega) hf (fun _ => by kernel_rfl) (fun _ _ => by kernel_rfl) (zigzag_any n h0 h1) w
    · exact bits_by 2 _ n _ (by omega) hf (fun _ => by kernel_rfl) (fun _ _ => by kernel_rfl) (bitsOf_any n h0 h1) w
    · exact bits_by 3 _ n _ (by omega) hf (fun _ => by kernel_rfl) (fun _ _ => by kernel_rfl) (bitsOf_any n h0 h1) w
    · exact bits_by 4 _ n _ (by omega) hf (fun _ => by kernel_rfl) (fun _ _ => by kernel_rfl) (bitsOf_any n h0 h1) w
    · exact bits_by 5 _ n _ (by omega) hf (fun _ => by kernel_rfl) (fun _ _ => by kernel_rfl) (bitsOf_any n h0 h1) w
    · exact bits_by 6 _ n _ (by omega) hf (fun _ => by kernel_rfl) (fun _ _ => by kernel_rfl) (bitsOf_any n h0 h1) w
  · have hb' : fitsB k n = false := by simpa using hb
    rw [if_neg hb, hb']
    rw [hb'] at hf
    exact bits_not k n hf w
end Go.Proofs.YtipaangiehdgkaaGreatDoor
/-
  Messages that a schema allows, by plain functions: what is of a kind, what is of a message.
-/
namespace Go.Proofs.YtipaangiehdgkaaGreatDoor.T9
set_option maxRecDepth 100000
open Go.Proofs.YtipaangiehdgkaaGreatDoor.T4

/-- Is a text UTF-8? -/
def utfB (s : List UInt8) : Bool := fineB s 0 s.length
/-- Is something so of a list's only element? -/
def oneB (f : Mg → Bool) : List Mg → Bool
  | [x] => f x
  | _ => false
theorem oneB_ne {f : Mg → Bool} {l : List Mg} (h : l.length ≠ 1) : oneB f l = false := by
  match l, h with
  | [], _ => rfl
  | _ :: _ :: _, _ => rfl
/-- Is a value of a kind? G: is a message of one? -/
def askG (G : Int → Mg → Bool) (kind ref : Int) (v : Vl') : Bool :=
  if kind = 7 then (v.n == 0) && (utfB v.s && v.M.isEmpty)
  else if kind = 8 then (v.n == 0) && v.M.isEmpty
  else if kind = 9 then (v.n == 0) && (v.s.isEmpty && oneB (G ref) v.M)
  else fitsB kind v.n && (v.s.isEmpty && v.M.isEmpty)
/-- May a field's slot have as many keys, and values? -/
def manyB (f : Df) (k v : Nat) : Bool := if f.key = -1 then (k == 0) && (f.rep || v == 1) else k == v
def fillG (G : Int → Mg → Bool) (f : Df) (s : So) : Bool := manyB f s.K.length s.V.length && (s.K.all (askG G f.key 0) && s.V.all (askG G f.kind f.ref))
/-- What a field claims, the last one first. -/
def claimsOf (f : Df) : List (Int × Int) := if f.one = 0 then [(f.no, 0)] else [(0, f.one), (f.no, 0)]
def claimB (cl : List (Int × Int)) (f : Df) : Bool := !cl.contains (f.no, 0) && (f.one == 0 || !((f.no, 0) :: cl).contains (0, f.one))
def slotsG (fd : Int → Option Df) (fill : Df → So → Bool) : List (Int × Int) → List So → Bool
  | _, [] => true
  | cl, s :: l => match fd s.no with
    | none => false
    | some f => claimB cl f && (fill f s && slotsG fd fill (claimsOf f ++ cl) l)
def isG (s : Sc) (G : Int → Mg → Bool) (m : Int) (x : Mg) : Bool := decide (0 ≤ m ∧ m < s.M.length) && slotsG (byS s m) (fillG G) [] x.F
/-- Is a message of message m, and at most so deep? -/
def isB (s : Sc) : Nat → Int → Mg → Bool
  | 0 => fun _ _ => false
  | d + 1 => isG s (isB s d)
/-- Is a value of a kind, its message at most so deep? -/
def valB (s : Sc) (d : Nat) (kind ref : Int) (v : Vl') : Bool := askG (isB s d) kind ref v
open Classical in
noncomputable def mayT (s : Sc) (m : Int) (x : Mg) : Bool := decide (ScMay s) && isB s 64 m x
open Classical in
noncomputable def valT (s : Sc) (kind ref : Int) (v : Vl') : Bool := decide (ScMay s) && valB s 63 kind ref v

theorem slotsG_cons {fd : Int → Option Df} {fill : Df → So → Bool} {cl : List (Int × Int)} {s : So} {l : List So} : slotsG fd fill cl (s :: l) = match fd s.no with | none => false | some f => claimB cl f && (fill f s && slotsG fd fill (claimsOf f ++ cl) l) := rfl
theorem drop_cons {α : Type} {l : List α} {k : Nat} {a : α} (h : l[k]? = some a) : l.drop k = a :: l.drop (k + 1) := by
  obtain ⟨hk, rfl⟩ := List.getElem?_eq_some_iff.1 h
  exact List.drop_eq_getElem_cons hk
theorem ask_of {G : Int → Mg → Bool} {kind ref : Int} {v : Vl'} (h : askG G kind ref v = true) (h9 : kind ≠ 9) : v.M = [] := by
  unfold askG at h
  repeat' split at h
  all_goals simp_all
end Go.Proofs.YtipaangiehdgkaaGreatDoor.T9
/-
  Lists in order, without two that are alike: what is sorted, and that it is told by its members alone.
-/
namespace Go.Proofs.YtipaangiehdgkaaGreatDoor.T9
set_option maxRecDepth 100000

section
variable {α : Type}
def insL (lt : α → α → Bool) (x : α) : List α → List α
  | [] => [x]
  | a :: l => if lt x a = true then x :: a :: l else if lt a x = true then a :: insL lt x l else a :: l
def srt (lt : α → α → Bool) (l : List α) : List α := l.foldr (insL lt) []
def Rise (lt : α → α → Bool) (l : List α) : Prop := l.Pairwise fun a b => lt a b = true
variable {lt : α → α → Bool}
theorem mem_insL_sub {x y : α} : ∀ {l : List α}, y ∈ insL lt x l → y = x ∨ y ∈ l
  | [], h => .inl (by simpa [insL] using h)
  | a :: l, h => by
    unfold insL at h
    split at h
    · simpa using h
    · split at h
      · rcases List.mem_cons.1 h with h | h
        · exact .inr (by simp [h])
        · rcases mem_insL_sub h with h | h
          · exact .inl h
          · exact .inr (by simp [h])
      · exact .inr h
theorem mem_insL_old {x y : α} : ∀ {l : List α}, y ∈ l → y ∈ insL lt x l
  | a :: l, h => by
    unfold insL
    split
    · simp [List.mem_cons.1 h]
    · split
      · rcases List.mem_cons.1 h with h | h
        · simp [h]
        · exact List.mem_cons_of_mem _ (mem_insL_old h)
      · exact h
theorem mem_insL_new {x : α} : ∀ {l : List α}, (∀ a ∈ l, lt x a = false → lt a x = false → x = a) → x ∈ insL lt x l
  | [], _ => by simp [insL]
  | a :: l, h => by
    unfold insL
    split
    · simp
    · rename_i h1
      split
      · exact List.mem_cons_of_mem _ (mem_insL_new fun b hb => h b (by simp [hb]))
      · rename_i h2
        rw [h a (by simp) (by simpa using h1) (by simpa using h2)]
        simp
theorem rise_insL (tr : ∀ a b c, lt a b = true → lt b c = true → lt a c = true) {x : α} : ∀ {l : List α}, Rise lt l → Rise lt (insL lt x l)
  | [], _ => List.pairwise_singleton _ _
  | a :: l, h => by
    obtain ⟨h1, h2⟩ := List.pairwise_cons.1 h
    unfold insL
    split
    · rename_i hx
      refine List.pairwise_cons.2 ⟨fun b hb => ?_, h⟩
      rcases List.mem_cons.1 hb with rfl | hb
      · exact hx
      · exact tr _ _ _ hx (h1 b hb)
    · split
      · rename_i hx
        refine List.pairwise_cons.2 ⟨fun b hb => ?_, rise_insL tr h2⟩
        rcases mem_insL_sub hb with rfl | hb
        · exact hx
        · exact h1 b hb
      · exact h
theorem rise_srt (tr : ∀ a b c, lt a b = true → lt b c = true → lt a c = true) : ∀ l : List α, Rise lt (srt lt l)
  | [] => List.Pairwise.nil
  | _ :: l => rise_insL tr (rise_srt tr l)
theorem mem_srt_sub {y : α} : ∀ {l : List α}, y ∈ srt lt l → y ∈ l
  | x :: l, h => by
    rcases mem_insL_sub (show y ∈ insL lt x (srt lt l) from h) with h | h
    · simp [h]
    · exact List.mem_cons_of_mem _ (mem_srt_sub h)
theorem mem_srt {l : List α} (h : ∀ a ∈ l, ∀ b ∈ l, lt a b = false → lt b a = false → a = b) {y : α} : y ∈ srt lt l ↔ y ∈ l := by
  refine ⟨mem_srt_sub, fun hy => ?_⟩
  induction l with
  | nil => cases hy
  | cons x l ih =>
    show y ∈ insL lt x (srt lt l)
    rcases List.mem_cons.1 hy with rfl | hy
    · exact mem_insL_new fun a ha => h _ (by simp) _ (List.mem_cons_of_mem _ (mem_srt_sub ha))
    · exact mem_insL_old (ih (fun a ha b hb => h a (by simp [ha]) b (by simp [hb])) hy)
theorem rise_unique' (ir : ∀ a, lt a a = false) (tr : ∀ a b c, lt a b = true → lt b c = true → lt a c = true) : ∀ {l m : List α}, Rise lt l → Rise lt m → (∀ x, x ∈ l ↔ x ∈ m) → l = m
  | [], [], _, _, _ => rfl
  | [], b :: m, _, _, h => absurd ((h b).2 (by simp)) (by simp)
  | a :: l, [], _, _, h => absurd ((h a).1 (by simp)) (by simp)
  | a :: l, b :: m, h1, h2, h => by
    obtain ⟨p1, p2⟩ := List.pairwise_cons.1 h1
    obtain ⟨q1, q2⟩ := List.pairwise_cons.1 h2
    have e : a = b := by
      rcases List.mem_cons.1 ((h a).1 (by simp)) with e | ha
      · exact e
      · rcases List.mem_cons.1 ((h b).2 (by simp)) with e | hb
        · exact e.symm
        · have := tr _ _ _ (p1 b hb) (q1 a ha)
          rw [ir] at this
          cases this
    subst e
    refine congrArg (a :: ·) (rise_unique' ir tr p2 q2 fun x => ?_)
    constructor
    · intro hx
      rcases List.mem_cons.1 ((h x).1 (by simp [hx])) with rfl | h'
      · have := p1 _ hx
        rw [ir] at this
        cases this
      · exact h'
    · intro hx
      rcases List.mem_cons.1 ((h x).2 (by simp [hx])) with rfl | h'
      · have := q1 _ hx
        rw [ir] at this
        cases this
      · exact h'
/-- What rises, and has the members of a list, is that list sorted. -/
theorem srt_is (ir : ∀ a, lt a a = false) (tr : ∀ a b c, lt a b = true → lt b c = true → lt a c = true) {l d : List α} (h : ∀ a ∈ l, ∀ b ∈ l, lt a b = false → lt b a = false → a = b) (hr : Rise lt d) (hm : ∀ x, x ∈ d ↔ x ∈ l) : d = srt lt l :=
  rise_unique' ir tr hr (rise_srt tr l) fun x => (hm x).trans (mem_srt h).symm
theorem srt_rise (ir : ∀ a, lt a a = false) (tr : ∀ a b c, lt a b = true → lt b c = true → lt a c = true) {l : List α} (h : Rise lt l) : srt lt l = l := by
  refine (srt_is ir tr (l := l) ?_ h fun _ => Iff.rfl).symm
  induction l with
  | nil => intro a ha; cases ha
  | cons x l ih =>
    obtain ⟨h1, h2⟩ := List.pairwise_cons.1 h
    intro a ha b hb hab hba
    rcases List.mem_cons.1 ha with ea | ha'
    · rcases List.mem_cons.1 hb with eb | hb'
      · rw [ea, eb]
      · subst ea; rw [h1 b hb'] at hab; cases hab
    · rcases List.mem_cons.1 hb with eb | hb'
      · subst eb; rw [h1 a ha'] at hba; cases hba
      · exact ih h2 a ha' b hb' hab hba
/-- Of a list that is sorted two at a time, none alike, the sort rises. -/
theorem rise_of_sorted {l : List α} (hd : l.Pairwise fun a b => lt a b = true ∨ lt b a = true) (hs : ∀ i j (hi : i < l.length) (hj : j < l.length), i < j → lt l[j] l[i] = false) : Rise lt l := by
  rw [Rise, List.pairwise_iff_getElem] at *
  intro i j hi hj hij
  rcases hd i j hi hj hij with h | h
  · exact h
  · rw [hs i j hi hj hij] at h; cases h
end
end Go.Proofs.YtipaangiehdgkaaGreatDoor.T9
/-
  How values are ordered: one of two that differ is less, what is less than what is less is less.
-/
namespace Go.Proofs.YtipaangiehdgkaaGreatDoor.T9
set_option maxRecDepth 100000

theorem by_same : ∀ a : List UInt8, Op.bytesLess a a = false
  | [] => rfl
  | x :: a => by
    have h : Op.bytesLess (x :: a) (x :: a) = (decide (x < x) || (x == x && Op.bytesLess a a)) := rfl
    rw [h, by_same a]
    simp
theorem by_total : ∀ a b : List UInt8, Op.bytesLess a b = false → Op.bytesLess b a = false → a = b
  | [], [], _, _ => rfl
  | [], _ :: _, h, _ => by cases h
  | _ :: _, [], _, h => by cases h
  | x :: a, y :: b, h, h' => by
    have h1 : Op.bytesLess (x :: a) (y :: b) = (decide (x < y) || (x == y && Op.bytesLess a b)) := rfl
    have h2 : Op.bytesLess (y :: b) (x :: a) = (decide (y < x) || (y == x && Op.bytesLess b a)) := rfl
    rw [h1] at h
    rw [h2] at h'
    simp only [Bool.or_eq_false_iff, decide_eq_false_iff_not, Bool.and_eq_false_iff, beq_eq_false_iff_ne, ne_eq] at h h'
    have e : x = y := by
      apply UInt8.toNat_inj.1
      have h3 := h.1
      have h4 := h'.1
      rw [UInt8.lt_iff_toNat_lt] at h3 h4
      omega
    subst e
    rw [by_total a b (by simpa using h.2) (by simpa using h'.2)]
theorem by_trans : ∀ a b c : List UInt8, Op.bytesLess a b = true → Op.bytesLess b c = true → Op.bytesLess a c = true
  | [], [], _, h, _ => by cases h
  | _ :: _, [], _, h, _ => by cases h
  | _, _ :: _, [], _, h => by cases h
  | [], _ :: _, _ :: _, _, _ => rfl
  | x :: a, y :: b, z :: c, h, h' => by
    have h1 : Op.bytesLess (x :: a) (y :: b) = (decide (x < y) || (x == y && Op.bytesLess a b)) := rfl
    have h2 : Op.bytesLess (y :: b) (z :: c) = (decide (y < z) || (y == z && Op.bytesLess b c)) := rfl
    have h3 : Op.bytesLess (x :: a) (z :: c) = (decide (x < z) || (x == z && Op.bytesLess a c)) := rfl
    rw [h1] at h
    rw [h2] at h'
    rw [h3]
    simp only [Bool.or_eq_true, decide_eq_true_eq, Bool.and_eq_true, beq_iff_eq, UInt8.lt_iff_toNat_lt] at h h' ⊢
    rcases h with h | ⟨rfl, h⟩
    · rcases h' with h' | ⟨rfl, h'⟩
      · left; omega
      · left; omega
    · rcases h' with h' | ⟨rfl, h'⟩
      · left; omega
      · right; exact ⟨rfl, by_trans a b c h h'⟩
theorem lessV_same {a b : Vl'} (hn : a.n = b.n) (hs : a.s = b.s) : lessV a b = false := by
  unfold lessV
  rw [if_pos hn, hs, by_same]
theorem lessV_total {a b : Vl'} (h : lessV a b = false) (h' : lessV b a = false) : a.n = b.n ∧ a.s = b.s := by
  unfold lessV at h h'
  by_cases e : a.n = b.n
  · rw [if_pos e] at h
    rw [if_pos e.symm] at h'
    exact ⟨e, by_total _ _ h h'⟩
  · rw [if_neg e] at h
    rw [if_neg (fun h => e h.symm)] at h'
    rw [decide_eq_false_iff_not] at h h'
    omega
theorem lessV_trans {a b c : Vl'} (h : lessV a b = true) (h' : lessV b c = true) : lessV a c = true := by
  unfold lessV at h h' ⊢
  by_cases e : a.n = b.n
  · rw [if_pos e] at h
    by_cases f : b.n = c.n
    · rw [if_pos f] at h'
      rw [if_pos (e.trans f)]
      exact by_trans _ _ _ h h'
    · rw [if_neg f, decide_eq_true_eq] at h'
      rw [if_neg (by omega), decide_eq_true_eq]
      omega
  · rw [if_neg e, decide_eq_true_eq] at h
    by_cases f : b.n = c.n
    · rw [if_neg (by omega), decide_eq_true_eq]
      omega
    · rw [if_neg f, decide_eq_true_eq] at h'
      rw [if_neg (by omega), decide_eq_true_eq]
      omega
end Go.Proofs.YtipaangiehdgkaaGreatDoor.T9
/-
  Messages, slots and values as arguments, with what their numbers and texts fit.
-/
namespace Go.Proofs.YtipaangiehdgkaaGreatDoor.T9
set_option maxRecDepth 100000

open Go.RowKit Go.ChangeShapes Go.WideShapes Go.ChangeAt

/-- A number of 64 bits. -/
def inI (n : Int) : Prop := -9223372036854775808 ≤ n ∧ n ≤ 9223372036854775807
/-- All numbers of a tree have 64 bits, all texts fit the form's memory. -/
inductive MIn : Mg → Prop
  | mk {m : Mg} (h1 : ∀ s ∈ m.F, inI s.no) (h2 : ∀ s ∈ m.F, ∀ v, v ∈ s.K ∨ v ∈ s.V → inI v.n ∧ v.s.length ≤ 140737488351232) (h3 : ∀ s ∈ m.F, ∀ v, v ∈ s.K ∨ v ∈ s.V → ∀ x ∈ v.M, MIn x) : MIn m
def VIn (v : Vl') : Prop := (inI v.n ∧ v.s.length ≤ 140737488351232) ∧ ∀ x ∈ v.M, MIn x
def SIn (s : So) : Prop := inI s.no ∧ ∀ v, v ∈ s.K ∨ v ∈ s.V → VIn v
theorem MIn.slot {m : Mg} (h : MIn m) {s : So} (hs : s ∈ m.F) : SIn s := by
  cases h with
  | mk h1 h2 h3 => exact ⟨h1 s hs, fun v hv => ⟨h2 s hs v hv, h3 s hs v hv⟩⟩
theorem MIn.of {m : Mg} (h : ∀ s ∈ m.F, SIn s) : MIn m := .mk (fun s hs => (h s hs).1) (fun s hs v hv => ((h s hs).2 v hv).1) fun s hs v hv => ((h s hs).2 v hv).2
theorem SIn.val {s : So} (h : SIn s) {v : Vl'} (hv : v ∈ s.K ∨ v ∈ s.V) : VIn v := h.2 v hv
theorem VIn.msg {v : Vl'} (h : VIn v) {x : Mg} (hx : x ∈ v.M) : MIn x := h.2 x hx
/-- What is so of each element, beside how it lies. -/
theorem LsAt.both {α : Type} {R : RP} {e : TypeId} {size : Nat} {C : α → List Value → Prop} {p : α → Prop} {l : List α} {u : Value} (h : LsAt R e size (fun a cs => C a cs ∧ p a) l u) : LsAt R e size C l u ∧ ∀ a ∈ l, p a := by
  obtain ⟨xs, h1, h2⟩ := h
  refine ⟨⟨xs, h1, h2.imp fun a cs h => h.1⟩, ?_⟩
  clear h1
  induction l generalizing xs with
  | nil => intro a ha; cases ha
  | cons y l ih =>
    obtain ⟨cs, ys, h3, h4, h5⟩ := h2
    intro a ha
    rcases List.mem_cons.1 ha with rfl | ha
    · exact h4.2
    · exact ih ys h5 a ha

section

variable {H : Type} {enc : TypeId × Value → H} {W : World} {n : Nat}

theorem ti_string {v : Value} {y : DataW H × List MemPlace} (h : DataW.trod enc Tryz.prog W 0 (fun _ => true) true n 9 [v] = some y) (hz : Szd 9 y.1) : ∃ x : List UInt8, v = .string (tx x) ∧ x.length ≤ 140737488351232 := by
  obtain ⟨s, h1, h3, h2⟩ := DataW.trod_string Tryz.underlying9 h
  refine ⟨s.data.toList, by rw [tx_of]; simpa using h1, ?_⟩
  rw [h3] at hz
  exact hz _ (by simp [DataW.weights])
theorem ti_int {v : Value} {y : DataW H × List MemPlace} (h : DataW.trod enc Tryz.prog W 0 (fun _ => true) true n 3 [v] = some y) : ∃ k : Int, v = .int .i64 k ∧ inI k := by
  obtain ⟨k, h1, _, h2⟩ := DataW.trod_int Tryz.underlying3 h
  exact ⟨k, by simpa using h1, bounds_i64 h2⟩
theorem ti_int64 {v : Value} {y : DataW H × List MemPlace} (h : DataW.trod enc Tryz.prog W 0 (fun _ => true) true n 2 [v] = some y) : ∃ k : Int, v = .int .i64 k ∧ inI k := by
  obtain ⟨k, h1, _, h2⟩ := DataW.trod_int Tryz.underlying2 h
  exact ⟨k, by simpa using h1, bounds_i64 h2⟩
theorem open_valI {N : Nat} (ih : ∀ (n : Nat) (cs : List Value) (y : DataW H × List MemPlace), cs.length = 1 → DataW.trod enc Tryz.prog W 0 (fun _ => true) true n 36 cs = some y → SizeOf.sizeOf y.1 < N → Szd 36 y.1 → ∃ m, MAt (Rd W.heap.size W) N m cs ∧ MIn m)
    {cs : List Value} {y : DataW H × List MemPlace} (hl : cs.length = 3) (h : DataW.trod enc Tryz.prog W 0 (fun _ => true) true n 51 cs = some y) (hy : SizeOf.sizeOf y.1 < N + 2) (hz : Szd 51 y.1) : ∃ v, VAt (Rd W.heap.size W) N v cs ∧ VIn v := by
  obtain ⟨xs, k, -, hx0, -, hxl, hg⟩ := DataW.trod_struct Tryz.underlying51 h
  obtain ⟨x0, x1, x2, rfl⟩ := tr_list3 (show xs.length = 3 from hxl)
  obtain ⟨v0, v1, v2, rfl⟩ := tr_list3 hl
  have g0 : DataW.trod enc Tryz.prog W 0 (fun _ => true) true k 2 (List.take (Tryz.prog.cellsOf 2) [v0, v1, v2]) = some x0 := hg 0 _ rfl
  have g1 : DataW.trod enc Tryz.prog W 0 (fun _ => true) true k 9 (List.take (Tryz.prog.cellsOf 9) [v1, v2]) = some x1 := hg 1 _ rfl
  have g2 : DataW.trod enc Tryz.prog W 0 (fun _ => true) true k 49 (List.take (Tryz.prog.cellsOf 49) [v2]) = some x2 := hg 2 _ rfl
  rw [kt_int64] at g0
  rw [kt_string] at g1
  rw [kt_msgs] at g2
  subst hx0
  obtain ⟨a0, rfl, b0⟩ := ti_int64 g0
  obtain ⟨a1, rfl, b1⟩ := ti_string g1 (hz.struct Tryz.underlying51 1 rfl rfl)
  have hz2 : Szd 49 x2.1 := hz.struct Tryz.underlying51 2 rfl rfl
  have hlt : SizeOf.sizeOf x2.1 < _ := sz_part (parts := [x0.1, x1.1, x2.1]) (by simp : x2.1 ∈ _)
  obtain ⟨M, hM⟩ := open_lesser Tryz.underlying49 kt_msg (by decide) kb_msg (fun m cs => MAt (Rd W.heap.size W) N m cs ∧ MIn m) (fun n cs y hl h hy hz => ih n cs y hl h (by simp only [List.map_cons, List.map_nil] at *; omega) hz) (show DataW.trod enc Tryz.prog W 0 (fun _ => true) true k 49 [v2] = some x2 from g2) hz2
  obtain ⟨hM1, hM2⟩ := hM.both
  exact ⟨⟨a0, a1, M⟩, ⟨v2, rfl, hM1⟩, ⟨b0, b1⟩, hM2⟩
theorem open_slotI {N : Nat} (ih : ∀ (n : Nat) (cs : List Value) (y : DataW H × List MemPlace), cs.length = 1 → DataW.trod enc Tryz.prog W 0 (fun _ => true) true n 36 cs = some y → SizeOf.sizeOf y.1 < N → Szd 36 y.1 → ∃ m, MAt (Rd W.heap.size W) N m cs ∧ MIn m)
    {cs : List Value} {y : DataW H × List MemPlace} (hl : cs.length = 3) (h : DataW.trod enc Tryz.prog W 0 (fun _ => true) true n 48 cs = some y) (hy : SizeOf.sizeOf y.1 < N + 3) (hz : Szd 48 y.1) : ∃ s, SAt' (Rd W.heap.size W) N s cs ∧ SIn s := by
  obtain ⟨xs, k, -, hx0, -, hxl, hg⟩ := DataW.trod_struct Tryz.underlying48 h
  obtain ⟨x0, x1, x2, rfl⟩ := tr_list3 (show xs.length = 3 from hxl)
  obtain ⟨v0, v1, v2, rfl⟩ := tr_list3 hl
  have g0 : DataW.trod enc Tryz.prog W 0 (fun _ => true) true k 3 (List.take (Tryz.prog.cellsOf 3) [v0, v1, v2]) = some x0 := hg 0 _ rfl
  have g1 : DataW.trod enc Tryz.prog W 0 (fun _ => true) true k 46 (List.take (Tryz.prog.cellsOf 46) [v1, v2]) = some x1 := hg 1 _ rfl
  have g2 : DataW.trod enc Tryz.prog W 0 (fun _ => true) true k 46 (List.take (Tryz.prog.cellsOf 46) [v2]) = some x2 := hg 2 _ rfl
  rw [kt_int] at g0
  rw [kt_vals] at g1 g2
  obtain ⟨a0, rfl, b0⟩ := ti_int g0
  subst hx0
  have hz1 : Szd 46 x1.1 := hz.struct Tryz.underlying48 1 rfl rfl
  have hz2 : Szd 46 x2.1 := hz.struct Tryz.underlying48 2 rfl rfl
  have hlt1 : SizeOf.sizeOf x1.1 < _ := sz_part (parts := [x0.1, x1.1, x2.1]) (by simp : x1.1 ∈ _)
  have hlt2 : SizeOf.sizeOf x2.1 < _ := sz_part (parts := [x0.1, x1.1, x2.1]) (by simp : x2.1 ∈ _)
  obtain ⟨K, hK⟩ := open_lesser Tryz.underlying46 kt_val (by decide) kb_val (fun m cs => VAt (Rd W.heap.size W) N m cs ∧ VIn m) (fun n cs y hl h hy hz => open_valI ih hl h (by simp only [List.map_cons, List.map_nil] at *; omega) hz) (show DataW.trod enc Tryz.prog W 0 (fun _ => true) true k 46 [v1] = some x1 from g1) hz1
  obtain ⟨V, hV⟩ := open_lesser Tryz.underlying46 kt_val (by decide) kb_val (fun m cs => VAt (Rd W.heap.size W) N m cs ∧ VIn m) (fun n cs y hl h hy hz => open_valI ih hl h (by simp only [List.map_cons, List.map_nil] at *; omega) hz) (show DataW.trod enc Tryz.prog W 0 (fun _ => true) true k 46 [v2] = some x2 from g2) hz2
  obtain ⟨hK1, hK2⟩ := hK.both
  obtain ⟨hV1, hV2⟩ := hV.both
  exact ⟨⟨a0, K, V⟩, ⟨v1, v2, rfl, hK1, hV1⟩, b0, fun v hv => hv.elim (hK2 v) (hV2 v)⟩
theorem open_msg0I : ∀ (N n : Nat) (cs : List Value) (y : DataW H × List MemPlace), cs.length = 1 → DataW.trod enc Tryz.prog W 0 (fun _ => true) true n 36 cs = some y → SizeOf.sizeOf y.1 < N → Szd 36 y.1 → ∃ m, MAt (Rd W.heap.size W) N m cs ∧ MIn m
  | 0, _, _, _, _, _, h, _ => by omega
  | N + 1, n, cs, y, hl, h, hy, hz => by
    obtain ⟨xs, k, -, hx0, -, hxl, hg⟩ := DataW.trod_struct Tryz.underlying36 h
    obtain ⟨x0, rfl⟩ := tr_list1 (show xs.length = 1 from hxl)
    obtain ⟨v0, rfl⟩ := tr_list1 hl
    have g0 : DataW.trod enc Tryz.prog W 0 (fun _ => true) true k 34 (List.take (Tryz.prog.cellsOf 34) [v0]) = some x0 := hg 0 _ rfl
    rw [kt_slots] at g0
    subst hx0
    have hz1 : Szd 34 x0.1 := hz.struct Tryz.underlying36 0 rfl rfl
    have hlt1 : SizeOf.sizeOf x0.1 < _ := sz_part (parts := [x0.1]) (by simp : x0.1 ∈ _)
    obtain ⟨F, hF⟩ := open_lesser Tryz.underlying34 kt_slot (by decide) kb_slot (fun m cs => SAt' (Rd W.heap.size W) N m cs ∧ SIn m) (fun n cs y hl h hy hz => open_slotI (open_msg0I N) hl h (by simp only [List.map_cons, List.map_nil] at *; omega) hz) (show DataW.trod enc Tryz.prog W 0 (fun _ => true) true k 34 [v0] = some x0 from g0) hz1
    obtain ⟨hF1, hF2⟩ := hF.both
    exact ⟨.mk F, ⟨v0, rfl, hF1⟩, .of hF2⟩
/-- A message that comes in. -/
theorem open_msgI {base : Nat} {v : Value} {d : DataW H} {ps : List MemPlace}
    (hval : Value.okWide Tryz.prog W .any base 36 v) (h : DataW.Trod enc Tryz.prog W 0 (fun _ => true) true 36 v d ps) (hz : Szd 36 d) :
    ∃ (m : Mg) (u : Value) (k : Nat), v = .agg #[u] ∧ MRd W.heap.size W k m u ∧ MIn m := by
  obtain ⟨cs, rfl, hsz⟩ := okWide_struct Tryz.underlying36 hval
  obtain ⟨l⟩ := cs
  obtain ⟨fuel, hf⟩ := h
  obtain ⟨xs, k, -, -, hlen, hxl, hg⟩ := DataW.trod_struct Tryz.underlying36 hf
  have hl1 : l.length = 1 := by rw [kt_msg] at hlen; simpa [Value.cells] using hlen
  obtain ⟨u, rfl⟩ := tr_list1 hl1
  obtain ⟨m, hm, hi⟩ := open_msg0I (SizeOf.sizeOf d + 1) fuel [u] (d, ps) rfl (by simpa [Value.cells] using hf) (Nat.lt_succ_self _) hz
  exact ⟨m, u, _, rfl, hm, hi⟩
/-- A value that comes in. -/
theorem open_vaI {base : Nat} {v : Value} {d : DataW H} {ps : List MemPlace}
    (hval : Value.okWide Tryz.prog W .any base 51 v) (h : DataW.Trod enc Tryz.prog W 0 (fun _ => true) true 51 v d ps) (hz : Szd 51 d) :
    ∃ (s : Vl') (u : Value) (k : Nat), v = .agg #[.int .i64 s.n, .string (tx s.s), u] ∧ VAt (Rd W.heap.size W) k s [.int .i64 s.n, .string (tx s.s), u] ∧ VIn s := by
  obtain ⟨cs, rfl, hsz⟩ := okWide_struct Tryz.underlying51 hval
  obtain ⟨l⟩ := cs
  obtain ⟨fuel, hf⟩ := h
  obtain ⟨xs, k, -, -, hlen, hxl, hg⟩ := DataW.trod_struct Tryz.underlying51 hf
  have hl1 : l.length = 3 := by rw [kt_val] at hlen; simpa [Value.cells] using hlen
  obtain ⟨s, hs, hi⟩ := open_valI (open_msg0I (SizeOf.sizeOf d + 1)) (y := (d, ps)) hl1 (by simpa [Value.cells] using hf) (show SizeOf.sizeOf d < _ by omega) hz
  obtain ⟨u, rfl, h2⟩ := id hs
  exact ⟨s, u, _, rfl, hs, hi⟩
end

end Go.Proofs.YtipaangiehdgkaaGreatDoor.T9
