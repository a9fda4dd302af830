/-
  Blanks: the contracts of the functions that go past them.
-/
import Derived.Test.YtceomdbahiimlaaDoorTokVars
namespace Go.Proofs.YtceomdbahiimlaaDoor
set_option maxRecDepth 100000

open Go.RowKit

theorem index_span (c : UInt8) : ∀ l : List UInt8, Lib.indexByte l c = if c ∈ l then (span (fun d => d != c) l : Int) else -1
  | [] => by simp [Lib.indexByte]
  | d :: r => by
    have ih := index_span c r
    by_cases h : d = c
    · subst h; simp [Lib.indexByte, span]
    · have h1 : (d == c) = false := by simpa using h
      have h2 : (d != c) = true := by simpa using h
      have h3 : c ≠ d := fun e => h e.symm
      simp only [Lib.indexByte, h1, span, h2, if_true, List.mem_cons, h3, false_or, Bool.false_eq_true, if_false]
      rw [ih]
      by_cases hm : c ∈ r
      · simp only [hm, if_true]
        have : ((span (fun d => d != c) r : Int) == -1) = false := by rw [beq_eq_false_iff_ne]; omega
        simp [this]
      · simp [hm]
theorem at_list (s : ByteArray) (k : Nat) (h : k < s.size) : s.data.toList[k]? = some (s[k]'h) := by
  rw [List.getElem?_eq_getElem (by simpa using h)]
  simp [ByteArray.getElem_eq_getElem_data]
theorem from_list (s : ByteArray) (p : Nat) : (s.extract p s.size).data.toList = s.data.toList.drop p := by
  rw [Lib.extract_data]
  exact List.take_of_length_le (by simp)
theorem from_size (s : ByteArray) (p : Nat) : (s.extract p s.size).size = s.size - p := by simp

theorem span_next {f : UInt8 → Bool} {l : List UInt8} {k : Nat} {c : UInt8} (hc : l[k]? = some c) (hf : f c = true) : span f (l.drop k) = span f (l.drop (k + 1)) + 1 := by
  obtain ⟨h, e⟩ := List.getElem?_eq_some_iff.1 hc
  rw [List.drop_eq_getElem_cons h, e]
  simp [span, hf]
theorem span_stop {f : UInt8 → Bool} {l : List UInt8} {k : Nat} {c : UInt8} (hc : l[k]? = some c) (hf : f c = false) : span f (l.drop k) = 0 := by
  obtain ⟨h, e⟩ := List.getElem?_eq_some_iff.1 hc
  rw [List.drop_eq_getElem_cons h, e]
  simp [span, hf]
theorem span_end {f : UInt8 → Bool} {l : List UInt8} {k : Nat} (h : l.length ≤ k) : span f (l.drop k) = 0 := by
  rw [List.drop_of_length_le h]; rfl

set_option maxRecDepth 1000000 in
theorem behind_any (s : ByteArray) (hs : s.size ≤ 1000000) (p : Nat) (hp : p ≤ s.size) (set : ByteArray) (f : UInt8 → Bool) (hf : ∀ c, decide (0 ≤ Lib.indexByte set.data.toList c) = f c) (w : World) :
    Calls Tryd.prog 49 #[.string s, .int .i64 p, .string set] w fun e w' => e = .returned (.int .i64 ((p + span f (s.data.toList.drop p) : Nat) : Int)) ∧ w = w' := by
  have hsl : s.data.toList.length = s.size := by simp
  have hsg := at_list s
  generalize hL : s.data.toList = L at *
  have HSL := Lib.hid hsl
  have HSG := Lib.hid hsg
  have HF := Lib.hid hf
  clear hsl hsg hf hL
  obtain ⟨R, hR⟩ : ∃ R, R = p + span f (L.drop p) := ⟨_, rfl⟩
  rw [← hR]
  have HR := Lib.hid hR
  clear hR
  go_enter Tryd.func49, Tryd.ntmps49
  go_wp2_with fail
  go_loopw [1] (fun i wr => ∃ k : Nat, i = .int .i64 k ∧ k ≤ s.size ∧ R = k + span f (L.drop k) ∧ w = wr) (fun i _ => s.size - (intOf i).toNat)
  case atStart => exact ⟨p, rfl, hp, HR.out, rfl⟩
  case round =>
    obtain ⟨k, rfl, hk, hr, rfl⟩ := hrel
    have HB := Lib.hid hr
    clear hr
    by_cases h1 : k < s.size
    · have HX := Lib.hid (HSG.out k h1)
      have hi := HF.out s[k]
      by_cases hc : f s[k] = true
      · have HN := Lib.hid (span_next HX.out hc)
        rw [hc] at hi
        clear hc
        go_wp2_with fail
        refine (index_any _ _ _).mono ?_
        rintro e w1 ⟨rfl, rfl⟩
        go_wp2
        exact ⟨⟨k + 1, by go_num, by omega, by rw [HB.out, HN.out]; omega, by first | rfl | trivial⟩, by simp [intOf]; omega⟩
      · have hc : f s[k] = false := by simpa using hc
        have HN := Lib.hid (span_stop HX.out hc)
        rw [hc] at hi
        clear hc
        go_wp2_with fail
        refine (index_any _ _ _).mono ?_
        rintro e w1 ⟨rfl, rfl⟩
        go_wp2
        go_ret
        exact ⟨ret_int (by rw [HB.out, HN.out]; simp), by first | rfl | trivial⟩
    · have HN := Lib.hid (span_end (f := f) (l := L) (k := k) (by rw [HSL.out]; omega))
      go_wp2
      go_ret
      exact ⟨ret_int (by rw [HB.out, HN.out]; simp), by first | rfl | trivial⟩

def blankS : ByteArray := ⟨#[32, 9, 10, 13]⟩
theorem blank_set (c : UInt8) : decide (0 ≤ Lib.indexByte blankS.data.toList c) = isBlank c := by
  have h : ∀ k : Fin 256, decide (0 ≤ Lib.indexByte blankS.data.toList (UInt8.ofNat k.val)) = isBlank (UInt8.ofNat k.val) := by decide +kernel
  have := h ⟨c.toNat, c.toNat_lt⟩
  simpa using this
theorem prefix2 (s : ByteArray) : Lib.hasPrefix s.data.toList [47, 47] = decide (s.data.toList.take 2 = [47, 47]) := by
  generalize s.data.toList = l
  match l with
  | [] => rfl
  | [a] => simp [Lib.hasPrefix, List.isPrefixOf]
  | a :: b :: r =>
    rw [Bool.eq_iff_iff]
    simp only [Lib.hasPrefix, List.isPrefixOf, Bool.and_eq_true, beq_iff_eq, decide_eq_true_eq, List.take_succ_cons, List.take_zero, List.cons.injEq, and_true, Bool.and_true]
    constructor
    · rintro ⟨h1, h2⟩; exact ⟨h1.symm, h2.symm⟩
    · rintro ⟨h1, h2⟩; exact ⟨h1.symm, h2.symm⟩
theorem behind_blanks (s : ByteArray) (hs : s.size ≤ 1000000) (p : Nat) (hp : p ≤ s.size) (w : World) :
    Calls Tryd.prog 49 #[.string s, .int .i64 p, .string ⟨#[32, 9, 10, 13]⟩] w fun e w' => e = .returned (.int .i64 ((p + span isBlank (s.data.toList.drop p) : Nat) : Int)) ∧ w = w' :=
  behind_any s hs p hp blankS isBlank blank_set w
/-- One step past blanks, and what is left. -/
theorem skip_more {l : List UInt8} {k : Nat} (hk : k ≤ l.length) (h2 : (l.drop k).take 2 = [47, 47]) :
    (10 ∉ l.drop k → k + ws false (l.drop k) = l.length) ∧
    (10 ∈ l.drop k → ∃ i, Lib.indexByte (l.drop k) 10 = ((i : Nat) : Int) ∧ 0 < i ∧ k + i ≤ l.length ∧ k + ws false (l.drop k) = k + i + span isBlank (l.drop (k + i)) + ws false (l.drop (k + i + span isBlank (l.drop (k + i))))) := by
  have hc := ws_comment h2
  have ht := ws_true (l.drop k)
  rw [hc, ht]
  constructor
  · intro h; rw [if_neg h, List.length_drop]; omega
  · intro h
    have hi := index_span 10 (l.drop k)
    rw [if_pos h] at hi
    have hle := span_le (fun d => d != 10) (l.drop k)
    rw [List.length_drop] at hle
    refine ⟨_, hi, ?_, by omega, ?_⟩
    · match hd : l.drop k with
      | [] => rw [hd] at h2; simp at h2
      | a :: b => rw [hd] at h2; simp at h2; obtain ⟨rfl, _⟩ := h2; simp [span]
    · rw [if_pos h, List.drop_drop]
      have := ws_step (l.drop (k + span (fun d => d != 10) (l.drop k)))
      rw [this, List.drop_drop]
      omega

set_option maxRecDepth 1000000 in
theorem skip_any (s : ByteArray) (hs : s.size ≤ 1000000) (p : Nat) (hp : p ≤ s.size) (w : World) :
    Calls Tryd.prog 32 #[.string s, .int .i64 p] w fun e w' => e = .returned (.int .i64 ((p + ws false (s.data.toList.drop p) : Nat) : Int)) ∧ w = w' := by
  have hsl : s.data.toList.length = s.size := by simp
  have hbl := fun k hk w => behind_blanks s hs k hk w
  have hfr := from_list s
  have hsp : ∀ k, span isBlank (s.data.toList.drop k) ≤ s.size - k := fun k => by
    have := span_le isBlank (s.data.toList.drop k)
    rwa [List.length_drop, hsl] at this
  have hst : p + ws false (s.data.toList.drop p) = p + span isBlank (s.data.toList.drop p) + ws false (s.data.toList.drop (p + span isBlank (s.data.toList.drop p))) := by
    have := ws_step (s.data.toList.drop p)
    rw [List.drop_drop] at this
    omega
  have h0 := span_drop isBlank (s.data.toList.drop p)
  rw [List.drop_drop] at h0
  generalize s.data.toList = L at *
  have HSL := Lib.hid hsl
  have HFR := Lib.hid hfr
  have HSP := Lib.hid hsp
  obtain ⟨R, hR⟩ : ∃ R, R = p + ws false (L.drop p) := ⟨_, rfl⟩
  rw [← hR] at hst ⊢
  have HST := Lib.hid hst
  have H0 := Lib.hid h0
  clear hR hsl hfr hsp hst h0
  go_enter Tryd.func32, Tryd.ntmps32
  go_wp2_with fail
  refine (hbl p hp _).mono ?_
  rintro e w1 ⟨rfl, rfl⟩
  have hq := HSP.out p
  generalize hQ : p + span isBlank (L.drop p) = q at *
  have hq' : q ≤ s.size := by omega
  clear hQ hq
  go_wp2_with fail
  go_loopw [1] (fun i wr => ∃ k : Nat, i = .int .i64 k ∧ k ≤ s.size ∧ R = k + ws false (L.drop k) ∧ span isBlank (L.drop k) = 0 ∧ w = wr) (fun i _ => s.size - (intOf i).toNat)
  case atStart => exact ⟨q, rfl, hq', HST.out, H0.out, rfl⟩
  case round =>
    obtain ⟨k, rfl, hk, hr, h0, rfl⟩ := hrel
    have HR := Lib.hid hr
    have HZ := Lib.hid h0
    clear hr h0
    have hpre := prefix2 (s.extract k s.size)
    rw [HFR.out] at hpre
    have HE := HFR.out k
    by_cases h2 : (L.drop k).take 2 = [47, 47]
    · have hpre' : Lib.hasPrefix (s.extract k s.size).data.toList [47, 47] = true := by rw [HE, hpre]; simp [h2]
      obtain ⟨hno, hyes⟩ := skip_more (by rw [HSL.out]; exact hk) h2
      have HPRE := Lib.hid hpre'
      by_cases hm : 10 ∈ L.drop k
      · obtain ⟨i, hi, hi0, hile, hw⟩ := hyes hm
        have HI : Hid (Lib.indexByte (s.extract k s.size).data.toList 10 = (i : Int)) := Lib.hid (by rw [HE]; exact hi)
        have HW := Lib.hid hw
        have hile' : k + i ≤ s.size := by rw [← HSL.out]; exact hile
        have HSD := Lib.hid (span_drop isBlank (L.drop (k + i)))
        clear hpre hpre' hno hyes h2 hm hi hw hile HE
        go_wp2_with fail
        refine (prefix_any _ _ _).mono ?_
        rintro e w1 ⟨rfl, rfl⟩
        rw [show (⟨#[47, 47]⟩ : ByteArray).data.toList = [47, 47] from rfl, HPRE.out]
        go_wp2_with fail
        refine (index_any _ 10 _).mono ?_
        rintro e w1 ⟨rfl, rfl⟩
        rw [HI.out]
        have b1 : decide ((i : Int) < 0) = false := by simp
        have e1 : IntKind.i64.wrap ((k : Int) + i) = ((k + i : Nat) : Int) := by simp [IntKind.wrap, IntKind.signed, IntKind.bits]; split <;> omega
        go_wp2_with fail
        refine (hbl (k + i) hile' _).mono ?_
        rintro e w1 ⟨rfl, rfl⟩
        have h3 := HSP.out (k + i)
        go_wp2
        refine ⟨⟨k + i + span isBlank (L.drop (k + i)), rfl, by omega, by rw [HR.out, HW.out], ?_, by first | rfl | trivial⟩, by simp [intOf]; omega⟩
        have := HSD.out
        rwa [List.drop_drop] at this
      · have hi := index_span 10 (L.drop k)
        rw [if_neg hm] at hi
        have HI : Hid (Lib.indexByte (s.extract k s.size).data.toList 10 = -1) := Lib.hid (by rw [HE]; exact hi)
        have HW := Lib.hid (hno hm)
        clear hpre hpre' hno hyes h2 hm hi HE
        go_wp2_with fail
        refine (prefix_any _ _ _).mono ?_
        rintro e w1 ⟨rfl, rfl⟩
        rw [show (⟨#[47, 47]⟩ : ByteArray).data.toList = [47, 47] from rfl, HPRE.out]
        go_wp2_with fail
        refine (index_any _ 10 _).mono ?_
        rintro e w1 ⟨rfl, rfl⟩
        rw [HI.out]
        go_wp2
        go_ret
        exact ⟨ret_int (by rw [HR.out, HW.out, HSL.out]), by first | rfl | trivial⟩
    · have hpre' : Lib.hasPrefix (s.extract k s.size).data.toList [47, 47] = false := by rw [HE, hpre]; simp [h2]
      have HPRE := Lib.hid hpre'
      have HW := Lib.hid (ws_none HZ.out h2)
      clear hpre hpre' h2 HE
      go_wp2_with fail
      refine (prefix_any _ _ _).mono ?_
      rintro e w1 ⟨rfl, rfl⟩
      rw [show (⟨#[47, 47]⟩ : ByteArray).data.toList = [47, 47] from rfl, HPRE.out]
      go_wp2
      go_ret
      exact ⟨ret_int (by rw [HR.out, HW.out]; simp), by first | rfl | trivial⟩
end Go.Proofs.YtceomdbahiimlaaDoor
/-
  Bytes by their sorts: the contracts of the small functions that tell them.
-/
namespace Go.Proofs.YtceomdbahiimlaaDoor
set_option maxRecDepth 100000

open Go.RowKit

theorem u8_eq (c : UInt8) (k : Nat) (hk : k < 256) : ((c.toNat : Int) == (k : Int)) = (c == UInt8.ofNat k) := by
  rw [Bool.eq_iff_iff, beq_iff_eq, beq_iff_eq]
  constructor
  · intro h
    have : c.toNat = k := by omega
    rw [← this]; simp
  · intro h
    rw [h]; simp; omega

theorem letter_any (c : UInt8) (w : World) : Calls Tryd.prog 52 #[.int .u8 (c.toNat : Int)] w fun e w' => e = .returned (.bool (isFirst c)) ∧ w = w' := by
  have h95 : (c == 95) = decide (c.toNat = 95) := by rw [Bool.eq_iff_iff, beq_iff_eq, decide_eq_true_eq, ← UInt8.toNat_inj]; rfl
  unfold isFirst
  rw [h95]
  have hc := c.toNat_lt
  generalize c.toNat = k at *
  go_enter Tryd.func52, Tryd.ntmps52
  go_wp2
  all_goals (go_ret; refine ⟨ret_bool ?_, by first | rfl | trivial⟩)
  all_goals (rw [Bool.eq_iff_iff]; simp only [Bool.or_eq_true, Bool.and_eq_true, decide_eq_true_eq, beq_iff_eq, Bool.false_eq_true, true_iff, false_iff]; omega)
theorem digit_any (c : UInt8) (w : World) : Calls Tryd.prog 53 #[.int .u8 (c.toNat : Int)] w fun e w' => e = .returned (.bool (isDigit c)) ∧ w = w' := by
  unfold isDigit
  generalize c.toNat = k at *
  go_enter Tryd.func53, Tryd.ntmps53
  go_wp2
  all_goals (go_ret; refine ⟨ret_bool ?_, by first | rfl | trivial⟩)
  all_goals (rw [Bool.eq_iff_iff]; simp only [Bool.or_eq_true, Bool.and_eq_true, decide_eq_true_eq, beq_iff_eq, Bool.false_eq_true, true_iff, false_iff]; omega)
theorem plain_any (c : UInt8) (w : World) : Calls Tryd.prog 66 #[.int .u8 (c.toNat : Int)] w fun e w' => e = .returned (.bool (isPlain c)) ∧ w = w' := by
  unfold isPlain
  generalize c.toNat = k at *
  go_enter Tryd.func66, Tryd.ntmps66
  go_wp2
  all_goals (go_ret; refine ⟨ret_bool ?_, by first | rfl | trivial⟩)
  all_goals (rw [Bool.eq_iff_iff]; simp only [Bool.or_eq_true, Bool.and_eq_true, decide_eq_true_eq, beq_iff_eq, Bool.false_eq_true, true_iff, false_iff]; omega)
end Go.Proofs.YtceomdbahiimlaaDoor
/-
  Blanks, signs, halves of bytes and digits, by the document's own functions: their contracts.
-/
namespace Go.Proofs.YtceomdbahiimlaaDoor
set_option maxRecDepth 100000

open Go.RowKit

def hexI (c : UInt8) : Int := match hexv c with | some a => (a : Int) | none => -1
theorem rhex_any (c : UInt8) (w : World) : Calls Tryd.prog 65 #[.int .u8 (c.toNat : Int)] w fun e w' => e = .returned (.int .i64 (hexI c)) ∧ w = w' := by
  by_cases hd : isDigit c = true
  · have hR : hexI c = ((c.toNat - 48 : Nat) : Int) := by simp [hexI, hexv, hd]
    rw [hR]
    have hd2 := hd
    simp only [isDigit, Bool.and_eq_true, decide_eq_true_eq] at hd2
    go_enter Tryd.func65, Tryd.ntmps65
    go_wp2_with fail
    refine (digit_any c _).mono ?_
    rintro e w' ⟨rfl, rfl⟩
    rw [hd]
    have e1 : IntKind.i64.wrap (IntKind.u8.wrap ((c.toNat : Int) - 48)) = ((c.toNat - 48 : Nat) : Int) := by simp [IntKind.wrap, IntKind.signed, IntKind.bits]; omega
    clear hd
    go_wp2
    go_ret
    exact ⟨ret_int (by first | rfl | assumption | omega), by first | rfl | trivial⟩
  · have hd : isDigit c = false := by simpa using hd
    by_cases h2 : 97 ≤ c.toNat ∧ c.toNat ≤ 102
    · have hR : hexI c = ((c.toNat - 87 : Nat) : Int) := by simp [hexI, hexv, hd, h2.1, h2.2]
      rw [hR]
      obtain ⟨h3, h4⟩ := h2
      have d1 : decide (97 ≤ (c.toNat : Int)) = true := by simp; omega
      have d2 : decide ((c.toNat : Int) ≤ 102) = true := by simp; omega
      have e1 : IntKind.i64.wrap (IntKind.i64.wrap (IntKind.u8.wrap ((c.toNat : Int) - 97)) + 10) = ((c.toNat - 87 : Nat) : Int) := by simp [IntKind.wrap, IntKind.signed, IntKind.bits]; omega
      go_enter Tryd.func65, Tryd.ntmps65
      go_wp2_with fail
      refine (digit_any c _).mono ?_
      rintro e w' ⟨rfl, rfl⟩
      rw [hd]
      clear hd
      go_wp2
      go_ret
      exact ⟨ret_int (by first | rfl | assumption | omega), by first | rfl | trivial⟩
    · have hR : hexI c = -1 := by
        have : (decide (97 ≤ c.toNat) && decide (c.toNat ≤ 102)) = false := by rw [Bool.and_eq_false_iff, decide_eq_false_iff_not, decide_eq_false_iff_not]; omega
        simp only [hexI, hexv, hd, this, Bool.false_eq_true, if_false]
      rw [hR]
      go_enter Tryd.func65, Tryd.ntmps65
      go_wp2_with fail
      refine (digit_any c _).mono ?_
      rintro e w' ⟨rfl, rfl⟩
      rw [hd]
      clear hd
      go_wp2
      all_goals first
        | (go_ret; exact ⟨rfl, by first | rfl | trivial⟩)
        | (exfalso; omega)

def signS : ByteArray := ⟨#[123, 125, 40, 41, 91, 93, 60, 62, 61, 59, 44, 46]⟩
theorem sign_list (c : UInt8) : isSign c = signS.data.toList.contains c := rfl
theorem contains_no {l : List UInt8} {c : UInt8} {k : Nat} (hk : l.length ≤ k) (h : ∀ j, j < k → ∀ d, l[j]? = some d → d ≠ c) : l.contains c = false := by
  rw [Bool.eq_false_iff]
  intro h2
  rw [List.contains_iff_mem] at h2
  obtain ⟨j, hj, e⟩ := List.getElem_of_mem h2
  exact h j (by omega) c (by rw [List.getElem?_eq_getElem hj, e]) rfl
set_option maxRecDepth 1000000 in
theorem signed_any (c : UInt8) (w : World) : Calls Tryd.prog 56 #[.int .u8 (c.toNat : Int)] w fun e w' => e = .returned (.bool (isSign c)) ∧ Below w.heap.size w w' := by
  obtain ⟨s, hs⟩ : ∃ s, s = signS := ⟨_, rfl⟩
  have hsl : s.size = 12 := by rw [hs]; rfl
  have HSG := Lib.hid (at_list s)
  have hsn : isSign c = s.data.toList.contains c := by rw [hs]; rfl
  have hll : s.data.toList.length = s.size := by simp
  rw [hsn]
  generalize s.data.toList = L at *
  have HLL := Lib.hid hll
  clear hll hsn
  have hs' : (⟨#[123, 125, 40, 41, 91, 93, 60, 62, 61, 59, 44, 46]⟩ : ByteArray) = s := hs.symm
  clear hs
  go_enter Tryd.func56, Tryd.ntmps56
  simp only [hs']
  go_wp2
  go_loopw [4] (fun i wr => ∃ k d : Nat, i = .int .i64 k ∧ k ≤ 12 ∧ (∀ j, j < k → ∀ x, L[j]? = some x → x ≠ c) ∧ wr = w.drewN d) (fun i _ => 12 - (intOf i).toNat)
  case atStart => exact ⟨0, 0, rfl, by omega, fun j hj => by omega, rfl⟩
  case round =>
    obtain ⟨k, d, rfl, hk, hno, rfl⟩ := hrel
    have HNO := Lib.hid hno
    clear hno
    by_cases h1 : k < 12
    · have h1' : k < s.size := by omega
      have HX := Lib.hid (HSG.out k h1')
      by_cases he : s[k] = c
      · have b1 : (((s[k]).toNat : Int) == (c.toNat : Int)) = true := by rw [he]; simp
        have HC := Lib.hid (show L.contains c = true by rw [List.contains_iff_mem]; exact List.mem_of_getElem? (by rw [← he]; exact HX.out))
        clear he
        go_wp2
        go_ret
        exact ⟨ret_bool HC.out.symm, (by repeat (first | exact Below.refl _ _ | assumption | refine below_draws ?_ _ | refine Below.drew ?_))⟩
      · have b1 : (((s[k]).toNat : Int) == (c.toNat : Int)) = false := by
          rw [beq_eq_false_iff_ne]
          intro h
          exact he (UInt8.toNat_inj.1 (by omega))
        have HE := Lib.hid he
        clear he
        go_wp2
        refine ⟨⟨k + 1, d, by go_num, by omega, ?_, rfl⟩, by simp [intOf]; omega⟩
        intro j hj x hx
        by_cases hjk : j = k
        · subst hjk; rw [HX.out] at hx; injection hx with hx; rw [← hx]; exact HE.out
        · exact HNO.out j (by omega) x hx
    · have HC := Lib.hid (contains_no (by rw [HLL.out]; omega) HNO.out)
      go_wp2
      go_ret
      exact ⟨ret_bool HC.out.symm, (by repeat (first | exact Below.refl _ _ | assumption | refine below_draws ?_ _ | refine Below.drew ?_))⟩

theorem ws_at {l : List UInt8} {k : Nat} {c : UInt8} (hc : l[k]? = some c) : l.drop k = c :: l.drop (k + 1) := by
  obtain ⟨h, e⟩ := List.getElem?_eq_some_iff.1 hc
  rw [List.drop_eq_getElem_cons h, e]
theorem head_drop {l : List UInt8} {k : Nat} : (l.drop k).head? = l[k]? := by rw [List.head?_drop]
theorem blank_is (c : UInt8) : isBlank c = ((c.toNat : Int) == 32 || (c.toNat : Int) == 9 || (c.toNat : Int) == 10 || (c.toNat : Int) == 13) := by
  have e1 := u8_eq c 32 (by decide)
  have e2 := u8_eq c 9 (by decide)
  have e3 := u8_eq c 10 (by decide)
  have e4 := u8_eq c 13 (by decide)
  simp only [Int.cast_ofNat_Int] at e1 e2 e3 e4
  rw [e1, e2, e3, e4]; rfl
set_option maxRecDepth 1000000 in
theorem blank_any (s : ByteArray) (hs : s.size ≤ 1000000) (p : Nat) (hp : p ≤ s.size) (w : World) :
    Calls Tryd.prog 36 #[.string s, .int .i64 p] w fun e w' => e = .returned (.int .i64 ((p + ws false (s.data.toList.drop p) : Nat) : Int)) ∧ w = w' := by
  have hsl : s.data.toList.length = s.size := by simp
  have hsg := at_list s
  generalize s.data.toList = L at *
  have HSL := Lib.hid hsl
  have HSG := Lib.hid hsg
  clear hsl hsg
  obtain ⟨R, hR⟩ : ∃ R, R = p + ws false (L.drop p) := ⟨_, rfl⟩
  rw [← hR]
  have HR := Lib.hid hR
  clear hR
  go_enter Tryd.func36, Tryd.ntmps36
  go_wp2_with fail
  go_loopw [1] (fun i wr => ∃ k : Nat, i = .int .i64 k ∧ k ≤ s.size ∧ R = k + ws false (L.drop k) ∧ w = wr) (fun i _ => s.size - (intOf i).toNat)
  case atStart => exact ⟨p, rfl, hp, HR.out, rfl⟩
  case round =>
    obtain ⟨k, rfl, hk, hr, rfl⟩ := hrel
    have HB := Lib.hid hr
    clear hr
    by_cases h1 : k < s.size
    · have HX := Lib.hid (HSG.out k h1)
      have hbl := blank_is s[k]
      by_cases hc : isBlank s[k] = true
      · have HN := Lib.hid (show ws false (L.drop k) = 1 + ws false (L.drop (k + 1)) by rw [ws_at HX.out]; simp [ws, hc])
        rw [hc] at hbl
        clear hc
        cases b1 : ((s[k].toNat : Int) == 32)
        · cases b2 : ((s[k].toNat : Int) == 9)
          · cases b3 : ((s[k].toNat : Int) == 10)
            · cases b4 : ((s[k].toNat : Int) == 13)
              · rw [b1, b2, b3, b4] at hbl; simp at hbl
              · clear hbl
                go_wp2
                exact ⟨⟨k + 1, by go_num, by omega, by rw [HB.out, HN.out]; omega, by first | rfl | trivial⟩, by simp [intOf]; omega⟩
            · clear hbl
              go_wp2
              exact ⟨⟨k + 1, by go_num, by omega, by rw [HB.out, HN.out]; omega, by first | rfl | trivial⟩, by simp [intOf]; omega⟩
          · clear hbl
            go_wp2
            exact ⟨⟨k + 1, by go_num, by omega, by rw [HB.out, HN.out]; omega, by first | rfl | trivial⟩, by simp [intOf]; omega⟩
        · clear hbl
          go_wp2
          exact ⟨⟨k + 1, by go_num, by omega, by rw [HB.out, HN.out]; omega, by first | rfl | trivial⟩, by simp [intOf]; omega⟩
      · have hc : isBlank s[k] = false := by simpa using hc
        have HC := Lib.hid hc
        rw [hc] at hbl
        obtain ⟨⟨⟨b1, b2⟩, b3⟩, b4⟩ : (((((s[k].toNat : Int) == 32) = false ∧ ((s[k].toNat : Int) == 9) = false) ∧ ((s[k].toNat : Int) == 10) = false) ∧ ((s[k].toNat : Int) == 13) = false) := by
          have := hbl.symm
          simpa only [Bool.or_eq_false_iff] using this
        have B3 := Lib.hid b3
        clear hbl hc
        by_cases h2 : k + 1 < s.size
        · have HY := Lib.hid (HSG.out (k + 1) h2)
          have d1 : decide ((s.size : Int) ≤ (k : Int) + 1) = false := by simp; omega
          cases b5 : ((s[k].toNat : Int) != 47)
          · have e47 := u8_eq s[k] 47 (by decide)
            have E47 : s[k] = 47 := by
              have h : ((s[k].toNat : Int) == 47) = true := by
                rw [bne_eq_false_iff_eq] at b5
                rw [beq_iff_eq]; exact b5
              simp only [Int.cast_ofNat_Int] at e47
              rw [h] at e47
              exact beq_iff_eq.1 e47.symm
            have H47 := Lib.hid E47
            clear e47 E47
            cases b6 : ((s[k + 1].toNat : Int) != 47)
            · have E48 : s[k + 1] = 47 := by
                have e47 := u8_eq s[k + 1] 47 (by decide)
                have h : ((s[k + 1].toNat : Int) == 47) = true := by
                  rw [bne_eq_false_iff_eq] at b6
                  rw [beq_iff_eq]; exact b6
                simp only [Int.cast_ofNat_Int] at e47
                rw [h] at e47
                exact beq_iff_eq.1 e47.symm
              have HN := Lib.hid (show ws false (L.drop k) = ws true (L.drop k) from ws_comment (by rw [ws_at HX.out, ws_at HY.out, H47.out, E48]; rfl))
              clear E48
              go_wp2
              go_loopw [1] (fun i wr => ∃ j : Nat, i = .int .i64 j ∧ k ≤ j ∧ j ≤ s.size ∧ R = j + ws true (L.drop j) ∧ w = wr) (fun i _ => s.size - (intOf i).toNat)
              case atStart => exact ⟨k, rfl, by omega, by omega, by rw [HB.out, HN.out], by first | rfl | trivial⟩
              case round =>
                obtain ⟨j, rfl, hkj, hj, hr, rfl⟩ := hrel
                have HJ := Lib.hid hr
                clear hr
                by_cases g1 : j < s.size
                · have HZ := Lib.hid (HSG.out j g1)
                  cases b7 : ((s[j].toNat : Int) != 10)
                  · have E10 : s[j] = 10 := by
                      have e47 := u8_eq s[j] 10 (by decide)
                      have h : ((s[j].toNat : Int) == 10) = true := by
                        rw [bne_eq_false_iff_eq] at b7
                        rw [beq_iff_eq]; exact b7
                      simp only [Int.cast_ofNat_Int] at e47
                      rw [h] at e47
                      exact beq_iff_eq.1 e47.symm
                    have hlt : k < j := by
                      rcases Nat.lt_or_ge k j with h | h
                      · exact h
                      · exfalso
                        obtain rfl : j = k := by omega
                        rw [H47.out] at E10
                        exact absurd E10 (by decide)
                    have HN2 := Lib.hid (show ws true (L.drop j) = ws false (L.drop j) by rw [ws_at HZ.out, E10]; simp [ws, isBlank])
                    clear E10
                    go_wp2
                    exact ⟨⟨j, rfl, by omega, by rw [HJ.out, HN2.out], by first | rfl | trivial⟩, by simp [intOf]; omega⟩
                  · have HN2 := Lib.hid (show ws true (L.drop j) = 1 + ws true (L.drop (j + 1)) by
                      have hne : (s[j] != 10) = true := by
                        rw [bne_iff_ne] at b7 ⊢
                        intro h; rw [h] at b7; exact b7 rfl
                      rw [ws_at HZ.out]; simp only [ws, hne])
                    go_wp2
                    exact ⟨⟨j + 1, by go_num, by omega, by omega, by rw [HJ.out, HN2.out]; omega, by first | rfl | trivial⟩, by simp [intOf]; omega⟩
                · have HN2 := Lib.hid (show ws true (L.drop j) = ws false (L.drop j) by rw [List.drop_of_length_le (by rw [HSL.out]; omega)]; simp [ws])
                  go_wp2
                  exact ⟨⟨j, rfl, by omega, by rw [HJ.out, HN2.out], by first | rfl | trivial⟩, by simp [intOf]; omega⟩
            · have HN := Lib.hid (show ws false (L.drop k) = 0 by
                have hne : (s[k + 1] == 47) = false := by
                  rw [beq_eq_false_iff_ne]
                  intro h; rw [h] at b6; exact absurd b6 (by decide)
                rw [ws_at HX.out, ws_at HY.out]
                simp only [ws, HC.out, List.head?_cons, Option.some_beq_some, hne, Bool.and_false, Bool.false_eq_true, if_false])
              go_wp2
              go_ret
              exact ⟨ret_int (by rw [HB.out, HN.out]; simp), by first | rfl | trivial⟩
          · have HN := Lib.hid (show ws false (L.drop k) = 0 by
              have hne : (s[k] == 47) = false := by
                rw [beq_eq_false_iff_ne]
                intro h; rw [h] at b5; exact absurd b5 (by decide)
              rw [ws_at HX.out]
              simp only [ws, HC.out, hne, Bool.false_and, Bool.false_eq_true, if_false])
            go_wp2
            go_ret
            exact ⟨ret_int (by rw [HB.out, HN.out]; simp), by first | rfl | trivial⟩
        · have d1 : decide ((s.size : Int) ≤ (k : Int) + 1) = true := by simp; omega
          have HN := Lib.hid (show ws false (L.drop k) = 0 by
            rw [ws_at HX.out, List.drop_of_length_le (by rw [HSL.out]; omega)]
            simp [ws, HC.out])
          go_wp2
          go_ret
          exact ⟨ret_int (by rw [HB.out, HN.out]; simp), by first | rfl | trivial⟩
    · have HN := Lib.hid (show ws false (L.drop k) = 0 by rw [List.drop_of_length_le (by rw [HSL.out]; omega)]; simp [ws])
      go_wp2
      go_ret
      exact ⟨ret_int (by rw [HB.out, HN.out]; simp), by first | rfl | trivial⟩
end Go.Proofs.YtceomdbahiimlaaDoor
/-
  A number's digits, and the number of digits, by the document's own functions: their contracts.
-/
namespace Go.Proofs.YtceomdbahiimlaaDoor
set_option maxRecDepth 100000

open Go.RowKit

theorem txt_app (a b : List UInt8) : txt a ++ txt b = txt (a ++ b) := by
  apply ByteArray.ext
  apply Array.toList_inj.1
  simp [txt]
/-- The digit of a number below 10. -/
def dig (k : Nat) : UInt8 := UInt8.ofNat (48 + k)
def tenS : ByteArray := ⟨#[48, 49, 50, 51, 52, 53, 54, 55, 56, 57]⟩
theorem dec_small {u : Nat} (h : u ≤ 9223372036854775808) : (txt (Lib.decDigits u)).size ≤ 19 := by
  have h3 := nDigits_le 18 u (by have : (10 : Nat) ^ (18 + 1) = 10000000000000000000 := by decide
                                 omega)
  rw [txt_size, Lib.decDigits_length]; omega
theorem ten_part (k : Nat) (h : k < 10) : tenS.extract k (k + 1) = txt [dig k] := by
  have : k = 0 ∨ k = 1 ∨ k = 2 ∨ k = 3 ∨ k = 4 ∨ k = 5 ∨ k = 6 ∨ k = 7 ∨ k = 8 ∨ k = 9 := by omega
  rcases this with rfl | rfl | rfl | rfl | rfl | rfl | rfl | rfl | rfl | rfl <;> rfl
theorem ten_at (k : Nat) (h : k < 10) (w : World) : (Instr.slice 9 (.string ⟨#[48, 49, 50, 51, 52, 53, 54, 55, 56, 57]⟩) (some (.int .i64 k)) (some (.int .i64 ((k : Int) + 1))) none).run Tryd.prog w = .ok (.string (txt [dig k])) w := by
  have hr := run_slice_string (P := Tryd.prog) (w := w) (t := 9) (s := tenS) (i := (k : Int)) (j := (k : Int) + 1) (k := .i64) (k' := .i64) Tryd.underlying9 (by omega) (by omega) (by show (k : Int) + 1 ≤ 10; omega)
  have e1 : ((k : Int) + 1).toNat = k + 1 := by omega
  rw [Int.toNat_natCast, e1, ten_part k h] at hr
  exact hr

set_option maxRecDepth 1000000 in
theorem rdig_nat : ∀ (n : Nat), n ≤ 9223372036854775807 → ∀ w, Calls Tryd.prog 64 #[.int .i64 (n : Int)] w fun e w' => e = .returned (.string (txt (Lib.decDigits n))) ∧ Below w.heap.size w w' := by
  intro n
  induction n using Nat.strongRecOn with
  | _ n ih =>
  intro hn w
  have hm : n % 10 < 10 := Nat.mod_lt _ (by decide)
  have ht := ten_at (n % 10) hm
  have b0 : decide ((n : Int) < 0) = false := by simp
  have e1 : Int.tmod (n : Int) 10 = ((n % 10 : Nat) : Int) := by rw [Int.tmod_eq_emod_of_nonneg (by omega)]; omega
  by_cases h : n < 10
  · have b1 : decide ((n : Int) < 10) = true := by simp; omega
    have HD : Hid (Lib.decDigits n = [dig n]) := Lib.hid (Lib.decDigits_one h)
    have hmod : n % 10 = n := by omega
    rw [hmod] at ht e1
    clear ih
    go_enter Tryd.func64, Tryd.ntmps64
    go_wp2_with fail
    go_ret
    exact ⟨by rw [HD.out]; rfl, by first | exact Below.refl _ _ | trivial⟩
  · have b1 : decide ((n : Int) < 10) = false := by simp; omega
    have HD : Hid (Lib.decDigits n = Lib.decDigits (n / 10) ++ [dig (n % 10)]) := Lib.hid (dec_step h)
    have IH := Lib.hid (ih (n / 10) (by omega) (by omega))
    have e2 : Int.tdiv (n : Int) 10 = ((n / 10 : Nat) : Int) := by rw [Int.tdiv_eq_ediv_of_nonneg (by omega)]; omega
    clear ih
    have hqb : n / 10 ≤ 922337203685477580 := by omega
    generalize hq : n / 10 = q at *
    generalize hr : n % 10 = r at *
    clear hq hr
    have hxs := dec_small (u := q) (by omega)
    have hys := txt_size [dig r]
    simp only [List.length_cons, List.length_nil] at hys
    generalize hX : txt (Lib.decDigits q) = X at *
    generalize hY : txt [dig r] = Y at *
    have HX := Lib.hid hX
    have HY := Lib.hid hY
    clear hX hY
    go_enter Tryd.func64, Tryd.ntmps64
    go_wp2_with fail
    refine (IH.out _).mono ?_
    try rw [HX.out]
    rintro e w1 ⟨rfl, hb⟩
    go_wp2
    go_ret
    exact ⟨congrArg (fun x => Ending.returned (Value.string x)) (by rw [HD.out, ← HX.out, ← HY.out, txt_app]), hb⟩

theorem itoa_min : Lib.itoa (-9223372036854775808) = [45, 57, 50, 50, 51, 51, 55, 50, 48, 51, 54, 56, 53, 52, 55, 55, 53, 56, 48, 56] := by
  have h : ∀ n : Nat, Lib.decDigits n = if n < 10 then [UInt8.ofNat (48 + n)] else Lib.decDigits (n / 10) ++ [UInt8.ofNat (48 + n % 10)] := fun n => by
    by_cases h : n < 10
    · rw [if_pos h, Lib.decDigits_one h]
    · rw [if_neg h, dec_step h]
  rw [itoa_neg _ (by decide), show (-9223372036854775808 : Int).natAbs = 9223372036854775808 from rfl]
  iterate 18 rw [h, if_neg (by decide)]
  rw [h, if_pos (by decide)]
  decide +kernel
set_option maxRecDepth 1000000 in
theorem rdig_any (n : Int) (h0 : -9223372036854775808 ≤ n) (h1 : n ≤ 9223372036854775807) (w : World) :
    Calls Tryd.prog 64 #[.int .i64 n] w fun e w' => e = .returned (.string (txt (Lib.itoa n))) ∧ Below w.heap.size w w' := by
  by_cases hn : n < 0
  · by_cases hm : n = -9223372036854775808
    · subst hm
      have HD := Lib.hid itoa_min
      go_enter Tryd.func64, Tryd.ntmps64
      go_wp2_with fail
      go_ret
      exact ⟨by rw [HD.out]; rfl, by first | exact Below.refl _ _ | trivial⟩
    · obtain ⟨m, rfl⟩ : ∃ m : Nat, n = -(m : Int) := ⟨n.natAbs, by omega⟩
      have HD : Hid (Lib.itoa (-(m : Int)) = 45 :: Lib.decDigits m) := Lib.hid (by rw [itoa_neg _ hn]; simp)
      have b0 : decide (-(m : Int) < 0) = true := by simp; omega
      have b1 : (-(m : Int) == -9223372036854775808) = false := by rw [beq_eq_false_iff_ne]; exact hm
      have e1 : IntKind.i64.wrap (- -(m : Int)) = (m : Int) := by simp [IntKind.wrap, IntKind.signed, IntKind.bits]; split <;> omega
      have IH := Lib.hid (rdig_nat m (by omega))
      have hmb : m ≤ 9223372036854775807 := by omega
      have hm0 : 0 < m := by omega
      have e2 : (- -(m : Int)) = (m : Int) := by omega
      clear hn hm h0 h1 e1
      have hxs := dec_small (u := m) (by omega)
      generalize hX : txt (Lib.decDigits m) = X at *
      generalize hY : txt (Lib.itoa (-(m : Int))) = Y at *
      have HX := Lib.hid hX
      have HY := Lib.hid hY
      clear hX hY
      go_enter Tryd.func64, Tryd.ntmps64
      go_wp2_with fail
      refine (IH.out _).mono ?_
      try rw [HX.out]
      rintro e w1 ⟨rfl, hb⟩
      go_wp2
      go_ret
      exact ⟨congrArg (fun x => Ending.returned (Value.string x)) (by rw [← HY.out, HD.out, ← HX.out]; exact txt_app [45] (Lib.decDigits m)), hb⟩
  · obtain ⟨m, rfl⟩ : ∃ m : Nat, n = (m : Int) := ⟨n.toNat, by omega⟩
    rw [itoa_nonneg _ (by omega)]
    simp only [Int.toNat_natCast]
    exact rdig_nat m (by omega) w
end Go.Proofs.YtceomdbahiimlaaDoor
/-
  The number of digits, with a sign or not, by the document's own function: its contract.
-/
namespace Go.Proofs.YtceomdbahiimlaaDoor
set_option maxRecDepth 100000

open Go.RowKit

theorem numOf_spell {t : List UInt8} (h : numText t) {v : Int} (hs : spell t = v) (h0 : -9223372036854775808 ≤ v) (h1 : v ≤ 9223372036854775807) :
    (numOf Lib.itoa t).isSome = decide (Lib.itoa v = t) ∧ ∀ x, numOf Lib.itoa t = some x → v = x := by
  subst hs
  have hne : t ≠ [] := by obtain ⟨c, r, rfl, _⟩ := h; simp
  rw [numOf_eq]
  by_cases he : Lib.itoa (spell t) = t
  · rw [if_pos ⟨hne, h0, h1, he⟩]
    exact ⟨by simp [he], fun x hx => by injection hx⟩
  · rw [if_neg (by rintro ⟨_, _, _, h⟩; exact he h)]
    exact ⟨by simp [he], fun x hx => by cases hx⟩
theorem numOf_far {t : List UInt8} (hs : spell t < -9223372036854775808 ∨ 9223372036854775807 < spell t) : numOf Lib.itoa t = none := by
  rw [numOf_eq, if_neg]
  rintro ⟨_, h1, h2, _⟩
  omega

def NumPost (O : Option Int) (w : World) (e : Ending) (w' : World) : Prop := ∃ v, e = .returned (.tuple #[.int .i64 v, .bool O.isSome]) ∧ (∀ x, O = some x → v = x) ∧ Below w.heap.size w w'
theorem NumPost.no {O : Option Int} {w w' : World} (h : O = none) (hb : Below w.heap.size w w') : NumPost O w (.returned (.tuple #[.int .i64 0, .bool false])) w' := by
  subst h; exact ⟨0, rfl, fun x hx => (by cases hx), hb⟩
theorem NumPost.yes {O : Option Int} {w w' : World} {v : Int} {b : Bool} (h : O.isSome = b) (hx : ∀ x, O = some x → v = x) (hb : Below w.heap.size w w') : NumPost O w (.returned (.tuple #[.int .i64 v, .bool b])) w' := by
  subst h; exact ⟨v, rfl, hx, hb⟩
theorem same_text {b : Bool} {v : Int} {L : List UInt8} {X t : ByteArray} (h : b = decide (Lib.itoa v = L)) (hX : X = txt (Lib.itoa v)) (ht : txt L = t) : b = (X.toList == t.toList) := by
  subst hX ht
  rw [h, Lib.toList_data, Lib.toList_data, txt_list, txt_list]
  rw [Bool.eq_iff_iff]; simp
set_option maxRecDepth 1000000 in
theorem rnum_0 (t : ByteArray) (ht : t.size ≤ 1000000) (h : numText t.data.toList) (hh : t.data.toList.head? ≠ some 45) (w : World) :
    Calls Tryd.prog 54 #[.string t] w fun e w' => NumPost (numOf Lib.itoa t.data.toList) w e w' := by
  have hM : t.data.toList.drop 0 = mags t.data.toList := by simp [mags, hh]
  have hsl : t.data.toList.length = t.size := by simp
  have hsg := at_list t
  have hml : (mags t.data.toList).length = t.size - 0 := by rw [← hM, List.length_drop, hsl]
  have hsp : spell t.data.toList = (dval 0 (mags t.data.toList) : Int) := by rw [spell_mags h]; simp [hh]
  have hpos : 0 < t.size := by obtain ⟨c, r, he, _⟩ := h; rw [← hsl, he]; simp
  have hlong := num_long (t := t.data.toList)
  have hfits := num_fits h
  have hdig := mags_digits h
  have hsome := fun v => numOf_spell h (v := v)
  have hfar := numOf_far (t := t.data.toList)
  have hb1 : ((t[0].toNat : Int) == 45) = false := by
    have e47 := u8_eq t[0] 45 (by decide)
    simp only [Int.cast_ofNat_Int] at e47
    rw [e47]
    have h0 := hsg 0 hpos
    rw [← List.head?_eq_getElem?] at h0
    rw [h0] at hh
    simpa using hh
  have htx : txt t.data.toList = t := txt_of t
  generalize t.data.toList = L at *
  rw [hml] at hlong hfits
  have HL := Lib.hid hlong
  have HF := Lib.hid hfits
  have HD := Lib.hid hdig
  have HSO := Lib.hid hsome
  have HFA := Lib.hid hfar
  have HSP := Lib.hid hsp
  have HM := Lib.hid hM
  have HSG := Lib.hid hsg
  have HSL := Lib.hid hsl
  have HTX := Lib.hid htx
  have HML := Lib.hid hml
  have HHH := Lib.hid hh
  clear hlong hfits hdig hsome hfar hsp hM hsg hsl htx hml h hh
  generalize hO : numOf Lib.itoa L = O at *
  clear hO
  have d0 : decide (0 < (t.size : Int)) = true := by simp; omega
  by_cases hA : t.size - 0 = 0 ∨ 19 < t.size - 0
  · have HN0 := Lib.hid (HL.out hA)
    clear HL HF HD HSO HFA HSP HM HML HHH
    go_enter Tryd.func54, Tryd.ntmps54
    go_wp2_with fail
    all_goals first
      | (go_ret2; exact NumPost.no HN0.out (by first | exact Below.refl _ _ | trivial))
      | (exfalso; simp_all; omega)
      | (exfalso; rename_i hx; simp at hx; omega)
      | (exfalso; rename_i hx hy; simp at hx hy; omega)
  · have hV := HF.out (by omega)
    have hVd : dval 0 (L.drop 0) = dval 0 (mags L) := by rw [HM.out]
    obtain ⟨V, hVV⟩ : ∃ V, V = dval 0 (mags L) := ⟨_, rfl⟩
    have hsp2 := HSP.out
    rw [← hVV] at hV hVd hsp2
    have HVD := Lib.hid hVd
    have HSPV := Lib.hid hsp2
    clear hVd hVV hsp2 HF HL HSP
    have d1 : ((t.size : Int) == 0) = false := by rw [beq_eq_false_iff_ne]; omega
    have hs20 : t.size - 0 ≤ 19 := by omega
    have hs1 : 0 < t.size := by omega
    have d2 : decide (19 < (t.size : Int)) = false := by rw [decide_eq_false_iff_not]; omega
    clear hA
    go_enter Tryd.func54, Tryd.ntmps54
    go_wp2_with fail
    go_loopw [4, 6] (fun v i wr => ∃ n k : Nat, v = .int .u64 n ∧ i = .int .i64 k ∧ 0 ≤ k ∧ k ≤ t.size ∧ V = dval n (L.drop k) ∧ wr = w) (fun _ i _ => t.size - (intOf i).toNat)
    case atStart => exact ⟨0, 0, rfl, rfl, by omega, by omega, HVD.out.symm, rfl⟩
    case round =>
      obtain ⟨n, k, rfl, rfl, hfk, hk, hv, rfl⟩ := hrel
      have HV := Lib.hid hv
      have hge := dval_ge (L.drop k) n
      rw [← hv] at hge
      clear hv
      by_cases h1 : k < t.size
      · have HX := Lib.hid (HSG.out k h1)
        have hdg : isDigit t[k] = true := HD.out _ (by rw [← HM.out]; exact List.mem_of_getElem? (i := k - 0) (by rw [List.getElem?_drop, show 0 + (k - 0) = k by omega]; exact HX.out))
        simp only [isDigit, Bool.and_eq_true, decide_eq_true_eq] at hdg
        have HN := Lib.hid (show V = dval (10 * n + (t[k].toNat - 48)) (L.drop (k + 1)) by rw [HV.out, ws_at HX.out, dval_cons])
        have hge2 := dval_ge (L.drop (k + 1)) (10 * n + (t[k].toNat - 48))
        rw [← HN.out] at hge2
        have e1 : IntKind.u64.wrap (10 * (n : Int)) = 10 * n := by simp [IntKind.wrap, IntKind.signed, IntKind.bits]; omega
        have e2 : IntKind.u8.wrap ((t[k].toNat : Int) - 48) = (t[k].toNat : Int) - 48 := by simp [IntKind.wrap, IntKind.signed, IntKind.bits]; omega
        have e3 : IntKind.u64.wrap ((t[k].toNat : Int) - 48) = (t[k].toNat : Int) - 48 := by simp [IntKind.wrap, IntKind.signed, IntKind.bits]; omega
        have e4 : IntKind.u64.wrap (10 * (n : Int) + ((t[k].toNat : Int) - 48)) = ((10 * n + (t[k].toNat - 48) : Nat) : Int) := by simp [IntKind.wrap, IntKind.signed, IntKind.bits]; omega
        go_wp2
        exact ⟨⟨10 * n + (t[k].toNat - 48), k + 1, rfl, by go_num, by omega, by omega, HN.out, by first | rfl | trivial⟩, by simp [intOf]; omega⟩
      · have hn : n = V := by
          have := HV.out
          rw [List.drop_of_length_le (by rw [HSL.out]; omega), dval_nil] at this
          exact this.symm
        subst hn
        clear HV hge
        by_cases hbig : 9223372036854775808 ≤ n
        · have hN := HFA.out (by rw [HSPV.out]; omega)
          have HN0 := Lib.hid hN
          clear hN
          have hor : 9223372036854775808 < n ∨ n = 9223372036854775808 := by omega
          rcases hor with hor | rfl
          · go_wp2
            go_ret2
            exact NumPost.no HN0.out (by first | exact Below.refl _ _ | trivial)
          · go_wp2
            go_ret2
            exact NumPost.no HN0.out (by first | exact Below.refl _ _ | trivial)
        · obtain ⟨his, hev⟩ := HSO.out n HSPV.out (by omega) (by omega)
          have HIS := Lib.hid his
          have HEV := Lib.hid hev
          clear his hev
          have b1 : ((n : Int) == 9223372036854775808) = false := by rw [beq_eq_false_iff_ne]; omega
          have b2 : decide (9223372036854775808 < (n : Int)) = false := by rw [decide_eq_false_iff_not]; omega
          have e1 : IntKind.i64.wrap (n : Int) = n := by simp [IntKind.wrap, IntKind.signed, IntKind.bits]; split <;> omega
          go_wp2_with fail
          refine (rdig_any n (by omega) (by omega) _).mono ?_
          rintro e w2 ⟨rfl, hb⟩
          obtain ⟨X, hX⟩ : ∃ X, X = txt (Lib.itoa n) := ⟨_, rfl⟩
          rw [← hX]
          have HX := Lib.hid hX
          clear hX
          go_wp2
          go_ret2
          exact NumPost.yes (same_text HIS.out HX.out HTX.out) HEV.out hb
set_option maxRecDepth 1000000 in
theorem rnum_1 (t : ByteArray) (ht : t.size ≤ 1000000) (h : numText t.data.toList) (hh : t.data.toList.head? = some 45) (w : World) :
    Calls Tryd.prog 54 #[.string t] w fun e w' => NumPost (numOf Lib.itoa t.data.toList) w e w' := by
  have hM : t.data.toList.drop 1 = mags t.data.toList := by simp [mags, hh]
  have hsl : t.data.toList.length = t.size := by simp
  have hsg := at_list t
  have hml : (mags t.data.toList).length = t.size - 1 := by rw [← hM, List.length_drop, hsl]
  have hsp : spell t.data.toList = -(dval 0 (mags t.data.toList) : Int) := by rw [spell_mags h]; simp [hh]
  have hpos : 0 < t.size := by obtain ⟨c, r, he, _⟩ := h; rw [← hsl, he]; simp
  have hlong := num_long (t := t.data.toList)
  have hfits := num_fits h
  have hdig := mags_digits h
  have hsome := fun v => numOf_spell h (v := v)
  have hfar := numOf_far (t := t.data.toList)
  have hb1 : ((t[0].toNat : Int) == 45) = true := by
    have e47 := u8_eq t[0] 45 (by decide)
    simp only [Int.cast_ofNat_Int] at e47
    rw [e47]
    have h0 := hsg 0 hpos
    rw [← List.head?_eq_getElem?] at h0
    rw [h0] at hh
    simpa using hh
  have htx : txt t.data.toList = t := txt_of t
  generalize t.data.toList = L at *
  rw [hml] at hlong hfits
  have HL := Lib.hid hlong
  have HF := Lib.hid hfits
  have HD := Lib.hid hdig
  have HSO := Lib.hid hsome
  have HFA := Lib.hid hfar
  have HSP := Lib.hid hsp
  have HM := Lib.hid hM
  have HSG := Lib.hid hsg
  have HSL := Lib.hid hsl
  have HTX := Lib.hid htx
  have HML := Lib.hid hml
  have HHH := Lib.hid hh
  clear hlong hfits hdig hsome hfar hsp hM hsg hsl htx hml h hh
  generalize hO : numOf Lib.itoa L = O at *
  clear hO
  have d0 : decide (0 < (t.size : Int)) = true := by simp; omega
  by_cases hA : t.size - 1 = 0 ∨ 19 < t.size - 1
  · have HN0 := Lib.hid (HL.out hA)
    clear HL HF HD HSO HFA HSP HM HML HHH
    go_enter Tryd.func54, Tryd.ntmps54
    go_wp2_with fail
    all_goals first
      | (go_ret2; exact NumPost.no HN0.out (by first | exact Below.refl _ _ | trivial))
      | (exfalso; simp_all; omega)
      | (exfalso; rename_i hx; simp at hx; omega)
      | (exfalso; rename_i hx hy; simp at hx hy; omega)
  · have hV := HF.out (by omega)
    have hVd : dval 0 (L.drop 1) = dval 0 (mags L) := by rw [HM.out]
    obtain ⟨V, hVV⟩ : ∃ V, V = dval 0 (mags L) := ⟨_, rfl⟩
    have hsp2 := HSP.out
    rw [← hVV] at hV hVd hsp2
    have HVD := Lib.hid hVd
    have HSPV := Lib.hid hsp2
    clear hVd hVV hsp2 HF HL HSP
    have d1 : ((t.size : Int) == 1) = false := by rw [beq_eq_false_iff_ne]; omega
    have hs20 : t.size - 1 ≤ 19 := by omega
    have hs1 : 1 < t.size := by omega
    have d2 : decide (19 < (t.size : Int) - 1) = false := by rw [decide_eq_false_iff_not]; omega
    clear hA
    go_enter Tryd.func54, Tryd.ntmps54
    go_wp2_with fail
    go_loopw [4, 6] (fun v i wr => ∃ n k : Nat, v = .int .u64 n ∧ i = .int .i64 k ∧ 1 ≤ k ∧ k ≤ t.size ∧ V = dval n (L.drop k) ∧ wr = w) (fun _ i _ => t.size - (intOf i).toNat)
    case atStart => exact ⟨0, 1, rfl, rfl, by omega, by omega, HVD.out.symm, rfl⟩
    case round =>
      obtain ⟨n, k, rfl, rfl, hfk, hk, hv, rfl⟩ := hrel
      have HV := Lib.hid hv
      have hge := dval_ge (L.drop k) n
      rw [← hv] at hge
      clear hv
      by_cases h1 : k < t.size
      · have HX := Lib.hid (HSG.out k h1)
        have hdg : isDigit t[k] = true := HD.out _ (by rw [← HM.out]; exact List.mem_of_getElem? (i := k - 1) (by rw [List.getElem?_drop, show 1 + (k - 1) = k by omega]; exact HX.out))
        simp only [isDigit, Bool.and_eq_true, decide_eq_true_eq] at hdg
        have HN := Lib.hid (show V = dval (10 * n + (t[k].toNat - 48)) (L.drop (k + 1)) by rw [HV.out, ws_at HX.out, dval_cons])
        have hge2 := dval_ge (L.drop (k + 1)) (10 * n + (t[k].toNat - 48))
        rw [← HN.out] at hge2
        have e1 : IntKind.u64.wrap (10 * (n : Int)) = 10 * n := by simp [IntKind.wrap, IntKind.signed, IntKind.bits]; omega
        have e2 : IntKind.u8.wrap ((t[k].toNat : Int) - 48) = (t[k].toNat : Int) - 48 := by simp [IntKind.wrap, IntKind.signed, IntKind.bits]; omega
        have e3 : IntKind.u64.wrap ((t[k].toNat : Int) - 48) = (t[k].toNat : Int) - 48 := by simp [IntKind.wrap, IntKind.signed, IntKind.bits]; omega
        have e4 : IntKind.u64.wrap (10 * (n : Int) + ((t[k].toNat : Int) - 48)) = ((10 * n + (t[k].toNat - 48) : Nat) : Int) := by simp [IntKind.wrap, IntKind.signed, IntKind.bits]; omega
        go_wp2
        exact ⟨⟨10 * n + (t[k].toNat - 48), k + 1, rfl, by go_num, by omega, by omega, HN.out, by first | rfl | trivial⟩, by simp [intOf]; omega⟩
      · have hn : n = V := by
          have := HV.out
          rw [List.drop_of_length_le (by rw [HSL.out]; omega), dval_nil] at this
          exact this.symm
        subst hn
        clear HV hge
        by_cases hbig : 9223372036854775808 < n
        · have hN := HFA.out (by rw [HSPV.out]; omega)
          have HN0 := Lib.hid hN
          clear hN
          go_wp2
          go_ret2
          exact NumPost.no HN0.out (by first | exact Below.refl _ _ | trivial)
        · obtain ⟨his, hev⟩ := HSO.out (-(n : Int)) HSPV.out (by omega) (by omega)
          have HIS := Lib.hid his
          have HEV := Lib.hid hev
          clear his hev
          have b2 : decide (9223372036854775808 < (n : Int)) = false := by rw [decide_eq_false_iff_not]; omega
          have hor : n = 9223372036854775808 ∨ n < 9223372036854775808 := by omega
          rcases hor with rfl | hlt
          · have e1 : wrap64 (-wrap64 9223372036854775808) = -9223372036854775808 := by decide +kernel
            have HIS : Hid (O.isSome = decide (Lib.itoa (-9223372036854775808) = L)) := HIS
            have HEV : Hid (∀ x, O = some x → -9223372036854775808 = x) := HEV
            go_wp2_with fail
            refine (rdig_any (-9223372036854775808) (by omega) (by omega) _).mono ?_
            rintro e w2 ⟨rfl, hb⟩
            obtain ⟨X, hX⟩ : ∃ X, X = txt (Lib.itoa (-9223372036854775808)) := ⟨_, rfl⟩
            rw [← hX]
            have HX := Lib.hid hX
            clear hX
            go_wp2
            go_ret2
            exact NumPost.yes (same_text HIS.out HX.out HTX.out) HEV.out hb
          · have b1 : ((n : Int) == 9223372036854775808) = false := by rw [beq_eq_false_iff_ne]; omega
            go_wp2_with fail
            refine (rdig_any (-(n : Int)) (by omega) (by omega) _).mono ?_
            rintro e w2 ⟨rfl, hb⟩
            obtain ⟨X, hX⟩ : ∃ X, X = txt (Lib.itoa (-(n : Int))) := ⟨_, rfl⟩
            rw [← hX]
            have HX := Lib.hid hX
            clear hX
            go_wp2
            go_ret2
            exact NumPost.yes (same_text HIS.out HX.out HTX.out) HEV.out hb
theorem rnum_any (t : ByteArray) (ht : t.size ≤ 1000000) (h : numText t.data.toList) (w : World) :
    Calls Tryd.prog 54 #[.string t] w fun e w' => NumPost (numOf Lib.itoa t.data.toList) w e w' := by
  by_cases hh : t.data.toList.head? = some 45
  · exact rnum_1 t ht h hh w
  · exact rnum_0 t ht h hh w
end Go.Proofs.YtceomdbahiimlaaDoor
