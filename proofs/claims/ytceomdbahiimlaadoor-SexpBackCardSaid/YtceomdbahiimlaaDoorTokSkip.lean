/-
  Blanks: the contracts of the functions that go past them.
-/
import Derived.Test.YtceomdbahiimlaaDoorTokVars
namespace Go.Proofs.YtceomdbahiimlaaDoor
set_option maxRecDepth 100000

open Go.RowKit

theorem index_span (c : UInt8) : ∀ l : List UInt8, Lib.indexByte l c = if c ∈ l then (span (fun d => d != c) l : Int) else -1
  | [] => by simp [Lib.indexByte]
  | d :: r => by
    have ih := index_span c r
    by_cases h : d = c
    · subst h; simp [Lib.indexByte, span]
    · have h1 : (d == c) = false := by simpa using h
      have h2 : (d != c) = true := by simpa using h
      have h3 : c ≠ d := fun e => h e.symm
      simp only [Lib.indexByte, h1, span, h2, if_true, List.mem_cons, h3, false_or, Bool.false_eq_true, if_false]
      rw [ih]
      by_cases hm : c ∈ r
      · simp only [hm, if_true]
        have : ((span (fun d => d != c) r : Int) == -1) = false := by rw [beq_eq_false_iff_ne]; omega
        simp [this]
      · simp [hm]
theorem at_list (s : ByteArray) (k : Nat) (h : k < s.size) : s.data.toList[k]? = some (s[k]'h) := by
  rw [List.getElem?_eq_getElem (by simpa using h)]
  simp [ByteArray.getElem_eq_getElem_data]
theorem from_list (s : ByteArray) (p : Nat) : (s.extract p s.size).data.toList = s.data.toList.drop p := by
  rw [Lib.extract_data]
  exact List.take_of_length_le (by simp)
theorem from_size (s : ByteArray) (p : Nat) : (s.extract p s.size).size = s.size - p := by simp

theorem span_next {f : UInt8 → Bool} {l : List UInt8} {k : Nat} {c : UInt8} (hc : l[k]? = some c) (hf : f c = true) : span f (l.drop k) = span f (l.drop (k + 1)) + 1 := by
  obtain ⟨h, e⟩ := List.getElem?_eq_some_iff.1 hc
  rw [List.drop_eq_getElem_cons h, e]
  simp [span, hf]
theorem span_stop {f : UInt8 → Bool} {l : List UInt8} {k : Nat} {c : UInt8} (hc : l[k]? = some c) (hf : f c = false) : span f (l.drop k) = 0 := by
  obtain ⟨h, e⟩ := List.getElem?_eq_some_iff.1 hc
  rw [List.drop_eq_getElem_cons h, e]
  simp [span, hf]
theorem span_end {f : UInt8 → Bool} {l : List UInt8} {k : Nat} (h : l.length ≤ k) : span f (l.drop k) = 0 := by
  rw [List.drop_of_length_le h]; rfl

set_option maxRecDepth 1000000 in
theorem behind_any (s : ByteArray) (hs : s.size ≤ 1000000) (p : Nat) (hp : p ≤ s.size) (set : ByteArray) (f : UInt8 → Bool) (hf : ∀ c, decide (0 ≤ Lib.indexByte set.data.toList c) = f c) (w : World) :
    Calls Tryd.prog 49 #[.string s, .int .i64 p, .string set] w fun e w' => e = .returned (.int .i64 ((p + span f (s.data.toList.drop p) : Nat) : Int)) ∧ w = w' := by
  have hsl : s.data.toList.length = s.size := by simp
  have hsg := at_list s
  generalize hL : s.data.toList = L at *
  have HSL := Lib.hid hsl
  have HSG := Lib.hid hsg
  have HF := Lib.hid hf
  clear hsl hsg hf hL
  obtain ⟨R, hR⟩ : ∃ R, R = p + span f (L.drop p) := ⟨_, rfl⟩
  rw [← hR]
  have HR := Lib.hid hR
  clear hR
  go_enter Tryd.func49, Tryd.ntmps49
  go_wp2_with fail
  go_loopw [1] (fun i wr => ∃ k : Nat, i = .int .i64 k ∧ k ≤ s.size ∧ R = k + span f (L.drop k) ∧ w = wr) (fun i _ => s.size - (intOf i).toNat)
  case atStart => exact ⟨p, rfl, hp, HR.out, rfl⟩
  case round =>
    obtain ⟨k, rfl, hk, hr, rfl⟩ := hrel
    have HB := Lib.hid hr
    clear hr
    by_cases h1 : k < s.size
    · have HX := Lib.hid (HSG.out k h1)
      have hi := HF.out s[k]
      by_cases hc : f s[k] = true
      · have HN := Lib.hid (span_next HX.out hc)
        rw [hc] at hi
        clear hc
        go_wp2_with fail
        refine (index_any _ _ _).mono ?_
        rintro e w1 ⟨rfl, rfl⟩
        go_wp2
        exact ⟨⟨k + 1, by go_num, by omega, by rw [HB.out, HN.out]; omega, by first | rfl | trivial⟩, by simp [intOf]; omega⟩
      · have hc : f s[k] = false := by simpa using hc
        have HN := Lib.hid (span_stop HX.out hc)
        rw [hc] at hi
        clear hc
        go_wp2_with fail
        refine (index_any _ _ _).mono ?_
        rintro e w1 ⟨rfl, rfl⟩
        go_wp2
        go_ret
        exact ⟨ret_int (by rw [HB.out, HN.out]; simp), by first | rfl | trivial⟩
    · have HN := Lib.hid (span_end (f := f) (l := L) (k := k) (by rw [HSL.out]; omega))
      go_wp2
      go_ret
      exact ⟨ret_int (by rw [HB.out, HN.out]; simp), by first | rfl | trivial⟩

def blankS : ByteArray := ⟨#[32, 9, 10, 13]⟩
theorem blank_set (c : UInt8) : decide (0 ≤ Lib.indexByte blankS.data.toList c) = isBlank c := by
  have h : ∀ k : Fin 256, decide (0 ≤ Lib.indexByte blankS.data.toList (UInt8.ofNat k.val)) = isBlank (UInt8.ofNat k.val) := by decide +kernel
  have := h ⟨c.toNat, c.toNat_lt⟩
  simpa using this
theorem prefix2 (s : ByteArray) : Lib.hasPrefix s.data.toList [47, 47] = decide (s.data.toList.take 2 = [47, 47]) := by
  generalize s.data.toList = l
  match l with
  | [] => rfl
  | [a] => simp [Lib.hasPrefix, List.isPrefixOf]
  | a :: b :: r =>
    rw [Bool.eq_iff_iff]
    simp only [Lib.hasPrefix, List.isPrefixOf, Bool.and_eq_true, beq_iff_eq, decide_eq_true_eq, List.take_succ_cons, List.take_zero, List.cons.injEq, and_true, Bool.and_true]
    constructor
    · rintro ⟨h1, h2⟩; exact ⟨h1.symm, h2.symm⟩
    · rintro ⟨h1, h2⟩; exact ⟨h1.symm, h2.symm⟩
theorem behind_blanks (s : ByteArray) (hs : s.size ≤ 1000000) (p : Nat) (hp : p ≤ s.size) (w : World) :
    Calls Tryd.prog 49 #[.string s, .int .i64 p, .string ⟨#[32, 9, 10, 13]⟩] w fun e w' => e = .returned (.int .i64 ((p + span isBlank (s.data.toList.drop p) : Nat) : Int)) ∧ w = w' :=
  behind_any s hs p hp blankS isBlank blank_set w
/-- One step past blanks, and what is left. -/
theorem skip_more {l : List UInt8} {k : Nat} (hk : k ≤ l.length) (h2 : (l.drop k).take 2 = [47, 47]) :
    (10 ∉ l.drop k → k + ws false (l.drop k) = l.length) ∧
    (10 ∈ l.drop k → ∃ i, Lib.indexByte (l.drop k) 10 = ((i : Nat) : Int) ∧ 0 < i ∧ k + i ≤ l.length ∧ k + ws false (l.drop k) = k + i + span isBlank (l.drop (k + i)) + ws false (l.drop (k + i + span isBlank (l.drop (k + i))))) := by
  have hc := ws_comment h2
  have ht := ws_true (l.drop k)
  rw [hc, ht]
  constructor
  · intro h; rw [if_neg h, List.length_drop]; omega
  · intro h
    have hi := index_span 10 (l.drop k)
    rw [if_pos h] at hi
    have hle := span_le (fun d => d != 10) (l.drop k)
    rw [List.length_drop] at hle
    refine ⟨_, hi, ?_, by omega, ?_⟩
    · match hd : l.drop k with
      | [] => rw [hd] at h2; simp at h2
      | a :: b => rw [hd] at h2; simp at h2; obtain ⟨rfl, _⟩ := h2; simp [span]
    · rw [if_pos h, List.drop_drop]
      have := ws_step (l.drop (k + span (fun d => d != 10) (l.drop k)))
      rw [this, List.drop_drop]
      omega

set_option maxRecDepth 1000000 in
theorem skip_any (s : ByteArray) (hs : s.size ≤ 1000000) (p : Nat) (hp : p ≤ s.size) (w : World) :
    Calls Tryd.prog 32 #[.string s, .int .i64 p] w fun e w' => e = .returned (.int .i64 ((p + ws false (s.data.toList.drop p) : Nat) : Int)) ∧ w = w' := by
  have hsl : s.data.toList.length = s.size := by simp
  have hbl := fun k hk w => behind_blanks s hs k hk w
  have hfr := from_list s
  have hsp : ∀ k, span isBlank (s.data.toList.drop k) ≤ s.size - k := fun k => by
    have := span_le isBlank (s.data.toList.drop k)
    rwa [List.length_drop, hsl] at this
  have hst : p + ws false (s.data.toList.drop p) = p + span isBlank (s.data.toList.drop p) + ws false (s.data.toList.drop (p + span isBlank (s.data.toList.drop p))) := by
    have := ws_step (s.data.toList.drop p)
    rw [List.drop_drop] at this
    omega
  have h0 := span_drop isBlank (s.data.toList.drop p)
  rw [List.drop_drop] at h0
  generalize s.data.toList = L at *
  have HSL := Lib.hid hsl
  have HFR := Lib.hid hfr
  have HSP := Lib.hid hsp
  obtain ⟨R, hR⟩ : ∃ R, R = p + ws false (L.drop p) := ⟨_, rfl⟩
  rw [← hR] at hst ⊢
  have HST := Lib.hid hst
  have H0 := Lib.hid h0
  clear hR hsl hfr hsp hst h0
  go_enter Tryd.func32, Tryd.ntmps32
  go_wp2_with fail
  refine (hbl p hp _).mono ?_
  rintro e w1 ⟨rfl, rfl⟩
  have hq := HSP.out p
  generalize hQ : p + span isBlank (L.drop p) = q at *
  have hq' : q ≤ s.size := by omega
  clear hQ hq
  go_wp2_with fail
  go_loopw [1] (fun i wr => ∃ k : Nat, i = .int .i64 k ∧ k ≤ s.size ∧ R = k + ws false (L.drop k) ∧ span isBlank (L.drop k) = 0 ∧ w = wr) (fun i _ => s.size - (intOf i).toNat)
  case atStart => exact ⟨q, rfl, hq', HST.out, H0.out, rfl⟩
  case round =>
    obtain ⟨k, rfl, hk, hr, h0, rfl⟩ := hrel
    have HR := Lib.hid hr
    have HZ := Lib.hid h0
    clear hr h0
    have hpre := prefix2 (s.extract k s.size)
    rw [HFR.out] at hpre
    have HE := HFR.out k
    by_cases h2 : (L.drop k).take 2 = [47, 47]
    · have hpre' : Lib.hasPrefix (s.extract k s.size).data.toList [47, 47] = true := by rw [HE, hpre]; simp [h2]
      obtain ⟨hno, hyes⟩ := skip_more (by rw [HSL.out]; exact hk) h2
      have HPRE := Lib.hid hpre'
      by_cases hm : 10 ∈ L.drop k
      · obtain ⟨i, hi, hi0, hile, hw⟩ := hyes hm
        have HI : Hid (Lib.indexByte (s.extract k s.size).data.toList 10 = (i : Int)) := Lib.hid (by rw [HE]; exact hi)
        have HW := Lib.hid hw
        have hile' : k + i ≤ s.size := by rw [← HSL.out]; exact hile
        have HSD := Lib.hid (span_drop isBlank (L.drop (k + i)))
        clear hpre hpre' hno hyes h2 hm hi hw hile HE
        go_wp2_with fail
        refine (prefix_any _ _ _).mono ?_
        rintro e w1 ⟨rfl, rfl⟩
        rw [show (⟨#[47, 47]⟩ : ByteArray).data.toList = [47, 47] from rfl, HPRE.out]
        go_wp2_with fail
        refine (index_any _ 10 _).mono ?_
        rintro e w1 ⟨rfl, rfl⟩
        rw [HI.out]
        have b1 : decide ((i : Int) < 0) = false := by simp
        have e1 : IntKind.i64.wrap ((k : Int) + i) = ((k + i : Nat) : Int) := by simp [IntKind.wrap, IntKind.signed, IntKind.bits]; split <;> omega
        go_wp2_with fail
        refine (hbl (k + i) hile' _).mono ?_
        rintro e w1 ⟨rfl, rfl⟩
        have h3 := HSP.out (k + i)
        go_wp2
        refine ⟨⟨k + i + span isBlank (L.drop (k + i)), rfl, by omega, by rw [HR.out, HW.out], ?_, by first | rfl | trivial⟩, by simp [intOf]; omega⟩
        have := HSD.out
        rwa [List.drop_drop] at this
      · have hi := index_span 10 (L.drop k)
        rw [if_neg hm] at hi
        have HI : Hid (Lib.indexByte (s.extract k s.size).data.toList 10 = -1) := Lib.hid (by rw [HE]; exact hi)
        have HW := Lib.hid (hno hm)
        clear hpre hpre' hno hyes h2 hm hi HE
        go_wp2_with fail
        refine (prefix_any _ _ _).mono ?_
        rintro e w1 ⟨rfl, rfl⟩
        rw [show (⟨#[47, 47]⟩ : ByteArray).data.toList = [47, 47] from rfl, HPRE.out]
        go_wp2_with fail
        refine (index_any _ 10 _).mono ?_
        rintro e w1 ⟨rfl, rfl⟩
        rw [HI.out]
        go_wp2
        go_ret
        exact ⟨ret_int (by rw [HR.out, HW.out, HSL.out]), by first | rfl | trivial⟩
    · have hpre' : Lib.hasPrefix (s.extract k s.size).data.toList [47, 47] = false := by rw [HE, hpre]; simp [h2]
      have HPRE := Lib.hid hpre'
      have HW := Lib.hid (ws_none HZ.out h2)
      clear hpre hpre' h2 HE
      go_wp2_with fail
      refine (prefix_any _ _ _).mono ?_
      rintro e w1 ⟨rfl, rfl⟩
      rw [show (⟨#[47, 47]⟩ : ByteArray).data.toList = [47, 47] from rfl, HPRE.out]
      go_wp2
      go_ret
      exact ⟨ret_int (by rw [HR.out, HW.out]; simp), by first | rfl | trivial⟩
end Go.Proofs.YtceomdbahiimlaaDoor
