/-
  The token that begins at a place, by the document's own function: its contract.
-/
import Derived.Test.YtceomdbahiimlaaDoorTokRead
import Derived.Test.YtceomdbahiimlaaDoorTokRtext
namespace Go.Proofs.YtceomdbahiimlaaDoor
set_option maxRecDepth 100000

open Go.RowKit

def OnePost (o : Option Tk) (p : Nat) (w : World) (e : Ending) (w' : World) : Prop :=
  (match o with
    | none => ∃ (k n q : Int) (s : ByteArray), e = .returned (.tuple #[.agg #[.int .i64 k, .string s, .int .i64 n, .int .i64 q], .int .i64 (-1)])
    | some t => e = .returned (.tuple #[TokV t.kind (txt t.text) t.num p, .int .i64 ((p + t.more + 1 : Nat) : Int)])) ∧ Below w.heap.size w w'
theorem OnePost.no {o : Option Tk} {p : Nat} {w w' : World} {k n q : Int} {s : ByteArray} (h : o = none) (hb : Below w.heap.size w w') : OnePost o p w (.returned (.tuple #[.agg #[.int .i64 k, .string s, .int .i64 n, .int .i64 q], .int .i64 (-1)])) w' := by
  subst h; exact ⟨⟨k, n, q, s, rfl⟩, hb⟩
theorem OnePost.yes {o : Option Tk} {t : Tk} {p : Nat} {w w' : World} {x y : Value} (h : o = some t) (hx : x = TokV t.kind (txt t.text) t.num p) (hy : y = .int .i64 ((p + t.more + 1 : Nat) : Int)) (hb : Below w.heap.size w w') : OnePost o p w (.returned (.tuple #[x, y])) w' := by
  subst h hx hy; exact ⟨rfl, hb⟩
theorem tk_first {l : List UInt8} {c : UInt8} {r T : List UInt8} (hd : l = c :: r) (hc : isFirst c = true) (hT : T = c :: r.take (span isNext r)) : tk Lib.itoa l = some ⟨0, T, 0, span isNext r⟩ := by
  subst hd hT; simp [tk, hc]
theorem tk_str {l : List UInt8} {c : UInt8} {r : List UInt8} (hd : l = c :: r) (hc : c = 34) : tk Lib.itoa l = strT r := by
  subst hd hc
  simp only [tk, show isFirst 34 = false from rfl, show (isDigit 34 || (34 : UInt8) == 45) = false from rfl, Bool.false_eq_true, if_false, beq_self_eq_true, if_true]
  rfl
theorem tk_sign {l : List UInt8} {c : UInt8} {r : List UInt8} (hd : l = c :: r) (h1 : isFirst c = false) (h2 : (isDigit c || c == 45) = false) (h3 : (c == 34) = false) : tk Lib.itoa l = if isSign c then some ⟨3, [c], 0, 0⟩ else none := by
  subst hd
  simp only [tk, h1, h2, h3, Bool.false_eq_true, if_false]

set_option maxRecDepth 1000000 in
set_option maxHeartbeats 2000000 in
theorem rone_any (s : ByteArray) (hs : s.size ≤ 1000000) (p : Nat) (hp : p < s.size) (w : World) :
    Calls Tryd.prog 37 #[.string s, .int .i64 p] w fun e w' => OnePost (tk Lib.itoa (s.data.toList.drop p)) p w e w' := by
  have hsl : s.data.toList.length = s.size := by simp
  have hsg := at_list s
  have hpart := fun q => show s.extract p q = txt ((s.data.toList.drop p).take (q - p)) by rw [← part_list, txt_of]
  have htx := fun w => rtext_any s hs p hp w
  have hd := drop_cons (hsg p hp)
  generalize s.data.toList = L at *
  have HSL := Lib.hid hsl
  have HSG := Lib.hid hsg
  have HPA := Lib.hid hpart
  have HTX := Lib.hid htx
  obtain ⟨c, hc⟩ : ∃ c, c = s[p] := ⟨_, rfl⟩
  rw [← hc] at hd
  have HD := Lib.hid hd
  have HC := hc.symm
  clear hsl hsg hpart htx hd hc
  by_cases h1 : isFirst c = true
  · have ht := tk_first HD.out h1 rfl
    have hle := span_le isNext (L.drop (p + 1))
    rw [List.length_drop, HSL.out] at hle
    have hE : ∀ E, E = p + 1 + span isNext (L.drop (p + 1)) → (L.drop p).take (E - p) = c :: (L.drop (p + 1)).take (span isNext (L.drop (p + 1))) := by
      rintro E rfl
      rw [HD.out, show p + 1 + span isNext (L.drop (p + 1)) - p = span isNext (L.drop (p + 1)) + 1 by omega, List.take_succ_cons]
    generalize tk Lib.itoa (L.drop p) = O at *
    generalize c :: (L.drop (p + 1)).take (span isNext (L.drop (p + 1))) = T at *
    obtain ⟨E, hEE⟩ : ∃ E, E = p + 1 + span isNext (L.drop (p + 1)) := ⟨_, rfl⟩
    have hEs : E ≤ s.size := by omega
    have hEp : p + 1 ≤ E := by omega
    have hT := hE E hEE
    have hX : s.extract p E = txt T := by rw [HPA.out, hT]
    have ht2 : O = some ⟨0, T, 0, E - p - 1⟩ := by rw [ht]; simp; omega
    obtain ⟨X, hXX⟩ : ∃ X, X = txt T := ⟨_, rfl⟩
    rw [← hXX] at hX
    have HX := Lib.hid hXX
    have HO := Lib.hid ht2
    have HE := Lib.hid hEE
    clear ht hle hE hT hXX ht2 hEE
    go_enter Tryd.func37, Tryd.ntmps37
    go_wp2_with fail
    refine (letter_any c _).mono ?_
    rw [h1]
    rintro e w1 ⟨rfl, rfl⟩
    go_wp2
    go_loopw [7] (fun i wr => ∃ k : Nat, i = .int .i64 k ∧ p < k ∧ k ≤ s.size ∧ E = k + span isNext (L.drop k) ∧ wr = w.alloc (.cells #[.int .i64 0, .string ⟨#[]⟩, .int .i64 0, .int .i64 0] 45)) (fun i _ => s.size - (intOf i).toNat)
    case atStart => exact ⟨p + 1, by simp, by omega, by omega, HE.out, rfl⟩
    case round =>
      obtain ⟨k, rfl, hpk, hk, hr, rfl⟩ := hrel
      have HR := Lib.hid hr
      clear hr
      by_cases g1 : k < s.size
      · have HZ := Lib.hid (HSG.out k g1)
        cases b1 : isFirst s[k]
        · cases b2 : isDigit s[k]
          · have HN := Lib.hid (span_stop HZ.out (f := isNext) (by simp [isNext, b1, b2]))
            have HB1 := Lib.hid b1
            have HB2 := Lib.hid b2
            clear b1 b2
            obtain rfl : E = k := by have := HR.out; rw [HN.out] at this; omega
            go_wp2_with fail
            refine (letter_any _ _).mono ?_
            rw [HB1.out]
            rintro e w2 ⟨rfl, rfl⟩
            go_wp2_with fail
            refine (digit_any _ _).mono ?_
            rw [HB2.out]
            rintro e w2 ⟨rfl, rfl⟩
            have hpE : p ≤ E := by omega
            have hg := heap_alloc_new w (.cells #[.int .i64 0, .string ⟨#[]⟩, .int .i64 0, .int .i64 0] 45)
            go_wp2_with (refine wpList_store_tok rfl _ _ rfl rfl w.heap.size _ _ _ _ _ _ _ _ rfl rfl _ hg ?_)
            refine bodyPost_ret (results_tok1 rfl _ _ w.heap.size _ _ _ _ _ (0, 0) rfl (setRow_heap _ _ _ _ _ _ hg)) rfl ?_
            exact OnePost.yes HO.out (by rw [HX.out]; rfl) (congrArg (Value.int .i64) (by simp; omega)) (below_setRow (below_new _ _) (Nat.le_refl _) _)
          · have HN := Lib.hid (span_next HZ.out (f := isNext) (by simp [isNext, b2]))
            have HB1 := Lib.hid b1
            have HB2 := Lib.hid b2
            clear b1 b2
            go_wp2_with fail
            refine (letter_any _ _).mono ?_
            rw [HB1.out]
            rintro e w2 ⟨rfl, rfl⟩
            go_wp2_with fail
            refine (digit_any _ _).mono ?_
            rw [HB2.out]
            rintro e w2 ⟨rfl, rfl⟩
            go_wp2
            exact ⟨⟨k + 1, by go_num, by omega, by omega, by rw [HR.out, HN.out]; omega, by first | rfl | trivial⟩, by simp [intOf]; omega⟩
        · have HN := Lib.hid (span_next HZ.out (f := isNext) (by simp [isNext, b1]))
          have HB1 := Lib.hid b1
          clear b1
          go_wp2_with fail
          refine (letter_any _ _).mono ?_
          rw [HB1.out]
          rintro e w2 ⟨rfl, rfl⟩
          go_wp2
          exact ⟨⟨k + 1, by go_num, by omega, by omega, by rw [HR.out, HN.out]; omega, by first | rfl | trivial⟩, by simp [intOf]; omega⟩
      · have HN := Lib.hid (span_end (f := isNext) (l := L) (k := k) (by rw [HSL.out]; omega))
        obtain rfl : E = k := by have := HR.out; rw [HN.out] at this; omega
        have hpE : p ≤ E := by omega
        have hg := heap_alloc_new w (.cells #[.int .i64 0, .string ⟨#[]⟩, .int .i64 0, .int .i64 0] 45)
        go_wp2_with (refine wpList_store_tok rfl _ _ rfl rfl w.heap.size _ _ _ _ _ _ _ _ rfl rfl _ hg ?_)
        refine bodyPost_ret (results_tok1 rfl _ _ w.heap.size _ _ _ _ _ (0, 0) rfl (setRow_heap _ _ _ _ _ _ hg)) rfl ?_
        exact OnePost.yes HO.out (by rw [HX.out]; rfl) (congrArg (Value.int .i64) (by simp; omega)) (below_setRow (below_new _ _) (Nat.le_refl _) _)
  · have h1 : isFirst c = false := by simpa using h1
    have H1 := Lib.hid h1
    by_cases h2 : isDigit c = true ∨ c = 45
    · have ht := num_none HD.out h2.symm rfl
      have hle := span_le isDigit (L.drop (p + 1))
      rw [List.length_drop, HSL.out] at hle
      have hnt : numText (c :: (L.drop (p + 1)).take (span isDigit (L.drop (p + 1)))) := ⟨c, _, rfl, h2.symm, fun d hd => span_all isDigit _ d hd⟩
      have hE : ∀ E, E = p + 1 + span isDigit (L.drop (p + 1)) → (L.drop p).take (E - p) = c :: (L.drop (p + 1)).take (span isDigit (L.drop (p + 1))) := by
        rintro E rfl
        rw [HD.out, show p + 1 + span isDigit (L.drop (p + 1)) - p = span isDigit (L.drop (p + 1)) + 1 by omega, List.take_succ_cons]
      generalize tk Lib.itoa (L.drop p) = O at *
      generalize c :: (L.drop (p + 1)).take (span isDigit (L.drop (p + 1))) = T at *
      obtain ⟨E, hEE⟩ : ∃ E, E = p + 1 + span isDigit (L.drop (p + 1)) := ⟨_, rfl⟩
      have hEs : E ≤ s.size := by omega
      have hEp : p + 1 ≤ E := by omega
      have hT := hE E hEE
      have hX : s.extract p E = txt T := by rw [HPA.out, hT]
      have ht2 : O = (numOf Lib.itoa T).map fun n => ⟨1, T, n, E - p - 1⟩ := by
        rw [ht, show E - p - 1 = span isDigit (L.drop (p + 1)) by omega]
      have hXs : (s.extract p E).size ≤ 1000000 := by simp; omega
      obtain ⟨X, hXX⟩ : ∃ X, X = txt T := ⟨_, rfl⟩
      have hnum := fun w => rnum_any X (by rw [hXX, ← hX]; exact hXs) (by rw [hXX, txt_list]; exact hnt) w
      rw [hXX, txt_list] at hnum
      rw [← hXX] at hX hnum
      have HX := Lib.hid hXX
      have HO := Lib.hid ht2
      have HE := Lib.hid hEE
      have HNU := Lib.hid hnum
      clear ht hle hE hT hXX ht2 hEE hnt hnum hXs
      generalize numOf Lib.itoa T = N at *
      have HB : Hid (isDigit c = true ∨ isDigit c = false ∧ ((c.toNat : Int) == 45) = true) := Lib.hid (by
        cases hd : isDigit c
        · rw [hd] at h2
          have : c = 45 := by simpa using h2
          right; subst this; exact ⟨rfl, rfl⟩
        · left; rfl)
      clear h1 h2
      go_enter Tryd.func37, Tryd.ntmps37
      go_wp2_with fail
      refine (letter_any c _).mono ?_
      rw [H1.out]
      rintro e w1 ⟨rfl, rfl⟩
      go_wp2_with fail
      refine (digit_any c _).mono ?_
      rintro e w1 ⟨rfl, rfl⟩
      rcases HB.out with hd | ⟨hd, hd45⟩
      all_goals
        rw [hd]
        have HDG := Lib.hid hd
        clear hd
        go_wp2
        go_loopw [7] (fun i wr => ∃ k : Nat, i = .int .i64 k ∧ p < k ∧ k ≤ s.size ∧ E = k + span isDigit (L.drop k) ∧ wr = w.alloc (.cells #[.int .i64 0, .string ⟨#[]⟩, .int .i64 0, .int .i64 0] 45)) (fun i _ => s.size - (intOf i).toNat)
        case atStart => exact ⟨p + 1, by simp, by omega, by omega, HE.out, rfl⟩
        case round =>
          obtain ⟨k, rfl, hpk, hk, hr, rfl⟩ := hrel
          have HR := Lib.hid hr
          clear hr
          by_cases g1 : k < s.size
          · have HZ := Lib.hid (HSG.out k g1)
            cases b1 : isDigit s[k]
            · have HN := Lib.hid (span_stop HZ.out (f := isDigit) b1)
              have HB1 := Lib.hid b1
              clear b1
              obtain rfl : E = k := by have := HR.out; rw [HN.out] at this; omega
              have hpE : p ≤ E := by omega
              go_wp2_with fail
              refine (digit_any _ _).mono ?_
              rw [HB1.out]
              rintro e w2 ⟨rfl, rfl⟩
              go_wp2_with fail
              refine (HNU.out _).mono ?_
              rintro e w3 ⟨v, rfl, hv, hb3⟩
              have hg := (hb3.block w.heap.size (by simp)).trans (heap_alloc_new w _)
              have HV := Lib.hid hv
              clear hv
              cases N with
              | none =>
                simp only [Option.isSome_none]
                go_wp2_with (refine wpList_store_tok rfl _ _ rfl rfl w.heap.size _ _ _ _ _ _ _ _ rfl rfl _ hg ?_)
                refine bodyPost_ret (results_tok1 rfl _ _ w.heap.size _ _ _ _ _ (0, 0) rfl (setRow_heap _ _ _ _ _ _ hg)) rfl ?_
                exact OnePost.no HO.out (below_setRow (below_then (below_new _ _) hb3) (Nat.le_refl _) _)
              | some x =>
                simp only [Option.isSome_some]
                go_wp2_with (refine wpList_store_tok rfl _ _ rfl rfl w.heap.size _ _ _ _ _ _ _ _ rfl rfl _ hg ?_)
                refine bodyPost_ret (results_tok1 rfl _ _ w.heap.size _ _ _ _ _ (0, 0) rfl (setRow_heap _ _ _ _ _ _ hg)) rfl ?_
                exact OnePost.yes HO.out (by rw [HX.out, HV.out x rfl]; rfl) (congrArg (Value.int .i64) (by simp; omega)) (below_setRow (below_then (below_new _ _) hb3) (Nat.le_refl _) _)
            · have HN := Lib.hid (span_next HZ.out (f := isDigit) b1)
              have HB1 := Lib.hid b1
              clear b1
              go_wp2_with fail
              refine (digit_any _ _).mono ?_
              rw [HB1.out]
              rintro e w2 ⟨rfl, rfl⟩
              go_wp2
              exact ⟨⟨k + 1, by go_num, by omega, by omega, by rw [HR.out, HN.out]; omega, by first | rfl | trivial⟩, by simp [intOf]; omega⟩
          · have HN := Lib.hid (span_end (f := isDigit) (l := L) (k := k) (by rw [HSL.out]; omega))
            obtain rfl : E = k := by have := HR.out; rw [HN.out] at this; omega
            have hpE : p ≤ E := by omega
            go_wp2_with fail
            refine (HNU.out _).mono ?_
            rintro e w3 ⟨v, rfl, hv, hb3⟩
            have hg := (hb3.block w.heap.size (by simp)).trans (heap_alloc_new w _)
            have HV := Lib.hid hv
            clear hv
            cases N with
            | none =>
              simp only [Option.isSome_none]
              go_wp2_with (refine wpList_store_tok rfl _ _ rfl rfl w.heap.size _ _ _ _ _ _ _ _ rfl rfl _ hg ?_)
              refine bodyPost_ret (results_tok1 rfl _ _ w.heap.size _ _ _ _ _ (0, 0) rfl (setRow_heap _ _ _ _ _ _ hg)) rfl ?_
              exact OnePost.no HO.out (below_setRow (below_then (below_new _ _) hb3) (Nat.le_refl _) _)
            | some x =>
              simp only [Option.isSome_some]
              go_wp2_with (refine wpList_store_tok rfl _ _ rfl rfl w.heap.size _ _ _ _ _ _ _ _ rfl rfl _ hg ?_)
              refine bodyPost_ret (results_tok1 rfl _ _ w.heap.size _ _ _ _ _ (0, 0) rfl (setRow_heap _ _ _ _ _ _ hg)) rfl ?_
              exact OnePost.yes HO.out (by rw [HX.out, HV.out x rfl]; rfl) (congrArg (Value.int .i64) (by simp; omega)) (below_setRow (below_then (below_new _ _) hb3) (Nat.le_refl _) _)
    · have h2d : isDigit c = false := by
        cases hd : isDigit c
        · rfl
        · exact absurd (Or.inl hd) h2
      have h245 : c ≠ 45 := fun e => h2 (Or.inr e)
      have b45 : ((c.toNat : Int) == 45) = false := by rw [show ((c.toNat : Int) == 45) = (c == 45) from u8_eq c 45 (by decide)]; simpa using h245
      have H2 := Lib.hid h2d
      by_cases h3 : c = 34
      · have ht := tk_str HD.out h3
        rw [ht]
        have b34 : ((c.toNat : Int) == 34) = true := by rw [h3]; rfl
        unfold strT
        obtain ⟨o, ho⟩ : ∃ o, o = strB 0 (L.drop (p + 1)) := ⟨_, rfl⟩
        rw [← ho] at HTX ⊢
        clear h1 h2 h2d h245 ht h3 ho
        go_enter Tryd.func37, Tryd.ntmps37
        go_wp2_with fail
        refine (letter_any c _).mono ?_
        rw [H1.out]
        rintro e w1 ⟨rfl, rfl⟩
        go_wp2_with fail
        refine (digit_any c _).mono ?_
        rw [H2.out]
        rintro e w1 ⟨rfl, rfl⟩
        go_wp2_with fail
        refine (HTX.out _).mono ?_
        rintro e w3 ⟨rfl, hb3⟩
        have hg := (hb3.block w.heap.size (by simp)).trans (heap_alloc_new w _)
        cases o with
        | none =>
          unfold DV
          go_wp2_with (refine wpList_store_tok rfl _ _ rfl rfl w.heap.size _ _ _ _ _ _ _ _ rfl rfl _ hg ?_)
          refine bodyPost_ret (results_tok1 rfl _ _ w.heap.size _ _ _ _ _ (0, 0) rfl (setRow_heap _ _ _ _ _ _ hg)) rfl ?_
          exact OnePost.no rfl (below_setRow (below_then (below_new _ _) hb3) (Nat.le_refl _) _)
        | some x =>
          obtain ⟨t, m⟩ := x
          unfold DV
          obtain ⟨X, hXX⟩ : ∃ X, X = txt t := ⟨_, rfl⟩
          simp only
          rw [← hXX]
          have HX := Lib.hid hXX
          clear hXX
          go_wp2_with (refine wpList_store_tok rfl _ _ rfl rfl w.heap.size _ _ _ _ _ _ _ _ rfl rfl _ hg ?_)
          refine bodyPost_ret (results_tok1 rfl _ _ w.heap.size _ _ _ _ _ (0, 0) rfl (setRow_heap _ _ _ _ _ _ hg)) rfl ?_
          exact OnePost.yes rfl (by rw [HX.out]; rfl) (congrArg (Value.int .i64) (by simp; omega)) (below_setRow (below_then (below_new _ _) hb3) (Nat.le_refl _) _)
      · have b34' : (c == 34) = false := by simpa using h3
        have b34 : ((c.toNat : Int) == 34) = false := by rw [show ((c.toNat : Int) == 34) = (c == 34) from u8_eq c 34 (by decide)]; exact b34'
        have ht := tk_sign HD.out h1 (by rw [h2d]; simpa using h245) b34'
        have hX : s.extract p (p + 1) = txt [c] := by rw [HPA.out, show p + 1 - p = 1 by omega, HD.out]; rfl
        obtain ⟨X, hXX⟩ : ∃ X, X = txt [c] := ⟨_, rfl⟩
        rw [← hXX] at hX
        have HX := Lib.hid hXX
        generalize tk Lib.itoa (L.drop p) = O at *
        cases hsg : isSign c
        · rw [hsg] at ht
          simp only [Bool.false_eq_true, if_false] at ht
          have HO := Lib.hid ht
          have H3 := Lib.hid hsg
          clear h1 h2 h2d h245 h3 b34' ht hXX hsg
          go_enter Tryd.func37, Tryd.ntmps37
          go_wp2_with fail
          refine (letter_any c _).mono ?_
          rw [H1.out]
          rintro e w1 ⟨rfl, rfl⟩
          go_wp2_with fail
          refine (digit_any c _).mono ?_
          rw [H2.out]
          rintro e w1 ⟨rfl, rfl⟩
          go_wp2_with fail
          refine (signed_any c _).mono ?_
          rw [H3.out]
          rintro e w3 ⟨rfl, hb3⟩
          have hg := (hb3.block w.heap.size (by simp)).trans (heap_alloc_new w _)
          go_wp2_with (refine wpList_store_tok rfl _ _ rfl rfl w.heap.size _ _ _ _ _ _ _ _ rfl rfl _ hg ?_)
          refine bodyPost_ret (results_tok1 rfl _ _ w.heap.size _ _ _ _ _ (0, 0) rfl (setRow_heap _ _ _ _ _ _ hg)) rfl ?_
          exact OnePost.no HO.out (below_setRow (below_then (below_new _ _) hb3) (Nat.le_refl _) _)
        · rw [hsg] at ht
          simp only [if_true] at ht
          have HO := Lib.hid ht
          have H3 := Lib.hid hsg
          have hsli : ∀ w', (Instr.slice 9 (.string s) (some (.int .i64 p)) (some (.int .i64 ((p : Int) + 1))) none).run Tryd.prog w' = .ok (.string X) w' := fun w' => by
            have hr := run_slice_string (P := Tryd.prog) (w := w') (t := 9) (s := s) (i := (p : Int)) (j := (p : Int) + 1) (k := .i64) (k' := .i64) Tryd.underlying9 (by omega) (by omega) (by omega)
            rw [Int.toNat_natCast, show ((p : Int) + 1).toNat = p + 1 by omega, hX] at hr
            exact hr
          clear h1 h2 h2d h245 h3 b34' ht hXX hsg
          go_enter Tryd.func37, Tryd.ntmps37
          go_wp2_with fail
          refine (letter_any c _).mono ?_
          rw [H1.out]
          rintro e w1 ⟨rfl, rfl⟩
          go_wp2_with fail
          refine (digit_any c _).mono ?_
          rw [H2.out]
          rintro e w1 ⟨rfl, rfl⟩
          go_wp2_with fail
          refine (signed_any c _).mono ?_
          rw [H3.out]
          rintro e w3 ⟨rfl, hb3⟩
          have hg := (hb3.block w.heap.size (by simp)).trans (heap_alloc_new w _)
          go_wp2_with (refine wpList_store_tok rfl _ _ rfl rfl w.heap.size _ _ _ _ _ _ _ _ rfl rfl _ hg ?_)
          refine bodyPost_ret (results_tok1 rfl _ _ w.heap.size _ _ _ _ _ (0, 0) rfl (setRow_heap _ _ _ _ _ _ hg)) rfl ?_
          exact OnePost.yes HO.out (by rw [HX.out]; rfl) (congrArg (Value.int .i64) (by simp)) (below_setRow (below_then (below_new _ _) hb3) (Nat.le_refl _) _)
end Go.Proofs.YtceomdbahiimlaaDoor
