/-
  Names, numbers and signs: the contracts of the functions that read one.
-/
import Derived.Test.YtceomdbahiimlaaDoorTokStr
import Derived.Deep.RegionHeld3
import Derived.Deep.QuietTactic
namespace Go.Proofs.YtceomdbahiimlaaDoor
set_option maxRecDepth 100000

open Go.RowKit

theorem part_list (s : ByteArray) (a b : Nat) : (s.extract a b).data.toList = (s.data.toList.drop a).take (b - a) := Lib.extract_data s a b
set_option maxRecDepth 1000000 in
theorem tok_any (s : ByteArray) (hs : s.size ≤ 1000000) (kind p q : Nat) (hpq : p ≤ q) (hq : q ≤ s.size) (T : List UInt8) (hT : (s.data.toList.drop p).take (q - p) = T) (w : World) :
    Calls Tryd.prog 59 #[.string s, .int .i64 kind, .int .i64 p, .int .i64 q] w fun e w' => e = .returned (TokV kind (txt T) 0 p) ∧ Below w.heap.size w w' := by
  subst hT
  have hx : s.extract p q = txt ((s.data.toList.drop p).take (q - p)) := by rw [← part_list, txt_of]
  have hxs : (s.extract p q).size ≤ 1000000 := by simp; omega
  obtain ⟨X, hX⟩ : ∃ X, X = s.extract p q := ⟨_, rfl⟩
  rw [← hx, ← hX]
  rw [← hX] at hxs
  have hX' := hX.symm
  clear hx hX
  go_enter Tryd.func59, Tryd.ntmps59
  go_wp2_with fail
  refine (clone_any X (by omega) _).mono ?_
  rintro e w1 ⟨rfl, hb1⟩
  have hg1 := hb1.block w.heap.size (by simp)
  rw [heap_alloc_new] at hg1
  go_wp2_with (refine wpList_store_tok rfl _ _ rfl rfl w.heap.size _ _ _ _ _ _ _ _ rfl rfl _ hg1 ?_)
  refine bodyPost_ret (v := TokV kind X 0 p) ?_ rfl ⟨rfl, below_setRow (below_then (below_new _ _) hb1) (Nat.le_refl _) _⟩
  exact results_cell_row rfl _ _ w.heap.size 45 _ (0, 0) _ rfl (setRow_heap _ _ _ _ _ _ hg1) Tryd.underlying45 rfl infoTok

def nextS : ByteArray := ⟨#[65, 66, 67, 68, 69, 70, 71, 72, 73, 74, 75, 76, 77, 78, 79, 80, 81, 82, 83, 84, 85, 86, 87, 88, 89, 90, 97, 98, 99, 100, 101, 102, 103, 104, 105, 106, 107, 108, 109, 110, 111, 112, 113, 114, 115, 116, 117, 118, 119, 120, 121, 122, 95, 48, 49, 50, 51, 52, 53, 54, 55, 56, 57]⟩
theorem next_set (c : UInt8) : decide (0 ≤ Lib.indexByte nextS.data.toList c) = isNext c := by
  have h : ∀ k : Fin 256, decide (0 ≤ Lib.indexByte nextS.data.toList (UInt8.ofNat k.val)) = isNext (UInt8.ofNat k.val) := by decide +kernel
  have := h ⟨c.toNat, c.toNat_lt⟩
  simpa using this
theorem digit_set (c : UInt8) : decide (0 ≤ Lib.indexByte tenS.data.toList c) = isDigit c := by
  have h : ∀ k : Fin 256, decide (0 ≤ Lib.indexByte tenS.data.toList (UInt8.ofNat k.val)) = isDigit (UInt8.ofNat k.val) := by decide +kernel
  have := h ⟨c.toNat, c.toNat_lt⟩
  simpa using this
theorem drop_cons {l : List UInt8} {p : Nat} {c : UInt8} (h : l[p]? = some c) : l.drop p = c :: l.drop (p + 1) := ws_at h

set_option maxRecDepth 1000000 in
theorem name_any (s : ByteArray) (hs : s.size ≤ 1000000) (p : Nat) (c : UInt8) (hc : s.data.toList[p]? = some c) (hf : isFirst c = true) (w : World) :
    Calls Tryd.prog 47 #[.string s, .int .i64 p] w fun e w' => e = .returned (SV (tk Lib.itoa (s.data.toList.drop p)) p) ∧ Below w.heap.size w w' := by
  have hsl : s.data.toList.length = s.size := by simp
  have hp : p < s.size := by have := (List.getElem?_eq_some_iff.1 hc).1; omega
  have hd := drop_cons hc
  have hn : isNext c = true := by simp [isNext, hf]
  have hsp : span isNext (s.data.toList.drop p) = span isNext (s.data.toList.drop (p + 1)) + 1 := by rw [hd]; simp [span, hn]
  have hle := span_le isNext (s.data.toList.drop (p + 1))
  rw [List.length_drop, hsl] at hle
  have ht : tk Lib.itoa (s.data.toList.drop p) = some ⟨0, c :: (s.data.toList.drop (p + 1)).take (span isNext (s.data.toList.drop (p + 1))), 0, span isNext (s.data.toList.drop (p + 1))⟩ := by rw [hd]; simp [tk, hf]
  have hb := fun w => behind_any s hs p (by omega) nextS isNext next_set w
  rw [hsp] at hb
  have htk := fun (q : Nat) (h1 : p ≤ q) (h2 : q ≤ s.size) (T : List UInt8) (hT : (s.data.toList.drop p).take (q - p) = T) w => tok_any s hs 0 p q h1 h2 T hT w
  have hT : (s.data.toList.drop p).take (p + (span isNext (s.data.toList.drop (p + 1)) + 1) - p) = c :: (s.data.toList.drop (p + 1)).take (span isNext (s.data.toList.drop (p + 1))) := by
    rw [show p + (span isNext (s.data.toList.drop (p + 1)) + 1) - p = span isNext (s.data.toList.drop (p + 1)) + 1 by omega, hd, List.take_succ_cons]
  rw [ht]
  have htk2 := htk _ (by omega) (by omega) _ hT
  generalize (c :: (s.data.toList.drop (p + 1)).take (span isNext (s.data.toList.drop (p + 1)))) = T at *
  generalize span isNext (s.data.toList.drop (p + 1)) = m at *
  have HB := Lib.hid hb
  have HT := Lib.hid htk2
  have hq : p + (m + 1) ≤ s.size := by omega
  clear hb htk htk2 hT ht hsp hle hd hc hsl
  generalize hqq : p + (m + 1) = q at *
  have HE := Lib.hid hqq
  clear hqq
  go_enter Tryd.func47, Tryd.ntmps47
  go_wp2_with fail
  refine (HB.out _).mono ?_
  rintro e w1 ⟨rfl, rfl⟩
  go_wp2_with fail
  refine (HT.out _).mono ?_
  unfold TokV
  rintro e w2 ⟨rfl, hb2⟩
  have hg2 := hb2.block w.heap.size (by simp)
  rw [heap_alloc_new] at hg2
  go_wp2_with (refine wpList_store_tok rfl _ _ rfl rfl w.heap.size _ _ _ _ _ _ _ _ rfl rfl _ hg2 ?_)
  refine bodyPost_ret (results_tok rfl _ _ w.heap.size _ _ _ _ _ (0, 0) rfl (setRow_heap _ _ _ _ _ _ hg2)) rfl ?_
  exact ⟨ret_tok rfl rfl (congrArg (Value.int .i64) (by have := HE.out; simp; omega)) rfl, below_setRow (below_then (below_new _ _) hb2) (Nat.le_refl _) _⟩

set_option maxRecDepth 1000000 in
theorem sign_any (s : ByteArray) (hs : s.size ≤ 1000000) (p : Nat) (c : UInt8) (hc : s.data.toList[p]? = some c) (ht : tk Lib.itoa (s.data.toList.drop p) = some ⟨3, [c], 0, 0⟩) (w : World) :
    Calls Tryd.prog 48 #[.string s, .int .i64 p] w fun e w' => e = .returned (SV (tk Lib.itoa (s.data.toList.drop p)) p) ∧ Below w.heap.size w w' := by
  have hsl : s.data.toList.length = s.size := by simp
  have hp : p < s.size := by have := (List.getElem?_eq_some_iff.1 hc).1; omega
  have hd := drop_cons hc
  have hT : (s.data.toList.drop p).take (p + 1 - p) = [c] := by rw [show p + 1 - p = 1 by omega, hd]; rfl
  have htk := tok_any s hs 3 p (p + 1) (by omega) (by omega) [c] hT
  rw [ht]
  simp only [Int.natCast_add, Int.cast_ofNat_Int] at htk
  have HT := Lib.hid htk
  clear htk hT ht hd hc hsl
  go_enter Tryd.func48, Tryd.ntmps48
  go_wp2_with fail
  refine (HT.out _).mono ?_
  unfold TokV
  rintro e w2 ⟨rfl, hb2⟩
  have hg2 := hb2.block w.heap.size (by simp)
  rw [heap_alloc_new] at hg2
  go_wp2_with (refine wpList_store_tok rfl _ _ rfl rfl w.heap.size _ _ _ _ _ _ _ _ rfl rfl _ hg2 ?_)
  refine bodyPost_ret (results_tok rfl _ _ w.heap.size _ _ _ _ _ (0, 0) rfl (setRow_heap _ _ _ _ _ _ hg2)) rfl ?_
  exact ⟨ret_tok rfl rfl (congrArg (Value.int .i64) (by simp)) rfl, below_setRow (below_then (below_new _ _) hb2) (Nat.le_refl _) _⟩

theorem num_none {l : List UInt8} {c : UInt8} {r T : List UInt8} (hd : l = c :: r) (hc : c = 45 ∨ isDigit c = true) (hT : T = c :: r.take (span isDigit r)) :
    tk Lib.itoa l = (numOf Lib.itoa T).map fun n => ⟨1, T, n, span isDigit r⟩ := by
  subst hd hT
  have h1 : isFirst c = false := by
    rcases hc with rfl | hc
    · rfl
    · simp only [isDigit, Bool.and_eq_true, decide_eq_true_eq] at hc
      have : c ≠ 95 := by intro e; subst e; simp at hc
      have h95 : (c == 95) = false := by simpa using this
      simp only [isFirst, h95, Bool.or_false, Bool.or_eq_false_iff, Bool.and_eq_false_iff, decide_eq_false_iff_not]
      omega
  have h2 : (isDigit c || c == 45) = true := by
    rcases hc with rfl | hc
    · simp
    · simp [hc]
  simp only [tk, h1, h2, if_true, Bool.false_eq_true, if_false]

set_option maxRecDepth 1000000 in
set_option maxHeartbeats 1000000 in
theorem num_any (s : ByteArray) (hs : s.size ≤ 1000000) (p : Nat) (c : UInt8) (hc : s.data.toList[p]? = some c) (hf : c = 45 ∨ isDigit c = true) (w : World) (LV : Laid w) :
    Calls Tryd.prog 46 #[.string s, .int .i64 p] w fun e w' => e = .returned (SV (tk Lib.itoa (s.data.toList.drop p)) p) ∧ Below w.heap.size w w' := by
  have hsl : s.data.toList.length = s.size := by simp
  have hp : p < s.size := by have := (List.getElem?_eq_some_iff.1 hc).1; omega
  have hd := drop_cons hc
  have hle := span_le isDigit (s.data.toList.drop (p + 1))
  rw [List.length_drop, hsl] at hle
  have ht := num_none hd hf rfl
  have hb : ∀ w, Calls Tryd.prog 49 #[.string s, .int .i64 ((p : Int) + 1), .string ⟨#[48, 49, 50, 51, 52, 53, 54, 55, 56, 57]⟩] w fun e w' => e = .returned (.int .i64 ((p + 1 + span isDigit (s.data.toList.drop (p + 1)) : Nat) : Int)) ∧ w = w' := fun w => behind_any s hs (p + 1) (by omega) tenS isDigit digit_set w
  have hT : (s.data.toList.drop p).take (p + 1 + span isDigit (s.data.toList.drop (p + 1)) - p) = c :: (s.data.toList.drop (p + 1)).take (span isDigit (s.data.toList.drop (p + 1))) := by
    rw [show p + 1 + span isDigit (s.data.toList.drop (p + 1)) - p = span isDigit (s.data.toList.drop (p + 1)) + 1 by omega, hd, List.take_succ_cons]
  have hnt : numText (c :: (s.data.toList.drop (p + 1)).take (span isDigit (s.data.toList.drop (p + 1)))) := ⟨c, _, rfl, hf, fun d hd => span_all isDigit _ d hd⟩
  have htk := tok_any s hs 1 p _ (by omega) (by omega) _ hT
  have htl : (c :: (s.data.toList.drop (p + 1)).take (span isDigit (s.data.toList.drop (p + 1)))).length ≤ 1000000 := by
    have := congrArg List.length hT
    rw [List.length_take, List.length_drop, hsl] at this
    omega
  rw [ht]
  obtain ⟨hcn1, hcn2⟩ := code_num hnt
  generalize (c :: (s.data.toList.drop (p + 1)).take (span isDigit (s.data.toList.drop (p + 1)))) = T at *
  generalize span isDigit (s.data.toList.drop (p + 1)) = m at *
  have HB := Lib.hid hb
  have HT := Lib.hid htk
  have hq : p + 1 + m ≤ s.size := by omega
  clear hb htk hT ht hle hd hc hsl hf hnt
  generalize hqq : p + 1 + m = q at *
  have HE := Lib.hid hqq
  clear hqq
  have hts : (txt T).size ≤ 1000000 := by rw [txt_size]; exact htl
  have htd : (txt T).data.toList = T := txt_list T
  obtain ⟨X, hX⟩ : ∃ X, X = txt T := ⟨_, rfl⟩
  rw [← hX] at hts htd HT
  have HX := Lib.hid hX
  clear hX
  by_cases hok : ∃ v, Lib.parseIntB 64 T = .ok v
  · obtain ⟨v, hv⟩ := hok
    have HNUM := Lib.hid (hcn1 v hv)
    have hvb := Lib.parseIntB_bounds hv
    have hv0 : -9223372036854775808 ≤ v := by simpa using hvb.1
    have hv1 : v ≤ 9223372036854775807 := by have := hvb.2; simp at this; omega
    have HP := Lib.hid (parse_ok X hts v (by rw [htd]; exact hv))
    clear hcn1 hcn2 hv hvb htd htl
    go_enter Tryd.func46, Tryd.ntmps46
    go_wp2_with fail
    refine (HB.out _).mono ?_
    rintro e w1 ⟨rfl, rfl⟩
    go_wp2_with fail
    refine (HT.out _).mono ?_
    unfold TokV
    rintro e w2 ⟨rfl, hb2⟩
    have hg2 := hb2.block w.heap.size (by simp)
    rw [heap_alloc_new] at hg2
    have hb3 := below_then (below_new _ _) hb2
    have hs3 : w.heap.size < w2.heap.size := by have := hb2.size; simp at this; omega
    go_wp2_with fail
    refine (HP.out _).mono ?_
    rintro e w4 ⟨rfl, hb4⟩
    have hg4 := (hb4.block w2.heap.size (by simp)).trans (heap_alloc_new w2 _)
    have hg0 := (hb4.block w.heap.size (by simp; omega)).trans ((Below.heap_alloc w2 _ w.heap.size hs3).trans hg2)
    have hb5 : Below w.heap.size w w4 := below_then (below_lit hb3 _) hb4
    have hs4 : w2.heap.size < w4.heap.size := (Array.getElem?_eq_some_iff.1 hg4).1
    have hc4 : w4.cell? ⟨w2.heap.size, 1, none⟩ = some (.string X) := by simp [World.cell?, hg4]
    have L4 : Laid w4.drew := (LV.on hb5).on (Below.refl _ _).drew
    obtain ⟨Y, hY⟩ : ∃ Y, Y = txt (Lib.itoa v) := ⟨_, rfl⟩
    have HY := Lib.hid hY
    have hdig := fun w (L : Laid w) => digits_any v hv0 hv1 w L
    rw [← hY] at hdig
    have HDG := Lib.hid hdig
    clear hdig hY
    go_wp2_with fail
    go_region_held3 (fun w' => w'.cell? ⟨w2.heap.size, 1, none⟩ = some (.string X))
      (first | go_keep | (rw [Below.cell hb6 (by show w2.heap.size < w4.heap.size; exact hs4)]; assumption))
      ((first
        | (go_at_call 61; refine (HDG.out _ L4).mono ?_; rintro e w6 ⟨rfl, hb6⟩)))
    have hb7 : Below w.heap.size w w6 := below_then (hb5.drew) hb6
    have hg6 := (hb6.block w2.heap.size hs4).trans hg4
    have hg60 := (hb6.block w.heap.size (by show w.heap.size < w4.heap.size; omega)).trans hg0
    have hfr : w6.frozen? ⟨w2.heap.size, 2, none⟩ = false := by simp [World.frozen?, hg6]
    have hd0 : w6.cell? ⟨w2.heap.size, 0, none⟩ = some (.int .i64 1) := by simp [World.cell?, hg6]
    have hd1 : w6.cell? ⟨w2.heap.size, 1, none⟩ = some (.string X) := by simp [World.cell?, hg6]
    have hd2 : w6.cell? ⟨w2.heap.size, 2, none⟩ = some (.int .i64 0) := by simp [World.cell?, hg6]
    have hd3 : w6.cell? ⟨w2.heap.size, 3, none⟩ = some (.int .i64 p) := by simp [World.cell?, hg6]
    by_cases he : Lib.itoa v = T
    · have hN := HNUM.out
      rw [if_pos he] at hN
      have HN := Lib.hid hN
      have bE : (!(Y.toList == X.toList)) = false := by rw [HY.out, HX.out, he]; simp
      rw [bE]
      clear hN he bE
      have hgS : (w6.setCell ⟨w2.heap.size, 2, none⟩ (.int .i64 v)).heap[w.heap.size]? = _ := (Below.heap_setCell w6 _ _ w.heap.size (by show w.heap.size ≠ w2.heap.size; omega)).trans hg60
      have hb8 : Below w.heap.size w (w6.setCell ⟨w2.heap.size, 2, none⟩ (.int .i64 v)) := hb7.setCell (by show w.heap.size ≤ w2.heap.size; omega) _
      go_wp2_with (refine wpList_store_tok rfl _ _ rfl rfl w.heap.size _ _ _ _ _ _ _ _ rfl rfl _ hgS ?_)
      refine bodyPost_ret (results_tok rfl _ _ w.heap.size _ _ _ _ _ (0, 0) rfl (setRow_heap _ _ _ _ _ _ hgS)) rfl ?_
      exact ⟨ret_tok (by rw [HN.out]; rfl) (by rw [HX.out]; rfl) (congrArg (Value.int .i64) (by have := HE.out; simp; omega)) rfl, below_setRow hb8 (Nat.le_refl _) _⟩
    · have hN := HNUM.out
      rw [if_neg he] at hN
      have HN := Lib.hid hN
      have bE : (!(Y.toList == X.toList)) = true := by
        rw [Bool.not_eq_true', beq_eq_false_iff_ne, HY.out, HX.out, Lib.toList_data, Lib.toList_data, txt_list, txt_list]
        exact he
      rw [bE]
      clear hN he bE
      go_wp2_with (refine wpList_store_tok rfl _ _ rfl rfl w.heap.size _ _ _ _ _ _ _ _ rfl rfl _ hg60 ?_)
      refine bodyPost_ret (results_tok rfl _ _ w.heap.size _ _ _ _ _ (0, 0) rfl (setRow_heap _ _ _ _ _ _ hg60)) rfl ?_
      exact ⟨ret_notok (by rw [HN.out]; rfl), below_setRow hb7 (Nat.le_refl _) _⟩
  · have hno : ∀ v, Lib.parseIntB 64 T ≠ .ok v := fun v hv => hok ⟨v, hv⟩
    have HN := Lib.hid (hcn2 hno)
    have hp2 := fun w (L : Laid w) => parse_not X hts (by rw [htd]; exact hno) w L
    have HP := Lib.hid hp2
    clear hcn1 hcn2 htd htl hp2 hok hno
    go_enter Tryd.func46, Tryd.ntmps46
    go_wp2_with fail
    refine (HB.out _).mono ?_
    rintro e w1 ⟨rfl, rfl⟩
    go_wp2_with fail
    refine (HT.out _).mono ?_
    unfold TokV
    rintro e w2 ⟨rfl, hb2⟩
    have hg2 := hb2.block w.heap.size (by simp)
    rw [heap_alloc_new] at hg2
    have hb3 := below_then (below_new _ _) hb2
    have hs3 : w.heap.size < w2.heap.size := by have := hb2.size; simp at this; omega
    go_wp2_with fail
    refine (HP.out _ ((LV.on hb3).on (below_new _ _))).mono ?_
    rintro e w4 ⟨v, tt, pp, rfl, hb4⟩
    have hg0 := (hb4.block w.heap.size (by simp; omega)).trans ((Below.heap_alloc w2 _ w.heap.size hs3).trans hg2)
    have hb5 : Below w.heap.size w w4 := below_then (below_lit hb3 _) hb4
    go_wp2_with fail
    go_quiet (fail)
    have hg0' : (w4.drewN nq).heap[w.heap.size]? = _ := hg0
    have hb6 : Below w.heap.size w (w4.drewN nq) := below_draws hb5 nq
    clear hb5 hg0
    go_wp2_with (refine wpList_store_tok rfl _ _ rfl rfl w.heap.size _ _ _ _ _ _ _ _ rfl rfl _ hg0' ?_)
    refine bodyPost_ret (results_tok rfl _ _ w.heap.size _ _ _ _ _ (0, 0) rfl (setRow_heap _ _ _ _ _ _ hg0')) rfl ?_
    exact ⟨ret_notok (by rw [HN.out]; rfl), below_setRow hb6 (Nat.le_refl _) _⟩
end Go.Proofs.YtceomdbahiimlaaDoor
