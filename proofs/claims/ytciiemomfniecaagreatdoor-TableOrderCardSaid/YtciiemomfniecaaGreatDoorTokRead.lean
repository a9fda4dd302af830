/-
  A string's token: the contract of the function that reads it.
-/
import Derived.Test.YtciiemomfniecaaGreatDoorTokList
import Derived.Deep.RegionHeld3
import Derived.Deep.QuietTactic
namespace Go.Proofs.YtciiemomfniecaaGreatDoor
set_option maxRecDepth 100000

open Go.RowKit

theorem str_at {l : List UInt8} {k : Nat} {c : UInt8} (h : l[k]? = some c) : strB 0 (l.drop k) = if c == 34 then some ([], 1) else match meant (l.drop k) with | none => none | some x => (strB 0 (l.drop (k + x.2 + 1))).map fun y => (x.1 :: y.1, y.2 + x.2 + 1) := by
  rw [ws_at h]
  simp only [strB]
  cases hm : meant (c :: l.drop (k + 1)) with
  | none => rfl
  | some x =>
    obtain ⟨b, j⟩ := x
    simp only
    rw [strB_skip j, List.drop_drop, show k + 1 + j = k + j + 1 by omega]
    cases strB 0 (l.drop (k + j + 1)) <;> rfl
theorem str_end {l : List UInt8} {k : Nat} (h : l.length ≤ k) : strB 0 (l.drop k) = none := by
  rw [List.drop_of_length_le h]; rfl
/-- What has been read so far of a string. -/
def StrRel (L : List UInt8) (p k : Nat) (pre : List UInt8) : Prop := strB 0 (L.drop (p + 1)) = (strB 0 (L.drop k)).map fun x => (pre ++ x.1, x.2 + (k - (p + 1)))
theorem StrRel.next {L : List UInt8} {p k j : Nat} {pre : List UInt8} {b : UInt8} (h : StrRel L p k pre) (hk : p < k) (hs : strB 0 (L.drop k) = (strB 0 (L.drop (k + j + 1))).map fun y => (b :: y.1, y.2 + j + 1)) : StrRel L p (k + j + 1) (pre ++ [b]) := by
  unfold StrRel at *
  rw [h, hs]
  cases strB 0 (L.drop (k + j + 1)) with
  | none => rfl
  | some x => simp; omega
theorem StrRel.stop {L : List UInt8} {p k : Nat} {pre : List UInt8} (h : StrRel L p k pre) (hs : strB 0 (L.drop k) = none) : strT (L.drop (p + 1)) = none := by
  unfold StrRel at h
  unfold strT
  rw [h, hs]; rfl
theorem StrRel.done {L : List UInt8} {p k : Nat} {pre : List UInt8} (h : StrRel L p k pre) (hk : p < k) (hs : strB 0 (L.drop k) = some ([], 1)) : strT (L.drop (p + 1)) = some ⟨2, pre, 0, k - p⟩ := by
  unfold StrRel at h
  unfold strT
  rw [h, hs]
  simp; omega
theorem ret_tok {o : Option Tk} {t : Tk} {p : Nat} {x y z : Value} (h : o = some t) (hx : x = TokV t.kind (txt t.text) t.num p) (hy : y = .int .i64 ((p + t.more + 1 : Nat) : Int)) (hz : z = .bool true) : Ending.returned (.tuple #[x, y, z]) = .returned (SV o p) := by
  subst h hx hy hz; rfl
theorem ret_notok {o : Option Tk} {p : Nat} (h : o = none) : Ending.returned (.tuple #[.agg #[.int .i64 0, .string ⟨#[]⟩, .int .i64 0, .int .i64 0], .int .i64 0, .bool false]) = .returned (SV o p) := by
  subst h; rfl

set_option maxRecDepth 1000000 in
set_option maxHeartbeats 1000000 in
theorem str_any (s : ByteArray) (hs : s.size ≤ 1000000) (p : Nat) (hp : p < s.size) (w : World) :
    Calls Tryz.prog 133 #[.string s, .int .i64 p] w fun e w' => e = .returned (SV (strT (s.data.toList.drop (p + 1))) p) ∧ Below w.heap.size w w' := by
  obtain ⟨i0, hi, hz0, hz1, hz2⟩ := info_parts info_u8
  have hsl : s.data.toList.length = s.size := by simp
  have hsg := at_list s
  have hmk := fun k hk w => meant_any s hs k hk w
  generalize s.data.toList = L at *
  have HSL := Lib.hid hsl
  have HSG := Lib.hid hsg
  have HMK := Lib.hid hmk
  clear hsl hsg hmk
  go_enter Tryz.func133, Tryz.ntmps133
  go_wp2_with fail
  go_loopw [7, 8] (fun v i wr => ∃ (k : Nat) (pre : List UInt8), i = .int .i64 k ∧ p < k ∧ k ≤ s.size ∧ pre.length ≤ k ∧ wr.ownsRow (w.heap.size + 1) 5 1 v pre.length (bs pre) ∧ StrRel L p k pre ∧ wr.heap[w.heap.size]? = some (.cells #[.int .i64 0, .string ⟨#[]⟩, .int .i64 0, .int .i64 0] 155 (0, 0)) ∧ w.heap.size + 1 ≤ wr.heap.size ∧ Below w.heap.size w wr) (fun _ i _ => s.size - (intOf i).toNat)
  case atStart => exact ⟨p + 1, [], by simp, by omega, by omega, by simp, World.ownsRow_nil _ _ _ _, by unfold StrRel; cases strB 0 (L.drop (p + 1)) <;> simp, heap_alloc_new _ _, by simp, below_new _ _⟩
  case round =>
    obtain ⟨k, pre, rfl, hpk, hk, hpl, hown, hrel, hbox, hsz, hb⟩ := hrel
    have HR := Lib.hid hrel
    clear hrel
    by_cases h1 : k < s.size
    · have HX := Lib.hid (HSG.out k h1)
      have hat := str_at HX.out
      have e34 : ((s[k].toNat : Int) == 34) = (s[k] == 34) := u8_eq s[k] 34 (by decide)
      rw [← e34] at hat
      clear e34
      cases b1 : ((s[k].toNat : Int) == 34)
      · rw [b1] at hat
        simp only [Bool.false_eq_true, if_false] at hat
        have hm2 := fun x (h : meant (L.drop k) = some x) => meant_more (l := L.drop k) (b := x.1) (k := x.2) h
        have hmk := HMK.out k h1
        have hdl : (L.drop k).length = s.size - k := by rw [List.length_drop, HSL.out]
        rw [hdl] at hm2
        generalize hO : meant (L.drop k) = O at *
        clear hO hdl
        cases O with
        | none =>
          have HT := Lib.hid (HR.out.stop hat)
          clear hat hm2
          go_wp2_with fail
          refine (hmk _).mono ?_
          unfold MV
          rintro e w2 ⟨rfl, hb2⟩
          have hbox2 := (hb2.block w.heap.size (by omega)).trans hbox
          clear hbox hown
          have hb3 := below_then hb hb2
          go_wp2_with (refine wpList_store_tok rfl _ _ rfl rfl w.heap.size _ _ _ _ _ _ _ _ rfl rfl _ hbox2 ?_)
          refine bodyPost_ret (results_tok rfl _ _ w.heap.size _ _ _ _ _ (0, 0) rfl (setRow_heap _ _ _ _ _ _ hbox2)) rfl ?_
          exact ⟨ret_notok HT.out, below_setRow hb3 (Nat.le_refl _) _⟩
        | some x =>
          obtain ⟨b, j⟩ := x
          have hj := hm2 _ rfl
          simp only at hj hat
          have HN := Lib.hid (HR.out.next hpk hat)
          clear hat hm2
          go_wp2_with fail
          refine (hmk _).mono ?_
          unfold MV
          rintro e w2 ⟨rfl, hb2⟩
          have hbox2 := (hb2.block w.heap.size (by omega)).trans hbox
          have hown2 := own_below hown hb2
          have hsz2 := hb2.size
          have hb3 := below_then hb hb2
          clear hbox hown
          have E1 := Lib.hid (bs_snoc pre b)
          have E2 : Hid (pre.length + 1 = (pre ++ [b]).length) := Lib.hid (by simp)
          go_wp2_with (at_builtin; refine wpList_app1 rfl _ _ 106 rfl (w.heap.size + 1) 5 i0 (.int .u8 0) 1 Tryz.underlying106 hi hz0 hz1 hz2 rfl _ pre.length (bs pre) rfl (hown2.alloc _) w2.heap.size 1 _ rfl (World.cell?_alloc_at _ _ _ _ rfl) rfl (by unfold maxLen; omega) (by omega) (by simp; omega) ?_; intro v3 w3 hown3 hg3)
          have hz3 := hg3.size
          have hbox3 := box_grown ((Below.heap_alloc w2 (Obj.cells #[Value.int .u8 (b.toNat : Int)] 5) w.heap.size (by omega)).trans hbox2) hg3 (own_ge hown2) (by omega)
          have hb4 : Below w.heap.size w w3 := (below_lit hb3 _).grown hg3 (by simp; omega) (fun q hq => by have := own_ge hown2 q hq; omega)
          refine ⟨⟨k + j + 1, pre ++ [b], by go_num, by omega, by omega, by simp; omega, ?_, HN.out, hbox3, by simp at hz3; omega, hb4⟩, by simp [intOf]; omega⟩
          rw [← E1.out, ← E2.out]
          exact hown3
      · rw [b1] at hat
        simp only [if_true] at hat
        have HT := Lib.hid (HR.out.done hpk hat)
        obtain ⟨A, c, rfl, hr⟩ := SlB.of_own hown
        have hcv := run_str_of_bytes (P := Tryz.prog) wr 106 9 5 Tryz.underlying106 Tryz.underlying5 Tryz.underlying9 A c pre hr
        obtain ⟨X, hX⟩ : ∃ X, X = txt pre := ⟨_, rfl⟩
        rw [← hX] at hcv
        have HXX := Lib.hid hX
        clear hat hX hr hown
        go_wp2_with (refine wpList_store_tok rfl _ _ rfl rfl w.heap.size _ _ _ _ _ _ _ _ rfl rfl _ hbox ?_)
        refine bodyPost_ret (results_tok rfl _ _ w.heap.size _ _ _ _ _ (0, 0) rfl (setRow_heap _ _ _ _ _ _ hbox)) rfl ?_
        exact ⟨ret_tok HT.out (by rw [← HXX.out]; rfl) (congrArg (Value.int .i64) (by simp; omega)) rfl, below_setRow hb (Nat.le_refl _) _⟩
    · have HT := Lib.hid (HR.out.stop (str_end (by rw [HSL.out]; omega)))
      clear hown
      go_wp2_with (refine wpList_store_tok rfl _ _ rfl rfl w.heap.size _ _ _ _ _ _ _ _ rfl rfl _ hbox ?_)
      refine bodyPost_ret (results_tok rfl _ _ w.heap.size _ _ _ _ _ (0, 0) rfl (setRow_heap _ _ _ _ _ _ hbox)) rfl ?_
      exact ⟨ret_notok HT.out, below_setRow hb (Nat.le_refl _) _⟩
end Go.Proofs.YtciiemomfniecaaGreatDoor
/-
  Names, numbers and signs: the contracts of the functions that read one.
-/
namespace Go.Proofs.YtciiemomfniecaaGreatDoor
set_option maxRecDepth 100000

open Go.RowKit

theorem part_list (s : ByteArray) (a b : Nat) : (s.extract a b).data.toList = (s.data.toList.drop a).take (b - a) := Lib.extract_data s a b
set_option maxRecDepth 1000000 in
theorem tok_any (s : ByteArray) (hs : s.size ≤ 1000000) (kind p q : Nat) (hpq : p ≤ q) (hq : q ≤ s.size) (T : List UInt8) (hT : (s.data.toList.drop p).take (q - p) = T) (w : World) :
    Calls Tryz.prog 164 #[.string s, .int .i64 kind, .int .i64 p, .int .i64 q] w fun e w' => e = .returned (TokV kind (txt T) 0 p) ∧ Below w.heap.size w w' := by
  subst hT
  have hx : s.extract p q = txt ((s.data.toList.drop p).take (q - p)) := by rw [← part_list, txt_of]
  have hxs : (s.extract p q).size ≤ 1000000 := by simp; omega
  obtain ⟨X, hX⟩ : ∃ X, X = s.extract p q := ⟨_, rfl⟩
  rw [← hx, ← hX]
  rw [← hX] at hxs
  have hX' := hX.symm
  clear hx hX
  go_enter Tryz.func164, Tryz.ntmps164
  go_wp2_with fail
  refine (clone_any X (by omega) _).mono ?_
  rintro e w1 ⟨rfl, hb1⟩
  have hg1 := hb1.block w.heap.size (by simp)
  rw [heap_alloc_new] at hg1
  go_wp2_with (refine wpList_store_tok rfl _ _ rfl rfl w.heap.size _ _ _ _ _ _ _ _ rfl rfl _ hg1 ?_)
  refine bodyPost_ret (v := TokV kind X 0 p) ?_ rfl ⟨rfl, below_setRow (below_then (below_new _ _) hb1) (Nat.le_refl _) _⟩
  exact results_cell_row rfl _ _ w.heap.size 155 _ (0, 0) _ rfl (setRow_heap _ _ _ _ _ _ hg1) Tryz.underlying155 rfl infoTok

def nextS : ByteArray := ⟨#[65, 66, 67, 68, 69, 70, 71, 72, 73, 74, 75, 76, 77, 78, 79, 80, 81, 82, 83, 84, 85, 86, 87, 88, 89, 90, 97, 98, 99, 100, 101, 102, 103, 104, 105, 106, 107, 108, 109, 110, 111, 112, 113, 114, 115, 116, 117, 118, 119, 120, 121, 122, 95, 48, 49, 50, 51, 52, 53, 54, 55, 56, 57]⟩
theorem next_set (c : UInt8) : decide (0 ≤ Lib.indexByte nextS.data.toList c) = isNext c := by
  have h : ∀ k : Fin 256, decide (0 ≤ Lib.indexByte nextS.data.toList (UInt8.ofNat k.val)) = isNext (UInt8.ofNat k.val) := by decide +kernel
  have := h ⟨c.toNat, c.toNat_lt⟩
  simpa using this
theorem digit_set (c : UInt8) : decide (0 ≤ Lib.indexByte tenS.data.toList c) = isDigit c := by
  have h : ∀ k : Fin 256, decide (0 ≤ Lib.indexByte tenS.data.toList (UInt8.ofNat k.val)) = isDigit (UInt8.ofNat k.val) := by decide +kernel
  have := h ⟨c.toNat, c.toNat_lt⟩
  simpa using this
theorem drop_cons {l : List UInt8} {p : Nat} {c : UInt8} (h : l[p]? = some c) : l.drop p = c :: l.drop (p + 1) := ws_at h

set_option maxRecDepth 1000000 in
theorem name_any (s : ByteArray) (hs : s.size ≤ 1000000) (p : Nat) (c : UInt8) (hc : s.data.toList[p]? = some c) (hf : isFirst c = true) (w : World) :
    Calls Tryz.prog 135 #[.string s, .int .i64 p] w fun e w' => e = .returned (SV (tk Lib.itoa (s.data.toList.drop p)) p) ∧ Below w.heap.size w w' := by
  have hsl : s.data.toList.length = s.size := by simp
  have hp : p < s.size := by have := (List.getElem?_eq_some_iff.1 hc).1; omega
  have hd := drop_cons hc
  have hn : isNext c = true := by simp [isNext, hf]
  have hsp : span isNext (s.data.toList.drop p) = span isNext (s.data.toList.drop (p + 1)) + 1 := by rw [hd]; simp [span, hn]
  have hle := span_le isNext (s.data.toList.drop (p + 1))
  rw [List.length_drop, hsl] at hle
  have ht : tk Lib.itoa (s.data.toList.drop p) = some ⟨0, c :: (s.data.toList.drop (p + 1)).take (span isNext (s.data.toList.drop (p + 1))), 0, span isNext (s.data.toList.drop (p + 1))⟩ := by rw [hd]; simp [tk, hf]
  have hb := fun w => behind_any s hs p (by omega) nextS isNext next_set w
  rw [hsp] at hb
  have htk := fun (q : Nat) (h1 : p ≤ q) (h2 : q ≤ s.size) (T : List UInt8) (hT : (s.data.toList.drop p).take (q - p) = T) w => tok_any s hs 0 p q h1 h2 T hT w
  have hT : (s.data.toList.drop p).take (p + (span isNext (s.data.toList.drop (p + 1)) + 1) - p) = c :: (s.data.toList.drop (p + 1)).take (span isNext (s.data.toList.drop (p + 1))) := by
    rw [show p + (span isNext (s.data.toList.drop (p + 1)) + 1) - p = span isNext (s.data.toList.drop (p + 1)) + 1 by omega, hd, List.take_succ_cons]
  rw [ht]
  have htk2 := htk _ (by omega) (by omega) _ hT
  generalize (c :: (s.data.toList.drop (p + 1)).take (span isNext (s.data.toList.drop (p + 1)))) = T at *
  generalize span isNext (s.data.toList.drop (p + 1)) = m at *
  have HB := Lib.hid hb
  have HT := Lib.hid htk2
  have hq : p + (m + 1) ≤ s.size := by omega
  clear hb htk htk2 hT ht hsp hle hd hc hsl
  generalize hqq : p + (m + 1) = q at *
  have HE := Lib.hid hqq
  clear hqq
  go_enter Tryz.func135, Tryz.ntmps135
  go_wp2_with fail
  refine (HB.out _).mono ?_
  rintro e w1 ⟨rfl, rfl⟩
  go_wp2_with fail
  refine (HT.out _).mono ?_
  unfold TokV
  rintro e w2 ⟨rfl, hb2⟩
  have hg2 := hb2.block w.heap.size (by simp)
  rw [heap_alloc_new] at hg2
  go_wp2_with (refine wpList_store_tok rfl _ _ rfl rfl w.heap.size _ _ _ _ _ _ _ _ rfl rfl _ hg2 ?_)
  refine bodyPost_ret (results_tok rfl _ _ w.heap.size _ _ _ _ _ (0, 0) rfl (setRow_heap _ _ _ _ _ _ hg2)) rfl ?_
  exact ⟨ret_tok rfl rfl (congrArg (Value.int .i64) (by have := HE.out; simp; omega)) rfl, below_setRow (below_then (below_new _ _) hb2) (Nat.le_refl _) _⟩

set_option maxRecDepth 1000000 in
theorem sign_any (s : ByteArray) (hs : s.size ≤ 1000000) (p : Nat) (c : UInt8) (hc : s.data.toList[p]? = some c) (ht : tk Lib.itoa (s.data.toList.drop p) = some ⟨3, [c], 0, 0⟩) (w : World) :
    Calls Tryz.prog 136 #[.string s, .int .i64 p] w fun e w' => e = .returned (SV (tk Lib.itoa (s.data.toList.drop p)) p) ∧ Below w.heap.size w w' := by
  have hsl : s.data.toList.length = s.size := by simp
  have hp : p < s.size := by have := (List.getElem?_eq_some_iff.1 hc).1; omega
  have hd := drop_cons hc
  have hT : (s.data.toList.drop p).take (p + 1 - p) = [c] := by rw [show p + 1 - p = 1 by omega, hd]; rfl
  have htk := tok_any s hs 3 p (p + 1) (by omega) (by omega) [c] hT
  rw [ht]
  simp only [Int.natCast_add, Int.cast_ofNat_Int] at htk
  have HT := Lib.hid htk
  clear htk hT ht hd hc hsl
  go_enter Tryz.func136, Tryz.ntmps136
  go_wp2_with fail
  refine (HT.out _).mono ?_
  unfold TokV
  rintro e w2 ⟨rfl, hb2⟩
  have hg2 := hb2.block w.heap.size (by simp)
  rw [heap_alloc_new] at hg2
  go_wp2_with (refine wpList_store_tok rfl _ _ rfl rfl w.heap.size _ _ _ _ _ _ _ _ rfl rfl _ hg2 ?_)
  refine bodyPost_ret (results_tok rfl _ _ w.heap.size _ _ _ _ _ (0, 0) rfl (setRow_heap _ _ _ _ _ _ hg2)) rfl ?_
  exact ⟨ret_tok rfl rfl (congrArg (Value.int .i64) (by simp)) rfl, below_setRow (below_then (below_new _ _) hb2) (Nat.le_refl _) _⟩

theorem num_none {l : List UInt8} {c : UInt8} {r T : List UInt8} (hd : l = c :: r) (hc : c = 45 ∨ isDigit c = true) (hT : T = c :: r.take (span isDigit r)) :
    tk Lib.itoa l = (numOf Lib.itoa T).map fun n => ⟨1, T, n, span isDigit r⟩ := by
  subst hd hT
  have h1 : isFirst c = false := by
    rcases hc with rfl | hc
    · rfl
    · simp only [isDigit, Bool.and_eq_true, decide_eq_true_eq] at hc
      have : c ≠ 95 := by intro e; subst e; simp at hc
      have h95 : (c == 95) = false := by simpa using this
      simp only [isFirst, h95, Bool.or_false, Bool.or_eq_false_iff, Bool.and_eq_false_iff, decide_eq_false_iff_not]
      omega
  have h2 : (isDigit c || c == 45) = true := by
    rcases hc with rfl | hc
    · simp
    · simp [hc]
  simp only [tk, h1, h2, if_true, Bool.false_eq_true, if_false]

set_option maxRecDepth 1000000 in
set_option maxHeartbeats 1000000 in
theorem num_any (s : ByteArray) (hs : s.size ≤ 1000000) (p : Nat) (c : UInt8) (hc : s.data.toList[p]? = some c) (hf : c = 45 ∨ isDigit c = true) (w : World) (LV : Laid w) :
    Calls Tryz.prog 134 #[.string s, .int .i64 p] w fun e w' => e = .returned (SV (tk Lib.itoa (s.data.toList.drop p)) p) ∧ Below w.heap.size w w' := by
  have hsl : s.data.toList.length = s.size := by simp
  have hp : p < s.size := by have := (List.getElem?_eq_some_iff.1 hc).1; omega
  have hd := drop_cons hc
  have hle := span_le isDigit (s.data.toList.drop (p + 1))
  rw [List.length_drop, hsl] at hle
  have ht := num_none hd hf rfl
  have hb : ∀ w, Calls Tryz.prog 137 #[.string s, .int .i64 ((p : Int) + 1), .string ⟨#[48, 49, 50, 51, 52, 53, 54, 55, 56, 57]⟩] w fun e w' => e = .returned (.int .i64 ((p + 1 + span isDigit (s.data.toList.drop (p + 1)) : Nat) : Int)) ∧ w = w' := fun w => behind_any s hs (p + 1) (by omega) tenS isDigit digit_set w
  have hT : (s.data.toList.drop p).take (p + 1 + span isDigit (s.data.toList.drop (p + 1)) - p) = c :: (s.data.toList.drop (p + 1)).take (span isDigit (s.data.toList.drop (p + 1))) := by
    rw [show p + 1 + span isDigit (s.data.toList.drop (p + 1)) - p = span isDigit (s.data.toList.drop (p + 1)) + 1 by omega, hd, List.take_succ_cons]
  have hnt : numText (c :: (s.data.toList.drop (p + 1)).take (span isDigit (s.data.toList.drop (p + 1)))) := ⟨c, _, rfl, hf, fun d hd => span_all isDigit _ d hd⟩
  have htk := tok_any s hs 1 p _ (by omega) (by omega) _ hT
  have htl : (c :: (s.data.toList.drop (p + 1)).take (span isDigit (s.data.toList.drop (p + 1)))).length ≤ 1000000 := by
    have := congrArg List.length hT
    rw [List.length_take, List.length_drop, hsl] at this
    omega
  rw [ht]
  obtain ⟨hcn1, hcn2⟩ := code_num hnt
  generalize (c :: (s.data.toList.drop (p + 1)).take (span isDigit (s.data.toList.drop (p + 1)))) = T at *
  generalize span isDigit (s.data.toList.drop (p + 1)) = m at *
  have HB := Lib.hid hb
  have HT := Lib.hid htk
  have hq : p + 1 + m ≤ s.size := by omega
  clear hb htk hT ht hle hd hc hsl hf hnt
  generalize hqq : p + 1 + m = q at *
  have HE := Lib.hid hqq
  clear hqq
  have hts : (txt T).size ≤ 1000000 := by rw [txt_size]; exact htl
  have htd : (txt T).data.toList = T := txt_list T
  obtain ⟨X, hX⟩ : ∃ X, X = txt T := ⟨_, rfl⟩
  rw [← hX] at hts htd HT
  have HX := Lib.hid hX
  clear hX
  by_cases hok : ∃ v, Lib.parseIntB 64 T = .ok v
  · obtain ⟨v, hv⟩ := hok
    have HNUM := Lib.hid (hcn1 v hv)
    have hvb := Lib.parseIntB_bounds hv
    have hv0 : -9223372036854775808 ≤ v := by simpa using hvb.1
    have hv1 : v ≤ 9223372036854775807 := by have := hvb.2; simp at this; omega
    have HP := Lib.hid (parse_ok X hts v (by rw [htd]; exact hv))
    clear hcn1 hcn2 hv hvb htd htl
    go_enter Tryz.func134, Tryz.ntmps134
    go_wp2_with fail
    refine (HB.out _).mono ?_
    rintro e w1 ⟨rfl, rfl⟩
    go_wp2_with fail
    refine (HT.out _).mono ?_
    unfold TokV
    rintro e w2 ⟨rfl, hb2⟩
    have hg2 := hb2.block w.heap.size (by simp)
    rw [heap_alloc_new] at hg2
    have hb3 := below_then (below_new _ _) hb2
    have hs3 : w.heap.size < w2.heap.size := by have := hb2.size; simp at this; omega
    go_wp2_with fail
    refine (HP.out _).mono ?_
    rintro e w4 ⟨rfl, hb4⟩
    have hg4 := (hb4.block w2.heap.size (by simp)).trans (heap_alloc_new w2 _)
    have hg0 := (hb4.block w.heap.size (by simp; omega)).trans ((Below.heap_alloc w2 _ w.heap.size hs3).trans hg2)
    have hb5 : Below w.heap.size w w4 := below_then (below_lit hb3 _) hb4
    have hs4 : w2.heap.size < w4.heap.size := (Array.getElem?_eq_some_iff.1 hg4).1
    have hc4 : w4.cell? ⟨w2.heap.size, 1, none⟩ = some (.string X) := by simp [World.cell?, hg4]
    have L4 : Laid w4.drew := (LV.on hb5).on (Below.refl _ _).drew
    obtain ⟨Y, hY⟩ : ∃ Y, Y = txt (Lib.itoa v) := ⟨_, rfl⟩
    have HY := Lib.hid hY
    have hdig := fun w (L : Laid w) => digits_any v hv0 hv1 w L
    rw [← hY] at hdig
    have HDG := Lib.hid hdig
    clear hdig hY
    go_wp2_with fail
    go_region_held3 (fun w' => w'.cell? ⟨w2.heap.size, 1, none⟩ = some (.string X))
      (first | go_keep | (rw [Below.cell hb6 (by show w2.heap.size < w4.heap.size; exact hs4)]; assumption))
      ((first
        | (go_at_call 112; refine (HDG.out _ L4).mono ?_; rintro e w6 ⟨rfl, hb6⟩)))
    have hb7 : Below w.heap.size w w6 := below_then (hb5.drew) hb6
    have hg6 := (hb6.block w2.heap.size hs4).trans hg4
    have hg60 := (hb6.block w.heap.size (by show w.heap.size < w4.heap.size; omega)).trans hg0
    have hfr : w6.frozen? ⟨w2.heap.size, 2, none⟩ = false := by simp [World.frozen?, hg6]
    have hd0 : w6.cell? ⟨w2.heap.size, 0, none⟩ = some (.int .i64 1) := by simp [World.cell?, hg6]
    have hd1 : w6.cell? ⟨w2.heap.size, 1, none⟩ = some (.string X) := by simp [World.cell?, hg6]
    have hd2 : w6.cell? ⟨w2.heap.size, 2, none⟩ = some (.int .i64 0) := by simp [World.cell?, hg6]
    have hd3 : w6.cell? ⟨w2.heap.size, 3, none⟩ = some (.int .i64 p) := by simp [World.cell?, hg6]
    by_cases he : Lib.itoa v = T
    · have hN := HNUM.out
      rw [if_pos he] at hN
      have HN := Lib.hid hN
      have bE : (!(Y.toList == X.toList)) = false := by rw [HY.out, HX.out, he]; simp
      rw [bE]
      clear hN he bE
      have hgS : (w6.setCell ⟨w2.heap.size, 2, none⟩ (.int .i64 v)).heap[w.heap.size]? = _ := (Below.heap_setCell w6 _ _ w.heap.size (by show w.heap.size ≠ w2.heap.size; omega)).trans hg60
      have hb8 : Below w.heap.size w (w6.setCell ⟨w2.heap.size, 2, none⟩ (.int .i64 v)) := hb7.setCell (by show w.heap.size ≤ w2.heap.size; omega) _
      go_wp2_with (refine wpList_store_tok rfl _ _ rfl rfl w.heap.size _ _ _ _ _ _ _ _ rfl rfl _ hgS ?_)
      refine bodyPost_ret (results_tok rfl _ _ w.heap.size _ _ _ _ _ (0, 0) rfl (setRow_heap _ _ _ _ _ _ hgS)) rfl ?_
      exact ⟨ret_tok (by rw [HN.out]; rfl) (by rw [HX.out]; rfl) (congrArg (Value.int .i64) (by have := HE.out; simp; omega)) rfl, below_setRow hb8 (Nat.le_refl _) _⟩
    · have hN := HNUM.out
      rw [if_neg he] at hN
      have HN := Lib.hid hN
      have bE : (!(Y.toList == X.toList)) = true := by
        rw [Bool.not_eq_true', beq_eq_false_iff_ne, HY.out, HX.out, Lib.toList_data, Lib.toList_data, txt_list, txt_list]
        exact he
      rw [bE]
      clear hN he bE
      go_wp2_with (refine wpList_store_tok rfl _ _ rfl rfl w.heap.size _ _ _ _ _ _ _ _ rfl rfl _ hg60 ?_)
      refine bodyPost_ret (results_tok rfl _ _ w.heap.size _ _ _ _ _ (0, 0) rfl (setRow_heap _ _ _ _ _ _ hg60)) rfl ?_
      exact ⟨ret_notok (by rw [HN.out]; rfl), below_setRow hb7 (Nat.le_refl _) _⟩
  · have hno : ∀ v, Lib.parseIntB 64 T ≠ .ok v := fun v hv => hok ⟨v, hv⟩
    have HN := Lib.hid (hcn2 hno)
    have hp2 := fun w (L : Laid w) => parse_not X hts (by rw [htd]; exact hno) w L
    have HP := Lib.hid hp2
    clear hcn1 hcn2 htd htl hp2 hok hno
    go_enter Tryz.func134, Tryz.ntmps134
    go_wp2_with fail
    refine (HB.out _).mono ?_
    rintro e w1 ⟨rfl, rfl⟩
    go_wp2_with fail
    refine (HT.out _).mono ?_
    unfold TokV
    rintro e w2 ⟨rfl, hb2⟩
    have hg2 := hb2.block w.heap.size (by simp)
    rw [heap_alloc_new] at hg2
    have hb3 := below_then (below_new _ _) hb2
    have hs3 : w.heap.size < w2.heap.size := by have := hb2.size; simp at this; omega
    go_wp2_with fail
    refine (HP.out _ ((LV.on hb3).on (below_new _ _))).mono ?_
    rintro e w4 ⟨v, tt, pp, rfl, hb4⟩
    have hg0 := (hb4.block w.heap.size (by simp; omega)).trans ((Below.heap_alloc w2 _ w.heap.size hs3).trans hg2)
    have hb5 : Below w.heap.size w w4 := below_then (below_lit hb3 _) hb4
    go_wp2_with fail
    go_quiet (fail)
    have hg0' : (w4.drewN nq).heap[w.heap.size]? = _ := hg0
    have hb6 : Below w.heap.size w (w4.drewN nq) := below_draws hb5 nq
    clear hb5 hg0
    go_wp2_with (refine wpList_store_tok rfl _ _ rfl rfl w.heap.size _ _ _ _ _ _ _ _ rfl rfl _ hg0' ?_)
    refine bodyPost_ret (results_tok rfl _ _ w.heap.size _ _ _ _ _ (0, 0) rfl (setRow_heap _ _ _ _ _ _ hg0')) rfl ?_
    exact ⟨ret_notok (by rw [HN.out]; rfl), below_setRow hb6 (Nat.le_refl _) _⟩
end Go.Proofs.YtciiemomfniecaaGreatDoor
