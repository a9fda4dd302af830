/-
  A string's token: the contract of the function that reads it.
-/
import Derived.Test.YtciiemomfniecaaGreatDoorProSees
import Derived.Deep.RegionHeld3
import Derived.Deep.QuietTactic
import Derived.Maps.OwnSet
namespace Go.Proofs.YtciiemomfniecaaGreatDoor
set_option maxRecDepth 100000

open Go.RowKit

theorem str_at {l : List UInt8} {k : Nat} {c : UInt8} (h : l[k]? = some c) : strB 0 (l.drop k) = if c == 34 then some ([], 1) else match meant (l.drop k) with | none => none | some x => (strB 0 (l.drop (k + x.2 + 1))).map fun y => (x.1 :: y.1, y.2 + x.2 + 1) := by
  rw [ws_at h]
  simp only [strB]
  cases hm : meant (c :: l.drop (k + 1)) with
  | none => rfl
  | some x =>
    obtain ⟨b, j⟩ := x
    simp only
    rw [strB_skip j, List.drop_drop, show k + 1 + j = k + j + 1 by omega]
    cases strB 0 (l.drop (k + j + 1)) <;> rfl
theorem str_end {l : List UInt8} {k : Nat} (h : l.length ≤ k) : strB 0 (l.drop k) = none := by
  rw [List.drop_of_length_le h]; rfl
/-- What has been read so far of a string. -/
def StrRel (L : List UInt8) (p k : Nat) (pre : List UInt8) : Prop := strB 0 (L.drop (p + 1)) = (strB 0 (L.drop k)).map fun x => (pre ++ x.1, x.2 + (k - (p + 1)))
theorem StrRel.next {L : List UInt8} {p k j : Nat} {pre : List UInt8} {b : UInt8} (h : StrRel L p k pre) (hk : p < k) (hs : strB 0 (L.drop k) = (strB 0 (L.drop (k + j + 1))).map fun y => (b :: y.1, y.2 + j + 1)) : StrRel L p (k + j + 1) (pre ++ [b]) := by
  unfold StrRel at *
  rw [h, hs]
  cases strB 0 (L.drop (k + j + 1)) with
  | none => rfl
  | some x => simp; omega
theorem StrRel.stop {L : List UInt8} {p k : Nat} {pre : List UInt8} (h : StrRel L p k pre) (hs : strB 0 (L.drop k) = none) : strT (L.drop (p + 1)) = none := by
  unfold StrRel at h
  unfold strT
  rw [h, hs]; rfl
theorem StrRel.done {L : List UInt8} {p k : Nat} {pre : List UInt8} (h : StrRel L p k pre) (hk : p < k) (hs : strB 0 (L.drop k) = some ([], 1)) : strT (L.drop (p + 1)) = some ⟨2, pre, 0, k - p⟩ := by
  unfold StrRel at h
  unfold strT
  rw [h, hs]
  simp; omega
theorem ret_tok {o : Option Tk} {t : Tk} {p : Nat} {x y z : Value} (h : o = some t) (hx : x = TokV t.kind (txt t.text) t.num p) (hy : y = .int .i64 ((p + t.more + 1 : Nat) : Int)) (hz : z = .bool true) : Ending.returned (.tuple #[x, y, z]) = .returned (SV o p) := by
  subst h hx hy hz; rfl
theorem ret_notok {o : Option Tk} {p : Nat} (h : o = none) : Ending.returned (.tuple #[.agg #[.int .i64 0, .string ⟨#[]⟩, .int .i64 0, .int .i64 0], .int .i64 0, .bool false]) = .returned (SV o p) := by
  subst h; rfl

set_option maxRecDepth 1000000 in
set_option maxHeartbeats 1000000 in
theorem str_any (s : ByteArray) (hs : s.size ≤ 1000000) (p : Nat) (hp : p < s.size) (w : World) :
    Calls Tryz.prog 133 #[.string s, .int .i64 p] w fun e w' => e = .returned (SV (strT (s.data.toList.drop (p + 1))) p) ∧ Below w.heap.size w w' := by
  obtain ⟨i0, hi, hz0, hz1, hz2⟩ := info_parts info_u8
  have hsl : s.data.toList.length = s.size := by simp
  have hsg := at_list s
  have hmk := fun k hk w => meant_any s hs k hk w
  generalize s.data.toList = L at *
  have HSL := Lib.hid hsl
  have HSG := Lib.hid hsg
  have HMK := Lib.hid hmk
  clear hsl hsg hmk
  go_enter Tryz.func133, Tryz.ntmps133
  go_wp2_with fail
  go_loopw [7, 8] (fun v i wr => ∃ (k : Nat) (pre : List UInt8), i = .int .i64 k ∧ p < k ∧ k ≤ s.size ∧ pre.length ≤ k ∧ wr.ownsRow (w.heap.size + 1) 5 1 v pre.length (bs pre) ∧ StrRel L p k pre ∧ wr.heap[w.heap.size]? = some (.cells #[.int .i64 0, .string ⟨#[]⟩, .int .i64 0, .int .i64 0] 155 (0, 0)) ∧ w.heap.size + 1 ≤ wr.heap.size ∧ Below w.heap.size w wr) (fun _ i _ => s.size - (intOf i).toNat)
  case atStart => exact ⟨p + 1, [], by simp, by omega, by omega, by simp, World.ownsRow_nil _ _ _ _, by unfold StrRel; cases strB 0 (L.drop (p + 1)) <;> simp, heap_alloc_new _ _, by simp, below_new _ _⟩
  case round =>
    obtain ⟨k, pre, rfl, hpk, hk, hpl, hown, hrel, hbox, hsz, hb⟩ := hrel
    have HR := Lib.hid hrel
    clear hrel
    by_cases h1 : k < s.size
    · have HX := Lib.hid (HSG.out k h1)
      have hat := str_at HX.out
      have e34 : ((s[k].toNat : Int) == 34) = (s[k] == 34) := u8_eq s[k] 34 (by decide)
      rw [← e34] at hat
      clear e34
      cases b1 : ((s[k].toNat : Int) == 34)
      · rw [b1] at hat
        simp only [Bool.false_eq_true, if_false] at hat
        have hm2 := fun x (h : meant (L.drop k) = some x) => meant_more (l := L.drop k) (b := x.1) (k := x.2) h
        have hmk := HMK.out k h1
        have hdl : (L.drop k).length = s.size - k := by rw [List.length_drop, HSL.out]
        rw [hdl] at hm2
        generalize hO : meant (L.drop k) = O at *
        clear hO hdl
        cases O with
        | none =>
          have HT := Lib.hid (HR.out.stop hat)
          clear hat hm2
          go_wp2_with fail
          refine (hmk _).mono ?_
          unfold MV
          rintro e w2 ⟨rfl, hb2⟩
          have hbox2 := (hb2.block w.heap.size (by omega)).trans hbox
          clear hbox hown
          have hb3 := below_then hb hb2
          go_wp2_with (refine wpList_store_tok rfl _ _ rfl rfl w.heap.size _ _ _ _ _ _ _ _ rfl rfl _ hbox2 ?_)
          refine bodyPost_ret (results_tok rfl _ _ w.heap.size _ _ _ _ _ (0, 0) rfl (setRow_heap _ _ _ _ _ _ hbox2)) rfl ?_
          exact ⟨ret_notok HT.out, below_setRow hb3 (Nat.le_refl _) _⟩
        | some x =>
          obtain ⟨b, j⟩ := x
          have hj := hm2 _ rfl
          simp only at hj hat
          have HN := Lib.hid (HR.out.next hpk hat)
          clear hat hm2
          go_wp2_with fail
          refine (hmk _).mono ?_
          unfold MV
          rintro e w2 ⟨rfl, hb2⟩
          have hbox2 := (hb2.block w.heap.size (by omega)).trans hbox
          have hown2 := own_below hown hb2
          have hsz2 := hb2.size
          have hb3 := below_then hb hb2
          clear hbox hown
          have E1 := Lib.hid (bs_snoc pre b)
          have E2 : Hid (pre.length + 1 = (pre ++ [b]).length) := Lib.hid (by simp)
          go_wp2_with (at_builtin; refine wpList_app1 rfl _ _ 106 rfl (w.heap.size + 1) 5 i0 (.int .u8 0) 1 Tryz.underlying106 hi hz0 hz1 hz2 rfl _ pre.length (bs pre) rfl (hown2.alloc _) w2.heap.size 1 _ rfl (World.cell?_alloc_at _ _ _ _ rfl) rfl (by unfold maxLen; omega) (by omega) (by simp; omega) ?_; intro v3 w3 hown3 hg3)
          have hz3 := hg3.size
          have hbox3 := box_grown ((Below.heap_alloc w2 (Obj.cells #[Value.int .u8 (b.toNat : Int)] 5) w.heap.size (by omega)).trans hbox2) hg3 (own_ge hown2) (by omega)
          have hb4 : Below w.heap.size w w3 := (below_lit hb3 _).grown hg3 (by simp; omega) (fun q hq => by have := own_ge hown2 q hq; omega)
          refine ⟨⟨k + j + 1, pre ++ [b], by go_num, by omega, by omega, by simp; omega, ?_, HN.out, hbox3, by simp at hz3; omega, hb4⟩, by simp [intOf]; omega⟩
          rw [← E1.out, ← E2.out]
          exact hown3
      · rw [b1] at hat
        simp only [if_true] at hat
        have HT := Lib.hid (HR.out.done hpk hat)
        obtain ⟨A, c, rfl, hr⟩ := SlB.of_own hown
        have hcv := run_str_of_bytes (P := Tryz.prog) wr 106 9 5 Tryz.underlying106 Tryz.underlying5 Tryz.underlying9 A c pre hr
        obtain ⟨X, hX⟩ : ∃ X, X = txt pre := ⟨_, rfl⟩
        rw [← hX] at hcv
        have HXX := Lib.hid hX
        clear hat hX hr hown
        go_wp2_with (refine wpList_store_tok rfl _ _ rfl rfl w.heap.size _ _ _ _ _ _ _ _ rfl rfl _ hbox ?_)
        refine bodyPost_ret (results_tok rfl _ _ w.heap.size _ _ _ _ _ (0, 0) rfl (setRow_heap _ _ _ _ _ _ hbox)) rfl ?_
        exact ⟨ret_tok HT.out (by rw [← HXX.out]; rfl) (congrArg (Value.int .i64) (by simp; omega)) rfl, below_setRow hb (Nat.le_refl _) _⟩
    · have HT := Lib.hid (HR.out.stop (str_end (by rw [HSL.out]; omega)))
      clear hown
      go_wp2_with (refine wpList_store_tok rfl _ _ rfl rfl w.heap.size _ _ _ _ _ _ _ _ rfl rfl _ hbox ?_)
      refine bodyPost_ret (results_tok rfl _ _ w.heap.size _ _ _ _ _ (0, 0) rfl (setRow_heap _ _ _ _ _ _ hbox)) rfl ?_
      exact ⟨ret_notok HT.out, below_setRow hb (Nat.le_refl _) _⟩
end Go.Proofs.YtciiemomfniecaaGreatDoor
/-
  Names, numbers and signs: the contracts of the functions that read one.
-/
namespace Go.Proofs.YtciiemomfniecaaGreatDoor
set_option maxRecDepth 100000

open Go.RowKit

theorem part_list (s : ByteArray) (a b : Nat) : (s.extract a b).data.toList = (s.data.toList.drop a).take (b - a) := Lib.extract_data s a b
set_option maxRecDepth 1000000 in
theorem tok_any (s : ByteArray) (hs : s.size ≤ 1000000) (kind p q : Nat) (hpq : p ≤ q) (hq : q ≤ s.size) (T : List UInt8) (hT : (s.data.toList.drop p).take (q - p) = T) (w : World) :
    Calls Tryz.prog 164 #[.string s, .int .i64 kind, .int .i64 p, .int .i64 q] w fun e w' => e = .returned (TokV kind (txt T) 0 p) ∧ Below w.heap.size w w' := by
  subst hT
  have hx : s.extract p q = txt ((s.data.toList.drop p).take (q - p)) := by rw [← part_list, txt_of]
  have hxs : (s.extract p q).size ≤ 1000000 := by simp; omega
  obtain ⟨X, hX⟩ : ∃ X, X = s.extract p q := ⟨_, rfl⟩
  rw [← hx, ← hX]
  rw [← hX] at hxs
  have hX' := hX.symm
  clear hx hX
  go_enter Tryz.func164, Tryz.ntmps164
  go_wp2_with fail
  refine (clone_any X (by omega) _).mono ?_
  rintro e w1 ⟨rfl, hb1⟩
  have hg1 := hb1.block w.heap.size (by simp)
  rw [heap_alloc_new] at hg1
  go_wp2_with (refine wpList_store_tok rfl _ _ rfl rfl w.heap.size _ _ _ _ _ _ _ _ rfl rfl _ hg1 ?_)
  refine bodyPost_ret (v := TokV kind X 0 p) ?_ rfl ⟨rfl, below_setRow (below_then (below_new _ _) hb1) (Nat.le_refl _) _⟩
  exact results_cell_row rfl _ _ w.heap.size 155 _ (0, 0) _ rfl (setRow_heap _ _ _ _ _ _ hg1) Tryz.underlying155 rfl infoTok

def nextS : ByteArray := ⟨#[65, 66, 67, 68, 69, 70, 71, 72, 73, 74, 75, 76, 77, 78, 79, 80, 81, 82, 83, 84, 85, 86, 87, 88, 89, 90, 97, 98, 99, 100, 101, 102, 103, 104, 105, 106, 107, 108, 109, 110, 111, 112, 113, 114, 115, 116, 117, 118, 119, 120, 121, 122, 95, 48, 49, 50, 51, 52, 53, 54, 55, 56, 57]⟩
theorem next_set (c : UInt8) : decide (0 ≤ Lib.indexByte nextS.data.toList c) = isNext c := by
  have h : ∀ k : Fin 256, decide (0 ≤ Lib.indexByte nextS.data.toList (UInt8.ofNat k.val)) = isNext (UInt8.ofNat k.val) := by decide +kernel
  have := h ⟨c.toNat, c.toNat_lt⟩
  simpa using this
theorem digit_set (c : UInt8) : decide (0 ≤ Lib.indexByte tenS.data.toList c) = isDigit c := by
  have h : ∀ k : Fin 256, decide (0 ≤ Lib.indexByte tenS.data.toList (UInt8.ofNat k.val)) = isDigit (UInt8.ofNat k.val) := by decide +kernel
  have := h ⟨c.toNat, c.toNat_lt⟩
  simpa using this
theorem drop_cons {l : List UInt8} {p : Nat} {c : UInt8} (h : l[p]? = some c) : l.drop p = c :: l.drop (p + 1) := ws_at h

set_option maxRecDepth 1000000 in
theorem name_any (s : ByteArray) (hs : s.size ≤ 1000000) (p : Nat) (c : UInt8) (hc : s.data.toList[p]? = some c) (hf : isFirst c = true) (w : World) :
    Calls Tryz.prog 135 #[.string s, .int .i64 p] w fun e w' => e = .returned (SV (tk Lib.itoa (s.data.toList.drop p)) p) ∧ Below w.heap.size w w' := by
  have hsl : s.data.toList.length = s.size := by simp
  have hp : p < s.size := by have := (List.getElem?_eq_some_iff.1 hc).1; omega
  have hd := drop_cons hc
  have hn : isNext c = true := by simp [isNext, hf]
  have hsp : span isNext (s.data.toList.drop p) = span isNext (s.data.toList.drop (p + 1)) + 1 := by rw [hd]; simp [span, hn]
  have hle := span_le isNext (s.data.toList.drop (p + 1))
  rw [List.length_drop, hsl] at hle
  have ht : tk Lib.itoa (s.data.toList.drop p) = some ⟨0, c :: (s.data.toList.drop (p + 1)).take (span isNext (s.data.toList.drop (p + 1))), 0, span isNext (s.data.toList.drop (p + 1))⟩ := by rw [hd]; simp [tk, hf]
  have hb := fun w => behind_any s hs p (by omega) nextS isNext next_set w
  rw [hsp] at hb
  have htk := fun (q : Nat) (h1 : p ≤ q) (h2 : q ≤ s.size) (T : List UInt8) (hT : (s.data.toList.drop p).take (q - p) = T) w => tok_any s hs 0 p q h1 h2 T hT w
  have hT : (s.data.toList.drop p).take (p + (span isNext (s.data.toList.drop (p + 1)) + 1) - p) = c :: (s.data.toList.drop (p + 1)).take (span isNext (s.data.toList.drop (p + 1))) := by
    rw [show p + (span isNext (s.data.toList.drop (p + 1)) + 1) - p = span isNext (s.data.toList.drop (p + 1)) + 1 by omega, hd, List.take_succ_cons]
  rw [ht]
  have htk2 := htk _ (by omega) (by omega) _ hT
  generalize (c :: (s.data.toList.drop (p + 1)).take (span isNext (s.data.toList.drop (p + 1)))) = T at *
  generalize span isNext (s.data.toList.drop (p + 1)) = m at *
  have HB := Lib.hid hb
  have HT := Lib.hid htk2
  have hq : p + (m + 1) ≤ s.size := by omega
  clear hb htk htk2 hT ht hsp hle hd hc hsl
  generalize hqq : p + (m + 1) = q at *
  have HE := Lib.hid hqq
  clear hqq
  go_enter Tryz.func135, Tryz.ntmps135
  go_wp2_with fail
  refine (HB.out _).mono ?_
  rintro e w1 ⟨rfl, rfl⟩
  go_wp2_with fail
  refine (HT.out _).mono ?_
  unfold TokV
  rintro e w2 ⟨rfl, hb2⟩
  have hg2 := hb2.block w.heap.size (by simp)
  rw [heap_alloc_new] at hg2
  go_wp2_with (refine wpList_store_tok rfl _ _ rfl rfl w.heap.size _ _ _ _ _ _ _ _ rfl rfl _ hg2 ?_)
  refine bodyPost_ret (results_tok rfl _ _ w.heap.size _ _ _ _ _ (0, 0) rfl (setRow_heap _ _ _ _ _ _ hg2)) rfl ?_
  exact ⟨ret_tok rfl rfl (congrArg (Value.int .i64) (by have := HE.out; simp; omega)) rfl, below_setRow (below_then (below_new _ _) hb2) (Nat.le_refl _) _⟩

set_option maxRecDepth 1000000 in
theorem sign_any (s : ByteArray) (hs : s.size ≤ 1000000) (p : Nat) (c : UInt8) (hc : s.data.toList[p]? = some c) (ht : tk Lib.itoa (s.data.toList.drop p) = some ⟨3, [c], 0, 0⟩) (w : World) :
    Calls Tryz.prog 136 #[.string s, .int .i64 p] w fun e w' => e = .returned (SV (tk Lib.itoa (s.data.toList.drop p)) p) ∧ Below w.heap.size w w' := by
  have hsl : s.data.toList.length = s.size := by simp
  have hp : p < s.size := by have := (List.getElem?_eq_some_iff.1 hc).1; omega
  have hd := drop_cons hc
  have hT : (s.data.toList.drop p).take (p + 1 - p) = [c] := by rw [show p + 1 - p = 1 by omega, hd]; rfl
  have htk := tok_any s hs 3 p (p + 1) (by omega) (by omega) [c] hT
  rw [ht]
  simp only [Int.natCast_add, Int.cast_ofNat_Int] at htk
  have HT := Lib.hid htk
  clear htk hT ht hd hc hsl
  go_enter Tryz.func136, Tryz.ntmps136
  go_wp2_with fail
  refine (HT.out _).mono ?_
  unfold TokV
  rintro e w2 ⟨rfl, hb2⟩
  have hg2 := hb2.block w.heap.size (by simp)
  rw [heap_alloc_new] at hg2
  go_wp2_with (refine wpList_store_tok rfl _ _ rfl rfl w.heap.size _ _ _ _ _ _ _ _ rfl rfl _ hg2 ?_)
  refine bodyPost_ret (results_tok rfl _ _ w.heap.size _ _ _ _ _ (0, 0) rfl (setRow_heap _ _ _ _ _ _ hg2)) rfl ?_
  exact ⟨ret_tok rfl rfl (congrArg (Value.int .i64) (by simp)) rfl, below_setRow (below_then (below_new _ _) hb2) (Nat.le_refl _) _⟩

theorem num_none {l : List UInt8} {c : UInt8} {r T : List UInt8} (hd : l = c :: r) (hc : c = 45 ∨ isDigit c = true) (hT : T = c :: r.take (span isDigit r)) :
    tk Lib.itoa l = (numOf Lib.itoa T).map fun n => ⟨1, T, n, span isDigit r⟩ := by
  subst hd hT
  have h1 : isFirst c = false := by
    rcases hc with rfl | hc
    · rfl
    · simp only [isDigit, Bool.and_eq_true, decide_eq_true_eq] at hc
      have : c ≠ 95 := by intro e; subst e; simp at hc
      have h95 : (c == 95) = false := by simpa using this
      simp only [isFirst, h95, Bool.or_false, Bool.or_eq_false_iff, Bool.and_eq_false_iff, decide_eq_false_iff_not]
      omega
  have h2 : (isDigit c || c == 45) = true := by
    rcases hc with rfl | hc
    · simp
    · simp [hc]
  simp only [tk, h1, h2, if_true, Bool.false_eq_true, if_false]

set_option maxRecDepth 1000000 in
set_option maxHeartbeats 1000000 in
theorem num_any (s : ByteArray) (hs : s.size ≤ 1000000) (p : Nat) (c : UInt8) (hc : s.data.toList[p]? = some c) (hf : c = 45 ∨ isDigit c = true) (w : World) (LV : Laid w) :
    Calls Tryz.prog 134 #[.string s, .int .i64 p] w fun e w' => e = .returned (SV (tk Lib.itoa (s.data.toList.drop p)) p) ∧ Below w.heap.size w w' := by
  have hsl : s.data.toList.length = s.size := by simp
  have hp : p < s.size := by have := (List.getElem?_eq_some_iff.1 hc).1; omega
  have hd := drop_cons hc
  have hle := span_le isDigit (s.data.toList.drop (p + 1))
  rw [List.length_drop, hsl] at hle
  have ht := num_none hd hf rfl
  have hb : ∀ w, Calls Tryz.prog 137 #[.string s, .int .i64 ((p : Int) + 1), .string ⟨#[48, 49, 50, 51, 52, 53, 54, 55, 56, 57]⟩] w fun e w' => e = .returned (.int .i64 ((p + 1 + span isDigit (s.data.toList.drop (p + 1)) : Nat) : Int)) ∧ w = w' := fun w => behind_any s hs (p + 1) (by omega) tenS isDigit digit_set w
  have hT : (s.data.toList.drop p).take (p + 1 + span isDigit (s.data.toList.drop (p + 1)) - p) = c :: (s.data.toList.drop (p + 1)).take (span isDigit (s.data.toList.drop (p + 1))) := by
    rw [show p + 1 + span isDigit (s.data.toList.drop (p + 1)) - p = span isDigit (s.data.toList.drop (p + 1)) + 1 by omega, hd, List.take_succ_cons]
  have hnt : numText (c :: (s.data.toList.drop (p + 1)).take (span isDigit (s.data.toList.drop (p + 1)))) := ⟨c, _, rfl, hf, fun d hd => span_all isDigit _ d hd⟩
  have htk := tok_any s hs 1 p _ (by omega) (by omega) _ hT
  have htl : (c :: (s.data.toList.drop (p + 1)).take (span isDigit (s.data.toList.drop (p + 1)))).length ≤ 1000000 := by
    have := congrArg List.length hT
    rw [List.length_take, List.length_drop, hsl] at this
    omega
  rw [ht]
  obtain ⟨hcn1, hcn2⟩ := code_num hnt
  generalize (c :: (s.data.toList.drop (p + 1)).take (span isDigit (s.data.toList.drop (p + 1)))) = T at *
  generalize span isDigit (s.data.toList.drop (p + 1)) = m at *
  have HB := Lib.hid hb
  have HT := Lib.hid htk
  have hq : p + 1 + m ≤ s.size := by omega
  clear hb htk hT ht hle hd hc hsl hf hnt
  generalize hqq : p + 1 + m = q at *
  have HE := Lib.hid hqq
  clear hqq
  have hts : (txt T).size ≤ 1000000 := by rw [txt_size]; exact htl
  have htd : (txt T).data.toList = T := txt_list T
  obtain ⟨X, hX⟩ : ∃ X, X = txt T := ⟨_, rfl⟩
  rw [← hX] at hts htd HT
  have HX := Lib.hid hX
  clear hX
  by_cases hok : ∃ v, Lib.parseIntB 64 T = .ok v
  · obtain ⟨v, hv⟩ := hok
    have HNUM := Lib.hid (hcn1 v hv)
    have hvb := Lib.parseIntB_bounds hv
    have hv0 : -9223372036854775808 ≤ v := by simpa using hvb.1
    have hv1 : v ≤ 9223372036854775807 := by have := hvb.2; simp at this; omega
    have HP := Lib.hid (parse_ok X hts v (by rw [htd]; exact hv))
    clear hcn1 hcn2 hv hvb htd htl
    go_enter Tryz.func134, Tryz.ntmps134
    go_wp2_with fail
    refine (HB.out _).mono ?_
    rintro e w1 ⟨rfl, rfl⟩
    go_wp2_with fail
    refine (HT.out _).mono ?_
    unfold TokV
    rintro e w2 ⟨rfl, hb2⟩
    have hg2 := hb2.block w.heap.size (by simp)
    rw [heap_alloc_new] at hg2
    have hb3 := below_then (below_new _ _) hb2
    have hs3 : w.heap.size < w2.heap.size := by have := hb2.size; simp at this; omega
    go_wp2_with fail
    refine (HP.out _).mono ?_
    rintro e w4 ⟨rfl, hb4⟩
    have hg4 := (hb4.block w2.heap.size (by simp)).trans (heap_alloc_new w2 _)
    have hg0 := (hb4.block w.heap.size (by simp; omega)).trans ((Below.heap_alloc w2 _ w.heap.size hs3).trans hg2)
    have hb5 : Below w.heap.size w w4 := below_then (below_lit hb3 _) hb4
    have hs4 : w2.heap.size < w4.heap.size := (Array.getElem?_eq_some_iff.1 hg4).1
    have hc4 : w4.cell? ⟨w2.heap.size, 1, none⟩ = some (.string X) := by simp [World.cell?, hg4]
    have L4 : Laid w4.drew := (LV.on hb5).on (Below.refl _ _).drew
    obtain ⟨Y, hY⟩ : ∃ Y, Y = txt (Lib.itoa v) := ⟨_, rfl⟩
    have HY := Lib.hid hY
    have hdig := fun w (L : Laid w) => digits_any v hv0 hv1 w L
    rw [← hY] at hdig
    have HDG := Lib.hid hdig
    clear hdig hY
    go_wp2_with fail
    go_region_held3 (fun w' => w'.cell? ⟨w2.heap.size, 1, none⟩ = some (.string X))
      (first | go_keep | (rw [Below.cell hb6 (by show w2.heap.size < w4.heap.size; exact hs4)]; assumption))
      ((first
        | (go_at_call 112; refine (HDG.out _ L4).mono ?_; rintro e w6 ⟨rfl, hb6⟩)))
    have hb7 : Below w.heap.size w w6 := below_then (hb5.drew) hb6
    have hg6 := (hb6.block w2.heap.size hs4).trans hg4
    have hg60 := (hb6.block w.heap.size (by show w.heap.size < w4.heap.size; omega)).trans hg0
    have hfr : w6.frozen? ⟨w2.heap.size, 2, none⟩ = false := by simp [World.frozen?, hg6]
    have hd0 : w6.cell? ⟨w2.heap.size, 0, none⟩ = some (.int .i64 1) := by simp [World.cell?, hg6]
    have hd1 : w6.cell? ⟨w2.heap.size, 1, none⟩ = some (.string X) := by simp [World.cell?, hg6]
    have hd2 : w6.cell? ⟨w2.heap.size, 2, none⟩ = some (.int .i64 0) := by simp [World.cell?, hg6]
    have hd3 : w6.cell? ⟨w2.heap.size, 3, none⟩ = some (.int .i64 p) := by simp [World.cell?, hg6]
    by_cases he : Lib.itoa v = T
    · have hN := HNUM.out
      rw [if_pos he] at hN
      have HN := Lib.hid hN
      have bE : (!(Y.toList == X.toList)) = false := by rw [HY.out, HX.out, he]; simp
      rw [bE]
      clear hN he bE
      have hgS : (w6.setCell ⟨w2.heap.size, 2, none⟩ (.int .i64 v)).heap[w.heap.size]? = _ := (Below.heap_setCell w6 _ _ w.heap.size (by show w.heap.size ≠ w2.heap.size; omega)).trans hg60
      have hb8 : Below w.heap.size w (w6.setCell ⟨w2.heap.size, 2, none⟩ (.int .i64 v)) := hb7.setCell (by show w.heap.size ≤ w2.heap.size; omega) _
      go_wp2_with (refine wpList_store_tok rfl _ _ rfl rfl w.heap.size _ _ _ _ _ _ _ _ rfl rfl _ hgS ?_)
      refine bodyPost_ret (results_tok rfl _ _ w.heap.size _ _ _ _ _ (0, 0) rfl (setRow_heap _ _ _ _ _ _ hgS)) rfl ?_
      exact ⟨ret_tok (by rw [HN.out]; rfl) (by rw [HX.out]; rfl) (congrArg (Value.int .i64) (by have := HE.out; simp; omega)) rfl, below_setRow hb8 (Nat.le_refl _) _⟩
    · have hN := HNUM.out
      rw [if_neg he] at hN
      have HN := Lib.hid hN
      have bE : (!(Y.toList == X.toList)) = true := by
        rw [Bool.not_eq_true', beq_eq_false_iff_ne, HY.out, HX.out, Lib.toList_data, Lib.toList_data, txt_list, txt_list]
        exact he
      rw [bE]
      clear hN he bE
      go_wp2_with (refine wpList_store_tok rfl _ _ rfl rfl w.heap.size _ _ _ _ _ _ _ _ rfl rfl _ hg60 ?_)
      refine bodyPost_ret (results_tok rfl _ _ w.heap.size _ _ _ _ _ (0, 0) rfl (setRow_heap _ _ _ _ _ _ hg60)) rfl ?_
      exact ⟨ret_notok (by rw [HN.out]; rfl), below_setRow hb7 (Nat.le_refl _) _⟩
  · have hno : ∀ v, Lib.parseIntB 64 T ≠ .ok v := fun v hv => hok ⟨v, hv⟩
    have HN := Lib.hid (hcn2 hno)
    have hp2 := fun w (L : Laid w) => parse_not X hts (by rw [htd]; exact hno) w L
    have HP := Lib.hid hp2
    clear hcn1 hcn2 htd htl hp2 hok hno
    go_enter Tryz.func134, Tryz.ntmps134
    go_wp2_with fail
    refine (HB.out _).mono ?_
    rintro e w1 ⟨rfl, rfl⟩
    go_wp2_with fail
    refine (HT.out _).mono ?_
    unfold TokV
    rintro e w2 ⟨rfl, hb2⟩
    have hg2 := hb2.block w.heap.size (by simp)
    rw [heap_alloc_new] at hg2
    have hb3 := below_then (below_new _ _) hb2
    have hs3 : w.heap.size < w2.heap.size := by have := hb2.size; simp at this; omega
    go_wp2_with fail
    refine (HP.out _ ((LV.on hb3).on (below_new _ _))).mono ?_
    rintro e w4 ⟨v, tt, pp, rfl, hb4⟩
    have hg0 := (hb4.block w.heap.size (by simp; omega)).trans ((Below.heap_alloc w2 _ w.heap.size hs3).trans hg2)
    have hb5 : Below w.heap.size w w4 := below_then (below_lit hb3 _) hb4
    go_wp2_with fail
    go_quiet (fail)
    have hg0' : (w4.drewN nq).heap[w.heap.size]? = _ := hg0
    have hb6 : Below w.heap.size w (w4.drewN nq) := below_draws hb5 nq
    clear hb5 hg0
    go_wp2_with (refine wpList_store_tok rfl _ _ rfl rfl w.heap.size _ _ _ _ _ _ _ _ rfl rfl _ hg0' ?_)
    refine bodyPost_ret (results_tok rfl _ _ w.heap.size _ _ _ _ _ (0, 0) rfl (setRow_heap _ _ _ _ _ _ hg0')) rfl ?_
    exact ⟨ret_notok (by rw [HN.out]; rfl), below_setRow hb6 (Nat.le_refl _) _⟩
end Go.Proofs.YtciiemomfniecaaGreatDoor
/-
  What a byte begins: the contract of the function that lays it in a map of functions.
-/
namespace Go.Proofs.YtciiemomfniecaaGreatDoor
set_option maxRecDepth 100000

open Go.RowKit Go.Maps

/-- A function as an element of a map. -/
def fnElem (v : Value) : Option (DataW Unit × List MemPlace) := match v with
  | .func (.func k) a b => if a = #[] ∧ b = #[] then some (.lit (.int .i64 k), []) else none
  | .nilFunc => some (.lit (.int .i64 (-1)), [])
  | _ => none
def fv (k : Nat) : Value := .func (.func k) #[] #[]
theorem fnElem_fv (k : Nat) : fnElem (fv k) = some (.lit (.int .i64 k), []) := by simp [fnElem, fv]
theorem fnElem_nil : fnElem .nilFunc = some (.lit (.int .i64 (-1)), []) := rfl
theorem fnElem_inv {v : Value} {k : Nat} {ps : List MemPlace} (h : fnElem v = some (.lit (.int .i64 k), ps)) : v = fv k := by
  unfold fnElem at h
  split at h
  · split at h
    · rename_i k' a b hab
      simp only [Option.some.injEq, Prod.mk.injEq, DataW.lit.injEq, Lit.int.injEq, true_and] at h
      obtain ⟨h1, _⟩ := h
      have : k' = k := Int.ofNat_inj.1 h1
      subst this
      rw [hab.1, hab.2]; rfl
    · cases h
  · simp only [Option.some.injEq, Prod.mk.injEq, DataW.lit.injEq, Lit.int.injEq, true_and] at h
    omega
  · cases h
def ky (c : UInt8) : Lit := .int .u8 (c.toNat : Int)
theorem ky_ne {a b : UInt8} (h : a ≠ b) : ky a ≠ ky b := by
  intro e
  simp only [ky, Lit.int.injEq, true_and] at e
  exact h (UInt8.toNat_inj.1 (by omega))
theorem ky_key (c : UInt8) : keyOf Tryz.prog 5 (.int .u8 (c.toNat : Int)) = some (ky c) := by
  have := c.toNat_lt
  exact keyOf_int_mk Tryz.underlying5 (by simp only [Lit.wf, Bool.and_eq_true, decide_eq_true_eq]; exact ⟨by show (0 : Int) ≤ _; omega, by show _ ≤ (255 : Int); omega⟩)
theorem ky_lit (c : UInt8) : WideAt.IsKeyLit (ky c) := by
  unfold ky
  trivial
def Knows (D : DataW Unit) (f : UInt8 → Option Nat) : Prop := IsMap D ∧ ∀ c, has D (ky c) = (f c).isSome ∧ ∀ k, f c = some k → D.atKey (ky c) (.lit (.int .i64 (-1))) = .lit (.int .i64 k)
def put1 (c : UInt8) (k : Nat) (f : UInt8 → Option Nat) : UInt8 → Option Nat := fun x => if x = c then some k else f x
theorem Knows.put {D : DataW Unit} {f : UInt8 → Option Nat} (h : Knows D f) (c : UInt8) (k : Nat) (hm : IsMap (D.put (ky c) (.lit (.int .i64 k)))) : Knows (D.put (ky c) (.lit (.int .i64 k))) (put1 c k f) := by
  refine ⟨hm, fun x => ?_⟩
  by_cases hx : x = c
  · subst hx
    rw [has_put_same h.1 (ky_lit x), atKey_put_same h.1 (ky_lit x)]
    simp [put1]
  · rw [has_put_other (ky_ne hx), atKey_put_other (ky_ne hx)]
    simp only [put1, hx, if_false]
    exact h.2 x
def MapIs (w : World) (b n : Nat) (f : UInt8 → Option Nat) : Prop := ∃ D, w.ownsMap Tryz.prog 5 fnElem b n D ∧ Knows D f
theorem MapIs.on {w w' : World} {b n : Nat} {f : UInt8 → Option Nat} (h : MapIs w b n f) (hb : Below w.heap.size w w') : MapIs w' b n f := by
  obtain ⟨D, ⟨es, clock, h1, h2⟩, h3⟩ := h
  exact ⟨D, ⟨es, clock, (hb.block b (Array.getElem?_eq_some_iff.1 h1).1).trans h1, h2⟩, h3⟩
theorem key_law : Keyed Tryz.prog 5 := int_keyed Tryz.underlying5
/-- What the map tells of a byte. -/
theorem MapIs.look {w : World} {b n : Nat} {f : UInt8 → Option Nat} (h : MapIs w b n f) (c : UInt8) :
    ∃ v, (Instr.lookup 176 (.map (some b)) (.int .u8 (c.toNat : Int)) true).run Tryz.prog w = .ok (.tuple #[v, .bool (f c).isSome]) w ∧ ∀ k, f c = some k → v = fv k := by
  obtain ⟨D, ho, hk⟩ := h
  have hz : ∀ w, (zeroValue 180).run Tryz.prog w = .ok .nilFunc w := fun w => by kernel_rfl
  obtain ⟨v, ps, hrun, hv⟩ := ho.look_ok key_law Tryz.underlying176 (hz _) fnElem_nil (ky_key c)
  obtain ⟨h1, h2⟩ := hk.2 c
  rw [h1] at hrun
  refine ⟨v, hrun, fun k hf => ?_⟩
  rw [h2 k hf] at hv
  exact fnElem_inv hv

theorem wpList_insert_own {H : Type} {P : Program} (w : World) {ops : Array Oper} {rest : List Oper} {o : Oper} {a : Act} {Q : Exit → Act → World → Prop}
    (hg : o.guard = none) (m x v : Operand) (t : TypeId) (hop : o.op = Op.insert t m x v)
    (k e : TypeId) (K : Keyed P k) (ht : P.underlying t = some (.map k e)) (R : Value → Option (DataW H × List MemPlace)) (b n : Nat) (D : DataW H)
    (hm : a.eval m = .map (some b)) (hown : w.ownsMap P k R b n D) (hn : n < maxLen) (key val : Value) (kl : Lit) (hx : a.eval x = key) (hv : a.eval v = val) (hkey : keyOf P k key = some kl)
    (d : DataW H) (ps : List MemPlace) (hval : R val = some (d, ps))
    (hK : ∀ w', w'.ownsMap P k R b (n + 1) (D.put kl d) → w.grownBy w' (some b) → wpList P ops Q rest (a.put o.dst undef) w') :
    wpList P ops Q (o :: rest) a w := by
  refine wpList_plain hg fun K' hK' => ?_
  obtain ⟨w', hrun, r1, r2⟩ := hown.update K ht hn hkey hval
  unfold Oper.wp
  simp [execOp, hop, hm, hx, hv, hrun, Result.andThen]
  exact hK' _ _ (hK w' r1 r2)
/-- .. stored: in the words of this text. -/
theorem wpList_insert_fn {w : World} {ops : Array Oper} {rest : List Oper} {o : Oper} {a : Act} {Q : Exit → Act → World → Prop}
    (hg : o.guard = none) (m x v : Operand) (hop : o.op = Op.insert 176 m x v) (b n : Nat) (f : UInt8 → Option Nat) (hm : a.eval m = .map (some b)) (hown : MapIs w b n f) (hn : n < 1000)
    (c : UInt8) (k : Nat) (hx : a.eval x = .int .u8 (c.toNat : Int)) (hv : a.eval v = fv k)
    (hK : ∀ w', MapIs w' b (n + 1) (put1 c k f) → w.grownBy w' (some b) → wpList Tryz.prog ops Q rest (a.put o.dst undef) w') : wpList Tryz.prog ops Q (o :: rest) a w := by
  obtain ⟨D, ho, hk⟩ := hown
  refine wpList_insert_own w hg m x v 176 hop 5 180 key_law Tryz.underlying176 fnElem b n D hm ho (by unfold maxLen; omega) _ _ (ky c) hx hv (ky_key c) _ [] (fnElem_fv k) ?_
  intro w' h1 h2
  exact hK w' ⟨_, h1, hk.put c k h1.isMap⟩ h2
theorem wpList_update_fn {w : World} {ops : Array Oper} {rest : List Oper} {o : Oper} {a : Act} {Q : Exit → Act → World → Prop}
    (hg : o.guard = none) (m x v : Operand) (hop : o.op = Op.mapUpdate 176 m x v) (b n : Nat) (f : UInt8 → Option Nat) (hm : a.eval m = .map (some b)) (hown : MapIs w b n f) (hn : n < 1000)
    (c : UInt8) (k : Nat) (hx : a.eval x = .int .u8 (c.toNat : Int)) (hv : a.eval v = fv k)
    (hK : ∀ w', MapIs w' b (n + 1) (put1 c k f) → w.grownBy w' (some b) → wpList Tryz.prog ops Q rest (a.put o.dst undef) w') : wpList Tryz.prog ops Q (o :: rest) a w := by
  obtain ⟨D, ho, hk⟩ := hown
  refine wpList_mapUpdate_own w hg m x v 176 hop 5 180 key_law Tryz.underlying176 fnElem b n D hm ho (by unfold maxLen; omega) _ _ (ky c) hx hv (ky_key c) _ [] (fnElem_fv k) ?_
  intro w' h1 h2
  exact hK w' ⟨_, h1, hk.put c k h1.isMap⟩ h2
theorem MapIs.mono {w : World} {b n n' : Nat} {f : UInt8 → Option Nat} (h : MapIs w b n f) (hn : n ≤ n') : MapIs w b n' f := by
  obtain ⟨D, ho, hk⟩ := h
  exact ⟨D, ho.mono hn, hk⟩
theorem MapIs.made (w : World) : MapIs (w.alloc (.map #[] 0)) w.heap.size 0 (fun _ => none) :=
  ⟨.map [], World.ownsMap_made w _ _ _, ⟨[], rfl⟩, fun c => ⟨rfl, fun k h => by cases h⟩⟩
/-- Bytes that are put for one function, one behind the other. -/
def puts (l : List UInt8) (k : Nat) (f : UInt8 → Option Nat) : UInt8 → Option Nat := fun x => if x ∈ l then some k else f x
theorem puts_snoc (l : List UInt8) (c : UInt8) (k : Nat) (f : UInt8 → Option Nat) : put1 c k (puts l k f) = puts (l ++ [c]) k f := by
  funext x
  simp only [put1, puts, List.mem_append, List.mem_singleton]
  by_cases h1 : x = c
  · simp [h1]
  · simp [h1]
theorem puts_nil (k : Nat) (f : UInt8 → Option Nat) : puts [] k f = f := by funext x; simp [puts]
def firstS : ByteArray := ⟨#[65, 66, 67, 68, 69, 70, 71, 72, 73, 74, 75, 76, 77, 78, 79, 80, 81, 82, 83, 84, 85, 86, 87, 88, 89, 90, 97, 98, 99, 100, 101, 102, 103, 104, 105, 106, 107, 108, 109, 110, 111, 112, 113, 114, 115, 116, 117, 118, 119, 120, 121, 122, 95]⟩
def readF : UInt8 → Option Nat :=
  puts signS.data.toList 136 (puts firstS.data.toList 135 (puts tenS.data.toList 134 (put1 45 134 (put1 34 133 fun _ => none))))
theorem take_next {l : List UInt8} {k : Nat} {c : UInt8} (h : l[k]? = some c) : l.take k ++ [c] = l.take (k + 1) := by
  rw [List.take_add_one, h]; rfl

set_option maxRecDepth 1000000 in
set_option maxHeartbeats 1000000 in
theorem readers_any (w : World) : Calls Tryz.prog 113 #[] w fun e w' => ∃ b, e = .returned (.map (some b)) ∧ MapIs w' b 100 readF ∧ Below w.heap.size w w' := by
  obtain ⟨S1, hS1⟩ : ∃ s, s = tenS := ⟨_, rfl⟩
  obtain ⟨S2, hS2⟩ : ∃ s, s = firstS := ⟨_, rfl⟩
  obtain ⟨S3, hS3⟩ : ∃ s, s = signS := ⟨_, rfl⟩
  have h1 : S1.size = 10 := by rw [hS1]; rfl
  have h2 : S2.size = 53 := by rw [hS2]; rfl
  have h3 : S3.size = 12 := by rw [hS3]; rfl
  have hR : readF = puts S3.data.toList 136 (puts S2.data.toList 135 (puts S1.data.toList 134 (put1 45 134 (put1 34 133 fun _ => none)))) := by
    rw [hS1, hS2, hS3]; rfl
  rw [hR]
  have G1 := Lib.hid (at_list S1)
  have G2 := Lib.hid (at_list S2)
  have G3 := Lib.hid (at_list S3)
  have l1 : S1.data.toList.length = S1.size := by simp
  have l2 : S2.data.toList.length = S2.size := by simp
  have l3 : S3.data.toList.length = S3.size := by simp
  generalize S1.data.toList = L1 at *
  generalize S2.data.toList = L2 at *
  generalize S3.data.toList = L3 at *
  have LL1 := Lib.hid l1
  have LL2 := Lib.hid l2
  have LL3 := Lib.hid l3
  clear hR l1 l2 l3
  have e1 : (⟨#[48, 49, 50, 51, 52, 53, 54, 55, 56, 57]⟩ : ByteArray) = S1 := hS1.symm
  have e2 : (⟨#[65, 66, 67, 68, 69, 70, 71, 72, 73, 74, 75, 76, 77, 78, 79, 80, 81, 82, 83, 84, 85, 86, 87, 88, 89, 90, 97, 98, 99, 100, 101, 102, 103, 104, 105, 106, 107, 108, 109, 110, 111, 112, 113, 114, 115, 116, 117, 118, 119, 120, 121, 122, 95]⟩ : ByteArray) = S2 := hS2.symm
  have e3 : (⟨#[123, 125, 40, 41, 91, 93, 60, 62, 61, 59, 44, 46]⟩ : ByteArray) = S3 := hS3.symm
  clear hS1 hS2 hS3
  have hmm := @run_makeMap Tryz.prog
  go_enter Tryz.func113, Tryz.ntmps113
  simp only [e1, e2, e3]
  clear e1 e2 e3
  go_wp2_with (first
    | (refine wpList_insert_fn rfl _ _ _ rfl w.heap.size 0 _ rfl (MapIs.made w) (by omega) 34 133 rfl rfl ?_; intro w1 hm1 hg1)
    | (refine wpList_insert_fn rfl _ _ _ rfl w.heap.size 1 _ rfl hm1 (by omega) 45 134 rfl rfl ?_; intro w2 hm2 hg2))
  have hb1 : Below w.heap.size w w1 := (below_new w (.map #[] 0)).grown hg1 (by simp) (fun k hk => by injection hk with hk; omega)
  have hb2 : Below w.heap.size w w2 := hb1.grown hg2 hb1.size (fun k hk => by injection hk with hk; omega)
  generalize hF0 : put1 45 134 (put1 34 133 fun _ => none) = F0 at *
  have HF0 := Lib.hid hF0
  clear hF0 hm1 hg1 hg2 hb1
  go_loopw [7] (fun i wr => ∃ k : Nat, i = .int .i64 k ∧ k ≤ 10 ∧ MapIs wr w.heap.size (2 + k) (puts (L1.take k) 134 F0) ∧ Below w.heap.size w wr) (fun i _ => 10 - (intOf i).toNat)
  case atStart => exact ⟨0, rfl, by omega, by rw [List.take_zero, puts_nil]; exact hm2, hb2⟩
  case round =>
    obtain ⟨k, rfl, hk, hm, hb⟩ := hrel
    by_cases g1 : k < 10
    · have g1' : k < S1.size := by omega
      have HT := Lib.hid (take_next (G1.out k g1'))
      go_wp2_with (refine wpList_update_fn rfl _ _ _ rfl w.heap.size (2 + k) _ rfl hm (by omega) (S1[k]'g1') 134 rfl rfl ?_; intro w3 hm3 hg3)
      rw [puts_snoc, HT.out] at hm3
      exact ⟨⟨k + 1, by go_num, by omega, by rw [show 2 + (k + 1) = 2 + k + 1 by omega]; exact hm3, hb.grown hg3 hb.size (fun q hq => by injection hq with hq; omega)⟩, by simp [intOf]; omega⟩
    · obtain rfl : k = 10 := by omega
      rw [List.take_of_length_le (by rw [LL1.out]; omega)] at hm
      generalize hF1 : puts L1 134 F0 = F1 at *
      have HF1 := Lib.hid hF1
      clear hF1
      go_wp2
      go_loopw [14] (fun i w5 => ∃ k : Nat, i = .int .i64 k ∧ k ≤ 53 ∧ MapIs w5 w.heap.size (12 + k) (puts (L2.take k) 135 F1) ∧ Below w.heap.size w w5) (fun i _ => 53 - (intOf i).toNat)
      case atStart => exact ⟨0, rfl, by omega, by rw [List.take_zero, puts_nil]; exact hm, hb⟩
      case round =>
        obtain ⟨k, rfl, hk, hm, hb⟩ := hrel
        by_cases g1 : k < 53
        · have g1' : k < S2.size := by omega
          have HT := Lib.hid (take_next (G2.out k g1'))
          go_wp2_with (refine wpList_update_fn rfl _ _ _ rfl w.heap.size (12 + k) _ rfl hm (by omega) (S2[k]'g1') 135 rfl rfl ?_; intro w3 hm3 hg3)
          rw [puts_snoc, HT.out] at hm3
          exact ⟨⟨_, _, _, _, _, _, _, _, ⟨k + 1, rfl, by omega, by rw [show 12 + (k + 1) = 12 + k + 1 by omega]; exact hm3, hb.grown hg3 hb.size (fun q hq => by injection hq with hq; omega)⟩, rfl⟩, by simp [intOf]; omega⟩
        · obtain rfl : k = 53 := by omega
          rw [List.take_of_length_le (by rw [LL2.out]; omega)] at hm
          generalize hF2 : puts L2 135 F1 = F2 at *
          have HF2 := Lib.hid hF2
          clear hF2
          go_wp2
          go_loopw [21] (fun i w5 => ∃ k : Nat, i = .int .i64 k ∧ k ≤ 12 ∧ MapIs w5 w.heap.size (65 + k) (puts (L3.take k) 136 F2) ∧ Below w.heap.size w w5) (fun i _ => 12 - (intOf i).toNat)
          case atStart => exact ⟨0, rfl, by omega, by rw [List.take_zero, puts_nil]; exact hm, hb⟩
          case round =>
            obtain ⟨k, rfl, hk, hm, hb⟩ := hrel
            by_cases g1 : k < 12
            · have g1' : k < S3.size := by omega
              have HT := Lib.hid (take_next (G3.out k g1'))
              go_wp2_with (refine wpList_update_fn rfl _ _ _ rfl w.heap.size (65 + k) _ rfl hm (by omega) (S3[k]'g1') 136 rfl rfl ?_; intro w3 hm3 hg3)
              rw [puts_snoc, HT.out] at hm3
              exact ⟨⟨_, _, _, _, _, _, _, _, ⟨k + 1, rfl, by omega, by rw [show 65 + (k + 1) = 65 + k + 1 by omega]; exact hm3, hb.grown hg3 hb.size (fun q hq => by injection hq with hq; omega)⟩, rfl⟩, by simp [intOf]; omega⟩
            · obtain rfl : k = 12 := by omega
              rw [List.take_of_length_le (by rw [LL3.out]; omega)] at hm
              generalize hF3 : puts L3 136 F2 = F3 at *
              have HF3 := Lib.hid hF3
              clear hF3
              go_wp2
              go_ret
              exact ⟨w.heap.size, rfl, by rw [HF0.out, HF1.out, HF2.out, HF3.out]; exact MapIs.mono (n := 65 + 12) hm (by omega), hb⟩
end Go.Proofs.YtciiemomfniecaaGreatDoor
/-
  Whatever a byte begins is read: one contract for the functions that lie in the map.
-/
namespace Go.Proofs.YtciiemomfniecaaGreatDoor
set_option maxRecDepth 100000

open Go.RowKit

/-- How a token begins, by its first byte. -/
theorem readF_cases (c : UInt8) :
    (readF c = none → isFirst c = false ∧ isDigit c = false ∧ c ≠ 45 ∧ c ≠ 34 ∧ isSign c = false) ∧
    (∀ k, readF c = some k → (k = 135 ∧ isFirst c = true) ∨ (k = 134 ∧ (c = 45 ∨ isDigit c = true)) ∨ (k = 133 ∧ c = 34) ∨
      (k = 136 ∧ isFirst c = false ∧ isDigit c = false ∧ c ≠ 45 ∧ c ≠ 34 ∧ isSign c = true)) := by
  have h : ∀ k : Fin 256, (match readF (UInt8.ofNat k.val) with
      | none => isFirst (UInt8.ofNat k.val) = false ∧ isDigit (UInt8.ofNat k.val) = false ∧ UInt8.ofNat k.val ≠ 45 ∧ UInt8.ofNat k.val ≠ 34 ∧ isSign (UInt8.ofNat k.val) = false
      | some f => (f = 135 ∧ isFirst (UInt8.ofNat k.val) = true) ∨ (f = 134 ∧ (UInt8.ofNat k.val = 45 ∨ isDigit (UInt8.ofNat k.val) = true)) ∨ (f = 133 ∧ UInt8.ofNat k.val = 34) ∨
        (f = 136 ∧ isFirst (UInt8.ofNat k.val) = false ∧ isDigit (UInt8.ofNat k.val) = false ∧ UInt8.ofNat k.val ≠ 45 ∧ UInt8.ofNat k.val ≠ 34 ∧ isSign (UInt8.ofNat k.val) = true) : Bool) = true := by decide +kernel
  have := h ⟨c.toNat, c.toNat_lt⟩
  simp only [UInt8.ofNat_toNat] at this
  constructor
  · intro hn
    rw [hn] at this
    simpa using this
  · intro k hk
    rw [hk] at this
    simpa using this
theorem tk_other {l : List UInt8} {c : UInt8} {r : List UInt8} (hd : l = c :: r) (h1 : isFirst c = false) (h2 : isDigit c = false) (h3 : c ≠ 45) (h4 : c ≠ 34) : tk Lib.itoa l = if isSign c then some ⟨3, [c], 0, 0⟩ else none := by
  subst hd
  have e3 : (c == 45) = false := by simpa using h3
  have e4 : (c == 34) = false := by simpa using h4
  simp only [tk, h1, h2, e3, e4, Bool.or_self, Bool.false_eq_true, if_false]
theorem tk_none {l : List UInt8} {c : UInt8} {r : List UInt8} (hd : l = c :: r) (h : readF c = none) : tk Lib.itoa l = none := by
  obtain ⟨h1, h2, h3, h4, h5⟩ := (readF_cases c).1 h
  rw [tk_other hd h1 h2 h3 h4, h5]; rfl
theorem tk_string {l : List UInt8} {r : List UInt8} (hd : l = 34 :: r) : tk Lib.itoa l = strT r := by
  subst hd
  simp only [tk, show isFirst 34 = false from rfl, show (isDigit 34 || (34 : UInt8) == 45) = false from rfl, Bool.false_eq_true, if_false, beq_self_eq_true, if_true]
  rfl
theorem read_any (s : ByteArray) (hs : s.size ≤ 1000000) (p : Nat) (c : UInt8) (hc : s.data.toList[p]? = some c) (k : Nat) (hk : readF c = some k) (w : World) (L : Laid w) :
    Calls Tryz.prog k #[.string s, .int .i64 p] w fun e w' => e = .returned (SV (tk Lib.itoa (s.data.toList.drop p)) p) ∧ Below w.heap.size w w' := by
  have hp : p < s.size := by have := (List.getElem?_eq_some_iff.1 hc).1; simpa using this
  have hd := drop_cons hc
  rcases (readF_cases c).2 k hk with ⟨rfl, h⟩ | ⟨rfl, h⟩ | ⟨rfl, rfl⟩ | ⟨rfl, h1, h2, h3, h4, h5⟩
  · exact name_any s hs p c hc h w
  · exact num_any s hs p c hc h w L
  · rw [tk_string hd]
    exact str_any s hs p hp w
  · refine sign_any s hs p c hc ?_ w
    rw [tk_other hd h1 h2 h3 h4, h5]; rfl
theorem read_enters (c : UInt8) (k : Nat) (hk : readF c = some k) : ∀ args w, (callFunc k args).run Tryz.prog w = .ok (.enter k args) w := by
  rcases (readF_cases c).2 k hk with ⟨rfl, h⟩ | ⟨rfl, h⟩ | ⟨rfl, rfl⟩ | ⟨rfl, h1, h2, h3, h4, h5⟩
  · exact enters_of Tryz.func135 (by kernel_rfl) rfl
  · exact enters_of Tryz.func134 (by kernel_rfl) rfl
  · exact enters_of Tryz.func133 (by kernel_rfl) rfl
  · exact enters_of Tryz.func136 (by kernel_rfl) rfl
end Go.Proofs.YtciiemomfniecaaGreatDoor
