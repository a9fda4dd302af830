/-
  The two tables of package table, and the contracts of its small functions.
-/
import Derived.Test.YtjmcpfckcajnjaaGreatDoorTokVars
import Derived.BigQuiet
import Derived.Deep.QuietTactic
import Derived.Great.BuildSlice
import Derived.Deep.WholeRow
import Derived.Laws.CopyOwn
import Derived.Test.YtjmcpfckcajnjaaGreatDoorTabMath
namespace Go.Proofs.YtjmcpfckcajnjaaGreatDoor
set_option maxRecDepth 100000

open Go.RowKit

def plainsC : Array Value := #[.string (txt tInt64), .int .i64 0, .string (txt tSint64), .int .i64 1, .string (txt tUint32), .int .i64 2, .string (txt tBool), .int .i64 3, .string (txt tFixed32), .int .i64 4, .string (txt tSfixed64), .int .i64 5, .string (txt tString), .int .i64 7, .string (txt tBytes), .int .i64 8]
def stancesC : Array Value := #[.bool false, .bool false, .bool false, .bool true, .bool false, .bool false, .bool false, .bool true, .bool false, .bool false, .bool false, .bool true]
/-- The tables lie there. -/
structure Tabs (w : World) : Prop where
  plains : TabAt w 0 plainsC
  stances : TabAt w 1 stancesC
theorem Tabs.on {w w' : World} (h : Tabs w) (hb : Below w.heap.size w w') : Tabs w' := ⟨h.plains.on hb, h.stances.on hb⟩

theorem index_plain (w : World) {k : Nat} {p : List UInt8 × Nat} (h : plainsL[k]? = some p) : (Instr.index 131 (.agg plainsC) (.int .i64 k)).run Tryz.prog w = .ok (.agg #[.string (txt p.1), .int .i64 p.2]) w := by
  obtain ⟨hk, rfl⟩ := List.getElem?_eq_some_iff.1 h
  have hc : k = 0 ∨ k = 1 ∨ k = 2 ∨ k = 3 ∨ k = 4 ∨ k = 5 ∨ k = 6 ∨ k = 7 := by simp [plainsL] at hk; omega
  clear h
  rcases hc with rfl | rfl | rfl | rfl | rfl | rfl | rfl | rfl <;> (change _ = _; kernel_rfl)
def stanceL : List (Bool × Bool × Bool) := [(false, false, false), (true, false, false), (false, true, false), (false, false, true)]
theorem index_stance (w : World) {k : Nat} {p : Bool × Bool × Bool} (h : stanceL[k]? = some p) : (Instr.index 187 (.agg stancesC) (.int .i64 k)).run Tryz.prog w = .ok (.agg #[.bool p.1, .bool p.2.1, .bool p.2.2]) w := by
  obtain ⟨hk, rfl⟩ := List.getElem?_eq_some_iff.1 h
  have hc : k = 0 ∨ k = 1 ∨ k = 2 ∨ k = 3 := by simp [stanceL] at hk; omega
  clear h
  rcases hc with rfl | rfl | rfl | rfl <;> (change _ = _; kernel_rfl)

theorem isKey_any (k : Int) (w : World) : Calls Tryz.prog 146 #[.int .i64 k] w fun e w' => e = .returned (.bool (keyedB k)) ∧ w = w' := by
  have H : Hid (keyedB k = (k == 0 || k == 1 || k == 2 || k == 3 || k == 4 || k == 5 || k == 7)) := Lib.hid rfl
  go_enter Tryz.func146, Tryz.ntmps146
  go_wp2
  all_goals (go_ret; refine ⟨ret_bool ?_, rfl⟩; rw [H.out]; first | (simp_all; done) | (rw [Bool.eq_iff_iff]; simp_all [or_assoc]))
theorem isNumber_any (n : Int) (w : World) : Calls Tryz.prog 113 #[.int .i64 n] w fun e w' => e = .returned (.bool (numberB n)) ∧ w = w' := by
  have H : Hid (numberB n = (decide (1 ≤ n) && decide (n ≤ 536870911) && (decide (n < 19000) || decide (19999 < n)))) := Lib.hid (by
    unfold numberB
    congr 1
    rw [Bool.eq_iff_iff]
    simp only [Bool.not_eq_true', Bool.and_eq_false_iff, decide_eq_false_iff_not, Bool.or_eq_true, decide_eq_true_eq]
    omega)
  go_enter Tryz.func113, Tryz.ntmps113
  go_wp2
  all_goals (go_ret; refine ⟨ret_bool ?_, rfl⟩; rw [H.out]; first | (simp_all; done) | (rw [Bool.eq_iff_iff]; simp only [Bool.and_eq_true, Bool.or_eq_true, decide_eq_true_eq, Bool.false_eq_true, true_iff, false_iff]; omega))
theorem isEnums_any (n : Int) (w : World) : Calls Tryz.prog 151 #[.int .i64 n] w fun e w' => e = .returned (.bool (decide (-2147483648 ≤ n) && decide (n ≤ 2147483647))) ∧ w = w' := by
  go_enter Tryz.func151, Tryz.ntmps151
  go_wp2
  all_goals (go_ret; refine ⟨ret_bool ?_, rfl⟩; first | (simp_all; done) | (rw [Bool.eq_iff_iff]; simp only [Bool.and_eq_true, Bool.or_eq_true, decide_eq_true_eq, Bool.false_eq_true, true_iff, false_iff]; omega))
theorem mayName_any (n : Int) (w : World) : Calls Tryz.prog 115 #[.int .i64 n] w fun e w' => e = .returned (.bool (decide (1 ≤ n) && decide (n ≤ 30))) ∧ w = w' := by
  go_enter Tryz.func115, Tryz.ntmps115
  go_wp2
  all_goals (go_ret; refine ⟨ret_bool ?_, rfl⟩; first | (simp_all; done) | (rw [Bool.eq_iff_iff]; simp only [Bool.and_eq_true, Bool.or_eq_true, decide_eq_true_eq, Bool.false_eq_true, true_iff, false_iff]; omega))
theorem mayHold_any (n m : Int) (w : World) : Calls Tryz.prog 63 #[.int .i64 n, .int .i64 m] w fun e w' => e = .returned (.bool (decide (1 ≤ n) && decide (n ≤ 20) && decide (m ≤ 20))) ∧ w = w' := by
  go_enter Tryz.func63, Tryz.ntmps63
  go_wp2
  all_goals (go_ret; refine ⟨ret_bool ?_, rfl⟩; first | (simp_all; done) | (rw [Bool.eq_iff_iff]; simp only [Bool.and_eq_true, Bool.or_eq_true, decide_eq_true_eq, Bool.false_eq_true, true_iff, false_iff]; omega))

theorem find_take_next {l : List (List UInt8 × Nat)} {k : Nat} {p : List UInt8 × Nat} {x : List UInt8} (hk : l[k]? = some p) (h : ((l.take k).find? fun q => q.1 == x) = none) : ((l.take (k + 1)).find? fun q => q.1 == x) = if p.1 = x then some p else none := by
  rw [List.take_add_one, hk, List.find?_append, h, Option.none_or]
  simp only [Option.toList, List.find?_cons, List.find?_nil]
  by_cases hx : p.1 = x
  · simp [hx]
  · have : (p.1 == x) = false := beq_eq_false_iff_ne.2 hx
    simp [hx, this]
theorem find_of_take {α : Type} {l : List α} {k : Nat} {g : α → Bool} {p : α} (h : (l.take k).find? g = some p) : l.find? g = some p := by
  rw [← List.take_append_drop k l, List.find?_append, h]
  rfl
theorem eql_stance (a b c a' b' c' : Bool) (w : World) : Sem.run Tryz.prog (binOp .eql 186 (.agg #[.bool a, .bool b, .bool c]) (.agg #[.bool a', .bool b', .bool c'])) w = .ok (.bool (decide ((a, b, c) = (a', b', c')))) w := by
  cases a <;> cases b <;> cases c <;> cases a' <;> cases b' <;> cases c' <;> kernel_rfl
theorem stand_list (ones one : Int) (rep pairs : Bool) (h0 : 0 ≤ one) (h1 : one ≤ ones) : standB ones one rep pairs = stanceL.contains (rep, pairs, decide (one ≠ 0)) := by
  unfold standB
  rw [decide_eq_true h0, decide_eq_true h1]
  cases rep <;> cases pairs <;> cases decide (one ≠ 0) <;> rfl
set_option maxRecDepth 1000000 in
set_option maxHeartbeats 1000000 in
theorem mayStand_any (ones one : Int) (rep pairs : Bool) (w : World) (T : Tabs w) :
    Calls Tryz.prog 148 #[.int .i64 ones, .int .i64 one, .bool rep, .bool pairs] w fun e w' => e = .returned (.bool (standB ones one rep pairs)) ∧ Below w.heap.size w w' := by
  obtain ⟨tt, fr, hT⟩ := T.stances
  clear T
  by_cases h0 : one < 0
  · have H : Hid (standB ones one rep pairs = false) := Lib.hid (by unfold standB; rw [decide_eq_false (by omega)]; simp)
    have hd : decide (one < 0) = true := decide_eq_true h0
    go_enter Tryz.func148, Tryz.ntmps148
    go_wp2
    go_ret
    exact ⟨by rw [H.out]; rfl, Below.refl _ _⟩
  · have hd : decide (one < 0) = false := decide_eq_false h0
    by_cases h1 : ones < one
    · have H : Hid (standB ones one rep pairs = false) := Lib.hid (by unfold standB; rw [decide_eq_false (show ¬ one ≤ ones by omega)]; simp)
      have hd2 : decide (one > ones) = true := decide_eq_true h1
      have hd3 : decide (ones < one) = true := decide_eq_true h1
      go_enter Tryz.func148, Tryz.ntmps148
      go_wp2
      go_ret
      exact ⟨by rw [H.out]; rfl, Below.refl _ _⟩
    · have H := Lib.hid (stand_list ones one rep pairs (by omega) (by omega))
      have hd2 : decide (one > ones) = false := decide_eq_false h1
      have hd3 : decide (ones < one) = false := decide_eq_false h1
      obtain ⟨o, ho⟩ : ∃ o, (one != 0) = o := ⟨_, rfl⟩
      have HO : Hid (decide (one ≠ 0) = o) := Lib.hid (by rw [← ho]; by_cases h : one = 0 <;> simp [h])
      go_enter Tryz.func148, Tryz.ntmps148
      go_wp2_with (refine wpList_load_row rfl 187 _ rfl 1 rfl tt _ fr _ hT Tryz.underlying187 rfl (by kernel_rfl) ?_)
      go_loopw [19] (fun i wr => ∃ k : Nat, i = .int .i64 k ∧ k ≤ 4 ∧ (stanceL.take k).contains (rep, pairs, o) = false ∧ Below w.heap.size w wr) (fun i _ => 4 - (intOf i).toNat)
      case atStart => exact ⟨0, rfl, by omega, rfl, Below.refl _ _⟩
      case round =>
        obtain ⟨k, rfl, hk, hf, hb⟩ := hrel
        by_cases hlt : k < 4
        · obtain ⟨p, hp⟩ : ∃ p, stanceL[k]? = some p := ⟨_, List.getElem?_eq_getElem hlt⟩
          have hi := index_stance wr hp
          have hq := fun w => eql_stance p.1 p.2.1 p.2.2 rep pairs o w
          have HF := Lib.hid hf
          have HP := Lib.hid hp
          clear hf hp
          obtain ⟨d, hd⟩ : ∃ d, decide ((p.1, p.2.1, p.2.2) = (rep, pairs, o)) = d := ⟨_, rfl⟩
          have HD := Lib.hid hd
          rw [hd] at hq
          clear hd
          cases d with
          | true =>
            go_wp2
            go_ret
            refine ⟨?_, hb.trans (below_new _ _ |>.mono hb.size)⟩
            rw [H.out, HO.out, ← of_decide_eq_true HD.out]
            have : stanceL.contains (p.1, p.2.1, p.2.2) = true := by rw [List.contains_eq_mem, decide_eq_true_eq]; exact List.mem_of_getElem? HP.out
            rw [this]; rfl
          | false =>
            go_wp2
            refine ⟨⟨k + 1, by go_num, by omega, ?_, hb.trans (below_new _ _ |>.mono hb.size)⟩, by simp [intOf]; omega⟩
            rw [List.take_add_one, HP.out]
            have h1 := HF.out
            have h2 := of_decide_eq_false HD.out
            rw [List.contains_eq_mem, decide_eq_false_iff_not] at h1 ⊢
            intro hm
            rcases List.mem_append.1 hm with hm | hm
            · exact h1 hm
            · have : (rep, pairs, o) = p := by simpa using hm
              exact h2 this.symm
        · obtain rfl : k = 4 := by omega
          go_wp2
          go_ret
          refine ⟨?_, hb⟩
          rw [H.out, HO.out]
          rw [show stanceL.take 4 = stanceL from rfl] at hf
          rw [hf]; rfl
end Go.Proofs.YtjmcpfckcajnjaaGreatDoor
/-
  Blanks: the contracts of the functions that go past them.
-/
namespace Go.Proofs.YtjmcpfckcajnjaaGreatDoor
set_option maxRecDepth 100000

open Go.RowKit

theorem index_span (c : UInt8) : ∀ l : List UInt8, Lib.indexByte l c = if c ∈ l then (span (fun d => d != c) l : Int) else -1
  | [] => by simp [Lib.indexByte]
  | d :: r => by
    have ih := index_span c r
    by_cases h : d = c
    · subst h; simp [Lib.indexByte, span]
    · have h1 : (d == c) = false := by simpa using h
      have h2 : (d != c) = true := by simpa using h
      have h3 : c ≠ d := fun e => h e.symm
      simp only [Lib.indexByte, h1, span, h2, if_true, List.mem_cons, h3, false_or, Bool.false_eq_true, if_false]
      rw [ih]
      by_cases hm : c ∈ r
      · simp only [hm, if_true]
        have : ((span (fun d => d != c) r : Int) == -1) = false := by rw [beq_eq_false_iff_ne]; omega
        simp [this]
      · simp [hm]
theorem at_list (s : ByteArray) (k : Nat) (h : k < s.size) : s.data.toList[k]? = some (s[k]'h) := by
  rw [List.getElem?_eq_getElem (by simpa using h)]
  simp [ByteArray.getElem_eq_getElem_data]
theorem from_list (s : ByteArray) (p : Nat) : (s.extract p s.size).data.toList = s.data.toList.drop p := by
  rw [Lib.extract_data]
  exact List.take_of_length_le (by simp)
theorem from_size (s : ByteArray) (p : Nat) : (s.extract p s.size).size = s.size - p := by simp

theorem span_next {f : UInt8 → Bool} {l : List UInt8} {k : Nat} {c : UInt8} (hc : l[k]? = some c) (hf : f c = true) : span f (l.drop k) = span f (l.drop (k + 1)) + 1 := by
  obtain ⟨h, e⟩ := List.getElem?_eq_some_iff.1 hc
  rw [List.drop_eq_getElem_cons h, e]
  simp [span, hf]
theorem span_stop {f : UInt8 → Bool} {l : List UInt8} {k : Nat} {c : UInt8} (hc : l[k]? = some c) (hf : f c = false) : span f (l.drop k) = 0 := by
  obtain ⟨h, e⟩ := List.getElem?_eq_some_iff.1 hc
  rw [List.drop_eq_getElem_cons h, e]
  simp [span, hf]
theorem span_end {f : UInt8 → Bool} {l : List UInt8} {k : Nat} (h : l.length ≤ k) : span f (l.drop k) = 0 := by
  rw [List.drop_of_length_le h]; rfl

def blankS : ByteArray := ⟨#[32, 9, 10, 13]⟩
theorem blank_set (c : UInt8) : decide (0 ≤ Lib.indexByte blankS.data.toList c) = isBlank c := by
  have h : ∀ k : Fin 256, decide (0 ≤ Lib.indexByte blankS.data.toList (UInt8.ofNat k.val)) = isBlank (UInt8.ofNat k.val) := by decide +kernel
  have := h ⟨c.toNat, c.toNat_lt⟩
  simpa using this
theorem prefix2 (s : ByteArray) : Lib.hasPrefix s.data.toList [47, 47] = decide (s.data.toList.take 2 = [47, 47]) := by
  generalize s.data.toList = l
  match l with
  | [] => rfl
  | [a] => simp [Lib.hasPrefix, List.isPrefixOf]
  | a :: b :: r =>
    rw [Bool.eq_iff_iff]
    simp only [Lib.hasPrefix, List.isPrefixOf, Bool.and_eq_true, beq_iff_eq, decide_eq_true_eq, List.take_succ_cons, List.take_zero, List.cons.injEq, and_true, Bool.and_true]
    constructor
    · rintro ⟨h1, h2⟩; exact ⟨h1.symm, h2.symm⟩
    · rintro ⟨h1, h2⟩; exact ⟨h1.symm, h2.symm⟩
/-- One step past blanks, and what is left. -/
theorem skip_more {l : List UInt8} {k : Nat} (hk : k ≤ l.length) (h2 : (l.drop k).take 2 = [47, 47]) :
    (10 ∉ l.drop k → k + ws false (l.drop k) = l.length) ∧
    (10 ∈ l.drop k → ∃ i, Lib.indexByte (l.drop k) 10 = ((i : Nat) : Int) ∧ 0 < i ∧ k + i ≤ l.length ∧ k + ws false (l.drop k) = k + i + span isBlank (l.drop (k + i)) + ws false (l.drop (k + i + span isBlank (l.drop (k + i))))) := by
  have hc := ws_comment h2
  have ht := ws_true (l.drop k)
  rw [hc, ht]
  constructor
  · intro h; rw [if_neg h, List.length_drop]; omega
  · intro h
    have hi := index_span 10 (l.drop k)
    rw [if_pos h] at hi
    have hle := span_le (fun d => d != 10) (l.drop k)
    rw [List.length_drop] at hle
    refine ⟨_, hi, ?_, by omega, ?_⟩
    · match hd : l.drop k with
      | [] => rw [hd] at h2; simp at h2
      | a :: b => rw [hd] at h2; simp at h2; obtain ⟨rfl, _⟩ := h2; simp [span]
    · rw [if_pos h, List.drop_drop]
      have := ws_step (l.drop (k + span (fun d => d != 10) (l.drop k)))
      rw [this, List.drop_drop]
      omega

end Go.Proofs.YtjmcpfckcajnjaaGreatDoor
/-
  Bytes by their sorts: the contracts of the small functions that tell them.
-/
namespace Go.Proofs.YtjmcpfckcajnjaaGreatDoor
set_option maxRecDepth 100000

open Go.RowKit

theorem u8_eq (c : UInt8) (k : Nat) (hk : k < 256) : ((c.toNat : Int) == (k : Int)) = (c == UInt8.ofNat k) := by
  rw [Bool.eq_iff_iff, beq_iff_eq, beq_iff_eq]
  constructor
  · intro h
    have : c.toNat = k := by omega
    rw [← this]; simp
  · intro h
    rw [h]; simp; omega

end Go.Proofs.YtjmcpfckcajnjaaGreatDoor
/-
  Blanks, signs, halves of bytes and digits, by the document's own functions: their contracts.
-/
namespace Go.Proofs.YtjmcpfckcajnjaaGreatDoor
set_option maxRecDepth 100000

open Go.RowKit

def hexI (c : UInt8) : Int := match hexv c with | some a => (a : Int) | none => -1
def signS : ByteArray := ⟨#[123, 125, 40, 41, 91, 93, 60, 62, 61, 59, 44, 46]⟩
theorem sign_list (c : UInt8) : isSign c = signS.data.toList.contains c := rfl
theorem contains_no {l : List UInt8} {c : UInt8} {k : Nat} (hk : l.length ≤ k) (h : ∀ j, j < k → ∀ d, l[j]? = some d → d ≠ c) : l.contains c = false := by
  rw [Bool.eq_false_iff]
  intro h2
  rw [List.contains_iff_mem] at h2
  obtain ⟨j, hj, e⟩ := List.getElem_of_mem h2
  exact h j (by omega) c (by rw [List.getElem?_eq_getElem hj, e]) rfl
theorem ws_at {l : List UInt8} {k : Nat} {c : UInt8} (hc : l[k]? = some c) : l.drop k = c :: l.drop (k + 1) := by
  obtain ⟨h, e⟩ := List.getElem?_eq_some_iff.1 hc
  rw [List.drop_eq_getElem_cons h, e]
theorem head_drop {l : List UInt8} {k : Nat} : (l.drop k).head? = l[k]? := by rw [List.head?_drop]
theorem blank_is (c : UInt8) : isBlank c = ((c.toNat : Int) == 32 || (c.toNat : Int) == 9 || (c.toNat : Int) == 10 || (c.toNat : Int) == 13) := by
  have e1 := u8_eq c 32 (by decide)
  have e2 := u8_eq c 9 (by decide)
  have e3 := u8_eq c 10 (by decide)
  have e4 := u8_eq c 13 (by decide)
  simp only [Int.cast_ofNat_Int] at e1 e2 e3 e4
  rw [e1, e2, e3, e4]; rfl
end Go.Proofs.YtjmcpfckcajnjaaGreatDoor
/-
  A number's digits, and the number of digits, by the document's own functions: their contracts.
-/
namespace Go.Proofs.YtjmcpfckcajnjaaGreatDoor
set_option maxRecDepth 100000

open Go.RowKit

theorem txt_app (a b : List UInt8) : txt a ++ txt b = txt (a ++ b) := by
  apply ByteArray.ext
  apply Array.toList_inj.1
  simp [txt]
/-- The digit of a number below 10. -/
def dig (k : Nat) : UInt8 := UInt8.ofNat (48 + k)
def tenS : ByteArray := ⟨#[48, 49, 50, 51, 52, 53, 54, 55, 56, 57]⟩
theorem dec_small {u : Nat} (h : u ≤ 9223372036854775808) : (txt (Lib.decDigits u)).size ≤ 19 := by
  have h3 := nDigits_le 18 u (by have : (10 : Nat) ^ (18 + 1) = 10000000000000000000 := by decide
                                 omega)
  rw [txt_size, Lib.decDigits_length]; omega
theorem ten_part (k : Nat) (h : k < 10) : tenS.extract k (k + 1) = txt [dig k] := by
  have : k = 0 ∨ k = 1 ∨ k = 2 ∨ k = 3 ∨ k = 4 ∨ k = 5 ∨ k = 6 ∨ k = 7 ∨ k = 8 ∨ k = 9 := by omega
  rcases this with rfl | rfl | rfl | rfl | rfl | rfl | rfl | rfl | rfl | rfl <;> rfl
theorem ten_at (k : Nat) (h : k < 10) (w : World) : (Instr.slice 9 (.string ⟨#[48, 49, 50, 51, 52, 53, 54, 55, 56, 57]⟩) (some (.int .i64 k)) (some (.int .i64 ((k : Int) + 1))) none).run Tryz.prog w = .ok (.string (txt [dig k])) w := by
  have hr := run_slice_string (P := Tryz.prog) (w := w) (t := 9) (s := tenS) (i := (k : Int)) (j := (k : Int) + 1) (k := .i64) (k' := .i64) Tryz.underlying9 (by omega) (by omega) (by show (k : Int) + 1 ≤ 10; omega)
  have e1 : ((k : Int) + 1).toNat = k + 1 := by omega
  rw [Int.toNat_natCast, e1, ten_part k h] at hr
  exact hr

theorem itoa_min : Lib.itoa (-9223372036854775808) = [45, 57, 50, 50, 51, 51, 55, 50, 48, 51, 54, 56, 53, 52, 55, 55, 53, 56, 48, 56] := by
  have h : ∀ n : Nat, Lib.decDigits n = if n < 10 then [UInt8.ofNat (48 + n)] else Lib.decDigits (n / 10) ++ [UInt8.ofNat (48 + n % 10)] := fun n => by
    by_cases h : n < 10
    · rw [if_pos h, Lib.decDigits_one h]
    · rw [if_neg h, dec_step h]
  rw [itoa_neg _ (by decide), show (-9223372036854775808 : Int).natAbs = 9223372036854775808 from rfl]
  iterate 18 rw [h, if_neg (by decide)]
  rw [h, if_pos (by decide)]
  decide +kernel
end Go.Proofs.YtjmcpfckcajnjaaGreatDoor
/-
  The number of digits, with a sign or not, by the document's own function: its contract.
-/
namespace Go.Proofs.YtjmcpfckcajnjaaGreatDoor
set_option maxRecDepth 100000

open Go.RowKit

theorem numOf_spell {t : List UInt8} (h : numText t) {v : Int} (hs : spell t = v) (h0 : -9223372036854775808 ≤ v) (h1 : v ≤ 9223372036854775807) :
    (numOf Lib.itoa t).isSome = decide (Lib.itoa v = t) ∧ ∀ x, numOf Lib.itoa t = some x → v = x := by
  subst hs
  have hne : t ≠ [] := by obtain ⟨c, r, rfl, _⟩ := h; simp
  rw [numOf_eq]
  by_cases he : Lib.itoa (spell t) = t
  · rw [if_pos ⟨hne, h0, h1, he⟩]
    exact ⟨by simp [he], fun x hx => by injection hx⟩
  · rw [if_neg (by rintro ⟨_, _, _, h⟩; exact he h)]
    exact ⟨by simp [he], fun x hx => by cases hx⟩
theorem numOf_far {t : List UInt8} (hs : spell t < -9223372036854775808 ∨ 9223372036854775807 < spell t) : numOf Lib.itoa t = none := by
  rw [numOf_eq, if_neg]
  rintro ⟨_, h1, h2, _⟩
  omega

def NumPost (O : Option Int) (w : World) (e : Ending) (w' : World) : Prop := ∃ v, e = .returned (.tuple #[.int .i64 v, .bool O.isSome]) ∧ (∀ x, O = some x → v = x) ∧ Below w.heap.size w w'
theorem NumPost.no {O : Option Int} {w w' : World} (h : O = none) (hb : Below w.heap.size w w') : NumPost O w (.returned (.tuple #[.int .i64 0, .bool false])) w' := by
  subst h; exact ⟨0, rfl, fun x hx => (by cases hx), hb⟩
theorem NumPost.yes {O : Option Int} {w w' : World} {v : Int} {b : Bool} (h : O.isSome = b) (hx : ∀ x, O = some x → v = x) (hb : Below w.heap.size w w') : NumPost O w (.returned (.tuple #[.int .i64 v, .bool b])) w' := by
  subst h; exact ⟨v, rfl, hx, hb⟩
theorem same_text {b : Bool} {v : Int} {L : List UInt8} {X t : ByteArray} (h : b = decide (Lib.itoa v = L)) (hX : X = txt (Lib.itoa v)) (ht : txt L = t) : b = (X.toList == t.toList) := by
  subst hX ht
  rw [h, Lib.toList_data, Lib.toList_data, txt_list, txt_list]
  rw [Bool.eq_iff_iff]; simp
end Go.Proofs.YtjmcpfckcajnjaaGreatDoor
/-
  Marks within a string: the contracts of the functions that tell what they mean.
-/
namespace Go.Proofs.YtjmcpfckcajnjaaGreatDoor
set_option maxRecDepth 100000

open Go.RowKit

def MV (o : Option (UInt8 × Nat)) : Value := match o with | none => .tuple #[.int .u8 0, .int .i64 0] | some (b, k) => .tuple #[.int .u8 (b.toNat : Int), .int .i64 ((k + 1 : Nat) : Int)]
def halfS : ByteArray := ⟨#[48, 49, 50, 51, 52, 53, 54, 55, 56, 57, 97, 98, 99, 100, 101, 102]⟩
theorem half_at (c : UInt8) : Lib.indexByte halfS.data.toList c = hexI c := by
  have h : ∀ k : Fin 256, Lib.indexByte halfS.data.toList (UInt8.ofNat k.val) = hexI (UInt8.ofNat k.val) := by decide +kernel
  have := h ⟨c.toNat, c.toNat_lt⟩
  simpa using this
theorem hexI_some {c : UInt8} {a : Nat} (h : hexv c = some a) : hexI c = a ∧ a < 16 := by
  have ha : a < 16 := by
    unfold hexv at h
    split at h
    · rename_i hd
      simp only [isDigit, Bool.and_eq_true, decide_eq_true_eq] at hd
      injection h with h
      omega
    · split at h
      · rename_i hd
        simp only [Bool.and_eq_true, decide_eq_true_eq] at hd
        injection h with h
        omega
      · cases h
  exact ⟨by unfold hexI; rw [h], ha⟩
theorem hexI_none {c : UInt8} (h : hexv c = none) : hexI c = -1 := by unfold hexI; rw [h]

theorem or_halves (a b : Nat) (ha : a < 16) (hb : b < 16) : bits BinOp.or IntKind.i64 ((a : Int) * 16) (b : Int) % 256 = ((UInt8.ofNat (16 * a + b)).toNat : Int) := by
  have h : ∀ x y : Fin 16, bits BinOp.or IntKind.i64 ((x.val : Int) * 16) (y.val : Int) % 256 = ((UInt8.ofNat (16 * x.val + y.val)).toNat : Int) := by decide +kernel
  exact h ⟨a, ha⟩ ⟨b, hb⟩
theorem ret_mark {o : Option (UInt8 × Nat)} {b : UInt8} {k : Nat} {x y : Value} (h : o = some (b, k)) (hx : x = .int .u8 (b.toNat : Int)) (hy : y = .int .i64 ((k + 1 : Nat) : Int)) : Ending.returned (.tuple #[x, y]) = .returned (MV o) := by
  subst h hx hy; rfl
theorem ret_nomark {o : Option (UInt8 × Nat)} {x y : Value} (h : o = none) (hx : x = .int .u8 0) (hy : y = .int .i64 0) : Ending.returned (.tuple #[x, y]) = .returned (MV o) := by
  subst h hx hy; rfl
theorem meant_mark {l : List UInt8} {d : UInt8} {r : List UInt8} (h : l = 92 :: d :: r) :
    ((d == 34 || d == 92) = true → meant l = some (d, 1)) ∧ ((d == 34 || d == 92) = false → d = 110 → meant l = some (10, 1)) ∧ ((d == 34 || d == 92) = false → d ≠ 110 → d ≠ 120 → meant l = none) := by
  subst h
  refine ⟨fun h => ?_, fun h h2 => ?_, fun h h2 h3 => ?_⟩
  · simp only [meant, h, beq_self_eq_true, if_true]
  · subst h2; rfl
  · have e2 : (d == 110) = false := by simpa using h2
    have e3 : (d == 120) = false := by simpa using h3
    simp only [meant, h, e2, e3, beq_self_eq_true, if_true, Bool.false_eq_true, if_false]
theorem meant_plain {c : UInt8} {r : List UInt8} (h : c ≠ 92) : meant (c :: r) = if isPlain c || decide (128 ≤ c.toNat) then some (c, 0) else none := by
  have e : (c == 92) = false := by simpa using h
  simp only [meant, e, Bool.false_eq_true, if_false]
end Go.Proofs.YtjmcpfckcajnjaaGreatDoor
/-
  Tokens as they lie in memory: boxes of one token, results of which the first is one.
-/
namespace Go.Proofs.YtjmcpfckcajnjaaGreatDoor
set_option maxRecDepth 100000

open Go.RowKit

theorem results_row_tmp2 {P : Program} {fn : Func} {p u v : Tmp} {ty : TypeId} (h : fn.results = #[.cell p ty, .tmp u, .tmp v]) (tmps : Array Value) (w : World) (g : Nat) (t : TypeId) (cs : Array Value) (fr : Nat × Nat) (d : TypeDesc)
    (hp : tmps.getD p undef = .pointer (some ⟨g, 0, none⟩)) (hg : w.heap[g]? = some (.cells cs t fr))
    (hu : P.underlying ty = some d) (hd : (match d with | .struct _ | .array _ _ => true | _ => false) = true) (hi : (P.info? ty).map (·.size) = some cs.size) :
    (results fn tmps).run P w = .ok (.tuple #[.agg cs, tmps.getD u undef, tmps.getD v undef]) w := by
  have hp' : tmps[p]?.getD undef = .pointer (some ⟨g, 0, none⟩) := by simpa using hp
  simp [results, h, hp', asAddr, run_loadVar_row w g t ty cs fr d hg hu hd hi]
theorem results_row_tmp1 {P : Program} {fn : Func} {p u : Tmp} {ty : TypeId} (h : fn.results = #[.cell p ty, .tmp u]) (tmps : Array Value) (w : World) (g : Nat) (t : TypeId) (cs : Array Value) (fr : Nat × Nat) (d : TypeDesc)
    (hp : tmps.getD p undef = .pointer (some ⟨g, 0, none⟩)) (hg : w.heap[g]? = some (.cells cs t fr))
    (hu : P.underlying ty = some d) (hd : (match d with | .struct _ | .array _ _ => true | _ => false) = true) (hi : (P.info? ty).map (·.size) = some cs.size) :
    (results fn tmps).run P w = .ok (.tuple #[.agg cs, tmps.getD u undef]) w := by
  have hp' : tmps[p]?.getD undef = .pointer (some ⟨g, 0, none⟩) := by simpa using hp
  simp [results, h, hp', asAddr, run_loadVar_row w g t ty cs fr d hg hu hd hi]

theorem own_mono {w : World} {base base' : Nat} {e : TypeId} {size : Nat} {v : Value} {n : Nat} {xs : List Value} (h : w.ownsRow base e size v n xs) (hb : base' ≤ base) : w.ownsRow base' e size v n xs := by
  rcases h with ⟨hl, ⟨rfl, rfl⟩ | ⟨g, cap, cur, rfl, h1, h2⟩⟩
  · exact ⟨hl, .inl ⟨rfl, rfl⟩⟩
  · exact ⟨hl, .inr ⟨g, cap, cur, rfl, Nat.le_trans hb h1, h2⟩⟩
/-- A row of the call's own stays where nothing old turns. -/
theorem own_below {w w' : World} {base : Nat} {e : TypeId} {size : Nat} {v : Value} {n : Nat} {xs : List Value} (h : w.ownsRow base e size v n xs) (hb : Below w.heap.size w w') : w'.ownsRow base e size v n xs := by
  rcases h with ⟨hl, ⟨rfl, rfl⟩ | ⟨g, cap, cur, rfl, h1, h2, h3⟩⟩
  · exact ⟨hl, .inl ⟨rfl, rfl⟩⟩
  · exact ⟨hl, .inr ⟨g, cap, cur, rfl, h1, (hb.block g (Array.getElem?_eq_some_iff.1 h2).1).trans h2, h3⟩⟩
theorem bs_snoc (a : List UInt8) (b : UInt8) : bs a ++ [Value.int .u8 (b.toNat : Int)] = bs (a ++ [b]) := by rw [bs_append]; rfl
/-- A box below a base stays where a row from that base on is written. -/
theorem box_grown {w w' : World} {g base : Nat} {o : Obj} {row : Option Nat} (h : w.heap[g]? = some o) (hg : w.grownBy w' row) (hr : ∀ k, row = some k → base ≤ k) (hlt : g < base) : w'.heap[g]? = some o := by
  have hlt2 := (Array.getElem?_eq_some_iff.1 h).1
  rw [hg.block g hlt2 (fun e => by have := hr g e.symm; omega)]
  exact h
def TokV (kind : Nat) (text : ByteArray) (n : Int) (p : Nat) : Value := .agg #[.int .i64 kind, .string text, .int .i64 n, .int .i64 p]

/-- What is told of a token that begins at a place. -/
def SV (o : Option Tk) (p : Nat) : Value := match o with
  | none => .tuple #[TokV 0 ⟨#[]⟩ 0 0, .int .i64 0, .bool false]
  | some t => .tuple #[TokV t.kind (txt t.text) t.num p, .int .i64 ((p + t.more + 1 : Nat) : Int), .bool true]
def strT (l : List UInt8) : Option Tk := (strB 0 l).map fun x => ⟨2, x.1, 0, x.2⟩
end Go.Proofs.YtjmcpfckcajnjaaGreatDoor
/-
  Slices of tokens that read as lists; the contract of the function that holds two of them against each other.
-/
namespace Go.Proofs.YtjmcpfckcajnjaaGreatDoor
set_option maxRecDepth 100000

open Go.RowKit

/-- A token's cells. -/
def TC (t : T) : List Value := [.int .i64 t.kind, .string (txt t.text), .int .i64 t.num, .int .i64 t.at_]
def tv (l : List T) : List Value := l.flatMap TC
theorem tv_append (a b : List T) : tv (a ++ b) = tv a ++ tv b := by simp [tv]
theorem tv_cons (r : T) (l : List T) : tv (r :: l) = TC r ++ tv l := by simp [tv]
theorem tv_length (a : List T) : (tv a).length = a.length * 4 := by
  induction a with
  | nil => rfl
  | cons r a ih => rw [tv_cons, List.length_append, ih]; simp [TC]; omega
theorem tv_get : ∀ (l : List T) (k j : Nat) (r : T), l[k]? = some r → j < 4 → (tv l)[k * 4 + j]? = (TC r)[j]?
  | [], k, j, r, h, _ => by simp at h
  | x :: l, 0, j, r, h, hj => by
    obtain rfl : x = r := by simpa using h
    rw [tv_cons, Nat.zero_mul, Nat.zero_add, List.getElem?_append_left (by simp [TC]; omega)]
  | x :: l, k + 1, j, r, h, hj => by
    rw [tv_cons, List.getElem?_append_right (by simp [TC]; omega)]
    rw [show (k + 1) * 4 + j - (TC x).length = k * 4 + j by simp [TC]; omega]
    exact tv_get l k j r (by simpa using h) hj
theorem tv_one (a : List T) : ∀ u ∈ tv a, u.oneCell' = true := by
  intro u hu
  obtain ⟨r, _, hr⟩ := List.mem_flatMap.1 hu
  simp only [TC, List.mem_cons, List.not_mem_nil, or_false] at hr
  rcases hr with rfl | rfl | rfl | rfl <;> rfl
/-- A slice of tokens that reads as the list l. -/
def SlT (w : World) (A : Option Addr) (c : Nat) (l : List T) : Prop := Sl w A l.length c 4 (tv l)
theorem SlT.on {w w' : World} {A : Option Addr} {c : Nat} {l : List T} (h : SlT w A c l) (hb : Below w.heap.size w w') : SlT w' A c l := Sl.on h hb
theorem SlT.of_own {w : World} {base : Nat} {e : TypeId} {v : Value} {l : List T} (h : w.ownsRow base e 4 v l.length (tv l)) : ∃ A c, v = .slice A l.length c ∧ SlT w A c l := Sl.of_own h
/-- The token at k: its address, and its cells. -/
theorem SlT.at_ {w : World} {A : Option Addr} {c : Nat} {l : List T} (h : SlT w A c l) {k : Nat} (hk : k < l.length) : ∃ ad r, A = some ad ∧ ad.block < w.heap.size ∧ l[k]? = some r ∧
    w.cell? (ad.add (k * 4)) = some (.int .i64 r.kind) ∧ w.cell? ⟨(ad.add (k * 4)).block, (ad.add (k * 4)).off + 1, none⟩ = some (.string (txt r.text)) ∧ w.cell? ⟨(ad.add (k * 4)).block, (ad.add (k * 4)).off + 2, none⟩ = some (.int .i64 r.num) ∧
    w.cell? ⟨(ad.add (k * 4)).block, (ad.add (k * 4)).off + 3, none⟩ = some (.int .i64 r.at_) := by
  obtain ⟨ad, rfl, hb, hcell⟩ := Sl.there h (by omega)
  have hg : l[k]? = some l[k] := List.getElem?_eq_getElem hk
  have hadd : ∀ j : Nat, 0 < j → (⟨(ad.add (k * 4)).block, (ad.add (k * 4)).off + j, none⟩ : Addr) = ad.add (k * 4 + j) := fun j hj => by
    rw [← add_twice]
    cases j with
    | zero => omega
    | succ j => simp [Addr.add]
  refine ⟨ad, l[k], rfl, hb, hg, ?_, ?_, ?_, ?_⟩
  · exact hcell (k * 4) _ (by have := tv_get l k 0 _ hg (by omega); rw [Nat.add_zero] at this; rw [this]; rfl)
  · rw [hadd 1 (by omega)]; exact hcell _ _ (by rw [tv_get l k 1 _ hg (by omega)]; rfl)
  · rw [hadd 2 (by omega)]; exact hcell _ _ (by rw [tv_get l k 2 _ hg (by omega)]; rfl)
  · rw [hadd 3 (by omega)]; exact hcell _ _ (by rw [tv_get l k 3 _ hg (by omega)]; rfl)
theorem ttake_ne {l m : List T} {k : Nat} {x y : T} (hx : l[k]? = some x) (hy : m[k]? = some y) (hne : x ≠ y) : l ≠ m := by
  rintro rfl
  rw [hx] at hy
  exact hne (by injection hy)
theorem ttake_next {l m : List T} {k : Nat} {x : T} (hx : l[k]? = some x) (hy : m[k]? = some x) (h : l.take k = m.take k) : l.take (k + 1) = m.take (k + 1) := by
  rw [List.take_add_one, List.take_add_one, h, hx, hy]
instance : DecidableEq T := fun a b => by
  obtain ⟨a1, a2, a3, a4⟩ := a
  obtain ⟨b1, b2, b3, b4⟩ := b
  exact decidable_of_iff (a1 = b1 ∧ a2 = b2 ∧ a3 = b3 ∧ a4 = b4) (by simp)
theorem txt_ne {a b : List UInt8} (h : a ≠ b) : ((txt a).toList == (txt b).toList) = false := by
  rw [beq_eq_false_iff_ne, Lib.toList_data, Lib.toList_data, txt_list, txt_list]; exact h

end Go.Proofs.YtjmcpfckcajnjaaGreatDoor
/-
  The parser as it lies in memory; the contracts of what only looks at it.
-/
namespace Go.Proofs.YtjmcpfckcajnjaaGreatDoor
set_option maxRecDepth 100000

open Go.RowKit

theorem heap_cell {w : World} {g : Nat} {cs : Array Value} {t : TypeId} {fr : Nat × Nat} (h : w.heap[g]? = some (.cells cs t fr)) (j : Nat) : w.cell? ⟨g, j, none⟩ = cs[j]? := by simp [World.cell?, h]
theorem heap_free {w : World} {g : Nat} {cs : Array Value} {t : TypeId} (h : w.heap[g]? = some (.cells cs t (0, 0))) (j : Nat) : w.frozen? ⟨g, j, none⟩ = false := by simp [World.frozen?, h]
theorem heap_setCell_same {w : World} {g j : Nat} {cs : Array Value} {t : TypeId} {fr : Nat × Nat} (h : w.heap[g]? = some (.cells cs t fr)) (v : Value) : (w.setCell ⟨g, j, none⟩ v).heap[g]? = some (.cells (cs.setIfInBounds j v) t fr) := by
  rw [setCell_eq_setRow w g j cs t fr v h]
  exact setRow_heap w g cs _ t fr h
/-- As a slice of tokens stays where no block of its own is written. -/
theorem SlT.kept {w w' : World} {A : Option Addr} {c : Nat} {l : List T} (h : SlT w A c l) (hs : w.heap.size ≤ w'.heap.size) (hb : ∀ ad, A = some ad → w'.heap[ad.block]? = w.heap[ad.block]?) : SlT w' A c l := by
  refine ⟨h.len, h.le, h.cap, h.nil, fun ad ha hn => Nat.lt_of_lt_of_le (h.old ad ha hn) hs, fun ad ha k u hu => ?_⟩
  have hk : w'.heap[(ad.add k).block]? = w.heap[(ad.add k).block]? := by rw [add_same_block]; exact hb ad ha
  exact (World.cell?_of_block hk).trans (h.cell ad ha k u hu)
/-- The first token, as it lies there. -/
theorem SlT.head {w : World} {A : Option Addr} {c : Nat} {t : T} {l : List T} (h : SlT w A c (t :: l)) : ∃ ad, A = some ad ∧ w.cell? ad = some (.int .i64 t.kind) ∧ w.cell? ⟨ad.block, ad.off + 1, none⟩ = some (.string (txt t.text)) ∧
    w.cell? ⟨ad.block, ad.off + 2, none⟩ = some (.int .i64 t.num) ∧ w.cell? ⟨ad.block, ad.off + 3, none⟩ = some (.int .i64 t.at_) := by
  obtain ⟨ad, r, rfl, hb, hr, p0, p1, p2, p3⟩ := SlT.at_ h (k := 0) (by simp)
  obtain rfl : t = r := by simpa using hr
  simp only [Nat.zero_mul, add_nothing] at p0 p1 p2 p3
  exact ⟨ad, rfl, p0, p1, p2, p3⟩
theorem SlT.second {w : World} {A : Option Addr} {c : Nat} {t u : T} {l : List T} (h : SlT w A c (t :: u :: l)) : ∃ ad, A = some ad ∧ w.cell? ⟨ad.block, ad.off + 4, none⟩ = some (.int .i64 u.kind) ∧ w.cell? ⟨ad.block, ad.off + 5, none⟩ = some (.string (txt u.text)) := by
  obtain ⟨ad, r, rfl, hb, hr, p0, p1, p2, p3⟩ := SlT.at_ h (k := 1) (by simp)
  obtain rfl : u = r := by simpa using hr
  simp only [Nat.one_mul] at p0 p1
  exact ⟨ad, rfl, p0, p1⟩

theorem ret_int_pl {k : IntKind} {a b : Int} (h : a = b) : Ending.returned (.int k a) = .returned (.int k b) := by rw [h]
end Go.Proofs.YtjmcpfckcajnjaaGreatDoor
