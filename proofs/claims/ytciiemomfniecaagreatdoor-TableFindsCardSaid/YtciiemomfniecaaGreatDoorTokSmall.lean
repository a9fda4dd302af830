/-
  The package-level variables of Go's own packages that this program reads, and the contracts of the functions of Go that it calls.
-/
import Derived.Test.YtciiemomfniecaaGreatDoorShelf
import Derived.Test.YtciiemomfniecaaGreatDoorTokPlaces
namespace Go.Proofs.YtciiemomfniecaaGreatDoor
set_option maxRecDepth 100000

open Go.RowKit

theorem var_on {P : Program} {n : String} {w w' : World} {cs : Array Value} (h : w.var? P n = some cs) (hb : Below w.heap.size w w') : w'.var? P n = some cs := by
  unfold World.var? at h ⊢
  cases hg : P.globalNamed n with
  | none => simp [hg] at h
  | some g =>
    simp only [hg, Option.bind_some] at h ⊢
    have hlt : g < w.heap.size := by
      rcases Nat.lt_or_ge g w.heap.size with h' | h'
      · exact h'
      · rw [Array.getElem?_eq_none h'] at h; simp at h
    rw [hb.block g hlt]
    exact h
/-- The table of powers of ten, and the two errors of numbers, lie there. -/
structure Laid (w : World) : Prop where
  tab : Lib.TabIs Tryz.prog w "internal/strconv.uint64pow10" .u64 Lib.pow10Tab
  syn : ∃ tp p, w.var? Tryz.prog "strconv.ErrSyntax" = some #[.iface tp p]
  ran : ∃ tp p, w.var? Tryz.prog "strconv.ErrRange" = some #[.iface tp p]
theorem Laid.on {w w' : World} (h : Laid w) (hb : Below w.heap.size w w') : Laid w' := by
  obtain ⟨h1, ⟨t2, p2, h2⟩, ⟨t3, p3, h3⟩⟩ := h
  exact ⟨var_on h1 hb, ⟨t2, p2, var_on h2 hb⟩, ⟨t3, p3, var_on h3 hb⟩⟩
theorem below_grows (w : World) (k : Nat) (os : Array Obj) : Below w.heap.size w (Go.Sort.grow (w.drewN k) os) :=
  ⟨rfl, rfl, rfl, by simp [Go.Sort.grow], fun i hi => by simp only [Go.Sort.grow]; rw [Array.getElem?_append_left (by simpa using hi)]; rfl⟩

theorem index_any (s : ByteArray) (c : UInt8) (w : World) :
    Calls Tryz.prog 139 #[.string s, .int .u8 (c.toNat : Int)] w fun e w' => e = .returned (.int .i64 (Lib.indexByte s.data.toList c)) ∧ w = w' := by
  refine (Tryz.strings_IndexByte s c.toNat w).mono ?_
  rintro e w' ⟨rfl, rfl⟩
  refine ⟨?_, rfl⟩
  simp
theorem prefix_any (s p : ByteArray) (w : World) :
    Calls Tryz.prog 138 #[.string s, .string p] w fun e w' => e = .returned (.bool (Lib.hasPrefix s.data.toList p.data.toList)) ∧ w = w' := by
  rw [← Lib.hasPrefix_of_take, ← Lib.size_eq, ← Lib.size_eq]
  go_enter Tryz.func138, Tryz.ntmps138
  go_wp2
  · rename_i h
    go_ret
    refine ⟨?_, rfl⟩
    show Ending.returned (Value.bool ((s.extract 0 p.size).toList == p.toList)) = _
    rw [Lib.extract_toList, Lib.toList_data]
    simp [h]
  · rename_i h
    go_ret
    refine ⟨?_, rfl⟩
    show Ending.returned (Value.bool false) = _
    simp [h]
theorem clone_any (s : ByteArray) (hs : s.size ≤ 281474976710656) (w : World) : Calls Tryz.prog 189 #[.string s] w fun e w' => e = .returned (.string s) ∧ Below w.heap.size w w' := by
  go_enter Tryz.func189, Tryz.ntmps189
  go_wp2_with fail
  refine (Tryz.stringslite_Clone s _ hs).mono ?_
  rintro e w1 ⟨rfl, hb⟩
  go_wp2
  go_ret
  exact ⟨rfl, hb⟩
theorem format_any (n : Int) (h0 : -9223372036854775808 ≤ n) (h1 : n ≤ 9223372036854775807) (w : World) (L : Laid w) :
    Calls Tryz.prog 132 #[.int .i64 n, .int .i64 10] w fun e w' => e = .returned (.string (txt (Lib.itoa n))) ∧ Below w.heap.size w w' := by
  refine (Tryz.strconv_FormatInt_10 n h0 h1 w L.tab).mono ?_
  rintro e w' ⟨rfl, k, os, rfl⟩
  exact ⟨rfl, below_grows w k os⟩
theorem parse_ok (s : ByteArray) (hs : s.size ≤ 1000000) (v : Int) (h : Lib.parseIntB 64 s.data.toList = .ok v) (w : World) :
    Calls Tryz.prog 165 #[.string s, .int .i64 10, .int .i64 64] w fun e w' => e = .returned (.tuple #[.int .i64 v, .nilIface]) ∧ Below w.heap.size w w' := by
  refine (Tryz.strconv_ParseInt_10_at64_ok s (by omega) v h w).mono ?_
  rintro e w' ⟨rfl, hw⟩
  refine ⟨rfl, ?_⟩
  rcases hw with rfl | ⟨t, rfl⟩
  · exact Below.refl _ _
  · exact Lib.bytesWorld_below _ _ _
theorem parse_not (s : ByteArray) (hs : s.size ≤ 1000000) (h : ∀ v, Lib.parseIntB 64 s.data.toList ≠ .ok v) (w : World) (L : Laid w) :
    Calls Tryz.prog 165 #[.string s, .int .i64 10, .int .i64 64] w fun e w' => ∃ v t p, e = .returned (.tuple #[.int .i64 v, .iface t p]) ∧ Below w.heap.size w w' := by
  cases hp : Lib.parseIntB 64 s.data.toList with
  | ok v => exact absurd hp (h v)
  | range =>
    obtain ⟨tp, p, hv⟩ := L.ran
    refine (Tryz.strconv_ParseInt_10_at64_range_var s (by omega) hp tp p w hv).mono ?_
    rintro e w' ⟨N, rfl, _, _, hb⟩
    exact ⟨_, _, _, rfl, hb⟩
  | _ =>
    obtain ⟨tp, p, hv⟩ := L.syn
    refine (Tryz.strconv_ParseInt_10_at64_syntax_var s (by omega) hp tp p w hv).mono ?_
    rintro e w' ⟨N, rfl, _, _, hb⟩
    exact ⟨_, _, _, rfl, hb⟩
theorem digits_any (n : Int) (h0 : -9223372036854775808 ≤ n) (h1 : n ≤ 9223372036854775807) (w : World) (L : Laid w) :
    Calls Tryz.prog 112 #[.int .i64 n] w fun e w' => e = .returned (.string (txt (Lib.itoa n))) ∧ Below w.heap.size w w' := by
  go_enter Tryz.func112, Tryz.ntmps112
  go_wp2_with fail
  refine (format_any n h0 h1 _ L).mono ?_
  rintro e w1 ⟨rfl, hb⟩
  go_wp2
  go_ret
  exact ⟨rfl, hb⟩
end Go.Proofs.YtciiemomfniecaaGreatDoor
/-
  The two tables of package table, and the contracts of its small functions.
-/
namespace Go.Proofs.YtciiemomfniecaaGreatDoor
set_option maxRecDepth 100000

open Go.RowKit

def plainsC : Array Value := #[.string (txt tInt64), .int .i64 0, .string (txt tSint64), .int .i64 1, .string (txt tUint32), .int .i64 2, .string (txt tBool), .int .i64 3, .string (txt tFixed32), .int .i64 4, .string (txt tSfixed64), .int .i64 5, .string (txt tString), .int .i64 7, .string (txt tBytes), .int .i64 8]
def stancesC : Array Value := #[.bool false, .bool false, .bool false, .bool true, .bool false, .bool false, .bool false, .bool true, .bool false, .bool false, .bool false, .bool true]
/-- The tables lie there. -/
structure Tabs (w : World) : Prop where
  plains : TabAt w 0 plainsC
  stances : TabAt w 1 stancesC
theorem Tabs.on {w w' : World} (h : Tabs w) (hb : Below w.heap.size w w') : Tabs w' := ⟨h.plains.on hb, h.stances.on hb⟩

theorem index_plain (w : World) {k : Nat} {p : List UInt8 × Nat} (h : plainsL[k]? = some p) : (Instr.index 88 (.agg plainsC) (.int .i64 k)).run Tryz.prog w = .ok (.agg #[.string (txt p.1), .int .i64 p.2]) w := by
  obtain ⟨hk, rfl⟩ := List.getElem?_eq_some_iff.1 h
  have hc : k = 0 ∨ k = 1 ∨ k = 2 ∨ k = 3 ∨ k = 4 ∨ k = 5 ∨ k = 6 ∨ k = 7 := by simp [plainsL] at hk; omega
  clear h
  rcases hc with rfl | rfl | rfl | rfl | rfl | rfl | rfl | rfl <;> (change _ = _; kernel_rfl)
def stanceL : List (Bool × Bool × Bool) := [(false, false, false), (true, false, false), (false, true, false), (false, false, true)]
theorem index_stance (w : World) {k : Nat} {p : Bool × Bool × Bool} (h : stanceL[k]? = some p) : (Instr.index 190 (.agg stancesC) (.int .i64 k)).run Tryz.prog w = .ok (.agg #[.bool p.1, .bool p.2.1, .bool p.2.2]) w := by
  obtain ⟨hk, rfl⟩ := List.getElem?_eq_some_iff.1 h
  have hc : k = 0 ∨ k = 1 ∨ k = 2 ∨ k = 3 := by simp [stanceL] at hk; omega
  clear h
  rcases hc with rfl | rfl | rfl | rfl <;> (change _ = _; kernel_rfl)

theorem isKey_any (k : Int) (w : World) : Calls Tryz.prog 129 #[.int .i64 k] w fun e w' => e = .returned (.bool (keyedB k)) ∧ w = w' := by
  have H : Hid (keyedB k = (k == 0 || k == 1 || k == 2 || k == 3 || k == 4 || k == 5 || k == 7)) := Lib.hid rfl
  go_enter Tryz.func129, Tryz.ntmps129
  go_wp2
  all_goals (go_ret; refine ⟨ret_bool ?_, rfl⟩; rw [H.out]; first | (simp_all; done) | (rw [Bool.eq_iff_iff]; simp_all [or_assoc]))
theorem isNumber_any (n : Int) (w : World) : Calls Tryz.prog 78 #[.int .i64 n] w fun e w' => e = .returned (.bool (numberB n)) ∧ w = w' := by
  have H : Hid (numberB n = (decide (1 ≤ n) && decide (n ≤ 536870911) && (decide (n < 19000) || decide (19999 < n)))) := Lib.hid (by
    unfold numberB
    congr 1
    rw [Bool.eq_iff_iff]
    simp only [Bool.not_eq_true', Bool.and_eq_false_iff, decide_eq_false_iff_not, Bool.or_eq_true, decide_eq_true_eq]
    omega)
  go_enter Tryz.func78, Tryz.ntmps78
  go_wp2
  all_goals (go_ret; refine ⟨ret_bool ?_, rfl⟩; rw [H.out]; first | (simp_all; done) | (rw [Bool.eq_iff_iff]; simp only [Bool.and_eq_true, Bool.or_eq_true, decide_eq_true_eq, Bool.false_eq_true, true_iff, false_iff]; omega))
theorem isEnums_any (n : Int) (w : World) : Calls Tryz.prog 122 #[.int .i64 n] w fun e w' => e = .returned (.bool (decide (-2147483648 ≤ n) && decide (n ≤ 2147483647))) ∧ w = w' := by
  go_enter Tryz.func122, Tryz.ntmps122
  go_wp2
  all_goals (go_ret; refine ⟨ret_bool ?_, rfl⟩; first | (simp_all; done) | (rw [Bool.eq_iff_iff]; simp only [Bool.and_eq_true, Bool.or_eq_true, decide_eq_true_eq, Bool.false_eq_true, true_iff, false_iff]; omega))
theorem mayName_any (n : Int) (w : World) : Calls Tryz.prog 68 #[.int .i64 n] w fun e w' => e = .returned (.bool (decide (1 ≤ n) && decide (n ≤ 30))) ∧ w = w' := by
  go_enter Tryz.func68, Tryz.ntmps68
  go_wp2
  all_goals (go_ret; refine ⟨ret_bool ?_, rfl⟩; first | (simp_all; done) | (rw [Bool.eq_iff_iff]; simp only [Bool.and_eq_true, Bool.or_eq_true, decide_eq_true_eq, Bool.false_eq_true, true_iff, false_iff]; omega))
theorem mayHold_any (n m : Int) (w : World) : Calls Tryz.prog 31 #[.int .i64 n, .int .i64 m] w fun e w' => e = .returned (.bool (decide (1 ≤ n) && decide (n ≤ 20) && decide (m ≤ 20))) ∧ w = w' := by
  go_enter Tryz.func31, Tryz.ntmps31
  go_wp2
  all_goals (go_ret; refine ⟨ret_bool ?_, rfl⟩; first | (simp_all; done) | (rw [Bool.eq_iff_iff]; simp only [Bool.and_eq_true, Bool.or_eq_true, decide_eq_true_eq, Bool.false_eq_true, true_iff, false_iff]; omega))

theorem find_take_next {l : List (List UInt8 × Nat)} {k : Nat} {p : List UInt8 × Nat} {x : List UInt8} (hk : l[k]? = some p) (h : ((l.take k).find? fun q => q.1 == x) = none) : ((l.take (k + 1)).find? fun q => q.1 == x) = if p.1 = x then some p else none := by
  rw [List.take_add_one, hk, List.find?_append, h, Option.none_or]
  simp only [Option.toList, List.find?_cons, List.find?_nil]
  by_cases hx : p.1 = x
  · simp [hx]
  · have : (p.1 == x) = false := beq_eq_false_iff_ne.2 hx
    simp [hx, this]
theorem find_of_take {α : Type} {l : List α} {k : Nat} {g : α → Bool} {p : α} (h : (l.take k).find? g = some p) : l.find? g = some p := by
  rw [← List.take_append_drop k l, List.find?_append, h]
  rfl
set_option maxRecDepth 1000000 in
set_option maxHeartbeats 1000000 in
theorem type_any (x : List UInt8) (w : World) (T : Tabs w) :
    Calls Tryz.prog 23 #[.string (txt x)] w fun e w' => e = .returned (.tuple #[.int .i64 ((typeK x).getD 0 : Nat), .bool (typeK x).isSome]) ∧ Below w.heap.size w w' := by
  obtain ⟨tt, fr, hT⟩ := T.plains
  have HF := Lib.hid (typeK_find x)
  clear T
  go_enter Tryz.func23, Tryz.ntmps23
  go_wp2_with (refine wpList_load_row rfl 88 _ rfl 0 rfl tt _ fr _ hT Tryz.underlying88 rfl (by kernel_rfl) ?_)
  go_loopw [7] (fun i wr => ∃ k : Nat, i = .int .i64 k ∧ k ≤ 8 ∧ ((plainsL.take k).find? fun q => q.1 == x) = none ∧ Below w.heap.size w wr) (fun i _ => 8 - (intOf i).toNat)
  case atStart => exact ⟨0, rfl, by omega, rfl, Below.refl _ _⟩
  case round =>
    obtain ⟨k, rfl, hk, hf, hb⟩ := hrel
    by_cases hlt : k < 8
    · obtain ⟨p, hp⟩ : ∃ p, plainsL[k]? = some p := ⟨_, List.getElem?_eq_getElem hlt⟩
      have hi := index_plain wr hp
      have HN := Lib.hid (find_take_next (x := x) hp hf)
      clear hf hp
      by_cases hx : p.1 = x
      · have he : ((txt p.1).toList == (txt x).toList) = true := by rw [hx]; simp
        have HX := Lib.hid hx
        clear hx
        go_wp2
        go_ret2
        refine ⟨?_, hb.trans (below_new _ _ |>.mono hb.size)⟩
        have h := HN.out
        rw [if_pos HX.out] at h
        have h2 := HF.out
        rw [find_of_take h] at h2
        rw [← h2]
        rfl
      · have he : ((txt p.1).toList == (txt x).toList) = false := by
          rw [beq_eq_false_iff_ne, Lib.toList_data, Lib.toList_data, txt_list, txt_list]; exact hx
        have HX := Lib.hid hx
        clear hx
        go_wp2
        refine ⟨⟨k + 1, by go_num, by omega, ?_, hb.trans (below_new _ _ |>.mono hb.size)⟩, by simp [intOf]; omega⟩
        have h := HN.out
        rw [if_neg HX.out] at h
        exact h
    · obtain rfl : k = 8 := by omega
      go_wp2
      go_ret2
      refine ⟨?_, hb⟩
      have h2 := HF.out
      rw [show plainsL.take 8 = plainsL from rfl] at hf
      rw [hf] at h2
      rw [← h2]
      rfl
theorem keyOf_any (x : List UInt8) (w : World) (T : Tabs w) :
    Calls Tryz.prog 118 #[.string (txt x)] w fun e w' => e = .returned (.tuple #[.int .i64 (keyK x), .bool (decide (x = []) || keyOK x)]) ∧ Below w.heap.size w w' := by
  by_cases hx : x = []
  · subst hx
    have he2 : (txt ([] : List UInt8)).toList.isEmpty = true := by rw [Lib.toList_data, txt_list]; rfl
    go_enter Tryz.func118, Tryz.ntmps118
    go_wp2
    go_ret2
    exact ⟨rfl, Below.refl _ _⟩
  · have he : ((txt x).toList == (⟨#[]⟩ : ByteArray).toList) = false := by
      rw [beq_eq_false_iff_ne, Lib.toList_data, txt_list, Lib.toList_data]; exact hx
    have he2 : (txt x).toList.isEmpty = false := by
      rw [Lib.toList_data, txt_list]; cases x <;> simp_all
    have H1 : Hid (keyK x = (((typeK x).getD 0 : Nat) : Int)) := Lib.hid (by unfold keyK; rw [if_neg hx]; cases typeK x <;> rfl)
    have H2 : Hid ((decide (x = []) || keyOK x) = ((typeK x).isSome && keyedB (((typeK x).getD 0 : Nat) : Int))) := Lib.hid (by
      rw [decide_eq_false hx, Bool.false_or]
      unfold keyOK
      cases typeK x <;> rfl)
    have HT := Lib.hid (type_any x w T)
    clear hx T
    cases ht : typeK x with
    | none =>
      rw [ht] at HT H1 H2
      clear ht
      go_enter Tryz.func118, Tryz.ntmps118
      go_wp2_with (refine HT.out.mono ?_; rintro e w1 ⟨rfl, hb⟩)
      go_ret2
      exact ⟨by rw [H1.out, H2.out]; rfl, hb⟩
    | some q =>
      rw [ht] at HT H1 H2
      clear ht
      go_enter Tryz.func118, Tryz.ntmps118
      go_wp2_with (first
        | (go_at_call 23; refine HT.out.mono ?_; rintro e w1 ⟨rfl, hb⟩)
        | (go_at_call 129; refine (isKey_any _ _).mono ?_; rintro e w2 ⟨rfl, rfl⟩))
      go_ret2
      exact ⟨by rw [H1.out, H2.out]; rfl, hb⟩
theorem eql_stance (a b c a' b' c' : Bool) (w : World) : Sem.run Tryz.prog (binOp .eql 189 (.agg #[.bool a, .bool b, .bool c]) (.agg #[.bool a', .bool b', .bool c'])) w = .ok (.bool (decide ((a, b, c) = (a', b', c')))) w := by
  cases a <;> cases b <;> cases c <;> cases a' <;> cases b' <;> cases c' <;> kernel_rfl
theorem stand_list (ones one : Int) (rep pairs : Bool) (h0 : 0 ≤ one) (h1 : one ≤ ones) : standB ones one rep pairs = stanceL.contains (rep, pairs, decide (one ≠ 0)) := by
  unfold standB
  rw [decide_eq_true h0, decide_eq_true h1]
  cases rep <;> cases pairs <;> cases decide (one ≠ 0) <;> rfl
set_option maxRecDepth 1000000 in
set_option maxHeartbeats 1000000 in
theorem mayStand_any (ones one : Int) (rep pairs : Bool) (w : World) (T : Tabs w) :
    Calls Tryz.prog 79 #[.int .i64 ones, .int .i64 one, .bool rep, .bool pairs] w fun e w' => e = .returned (.bool (standB ones one rep pairs)) ∧ Below w.heap.size w w' := by
  obtain ⟨tt, fr, hT⟩ := T.stances
  clear T
  by_cases h0 : one < 0
  · have H : Hid (standB ones one rep pairs = false) := Lib.hid (by unfold standB; rw [decide_eq_false (by omega)]; simp)
    have hd : decide (one < 0) = true := decide_eq_true h0
    go_enter Tryz.func79, Tryz.ntmps79
    go_wp2
    go_ret
    exact ⟨by rw [H.out]; rfl, Below.refl _ _⟩
  · have hd : decide (one < 0) = false := decide_eq_false h0
    by_cases h1 : ones < one
    · have H : Hid (standB ones one rep pairs = false) := Lib.hid (by unfold standB; rw [decide_eq_false (show ¬ one ≤ ones by omega)]; simp)
      have hd2 : decide (one > ones) = true := decide_eq_true h1
      have hd3 : decide (ones < one) = true := decide_eq_true h1
      go_enter Tryz.func79, Tryz.ntmps79
      go_wp2
      go_ret
      exact ⟨by rw [H.out]; rfl, Below.refl _ _⟩
    · have H := Lib.hid (stand_list ones one rep pairs (by omega) (by omega))
      have hd2 : decide (one > ones) = false := decide_eq_false h1
      have hd3 : decide (ones < one) = false := decide_eq_false h1
      obtain ⟨o, ho⟩ : ∃ o, (one != 0) = o := ⟨_, rfl⟩
      have HO : Hid (decide (one ≠ 0) = o) := Lib.hid (by rw [← ho]; by_cases h : one = 0 <;> simp [h])
      go_enter Tryz.func79, Tryz.ntmps79
      go_wp2_with (refine wpList_load_row rfl 190 _ rfl 1 rfl tt _ fr _ hT Tryz.underlying190 rfl (by kernel_rfl) ?_)
      go_loopw [19] (fun i wr => ∃ k : Nat, i = .int .i64 k ∧ k ≤ 4 ∧ (stanceL.take k).contains (rep, pairs, o) = false ∧ Below w.heap.size w wr) (fun i _ => 4 - (intOf i).toNat)
      case atStart => exact ⟨0, rfl, by omega, rfl, Below.refl _ _⟩
      case round =>
        obtain ⟨k, rfl, hk, hf, hb⟩ := hrel
        by_cases hlt : k < 4
        · obtain ⟨p, hp⟩ : ∃ p, stanceL[k]? = some p := ⟨_, List.getElem?_eq_getElem hlt⟩
          have hi := index_stance wr hp
          have hq := fun w => eql_stance p.1 p.2.1 p.2.2 rep pairs o w
          have HF := Lib.hid hf
          have HP := Lib.hid hp
          clear hf hp
          obtain ⟨d, hd⟩ : ∃ d, decide ((p.1, p.2.1, p.2.2) = (rep, pairs, o)) = d := ⟨_, rfl⟩
          have HD := Lib.hid hd
          rw [hd] at hq
          clear hd
          cases d with
          | true =>
            go_wp2
            go_ret
            refine ⟨?_, hb.trans (below_new _ _ |>.mono hb.size)⟩
            rw [H.out, HO.out, ← of_decide_eq_true HD.out]
            have : stanceL.contains (p.1, p.2.1, p.2.2) = true := by rw [List.contains_eq_mem, decide_eq_true_eq]; exact List.mem_of_getElem? HP.out
            rw [this]; rfl
          | false =>
            go_wp2
            refine ⟨⟨k + 1, by go_num, by omega, ?_, hb.trans (below_new _ _ |>.mono hb.size)⟩, by simp [intOf]; omega⟩
            rw [List.take_add_one, HP.out]
            have h1 := HF.out
            have h2 := of_decide_eq_false HD.out
            rw [List.contains_eq_mem, decide_eq_false_iff_not] at h1 ⊢
            intro hm
            rcases List.mem_append.1 hm with hm | hm
            · exact h1 hm
            · have : (rep, pairs, o) = p := by simpa using hm
              exact h2 this.symm
        · obtain rfl : k = 4 := by omega
          go_wp2
          go_ret
          refine ⟨?_, hb⟩
          rw [H.out, HO.out]
          rw [show stanceL.take 4 = stanceL from rfl] at hf
          rw [hf]; rfl
end Go.Proofs.YtciiemomfniecaaGreatDoor
/-
  Blanks: the contracts of the functions that go past them.
-/
namespace Go.Proofs.YtciiemomfniecaaGreatDoor
set_option maxRecDepth 100000

open Go.RowKit

theorem index_span (c : UInt8) : ∀ l : List UInt8, Lib.indexByte l c = if c ∈ l then (span (fun d => d != c) l : Int) else -1
  | [] => by simp [Lib.indexByte]
  | d :: r => by
    have ih := index_span c r
    by_cases h : d = c
    · subst h; simp [Lib.indexByte, span]
    · have h1 : (d == c) = false := by simpa using h
      have h2 : (d != c) = true := by simpa using h
      have h3 : c ≠ d := fun e => h e.symm
      simp only [Lib.indexByte, h1, span, h2, if_true, List.mem_cons, h3, false_or, Bool.false_eq_true, if_false]
      rw [ih]
      by_cases hm : c ∈ r
      · simp only [hm, if_true]
        have : ((span (fun d => d != c) r : Int) == -1) = false := by rw [beq_eq_false_iff_ne]; omega
        simp [this]
      · simp [hm]
theorem at_list (s : ByteArray) (k : Nat) (h : k < s.size) : s.data.toList[k]? = some (s[k]'h) := by
  rw [List.getElem?_eq_getElem (by simpa using h)]
  simp [ByteArray.getElem_eq_getElem_data]
theorem from_list (s : ByteArray) (p : Nat) : (s.extract p s.size).data.toList = s.data.toList.drop p := by
  rw [Lib.extract_data]
  exact List.take_of_length_le (by simp)
theorem from_size (s : ByteArray) (p : Nat) : (s.extract p s.size).size = s.size - p := by simp

theorem span_next {f : UInt8 → Bool} {l : List UInt8} {k : Nat} {c : UInt8} (hc : l[k]? = some c) (hf : f c = true) : span f (l.drop k) = span f (l.drop (k + 1)) + 1 := by
  obtain ⟨h, e⟩ := List.getElem?_eq_some_iff.1 hc
  rw [List.drop_eq_getElem_cons h, e]
  simp [span, hf]
theorem span_stop {f : UInt8 → Bool} {l : List UInt8} {k : Nat} {c : UInt8} (hc : l[k]? = some c) (hf : f c = false) : span f (l.drop k) = 0 := by
  obtain ⟨h, e⟩ := List.getElem?_eq_some_iff.1 hc
  rw [List.drop_eq_getElem_cons h, e]
  simp [span, hf]
theorem span_end {f : UInt8 → Bool} {l : List UInt8} {k : Nat} (h : l.length ≤ k) : span f (l.drop k) = 0 := by
  rw [List.drop_of_length_le h]; rfl

set_option maxRecDepth 1000000 in
theorem behind_any (s : ByteArray) (hs : s.size ≤ 1000000) (p : Nat) (hp : p ≤ s.size) (set : ByteArray) (f : UInt8 → Bool) (hf : ∀ c, decide (0 ≤ Lib.indexByte set.data.toList c) = f c) (w : World) :
    Calls Tryz.prog 137 #[.string s, .int .i64 p, .string set] w fun e w' => e = .returned (.int .i64 ((p + span f (s.data.toList.drop p) : Nat) : Int)) ∧ w = w' := by
  have hsl : s.data.toList.length = s.size := by simp
  have hsg := at_list s
  generalize hL : s.data.toList = L at *
  have HSL := Lib.hid hsl
  have HSG := Lib.hid hsg
  have HF := Lib.hid hf
  clear hsl hsg hf hL
  obtain ⟨R, hR⟩ : ∃ R, R = p + span f (L.drop p) := ⟨_, rfl⟩
  rw [← hR]
  have HR := Lib.hid hR
  clear hR
  go_enter Tryz.func137, Tryz.ntmps137
  go_wp2_with fail
  go_loopw [1] (fun i wr => ∃ k : Nat, i = .int .i64 k ∧ k ≤ s.size ∧ R = k + span f (L.drop k) ∧ w = wr) (fun i _ => s.size - (intOf i).toNat)
  case atStart => exact ⟨p, rfl, hp, HR.out, rfl⟩
  case round =>
    obtain ⟨k, rfl, hk, hr, rfl⟩ := hrel
    have HB := Lib.hid hr
    clear hr
    by_cases h1 : k < s.size
    · have HX := Lib.hid (HSG.out k h1)
      have hi := HF.out s[k]
      by_cases hc : f s[k] = true
      · have HN := Lib.hid (span_next HX.out hc)
        rw [hc] at hi
        clear hc
        go_wp2_with fail
        refine (index_any _ _ _).mono ?_
        rintro e w1 ⟨rfl, rfl⟩
        go_wp2
        exact ⟨⟨k + 1, by go_num, by omega, by rw [HB.out, HN.out]; omega, by first | rfl | trivial⟩, by simp [intOf]; omega⟩
      · have hc : f s[k] = false := by simpa using hc
        have HN := Lib.hid (span_stop HX.out hc)
        rw [hc] at hi
        clear hc
        go_wp2_with fail
        refine (index_any _ _ _).mono ?_
        rintro e w1 ⟨rfl, rfl⟩
        go_wp2
        go_ret
        exact ⟨ret_int (by rw [HB.out, HN.out]; simp), by first | rfl | trivial⟩
    · have HN := Lib.hid (span_end (f := f) (l := L) (k := k) (by rw [HSL.out]; omega))
      go_wp2
      go_ret
      exact ⟨ret_int (by rw [HB.out, HN.out]; simp), by first | rfl | trivial⟩

def blankS : ByteArray := ⟨#[32, 9, 10, 13]⟩
theorem blank_set (c : UInt8) : decide (0 ≤ Lib.indexByte blankS.data.toList c) = isBlank c := by
  have h : ∀ k : Fin 256, decide (0 ≤ Lib.indexByte blankS.data.toList (UInt8.ofNat k.val)) = isBlank (UInt8.ofNat k.val) := by decide +kernel
  have := h ⟨c.toNat, c.toNat_lt⟩
  simpa using this
theorem prefix2 (s : ByteArray) : Lib.hasPrefix s.data.toList [47, 47] = decide (s.data.toList.take 2 = [47, 47]) := by
  generalize s.data.toList = l
  match l with
  | [] => rfl
  | [a] => simp [Lib.hasPrefix, List.isPrefixOf]
  | a :: b :: r =>
    rw [Bool.eq_iff_iff]
    simp only [Lib.hasPrefix, List.isPrefixOf, Bool.and_eq_true, beq_iff_eq, decide_eq_true_eq, List.take_succ_cons, List.take_zero, List.cons.injEq, and_true, Bool.and_true]
    constructor
    · rintro ⟨h1, h2⟩; exact ⟨h1.symm, h2.symm⟩
    · rintro ⟨h1, h2⟩; exact ⟨h1.symm, h2.symm⟩
theorem behind_blanks (s : ByteArray) (hs : s.size ≤ 1000000) (p : Nat) (hp : p ≤ s.size) (w : World) :
    Calls Tryz.prog 137 #[.string s, .int .i64 p, .string ⟨#[32, 9, 10, 13]⟩] w fun e w' => e = .returned (.int .i64 ((p + span isBlank (s.data.toList.drop p) : Nat) : Int)) ∧ w = w' :=
  behind_any s hs p hp blankS isBlank blank_set w
/-- One step past blanks, and what is left. -/
theorem skip_more {l : List UInt8} {k : Nat} (hk : k ≤ l.length) (h2 : (l.drop k).take 2 = [47, 47]) :
    (10 ∉ l.drop k → k + ws false (l.drop k) = l.length) ∧
    (10 ∈ l.drop k → ∃ i, Lib.indexByte (l.drop k) 10 = ((i : Nat) : Int) ∧ 0 < i ∧ k + i ≤ l.length ∧ k + ws false (l.drop k) = k + i + span isBlank (l.drop (k + i)) + ws false (l.drop (k + i + span isBlank (l.drop (k + i))))) := by
  have hc := ws_comment h2
  have ht := ws_true (l.drop k)
  rw [hc, ht]
  constructor
  · intro h; rw [if_neg h, List.length_drop]; omega
  · intro h
    have hi := index_span 10 (l.drop k)
    rw [if_pos h] at hi
    have hle := span_le (fun d => d != 10) (l.drop k)
    rw [List.length_drop] at hle
    refine ⟨_, hi, ?_, by omega, ?_⟩
    · match hd : l.drop k with
      | [] => rw [hd] at h2; simp at h2
      | a :: b => rw [hd] at h2; simp at h2; obtain ⟨rfl, _⟩ := h2; simp [span]
    · rw [if_pos h, List.drop_drop]
      have := ws_step (l.drop (k + span (fun d => d != 10) (l.drop k)))
      rw [this, List.drop_drop]
      omega

set_option maxRecDepth 1000000 in
theorem skip_any (s : ByteArray) (hs : s.size ≤ 1000000) (p : Nat) (hp : p ≤ s.size) (w : World) :
    Calls Tryz.prog 114 #[.string s, .int .i64 p] w fun e w' => e = .returned (.int .i64 ((p + ws false (s.data.toList.drop p) : Nat) : Int)) ∧ w = w' := by
  have hsl : s.data.toList.length = s.size := by simp
  have hbl := fun k hk w => behind_blanks s hs k hk w
  have hfr := from_list s
  have hsp : ∀ k, span isBlank (s.data.toList.drop k) ≤ s.size - k := fun k => by
    have := span_le isBlank (s.data.toList.drop k)
    rwa [List.length_drop, hsl] at this
  have hst : p + ws false (s.data.toList.drop p) = p + span isBlank (s.data.toList.drop p) + ws false (s.data.toList.drop (p + span isBlank (s.data.toList.drop p))) := by
    have := ws_step (s.data.toList.drop p)
    rw [List.drop_drop] at this
    omega
  have h0 := span_drop isBlank (s.data.toList.drop p)
  rw [List.drop_drop] at h0
  generalize s.data.toList = L at *
  have HSL := Lib.hid hsl
  have HFR := Lib.hid hfr
  have HSP := Lib.hid hsp
  obtain ⟨R, hR⟩ : ∃ R, R = p + ws false (L.drop p) := ⟨_, rfl⟩
  rw [← hR] at hst ⊢
  have HST := Lib.hid hst
  have H0 := Lib.hid h0
  clear hR hsl hfr hsp hst h0
  go_enter Tryz.func114, Tryz.ntmps114
  go_wp2_with fail
  refine (hbl p hp _).mono ?_
  rintro e w1 ⟨rfl, rfl⟩
  have hq := HSP.out p
  generalize hQ : p + span isBlank (L.drop p) = q at *
  have hq' : q ≤ s.size := by omega
  clear hQ hq
  go_wp2_with fail
  go_loopw [1] (fun i wr => ∃ k : Nat, i = .int .i64 k ∧ k ≤ s.size ∧ R = k + ws false (L.drop k) ∧ span isBlank (L.drop k) = 0 ∧ w = wr) (fun i _ => s.size - (intOf i).toNat)
  case atStart => exact ⟨q, rfl, hq', HST.out, H0.out, rfl⟩
  case round =>
    obtain ⟨k, rfl, hk, hr, h0, rfl⟩ := hrel
    have HR := Lib.hid hr
    have HZ := Lib.hid h0
    clear hr h0
    have hpre := prefix2 (s.extract k s.size)
    rw [HFR.out] at hpre
    have HE := HFR.out k
    by_cases h2 : (L.drop k).take 2 = [47, 47]
    · have hpre' : Lib.hasPrefix (s.extract k s.size).data.toList [47, 47] = true := by rw [HE, hpre]; simp [h2]
      obtain ⟨hno, hyes⟩ := skip_more (by rw [HSL.out]; exact hk) h2
      have HPRE := Lib.hid hpre'
      by_cases hm : 10 ∈ L.drop k
      · obtain ⟨i, hi, hi0, hile, hw⟩ := hyes hm
        have HI : Hid (Lib.indexByte (s.extract k s.size).data.toList 10 = (i : Int)) := Lib.hid (by rw [HE]; exact hi)
        have HW := Lib.hid hw
        have hile' : k + i ≤ s.size := by rw [← HSL.out]; exact hile
        have HSD := Lib.hid (span_drop isBlank (L.drop (k + i)))
        clear hpre hpre' hno hyes h2 hm hi hw hile HE
        go_wp2_with fail
        refine (prefix_any _ _ _).mono ?_
        rintro e w1 ⟨rfl, rfl⟩
        rw [show (⟨#[47, 47]⟩ : ByteArray).data.toList = [47, 47] from rfl, HPRE.out]
        go_wp2_with fail
        refine (index_any _ 10 _).mono ?_
        rintro e w1 ⟨rfl, rfl⟩
        rw [HI.out]
        have b1 : decide ((i : Int) < 0) = false := by simp
        have e1 : IntKind.i64.wrap ((k : Int) + i) = ((k + i : Nat) : Int) := by simp [IntKind.wrap, IntKind.signed, IntKind.bits]; split <;> omega
        go_wp2_with fail
        refine (hbl (k + i) hile' _).mono ?_
        rintro e w1 ⟨rfl, rfl⟩
        have h3 := HSP.out (k + i)
        go_wp2
        refine ⟨⟨k + i + span isBlank (L.drop (k + i)), rfl, by omega, by rw [HR.out, HW.out], ?_, by first | rfl | trivial⟩, by simp [intOf]; omega⟩
        have := HSD.out
        rwa [List.drop_drop] at this
      · have hi := index_span 10 (L.drop k)
        rw [if_neg hm] at hi
        have HI : Hid (Lib.indexByte (s.extract k s.size).data.toList 10 = -1) := Lib.hid (by rw [HE]; exact hi)
        have HW := Lib.hid (hno hm)
        clear hpre hpre' hno hyes h2 hm hi HE
        go_wp2_with fail
        refine (prefix_any _ _ _).mono ?_
        rintro e w1 ⟨rfl, rfl⟩
        rw [show (⟨#[47, 47]⟩ : ByteArray).data.toList = [47, 47] from rfl, HPRE.out]
        go_wp2_with fail
        refine (index_any _ 10 _).mono ?_
        rintro e w1 ⟨rfl, rfl⟩
        rw [HI.out]
        go_wp2
        go_ret
        exact ⟨ret_int (by rw [HR.out, HW.out, HSL.out]), by first | rfl | trivial⟩
    · have hpre' : Lib.hasPrefix (s.extract k s.size).data.toList [47, 47] = false := by rw [HE, hpre]; simp [h2]
      have HPRE := Lib.hid hpre'
      have HW := Lib.hid (ws_none HZ.out h2)
      clear hpre hpre' h2 HE
      go_wp2_with fail
      refine (prefix_any _ _ _).mono ?_
      rintro e w1 ⟨rfl, rfl⟩
      rw [show (⟨#[47, 47]⟩ : ByteArray).data.toList = [47, 47] from rfl, HPRE.out]
      go_wp2
      go_ret
      exact ⟨ret_int (by rw [HR.out, HW.out]; simp), by first | rfl | trivial⟩
end Go.Proofs.YtciiemomfniecaaGreatDoor
/-
  Bytes by their sorts: the contracts of the small functions that tell them.
-/
namespace Go.Proofs.YtciiemomfniecaaGreatDoor
set_option maxRecDepth 100000

open Go.RowKit

theorem u8_eq (c : UInt8) (k : Nat) (hk : k < 256) : ((c.toNat : Int) == (k : Int)) = (c == UInt8.ofNat k) := by
  rw [Bool.eq_iff_iff, beq_iff_eq, beq_iff_eq]
  constructor
  · intro h
    have : c.toNat = k := by omega
    rw [← this]; simp
  · intro h
    rw [h]; simp; omega

theorem letter_any (c : UInt8) (w : World) : Calls Tryz.prog 157 #[.int .u8 (c.toNat : Int)] w fun e w' => e = .returned (.bool (isFirst c)) ∧ w = w' := by
  have h95 : (c == 95) = decide (c.toNat = 95) := by rw [Bool.eq_iff_iff, beq_iff_eq, decide_eq_true_eq, ← UInt8.toNat_inj]; rfl
  unfold isFirst
  rw [h95]
  have hc := c.toNat_lt
  generalize c.toNat = k at *
  go_enter Tryz.func157, Tryz.ntmps157
  go_wp2
  all_goals (go_ret; refine ⟨ret_bool ?_, by first | rfl | trivial⟩)
  all_goals (rw [Bool.eq_iff_iff]; simp only [Bool.or_eq_true, Bool.and_eq_true, decide_eq_true_eq, beq_iff_eq, Bool.false_eq_true, true_iff, false_iff]; omega)
theorem digit_any (c : UInt8) (w : World) : Calls Tryz.prog 158 #[.int .u8 (c.toNat : Int)] w fun e w' => e = .returned (.bool (isDigit c)) ∧ w = w' := by
  unfold isDigit
  generalize c.toNat = k at *
  go_enter Tryz.func158, Tryz.ntmps158
  go_wp2
  all_goals (go_ret; refine ⟨ret_bool ?_, by first | rfl | trivial⟩)
  all_goals (rw [Bool.eq_iff_iff]; simp only [Bool.or_eq_true, Bool.and_eq_true, decide_eq_true_eq, beq_iff_eq, Bool.false_eq_true, true_iff, false_iff]; omega)
theorem plain_any (c : UInt8) (w : World) : Calls Tryz.prog 188 #[.int .u8 (c.toNat : Int)] w fun e w' => e = .returned (.bool (isPlain c)) ∧ w = w' := by
  unfold isPlain
  generalize c.toNat = k at *
  go_enter Tryz.func188, Tryz.ntmps188
  go_wp2
  all_goals (go_ret; refine ⟨ret_bool ?_, by first | rfl | trivial⟩)
  all_goals (rw [Bool.eq_iff_iff]; simp only [Bool.or_eq_true, Bool.and_eq_true, decide_eq_true_eq, beq_iff_eq, Bool.false_eq_true, true_iff, false_iff]; omega)
end Go.Proofs.YtciiemomfniecaaGreatDoor
