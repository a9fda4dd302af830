/-
  The array of rules.
-/
import Derived.Test.YtjdegbfmalcepaaConvSmall
import Derived.Deep.WholeRow
import Derived.Great.BuildSlice
namespace Go.Proofs.Ytjdegbfmalcepaa
open Go.RowKit

def fv (k : Nat) : Value := .func (.func k) #[] #[]
def ruleV (t f o b : Nat) : List Value := [.int .i64 t, fv f, fv o, fv b]
def rulesL : List Value :=
  ruleV 0 21 22 23 ++ (
  ruleV 0 21 24 25 ++ (
  ruleV 0 26 27 23 ++ (
  ruleV 0 28 29 23 ++ (
  ruleV 5 26 27 23 ++ (
  ruleV 1 21 22 23 ++ (
  ruleV 0 30 31 23))))))
def rulesV : Value := .agg rulesL.toArray

theorem rules_any (w : World) : Calls Try.prog 19 #[] w fun e w' => e = .returned rulesV ∧ Below w.heap.size w w' := by
  have hi : (Try.prog.info? 39).map (·.size) = some rulesL.toArray.size := by kernel_rfl
  have h1 : rulesL.toArray.all (·.oneCell') = true := by kernel_rfl
  go_enter Try.func19, Try.ntmps19
  go_wp2_with (refine wpList_store_rowTo rfl 39 _ _ rfl rfl w.heap.size rulesL.toArray rfl rfl 39 _ (heap_alloc_last w _) hi rfl h1 ?_)
  rw [World.setRow_alloc_new]
  refine bodyPost_ret (v := rulesV) ?_ rfl ⟨rfl, below_new w _⟩
  exact results_cell_row rfl _ _ w.heap.size 39 rulesL.toArray (0, 0) _ rfl (heap_alloc_last w _) Try.underlying39 rfl hi

/-- The rule of one kind. -/
def ruleI (k : Nat) : Value := .agg ((rulesL.drop (4 * k)).take 4).toArray
theorem rule_at (k : Nat) (hk : k < 7) (w : World) : (Instr.index 39 rulesV (.int .i64 k)).run Try.prog w = .ok (ruleI k) w := by
  rcases k with _ | _ | _ | _ | _ | _ | _ | k
  · kernel_rfl
  · kernel_rfl
  · kernel_rfl
  · kernel_rfl
  · kernel_rfl
  · kernel_rfl
  · kernel_rfl
  · omega

def fitsB (k n : Int) : Bool :=
  if k = 0 then true else if k = 1 then true else if k = 2 then decide (0 ≤ n) && decide (n ≤ 4294967295) else if k = 3 then n == 0 || n == 1
  else if k = 4 then decide (0 ≤ n) && decide (n ≤ 4294967295) else if k = 5 then true else if k = 6 then decide (-2147483648 ≤ n) && decide (n ≤ 2147483647) else false


theorem fits_by (k f : Nat) (n : Int) (b : Bool) (hk : k < 7)
    (hf : ∀ w, (Instr.field 38 (ruleI k) 1).run Try.prog w = .ok (.func (.func f) #[] #[]) w)
    (hent : ∀ args w, (callFunc f args).run Try.prog w = .ok (.enter f args) w)
    (hcall : ∀ w, Calls Try.prog f #[.int .i64 n] w fun e w' => e = .returned (.bool b) ∧ w = w')
    (w : World) : Calls Try.prog 16 #[.int .i64 k, .int .i64 n] w fun e w' => e = .returned (.bool b) ∧ Below w.heap.size w w' := by
  have hx := rule_at k hk
  have hc : ∀ w, Calls Try.prog 18 #[.int .i64 k] w fun e w' => e = .returned (.bool true) ∧ w = w' := fun w => by
    have h := counts_any k w
    rw [show (decide (0 ≤ (k : Int)) && decide ((k : Int) < 7)) = true by simp; omega] at h
    exact h
  go_enter Try.func16, Try.ntmps16
  go_wp2_with fail
  refine (hc _).mono ?_
  rintro e w1 ⟨rfl, rfl⟩
  go_wp2_with fail
  refine (rules_any _).mono ?_
  rintro e w1 ⟨rfl, hb⟩
  go_wp2_with fail
  refine (hcall _).mono ?_
  rintro e w2 ⟨rfl, rfl⟩
  go_wp2
  go_ret
  exact ⟨rfl, hb⟩
theorem of_by (k f : Nat) (r : Int) (v : Int) (hk : k < 7)
    (hf : ∀ w, (Instr.field 38 (ruleI k) 2).run Try.prog w = .ok (.func (.func f) #[] #[]) w)
    (hent : ∀ args w, (callFunc f args).run Try.prog w = .ok (.enter f args) w)
    (hcall : ∀ w, Calls Try.prog f #[.int .u64 r] w fun e w' => e = .returned (.int .i64 v) ∧ w = w')
    (w : World) : Calls Try.prog 10 #[.int .i64 k, .int .u64 r] w fun e w' => e = .returned (.tuple #[.int .i64 v, .bool true]) ∧ Below w.heap.size w w' := by
  have hx := rule_at k hk
  have hc : ∀ w, Calls Try.prog 18 #[.int .i64 k] w fun e w' => e = .returned (.bool true) ∧ w = w' := fun w => by
    have h := counts_any k w
    rw [show (decide (0 ≤ (k : Int)) && decide ((k : Int) < 7)) = true by simp; omega] at h
    exact h
  go_enter Try.func10, Try.ntmps10
  go_wp2_with fail
  refine (hc _).mono ?_
  rintro e w1 ⟨rfl, rfl⟩
  go_wp2_with fail
  refine (rules_any _).mono ?_
  rintro e w1 ⟨rfl, hb⟩
  go_wp2_with fail
  refine (hcall _).mono ?_
  rintro e w2 ⟨rfl, rfl⟩
  go_wp2
  go_ret2
  exact ⟨rfl, hb⟩
theorem bits_by (k f : Nat) (n : Int) (v : Int) (hk : k < 7)
    (hfits : ∀ w, Calls Try.prog 16 #[.int .i64 k, .int .i64 n] w fun e w' => e = .returned (.bool true) ∧ Below w.heap.size w w')
    (hf : ∀ w, (Instr.field 38 (ruleI k) 3).run Try.prog w = .ok (.func (.func f) #[] #[]) w)
    (hent : ∀ args w, (callFunc f args).run Try.prog w = .ok (.enter f args) w)
    (hcall : ∀ w, Calls Try.prog f #[.int .i64 n] w fun e w' => e = .returned (.int .u64 v) ∧ w = w')
    (w : World) : Calls Try.prog 12 #[.int .i64 k, .int .i64 n] w fun e w' => e = .returned (.tuple #[.int .u64 v, .bool true]) ∧ Below w.heap.size w w' := by
  have hx := rule_at k hk
  go_enter Try.func12, Try.ntmps12
  go_wp2_with fail
  refine (hfits _).mono ?_
  rintro e w1 ⟨rfl, hb1⟩
  go_wp2_with fail
  refine (rules_any _).mono ?_
  rintro e w2 ⟨rfl, hb2⟩
  go_wp2_with fail
  refine (hcall _).mono ?_
  rintro e w3 ⟨rfl, rfl⟩
  go_wp2
  go_ret2
  exact ⟨rfl, below_then hb1 hb2⟩
theorem bits_not (k n : Int)
    (hfits : ∀ w, Calls Try.prog 16 #[.int .i64 k, .int .i64 n] w fun e w' => e = .returned (.bool false) ∧ Below w.heap.size w w')
    (w : World) : Calls Try.prog 12 #[.int .i64 k, .int .i64 n] w fun e w' => e = .returned (.tuple #[.int .u64 0, .bool false]) ∧ Below w.heap.size w w' := by
  go_enter Try.func12, Try.ntmps12
  go_wp2_with fail
  refine (hfits _).mono ?_
  rintro e w1 ⟨rfl, hb1⟩
  go_wp2
  go_ret2
  exact ⟨rfl, hb1⟩
theorem wire_by (k : Nat) (v : Int) (hk : k < 7)
    (hf : ∀ w, (Instr.field 38 (ruleI k) 0).run Try.prog w = .ok (.int .i64 v) w)
    (w : World) : Calls Try.prog 14 #[.int .i64 k] w fun e w' => e = .returned (.int .i64 v) ∧ Below w.heap.size w w' := by
  have hx := rule_at k hk
  have hc : ∀ w, Calls Try.prog 18 #[.int .i64 k] w fun e w' => e = .returned (.bool true) ∧ w = w' := fun w => by
    have h := counts_any k w
    rw [show (decide (0 ≤ (k : Int)) && decide ((k : Int) < 7)) = true by simp; omega] at h
    exact h
  go_enter Try.func14, Try.ntmps14
  go_wp2_with fail
  refine (hc _).mono ?_
  rintro e w1 ⟨rfl, rfl⟩
  go_wp2_with fail
  refine (rules_any _).mono ?_
  rintro e w1 ⟨rfl, hb⟩
  go_wp2
  go_ret
  exact ⟨rfl, hb⟩

theorem counts_not {k : Int} (h : ¬ (0 ≤ k ∧ k < 7)) (w : World) : Calls Try.prog 18 #[.int .i64 k] w fun e w' => e = .returned (.bool false) ∧ w = w' := by
  have h2 := counts_any k w
  rw [show (decide (0 ≤ k) && decide (k < 7)) = false by simp; omega] at h2
  exact h2
theorem wire_not (k : Int) (h : ¬ (0 ≤ k ∧ k < 7)) (w : World) :
    Calls Try.prog 14 #[.int .i64 k] w fun e w' => e = .returned (.int .i64 (if 0 ≤ k ∧ k < 10 then 2 else -1)) ∧ Below w.heap.size w w' := by
  have hc := counts_not h
  by_cases h1 : k < 0
  · rw [if_neg (by omega)]
    clear h
    go_enter Try.func14, Try.ntmps14
    go_wp2_with fail
    refine (hc _).mono ?_
    rintro e w1 ⟨rfl, rfl⟩
    go_wp2
    go_ret
    exact ⟨rfl, Below.refl _ _⟩
  by_cases h2 : k < 10
  · rw [if_pos (by omega)]
    clear h
    go_enter Try.func14, Try.ntmps14
    go_wp2_with fail
    refine (hc _).mono ?_
    rintro e w1 ⟨rfl, rfl⟩
    go_wp2
    go_ret
    exact ⟨rfl, Below.refl _ _⟩
  · rw [if_neg (by omega)]
    clear h
    go_enter Try.func14, Try.ntmps14
    go_wp2_with fail
    refine (hc _).mono ?_
    rintro e w1 ⟨rfl, rfl⟩
    go_wp2
    go_ret
    exact ⟨rfl, Below.refl _ _⟩
theorem of_not (k : Int) (r : Int) (h : ¬ (0 ≤ k ∧ k < 7)) (w : World) :
    Calls Try.prog 10 #[.int .i64 k, .int .u64 r] w fun e w' => e = .returned (.tuple #[.int .i64 0, .bool false]) ∧ Below w.heap.size w w' := by
  have hc := counts_not h
  clear h
  go_enter Try.func10, Try.ntmps10
  go_wp2_with fail
  refine (hc _).mono ?_
  rintro e w1 ⟨rfl, rfl⟩
  go_wp2
  go_ret2
  exact ⟨rfl, Below.refl _ _⟩
theorem fits_not (k : Int) (n : Int) (h : ¬ (0 ≤ k ∧ k < 7)) (w : World) :
    Calls Try.prog 16 #[.int .i64 k, .int .i64 n] w fun e w' => e = .returned (.bool false) ∧ Below w.heap.size w w' := by
  have hc := counts_not h
  clear h
  go_enter Try.func16, Try.ntmps16
  go_wp2_with fail
  refine (hc _).mono ?_
  rintro e w1 ⟨rfl, rfl⟩
  go_wp2
  go_ret
  exact ⟨rfl, Below.refl _ _⟩

/-! ### The document's numbers -/
def cnt (k : Int) : Bool := decide (0 ≤ k ∧ k < 7)
def wireI (k : Int) : Int := if k = 0 ∨ k = 1 ∨ k = 2 ∨ k = 3 ∨ k = 6 then 0 else if k = 4 then 5 else if k = 5 then 1 else if 0 ≤ k ∧ k < 10 then 2 else -1
def ofI (k r : Int) : Int :=
  if k = 0 then S64 r else if k = 1 then unzigI r else if k = 2 then r % 4294967296 else if k = 3 then (if r = 0 then 0 else 1) else if k = 4 then r % 4294967296 else if k = 5 then S64 r else if k = 6 then S32 (r % 4294967296) else 0
def bitsI (k n : Int) : Int := if fitsB k n = true then (if k = 1 then zigI n else U64 n) else 0

theorem seven {k : Int} (h : 0 ≤ k ∧ k < 7) : k = 0 ∨ k = 1 ∨ k = 2 ∨ k = 3 ∨ k = 4 ∨ k = 5 ∨ k = 6 := by omega
theorem wire_any (k : Int) (w : World) : Calls Try.prog 14 #[.int .i64 k] w fun e w' => e = .returned (.int .i64 (wireI k)) ∧ Below w.heap.size w w' := by
  by_cases h : 0 ≤ k ∧ k < 7
  · rcases seven h with rfl | rfl | rfl | rfl | rfl | rfl | rfl
    · exact wire_by 0 0 (by omega) (fun _ => by kernel_rfl) w
    · exact wire_by 1 0 (by omega) (fun _ => by kernel_rfl) w
    · exact wire_by 2 0 (by omega) (fun _ => by kernel_rfl) w
    · exact wire_by 3 0 (by omega) (fun _ => by kernel_rfl) w
    · exact wire_by 4 5 (by omega) (fun _ => by kernel_rfl) w
    · exact wire_by 5 1 (by omega) (fun _ => by kernel_rfl) w
    · exact wire_by 6 0 (by omega) (fun _ => by kernel_rfl) w
  · have e : wireI k = if 0 ≤ k ∧ k < 10 then 2 else -1 := by
      unfold wireI
      rw [if_neg (by omega), if_neg (by omega), if_neg (by omega)]
    rw [e]
    exact wire_not k h w
theorem fits_any (k n : Int) (w : World) : Calls Try.prog 16 #[.int .i64 k, .int .i64 n] w fun e w' => e = .returned (.bool (fitsB k n)) ∧ Below w.heap.size w w' := by
  by_cases h : 0 ≤ k ∧ k < 7
  · rcases seven h with rfl | rfl | rfl | rfl | rfl | rfl | rfl
    · exact fits_by 0 _ n _ (by omega) (fun _ => by kernel_rfl) (fun _ _ => by kernel_rfl) (fitsAlways_any n) w
    · exact fits_by 1 _ n _ (by omega) (fun _ => by kernel_rfl) (fun _ _ => by kernel_rfl) (fitsAlways_any n) w
    · exact fits_by 2 _ n _ (by omega) (fun _ => by kernel_rfl) (fun _ _ => by kernel_rfl) (fitsLow_any n) w
    · exact fits_by 3 _ n _ (by omega) (fun _ => by kernel_rfl) (fun _ _ => by kernel_rfl) (fitsFlag_any n) w
    · exact fits_by 4 _ n _ (by omega) (fun _ => by kernel_rfl) (fun _ _ => by kernel_rfl) (fitsLow_any n) w
    · exact fits_by 5 _ n _ (by omega) (fun _ => by kernel_rfl) (fun _ _ => by kernel_rfl) (fitsAlways_any n) w
    · exact fits_by 6 _ n _ (by omega) (fun _ => by kernel_rfl) (fun _ _ => by kernel_rfl) (fitsSignedLow_any n) w
  · have e : fitsB k n = false := by
      unfold fitsB
      rw [if_neg (by omega), if_neg (by omega), if_neg (by omega), if_neg (by omega), if_neg (by omega), if_neg (by omega), if_neg (by omega)]
    rw [e]
    exact fits_not k n h w
theorem of_any (k r : Int) (h0 : 0 ≤ r) (h1 : r < 18446744073709551616) (w : World) : Calls Try.prog 10 #[.int .i64 k, .int .u64 r] w fun e w' => e = .returned (.tuple #[.int .i64 (ofI k r), .bool (cnt k)]) ∧ Below w.heap.size w w' := by
  by_cases h : 0 ≤ k ∧ k < 7
  · rcases seven h with rfl | rfl | rfl | rfl | rfl | rfl | rfl
    · exact of_by 0 _ r _ (by omega) (fun _ => by kernel_rfl) (fun _ _ => by kernel_rfl) (signed_any r h0 h1) w
    · exact of_by 1 _ r _ (by omega) (fun _ => by kernel_rfl) (fun _ _ => by kernel_rfl) (unzigzag_any r h0 h1) w
    · exact of_by 2 _ r _ (by omega) (fun _ => by kernel_rfl) (fun _ _ => by kernel_rfl) (low_any r h0 h1) w
    · exact of_by 3 _ r _ (by omega) (fun _ => by kernel_rfl) (fun _ _ => by kernel_rfl) (flag_any r) w
    · exact of_by 4 _ r _ (by omega) (fun _ => by kernel_rfl) (fun _ _ => by kernel_rfl) (low_any r h0 h1) w
    · exact of_by 5 _ r _ (by omega) (fun _ => by kernel_rfl) (fun _ _ => by kernel_rfl) (signed_any r h0 h1) w
    · exact of_by 6 _ r _ (by omega) (fun _ => by kernel_rfl) (fun _ _ => by kernel_rfl) (signedLow_any r h0 h1) w
  · have e : ofI k r = 0 := by
      unfold ofI
      rw [if_neg (by omega), if_neg (by omega), if_neg (by omega), if_neg (by omega), if_neg (by omega), if_neg (by omega), if_neg (by omega)]
    have e2 : cnt k = false := by simp [cnt]; omega
    rw [e, e2]
    exact of_not k r h w
theorem bits_any (k n : Int) (h0 : -9223372036854775808 ≤ n) (h1 : n ≤ 9223372036854775807) (w : World) : Calls Try.prog 12 #[.int .i64 k, .int .i64 n] w fun e w' => e = .returned (.tuple #[.int .u64 (bitsI k n), .bool (fitsB k n)]) ∧ Below w.heap.size w w' := by
  have hf := fits_any k n
  unfold bitsI
  by_cases hb : fitsB k n = true
  · rw [if_pos hb, hb]
    rw [hb] at hf
    have h : 0 ≤ k ∧ k < 7 := by
      by_cases h : 0 ≤ k ∧ k < 7
      · exact h
      · unfold fitsB at hb
        rw [if_neg (by omega), if_neg (by omega), if_neg (by omega), if_neg (by omega), if_neg (by omega), if_neg (by omega), if_neg (by omega)] at hb
        cases hb
    rcases seven h with rfl | rfl | rfl | rfl | rfl | rfl | rfl
    · exact bits_by 0 _ n _ (by omega) hf (fun _ => by kernel_rfl) (fun _ _ => by kernel_rfl) (bitsOf_any n h0 h1) w
    · exact bits_by 1 _ n _ (by omega) hf (fun _ => by kernel_rfl) (fun _ _ => by kernel_rfl) (zigzag_any n h0 h1) w
    · exact bits_by 2 _ n _ (by omega) hf (fun _ => by kernel_rfl) (fun _ _ => by kernel_rfl) (bitsOf_any n h0 h1) w
    · exact bits_by 3 _ n _ (by omega) hf (fun _ => by kernel_rfl) (fun _ _ => by kernel_rfl) (bitsOf_any n h0 h1) w
    · exact bits_by 4 _ n _ (by omega) hf (fun _ => by kernel_rfl) (fun _ _ => by kernel_rfl) (bitsOf_any n h0 h1) w
    · exact bits_by 5 _ n _ (by omega) hf (fun _ => by kernel_rfl) (fun _ _ => by kernel_rfl) (bitsOf_any n h0 h1) w
    · exact bits_by 6 _ n _ (by omega) hf (fun _ => by kernel_rfl) (fun _ _ => by kernel_rfl) (bitsOf_any n h0 h1) w
  · have hb' : fitsB k n = false := by simpa using hb
    rw [if_neg hb, hb']
    rw [hb'] at hf
    exact bits_not k n hf w
end Go.Proofs.Ytjdegbfmalcepaa
