/-
 The numbers of kinds: what the small functions of package conv hand back.
-/
import Derived.Test.YtckcojkpghiclaaGreatDoorVarUnfix
import Derived.Deep.WholeRow
import Derived.Great.BuildSlice
import Derived.Test.YtckcojkpghiclaaGreatDoorRecWin
import Derived.Defers
import Derived.Recover
import Derived.Laws.Pointers
import Derived.WalkSmall
import Derived.OwnWalk
import Derived.Deep.AppendLies
namespace Go.Proofs.YtckcojkpghiclaaGreatDoor
set_option maxRecDepth 100000
open Go.RowKit
def S64 (r : Int) : Int := if r < 9223372036854775808 then r else r - 18446744073709551616
def S32 (r : Int) : Int := if r < 2147483648 then r else r - 4294967296
def unzigI (r : Int) : Int := if r % 2 = 0 then r / 2 else -(r / 2) - 1
theorem wrap_s64 {r : Int} (h0 : 0 ≤ r) (h1 : r < 18446744073709551616) : IntKind.i64.wrap r = S64 r := by
 unfold S64 IntKind.wrap
 simp [IntKind.signed, IntKind.bits]
 split <;> omega
theorem counts_any (k : Int) (w : World) : Calls Tryz.prog 114 #[.int .i64 k] w fun e w' => e = .returned (.bool (decide (0 ≤ k) && decide (k < 7))) ∧ w = w' := by
 go_enter Tryz.func114, Tryz.ntmps114
 go_wp2
 all_goals
  go_ret
  refine ⟨?_, rfl⟩
  first | (simp_all; done) | (simp_all; omega) | (simp; omega)
theorem fitsAlways_any (n : Int) (w : World) : Calls Tryz.prog 155 #[.int .i64 n] w fun e w' => e = .returned (.bool true) ∧ w = w' := by
 go_enter Tryz.func155, Tryz.ntmps155
 go_wp2
 go_ret
 exact ⟨rfl, rfl⟩
theorem fitsLow_any (n : Int) (w : World) : Calls Tryz.prog 160 #[.int .i64 n] w fun e w' => e = .returned (.bool (decide (0 ≤ n) && decide (n ≤ 4294967295))) ∧ w = w' := by
 go_enter Tryz.func160, Tryz.ntmps160
 go_wp2
 all_goals
  go_ret
  refine ⟨?_, rfl⟩
  first | (simp_all; done) | (simp_all; omega) | (simp; omega)
theorem fitsFlag_any (n : Int) (w : World) : Calls Tryz.prog 162 #[.int .i64 n] w fun e w' => e = .returned (.bool (n == 0 || n == 1)) ∧ w = w' := by
 go_enter Tryz.func162, Tryz.ntmps162
 go_wp2
 all_goals
  go_ret
  refine ⟨?_, rfl⟩
  first | (simp_all; done) | (rename_i h; have e0 : (n == 0) = false := (by simp [h]); rw [e0]; rfl)
theorem fitsSignedLow_any (n : Int) (w : World) : Calls Tryz.prog 164 #[.int .i64 n] w fun e w' => e = .returned (.bool (decide (-2147483648 ≤ n) && decide (n ≤ 2147483647))) ∧ w = w' := by
 go_enter Tryz.func164, Tryz.ntmps164
 go_wp2
 all_goals
  go_ret
  refine ⟨?_, rfl⟩
  first | (simp_all; done) | (simp_all; omega) | (simp; omega)
theorem signed_any (r : Int) (h0 : 0 ≤ r) (h1 : r < 18446744073709551616) (w : World) : Calls Tryz.prog 156 #[.int .u64 r] w fun e w' => e = .returned (.int .i64 (S64 r)) ∧ w = w' := by
 have hw := wrap_s64 h0 h1
 go_enter Tryz.func156, Tryz.ntmps156
 go_wp2
 go_ret
 exact ⟨rfl, rfl⟩
theorem low_any (r : Int) (h0 : 0 ≤ r) (h1 : r < 18446744073709551616) (w : World) : Calls Tryz.prog 161 #[.int .u64 r] w fun e w' => e = .returned (.int .i64 (r % 4294967296)) ∧ w = w' := by
 go_enter Tryz.func161, Tryz.ntmps161
 go_wp2
 go_ret
 exact ⟨rfl, rfl⟩
theorem signedLow_any (r : Int) (h0 : 0 ≤ r) (h1 : r < 18446744073709551616) (w : World) : Calls Tryz.prog 165 #[.int .u64 r] w fun e w' => e = .returned (.int .i64 (S32 (r % 4294967296))) ∧ w = w' := by
 go_enter Tryz.func165, Tryz.ntmps165
 go_wp2
 go_ret
 refine ⟨ret_int ?_, rfl⟩
 unfold S32 wrap64 wrap32
 split <;> omega
theorem flag_any (r : Int) (w : World) : Calls Tryz.prog 163 #[.int .u64 r] w fun e w' => e = .returned (.int .i64 (if r = 0 then 0 else 1)) ∧ w = w' := by
 go_enter Tryz.func163, Tryz.ntmps163
 go_wp2
 all_goals
  go_ret
  refine ⟨?_, rfl⟩
  first | (simp_all; done) | (simp_all; omega) | (simp; omega)
theorem unzigzag_any (r : Int) (h0 : 0 ≤ r) (h1 : r < 18446744073709551616) (w : World) : Calls Tryz.prog 158 #[.int .u64 r] w fun e w' => e = .returned (.int .i64 (unzigI r)) ∧ w = w' := by
 go_enter Tryz.func158, Tryz.ntmps158
 go_wp2
 all_goals
  go_ret
  refine ⟨ret_int ?_, rfl⟩
  unfold unzigI
  simp_all
end Go.Proofs.YtckcojkpghiclaaGreatDoor
/-
 The array of rules.
-/
namespace Go.Proofs.YtckcojkpghiclaaGreatDoor
set_option maxRecDepth 100000
open Go.RowKit
def fv (k : Nat) : Value := .func (.func k) #[] #[]
def ruleV (t f o b : Nat) : List Value := [.int .i64 t, fv f, fv o, fv b]
def rulesL : List Value :=
 ruleV 0 155 156 157 ++ (
 ruleV 0 155 158 159 ++ (
 ruleV 0 160 161 157 ++ (
 ruleV 0 162 163 157 ++ (
 ruleV 5 160 161 157 ++ (
 ruleV 1 155 156 157 ++ (
 ruleV 0 164 165 157))))))
def rulesV : Value := .agg rulesL.toArray
theorem rules_any (w : World) : Calls Tryz.prog 115 #[] w fun e w' => e = .returned rulesV ∧ Below w.heap.size w w' := by
 have hi : (Tryz.prog.info? 166).map (·.size) = some rulesL.toArray.size := by kernel_rfl
 have h1 : rulesL.toArray.all (·.oneCell') = true := by kernel_rfl
 go_enter Tryz.func115, Tryz.ntmps115
 go_wp2_with (refine wpList_store_rowTo rfl 166 _ _ rfl rfl w.heap.size rulesL.toArray rfl rfl 166 _ (heap_alloc_last w _) hi rfl h1 ?_)
 rw [World.setRow_alloc_new]
 refine bodyPost_ret (v := rulesV) ?_ rfl ⟨rfl, below_new w _⟩
 exact results_cell_row rfl _ _ w.heap.size 166 rulesL.toArray (0, 0) _ rfl (heap_alloc_last w _) Tryz.underlying166 rfl hi
def ruleI (k : Nat) : Value := .agg ((rulesL.drop (4 * k)).take 4).toArray
theorem rule_at (k : Nat) (hk : k < 7) (w : World) : (Instr.index 166 rulesV (.int .i64 k)).run Tryz.prog w = .ok (ruleI k) w := by
 rcases k with _ | _ | _ | _ | _ | _ | _ | k
 ·kernel_rfl
 ·kernel_rfl
 ·kernel_rfl
 ·kernel_rfl
 ·kernel_rfl
 ·kernel_rfl
 ·kernel_rfl
 ·omega
def fitsB (k n : Int) : Bool :=
 if k = 0 then true else if k = 1 then true else if k = 2 then decide (0 ≤ n) && decide (n ≤ 4294967295) else if k = 3 then n == 0 || n == 1
 else if k = 4 then decide (0 ≤ n) && decide (n ≤ 4294967295) else if k = 5 then true else if k = 6 then decide (-2147483648 ≤ n) && decide (n ≤ 2147483647) else false
theorem fits_by (k f : Nat) (n : Int) (b : Bool) (hk : k < 7)
  (hf : ∀ w, (Instr.field 165 (ruleI k) 1).run Tryz.prog w = .ok (.func (.func f) #[] #[]) w)
  (hent : ∀ args w, (callFunc f args).run Tryz.prog w = .ok (.enter f args) w)
  (hcall : ∀ w, Calls Tryz.prog f #[.int .i64 n] w fun e w' => e = .returned (.bool b) ∧ w = w')
  (w : World) : Calls Tryz.prog 207 #[.int .i64 k, .int .i64 n] w fun e w' => e = .returned (.bool b) ∧ Below w.heap.size w w' := by
 have hx := rule_at k hk
 have hc : ∀ w, Calls Tryz.prog 114 #[.int .i64 k] w fun e w' => e = .returned (.bool true) ∧ w = w' := fun w => by
  have h := counts_any k w
  rw [show (decide (0 ≤ (k : Int)) && decide ((k : Int) < 7)) = true by simp; omega] at h
  exact h
 go_enter Tryz.func207, Tryz.ntmps207
 go_wp2_with fail
 refine (hc _).mono ?_
 rintro e w1 ⟨rfl, rfl⟩
 go_wp2_with fail
 refine (rules_any _).mono ?_
 rintro e w1 ⟨rfl, hb⟩
 go_wp2_with fail
 refine (hcall _).mono ?_
 rintro e w2 ⟨rfl, rfl⟩
 go_wp2
 go_ret
 exact ⟨rfl, hb⟩
theorem of_by (k f : Nat) (r : Int) (v : Int) (hk : k < 7)
  (hf : ∀ w, (Instr.field 165 (ruleI k) 2).run Tryz.prog w = .ok (.func (.func f) #[] #[]) w)
  (hent : ∀ args w, (callFunc f args).run Tryz.prog w = .ok (.enter f args) w)
  (hcall : ∀ w, Calls Tryz.prog f #[.int .u64 r] w fun e w' => e = .returned (.int .i64 v) ∧ w = w')
  (w : World) : Calls Tryz.prog 82 #[.int .i64 k, .int .u64 r] w fun e w' => e = .returned (.tuple #[.int .i64 v, .bool true]) ∧ Below w.heap.size w w' := by
 have hx := rule_at k hk
 have hc : ∀ w, Calls Tryz.prog 114 #[.int .i64 k] w fun e w' => e = .returned (.bool true) ∧ w = w' := fun w => by
  have h := counts_any k w
  rw [show (decide (0 ≤ (k : Int)) && decide ((k : Int) < 7)) = true by simp; omega] at h
  exact h
 go_enter Tryz.func82, Tryz.ntmps82
 go_wp2_with fail
 refine (hc _).mono ?_
 rintro e w1 ⟨rfl, rfl⟩
 go_wp2_with fail
 refine (rules_any _).mono ?_
 rintro e w1 ⟨rfl, hb⟩
 go_wp2_with fail
 refine (hcall _).mono ?_
 rintro e w2 ⟨rfl, rfl⟩
 go_wp2
 go_ret2
 exact ⟨rfl, hb⟩
theorem wire_by (k : Nat) (v : Int) (hk : k < 7)
  (hf : ∀ w, (Instr.field 165 (ruleI k) 0).run Tryz.prog w = .ok (.int .i64 v) w)
  (w : World) : Calls Tryz.prog 80 #[.int .i64 k] w fun e w' => e = .returned (.int .i64 v) ∧ Below w.heap.size w w' := by
 have hx := rule_at k hk
 have hc : ∀ w, Calls Tryz.prog 114 #[.int .i64 k] w fun e w' => e = .returned (.bool true) ∧ w = w' := fun w => by
  have h := counts_any k w
  rw [show (decide (0 ≤ (k : Int)) && decide ((k : Int) < 7)) = true by simp; omega] at h
  exact h
 go_enter Tryz.func80, Tryz.ntmps80
 go_wp2_with fail
 refine (hc _).mono ?_
 rintro e w1 ⟨rfl, rfl⟩
 go_wp2_with fail
 refine (rules_any _).mono ?_
 rintro e w1 ⟨rfl, hb⟩
 go_wp2
 go_ret
 exact ⟨rfl, hb⟩
theorem counts_not {k : Int} (h : ¬ (0 ≤ k ∧ k < 7)) (w : World) : Calls Tryz.prog 114 #[.int .i64 k] w fun e w' => e = .returned (.bool false) ∧ w = w' := by
 have h2 := counts_any k w
 rw [show (decide (0 ≤ k) && decide (k < 7)) = false by simp; omega] at h2
 exact h2
theorem wire_not (k : Int) (h : ¬ (0 ≤ k ∧ k < 7)) (w : World) :
  Calls Tryz.prog 80 #[.int .i64 k] w fun e w' => e = .returned (.int .i64 (if 0 ≤ k ∧ k < 10 then 2 else -1)) ∧ Below w.heap.size w w' := by
 have hc := counts_not h
 by_cases h1 : k < 0
 ·rw [if_neg (by omega)]
  clear h
  go_enter Tryz.func80, Tryz.ntmps80
  go_wp2_with fail
  refine (hc _).mono ?_
  rintro e w1 ⟨rfl, rfl⟩
  go_wp2
  go_ret
  exact ⟨rfl, Below.refl _ _⟩
 by_cases h2 : k < 10
 ·rw [if_pos (by omega)]
  clear h
  go_enter Tryz.func80, Tryz.ntmps80
  go_wp2_with fail
  refine (hc _).mono ?_
  rintro e w1 ⟨rfl, rfl⟩
  go_wp2
  go_ret
  exact ⟨rfl, Below.refl _ _⟩
 ·rw [if_neg (by omega)]
  clear h
  go_enter Tryz.func80, Tryz.ntmps80
  go_wp2_with fail
  refine (hc _).mono ?_
  rintro e w1 ⟨rfl, rfl⟩
  go_wp2
  go_ret
  exact ⟨rfl, Below.refl _ _⟩
theorem of_not (k : Int) (r : Int) (h : ¬ (0 ≤ k ∧ k < 7)) (w : World) :
  Calls Tryz.prog 82 #[.int .i64 k, .int .u64 r] w fun e w' => e = .returned (.tuple #[.int .i64 0, .bool false]) ∧ Below w.heap.size w w' := by
 have hc := counts_not h
 clear h
 go_enter Tryz.func82, Tryz.ntmps82
 go_wp2_with fail
 refine (hc _).mono ?_
 rintro e w1 ⟨rfl, rfl⟩
 go_wp2
 go_ret2
 exact ⟨rfl, Below.refl _ _⟩
theorem fits_not (k : Int) (n : Int) (h : ¬ (0 ≤ k ∧ k < 7)) (w : World) :
  Calls Tryz.prog 207 #[.int .i64 k, .int .i64 n] w fun e w' => e = .returned (.bool false) ∧ Below w.heap.size w w' := by
 have hc := counts_not h
 clear h
 go_enter Tryz.func207, Tryz.ntmps207
 go_wp2_with fail
 refine (hc _).mono ?_
 rintro e w1 ⟨rfl, rfl⟩
 go_wp2
 go_ret
 exact ⟨rfl, Below.refl _ _⟩
def cnt (k : Int) : Bool := decide (0 ≤ k ∧ k < 7)
def wireI (k : Int) : Int := if k = 0 ∨ k = 1 ∨ k = 2 ∨ k = 3 ∨ k = 6 then 0 else if k = 4 then 5 else if k = 5 then 1 else if 0 ≤ k ∧ k < 10 then 2 else -1
def ofI (k r : Int) : Int :=
 if k = 0 then S64 r else if k = 1 then unzigI r else if k = 2 then r % 4294967296 else if k = 3 then (if r = 0 then 0 else 1) else if k = 4 then r % 4294967296 else if k = 5 then S64 r else if k = 6 then S32 (r % 4294967296) else 0
theorem seven {k : Int} (h : 0 ≤ k ∧ k < 7) : k = 0 ∨ k = 1 ∨ k = 2 ∨ k = 3 ∨ k = 4 ∨ k = 5 ∨ k = 6 := by omega
theorem wire_any (k : Int) (w : World) : Calls Tryz.prog 80 #[.int .i64 k] w fun e w' => e = .returned (.int .i64 (wireI k)) ∧ Below w.heap.size w w' := by
 by_cases h : 0 ≤ k ∧ k < 7
 ·rcases seven h with rfl | rfl | rfl | rfl | rfl | rfl | rfl
  ·exact wire_by 0 0 (by omega) (fun _ => by kernel_rfl) w
  ·exact wire_by 1 0 (by omega) (fun _ => by kernel_rfl) w
  ·exact wire_by 2 0 (by omega) (fun _ => by kernel_rfl) w
  ·exact wire_by 3 0 (by omega) (fun _ => by kernel_rfl) w
  ·exact wire_by 4 5 (by omega) (fun _ => by kernel_rfl) w
  ·exact wire_by 5 1 (by omega) (fun _ => by kernel_rfl) w
  ·exact wire_by 6 0 (by omega) (fun _ => by kernel_rfl) w
 ·have e : wireI k = if 0 ≤ k ∧ k < 10 then 2 else -1 := by
   unfold wireI
   rw [if_neg (by omega), if_neg (by omega), if_neg (by omega)]
  rw [e]
  exact wire_not k h w
theorem fits_any (k n : Int) (w : World) : Calls Tryz.prog 207 #[.int .i64 k, .int .i64 n] w fun e w' => e = .returned (.bool (fitsB k n)) ∧ Below w.heap.size w w' := by
 by_cases h : 0 ≤ k ∧ k < 7
 ·rcases seven h with rfl | rfl | rfl | rfl | rfl | rfl | rfl
  ·exact fits_by 0 _ n _ (by omega) (fun _ => by kernel_rfl) (fun _ _ => by kernel_rfl) (fitsAlways_any n) w
  ·exact fits_by 1 _ n _ (by omega) (fun _ => by kernel_rfl) (fun _ _ => by kernel_rfl) (fitsAlways_any n) w
  ·exact fits_by 2 _ n _ (by omega) (fun _ => by kernel_rfl) (fun _ _ => by kernel_rfl) (fitsLow_any n) w
  ·exact fits_by 3 _ n _ (by omega) (fun _ => by kernel_rfl) (fun _ _ => by kernel_rfl) (fitsFlag_any n) w
  ·exact fits_by 4 _ n _ (by omega) (fun _ => by kernel_rfl) (fun _ _ => by kernel_rfl) (fitsLow_any n) w
  ·exact fits_by 5 _ n _ (by omega) (fun _ => by kernel_rfl) (fun _ _ => by kernel_rfl) (fitsAlways_any n) w
  ·exact fits_by 6 _ n _ (by omega) (fun _ => by kernel_rfl) (fun _ _ => by kernel_rfl) (fitsSignedLow_any n) w
 ·have e : fitsB k n = false := by
   unfold fitsB
   rw [if_neg (by omega), if_neg (by omega), if_neg (by omega), if_neg (by omega), if_neg (by omega), if_neg (by omega), if_neg (by omega)]
  rw [e]
  exact fits_not k n h w
theorem of_any (k r : Int) (h0 : 0 ≤ r) (h1 : r < 18446744073709551616) (w : World) : Calls Tryz.prog 82 #[.int .i64 k, .int .u64 r] w fun e w' => e = .returned (.tuple #[.int .i64 (ofI k r), .bool (cnt k)]) ∧ Below w.heap.size w w' := by
 by_cases h : 0 ≤ k ∧ k < 7
 ·rcases seven h with rfl | rfl | rfl | rfl | rfl | rfl | rfl
  ·exact of_by 0 _ r _ (by omega) (fun _ => by kernel_rfl) (fun _ _ => by kernel_rfl) (signed_any r h0 h1) w
  ·exact of_by 1 _ r _ (by omega) (fun _ => by kernel_rfl) (fun _ _ => by kernel_rfl) (unzigzag_any r h0 h1) w
  ·exact of_by 2 _ r _ (by omega) (fun _ => by kernel_rfl) (fun _ _ => by kernel_rfl) (low_any r h0 h1) w
  ·exact of_by 3 _ r _ (by omega) (fun _ => by kernel_rfl) (fun _ _ => by kernel_rfl) (flag_any r) w
  ·exact of_by 4 _ r _ (by omega) (fun _ => by kernel_rfl) (fun _ _ => by kernel_rfl) (low_any r h0 h1) w
  ·exact of_by 5 _ r _ (by omega) (fun _ => by kernel_rfl) (fun _ _ => by kernel_rfl) (signed_any r h0 h1) w
  ·exact of_by 6 _ r _ (by omega) (fun _ => by kernel_rfl) (fun _ _ => by kernel_rfl) (signedLow_any r h0 h1) w
 ·have e : ofI k r = 0 := by
   unfold ofI
   rw [if_neg (by omega), if_neg (by omega), if_neg (by omega), if_neg (by omega), if_neg (by omega), if_neg (by omega), if_neg (by omega)]
  have e2 : cnt k = false := by simp [cnt]; omega
  rw [e, e2]
  exact of_not k r h w
end Go.Proofs.YtckcojkpghiclaaGreatDoor
/-
 Numbers of kinds, their bits, and back: on integers alone.
-/
namespace Go.Proofs.YtckcojkpghiclaaGreatDoor
set_option maxRecDepth 100000
theorem seven_cnt {k : Int} (h : cnt k = true) : k = 0 ∨ k = 1 ∨ k = 2 ∨ k = 3 ∨ k = 4 ∨ k = 5 ∨ k = 6 := by
 simp [cnt] at h
 exact seven h
theorem ofI_bound (k : Int) {r : Int} (h0 : 0 ≤ r) (h1 : r < 18446744073709551616) : -9223372036854775808 ≤ ofI k r ∧ ofI k r ≤ 9223372036854775807 := by
 unfold ofI unzigI S64 S32
 repeat' split
 all_goals omega
theorem fits_of {k r : Int} (h0 : 0 ≤ r) (h1 : r < 18446744073709551616) (h : cnt k = true) : fitsB k (ofI k r) = true := by
 rcases seven_cnt h with rfl | rfl | rfl | rfl | rfl | rfl | rfl
 ·rfl
 ·rfl
 ·simp [fitsB, ofI]; omega
 ·simp [fitsB, ofI]; omega
 ·simp [fitsB, ofI]; omega
 ·rfl
 ·simp [fitsB, ofI, S32]; split <;> omega
end Go.Proofs.YtckcojkpghiclaaGreatDoor
/-
 Numbers one behind the other: what they are of two parts.
-/
namespace Go.Proofs.YtckcojkpghiclaaGreatDoor.T11
set_option maxRecDepth 100000
open Go.RowKit
def numsW (wire : Nat) (k : Int) : Nat → List UInt8 → List Int × Nat
 | 0, _ => ([], 0)
 | n + 1, d => if d = [] then ([], 0) else if (wnum wire d).2.2 = 0 then (if (numsW wire k n (d.drop (wnum wire d).2.1)).2 = 0 then (ofI k (wnum wire d).1 :: (numsW wire k n (d.drop (wnum wire d).2.1)).1, 0) else ([], (numsW wire k n (d.drop (wnum wire d).2.1)).2)) else ([], (wnum wire d).2.2)
def numsL (wire : Nat) (k : Int) (d : List UInt8) : List Int × Nat := numsW wire k d.length d
theorem wnum_pos {wire : Nat} {d : List UInt8} {n k : Nat} (h : wnum wire d = (n, k, 0)) : 1 ≤ k ∧ k ≤ d.length := by
 refine ⟨?_, by have := wnum_le (wire := wire) (d := d); rw [h] at this; exact this⟩
 have hf : ∀ S, 1 ≤ S → wfix d S = (n, k, 0) → 1 ≤ k := by
  intro S hS h
  unfold wfix at h
  split at h
  ·simp at h
  ·simp only [Prod.mk.injEq, and_true] at h
   omega
 unfold wnum at h
 split at h
 ·exact hf 8 (by omega) h
 ·split at h
  ·exact hf 4 (by omega) h
  ·exact (vget_parts h).1
theorem triple {α β γ : Type} (x : α × β × γ) {c : γ} (h : x.2.2 = c) : x = (x.1, x.2.1, c) := by rw [← h]
theorem nums_fuel {wire : Nat} {k : Int} : ∀ (n m : Nat) (d : List UInt8), d.length ≤ n → d.length ≤ m → numsW wire k n d = numsW wire k m d
 | 0, 0, _, _, _ => rfl
 | 0, m + 1, d, h, _ => by
  obtain rfl : d = [] := List.eq_nil_of_length_eq_zero (by omega)
  simp [numsW]
 | n + 1, 0, d, _, h => by
  obtain rfl : d = [] := List.eq_nil_of_length_eq_zero (by omega)
  simp [numsW]
 | n + 1, m + 1, d, h1, h2 => by
  unfold numsW
  by_cases hd : d = []
  ·rw [if_pos hd, if_pos hd]
  ·rw [if_neg hd, if_neg hd]
   by_cases h0 : (wnum wire d).2.2 = 0
   ·obtain ⟨p1, p2⟩ := wnum_pos (triple _ h0)
    rw [if_pos h0, if_pos h0, nums_fuel n m (d.drop (wnum wire d).2.1) (by rw [List.length_drop]; omega) (by rw [List.length_drop]; omega)]
   ·rw [if_neg h0, if_neg h0]
theorem nums_nil (wire : Nat) (k : Int) : numsL wire k [] = ([], 0) := rfl
theorem nums_ok {wire : Nat} {k : Int} {d : List UInt8} {n p : Nat} (h : wnum wire d = (n, p, 0)) : numsL wire k d = (if (numsL wire k (d.drop p)).2 = 0 then (ofI k n :: (numsL wire k (d.drop p)).1, 0) else ([], (numsL wire k (d.drop p)).2)) := by
 obtain ⟨p1, p2⟩ := wnum_pos h
 have hd : d ≠ [] := by rintro rfl; simp at p2; omega
 obtain ⟨m, hm⟩ : ∃ m, d.length = m + 1 := ⟨d.length - 1, by omega⟩
 unfold numsL
 rw [hm]
 conv => lhs; unfold numsW
 rw [if_neg hd, h]
 simp only [if_true]
 rw [nums_fuel m (d.drop p).length (d.drop p) (by rw [List.length_drop]; omega) (Nat.le_refl _)]
theorem nums_err {wire : Nat} {k : Int} {d : List UInt8} (hd : d ≠ []) (h : (wnum wire d).2.2 ≠ 0) : numsL wire k d = ([], (wnum wire d).2.2) := by
 obtain ⟨m, hm⟩ : ∃ m, d.length = m + 1 := ⟨d.length - 1, by have := List.length_pos_iff.2 hd; omega⟩
 unfold numsL
 rw [hm]
 conv => lhs; unfold numsW
 rw [if_neg hd, if_neg h]
theorem nums_empty {wire : Nat} {k : Int} : ∀ {d : List UInt8}, (numsL wire k d).2 ≠ 0 → (numsL wire k d).1 = [] := by
 intro d h
 by_cases hd : d = []
 ·subst hd; rfl
 ·by_cases h0 : (wnum wire d).2.2 = 0
  ·have e := nums_ok (k := k) (triple _ h0)
   rw [e] at h ⊢
   split
   ·rename_i h2; rw [if_pos h2] at h; exact absurd rfl h
   ·rfl
  ·rw [nums_err hd h0]
theorem nums_append {wire : Nat} {k : Int} (b : List UInt8) : ∀ (n : Nat) (a : List UInt8), a.length ≤ n → (numsL wire k a).2 = 0 →
  numsL wire k (a ++ b) = (if (numsL wire k b).2 = 0 then ((numsL wire k a).1 ++ (numsL wire k b).1, 0) else ([], (numsL wire k b).2)) := by
 intro n
 induction n with
 | zero =>
  intro a ha h
  obtain rfl : a = [] := List.eq_nil_of_length_eq_zero (by omega)
  rw [nums_nil, List.nil_append]
  split
  ·rename_i h0
   rw [List.nil_append]
   exact Prod.ext rfl h0
  ·rename_i h0
   exact Prod.ext (nums_empty h0) rfl
 | succ n ih =>
  intro a ha h
  by_cases hd : a = []
  ·subst hd
   exact ih [] (by simp) h
  ·by_cases h0 : (wnum wire a).2.2 = 0
   ·have h1 := triple _ h0
    obtain ⟨p1, p2⟩ := wnum_pos h1
    have e1 := nums_ok (k := k) h1
    have h2 : wnum wire (a ++ b) = ((wnum wire a).1, (wnum wire a).2.1, 0) := by
     have := wnum_local h1 (a.drop (wnum wire a).2.1 ++ b)
     rwa [← List.append_assoc, List.take_append_drop] at this
    have e2 := nums_ok (k := k) h2
    rw [List.drop_append_of_le_length p2] at e2
    have hr : (numsL wire k (a.drop (wnum wire a).2.1)).2 = 0 := by
     rw [e1] at h
     split at h
     ·assumption
     ·assumption
    rw [ih (a.drop (wnum wire a).2.1) (by rw [List.length_drop]; omega) hr] at e2
    rw [e2, e1, if_pos hr]
    by_cases hb : (numsL wire k b).2 = 0
    ·simp [hb]
    ·simp [hb]
   ·rw [nums_err hd h0] at h
    exact absurd h h0
theorem wnum_bad {wire : Nat} {d : List UInt8} (b : List UInt8) (h : (wnum wire d).2.2 ≠ 0) : (wnum wire d).2.2 = 6 ∨ ((wnum wire d).2.2 = 7 ∧ (wnum wire (d ++ b)).2.2 = 7) := by
 have hf : ∀ S, (wfix d S).2.2 ≠ 0 → (wfix d S).2.2 = 6 := by
  intro S h
  unfold wfix at h ⊢
  split
  ·rfl
  ·rename_i c; rw [if_neg c] at h; exact absurd rfl h
 unfold wnum at h ⊢
 split
 ·rename_i c; rw [if_pos c] at h; exact .inl (hf 8 h)
 ·rename_i c
  rw [if_neg c] at h
  split
  ·rename_i c2; rw [if_pos c2] at h; exact .inl (hf 4 h)
  ·rename_i c2
   rw [if_neg c2] at h
   unfold vget at h ⊢
   by_cases c3 : lead (d.take 10) = 10
   ·right
    have hl := lead_le (d.take 10)
    rw [List.length_take] at hl
    have e : (d ++ b).take 10 = d.take 10 := by rw [List.take_append_of_le_length (by omega)]
    rw [e, if_pos c3, if_pos c3]
    exact ⟨rfl, rfl⟩
   ·rw [if_neg c3] at h ⊢
    by_cases c4 : lead (d.take 10) = d.length
    ·rw [if_pos c4]; exact .inl rfl
    ·rw [if_neg c4] at h; exact absurd rfl h
theorem nums_bad {wire : Nat} {k : Int} (b : List UInt8) : ∀ (n : Nat) (a : List UInt8), a.length ≤ n → (numsL wire k a).2 ≠ 0 → (numsL wire k a).2 = 6 ∨ ((numsL wire k (a ++ b)).2 = (numsL wire k a).2) := by
 intro n
 induction n with
 | zero =>
  intro a ha h
  obtain rfl : a = [] := List.eq_nil_of_length_eq_zero (by omega)
  exact absurd rfl h
 | succ n ih =>
  intro a ha h
  by_cases hd : a = []
  ·subst hd; exact absurd rfl h
  ·by_cases h0 : (wnum wire a).2.2 = 0
   ·have h1 := triple _ h0
    obtain ⟨p1, p2⟩ := wnum_pos h1
    have e1 := nums_ok (k := k) h1
    have h2 : wnum wire (a ++ b) = ((wnum wire a).1, (wnum wire a).2.1, 0) := by
     have := wnum_local h1 (a.drop (wnum wire a).2.1 ++ b)
     rwa [← List.append_assoc, List.take_append_drop] at this
    have e2 := nums_ok (k := k) h2
    rw [List.drop_append_of_le_length p2] at e2
    have hr : (numsL wire k (a.drop (wnum wire a).2.1)).2 ≠ 0 := by
     intro h3
     rw [e1, if_pos h3] at h
     exact absurd rfl h
    rw [e1, if_neg hr]
    rcases ih (a.drop (wnum wire a).2.1) (by rw [List.length_drop]; omega) hr with h3 | h3
    ·exact .inl h3
    ·right
     rw [e2, if_neg (by rw [h3]; exact hr)]
     exact h3
   ·rw [nums_err hd h0]
    rcases wnum_bad b h0 with h3 | ⟨h3, h4⟩
    ·exact .inl h3
    ·right
     have hd2 : a ++ b ≠ [] := by simp [hd]
     rw [nums_err hd2 (by rw [h4]; omega)]
     simp only
     rw [h3, h4]
theorem nums_len {wire : Nat} {k : Int} : ∀ (n : Nat) (a : List UInt8), a.length ≤ n → (numsL wire k a).1.length ≤ a.length := by
 intro n
 induction n with
 | zero =>
  intro a ha
  obtain rfl : a = [] := List.eq_nil_of_length_eq_zero (by omega)
  simp [nums_nil]
 | succ n ih =>
  intro a ha
  by_cases hd : a = []
  ·subst hd; simp [nums_nil]
  ·by_cases h0 : (wnum wire a).2.2 = 0
   ·have h1 := triple _ h0
    obtain ⟨p1, p2⟩ := wnum_pos h1
    rw [nums_ok (k := k) h1]
    split
    ·have := ih (a.drop (wnum wire a).2.1) (by rw [List.length_drop]; omega)
     rw [List.length_drop] at this
     simp only [List.length_cons]
     omega
    ·simp
   ·rw [nums_err hd h0]; simp
end Go.Proofs.YtckcojkpghiclaaGreatDoor.T11
/-
 What is told, or the error that something panicked with: the contracts of caught.
-/
namespace Go.Proofs.YtckcojkpghiclaaGreatDoor.T11
set_option maxRecDepth 100000
open Go.RowKit
theorem own_less2 {w : World} {b b' : Nat} {e : TypeId} {size : Nat} {v : Value} {n : Nat} {xs : List Value} (h : w.ownsRow b e size v n xs) (hb : b' ≤ b) : w.ownsRow b' e size v n xs := by
 rcases h with ⟨hl, ⟨rfl, rfl⟩ | ⟨g, cap, cur, rfl, h1, h2, h3⟩⟩
 ·exact ⟨hl, .inl ⟨rfl, rfl⟩⟩
 ·exact ⟨hl, .inr ⟨g, cap, cur, rfl, by omega, h2, h3⟩⟩
def errP (e : Int) : Value := .iface 32 (.int .i64 e)
theorem assert_err (e : Int) (w : World) : (Instr.typeAssert (errP e) 20 32 true).run Tryz.prog w = .ok (.tuple #[.int .i64 e, .bool true]) w := by
 unfold errP
 kernel_rfl
end Go.Proofs.YtckcojkpghiclaaGreatDoor.T11
/-
 What decode's numbers stand on: whether a kind counts, what panics with an error, one number.
-/
namespace Go.Proofs.YtckcojkpghiclaaGreatDoor.T11
set_option maxRecDepth 100000
open Go.RowKit
theorem isCounting_any (k : Int) (w : World) : Calls Tryz.prog 78 #[.int .i64 k] w fun e w' => e = .returned (.bool (cnt k)) ∧ Below w.heap.size w w' := by
 have HO := Lib.hid (fun wx => of_any k 0 (by omega) (by omega) wx)
 obtain ⟨b, hb⟩ : ∃ b, cnt k = b := ⟨_, rfl⟩
 rw [hb] at HO ⊢
 clear hb
 go_enter Tryz.func78, Tryz.ntmps78
 go_wp2_with fail
 refine (HO.out _).mono ?_
 rintro e w1 ⟨rfl, hb1⟩
 go_wp2
 go_ret
 exact ⟨rfl, hb1⟩
theorem must_yes (e : Int) (w : World) : Calls Tryz.prog 62 #[.bool true, .int .i64 e] w fun r w' => r = .returned (.tuple #[]) ∧ w' = w := by
 go_enter Tryz.func62, Tryz.ntmps62
 go_wp2
 go_end0
 exact ⟨rfl, rfl⟩
theorem must_no (e : Int) (w : World) : Calls Tryz.prog 62 #[.bool false, .int .i64 e] w fun r w' => r = .panicked [{ v := errP e, recovered := false }] ∧ w' = w := by
 go_enter Tryz.func62, Tryz.ntmps62
 go_wp2
 exact ⟨rfl, rfl, rfl⟩
theorem fine_yes (w : World) : Calls Tryz.prog 81 #[.int .i64 0] w fun r w' => r = .returned (.tuple #[]) ∧ w' = w := by
 go_enter Tryz.func81, Tryz.ntmps81
 go_wp2_with fail
 refine (must_yes 0 w).mono ?_
 rintro e w1 ⟨rfl, rfl⟩
 go_wp2
 go_end0
 exact ⟨rfl, rfl⟩
theorem fine_no (e : Nat) (he : e ≠ 0) (w : World) : Calls Tryz.prog 81 #[.int .i64 e] w fun r w' => r = .panicked [{ v := errP e, recovered := false }] ∧ w' = w := by
 have h1 : ((e : Int) == 0) = false := by rw [beq_eq_false_iff_ne]; omega
 have h2 : (e == 0) = false := by rw [beq_eq_false_iff_ne]; exact he
 have HM := Lib.hid (must_no e w)
 go_enter Tryz.func81, Tryz.ntmps81
 go_wp2_with fail
 refine HM.out.mono ?_
 rintro r w1 ⟨rfl, rfl⟩
 go_wp2
 exact ⟨rfl, rfl, rfl⟩
set_option maxRecDepth 1000000 in
theorem dnumber_any (A : Option Addr) (c : Nat) (l : List UInt8) (a u : Int) (wire : Nat) (hl : l.length ≤ 1000000000) (w : World) (h1 : SlB w A c l) :
  Calls Tryz.prog 79 #[.int .i64 wire, .slice A l.length c, .int .i64 a, .int .i64 u] w fun e w' => e = .returned (V3 (numR l a u wire)) ∧ w = w' := by
 by_cases h8 : wire = 1
 ·have hn : numR l a u wire = unfixR l a u 8 := by unfold numR; rw [if_pos h8]
  obtain ⟨x, y, z, hx⟩ : ∃ x y z, unfixR l a u 8 = (x, y, z) := ⟨_, _, _, rfl⟩
  rw [hn, hx]
  subst h8
  go_enter Tryz.func79, Tryz.ntmps79
  go_wp2_with fail
  refine (unfix_any A c l a u 8 hl w h1).mono ?_
  rintro e w1 ⟨rfl, rfl⟩
  rw [hx]
  unfold V3
  go_wp2
  go_ret3
  exact ⟨rfl, rfl⟩
 ·have b8 : ((wire : Int) == 1) = false := by simp; omega
  by_cases h4 : wire = 5
  ·have hn : numR l a u wire = unfixR l a u 4 := by unfold numR; rw [if_neg h8, if_pos h4]
   obtain ⟨x, y, z, hx⟩ : ∃ x y z, unfixR l a u 4 = (x, y, z) := ⟨_, _, _, rfl⟩
   rw [hn, hx]
   subst h4
   go_enter Tryz.func79, Tryz.ntmps79
   go_wp2_with fail
   refine (unfix_any A c l a u 4 hl w h1).mono ?_
   rintro e w1 ⟨rfl, rfl⟩
   rw [hx]
   unfold V3
   go_wp2
   go_ret3
   exact ⟨rfl, rfl⟩
  ·have b4 : ((wire : Int) == 5) = false := by simp; omega
   have hn : numR l a u wire = getR l a u := by unfold numR; rw [if_neg h8, if_neg h4]
   obtain ⟨x, y, z, hx⟩ : ∃ x y z, getR l a u = (x, y, z) := ⟨_, _, _, rfl⟩
   rw [hn, hx]
   clear h8 h4
   go_enter Tryz.func79, Tryz.ntmps79
   go_wp2_with fail
   refine (get_any A c l a u hl w h1).mono ?_
   rintro e w1 ⟨rfl, rfl⟩
   rw [hx]
   unfold V3
   go_wp2
   go_ret3
   exact ⟨rfl, rfl⟩
end Go.Proofs.YtckcojkpghiclaaGreatDoor.T11
/-
 Numbers one behind the other, as the program takes them: the contract of numbers.
-/
namespace Go.Proofs.YtckcojkpghiclaaGreatDoor.T11
set_option maxRecDepth 100000
open Go.RowKit
theorem own_dec {w w' : World} {base : Nat} {e : TypeId} {size : Nat} {v : Value} {n : Nat} {xs : List Value} (h : w.ownsRow base e size v n xs) (hb : Below w.heap.size w w') : w'.ownsRow base e size v n xs :=
 h.kept (row := none) ⟨hb.os, hb.tape, hb.output, hb.size, fun k hk _ => hb.block k hk⟩ (by cases hv : v.ownBlock <;> simp)
def ints (l : List Int) : List Value := l.map (Value.int .i64)
def wireN (k : Int) : Nat := (wireI k).toNat
theorem wire_nat {k : Int} (h : cnt k = true) : ((wireN k : Nat) : Int) = wireI k := by
 have hk : 0 ≤ k ∧ k < 7 := by simpa [cnt] using h
 unfold wireN
 rcases seven hk with rfl | rfl | rfl | rfl | rfl | rfl | rfl <;> decide
theorem wfix_lt {d : List UInt8} {S n k : Nat} (h : wfix d S = (n, k, 0)) : n < 256 ^ S := by
 unfold wfix at h
 split at h
 ·simp at h
 ·simp only [Prod.mk.injEq, and_true] at h
  have hl := fixn_lt (d.take S)
  rw [List.length_take, Nat.min_eq_left (by omega), h.1] at hl
  exact hl
theorem wnum_lt {wire : Nat} {d : List UInt8} {n k : Nat} (h : wnum wire d = (n, k, 0)) : n < 18446744073709551616 := by
 unfold wnum at h
 split at h
 ·have := wfix_lt h; omega
 ·split at h
  ·have := wfix_lt h; omega
  ·have := vget_lt d; rw [h] at this; exact this
theorem info_int64 : (Tryz.prog.info? 2).map (fun i => (i.zero, i.size, i.bytes)) = some (some (.int .i64 0), 1, 8) := by kernel_rfl
set_option maxRecDepth 1000000 in
set_option maxHeartbeats 8000000 in
theorem numbers_any (kind : Int) (hk : cnt kind = true) (A : Option Addr) (c : Nat) (l : List UInt8) (a u : Nat) (hau : a ≤ u) (hu : u ≤ l.length) (hl : l.length ≤ 1000000000) (w : World) (h1 : SlB w A c l) :
  Calls Tryz.prog 52 #[.int .i64 kind, .slice A l.length c, .int .i64 a, .int .i64 u] w fun e w' =>
   ((numsL (wireN kind) kind ((l.drop a).take (u - a))).2 = 0 ∧ (∃ v, e = .returned v ∧ w'.ownsRow w.heap.size 2 1 v (numsL (wireN kind) kind ((l.drop a).take (u - a))).1.length (ints (numsL (wireN kind) kind ((l.drop a).take (u - a))).1)) ∨
    (numsL (wireN kind) kind ((l.drop a).take (u - a))).2 ≠ 0 ∧ e = .panicked [{ v := errP ((numsL (wireN kind) kind ((l.drop a).take (u - a))).2 : Nat), recovered := false }]) ∧ Below w.heap.size w w' := by
 obtain ⟨i0, hi, hz0, hz1, hz2⟩ := info_parts info_int64
 obtain ⟨d, hd⟩ : ∃ d, (l.drop a).take (u - a) = d := ⟨_, rfl⟩
 have hdl : d.length = u - a := by rw [← hd, List.length_take, List.length_drop]; omega
 obtain ⟨R, hR⟩ : ∃ R, numsL (wireN kind) kind d = R := ⟨_, rfl⟩
 rw [hd, hR]
 have HIC := Lib.hid (fun wx => isCounting_any kind wx)
 rw [hk] at HIC
 have HW := Lib.hid (fun wx => wire_any kind wx)
 rw [← wire_nat hk] at HW
 have HD := Lib.hid hd
 have HR := Lib.hid hR
 have HS := Lib.hid h1
 have b1 : decide ((0 : Int) ≤ (a : Int)) = true := decide_eq_true (by omega)
 have b2 : decide ((a : Int) ≤ (u : Int)) = true := decide_eq_true (by omega)
 have b3 : decide ((u : Int) ≤ (l.length : Int)) = true := decide_eq_true (by omega)
 have b4 : decide (a ≤ u) = true := decide_eq_true hau
 have b5 : decide (u ≤ l.length) = true := decide_eq_true hu
 clear h1 hd hR
 go_enter Tryz.func52, Tryz.ntmps52
 go_wp2_with fail
 refine (HIC.out _).mono ?_
 rintro e w1 ⟨rfl, hb1⟩
 go_wp2_with fail
 refine (must_yes 1 w1).mono ?_
 rintro e w1' ⟨rfl, rfl⟩
 clear b1 b2 b3 b4 b5
 have LB := Lib.hid hb1
 clear hb1
 go_wp2
 go_loopw [2, 9] (fun i o wr => ∃ (p : Nat) (xs : List Int), i = .int .i64 ((a + p : Nat) : Int) ∧ p ≤ d.length ∧ wr.ownsRow w.heap.size 2 1 o xs.length (ints xs) ∧ xs.length ≤ p ∧ (numsL (wireN kind) kind d = if (numsL (wireN kind) kind (d.drop p)).2 = 0 then (xs ++ (numsL (wireN kind) kind (d.drop p)).1, 0) else ([], (numsL (wireN kind) kind (d.drop p)).2)) ∧ Below w.heap.size w wr) (fun i _ _ => u - (intOf i).toNat)
 case atStart =>
  refine ⟨0, [], by simp, by omega, World.ownsRow_nil _ _ _ _, by simp, ?_, LB.out⟩
  rw [List.drop_zero, List.nil_append]
  split
  ·rename_i h; exact Prod.ext rfl h
  ·rename_i h; exact Prod.ext (nums_empty h) rfl
 case round =>
  obtain ⟨p, xs, rfl, hp, hown, hxl, hnum, hbw⟩ := hrel
  have HNUM := Lib.hid hnum
  have HBW := Lib.hid hbw
  by_cases hlt : p < d.length
  ·have hc1 : decide (((a + p : Nat) : Int) < (u : Int)) = true := decide_eq_true (by omega)
   have hc2 : decide (a + p < u) = true := decide_eq_true (by omega)
   have hc3 : decide ((a : Int) + (p : Int) < (u : Int)) = true := decide_eq_true (by omega)
   have hwin : (l.drop (a + p)).take (u - (a + p)) = d.drop p := by rw [win_drop, HD.out]
   have hnw := num_win l (a + p) u (wireN kind) (by omega) (by omega)
   rw [hwin] at hnw
   have HN := Lib.hid (fun wx (hx : Below w.heap.size w wx) => dnumber_any A c l ((a + p : Nat) : Int) (u : Int) (wireN kind) hl wx (SlB.on HS.out hx))
   rw [hnw] at HN
   have hne : d.drop p ≠ [] := by
    intro e
    have := congrArg List.length e
    rw [List.length_drop, List.length_nil] at this
    omega
   obtain ⟨n, hn⟩ : ∃ n, (wnum (wireN kind) (d.drop p)).1 = n := ⟨_, rfl⟩
   obtain ⟨q, hq⟩ : ∃ q, (wnum (wireN kind) (d.drop p)).2.1 = q := ⟨_, rfl⟩
   obtain ⟨er, her⟩ : ∃ er, (wnum (wireN kind) (d.drop p)).2.2 = er := ⟨_, rfl⟩
   rw [hn, hq, her] at HN
   unfold V3 at HN
   by_cases h0 : er = 0
   ·subst h0
    have hw3 : wnum (wireN kind) (d.drop p) = (n, q, 0) := by rw [← hn, ← hq, ← her]
    obtain ⟨q1, q2⟩ := wnum_pos hw3
    rw [List.length_drop] at q2
    have hn64 := wnum_lt hw3
    have hok := nums_ok (k := kind) hw3
    rw [List.drop_drop] at hok
    have HOK := Lib.hid hok
    have HOF := Lib.hid (fun wx => of_any kind (n : Int) (by omega) (by omega) wx)
    rw [hk] at HOF
    simp only [if_true] at HN
    clear hnum hbw hnw hwin hne hw3 hok hn hq her hlt
    go_wp2_with fail
    refine (HW.out _).mono ?_
    rintro e w2 ⟨rfl, hb2⟩
    have B2 := below_then HBW.out hb2
    go_wp2_with fail
    refine (HN.out _ B2).mono ?_
    rintro e w3 ⟨rfl, rfl⟩
    go_wp2_with fail
    refine (fine_yes _).mono ?_
    rintro e w3 ⟨rfl, rfl⟩
    go_wp2_with fail
    refine (HOF.out _).mono ?_
    rintro e w4 ⟨rfl, hb4⟩
    have B4 := below_then B2 hb4
    have hown4 : w4.ownsRow w.heap.size 2 1 u9 xs.length (ints xs) := own_dec hown (hb2.trans (hb4.mono hb2.size))
    have hz4 := B4.size
    clear hown
    go_wp2_with (at_builtin; refine wpList_app1 rfl _ _ 53 rfl w.heap.size 2 i0 (.int .i64 0) 8 Tryz.underlying53 hi hz0 hz1 hz2 rfl u9 xs.length (ints xs) rfl (hown4.alloc _) w4.heap.size 1 _ rfl (World.cell?_alloc_at _ _ _ _ rfl) rfl (by unfold maxLen; omega) (by omega) (by simp; omega) ?_; intro v2 w5 hown5 hg5)
    have hr : numsL (wireN kind) kind d = if (numsL (wireN kind) kind (d.drop (p + q))).2 = 0 then ((xs ++ [ofI kind (n : Int)]) ++ (numsL (wireN kind) kind (d.drop (p + q))).1, 0) else ([], (numsL (wireN kind) kind (d.drop (p + q))).2) := by
     rw [HNUM.out, HOK.out]
     by_cases h : (numsL (wireN kind) kind (d.drop (p + q))).2 = 0
     ·simp [h]
     ·simp [h]
    have he : ints xs ++ [Value.int .i64 (ofI kind (n : Int))] = ints (xs ++ [ofI kind (n : Int)]) := by simp [ints]
    have hle : xs.length + 1 = (xs ++ [ofI kind (n : Int)]).length := by simp
    refine ⟨⟨p + q, xs ++ [ofI kind (n : Int)], by congr 1; omega, by omega, ?_, by simp; omega, hr, (B4.alloc hz4 _).grown hg5 (by simp; omega) (own_ge hown4)⟩, by simp only [intOf]; omega⟩
    rw [← he, ← hle]
    exact hown5
   ·rw [if_neg h0] at HN
    have hbad := nums_err (k := kind) hne (by rw [her]; exact h0)
    rw [her] at hbad
    rw [hbad, if_neg h0] at hnum
    have HNB := Lib.hid hnum
    have HF := Lib.hid (fun wx => fine_no er h0 wx)
    clear hnum hbw hnw hwin hne hn hq her hlt hbad HNUM
    go_wp2_with fail
    refine (HW.out _).mono ?_
    rintro e w2 ⟨rfl, hb2⟩
    have B2 := below_then HBW.out hb2
    go_wp2_with fail
    refine (HN.out _ B2).mono ?_
    rintro e w3 ⟨rfl, rfl⟩
    go_wp2_with fail
    refine (HF.out _).mono ?_
    rintro e w3 ⟨rfl, rfl⟩
    go_wp2
    have e1 := HR.out.symm.trans HNB.out
    refine ⟨rfl, .inr ⟨?_, ?_⟩, B2⟩
    ·rw [e1]; exact h0
    ·rw [e1]
  ·have hp2 : p = d.length := by omega
   have hc1 : decide (((a + p : Nat) : Int) < (u : Int)) = false := decide_eq_false (by omega)
   have hc2 : decide (a + p < u) = false := decide_eq_false (by omega)
   have hc3 : decide ((a : Int) + (p : Int) < (u : Int)) = false := decide_eq_false (by omega)
   have hc4 : ¬ (a : Int) + (p : Int) < (u : Int) := by omega
   have he : numsL (wireN kind) kind d = (xs, 0) := by
    rw [hnum, List.drop_eq_nil_of_le (by omega), nums_nil, if_pos rfl, List.append_nil]
   have HE := Lib.hid (HR.out.symm.trans he)
   clear hnum hbw he HNUM hp2 hlt
   go_wp2
   go_ret
   have e1 := HE.out
   subst e1
   exact ⟨.inl ⟨rfl, _, rfl, hown⟩, HBW.out⟩
end Go.Proofs.YtckcojkpghiclaaGreatDoor.T11
/-
 The numbers of a window as decode tells them: the contracts of Numbers.
-/
namespace Go.Proofs.YtckcojkpghiclaaGreatDoor.T11
set_option maxRecDepth 100000
open Go.RowKit
def numsK (k : Int) (d : List UInt8) : List Int × Nat := if cnt k then numsL (wireN k) k d else ([], 1)
set_option maxRecDepth 1000000 in
theorem numbers_bad (kind : Int) (hk : cnt kind = false) (A : Option Addr) (n c a u : Nat) (w : World) :
  Calls Tryz.prog 52 #[.int .i64 kind, .slice A n c, .int .i64 a, .int .i64 u] w fun e w' => e = .panicked [{ v := errP (1 : Nat), recovered := false }] ∧ Below w.heap.size w w' := by
 have HIC := Lib.hid (fun wx => isCounting_any kind wx)
 rw [hk] at HIC
 have HM := Lib.hid (fun wx => must_no (1 : Nat) wx)
 go_enter Tryz.func52, Tryz.ntmps52
 go_wp2_with fail
 refine (HIC.out _).mono ?_
 rintro e w1 ⟨rfl, hb1⟩
 go_wp2_with fail
 refine (HM.out w1).mono ?_
 rintro e w2 ⟨rfl, rfl⟩
 go_wp2
 exact ⟨rfl, rfl, hb1⟩
theorem numbers_all (kind : Int) (A : Option Addr) (c : Nat) (l : List UInt8) (a u : Nat) (hau : a ≤ u) (hu : u ≤ l.length) (hl : l.length ≤ 1000000000) (w : World) (h1 : SlB w A c l) :
  Calls Tryz.prog 52 #[.int .i64 kind, .slice A l.length c, .int .i64 a, .int .i64 u] w fun e w' =>
   ((numsK kind ((l.drop a).take (u - a))).2 = 0 ∧ (∃ v, e = .returned v ∧ w'.ownsRow w.heap.size 2 1 v (numsK kind ((l.drop a).take (u - a))).1.length (ints (numsK kind ((l.drop a).take (u - a))).1)) ∨
    (numsK kind ((l.drop a).take (u - a))).2 ≠ 0 ∧ e = .panicked [{ v := errP ((numsK kind ((l.drop a).take (u - a))).2 : Nat), recovered := false }]) ∧ Below w.heap.size w w' := by
 unfold numsK
 by_cases hk : cnt kind = true
 ·simp only [if_pos hk]
  exact numbers_any kind hk A c l a u hau hu hl w h1
 ·have hk2 : cnt kind = false := by simpa using hk
  simp only [if_neg hk]
  refine (numbers_bad kind hk2 A l.length c a u w).mono ?_
  rintro e w' ⟨rfl, hb⟩
  exact ⟨.inr ⟨by simp, rfl⟩, hb⟩
theorem push_old (w : World) (o : Obj) (k : Nat) (x : Obj) (h : w.heap[k]? = some x) : (w.alloc o).heap[k]? = some x :=
 ((below_new w o).block k (Array.getElem?_eq_some_iff.1 h).1).trans h
theorem four_new {w wf : World} {o0 o1 o2 o3 : Obj} (h : (((w.alloc o0).alloc o1).alloc o2).alloc o3 = wf) :
  wf.heap[w.heap.size]? = some o0 ∧ wf.heap[w.heap.size + 1]? = some o1 ∧ wf.heap[w.heap.size + 1 + 1]? = some o2 ∧ wf.heap[w.heap.size + 1 + 1 + 1]? = some o3 ∧ Below w.heap.size w wf ∧ wf.heap.size = w.heap.size + 1 + 1 + 1 + 1 := by
 subst h
 have hs : ∀ (x : World) (o : Obj), (x.alloc o).heap.size = x.heap.size + 1 := fun x o => by simp
 refine ⟨push_old _ _ _ _ (push_old _ _ _ _ (push_old _ _ _ _ (heap_alloc_new w o0))), ?_, ?_, ?_, ?_, ?_⟩
 ·have := heap_alloc_new (w.alloc o0) o1
  rw [hs] at this
  exact push_old _ _ _ _ (push_old _ _ _ _ this)
 ·have := heap_alloc_new ((w.alloc o0).alloc o1) o2
  rw [hs, hs] at this
  exact push_old _ _ _ _ this
 ·have := heap_alloc_new (((w.alloc o0).alloc o1).alloc o2) o3
  rw [hs, hs, hs] at this
  exact this
 ·exact (((below_new w _).alloc (by rw [hs]; omega) _).alloc (by rw [hs, hs]; omega) _).alloc (by rw [hs, hs, hs]; omega) _
 ·rw [hs, hs, hs, hs]
end Go.Proofs.YtckcojkpghiclaaGreatDoor.T11
/-
 Messages as trees: what they are, how deep, how great, and the slots that are got and set.
-/
namespace Go.Proofs.YtckcojkpghiclaaGreatDoor.T9
set_option maxRecDepth 100000
structure VV (α : Type) : Type where
 n : Int
 s : List UInt8
 M : List α
structure SL (α : Type) : Type where
 no : Int
 K : List (VV α)
 V : List (VV α)
inductive Mg : Type where
 | mk (F : List (SL Mg)) : Mg
def Mg.F : Mg → List (SL Mg) | .mk l => l
abbrev Vl' := VV Mg
abbrev So := SL Mg
theorem Mg.eta (m : Mg) : Mg.mk m.F = m := by cases m; rfl
theorem Mg.ext {a b : Mg} (h : a.F = b.F) : a = b := by rw [← a.eta, ← b.eta, h]
instance {α : Type} : Inhabited (VV α) := ⟨⟨0, [], []⟩⟩
instance {α : Type} : Inhabited (SL α) := ⟨⟨0, [], []⟩⟩
theorem Mg.sz {m : Mg} {s : So} {v : Vl'} {x : Mg} (hs : s ∈ m.F) (hv : v ∈ s.K ∨ v ∈ s.V) (hx : x ∈ v.M) : SizeOf.sizeOf x < SizeOf.sizeOf m := by
 obtain ⟨F⟩ := m
 have h1 := List.sizeOf_lt_of_mem (show s ∈ F from hs)
 obtain ⟨no, K, V⟩ := s
 have h3 : SizeOf.sizeOf v < SizeOf.sizeOf (SL.mk no K V) := by
  rcases hv with hv | hv
  ·have := List.sizeOf_lt_of_mem (show v ∈ K from hv); simp only [SL.mk.sizeOf_spec]; omega
  ·have := List.sizeOf_lt_of_mem (show v ∈ V from hv); simp only [SL.mk.sizeOf_spec]; omega
 obtain ⟨n, s, M⟩ := v
 have h4 := List.sizeOf_lt_of_mem (show x ∈ M from hx)
 simp only [VV.mk.sizeOf_spec] at h3
 simp only [Mg.mk.sizeOf_spec]
 omega
def mx : List Nat → Nat
 | [] => 0
 | x :: l => max x (mx l)
def sm : List Nat → Nat
 | [] => 0
 | x :: l => x + sm l
theorem mx_append (a b : List Nat) : mx (a ++ b) = max (mx a) (mx b) := by
 induction a with
 | nil => simp [mx]
 | cons x a ih => simp only [List.cons_append, mx, ih]; omega
theorem sm_append (a b : List Nat) : sm (a ++ b) = sm a + sm b := by
 induction a with
 | nil => simp [sm]
 | cons x a ih => simp only [List.cons_append, sm, ih]; omega
theorem mx_le {l : List Nat} {n : Nat} (h : ∀ x ∈ l, x ≤ n) : mx l ≤ n := by
 induction l with
 | nil => exact Nat.zero_le _
 | cons x l ih => have := h x (by simp); have := ih fun y hy => h y (by simp [hy]); simp only [mx]; omega
theorem le_mx {l : List Nat} {x : Nat} (h : x ∈ l) : x ≤ mx l := by
 induction l with
 | nil => cases h
 | cons y l ih =>
  simp only [mx]
  rcases List.mem_cons.1 h with rfl | h
  ·omega
  ·have := ih h; omega
theorem le_sm {l : List Nat} {x : Nat} (h : x ∈ l) : x ≤ sm l := by
 induction l with
 | nil => cases h
 | cons y l ih =>
  simp only [sm]
  rcases List.mem_cons.1 h with rfl | h
  ·omega
  ·have := ih h; omega
theorem mx_take_next {α : Type} {l : List α} {k : Nat} {x : α} (g : α → Nat) (h : l[k]? = some x) : mx ((l.take (k + 1)).map g) = max (mx ((l.take k).map g)) (g x) := by
 rw [List.take_add_one, h, List.map_append, mx_append]
 simp [mx]
theorem mx_take_le {α : Type} (l : List α) (k : Nat) (g : α → Nat) : mx ((l.take k).map g) ≤ mx (l.map g) := by
 have h := mx_append ((l.take k).map g) ((l.drop k).map g)
 rw [← List.map_append, List.take_append_drop] at h
 omega
theorem sm_congr {α : Type} {l : List α} {f g : α → Nat} (h : ∀ x ∈ l, f x = g x) : sm (l.map f) = sm (l.map g) := by rw [List.map_congr_left h]
theorem sm_mono {α : Type} {l : List α} {f g : α → Nat} (h : ∀ x ∈ l, f x ≤ g x) : sm (l.map f) ≤ sm (l.map g) := by
 induction l with
 | nil => simp [sm]
 | cons x l ih => have := h x (by simp); have := ih fun y hy => h y (by simp [hy]); simp only [List.map_cons, sm]; omega
theorem sm_add {α : Type} (l : List α) (f g : α → Nat) : sm (l.map fun x => f x + g x) = sm (l.map f) + sm (l.map g) := by
 induction l with
 | nil => rfl
 | cons x l ih => simp only [List.map_cons, sm, ih]; omega
theorem sm_one {α : Type} (l : List α) : sm (l.map fun _ => 1) = l.length := by
 induction l with
 | nil => rfl
 | cons x l ih => simp only [List.map_cons, sm, ih, List.length_cons]; omega
def Mg.deep (m : Mg) : Nat := 1 + mx (m.F.attach.map fun ⟨s, hs⟩ => max (mx (s.K.attach.map fun ⟨v, hv⟩ => mx (v.M.attach.map fun ⟨x, hx⟩ => x.deep))) (mx (s.V.attach.map fun ⟨v, hv⟩ => mx (v.M.attach.map fun ⟨x, hx⟩ => x.deep))))
termination_by SizeOf.sizeOf m
decreasing_by
 ·exact Mg.sz hs (.inl hv) hx
 ·exact Mg.sz hs (.inr hv) hx
def Mg.size (m : Mg) : Nat := sm (m.F.attach.map fun ⟨s, hs⟩ => sm (s.K.attach.map fun ⟨v, hv⟩ => 1 + sm (v.M.attach.map fun ⟨x, hx⟩ => x.size)) + sm (s.V.attach.map fun ⟨v, hv⟩ => 1 + sm (v.M.attach.map fun ⟨x, hx⟩ => x.size)))
termination_by SizeOf.sizeOf m
decreasing_by
 ·exact Mg.sz hs (.inl hv) hx
 ·exact Mg.sz hs (.inr hv) hx
def Mg.cnt (m : Mg) : Nat := sm (m.F.attach.map fun ⟨s, hs⟩ => 1 + (sm (s.K.attach.map fun ⟨v, hv⟩ => 1 + sm (v.M.attach.map fun ⟨x, hx⟩ => 1 + x.cnt)) + sm (s.V.attach.map fun ⟨v, hv⟩ => 1 + sm (v.M.attach.map fun ⟨x, hx⟩ => 1 + x.cnt))))
termination_by SizeOf.sizeOf m
decreasing_by
 ·exact Mg.sz hs (.inl hv) hx
 ·exact Mg.sz hs (.inr hv) hx
def dV (v : Vl') : Nat := mx (v.M.map Mg.deep)
def dS (s : So) : Nat := max (mx (s.K.map dV)) (mx (s.V.map dV))
def zV (v : Vl') : Nat := 1 + sm (v.M.map Mg.size)
def zS (s : So) : Nat := sm (s.K.map zV) + sm (s.V.map zV)
def cV (v : Vl') : Nat := 1 + sm (v.M.map fun x => 1 + x.cnt)
def cS (s : So) : Nat := 1 + (sm (s.K.map cV) + sm (s.V.map cV))
theorem att {α β : Type} (l : List α) (g : α → β) (f : {x // x ∈ l} → β) (h : ∀ x, f x = g x.1) : l.attach.map f = l.map g := by
 have e : f = fun x => g x.1 := funext h
 rw [e]
 simp
theorem Mg.deep_eq (m : Mg) : m.deep = 1 + mx (m.F.map dS) := by
 rw [Mg.deep, att m.F dS]
 rintro ⟨s, hs⟩
 show max _ _ = dS s
 unfold dS
 rw [att s.K dV, att s.V dV]
 ·rintro ⟨v, hv⟩
  exact congrArg mx (att v.M Mg.deep _ fun x => rfl)
 ·rintro ⟨v, hv⟩
  exact congrArg mx (att v.M Mg.deep _ fun x => rfl)
theorem Mg.size_eq (m : Mg) : m.size = sm (m.F.map zS) := by
 rw [Mg.size, att m.F zS]
 rintro ⟨s, hs⟩
 show _ + _ = zS s
 unfold zS
 rw [att s.K zV, att s.V zV]
 ·rintro ⟨v, hv⟩
  exact congrArg (1 + sm ·) (att v.M Mg.size _ fun x => rfl)
 ·rintro ⟨v, hv⟩
  exact congrArg (1 + sm ·) (att v.M Mg.size _ fun x => rfl)
theorem Mg.cnt_eq (m : Mg) : m.cnt = sm (m.F.map cS) := by
 rw [Mg.cnt, att m.F cS]
 rintro ⟨s, hs⟩
 show 1 + (_ + _) = cS s
 unfold cS
 rw [att s.K cV, att s.V cV]
 ·rintro ⟨v, hv⟩
  exact congrArg (1 + sm ·) (att v.M (fun x => 1 + x.cnt) _ fun x => rfl)
 ·rintro ⟨v, hv⟩
  exact congrArg (1 + sm ·) (att v.M (fun x => 1 + x.cnt) _ fun x => rfl)
theorem Mg.deep_pos (m : Mg) : 1 ≤ m.deep := by rw [m.deep_eq]; omega
theorem mem_le_sm {α : Type} {l : List α} {g : α → Nat} {x : α} (h : x ∈ l) : g x ≤ sm (l.map g) := le_sm (List.mem_map_of_mem h)
theorem mem_le_mx {α : Type} {l : List α} {g : α → Nat} {x : α} (h : x ∈ l) : g x ≤ mx (l.map g) := le_mx (List.mem_map_of_mem h)
theorem deep_lt {m : Mg} {s : So} {v : Vl'} {x : Mg} (hs : s ∈ m.F) (hv : v ∈ s.K ∨ v ∈ s.V) (hx : x ∈ v.M) : x.deep < m.deep := by
 have h1 : x.deep ≤ dV v := mem_le_mx hx
 have h2 : dV v ≤ dS s := by
  unfold dS
  rcases hv with hv | hv
  ·have := mem_le_mx (g := dV) hv; omega
  ·have := mem_le_mx (g := dV) hv; omega
 have h3 : dS s ≤ _ := mem_le_mx (g := dS) hs
 rw [m.deep_eq]
 omega
theorem cS_len {s : So} : s.K.length + s.V.length ≤ cS s := by
 have h1 : s.K.length ≤ sm (s.K.map cV) := by rw [← sm_one s.K]; exact sm_mono fun v _ => by unfold cV; omega
 have h2 : s.V.length ≤ sm (s.V.map cV) := by rw [← sm_one s.V]; exact sm_mono fun v _ => by unfold cV; omega
 unfold cS
 omega
theorem cnt_F (m : Mg) : m.F.length ≤ m.cnt := by
 rw [m.cnt_eq, ← sm_one m.F]
 exact sm_mono fun s _ => by unfold cS; omega
theorem cV_M (v : Vl') : v.M.length ≤ cV v := by
 have h1 : v.M.length ≤ sm (v.M.map fun x => 1 + x.cnt) := by rw [← sm_one v.M]; exact sm_mono fun x _ => by omega
 unfold cV
 omega
theorem cS_le {m : Mg} {s : So} (hs : s ∈ m.F) : cS s ≤ m.cnt := by rw [m.cnt_eq]; exact mem_le_sm hs
theorem cV_le {s : So} {v : Vl'} (hv : v ∈ s.K ∨ v ∈ s.V) : cV v < cS s := by
 unfold cS
 rcases hv with hv | hv
 ·have := mem_le_sm (g := cV) hv; omega
 ·have := mem_le_sm (g := cV) hv; omega
theorem cnt_le {v : Vl'} {x : Mg} (hx : x ∈ v.M) : x.cnt < cV v := by
 have := mem_le_sm (g := fun x : Mg => 1 + x.cnt) hx
 unfold cV
 omega
end Go.Proofs.YtckcojkpghiclaaGreatDoor.T9
/-
 What texts are made of: blanks, tokens, and all tokens of a text, by plain functions on lists of bytes; and what is plain of them.
-/
namespace Go.Proofs.YtckcojkpghiclaaGreatDoor
set_option maxRecDepth 100000
end Go.Proofs.YtckcojkpghiclaaGreatDoor
