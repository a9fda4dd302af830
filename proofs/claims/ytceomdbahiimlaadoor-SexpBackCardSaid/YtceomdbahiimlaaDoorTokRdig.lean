/-
  A number's digits, and the number of digits, by the document's own functions: their contracts.
-/
import Derived.Test.YtceomdbahiimlaaDoorTokRefs
namespace Go.Proofs.YtceomdbahiimlaaDoor
set_option maxRecDepth 100000

open Go.RowKit

theorem txt_app (a b : List UInt8) : txt a ++ txt b = txt (a ++ b) := by
  apply ByteArray.ext
  apply Array.toList_inj.1
  simp [txt]
/-- The digit of a number below 10. -/
def dig (k : Nat) : UInt8 := UInt8.ofNat (48 + k)
def tenS : ByteArray := ⟨#[48, 49, 50, 51, 52, 53, 54, 55, 56, 57]⟩
theorem dec_small {u : Nat} (h : u ≤ 9223372036854775808) : (txt (Lib.decDigits u)).size ≤ 19 := by
  have h3 := nDigits_le 18 u (by have : (10 : Nat) ^ (18 + 1) = 10000000000000000000 := by decide
                                 omega)
  rw [txt_size, Lib.decDigits_length]; omega
theorem ten_part (k : Nat) (h : k < 10) : tenS.extract k (k + 1) = txt [dig k] := by
  have : k = 0 ∨ k = 1 ∨ k = 2 ∨ k = 3 ∨ k = 4 ∨ k = 5 ∨ k = 6 ∨ k = 7 ∨ k = 8 ∨ k = 9 := by omega
  rcases this with rfl | rfl | rfl | rfl | rfl | rfl | rfl | rfl | rfl | rfl <;> rfl
theorem ten_at (k : Nat) (h : k < 10) (w : World) : (Instr.slice 9 (.string ⟨#[48, 49, 50, 51, 52, 53, 54, 55, 56, 57]⟩) (some (.int .i64 k)) (some (.int .i64 ((k : Int) + 1))) none).run Tryd.prog w = .ok (.string (txt [dig k])) w := by
  have hr := run_slice_string (P := Tryd.prog) (w := w) (t := 9) (s := tenS) (i := (k : Int)) (j := (k : Int) + 1) (k := .i64) (k' := .i64) Tryd.underlying9 (by omega) (by omega) (by show (k : Int) + 1 ≤ 10; omega)
  have e1 : ((k : Int) + 1).toNat = k + 1 := by omega
  rw [Int.toNat_natCast, e1, ten_part k h] at hr
  exact hr

set_option maxRecDepth 1000000 in
theorem rdig_nat : ∀ (n : Nat), n ≤ 9223372036854775807 → ∀ w, Calls Tryd.prog 64 #[.int .i64 (n : Int)] w fun e w' => e = .returned (.string (txt (Lib.decDigits n))) ∧ Below w.heap.size w w' := by
  intro n
  induction n using Nat.strongRecOn with
  | _ n ih =>
  intro hn w
  have hm : n % 10 < 10 := Nat.mod_lt _ (by decide)
  have ht := ten_at (n % 10) hm
  have b0 : decide ((n : Int) < 0) = false := by simp
  have e1 : Int.tmod (n : Int) 10 = ((n % 10 : Nat) : Int) := by rw [Int.tmod_eq_emod_of_nonneg (by omega)]; omega
  by_cases h : n < 10
  · have b1 : decide ((n : Int) < 10) = true := by simp; omega
    have HD : Hid (Lib.decDigits n = [dig n]) := Lib.hid (Lib.decDigits_one h)
    have hmod : n % 10 = n := by omega
    rw [hmod] at ht e1
    clear ih
    go_enter Tryd.func64, Tryd.ntmps64
    go_wp2_with fail
    go_ret
    exact ⟨by rw [HD.out]; rfl, by first | exact Below.refl _ _ | trivial⟩
  · have b1 : decide ((n : Int) < 10) = false := by simp; omega
    have HD : Hid (Lib.decDigits n = Lib.decDigits (n / 10) ++ [dig (n % 10)]) := Lib.hid (dec_step h)
    have IH := Lib.hid (ih (n / 10) (by omega) (by omega))
    have e2 : Int.tdiv (n : Int) 10 = ((n / 10 : Nat) : Int) := by rw [Int.tdiv_eq_ediv_of_nonneg (by omega)]; omega
    clear ih
    have hqb : n / 10 ≤ 922337203685477580 := by omega
    generalize hq : n / 10 = q at *
    generalize hr : n % 10 = r at *
    clear hq hr
    have hxs := dec_small (u := q) (by omega)
    have hys := txt_size [dig r]
    simp only [List.length_cons, List.length_nil] at hys
    generalize hX : txt (Lib.decDigits q) = X at *
    generalize hY : txt [dig r] = Y at *
    have HX := Lib.hid hX
    have HY := Lib.hid hY
    clear hX hY
    go_enter Tryd.func64, Tryd.ntmps64
    go_wp2_with fail
    refine (IH.out _).mono ?_
    try rw [HX.out]
    rintro e w1 ⟨rfl, hb⟩
    go_wp2
    go_ret
    exact ⟨congrArg (fun x => Ending.returned (Value.string x)) (by rw [HD.out, ← HX.out, ← HY.out, txt_app]), hb⟩

theorem itoa_min : Lib.itoa (-9223372036854775808) = [45, 57, 50, 50, 51, 51, 55, 50, 48, 51, 54, 56, 53, 52, 55, 55, 53, 56, 48, 56] := by
  have h : ∀ n : Nat, Lib.decDigits n = if n < 10 then [UInt8.ofNat (48 + n)] else Lib.decDigits (n / 10) ++ [UInt8.ofNat (48 + n % 10)] := fun n => by
    by_cases h : n < 10
    · rw [if_pos h, Lib.decDigits_one h]
    · rw [if_neg h, dec_step h]
  rw [itoa_neg _ (by decide), show (-9223372036854775808 : Int).natAbs = 9223372036854775808 from rfl]
  iterate 18 rw [h, if_neg (by decide)]
  rw [h, if_pos (by decide)]
  decide +kernel
set_option maxRecDepth 1000000 in
theorem rdig_any (n : Int) (h0 : -9223372036854775808 ≤ n) (h1 : n ≤ 9223372036854775807) (w : World) :
    Calls Tryd.prog 64 #[.int .i64 n] w fun e w' => e = .returned (.string (txt (Lib.itoa n))) ∧ Below w.heap.size w w' := by
  by_cases hn : n < 0
  · by_cases hm : n = -9223372036854775808
    · subst hm
      have HD := Lib.hid itoa_min
      go_enter Tryd.func64, Tryd.ntmps64
      go_wp2_with fail
      go_ret
      exact ⟨by rw [HD.out]; rfl, by first | exact Below.refl _ _ | trivial⟩
    · obtain ⟨m, rfl⟩ : ∃ m : Nat, n = -(m : Int) := ⟨n.natAbs, by omega⟩
      have HD : Hid (Lib.itoa (-(m : Int)) = 45 :: Lib.decDigits m) := Lib.hid (by rw [itoa_neg _ hn]; simp)
      have b0 : decide (-(m : Int) < 0) = true := by simp; omega
      have b1 : (-(m : Int) == -9223372036854775808) = false := by rw [beq_eq_false_iff_ne]; exact hm
      have e1 : IntKind.i64.wrap (- -(m : Int)) = (m : Int) := by simp [IntKind.wrap, IntKind.signed, IntKind.bits]; split <;> omega
      have IH := Lib.hid (rdig_nat m (by omega))
      have hmb : m ≤ 9223372036854775807 := by omega
      have hm0 : 0 < m := by omega
      have e2 : (- -(m : Int)) = (m : Int) := by omega
      clear hn hm h0 h1 e1
      have hxs := dec_small (u := m) (by omega)
      generalize hX : txt (Lib.decDigits m) = X at *
      generalize hY : txt (Lib.itoa (-(m : Int))) = Y at *
      have HX := Lib.hid hX
      have HY := Lib.hid hY
      clear hX hY
      go_enter Tryd.func64, Tryd.ntmps64
      go_wp2_with fail
      refine (IH.out _).mono ?_
      try rw [HX.out]
      rintro e w1 ⟨rfl, hb⟩
      go_wp2
      go_ret
      exact ⟨congrArg (fun x => Ending.returned (Value.string x)) (by rw [← HY.out, HD.out, ← HX.out]; exact txt_app [45] (Lib.decDigits m)), hb⟩
  · obtain ⟨m, rfl⟩ : ∃ m : Nat, n = (m : Int) := ⟨n.toNat, by omega⟩
    rw [itoa_nonneg _ (by omega)]
    simp only [Int.toNat_natCast]
    exact rdig_nat m (by omega) w
end Go.Proofs.YtceomdbahiimlaaDoor
