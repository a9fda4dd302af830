/-
  The contracts of this layer's functions at any arguments, in the form in which the laws use them: what is answered reads as a list.
-/
import Derived.Test.YthmnngojfllahaaVarAwake
namespace Go.Proofs.Ythmnngojfllahaa
open Go.RowKit

def fixR (n : Nat) (s : Int) : List UInt8 := if sizeB s then fixb n s.toNat else []
theorem fixR_yes {n : Nat} {s : Int} (h : sizeB s = true) : fixR n s = fixb n s.toNat := by unfold fixR; rw [if_pos h]
theorem fixR_no {n : Nat} {s : Int} (h : sizeB s = false) : fixR n s = [] := by unfold fixR; rw [if_neg (by simp [h])]
theorem fixR_length (n : Nat) (s : Int) : (fixR n s).length ≤ 8 := by
  by_cases h : sizeB s = true
  · rw [fixR_yes h, fixb_length]
    have hs : s = 4 ∨ s = 8 := by simpa [sizeB] using h
    omega
  · rw [fixR_no (by simpa using h)]; simp

theorem fix_any (n : Nat) (s : Int) (hn : n < 18446744073709551616) (w : World) :
    Calls Try.prog 13 #[.int .u64 n, .int .i64 s] w fun e w' => ∃ A c, e = .returned (.tuple #[.slice A (fixR n s).length c, .bool (sizeB s)]) ∧ SlB w' A c (fixR n s) ∧ Below w.heap.size w w' := by
  by_cases h : sizeB s = true
  · have hs : s = 4 ∨ s = 8 := by simpa [sizeB] using h
    rw [fixR_yes h, h]
    obtain ⟨sn, rfl⟩ := Int.eq_ofNat_of_zero_le (show 0 ≤ s by omega)
    refine (fix_yes n sn (by omega) hn w).mono ?_
    rintro e w' ⟨v, rfl, hown, hb⟩
    rw [← fixb_length sn n] at hown
    obtain ⟨A, c, rfl, hr⟩ := SlB.of_own (l := fixb n sn) (by rw [fixb_length] at hown ⊢; exact hown)
    rw [Int.toNat_natCast]
    exact ⟨A, c, rfl, hr, hb⟩
  · have hf : sizeB s = false := by simpa using h
    rw [fixR_no hf, hf]
    refine (fix_no n s hf w).mono ?_
    rintro e w' ⟨rfl, rfl⟩
    exact ⟨none, 0, rfl, SlB.nil _, Below.refl _ _⟩
theorem rfix_any (n : Nat) (s : Int) (hn : n < 18446744073709551616) (w : World) :
    Calls Try.prog 14 #[.int .u64 n, .int .i64 s] w fun e w' => ∃ A c, e = .returned (.tuple #[.slice A (fixR n s).length c, .bool (sizeB s)]) ∧ SlB w' A c (fixR n s) ∧ Below w.heap.size w w' := by
  by_cases h : sizeB s = true
  · have hs : s = 4 ∨ s = 8 := by simpa [sizeB] using h
    rw [fixR_yes h, h]
    obtain ⟨sn, rfl⟩ := Int.eq_ofNat_of_zero_le (show 0 ≤ s by omega)
    refine (rfix_yes n sn (by omega) hn w).mono ?_
    rintro e w' ⟨v, rfl, hown, hb⟩
    rw [← fixb_length sn n] at hown
    obtain ⟨A, c, rfl, hr⟩ := SlB.of_own (l := fixb n sn) (by rw [fixb_length] at hown ⊢; exact hown)
    rw [Int.toNat_natCast]
    exact ⟨A, c, rfl, hr, hb⟩
  · have hf : sizeB s = false := by simpa using h
    rw [fixR_no hf, hf]
    refine (rfix_no n s hf w).mono ?_
    rintro e w' ⟨rfl, rfl⟩
    exact ⟨none, 0, rfl, SlB.nil _, Below.refl _ _⟩
theorem put_reads (n : Nat) (hn : n < 18446744073709551616) (w : World) :
    Calls Try.prog 18 #[.int .u64 n] w fun e w' => ∃ A c, e = .returned (.slice A (vput n).length c) ∧ SlB w' A c (vput n) ∧ Below w.heap.size w w' := by
  refine (put_any n hn w).mono ?_
  rintro e w' ⟨v, rfl, hown, hb⟩
  obtain ⟨A, c, rfl, hr⟩ := SlB.of_own hown
  exact ⟨A, c, rfl, hr, hb⟩
theorem rput_reads (n : Nat) (hn : n < 18446744073709551616) (w : World) :
    Calls Try.prog 19 #[.int .u64 n] w fun e w' => ∃ A c, e = .returned (.slice A (vput n).length c) ∧ SlB w' A c (vput n) ∧ Below w.heap.size w w' := by
  refine (rput_any n hn w).mono ?_
  rintro e w' ⟨v, rfl, hown, hb⟩
  obtain ⟨A, c, rfl, hr⟩ := SlB.of_own hown
  exact ⟨A, c, rfl, hr, hb⟩
theorem vput_len10 {n : Nat} (hn : n < 18446744073709551616) : (vput n).length ≤ 10 := by rw [vput_length]; exact vlong_le10 hn
end Go.Proofs.Ythmnngojfllahaa
