/-
  The contracts of the functions that put a number of seven bits a byte: what is answered reads as a list.
-/
import Derived.Test.YtpaggpcpflmpcaaDoorVarRput
namespace Go.Proofs.YtpaggpcpflmpcaaDoor
open Go.RowKit

theorem put_reads (n : Nat) (hn : n < 18446744073709551616) (w : World) :
    Calls Tryd.prog 26 #[.int .u64 n] w fun e w' => ∃ A c, e = .returned (.slice A (vput n).length c) ∧ SlB w' A c (vput n) ∧ Below w.heap.size w w' := by
  refine (put_any n hn w).mono ?_
  rintro e w' ⟨v, rfl, hown, hb⟩
  obtain ⟨A, c, rfl, hr⟩ := SlB.of_own hown
  exact ⟨A, c, rfl, hr, hb⟩
theorem rput_reads (n : Nat) (hn : n < 18446744073709551616) (w : World) :
    Calls Tryd.prog 29 #[.int .u64 n] w fun e w' => ∃ A c, e = .returned (.slice A (vput n).length c) ∧ SlB w' A c (vput n) ∧ Below w.heap.size w w' := by
  refine (rput_any n hn w).mono ?_
  rintro e w' ⟨v, rfl, hown, hb⟩
  obtain ⟨A, c, rfl, hr⟩ := SlB.of_own hown
  exact ⟨A, c, rfl, hr, hb⟩
theorem vput_len10 {n : Nat} (hn : n < 18446744073709551616) : (vput n).length ≤ 10 := by rw [vput_length]; exact vlong_le10 hn
end Go.Proofs.YtpaggpcpflmpcaaDoor
