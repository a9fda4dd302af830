/-
  The chapter's examples.
-/
import Derived.Test.YtjdegbfmalcepaaConvRules
namespace Go.Proofs.Ytjdegbfmalcepaa
open Go.RowKit

theorem awake_any (w : World) : Calls Try.prog 9 #[] w fun e w' => e = .returned (.bool true) ∧ Below w.heap.size w w' := by
  have o1 : ofI 1 3 = -2 := by decide
  have o2 : ofI 6 4294967295 = -1 := by decide
  have c1 : cnt 1 = true := by decide
  have c2 : cnt 6 = true := by decide
  have v1 : wireI 5 = 1 := by decide
  go_enter Try.func9, Try.ntmps9
  go_wp2_with fail
  refine (of_any 1 3 (by omega) (by omega) _).mono ?_
  rw [o1, c1]
  rintro e w1 ⟨rfl, hb1⟩
  go_wp2_with fail
  refine (of_any 6 4294967295 (by omega) (by omega) _).mono ?_
  rw [o2, c2]
  rintro e w2 ⟨rfl, hb2⟩
  go_wp2_with fail
  refine (wire_any 5 _).mono ?_
  rw [v1]
  rintro e w3 ⟨rfl, hb3⟩
  go_wp2
  go_ret
  exact ⟨rfl, below_then (below_then hb1 hb2) hb3⟩
end Go.Proofs.Ytjdegbfmalcepaa
