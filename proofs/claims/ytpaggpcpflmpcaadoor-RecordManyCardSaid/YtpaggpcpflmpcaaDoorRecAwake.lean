/-
  The chapter's example holds: the contract of the function that every statement of this layer asks first; and what is laid.
-/
import Derived.Test.YtpaggpcpflmpcaaDoorRecAll
import Derived.Test.YtpaggpcpflmpcaaDoorRecOpen
import Derived.Test.YtpaggpcpflmpcaaDoorVarBytes
import Derived.Test.YtpaggpcpflmpcaaDoorSized
import Derived.Test.YtpaggpcpflmpcaaDoorTied
namespace Go.Proofs.YtpaggpcpflmpcaaDoor
open Go.RowKit

theorem next300 : nextR [8, 172, 2] 0 3 = (⟨1, 0, 300, 1, 3⟩, 3, 0) := by decide +kernel
set_option maxRecDepth 100000 in
theorem awake_any (w : World) (T : Wires w) : Calls Tryd.prog 9 #[] w fun e w' => e = .returned (.bool true) ∧ Below w.heap.size w w' := by
  go_enter Tryd.func9, Tryd.ntmps9
  go_wp2_with fail
  refine (next_any _ _ [8, 172, 2] 0 3 (by simp) _ (lit_reads _ [8, 172, 2] (by simp)) (T.on (below_new _ _))).mono ?_
  rw [next300]
  rintro e w1 ⟨rfl, hb⟩
  unfold NV RV
  go_wp2
  go_ret
  exact ⟨rfl, below_lit (below_then (below_new _ _) hb) _⟩

theorem wires_of {W : World} (h : laidMetH Tryd.prog [("truffle/tag.wires", Rows.laid_truffle_tag_wires)] W) : Wires W := by
  have g : Tryd.prog.globalNamed "truffle/tag.wires" = some 0 := by kernel_rfl
  have ht : (Tryd.prog.globals[0]?).map (·.type) = some 63 := by kernel_rfl
  have c1 : Tryd.prog.cellsOf 63 = 4 := by kernel_rfl
  have c2 : Tryd.prog.cellsOf 3 = 1 := by kernel_rfl
  have hT : Lib.TabIs Tryd.prog W "truffle/tag.wires" .i64 [0, 1, 2, 5] := Lib.tabIs_of_head (rest := []) g ht Tryd.underlying63 Tryd.underlying3 c2 c1 h
  exact TabAt.of_var g hT
end Go.Proofs.YtpaggpcpflmpcaaDoor
