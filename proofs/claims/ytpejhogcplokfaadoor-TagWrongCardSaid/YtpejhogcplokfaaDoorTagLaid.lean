/-
  From the condition of a statement's row (the table of wire types is laid as the program's text lays it) to what the contracts ask.
-/
import Derived.Test.YtpejhogcplokfaaDoorTied
import Derived.Test.YtpejhogcplokfaaDoorTagAwake
namespace Go.Proofs.YtpejhogcplokfaaDoor
open Go.RowKit

theorem wires_of {W : World} (h : laidMetH Tryd.prog [("truffle/tag.wires", Rows.laid_truffle_tag_wires)] W) : Wires W := by
  have g : Tryd.prog.globalNamed "truffle/tag.wires" = some 0 := by kernel_rfl
  have ht : (Tryd.prog.globals[0]?).map (·.type) = some 43 := by kernel_rfl
  have c1 : Tryd.prog.cellsOf 43 = 4 := by kernel_rfl
  have c2 : Tryd.prog.cellsOf 3 = 1 := by kernel_rfl
  have hT : Lib.TabIs Tryd.prog W "truffle/tag.wires" .i64 [0, 1, 2, 5] := Lib.tabIs_of_head (rest := []) g ht Tryd.underlying43 Tryd.underlying3 c2 c1 h
  exact TabAt.of_var g hT
end Go.Proofs.YtpejhogcplokfaaDoor
