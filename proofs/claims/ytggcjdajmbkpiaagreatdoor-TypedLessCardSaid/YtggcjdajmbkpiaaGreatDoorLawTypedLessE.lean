/-
  A message without one of its slots is one of it, too; with all of them gone it is normal: the statement TypedLess, for every schema, message's number, message and place. (A part of the proof.)
-/
import Derived.Test.YtggcjdajmbkpiaaGreatDoorFctD
namespace Go.Proofs.YtggcjdajmbkpiaaGreatDoor.T9.lawTypedLess
set_option maxRecDepth 100000
open Go.ChangeShapes Go.WideShapes Go.ChangeAt Go.RowKit


theorem fct_inPlace : (Rows.typedLessRow.inPlace == Tryz.pinned.checked.prog.inPlace 6) = true := by kernel_rfl
theorem fct_unf : (Rows.typedLessRow.unfollowed == Tryz.pinned.checked.prog.unfollowed 6) = true := by kernel_rfl
end Go.Proofs.YtggcjdajmbkpiaaGreatDoor.T9.lawTypedLess
