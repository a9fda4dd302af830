/-
  A message without one of its slots is one of it, too; with all of them gone it is normal: the statement TypedLess, for every schema, message's number, message and place. (A part of the proof.)
-/
import Derived.Test.YtggcjdajmbkpiaaGreatDoorLawTypedLessE
namespace Go.Proofs.YtggcjdajmbkpiaaGreatDoor.T9.lawTypedLess
set_option maxRecDepth 100000
open Go.ChangeShapes Go.WideShapes Go.ChangeAt Go.RowKit


theorem fct_rec : (Rows.typedLessRow.recurses == Tryz.pinned.checked.prog.recurses 6) = true := by kernel_rfl
theorem fct_named : (Rows.typedLessRow.named == Tryz.pinned.checked.prog.varsNamed 6) = true := by kernel_rfl
end Go.Proofs.YtggcjdajmbkpiaaGreatDoor.T9.lawTypedLess
