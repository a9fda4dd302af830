/-
  What is normal is of its message, and normal again is the same; it is no deeper, and has no more values: the statement TypedNormal, for every schema, message's number and message. (A part of the proof.)
-/
import Derived.Test.YtggcjdajmbkpiaaGreatDoorLawTypedNormalE
namespace Go.Proofs.YtggcjdajmbkpiaaGreatDoor.T9.lawTypedNormal
set_option maxRecDepth 100000
open Go.ChangeShapes Go.WideShapes Go.ChangeAt Go.RowKit


theorem fct_rec : (Rows.typedNormalRow.recurses == Tryz.pinned.checked.prog.recurses 4) = true := by kernel_rfl
theorem fct_named : (Rows.typedNormalRow.named == Tryz.pinned.checked.prog.varsNamed 4) = true := by kernel_rfl
end Go.Proofs.YtggcjdajmbkpiaaGreatDoor.T9.lawTypedNormal
