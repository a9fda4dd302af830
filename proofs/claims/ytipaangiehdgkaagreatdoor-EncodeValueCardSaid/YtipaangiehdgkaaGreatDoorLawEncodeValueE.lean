/-
  A value's bytes are one record, of its number; of a field that has one, or repeated ones that are no numbers, the message's that has just that value, unless it goes without saying. (A part of the proof.)
-/
import Derived.Test.YtipaangiehdgkaaGreatDoorFctD
namespace Go.Proofs.YtipaangiehdgkaaGreatDoor.T12.lawEncodeValue
set_option maxRecDepth 100000

open Go.ChangeShapes Go.WideShapes Go.ChangeAt Go.RowKit

theorem fct_inPlace : (Rows.encodeValueRow.inPlace == Tryz.pinned.checked.prog.inPlace 6) = true := by kernel_rfl
theorem fct_unf : (Rows.encodeValueRow.unfollowed == Tryz.pinned.checked.prog.unfollowed 6) = true := by kernel_rfl

end Go.Proofs.YtipaangiehdgkaaGreatDoor.T12.lawEncodeValue
