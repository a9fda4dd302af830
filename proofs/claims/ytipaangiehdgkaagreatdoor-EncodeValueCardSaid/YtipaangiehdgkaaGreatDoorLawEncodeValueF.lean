/-
  A value's bytes are one record, of its number; of a field that has one, or repeated ones that are no numbers, the message's that has just that value, unless it goes without saying. (A part of the proof.)
-/
import Derived.Test.YtipaangiehdgkaaGreatDoorLawEncodeValueE
namespace Go.Proofs.YtipaangiehdgkaaGreatDoor.T12.lawEncodeValue
set_option maxRecDepth 100000

open Go.ChangeShapes Go.WideShapes Go.ChangeAt Go.RowKit

theorem fct_rec : (Rows.encodeValueRow.recurses == Tryz.pinned.checked.prog.recurses 6) = true := by kernel_rfl
theorem fct_named : (Rows.encodeValueRow.named == Tryz.pinned.checked.prog.varsNamed 6) = true := by kernel_rfl

end Go.Proofs.YtipaangiehdgkaaGreatDoor.T12.lawEncodeValue
