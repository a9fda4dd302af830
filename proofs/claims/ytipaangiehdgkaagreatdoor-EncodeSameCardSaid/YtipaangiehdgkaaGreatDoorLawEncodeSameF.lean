/-
  Messages that are normal as the same have the same bytes; others of one message have others. (A part of the proof.)
-/
import Derived.Test.YtipaangiehdgkaaGreatDoorLawEncodeSameE
namespace Go.Proofs.YtipaangiehdgkaaGreatDoor.T12.lawEncodeSame
set_option maxRecDepth 100000

open Go.ChangeShapes Go.WideShapes Go.ChangeAt Go.RowKit

theorem fct_rec : (Rows.encodeSameRow.recurses == Tryz.pinned.checked.prog.recurses 4) = true := by kernel_rfl
theorem fct_named : (Rows.encodeSameRow.named == Tryz.pinned.checked.prog.varsNamed 4) = true := by kernel_rfl

end Go.Proofs.YtipaangiehdgkaaGreatDoor.T12.lawEncodeSame
