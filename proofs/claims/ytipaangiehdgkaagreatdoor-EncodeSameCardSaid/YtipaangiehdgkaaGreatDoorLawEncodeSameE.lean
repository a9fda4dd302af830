/-
  Messages that are normal as the same have the same bytes; others of one message have others. (A part of the proof.)
-/
import Derived.Test.YtipaangiehdgkaaGreatDoorFctD
namespace Go.Proofs.YtipaangiehdgkaaGreatDoor.T12.lawEncodeSame
set_option maxRecDepth 100000

open Go.ChangeShapes Go.WideShapes Go.ChangeAt Go.RowKit

theorem fct_inPlace : (Rows.encodeSameRow.inPlace == Tryz.pinned.checked.prog.inPlace 4) = true := by kernel_rfl
theorem fct_unf : (Rows.encodeSameRow.unfollowed == Tryz.pinned.checked.prog.unfollowed 4) = true := by kernel_rfl

end Go.Proofs.YtipaangiehdgkaaGreatDoor.T12.lawEncodeSame
