/-
  Numbers one behind the other: what the whole has is what the parts have. (A part of the proof.)
-/
import Derived.Test.YtipaangiehdgkaaGreatDoorFctD
namespace Go.Proofs.YtipaangiehdgkaaGreatDoor.T11.lawDecodeNumbers
set_option maxRecDepth 100000

open Go.ChangeShapes Go.WideShapes Go.ChangeAt Go.RowKit

theorem fct_inPlace : (Rows.decodeNumbersRow.inPlace == Tryz.pinned.checked.prog.inPlace 3) = true := by kernel_rfl
theorem fct_unf : (Rows.decodeNumbersRow.unfollowed == Tryz.pinned.checked.prog.unfollowed 3) = true := by kernel_rfl

end Go.Proofs.YtipaangiehdgkaaGreatDoor.T11.lawDecodeNumbers
