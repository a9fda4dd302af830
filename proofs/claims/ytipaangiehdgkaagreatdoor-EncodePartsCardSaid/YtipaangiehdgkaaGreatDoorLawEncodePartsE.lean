/-
  A message's bytes are those of its slots, each alone, one behind the other, if it is normal. (A part of the proof.)
-/
import Derived.Test.YtipaangiehdgkaaGreatDoorFctD
namespace Go.Proofs.YtipaangiehdgkaaGreatDoor.T12.lawEncodeParts
set_option maxRecDepth 100000

open Go.ChangeShapes Go.WideShapes Go.ChangeAt Go.RowKit

theorem fct_inPlace : (Rows.encodePartsRow.inPlace == Tryz.pinned.checked.prog.inPlace 5) = true := by kernel_rfl
theorem fct_unf : (Rows.encodePartsRow.unfollowed == Tryz.pinned.checked.prog.unfollowed 5) = true := by kernel_rfl

end Go.Proofs.YtipaangiehdgkaaGreatDoor.T12.lawEncodeParts
