/-
  A message's bytes are those of its slots, each alone, one behind the other, if it is normal. (A part of the proof.)
-/
import Derived.Test.YtipaangiehdgkaaGreatDoorLawEncodePartsE
namespace Go.Proofs.YtipaangiehdgkaaGreatDoor.T12.lawEncodeParts
set_option maxRecDepth 100000

open Go.ChangeShapes Go.WideShapes Go.ChangeAt Go.RowKit

theorem fct_rec : (Rows.encodePartsRow.recurses == Tryz.pinned.checked.prog.recurses 5) = true := by kernel_rfl
theorem fct_named : (Rows.encodePartsRow.named == Tryz.pinned.checked.prog.varsNamed 5) = true := by kernel_rfl

end Go.Proofs.YtipaangiehdgkaaGreatDoor.T12.lawEncodeParts
