/-
  Numbers one behind the other: what the whole has is what the parts have. (A part of the proof.)
-/
import Derived.Test.YtipaangiehdgkaaGreatDoorLawDecodeNumbersE
namespace Go.Proofs.YtipaangiehdgkaaGreatDoor.T11.lawDecodeNumbers
set_option maxRecDepth 100000

open Go.ChangeShapes Go.WideShapes Go.ChangeAt Go.RowKit

theorem fct_rec : (Rows.decodeNumbersRow.recurses == Tryz.pinned.checked.prog.recurses 3) = true := by kernel_rfl
theorem fct_named : (Rows.decodeNumbersRow.named == Tryz.pinned.checked.prog.varsNamed 3) = true := by kernel_rfl

end Go.Proofs.YtipaangiehdgkaaGreatDoor.T11.lawDecodeNumbers
