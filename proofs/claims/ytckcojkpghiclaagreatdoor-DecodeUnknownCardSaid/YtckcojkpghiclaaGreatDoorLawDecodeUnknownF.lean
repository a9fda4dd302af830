/-
 Records of numbers that no field has change nothing, wherever they stand between records. (A part of the proof.)
-/
import Derived.Test.YtckcojkpghiclaaGreatDoorLawDecodeUnknownE
namespace Go.Proofs.YtckcojkpghiclaaGreatDoor.T11.lawDecodeUnknown
set_option maxRecDepth 100000
open Go.ChangeShapes Go.WideShapes Go.ChangeAt Go.RowKit
theorem fct_rec : (Rows.decodeUnknownRow.recurses == Tryz.pinned.checked.prog.recurses 5) = true := by kernel_rfl
theorem fct_named : (Rows.decodeUnknownRow.named == Tryz.pinned.checked.prog.varsNamed 5) = true := by kernel_rfl
end Go.Proofs.YtckcojkpghiclaaGreatDoor.T11.lawDecodeUnknown
