/-
 Records of numbers that no field has change nothing, wherever they stand between records. (A part of the proof.)
-/
import Derived.Test.YtckcojkpghiclaaGreatDoorFctD
namespace Go.Proofs.YtckcojkpghiclaaGreatDoor.T11.lawDecodeUnknown
set_option maxRecDepth 100000
open Go.ChangeShapes Go.WideShapes Go.ChangeAt Go.RowKit
theorem fct_inPlace : (Rows.decodeUnknownRow.inPlace == Tryz.pinned.checked.prog.inPlace 5) = true := by kernel_rfl
theorem fct_unf : (Rows.decodeUnknownRow.unfollowed == Tryz.pinned.checked.prog.unfollowed 5) = true := by kernel_rfl
end Go.Proofs.YtckcojkpghiclaaGreatDoor.T11.lawDecodeUnknown
