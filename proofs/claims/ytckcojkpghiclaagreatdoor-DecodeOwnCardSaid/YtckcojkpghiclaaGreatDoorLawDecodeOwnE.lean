/-
 What is told hangs on the bytes as they are, and changes nothing of them. (A part of the proof.)
-/
import Derived.Test.YtckcojkpghiclaaGreatDoorFctD
namespace Go.Proofs.YtckcojkpghiclaaGreatDoor.T11.lawDecodeOwn
set_option maxRecDepth 100000
open Go.ChangeShapes Go.WideShapes Go.ChangeAt Go.RowKit
theorem fct_inPlace : (Rows.decodeOwnRow.inPlace == Tryz.pinned.checked.prog.inPlace 7) = true := by kernel_rfl
theorem fct_unf : (Rows.decodeOwnRow.unfollowed == Tryz.pinned.checked.prog.unfollowed 7) = true := by kernel_rfl
end Go.Proofs.YtckcojkpghiclaaGreatDoor.T11.lawDecodeOwn
