/-
 What is told hangs on the bytes as they are, and changes nothing of them. (A part of the proof.)
-/
import Derived.Test.YtckcojkpghiclaaGreatDoorLawDecodeOwnE
namespace Go.Proofs.YtckcojkpghiclaaGreatDoor.T11.lawDecodeOwn
set_option maxRecDepth 100000
open Go.ChangeShapes Go.WideShapes Go.ChangeAt Go.RowKit
theorem fct_rec : (Rows.decodeOwnRow.recurses == Tryz.pinned.checked.prog.recurses 7) = true := by kernel_rfl
theorem fct_named : (Rows.decodeOwnRow.named == Tryz.pinned.checked.prog.varsNamed 7) = true := by kernel_rfl
end Go.Proofs.YtckcojkpghiclaaGreatDoor.T11.lawDecodeOwn
