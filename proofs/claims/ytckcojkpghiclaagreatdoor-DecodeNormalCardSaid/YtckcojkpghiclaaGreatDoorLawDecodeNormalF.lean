/-
 What is told is of its message, normal, and at most 64 deep; with an error nothing is. (A part of the proof.)
-/
import Derived.Test.YtckcojkpghiclaaGreatDoorLawDecodeNormalE
namespace Go.Proofs.YtckcojkpghiclaaGreatDoor.T11.lawDecodeNormal
set_option maxRecDepth 100000
open Go.ChangeShapes Go.WideShapes Go.ChangeAt Go.RowKit
theorem fct_rec : (Rows.decodeNormalRow.recurses == Tryz.pinned.checked.prog.recurses 3) = true := by kernel_rfl
theorem fct_named : (Rows.decodeNormalRow.named == Tryz.pinned.checked.prog.varsNamed 3) = true := by kernel_rfl
end Go.Proofs.YtckcojkpghiclaaGreatDoor.T11.lawDecodeNormal
