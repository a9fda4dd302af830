/-
 What goes wrong, but for what ends too soon, goes wrong alike with anything behind; what is right with nothing behind it stays there. (A part of the proof.)
-/
import Derived.Test.YtckcojkpghiclaaGreatDoorLawDecodeFirstE
namespace Go.Proofs.YtckcojkpghiclaaGreatDoor.T11.lawDecodeFirst
set_option maxRecDepth 100000
open Go.ChangeShapes Go.WideShapes Go.ChangeAt Go.RowKit
theorem fct_rec : (Rows.decodeFirstRow.recurses == Tryz.pinned.checked.prog.recurses 4) = true := by kernel_rfl
theorem fct_named : (Rows.decodeFirstRow.named == Tryz.pinned.checked.prog.varsNamed 4) = true := by kernel_rfl
end Go.Proofs.YtckcojkpghiclaaGreatDoor.T11.lawDecodeFirst
