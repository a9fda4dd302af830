/-
 Bytes that decode are encoded,and decode again,as the same message; encoded once more they are the same bytes. (A part of the proof.)
-/
import Derived.Test.YtckcojkpghiclaaGreatDoorLawEncodeAgainE
namespace Go.Proofs.YtckcojkpghiclaaGreatDoor.T12.lawEncodeAgain
set_option maxRecDepth 100000
open Go.ChangeShapes Go.WideShapes Go.ChangeAt Go.RowKit
theorem fct_rec:(Rows.encodeAgainRow.recurses == Tryz.pinned.checked.prog.recurses 11) = true:=by kernel_rfl
theorem fct_named:(Rows.encodeAgainRow.named == Tryz.pinned.checked.prog.varsNamed 11) = true:=by kernel_rfl
end Go.Proofs.YtckcojkpghiclaaGreatDoor.T12.lawEncodeAgain
