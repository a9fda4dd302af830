/-
 Bytes that decode are encoded,and decode again,as the same message; encoded once more they are the same bytes. (A part of the proof.)
-/
import Derived.Test.YtckcojkpghiclaaGreatDoorFctD
namespace Go.Proofs.YtckcojkpghiclaaGreatDoor.T12.lawEncodeAgain
set_option maxRecDepth 100000
open Go.ChangeShapes Go.WideShapes Go.ChangeAt Go.RowKit
theorem fct_inPlace:(Rows.encodeAgainRow.inPlace == Tryz.pinned.checked.prog.inPlace 11) = true:=by kernel_rfl
theorem fct_unf:(Rows.encodeAgainRow.unfollowed == Tryz.pinned.checked.prog.unfollowed 11) = true:=by kernel_rfl
end Go.Proofs.YtckcojkpghiclaaGreatDoor.T12.lawEncodeAgain
