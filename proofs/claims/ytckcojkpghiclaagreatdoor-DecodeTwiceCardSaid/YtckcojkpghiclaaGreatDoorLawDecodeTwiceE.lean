/-
 Bytes twice,one behind the other,decode to twice as many values of repeated fields,and to the same keys,numbers and texts of others. (A part of the proof.)
-/
import Derived.Test.YtckcojkpghiclaaGreatDoorFctD
namespace Go.Proofs.YtckcojkpghiclaaGreatDoor.T11.lawDecodeTwice
set_option maxRecDepth 100000
open Go.ChangeShapes Go.WideShapes Go.ChangeAt Go.RowKit
theorem fct_inPlace:(Rows.decodeTwiceRow.inPlace == Tryz.pinned.checked.prog.inPlace 8) = true:=by kernel_rfl
theorem fct_unf:(Rows.decodeTwiceRow.unfollowed == Tryz.pinned.checked.prog.unfollowed 8) = true:=by kernel_rfl
end Go.Proofs.YtckcojkpghiclaaGreatDoor.T11.lawDecodeTwice
