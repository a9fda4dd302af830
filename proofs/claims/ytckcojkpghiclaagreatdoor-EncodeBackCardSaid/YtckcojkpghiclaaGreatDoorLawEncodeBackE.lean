/-
 A message of a schema is encoded,and decoded as what it is when it is normal. (A part of the proof.)
-/
import Derived.Test.YtckcojkpghiclaaGreatDoorFctD
namespace Go.Proofs.YtckcojkpghiclaaGreatDoor.T12.lawEncodeBack
set_option maxRecDepth 100000
open Go.ChangeShapes Go.WideShapes Go.ChangeAt Go.RowKit
theorem fct_inPlace:(Rows.encodeBackRow.inPlace == Tryz.pinned.checked.prog.inPlace 10) = true:=by kernel_rfl
theorem fct_unf:(Rows.encodeBackRow.unfollowed == Tryz.pinned.checked.prog.unfollowed 10) = true:=by kernel_rfl
end Go.Proofs.YtckcojkpghiclaaGreatDoor.T12.lawEncodeBack
