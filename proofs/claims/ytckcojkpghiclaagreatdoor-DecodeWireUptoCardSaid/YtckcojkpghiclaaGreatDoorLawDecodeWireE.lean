/-
 A record of a field,of a wire type that is not its kind's,goes wrong so,behind whatever decodes,unless it is a run of repeated numbers; where what is read is of bulk at most 1048576. (A part of the proof.)
-/
import Derived.Test.YtckcojkpghiclaaGreatDoorFctD
namespace Go.Proofs.YtckcojkpghiclaaGreatDoor.T11.lawDecodeWire
set_option maxRecDepth 100000
open Go.ChangeShapes Go.WideShapes Go.ChangeAt Go.RowKit
theorem fct_inPlace:(Rows.decodeWireUptoRow.inPlace == Tryz.pinned.checked.prog.inPlace 9) = true:=by kernel_rfl
theorem fct_unf:(Rows.decodeWireUptoRow.unfollowed == Tryz.pinned.checked.prog.unfollowed 9) = true:=by kernel_rfl
end Go.Proofs.YtckcojkpghiclaaGreatDoor.T11.lawDecodeWire
