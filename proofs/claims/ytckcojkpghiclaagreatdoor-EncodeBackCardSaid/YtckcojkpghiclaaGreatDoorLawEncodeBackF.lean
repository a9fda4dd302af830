/-
 A message of a schema is encoded,and decoded as what it is when it is normal. (A part of the proof.)
-/
import Derived.Test.YtckcojkpghiclaaGreatDoorLawEncodeBackE
namespace Go.Proofs.YtckcojkpghiclaaGreatDoor.T12.lawEncodeBack
set_option maxRecDepth 100000
open Go.ChangeShapes Go.WideShapes Go.ChangeAt Go.RowKit
theorem fct_rec:(Rows.encodeBackRow.recurses == Tryz.pinned.checked.prog.recurses 10) = true:=by kernel_rfl
theorem fct_named:(Rows.encodeBackRow.named == Tryz.pinned.checked.prog.varsNamed 10) = true:=by kernel_rfl
end Go.Proofs.YtckcojkpghiclaaGreatDoor.T12.lawEncodeBack
