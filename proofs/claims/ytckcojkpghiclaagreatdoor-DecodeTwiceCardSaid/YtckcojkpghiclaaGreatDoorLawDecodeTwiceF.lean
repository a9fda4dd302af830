/-
 Bytes twice,one behind the other,decode to twice as many values of repeated fields,and to the same keys,numbers and texts of others. (A part of the proof.)
-/
import Derived.Test.YtckcojkpghiclaaGreatDoorLawDecodeTwiceE
namespace Go.Proofs.YtckcojkpghiclaaGreatDoor.T11.lawDecodeTwice
set_option maxRecDepth 100000
open Go.ChangeShapes Go.WideShapes Go.ChangeAt Go.RowKit
theorem fct_rec:(Rows.decodeTwiceRow.recurses == Tryz.pinned.checked.prog.recurses 8) = true:=by kernel_rfl
theorem fct_named:(Rows.decodeTwiceRow.named == Tryz.pinned.checked.prog.varsNamed 8) = true:=by kernel_rfl
end Go.Proofs.YtckcojkpghiclaaGreatDoor.T11.lawDecodeTwice
