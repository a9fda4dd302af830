/-
 A fact of the whole program that each statement's closing asks: told once.
-/
import Derived.Test.YtckcojkpghiclaaGreatDoorTrSet
namespace Go.Proofs.YtckcojkpghiclaaGreatDoor.T9
set_option maxRecDepth 100000
open Go.ChangeShapes Go.WideShapes Go.ChangeAt Go.RowKit
theorem fct_enter:Tryz.pinned.checked.prog.mayEnter = true:=by kernel_rfl
end Go.Proofs.YtckcojkpghiclaaGreatDoor.T9
