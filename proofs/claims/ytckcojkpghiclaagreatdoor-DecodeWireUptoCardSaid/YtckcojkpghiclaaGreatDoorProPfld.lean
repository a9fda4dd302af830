/-
 A message as it is read: its block and its rows; items of one field: the contracts.
-/
import Derived.Test.YtckcojkpghiclaaGreatDoorProField
import Derived.Deep.RegionLaw
import Derived.Test.YtckcojkpghiclaaGreatDoorTokSmall
import Derived.Test.YtckcojkpghiclaaGreatDoorConvSmall
import Derived.Lib.AppendStr
import Derived.Deep.RegionHeld3
namespace Go.Proofs.YtckcojkpghiclaaGreatDoor
set_option maxRecDepth 100000
open Go.RowKit
def strv (l:List (List UInt8)):List Value:=l.map fun x=>.string (txt x)
def intv (l:List Int):List Value:=l.map fun n=>.int .i64 n
theorem infoStrs:(Tryz.prog.info? 9).map (fun i=>(i.zero,i.size,i.bytes)) = some (some (.string ⟨#[]⟩),1,16):=by kernel_rfl
end Go.Proofs.YtckcojkpghiclaaGreatDoor
