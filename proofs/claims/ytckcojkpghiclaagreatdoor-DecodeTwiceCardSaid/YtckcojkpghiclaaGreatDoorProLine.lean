/-
 A field is read: the contract.
-/
import Derived.Test.YtckcojkpghiclaaGreatDoorProTake
import Derived.Deep.RegionLaw
import Derived.Test.YtckcojkpghiclaaGreatDoorTokSkip
import Derived.Test.YtckcojkpghiclaaGreatDoorConvRules
import Derived.Lib.AppendStr
namespace Go.Proofs.YtckcojkpghiclaaGreatDoor
set_option maxRecDepth 100000
open Go.RowKit
theorem heap_second (w:World) (o o':Obj):((w.alloc o).alloc o').heap[w.heap.size + 1]? = some o':=by
 have:=heap_alloc_new (w.alloc o) o'
 simpa using this
def strv (l:List (List UInt8)):List Value:=l.map fun x=>.string (txt x)
def intv (l:List Int):List Value:=l.map fun n=>.int .i64 n
theorem infoStrs:(Tryz.prog.info? 9).map (fun i=>(i.zero,i.size,i.bytes)) = some (some (.string ⟨#[]⟩),1,16):=by kernel_rfl
end Go.Proofs.YtckcojkpghiclaaGreatDoor
