/-
 Facts of the whole program that each statement's closing asks: told once.
-/
import Derived.Test.YtckcojkpghiclaaGreatDoorTrSet
namespace Go.Proofs.YtckcojkpghiclaaGreatDoor.T9
set_option maxRecDepth 100000
open Go.ChangeShapes Go.WideShapes Go.ChangeAt Go.RowKit
theorem fct_laid:laidOutB Tryz.pinned.checked.prog = true:=by kernel_rfl
theorem fct_maps:mapsRowed Tryz.pinned.checked.prog = true:=by kernel_rfl
theorem fct_stops:Tryz.pinned.checked.prog.stops = []:=by kernel_rfl
theorem fct_knobs:Tryz.pinned.checked.prog.stopKnobs = []:=by kernel_rfl
theorem fct_heard:Tryz.pinned.checked.prog.stopsHeard = true:=by kernel_rfl
theorem fct_pk:Tryz.pinned.checked.prog.plainKeys = false:=by kernel_rfl
end Go.Proofs.YtckcojkpghiclaaGreatDoor.T9
