/-
 A record of a field,of a wire type that is not its kind's,goes wrong so,behind whatever decodes,unless it is a run of repeated numbers; where what is read is of bulk at most 1048576. (A part of the proof.)
-/
import Derived.Test.YtckcojkpghiclaaGreatDoorLawDecodeWireB
import Derived.Test.YtckcojkpghiclaaGreatDoorLawDecodeWireF
import Derived.Test.YtckcojkpghiclaaGreatDoorFctA
import Derived.Test.YtckcojkpghiclaaGreatDoorFctB
import Derived.Test.YtckcojkpghiclaaGreatDoorFctC
import Derived.Test.YtckcojkpghiclaaGreatDoorFctD
namespace Go.Proofs.YtckcojkpghiclaaGreatDoor.T11.lawDecodeWire
set_option maxRecDepth 100000
open Go.ChangeShapes Go.WideShapes Go.ChangeAt Go.RowKit
open Go.Proofs.YtckcojkpghiclaaGreatDoor.T9 Go.Proofs.YtckcojkpghiclaaGreatDoor.T4
theorem said:Rows.DecodeWireUptoSaid :=
 OpenClaim.holds_of_cond 9 Tryz.f9 rfl rfl rfl rfl rfl rfl rfl ⟨rfl,rfl,rfl,rfl,rfl⟩ rfl rfl rfl rfl rfl (by kernel_rfl) Tryz.func9 (by unfold joinedFacts; rw [fct_laid,fct_maps,fct_stops,fct_knobs,fct_heard,fct_enter,fct_lifts,fct_make,fct_pk,fct_inPlace,fct_unf,fct_rec,fct_named]; kernel_rfl)
  (of_decide_eq_true (by kernel_rfl)) (by unfold Func.isWrapper; first | (rw [if_pos (by decide +kernel)]; kernel_rfl) | (rw [if_neg (by decide +kernel)]; exact ⟨rfl,rfl⟩))
  (fun os started H enc _ F=>by rw [OpenClaim.pre_eq_preRow]; exact lifted os started H enc F)
end Go.Proofs.YtckcojkpghiclaaGreatDoor.T11.lawDecodeWire
