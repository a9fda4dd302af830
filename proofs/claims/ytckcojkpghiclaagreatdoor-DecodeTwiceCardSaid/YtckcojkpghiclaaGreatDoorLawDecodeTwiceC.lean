/-
 Bytes twice,one behind the other,decode to twice as many values of repeated fields,and to the same keys,numbers and texts of others. (A part of the proof.)
-/
import Derived.Test.YtckcojkpghiclaaGreatDoorLawDecodeTwiceB
import Derived.Test.YtckcojkpghiclaaGreatDoorLawDecodeTwiceF
import Derived.Test.YtckcojkpghiclaaGreatDoorFctA
import Derived.Test.YtckcojkpghiclaaGreatDoorFctB
import Derived.Test.YtckcojkpghiclaaGreatDoorFctC
import Derived.Test.YtckcojkpghiclaaGreatDoorFctD
namespace Go.Proofs.YtckcojkpghiclaaGreatDoor.T11.lawDecodeTwice
set_option maxRecDepth 100000
open Go.ChangeShapes Go.WideShapes Go.ChangeAt Go.RowKit
open Go.Proofs.YtckcojkpghiclaaGreatDoor.T9 Go.Proofs.YtckcojkpghiclaaGreatDoor.T4
theorem said:Rows.DecodeTwiceSaid :=
 OpenClaim.holds_of_cond 8 Tryz.f8 rfl rfl rfl rfl rfl rfl rfl ⟨rfl,rfl,rfl,rfl,rfl⟩ rfl rfl rfl rfl rfl (by kernel_rfl) Tryz.func8 (by unfold joinedFacts; rw [fct_laid,fct_maps,fct_stops,fct_knobs,fct_heard,fct_enter,fct_lifts,fct_make,fct_pk,fct_inPlace,fct_unf,fct_rec,fct_named]; kernel_rfl)
  (of_decide_eq_true (by kernel_rfl)) (by unfold Func.isWrapper; first | (rw [if_pos (by decide +kernel)]; kernel_rfl) | (rw [if_neg (by decide +kernel)]; exact ⟨rfl,rfl⟩))
  (fun os started H enc _ F=>by rw [OpenClaim.pre_eq_preRow]; exact lifted os started H enc F)
end Go.Proofs.YtckcojkpghiclaaGreatDoor.T11.lawDecodeTwice
