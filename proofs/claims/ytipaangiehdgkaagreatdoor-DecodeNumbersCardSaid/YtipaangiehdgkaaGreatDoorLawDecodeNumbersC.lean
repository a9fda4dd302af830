/-
  Numbers one behind the other: what the whole has is what the parts have. (A part of the proof.)
-/
import Derived.Test.YtipaangiehdgkaaGreatDoorLawDecodeNumbersB
import Derived.Test.YtipaangiehdgkaaGreatDoorLawDecodeNumbersF
import Derived.Test.YtipaangiehdgkaaGreatDoorFctA
import Derived.Test.YtipaangiehdgkaaGreatDoorFctB
import Derived.Test.YtipaangiehdgkaaGreatDoorFctC
import Derived.Test.YtipaangiehdgkaaGreatDoorFctD
namespace Go.Proofs.YtipaangiehdgkaaGreatDoor.T11.lawDecodeNumbers
set_option maxRecDepth 100000

open Go.ChangeShapes Go.WideShapes Go.ChangeAt Go.RowKit

open Go.Proofs.YtipaangiehdgkaaGreatDoor.T9 Go.Proofs.YtipaangiehdgkaaGreatDoor.T4

theorem said : Rows.DecodeNumbersSaid :=
  OpenClaim.holds_of_cond 3 Tryz.f3 rfl rfl rfl rfl rfl rfl rfl ⟨rfl, rfl, rfl, rfl, rfl⟩ rfl rfl rfl rfl rfl (by kernel_rfl) Tryz.func3 (by unfold joinedFacts; rw [fct_laid, fct_maps, fct_stops, fct_knobs, fct_heard, fct_enter, fct_lifts, fct_make, fct_pk, fct_inPlace, fct_unf, fct_rec, fct_named]; kernel_rfl)
    (of_decide_eq_true (by kernel_rfl)) (by unfold Func.isWrapper; first | (rw [if_pos (by decide +kernel)]; kernel_rfl) | (rw [if_neg (by decide +kernel)]; exact ⟨rfl, rfl⟩))
    (fun os started H enc _ F => by rw [OpenClaim.pre_eq_preRow]; exact lifted os started H enc F)


end Go.Proofs.YtipaangiehdgkaaGreatDoor.T11.lawDecodeNumbers
