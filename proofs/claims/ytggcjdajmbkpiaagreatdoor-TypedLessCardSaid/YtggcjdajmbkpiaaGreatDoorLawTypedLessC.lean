/-
  A message without one of its slots is one of it, too; with all of them gone it is normal: the statement TypedLess, for every schema, message's number, message and place. (A part of the proof.)
-/
import Derived.Test.YtggcjdajmbkpiaaGreatDoorLawTypedLessB
import Derived.Test.YtggcjdajmbkpiaaGreatDoorLawTypedLessF
import Derived.Test.YtggcjdajmbkpiaaGreatDoorFctA
import Derived.Test.YtggcjdajmbkpiaaGreatDoorFctB
import Derived.Test.YtggcjdajmbkpiaaGreatDoorFctC
import Derived.Test.YtggcjdajmbkpiaaGreatDoorFctD
namespace Go.Proofs.YtggcjdajmbkpiaaGreatDoor.T9.lawTypedLess
set_option maxRecDepth 100000
open Go.ChangeShapes Go.WideShapes Go.ChangeAt Go.RowKit
open Go.Proofs.YtggcjdajmbkpiaaGreatDoor.T4

theorem said : Rows.TypedLessSaid :=
  OpenClaim.holds_of_cond 6 Tryz.f6 rfl rfl rfl rfl rfl rfl rfl ⟨rfl, rfl, rfl, rfl, rfl⟩ rfl rfl rfl rfl rfl (by kernel_rfl) Tryz.func6 (by unfold joinedFacts; rw [fct_laid, fct_maps, fct_stops, fct_knobs, fct_heard, fct_enter, fct_lifts, fct_make, fct_pk, fct_inPlace, fct_unf, fct_rec, fct_named]; kernel_rfl)
    (of_decide_eq_true (by kernel_rfl)) (by unfold Func.isWrapper; first | (rw [if_pos (by decide +kernel)]; kernel_rfl) | (rw [if_neg (by decide +kernel)]; exact ⟨rfl, rfl⟩))
    (fun os started H enc _ F => by rw [OpenClaim.pre_eq_preRow]; exact lifted os started H enc F)

end Go.Proofs.YtggcjdajmbkpiaaGreatDoor.T9.lawTypedLess
