/-
 A message of a schema is encoded,and decoded as what it is when it is normal. (A part of the proof.)
-/
import Derived.Test.YtckcojkpghiclaaGreatDoorLawEncodeBackA
namespace Go.Proofs.YtckcojkpghiclaaGreatDoor.T12.lawEncodeBack
set_option maxRecDepth 100000
open Go.ChangeShapes Go.WideShapes Go.ChangeAt Go.RowKit
open Go.Proofs.YtckcojkpghiclaaGreatDoor.T9 Go.Proofs.YtckcojkpghiclaaGreatDoor.T4
theorem laid_met (os:Os):laidMetH Tryz.prog Rows.encodeBackRow.laid ((World.laidAll Tryz.prog os Rows.encodeBackRow.laid).forCall (fun _ _=>0) ⟨#[],#[.agg #[.slice none 0 0,.slice none 0 0],.int .i64 0,.agg #[.slice none 0 0]],[]⟩).memory:=by
 rw [MakeChecks.laidMetH_plain _ _ _ (by kernel_rfl)]
 exact laidMet_laidAll _ (by kernel_rfl) (by kernel_rfl)
theorem reads (os:Os) {H:Type} (enc:TypeId × Value→H):∃ places,DataW.whole enc Tryz.prog ((World.laidAll Tryz.prog os Rows.encodeBackRow.laid).forCall (fun _ _=>0) ⟨#[],#[.agg #[.slice none 0 0,.slice none 0 0],.int .i64 0,.agg #[.slice none 0 0]],[]⟩).memory Tryz.f10.params.toList Rows.encodeBackSpec.vars false (#[.agg #[.slice none 0 0,.slice none 0 0],.int .i64 0,.agg #[.slice none 0 0]]:Array Value).toList 8 = some ([.agg [.nil,.nil],.lit (.int .i64 0),.agg [.nil]],[],places):=⟨[],by kernel_rfl⟩
set_option maxRecDepth 100000 in
theorem lifted (os:Os) (started:os.Started) (H:Type) (enc:TypeId × Value→H) (F:Stop.Interp) :
  ReturnsInHanded {} Tryz.checked os 10 .any ((OpenSpec.ofChange Rows.encodeBackSpec).preRow enc Tryz.prog Tryz.f10 Rows.encodeBackRow.domain false Rows.encodeBackRow.laid) (((OpenSpec.ofChange Rows.encodeBackSpec).at F).post enc Tryz.prog Tryz.f10 false true false false):=by
 obtain ⟨places,hx⟩:=reads os enc
 refine returnsInHanded_of_row (C:=Tryz.checked) (s:=OpenSpec.ofChange Rows.encodeBackSpec) own started (by kernel_rfl) Tryz.func10
  (witness_row_at (enc:=enc) (C:=Tryz.checked) false (World.laidAll Tryz.prog os Rows.encodeBackRow.laid) #[.agg #[.slice none 0 0,.slice none 0 0],.int .i64 0,.agg #[.slice none 0 0]] (World.laidAll_os _ _ _) (by kernel_rfl) (by kernel_rfl) (by kernel_rfl)
   (OpenSpec.preRow_of_cond 8 hx (by kernel_rfl) (fun k hk=>by cases hk) (by kernel_rfl) (laid_met os))) ?_
 intro W base args ds gs before hval hW _ _ hsz hL _ _
 exact contract H enc W base args ds gs before hval hW hsz hL
end Go.Proofs.YtckcojkpghiclaaGreatDoor.T12.lawEncodeBack
