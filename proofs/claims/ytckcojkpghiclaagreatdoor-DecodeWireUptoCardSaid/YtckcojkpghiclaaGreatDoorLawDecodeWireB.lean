/-
 A record of a field,of a wire type that is not its kind's,goes wrong so,behind whatever decodes,unless it is a run of repeated numbers; where what is read is of bulk at most 1048576. (A part of the proof.)
-/
import Derived.Test.YtckcojkpghiclaaGreatDoorLawDecodeWireA
namespace Go.Proofs.YtckcojkpghiclaaGreatDoor.T11.lawDecodeWire
set_option maxRecDepth 100000
open Go.ChangeShapes Go.WideShapes Go.ChangeAt Go.RowKit
open Go.Proofs.YtckcojkpghiclaaGreatDoor.T9 Go.Proofs.YtckcojkpghiclaaGreatDoor.T4
theorem laid_met (os:Os):laidMetH Tryz.prog Rows.decodeWireUptoRow.laid ((World.laidAll Tryz.prog os Rows.decodeWireUptoRow.laid).forCall (fun _ _=>0) ⟨#[],#[.agg #[.slice none 0 0,.slice none 0 0],.int .i64 0,.slice none 0 0,.agg #[.int .i64 0,.int .i64 0,.int .u64 0,.int .i64 0,.int .i64 0],.slice none 0 0],[]⟩).memory:=by
 rw [MakeChecks.laidMetH_plain _ _ _ (by kernel_rfl)]
 exact laidMet_laidAll _ (by kernel_rfl) (by kernel_rfl)
theorem reads (os:Os) {H:Type} (enc:TypeId × Value → H):∃ places,DataW.whole enc Tryz.prog ((World.laidAll Tryz.prog os Rows.decodeWireUptoRow.laid).forCall (fun _ _=>0) ⟨#[],#[.agg #[.slice none 0 0,.slice none 0 0],.int .i64 0,.slice none 0 0,.agg #[.int .i64 0,.int .i64 0,.int .u64 0,.int .i64 0,.int .i64 0],.slice none 0 0],[]⟩).memory Tryz.f9.params.toList Rows.decodeWireSpec.vars false (#[.agg #[.slice none 0 0,.slice none 0 0],.int .i64 0,.slice none 0 0,.agg #[.int .i64 0,.int .i64 0,.int .u64 0,.int .i64 0,.int .i64 0],.slice none 0 0]:Array Value).toList 8 = some ([.agg [.nil,.nil],.lit (.int .i64 0),.nil,.agg [.lit (.int .i64 0),.lit (.int .i64 0),.lit (.int .u64 0),.lit (.int .i64 0),.lit (.int .i64 0)],.nil],[],places):=⟨[],by kernel_rfl⟩
set_option maxRecDepth 100000 in
theorem lifted (os:Os) (started:os.Started) (H:Type) (enc:TypeId × Value → H) (F:Stop.Interp) :
  ReturnsInHanded {} Tryz.checked os 9 .any ((Rows.OpenSpec.upto Rows.decodeWireSpec).preRow enc Tryz.prog Tryz.f9 Rows.decodeWireUptoRow.domain false Rows.decodeWireUptoRow.laid) (((Rows.OpenSpec.upto Rows.decodeWireSpec).at F).post enc Tryz.prog Tryz.f9 false true false false):=by
 obtain ⟨places,hx⟩:=reads os enc
 refine returnsInHanded_of_row (C:=Tryz.checked) (s:=Rows.OpenSpec.upto Rows.decodeWireSpec) own started (by kernel_rfl) Tryz.func9
  (witness_row_at (enc:=enc) (C:=Tryz.checked) false (World.laidAll Tryz.prog os Rows.decodeWireUptoRow.laid) #[.agg #[.slice none 0 0,.slice none 0 0],.int .i64 0,.slice none 0 0,.agg #[.int .i64 0,.int .i64 0,.int .u64 0,.int .i64 0,.int .i64 0],.slice none 0 0] (World.laidAll_os _ _ _) (by kernel_rfl) (by kernel_rfl) (by kernel_rfl)
   (OpenSpec.preRow_of_cond 8 hx (by kernel_rfl) (fun k hk=>by cases hk; kernel_rfl) (by kernel_rfl) (laid_met os))) ?_
 intro W base args ds gs before hval hW _ hcond hsz hL _ _
 exact contract H enc W base args ds gs before hval hW (hcond _ rfl) hsz hL
end Go.Proofs.YtckcojkpghiclaaGreatDoor.T11.lawDecodeWire
