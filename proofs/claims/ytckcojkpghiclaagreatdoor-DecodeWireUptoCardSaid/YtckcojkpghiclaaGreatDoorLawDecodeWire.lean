/-
 A record of a field,of a wire type that is not its kind's,goes wrong so,behind whatever decodes,unless it is a run of repeated numbers; where what is read is of bulk at most 1048576.
-/
import Derived.Test.YtckcojkpghiclaaGreatDoorLawDecodeWireC
namespace Go.Proofs.YtckcojkpghiclaaGreatDoor.T11.lawDecodeWire
set_option maxRecDepth 100000
open Go.ChangeShapes Go.WideShapes Go.ChangeAt Go.RowKit
open Go.Proofs.YtckcojkpghiclaaGreatDoor.T9 Go.Proofs.YtckcojkpghiclaaGreatDoor.T4
theorem plain (f:FuncId) (fn:Func) (hf:Tryz.pinned.checked.prog.funcNamed "truffle/trufflelaw11.DecodeWire" = some f) (hfn:Tryz.pinned.checked.prog.funcs[f]? = some fn) :
  true = Tryz.pinned.checked.prog.looks [] ∧ ∀ (j:Nat) t,fn.params[j]? = some t → Tryz.pinned.checked.prog.wantsStandIn t = false:=by
 obtain rfl:f = 9:=Option.some.inj ((show Tryz.prog.funcNamed "truffle/trufflelaw11.DecodeWire" = some 9 by kernel_rfl).symm.trans hf) |>.symm
 obtain rfl:fn = Tryz.f9:=(Option.some.inj (Tryz.func9.symm.trans hfn)).symm
 refine ⟨by kernel_rfl,fun j t ht=>?_⟩
 have hall:(Tryz.f9.params.toList.all fun t=>!Tryz.prog.wantsStandIn t) = true:=by kernel_rfl
 have:=List.all_eq_true.1 hall t (Array.mem_toList_iff.2 (Array.mem_of_getElem? ht))
 exact (show Tryz.prog.wantsStandIn t = false by simpa using this)
theorem proved:Rows.DecodeWireUptoCardSaid :=
 Claim7.holds_tied_plain_at .later [] _ _ _ _ said (fun _ h=>by cases h) (by kernel_rfl) (fun _ h=>by cases h) decodeWireUpto_row_tie rfl ⟨rfl,rfl⟩ (by kernel_rfl) rfl plain (by kernel_rfl)
end Go.Proofs.YtckcojkpghiclaaGreatDoor.T11.lawDecodeWire
