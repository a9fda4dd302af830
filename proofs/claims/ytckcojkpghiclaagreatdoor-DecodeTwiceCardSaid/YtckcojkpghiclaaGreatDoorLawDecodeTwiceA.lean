/-
 Bytes twice,one behind the other,decode to twice as many values of repeated fields,and to the same keys,numbers and texts of others. (A part of the proof.)
-/
import Derived.Test.YtckcojkpghiclaaGreatDoorDtWalk
namespace Go.Proofs.YtckcojkpghiclaaGreatDoor.T11.lawDecodeTwice
set_option maxRecDepth 100000
open Go.ChangeShapes Go.WideShapes Go.ChangeAt Go.RowKit
open Go.Proofs.YtckcojkpghiclaaGreatDoor.T9 Go.Proofs.YtckcojkpghiclaaGreatDoor.T4
theorem contract (H:Type) (enc:TypeId × Value → H) (W:World) (base:Nat) (args:Array Value) (ds gs:List (DataW H)) (before:List MemPlace)
  (hval0:∀ (j:Nat) t v,Tryz.f8.params[j]? = some t → args[j]? = some v → Value.okWide Tryz.prog W .any base t v)
  (hW:DataW.Whole enc Tryz.prog Tryz.f8.params.toList Rows.decodeTwiceSpec.vars false W args.toList ds gs before) (hsz:(DataW.weightsEach Tryz.prog (Tryz.f8.params.toList ++ (OpenSpec.ofChange Rows.decodeTwiceSpec).bare.plain.varTypes Tryz.prog) (ds ++ gs)).all (· ≤ reachBytes) = true) (hL:laidMetH Tryz.prog Rows.decodeTwiceRow.laid W) :
  Calls Tryz.prog 8 args W fun e W2=>∃ v,e = .returned v ∧ Rows.decodeTwiceSpec.post enc Tryz.prog Tryz.f8 false true false false W args v W2:=by
 have hval:∀ (j:Nat) t v,Tryz.f8.params[j]? = some t → args[j]? = some v → Value.okWide Tryz.prog W .any base t v:=hval0
 have T:=laid11 hL
 have hW2:=hW
 obtain ⟨p,q,hA0,hV,rfl,hfz,hnd⟩:=hW
 have hA:DataW.TrodAll enc Tryz.prog W 0 (fun _=>true) true Tryz.f8.params.toList args.toList ds p:=hA0
 rw [Tryz.params8] at hA hval
 obtain ⟨v0,vs0,d0,ds0,p0,q0,hargs,rfl,rfl,h0,r0⟩:=trodAll_cons hA
 obtain ⟨v1,vs1,d1,ds1,p1,q1,rfl,rfl,rfl,h1,r1⟩:=trodAll_cons r0
 obtain ⟨v2,vs2,d2,ds2,p2,q2,rfl,rfl,rfl,h2,r2⟩:=trodAll_cons r1
 obtain ⟨rfl,rfl,rfl⟩:=trodAll_nil r2
 obtain rfl:args = #[v0,v1,v2]:=by cases args; simp_all
 obtain ⟨rfl,rfl⟩:=trodVars_none hV
 obtain ⟨sc0,vM0,vE0,rfl,fa0,fi0⟩:=open_schema (hval 0 25 v0 rfl rfl) h0
 obtain ⟨i1,rfl,b1,c1⟩:=open_i64 (hval 1 3 v1 rfl rfl) h1
 obtain ⟨A2,c2,l2,rfl,rd2⟩:=open_bytes (hval 2 26 v2 rfl rfl) h2
 refine (walk W T sc0 vM0 vE0 fa0 fi0 i1 b1 c1 A2 c2 l2 rd2).mono fun e W2 ⟨he,hb⟩=>?_
 subst he
 exact ⟨_,rfl,law_post (by kernel_rfl) rfl rfl (by decide +kernel) hW2 hb⟩
end Go.Proofs.YtckcojkpghiclaaGreatDoor.T11.lawDecodeTwice
