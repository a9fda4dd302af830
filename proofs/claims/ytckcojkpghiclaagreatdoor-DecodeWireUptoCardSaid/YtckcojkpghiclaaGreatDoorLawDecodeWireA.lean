/-
 A record of a field,of a wire type that is not its kind's,goes wrong so,behind whatever decodes,unless it is a run of repeated numbers; where what is read is of bulk at most 1048576. (A part of the proof.)
-/
import Derived.Test.YtckcojkpghiclaaGreatDoorDwWalk
import Derived.Test.YtckcojkpghiclaaGreatDoorDwMath
namespace Go.Proofs.YtckcojkpghiclaaGreatDoor.T11.lawDecodeWire
set_option maxRecDepth 100000
open Go.ChangeShapes Go.WideShapes Go.ChangeAt Go.RowKit
open Go.Proofs.YtckcojkpghiclaaGreatDoor.T9 Go.Proofs.YtckcojkpghiclaaGreatDoor.T4
theorem contract (H:Type) (enc:TypeId × Value → H) (W:World) (base:Nat) (args:Array Value) (ds gs:List (DataW H)) (before:List MemPlace)
  (hval0:∀ (j:Nat) t v,Tryz.f9.params[j]? = some t → args[j]? = some v → Value.okWide Tryz.prog W .any base t v)
  (hW:DataW.Whole enc Tryz.prog Tryz.f9.params.toList Rows.decodeWireSpec.vars false W args.toList ds gs before) (hcond:Rows.uptoSmall H (ds ++ gs) = true) (hsz:(DataW.weightsEach Tryz.prog (Tryz.f9.params.toList ++ (Rows.OpenSpec.upto Rows.decodeWireSpec).bare.plain.varTypes Tryz.prog) (ds ++ gs)).all (· ≤ reachBytes) = true) (hL:laidMetH Tryz.prog Rows.decodeWireUptoRow.laid W) :
  Calls Tryz.prog 9 args W fun e W2=>∃ v,e = .returned v ∧ Rows.decodeWireSpec.post enc Tryz.prog Tryz.f9 false true false false W args v W2:=by
 have hval:∀ (j:Nat) t v,Tryz.f9.params[j]? = some t → args[j]? = some v → Value.okWide Tryz.prog W .any base t v:=hval0
 have T:=laid11 hL
 have hW2:=hW
 obtain ⟨p,q,hA0,hV,rfl,hfz,hnd⟩:=hW
 have hA:DataW.TrodAll enc Tryz.prog W 0 (fun _=>true) true Tryz.f9.params.toList args.toList ds p:=hA0
 rw [Tryz.params9] at hA hval
 obtain ⟨v0,vs0,d0,ds0,p0,q0,hargs,rfl,rfl,h0,r0⟩:=trodAll_cons hA
 obtain ⟨v1,vs1,d1,ds1,p1,q1,rfl,rfl,rfl,h1,r1⟩:=trodAll_cons r0
 obtain ⟨v2,vs2,d2,ds2,p2,q2,rfl,rfl,rfl,h2,r2⟩:=trodAll_cons r1
 obtain ⟨v3,vs3,d3,ds3,p3,q3,rfl,rfl,rfl,h3,r3⟩:=trodAll_cons r2
 obtain ⟨v4,vs4,d4,ds4,p4,q4,rfl,rfl,rfl,h4,r4⟩:=trodAll_cons r3
 obtain ⟨rfl,rfl,rfl⟩:=trodAll_nil r4
 obtain rfl:args = #[v0,v1,v2,v3,v4]:=by cases args; simp_all
 obtain ⟨rfl,rfl⟩:=trodVars_none hV
 obtain ⟨sc0,vM0,vE0,rfl,fa0,fi0⟩:=open_schema (hval 0 25 v0 rfl rfl) h0
 obtain ⟨i1,rfl,b1,c1⟩:=open_i64 (hval 1 3 v1 rfl rfl) h1
 obtain ⟨A2,c2,l2,rfl,rd2,sz2⟩:=open_bytes_bulk (hval 2 26 v2 rfl rfl) h2
 obtain ⟨ra3,rb3,rn3,rf3,ru3,rfl,rt3⟩:=open_rec (hval 3 41 v3 rfl rfl) h3
 obtain ⟨A4,c4,l4,rfl,rd4,sz4⟩:=open_bytes_sized (hval 4 26 v4 rfl rfl) h4 (fun es sp he=>by subst he; exact sized_slice hsz (j:=4) (t:=26) (e:=5) rfl rfl Tryz.underlying26)
 have hbulk:=of_decide_eq_true hcond
 refine (walk W T sc0 vM0 vE0 fa0 fi0 i1 b1 c1 A2 c2 l2 rd2 (Nat.le_trans sz2 (Nat.le_trans (bulk_in (by simp)) hbulk)) ra3 rb3 rn3 rf3 ru3 rt3 A4 c4 l4 rd4 sz4).mono fun e W2 ⟨he,hb⟩=>?_
 subst he
 exact ⟨_,rfl,law_post (by kernel_rfl) rfl rfl (by decide +kernel) hW2 hb⟩
end Go.Proofs.YtckcojkpghiclaaGreatDoor.T11.lawDecodeWire
