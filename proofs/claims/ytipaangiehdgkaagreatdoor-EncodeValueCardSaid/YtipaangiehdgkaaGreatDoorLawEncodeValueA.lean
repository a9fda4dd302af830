/-
  A value's bytes are one record, of its number; of a field that has one, or repeated ones that are no numbers, the message's that has just that value, unless it goes without saying. (A part of the proof.)
-/
import Derived.Test.YtipaangiehdgkaaGreatDoorEvWalk
namespace Go.Proofs.YtipaangiehdgkaaGreatDoor.T12.lawEncodeValue
set_option maxRecDepth 100000

open Go.ChangeShapes Go.WideShapes Go.ChangeAt Go.RowKit

open Go.Proofs.YtipaangiehdgkaaGreatDoor.T9 Go.Proofs.YtipaangiehdgkaaGreatDoor.T4

theorem contract (H : Type) (enc : TypeId × Value → H) (W : World) (base : Nat) (args : Array Value) (ds gs : List (DataW H)) (before : List MemPlace)
    (hval0 : ∀ (j : Nat) t v, Tryz.f6.params[j]? = some t → args[j]? = some v → Value.okWide Tryz.prog W .any base t v)
    (hW : DataW.Whole enc Tryz.prog Tryz.f6.params.toList Rows.encodeValueSpec.vars false W args.toList ds gs before) (hsz : (DataW.weightsEach Tryz.prog (Tryz.f6.params.toList ++ (OpenSpec.ofChange Rows.encodeValueSpec).bare.plain.varTypes Tryz.prog) (ds ++ gs)).all (· ≤ reachBytes) = true) (hL : laidMetH Tryz.prog Rows.encodeValueRow.laid W) :
    Calls Tryz.prog 6 args W fun e W2 => ∃ v, e = .returned v ∧ Rows.encodeValueSpec.post enc Tryz.prog Tryz.f6 false true false false W args v W2 := by
  have hval : ∀ (j : Nat) t v, Tryz.f6.params[j]? = some t → args[j]? = some v → Value.okWide Tryz.prog W .any base t v := hval0
  have T := laid12 hL
  have hW2 := hW
  obtain ⟨p, q, hA0, hV, rfl, hfz, hnd⟩ := hW
  have hA : DataW.TrodAll enc Tryz.prog W 0 (fun _ => true) true Tryz.f6.params.toList args.toList ds p := hA0
  rw [Tryz.params6] at hA hval
  obtain ⟨v0, vs0, d0, ds0, p0, q0, hargs, rfl, rfl, h0, r0⟩ := trodAll_cons hA
  obtain ⟨v1, vs1, d1, ds1, p1, q1, rfl, rfl, rfl, h1, r1⟩ := trodAll_cons r0
  obtain ⟨v2, vs2, d2, ds2, p2, q2, rfl, rfl, rfl, h2, r2⟩ := trodAll_cons r1
  obtain ⟨v3, vs3, d3, ds3, p3, q3, rfl, rfl, rfl, h3, r3⟩ := trodAll_cons r2
  obtain ⟨rfl, rfl, rfl⟩ := trodAll_nil r3
  obtain rfl : args = #[v0, v1, v2, v3] := by cases args; simp_all
  obtain ⟨rfl, rfl⟩ := trodVars_none hV
  obtain ⟨sc0, vM0, vE0, rfl, fa0, fi0⟩ := open_schema (hval 0 33 v0 rfl rfl) h0
  obtain ⟨i1, rfl, b1, c1⟩ := open_i64 (hval 1 3 v1 rfl rfl) h1
  obtain ⟨i2, rfl, b2, c2⟩ := open_i64 (hval 2 3 v2 rfl rfl) h2
  obtain ⟨va3, u3, k3, rfl, hm3, hi3⟩ := open_vaI (hval 3 51 v3 rfl rfl) h3 (szd_each (fun k hk => of_decide_eq_true (List.all_eq_true.1 hsz k hk)) 3 _ _ rfl rfl)
  refine (walk W T sc0 vM0 vE0 fa0 fi0 i1 b1 c1 i2 b2 c2 va3 u3 k3 hm3 hi3).mono fun e W2 ⟨he, hb⟩ => ?_
  subst he
  exact ⟨_, rfl, law_post (by kernel_rfl) rfl rfl (by decide +kernel) hW2 hb⟩


end Go.Proofs.YtipaangiehdgkaaGreatDoor.T12.lawEncodeValue
