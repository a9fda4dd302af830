/-
  A field, as bytes: the contract of field.
-/
import Derived.Test.YtipaangiehdgkaaGreatDoorEncEnt
import Derived.Test.YtipaangiehdgkaaGreatDoorEncCat
import Derived.Test.YtipaangiehdgkaaGreatDoorRecRput
import Derived.Test.YtipaangiehdgkaaGreatDoorTokMath
namespace Go.Proofs.YtipaangiehdgkaaGreatDoor.T12
set_option maxRecDepth 100000

open Go.RowKit

open Go.Proofs.YtipaangiehdgkaaGreatDoor.T9 Go.Proofs.YtipaangiehdgkaaGreatDoor.T4

end Go.Proofs.YtipaangiehdgkaaGreatDoor.T12
/-
  A message, as bytes: the contract of message.
-/
namespace Go.Proofs.YtipaangiehdgkaaGreatDoor.T12
set_option maxRecDepth 100000

open Go.RowKit

open Go.Proofs.YtipaangiehdgkaaGreatDoor.T9 Go.Proofs.YtipaangiehdgkaaGreatDoor.T4

end Go.Proofs.YtipaangiehdgkaaGreatDoor.T12
/-
  Encode: the contract, of any message.
-/
namespace Go.Proofs.YtipaangiehdgkaaGreatDoor.T12
set_option maxRecDepth 100000

open Go.RowKit

open Go.Proofs.YtipaangiehdgkaaGreatDoor.T9 Go.Proofs.YtipaangiehdgkaaGreatDoor.T4

theorem mayT_split {s : Sc} {m : Int} {x : Mg} (h : mayT s m x = true) : ScMay s ∧ isB s 64 m x = true := by
  unfold mayT at h
  rw [Bool.and_eq_true] at h
  exact ⟨@of_decide_eq_true _ (Classical.propDecidable _) h.1, h.2⟩
end Go.Proofs.YtipaangiehdgkaaGreatDoor.T12
/-
  The statements' first call tells yes; and what is not too great.
-/
namespace Go.Proofs.YtipaangiehdgkaaGreatDoor.T12
set_option maxRecDepth 100000

open Go.RowKit Go.Maps

open Go.Proofs.YtipaangiehdgkaaGreatDoor.T9 Go.Proofs.YtipaangiehdgkaaGreatDoor.T4

/-! ### The chapter's example -/

def f0 : Df := ⟨1, [97], 0, 0, false, -1, 0⟩
def s0 : Sc := ⟨[⟨[65], [f0]⟩], []⟩
def v0 : Vl' := ⟨7, [], []⟩
def t0 : So := ⟨1, [], [v0]⟩
def x0 : Mg := .mk [t0]
theorem may_s0 : ScMay s0 := by
  refine ⟨by decide, by decide, by decide, by decide, by decide, fun m hm => ?_, fun e he => by cases he⟩
  obtain rfl : m = ⟨[65], [f0]⟩ := by simpa [s0] using hm
  refine ⟨by decide, by simp, by simp, fun d hd => ?_⟩
  obtain rfl : d = f0 := by simpa using hd
  exact ⟨by decide, by decide, by decide, by decide, by decide, by decide, by decide, .inl rfl, .inl rfl⟩
theorem may_x0 : mayT s0 0 x0 = true := by
  unfold mayT
  rw [Bool.and_eq_true]
  exact ⟨@decide_eq_true _ (Classical.propDecidable _) may_s0, by decide +kernel⟩
theorem in_s0 : ScIn s0 := by
  refine ⟨fun m hm => ?_, fun e he => by cases he⟩
  obtain rfl : m = ⟨[65], [f0]⟩ := by simpa [s0] using hm
  refine ⟨by unfold maxLen; decide, fun d hd => ?_⟩
  obtain rfl : d = f0 := by simpa using hd
  exact ⟨by unfold inr; decide, by unfold maxLen; decide, by unfold inr; decide, by unfold inr; decide, by unfold inr; decide, by unfold inr; decide⟩
theorem in_x0 : MIn x0 := .of fun s hs => by
  obtain rfl : s = t0 := by simpa [x0, Mg.F] using hs
  refine ⟨by unfold inI; decide, fun v hv => ?_⟩
  obtain rfl : v = v0 := by simpa [t0] using hv
  exact ⟨⟨by unfold inI; decide, by decide⟩, fun x hx => by cases hx⟩
theorem sat0 {w : World} {g0 g1 B : Nat} {t0 t1 : TypeId} {fr0 fr1 : Nat × Nat} (h0 : w.heap[g0]? = some (.cells #[.int .i64 1, .string ⟨#[97]⟩, .int .i64 0, .int .i64 0, .bool false, .int .i64 (-1), .int .i64 0] t0 fr0)) (h1 : w.heap[g1]? = some (.cells #[.string ⟨#[65]⟩, .slice (some ⟨g0, 0, none⟩) 1 1] t1 fr1)) (b0 : g0 < B) (b1 : g1 < B) :
    SAt B w s0 (.slice (some ⟨g1, 0, none⟩) 1 1) (.slice none 0 0) :=
  ⟨_, [], (lit_row (n := 1) (size := 2) (xs := [.string ⟨#[65]⟩, .slice (some ⟨g0, 0, none⟩) 1 1]) h1 rfl (by decide) b1 66).1, ⟨.slice (some ⟨g0, 0, none⟩) 1 1, [], rfl, (lit_row (n := 1) (size := 7) (xs := [.int .i64 1, .string ⟨#[97]⟩, .int .i64 0, .int .i64 0, .bool false, .int .i64 (-1), .int .i64 0]) h0 rfl (by decide) b0 53).1, rfl⟩, Rr.nil _ _ _, rfl⟩
theorem nor_x0 : norB s0 64 0 x0 = x0 := by kernel_rfl
end Go.Proofs.YtipaangiehdgkaaGreatDoor.T12
