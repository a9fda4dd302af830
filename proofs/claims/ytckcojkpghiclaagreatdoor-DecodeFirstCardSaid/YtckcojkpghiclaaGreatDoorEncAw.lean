/-
 The statements' first call tells yes; and what is not too great.
-/
import Derived.Test.YtckcojkpghiclaaGreatDoorEncTop
import Derived.Test.YtckcojkpghiclaaGreatDoorEncPut
import Derived.Test.YtckcojkpghiclaaGreatDoorRecPut
import Derived.Test.YtckcojkpghiclaaGreatDoorTrRsame
namespace Go.Proofs.YtckcojkpghiclaaGreatDoor.T12
set_option maxRecDepth 100000
open Go.RowKit Go.Maps
open Go.Proofs.YtckcojkpghiclaaGreatDoor.T9 Go.Proofs.YtckcojkpghiclaaGreatDoor.T4
def f0 : Df := ⟨1, [97], 0, 0, false, -1, 0⟩
def s0 : Sc := ⟨[⟨[65], [f0]⟩], []⟩
def v0 : Vl' := ⟨7, [], []⟩
def t0 : So := ⟨1, [], [v0]⟩
def x0 : Mg := .mk [t0]
theorem may_s0 : ScMay s0 := by
 refine ⟨by decide, by decide, by decide, by decide, by decide, fun m hm => ?_, fun e he => by cases he⟩
 obtain rfl : m = ⟨[65], [f0]⟩ := by simpa [s0] using hm
 refine ⟨by decide, by simp, by simp, fun d hd => ?_⟩
 obtain rfl : d = f0 := by simpa using hd
 exact ⟨by decide, by decide, by decide, by decide, by decide, by decide, by decide, .inl rfl, .inl rfl⟩
theorem in_s0 : ScIn s0 := by
 refine ⟨fun m hm => ?_, fun e he => by cases he⟩
 obtain rfl : m = ⟨[65], [f0]⟩ := by simpa [s0] using hm
 refine ⟨by unfold maxLen; decide, fun d hd => ?_⟩
 obtain rfl : d = f0 := by simpa using hd
 exact ⟨by unfold inr; decide, by unfold maxLen; decide, by unfold inr; decide, by unfold inr; decide, by unfold inr; decide, by unfold inr; decide⟩
theorem sat0 {w : World} {g0 g1 B : Nat} {t0 t1 : TypeId} {fr0 fr1 : Nat × Nat} (h0 : w.heap[g0]? = some (.cells #[.int .i64 1, .string ⟨#[97]⟩, .int .i64 0, .int .i64 0, .bool false, .int .i64 (-1), .int .i64 0] t0 fr0)) (h1 : w.heap[g1]? = some (.cells #[.string ⟨#[65]⟩, .slice (some ⟨g0, 0, none⟩) 1 1] t1 fr1)) (b0 : g0 < B) (b1 : g1 < B) :
  SAt B w s0 (.slice (some ⟨g1, 0, none⟩) 1 1) (.slice none 0 0) :=
 ⟨_, [], (lit_row (n := 1) (size := 2) (xs := [.string ⟨#[65]⟩, .slice (some ⟨g0, 0, none⟩) 1 1]) h1 rfl (by decide) b1 56).1, ⟨.slice (some ⟨g0, 0, none⟩) 1 1, [], rfl, (lit_row (n := 1) (size := 7) (xs := [.int .i64 1, .string ⟨#[97]⟩, .int .i64 0, .int .i64 0, .bool false, .int .i64 (-1), .int .i64 0]) h0 rfl (by decide) b0 45).1, rfl⟩, Rr.nil _ _ _, rfl⟩
end Go.Proofs.YtckcojkpghiclaaGreatDoor.T12
