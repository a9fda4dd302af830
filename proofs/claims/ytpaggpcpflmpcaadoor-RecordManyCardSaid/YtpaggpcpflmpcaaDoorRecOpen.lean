/-
  A record that comes in as an argument is five numbers.
-/
import Derived.Test.YtpaggpcpflmpcaaDoorRecNext
import Derived.Deep.Fields
namespace Go.Proofs.YtpaggpcpflmpcaaDoor
open Go.ChangeShapes Go.WideShapes Go.ChangeAt Go.RowKit Go.Deep

theorem cellsRec : Tryd.prog.cellsOf 25 = 5 := by kernel_rfl
/-- Five numbers that a record may hold. -/
def RecOk (a b : Int) (n : Nat) (f u : Int) : Prop := (-9223372036854775808 ≤ a ∧ a ≤ 9223372036854775807) ∧ (-9223372036854775808 ≤ b ∧ b ≤ 9223372036854775807) ∧ n < 18446744073709551616 ∧ (-9223372036854775808 ≤ f ∧ f ≤ 9223372036854775807) ∧ (-9223372036854775808 ≤ u ∧ u ≤ 9223372036854775807)
theorem open_rec {H : Type} {enc : TypeId × Value → H} {W : World} {base : Nat} {v : Value} {d : DataW H} {ps : List MemPlace}
    (hval : Value.okWide Tryd.prog W .any base 25 v) (h : DataW.Trod enc Tryd.prog W 0 (fun _ => true) true 25 v d ps) :
    ∃ (a b : Int) (n : Nat) (f u : Int), v = .agg #[.int .i64 a, .int .i64 b, .int .u64 n, .int .i64 f, .int .i64 u] ∧ RecOk a b n f u := by
  obtain ⟨cs, rfl, hsz⟩ := okWide_struct Tryd.underlying25 hval
  obtain ⟨l⟩ := cs
  have c3 : Tryd.prog.cellsOf 3 = 1 := by kernel_rfl
  have c23 : Tryd.prog.cellsOf 23 = 1 := by kernel_rfl
  obtain ⟨fuel, hf⟩ := h
  obtain ⟨xs, n, -, -, -, hxl, hg⟩ := DataW.trod_struct Tryd.underlying25 hf
  have hl : l.length = 5 := by simpa [cellsRec] using hsz
  have hx5 : xs.length = 5 := hxl
  obtain ⟨x0, x1, x2, x3, x4, rfl⟩ : ∃ x0 x1 x2 x3 x4, xs = [x0, x1, x2, x3, x4] := by
    match xs, hx5 with
    | [x0, x1, x2, x3, x4], _ => exact ⟨x0, x1, x2, x3, x4, rfl⟩
  obtain ⟨v0, v1, v2, v3, v4, rfl⟩ : ∃ v0 v1 v2 v3 v4, l = [v0, v1, v2, v3, v4] := by
    match l, hl with
    | [v0, v1, v2, v3, v4], _ => exact ⟨v0, v1, v2, v3, v4, rfl⟩
  have g0 : DataW.trod enc Tryd.prog W 0 (fun _ => true) true n 3 (List.take (Tryd.prog.cellsOf 3) [v0, v1, v2, v3, v4]) = some x0 := hg 0 _ rfl
  rw [c3] at g0
  have g1 : DataW.trod enc Tryd.prog W 0 (fun _ => true) true n 3 (List.take (Tryd.prog.cellsOf 3) [v1, v2, v3, v4]) = some x1 := hg 1 _ rfl
  rw [c3] at g1
  have g2 : DataW.trod enc Tryd.prog W 0 (fun _ => true) true n 23 (List.take (Tryd.prog.cellsOf 23) [v2, v3, v4]) = some x2 := hg 2 _ rfl
  rw [c23] at g2
  have g3 : DataW.trod enc Tryd.prog W 0 (fun _ => true) true n 3 (List.take (Tryd.prog.cellsOf 3) [v3, v4]) = some x3 := hg 3 _ rfl
  rw [c3] at g3
  have g4 : DataW.trod enc Tryd.prog W 0 (fun _ => true) true n 3 (List.take (Tryd.prog.cellsOf 3) [v4]) = some x4 := hg 4 _ rfl
  rw [c3] at g4
  obtain ⟨a, ha, -, wa⟩ := DataW.trod_int Tryd.underlying3 g0
  obtain ⟨b, hb, -, wb⟩ := DataW.trod_int Tryd.underlying3 g1
  obtain ⟨m, hm, -, wm⟩ := DataW.trod_int Tryd.underlying23 g2
  obtain ⟨f, hf', -, wf⟩ := DataW.trod_int Tryd.underlying3 g3
  obtain ⟨u, hu, -, wu⟩ := DataW.trod_int Tryd.underlying3 g4
  obtain rfl : v0 = _ := by simpa using ha
  obtain rfl : v1 = _ := by simpa using hb
  obtain rfl : v2 = _ := by simpa using hm
  obtain rfl : v3 = _ := by simpa using hf'
  obtain rfl : v4 = _ := by simpa using hu
  have bm := bounds_u64 wm
  obtain ⟨k, rfl⟩ := Int.eq_ofNat_of_zero_le bm.1
  exact ⟨a, b, k, f, u, rfl, bounds_i64 wa, bounds_i64 wb, by omega, bounds_i64 wf, bounds_i64 wu⟩
end Go.Proofs.YtpaggpcpflmpcaaDoor
