/-
  The chapter's examples hold: the contract of the function that every statement of this layer asks first.
-/
import Derived.Test.YthmnngojfllahaaVarRunfix
namespace Go.Proofs.Ythmnngojfllahaa
open Go.RowKit

theorem lit_reads (w : World) (l : List UInt8) (hl : l.length ≤ 100) : SlB (w.alloc (.cells (bs l).toArray 5)) (some ⟨w.heap.size, 0, none⟩) l.length l := by
  have h := Sl.new w (bs l) 5 (by rw [bs_length]; unfold maxLen; omega)
  rw [bs_length] at h
  exact h

theorem vput300 : vput 300 = [172, 2] := by
  rw [vput_big (by omega), vput_small (by omega)]; rfl
theorem get300 : getR [172, 2] 0 2 = (300, 2, 0) := by decide +kernel
theorem fixb258 : fixb 258 4 = [2, 1, 0, 0] := by decide +kernel

set_option maxRecDepth 100000 in
theorem awake_any (w : World) : Calls Try.prog 10 #[] w fun e w' => e = .returned (.bool true) ∧ Below w.heap.size w w' := by
  go_enter Try.func10, Try.ntmps10
  go_wp2_with fail
  refine (fix_yes 258 4 (Or.inl rfl) (by omega) _).mono ?_
  rintro e w1 ⟨v, rfl, hown, hb⟩
  rw [fixb258] at hown
  obtain ⟨A, c, rfl, hr⟩ := SlB.of_own (l := [2, 1, 0, 0]) hown
  clear hown
  go_wp2_with fail
  refine (get_any _ _ [172, 2] 0 2 (by simp) _ (lit_reads _ [172, 2] (by simp))).mono ?_
  rintro e w2 ⟨rfl, rfl⟩
  rw [get300]
  unfold V3
  go_wp2_with fail
  refine (put_any 300 (by omega) _).mono ?_
  rintro e w2 ⟨v2, rfl, hown2, hb2⟩
  rw [vput300] at hown2
  obtain ⟨A2, c2, rfl, hr2⟩ := SlB.of_own hown2
  clear hown2
  have hb3 : Below w.heap.size w w2 := below_then (below_lit hb _) hb2
  have hr := (hr.lit _).on hb2
  go_wp2_with fail
  refine (bytes_any A2 _ c2 2 [172, 2] [172, 2] _ (by simp) (by simp) (hr2.lit _) (lit_reads _ [172, 2] (by simp))).mono ?_
  rintro e w3 ⟨rfl, hb4⟩
  have hb5 : Below w.heap.size w w3 := below_then (below_lit hb3 _) hb4
  have hr := (hr.lit _).on hb4
  go_wp2_with fail
  refine (bytes_any A _ c 4 [2, 1, 0, 0] [2, 1, 0, 0] _ (by simp) (by simp) (hr.lit _) (lit_reads _ [2, 1, 0, 0] (by simp))).mono ?_
  rintro e w4 ⟨rfl, hb6⟩
  go_wp2
  go_ret
  exact ⟨rfl, below_then (below_lit hb5 _) hb6⟩
end Go.Proofs.Ythmnngojfllahaa
