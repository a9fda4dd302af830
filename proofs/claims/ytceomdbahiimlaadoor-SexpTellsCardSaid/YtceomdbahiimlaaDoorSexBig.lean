/-
  Parse of a text of any length.
-/
import Derived.Test.YtceomdbahiimlaaDoorSexSize
namespace Go.Proofs.YtceomdbahiimlaaDoor.T14
set_option maxRecDepth 100000

open Go.RowKit

set_option maxRecDepth 1000000 in
set_option maxHeartbeats 2000000 in
theorem all_big (s : ByteArray) (h5 : 5000 < s.size) (w : World) :
    Calls Tryd.prog 20 #[.string s] w fun e w' => AllPost (allT Lib.itoa s.data.toList) (allAt Lib.itoa s.data.toList) (allE Lib.itoa s.data.toList) w e w' := by
  have hsl : s.data.toList.length = s.size := by simp
  have HA := Lib.hid (show allT Lib.itoa s.data.toList = [] ∧ allAt Lib.itoa s.data.toList = 0 ∧ allE Lib.itoa s.data.toList = 2 by
    simp only [allT, allAt, allE, hsl, if_pos h5, and_self])
  generalize allT Lib.itoa s.data.toList = X1 at *
  generalize allAt Lib.itoa s.data.toList = X2 at *
  generalize allE Lib.itoa s.data.toList = X3 at *
  clear hsl
  go_enter Tryd.func20, Tryd.ntmps20
  go_wp2_with fail
  go_ret3
  exact AllPost.no HA.out (Below.refl _ _)
set_option maxRecDepth 1000000 in
set_option maxHeartbeats 4000000 in
theorem parse_big (s : ByteArray) (h5 : 5000 < s.size) (w : World) :
    Calls Tryd.prog 11 #[.string s] w (ParPost w (Nd.zero, 0, 2)) := by
  have hB0 := below_new w (.cells #[.int .i64 0, .string ⟨#[]⟩, .int .i64 0, .int .i64 0, .slice none 0 0] 24)
  have hN0 := heap_alloc_new w (.cells #[.int .i64 0, .string ⟨#[]⟩, .int .i64 0, .int .i64 0, .slice none 0 0] 24)
  obtain ⟨w1, hw1⟩ : ∃ x, x = w.alloc (.cells #[.int .i64 0, .string ⟨#[]⟩, .int .i64 0, .int .i64 0, .slice none 0 0] 24) := ⟨_, rfl⟩
  rw [← hw1] at hB0 hN0
  have hsl : s.data.toList.length = s.size := by simp
  have hA := all_big s h5 w1
  rw [show allT Lib.itoa s.data.toList = [] by simp only [allT, hsl, if_pos h5], show allAt Lib.itoa s.data.toList = 0 by simp only [allAt, hsl, if_pos h5], show allE Lib.itoa s.data.toList = 2 by simp only [allE, hsl, if_pos h5]] at hA
  have HA := Lib.hid hA
  clear hA hsl
  go_enter Tryd.func11, Tryd.ntmps11
  go_wp2_with fail
  rw [← hw1]
  refine HA.out.mono ?_
  rintro e w2 ⟨v, rfl, hown, hB2⟩
  have hz : w2.heap[w.heap.size]? = some (.cells #[.int .i64 0, .string ⟨#[]⟩, .int .i64 0, .int .i64 0, .slice none 0 0] 24 (0, 0)) := (hB2.block _ (box_lt hN0)).trans hN0
  obtain ⟨z0, z1, z2, z3, z4⟩ := five_cells hz
  have zf := box_froz hz
  obtain ⟨A, c, rfl, hT⟩ := SlT.of_own hown
  obtain ⟨q1, q2⟩ := node_filled hz (.int .i64 0) (.string ⟨#[]⟩) (.int .i64 0) (.int .i64 0) (.slice none 0 0)
  have hB3 := (hB0.trans (hB2.mono hB0.size)).trans (below_own q2 (Nat.le_refl _) (Nat.le_trans hB0.size hB2.size))
  clear hz hown hT
  go_wp2_with fail
  refine bodyPost_ret (results_nd rfl _ _ w.heap.size rfl q1) rfl ?_
  exact ⟨LN.zero, rfl, zero_bare, zero_lies _ _ _, hB3⟩
theorem parR_big (L : List UInt8) (h : 5000 < L.length) : parR Lib.itoa L = (Nd.zero, 0, 2) := by
  unfold parR
  rw [show allE Lib.itoa L = 2 by simp only [allE, if_pos h], show allAt Lib.itoa L = 0 by simp only [allAt, if_pos h], if_pos (by decide)]
/-- Parse of any text. -/
theorem parse_all (s : ByteArray) (w : World) (LV : Laid w) : Calls Tryd.prog 11 #[.string s] w (ParPost w (parR Lib.itoa s.data.toList)) := by
  by_cases h : 5000 < s.size
  · rw [parR_big _ (by simpa using h)]
    exact parse_big s h w
  · exact parse14_any s (by omega) w LV
end Go.Proofs.YtceomdbahiimlaaDoor.T14
