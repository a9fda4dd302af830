/-
  The chapter's example holds, wherever the table of wire types lies as it is laid: the contract of the function that every statement of this layer asks first.
-/
import Derived.Test.YtpejhogcplokfaaDoorTagPut
import Derived.Test.YtpejhogcplokfaaDoorTagGet
import Derived.Test.YtpejhogcplokfaaDoorVarBytes
namespace Go.Proofs.YtpejhogcplokfaaDoor
open Go.RowKit

theorem putL12 : putL 1 2 = [10] := by
  unfold putL putN
  rw [if_pos (by decide +kernel)]
  exact vput_small (by decide)
theorem tget10 : tgetR [10] 0 1 = (1, 2, 1, 0) := by decide +kernel

set_option maxRecDepth 100000 in
theorem awake_any (w : World) (T : Wires w) : Calls Tryd.prog 8 #[] w fun e w' => e = .returned (.bool true) ∧ Below w.heap.size w w' := by
  go_enter Tryd.func8, Tryd.ntmps8
  go_wp2_with fail
  refine (tput_any 1 2 (by omega) (by omega) (by omega) (by omega) _ T).mono ?_
  rintro e w1 ⟨A, c, rfl, hr, hb⟩
  rw [putL12] at hr ⊢
  rw [show putB 1 2 = true by decide +kernel]
  go_wp2_with fail
  refine (tget_any A c [10] 0 1 (by simp) _ hr (T.on hb)).mono ?_
  rintro e w2 ⟨rfl, hb2⟩
  rw [tget10]
  unfold V4
  have hb3 := below_then hb hb2
  have hr := hr.on hb2
  go_wp2_with fail
  refine (bytes_any A _ c 1 [10] [10] _ (by simp) (by simp) (hr.lit _) (lit_reads _ [10] (by simp))).mono ?_
  rintro e w3 ⟨rfl, hb4⟩
  go_wp2
  go_ret
  exact ⟨rfl, below_then (below_lit hb3 _) hb4⟩
end Go.Proofs.YtpejhogcplokfaaDoor
