/-
  A record's bytes: the contract of the document's own function that puts them.
-/
import Derived.Test.YtpaggpcpflmpcaaDoorRecPut
import Derived.Test.YtpaggpcpflmpcaaDoorVarRunfix
namespace Go.Proofs.YtpaggpcpflmpcaaDoor
open Go.RowKit

theorem rfixed_at (n S : Nat) (hS : S = 4 ∨ S = 8) (hn : n < 18446744073709551616) (x : List UInt8) (hx : fixb n S = x) (w : World) :
    Calls Tryd.prog 30 #[.int .u64 n, .int .i64 S] w fun e w' => ∃ A c, e = .returned (.tuple #[.slice A S c, .bool true]) ∧ SlB w' A c x ∧ Below w.heap.size w w' := by
  have hl : x.length = S := by rw [← hx]; exact fixb_length _ _
  refine (rfix_yes n S hS hn w).mono ?_
  rintro e w1 ⟨v, rfl, hown, hb⟩
  rw [hx] at hown
  clear hS hx
  subst hl
  obtain ⟨A, c, rfl, hr⟩ := SlB.of_own hown
  exact ⟨A, c, rfl, hr, hb⟩
theorem rfixed_any (n S : Nat) (hS : S = 4 ∨ S = 8) (hn : n < 18446744073709551616) (w : World) :
    Calls Tryd.prog 30 #[.int .u64 n, .int .i64 S] w fun e w' => ∃ A c, e = .returned (.tuple #[.slice A S c, .bool true]) ∧ SlB w' A c (fixb n S) ∧ Below w.heap.size w w' := rfixed_at n S hS hn _ rfl w

set_option maxRecDepth 1000000 in
set_option maxHeartbeats 4000000 in
theorem rrcput_any (no wire : Int) (num : Nat) (f u : Int) (A : Option Addr) (c : Nat) (run : List UInt8) (hn1 : -9223372036854775808 ≤ no) (hn2 : no ≤ 9223372036854775807) (hw1 : -9223372036854775808 ≤ wire) (hw2 : wire ≤ 9223372036854775807)
    (hnum : num < 18446744073709551616) (hl : run.length ≤ 140737488351232) (w : World) (h1 : SlB w A c run) :
    Calls Tryd.prog 16 #[ZV no wire num f u, .slice A run.length c] w fun e w' => ∃ A' c', e = .returned (.tuple #[.slice A' (recL no wire num run).length c', .bool (putB no wire)]) ∧ SlB w' A' c' (recL no wire num run) ∧ Below w.heap.size w w' := by
  obtain ⟨i0, hi, hz0, hz1, hz2⟩ := info_parts info_u8
  unfold ZV
  have h5 := putL_le5 (no := no) (wire := wire)
  by_cases hB : putB no wire = true
  · rw [recL_yes hB, hB]
    have hk := putB_iff.1 hB
    have hv10 := vput_len10 hnum
    have hr10 := vput_len10 (n := run.length) (by omega)
    have HB := Lib.hid hB
    clear hB
    generalize hP : putL no wire = P at *
    have HP := Lib.hid hP
    clear hP
    rcases hk with ⟨_, rfl | rfl | rfl | rfl⟩
    · -- a number
      have hR : restL 0 num run = vput num := by unfold restL; simp
      rw [hR]
      generalize hV : vput num = V at *
      have HV := Lib.hid hV
      clear hV hR
      have E1 : Hid (P.length + V.length = (P ++ V).length) := Lib.hid (by rw [List.length_append])
      have E2 : Hid (bs P ++ bs V = bs (P ++ V)) := Lib.hid (by rw [bs_append])
      generalize P ++ V = X at *
      go_enter Tryd.func16, Tryd.ntmps16
      go_wp2_with fail
      refine (rtput_own no 0 _).mono ?_
      rw [HP.out, HB.out]
      rintro e w1 ⟨v1, rfl, hown1, hb1⟩
      have hg1 := hb1.block w.heap.size (by simp)
      rw [heap_alloc_new] at hg1
      obtain ⟨q0, q1, q2, _, _⟩ := heap_cells hg1
      have hb1 := below_then (below_new w _) hb1
      go_wp2_with fail
      refine (rput_reads num hnum _).mono ?_
      rw [HV.out]
      rintro e w2 ⟨A2, c2, rfl, hr2, hb2⟩
      have hown2 := own_mono (own_below hown1 hb2) (show w.heap.size ≤ _ by simp)
      have hb2 := below_then hb1 hb2
      go_wp2_with (at_builtin; refine wpList_app_sl rfl _ _ 22 rfl w.heap.size 5 i0 (.int .u8 0) 1 1 Tryd.underlying22 hi hz0 hz1 hz2 rfl (by omega) v1 P.length (bs P) rfl hown2 A2 V.length c2 (bs V) rfl hr2 (bs_one V) (by unfold maxLen; omega) (by omega) hb2.size ?_; intro v3 w3 hown3 hg3; have hb3 : Below w.heap.size w w3 := hb2.grown hg3 hb2.size (own_ge hown2); rw [E1.out, E2.out] at hown3; obtain ⟨A4, c4, rfl, hr4⟩ := SlB.of_own hown3)
      go_ret2
      exact ⟨A4, c4, rfl, hr4, hb3⟩
    · -- eight bytes
      have hR : restL 1 num run = fixb num 8 := by unfold restL; simp
      rw [hR]
      have hVl : (fixb num 8).length = 8 := fixb_length _ _
      generalize hV : fixb num 8 = V at *
      have HV := Lib.hid hV
      clear hV hR
      have E1 : Hid (P.length + 8 = (P ++ V).length) := Lib.hid (by rw [List.length_append, hVl])
      have E2 : Hid (bs P ++ bs V = bs (P ++ V)) := Lib.hid (by rw [bs_append])
      have hRD : ∀ (w : World) A c, SlB w A c V → Sl w A 8 c 1 (bs V) := fun w A c h => by unfold SlB at h; rw [hVl] at h; exact h
      clear hVl
      generalize P ++ V = X at *
      go_enter Tryd.func16, Tryd.ntmps16
      go_wp2_with fail
      refine (rtput_own no 1 _).mono ?_
      rw [HP.out, HB.out]
      rintro e w1 ⟨v1, rfl, hown1, hb1⟩
      have hg1 := hb1.block w.heap.size (by simp)
      rw [heap_alloc_new] at hg1
      obtain ⟨q0, q1, q2, _, _⟩ := heap_cells hg1
      have hb1 := below_then (below_new w _) hb1
      go_wp2_with fail
      refine (rfixed_any num 8 (by omega) hnum _).mono ?_
      rw [HV.out]
      rintro e w2 ⟨A2, c2, rfl, hr2, hb2⟩
      have hown2 := own_mono (own_below hown1 hb2) (show w.heap.size ≤ _ by simp)
      have hb2 := below_then hb1 hb2
      have hr2' := hRD _ _ _ hr2
      clear hr2 hRD
      go_wp2_with (at_builtin; refine wpList_app_sl rfl _ _ 22 rfl w.heap.size 5 i0 (.int .u8 0) 1 1 Tryd.underlying22 hi hz0 hz1 hz2 rfl (by omega) v1 P.length (bs P) rfl hown2 A2 8 c2 (bs V) rfl hr2' (bs_one V) (by unfold maxLen; omega) (by omega) hb2.size ?_; intro v3 w3 hown3 hg3; have hb3 : Below w.heap.size w w3 := hb2.grown hg3 hb2.size (own_ge hown2); rw [E1.out, E2.out] at hown3; obtain ⟨A4, c4, rfl, hr4⟩ := SlB.of_own hown3)
      go_ret2
      exact ⟨A4, c4, rfl, hr4, hb3⟩
    · -- a run
      have hR : restL 2 num run = vput run.length ++ run := by unfold restL; simp
      rw [hR]
      have ew : IntKind.u64.wrap (run.length : Int) = run.length := by simp [IntKind.wrap, IntKind.signed, IntKind.bits]; omega
      generalize hV : vput run.length = V at *
      have HV := Lib.hid hV
      clear hV hR
      have E1 : Hid (P.length + V.length + run.length = (P ++ (V ++ run)).length) := Lib.hid (by simp only [List.length_append]; omega)
      have E2 : Hid (bs P ++ bs V ++ bs run = bs (P ++ (V ++ run))) := Lib.hid (by simp only [bs_append, List.append_assoc])
      generalize P ++ (V ++ run) = X at *
      go_enter Tryd.func16, Tryd.ntmps16
      go_wp2_with fail
      refine (rtput_own no 2 _).mono ?_
      rw [HP.out, HB.out]
      rintro e w1 ⟨v1, rfl, hown1, hb1⟩
      have hg1 := hb1.block w.heap.size (by simp)
      rw [heap_alloc_new] at hg1
      obtain ⟨q0, q1, q2, _, _⟩ := heap_cells hg1
      have hb1 := below_then (below_new w _) hb1
      go_wp2_with fail
      refine (rput_reads run.length (by omega) _).mono ?_
      rw [HV.out]
      rintro e w2 ⟨A2, c2, rfl, hr2, hb2⟩
      have hown2 := own_mono (own_below hown1 hb2) (show w.heap.size ≤ _ by simp)
      have hb2 := below_then hb1 hb2
      have h1' := h1
      clear h1
      go_wp2_with (first
        | (at_builtin; refine wpList_app_sl rfl _ _ 22 rfl w.heap.size 5 i0 (.int .u8 0) 1 1 Tryd.underlying22 hi hz0 hz1 hz2 rfl (by omega) v1 P.length (bs P) rfl hown2 A2 V.length c2 (bs V) rfl hr2 (bs_one V) (by unfold maxLen; omega) (by omega) hb2.size ?_; intro v3 w3 hown3 hg3; have hb3 : Below w.heap.size w w3 := hb2.grown hg3 hb2.size (own_ge hown2); have h3 := h1'.on hb3; clear hr2)
        | (at_builtin; refine wpList_app_sl rfl _ _ 22 rfl w.heap.size 5 i0 (.int .u8 0) 1 1 Tryd.underlying22 hi hz0 hz1 hz2 rfl (by omega) v3 (P.length + V.length) (bs P ++ bs V) rfl hown3 A run.length c (bs run) rfl h3 (bs_one run) (by unfold maxLen; omega) (by omega) hb3.size ?_; intro v4 w4 hown4 hg4; have hb4 : Below w.heap.size w w4 := hb3.grown hg4 hb3.size (own_ge hown3); rw [E1.out, E2.out] at hown4; obtain ⟨A4, c4, rfl, hr4⟩ := SlB.of_own hown4))
      go_ret2
      exact ⟨A4, c4, rfl, hr4, hb4⟩
    · -- four bytes
      have hR : restL 5 num run = fixb num 4 := by unfold restL; simp
      rw [hR]
      have hVl : (fixb num 4).length = 4 := fixb_length _ _
      generalize hV : fixb num 4 = V at *
      have HV := Lib.hid hV
      clear hV hR
      have E1 : Hid (P.length + 4 = (P ++ V).length) := Lib.hid (by rw [List.length_append, hVl])
      have E2 : Hid (bs P ++ bs V = bs (P ++ V)) := Lib.hid (by rw [bs_append])
      have hRD : ∀ (w : World) A c, SlB w A c V → Sl w A 4 c 1 (bs V) := fun w A c h => by unfold SlB at h; rw [hVl] at h; exact h
      clear hVl
      generalize P ++ V = X at *
      go_enter Tryd.func16, Tryd.ntmps16
      go_wp2_with fail
      refine (rtput_own no 5 _).mono ?_
      rw [HP.out, HB.out]
      rintro e w1 ⟨v1, rfl, hown1, hb1⟩
      have hg1 := hb1.block w.heap.size (by simp)
      rw [heap_alloc_new] at hg1
      obtain ⟨q0, q1, q2, _, _⟩ := heap_cells hg1
      have hb1 := below_then (below_new w _) hb1
      go_wp2_with fail
      refine (rfixed_any num 4 (by omega) hnum _).mono ?_
      rw [HV.out]
      rintro e w2 ⟨A2, c2, rfl, hr2, hb2⟩
      have hown2 := own_mono (own_below hown1 hb2) (show w.heap.size ≤ _ by simp)
      have hb2 := below_then hb1 hb2
      have hr2' := hRD _ _ _ hr2
      clear hr2 hRD
      go_wp2_with (at_builtin; refine wpList_app_sl rfl _ _ 22 rfl w.heap.size 5 i0 (.int .u8 0) 1 1 Tryd.underlying22 hi hz0 hz1 hz2 rfl (by omega) v1 P.length (bs P) rfl hown2 A2 4 c2 (bs V) rfl hr2' (bs_one V) (by unfold maxLen; omega) (by omega) hb2.size ?_; intro v3 w3 hown3 hg3; have hb3 : Below w.heap.size w w3 := hb2.grown hg3 hb2.size (own_ge hown2); rw [E1.out, E2.out] at hown3; obtain ⟨A4, c4, rfl, hr4⟩ := SlB.of_own hown3)
      go_ret2
      exact ⟨A4, c4, rfl, hr4, hb3⟩
  · have hB : putB no wire = false := by simpa using hB
    rw [recL_no hB, hB]
    have HB := Lib.hid hB
    have hP := putL_no hB
    clear hB
    go_enter Tryd.func16, Tryd.ntmps16
    go_wp2_with fail
    refine (rtput_own no wire _).mono ?_
    rw [HB.out, hP]
    rintro e w1 ⟨v1, rfl, hown1, hb1⟩
    go_wp2
    go_ret2
    exact ⟨none, 0, rfl, SlB.nil _, below_then (below_new _ _) hb1⟩
end Go.Proofs.YtpaggpcpflmpcaaDoor
