/-
  The document's own Parse.
-/
import Derived.Test.YtceomdbahiimlaaDoorSexRnod2
namespace Go.Proofs.YtceomdbahiimlaaDoor.T14
set_option maxRecDepth 100000

open Go.RowKit

theorem node_any {TT : List T} (hT : TT.length ≤ 1000) : ∀ f, NodeH TT f
  | 0 => fun a i w A c h1 h2 => by omega
  | f + 1 => node_step hT (node_any hT f)
/-- What the document's own Parse tells. -/
def RPost (w : World) (r : Nd × Nat × Nat) (e : Ending) (w' : World) : Prop :=
  ∃ X : LN, e = .returned (.tuple #[X.val, .int .i64 r.2.1, .int .i64 r.2.2]) ∧ X.bare = r.1 ∧ Lies w.heap.size 1200 w' X.rows ∧ Below w.heap.size w w'
set_option maxRecDepth 1000000 in
set_option maxHeartbeats 8000000 in
theorem rparse14_any (s : ByteArray) (hs : s.size ≤ 1000000) (w : World) :
    Calls Tryd.prog 12 #[.string s] w (RPost w (parR Lib.itoa s.data.toList)) := by
  have hb0 := below_new w (.cells #[.int .i64 0, .string ⟨#[]⟩, .int .i64 0, .int .i64 0, .slice none 0 0] 24)
  have HX0 := Lib.hid (heap_alloc_new w (.cells #[.int .i64 0, .string ⟨#[]⟩, .int .i64 0, .int .i64 0, .slice none 0 0] 24))
  have HALL := Lib.hid (rall_any s hs (w.alloc (.cells #[.int .i64 0, .string ⟨#[]⟩, .int .i64 0, .int .i64 0, .slice none 0 0] 24)))
  have hsl : s.data.toList.length = s.size := by simp
  have HB0 := Lib.hid hb0
  have HR : Hid (parR Lib.itoa s.data.toList = if allE Lib.itoa s.data.toList ≠ 0 then (Nd.zero, allAt Lib.itoa s.data.toList, allE Lib.itoa s.data.toList) else endP s.size (runP (allT Lib.itoa s.data.toList) ⟨[], none⟩)) := Lib.hid (by unfold parR; rw [hsl])
  have hTl : (allT Lib.itoa s.data.toList).length ≤ 1000 := by
    rcases all_cases (it := Lib.itoa) s.data.toList with ⟨_, _, h, _⟩ | ⟨h, _⟩
    · exact h
    · rw [h]; simp
  generalize parR Lib.itoa s.data.toList = PR at *
  generalize allT Lib.itoa s.data.toList = TT at *
  generalize allAt Lib.itoa s.data.toList = AA at *
  generalize allE Lib.itoa s.data.toList = EE at *
  clear hsl hb0
  go_enter Tryd.func12, Tryd.ntmps12
  go_wp2_with fail
  refine HALL.out.mono ?_
  rintro e w1 ⟨v, rfl, hown, hb1⟩
  obtain ⟨A, c, rfl, hT⟩ := SlT.of_own hown
  have hX1 := (hb1.block _ (box_lt HX0.out)).trans HX0.out
  have HAD : Hid (∀ ad, A = some ad → w.heap.size < ad.block) := Lib.hid fun ad e => by
    have := (hown.lt ad.block (by rw [e]; rfl)).1
    simp at this
    omega
  have HB1 := Lib.hid (below_then HB0.out hb1)
  by_cases hE : EE = 0
  · have dE : ((EE : Int) != 0) = false := by simp [hE]
    have HND := Lib.hid (node_any hTl (TT.length + 1) 0 0 w1 A c (Nat.zero_le _) (by omega) (by omega) (fun h => absurd rfl h) hT)
    have HT := Lib.hid hT
    clear hown hb1 hT
    go_wp2_with fail
    refine HND.out.mono ?_
    rintro e w2 ⟨Y, mx, er, rfl, hly, hb2, hnd, hmx⟩
    obtain ⟨Ay, cy, hgy⟩ := LN.shape hly
    have hbY := below_new w2 (.cells #[.int .i64 Y.kind, .string (tx Y.text), .int .i64 Y.num, .int .i64 Y.at_, .slice Ay Y.l.length cy] 24)
    have hb3 := below_then hb2 hbY
    have hX3 := (hb3.block _ (box_lt hX1)).trans hX1
    have HB3 := Lib.hid (below_then HB1.out hb3)
    have HT3 := Lib.hid (HT.out.on hb3)
    have HLY := Lib.hid (And.intro hly hnd)
    by_cases he : er = 0
    · subst he
      rcases hnd with ⟨-, z1, z2, z3⟩ | ⟨h0, -⟩
      · have HZ := Lib.hid (z3 [] rfl)
        by_cases hlt : mx < TT.length
        · have d1 : decide (mx < TT.length) = true := by rw [decide_eq_true_eq]; exact hlt
          have d2 : decide ((mx : Int) < (TT.length : Int)) = true := by rw [decide_eq_true_eq]; omega
          obtain ⟨ad, t, rfl, hadb, ht, t0, t1, t2, t3⟩ := SlT.at_ HT3.out hlt
          have HTT := Lib.hid ht
          unfold LN.val
          rw [hgy]
          clear hgy hly hb2 hb3 hbY z3 ht t0 t1 t2
          obtain ⟨n0, n1, n2, n3, n4⟩ := five_cells hX3
          have hfz := box_froz hX3
          obtain ⟨qq1, qq2⟩ := node_filled hX3 (.int .i64 0) (.string ⟨#[]⟩) (.int .i64 0) (.int .i64 0) (.slice none 0 0)
          have hadR : w.heap.size < ad.block := HAD.out ad rfl
          have T5 := (qq2.cell_far ⟨(ad.add (mx * 4)).block, (ad.add (mx * 4)).off + 3, none⟩ (by show (ad.add (mx * 4)).block < _; rw [add_same_block]; exact hadb) (by show some (ad.add (mx * 4)).block ≠ _; rw [add_same_block]; simp; omega)).trans t3
          go_wp2
          go_region
          go_wp2
          refine bodyPost_ret (results_nd rfl _ _ w.heap.size rfl qq1) rfl ?_
          have hPR : PR = (Nd.zero, t.at_, 4) := by
            have h1 : runP TT ⟨[], none⟩ = .error (4, t.at_) := by
              have h2 := HZ.out
              rw [List.drop_zero] at h2
              rw [h2, drop_cons HTT.out, runP]
              have : stepP t (putP [] Y.bare) = .error 4 := by simp [stepP, putP]
              rw [this]
            rw [HR.out, if_neg (by omega), h1]
            rfl
          rw [hPR]
          exact ⟨LN.zero, rfl, zero_bare, zero_lies _ _ _, (HB3.out.trans ((below_own qq2 (Nat.le_refl _) HB3.out.size))).drew⟩
        · have d1 : decide (mx < TT.length) = false := by rw [decide_eq_false_iff_not]; exact hlt
          have d2 : decide ((mx : Int) < (TT.length : Int)) = false := by rw [decide_eq_false_iff_not]; omega
          obtain ⟨n0, n1, n2, n3, n4⟩ := five_cells (heap_alloc_new w2 (.cells #[.int .i64 Y.kind, .string (tx Y.text), .int .i64 Y.num, .int .i64 Y.at_, .slice Ay Y.l.length cy] 24))
          have HGY := Lib.hid hgy
          unfold LN.val
          rw [hgy]
          clear hgy hly hb2 hb3 z3
          go_wp2_with (refine wpList_store_nd rfl _ _ rfl rfl w.heap.size _ _ _ _ _ _ _ rfl rfl _ _ _ _ _ _ hX3 ?_)
          refine bodyPost_ret (results_nd rfl _ _ w.heap.size rfl (setRow_heap _ _ _ _ _ _ hX3)) rfl ?_
          have hPR : PR = (Y.bare, s.size, 0) := by
            have h1 : runP TT ⟨[], none⟩ = .ok ⟨[], some Y.bare⟩ := by
              have h2 := HZ.out
              rw [List.drop_zero, List.drop_of_length_le (by omega)] at h2
              exact h2
            rw [HR.out, if_neg (by omega), h1]
            rfl
          rw [hPR]
          refine ⟨Y, ?_, rfl, ?_, below_setRow HB3.out (Nat.le_refl _) _⟩
          · unfold LN.val
            rw [HGY.out]
            rfl
          · exact ((HLY.out.1.on hbY).kept fun j hj => setRow_other _ _ _ _ (by have := ((HLY.out.1.on hbY).old hj).1; have := box_lt hX1; omega)).less (Nat.le_of_lt (box_lt hX1))
      · exact absurd rfl h0
    · have d2 : ((er : Int) != 0) = true := by rw [bne_iff_ne]; omega
      rcases HLY.out.2 with ⟨h0, -⟩ | ⟨-, -, h2⟩
      · exact absurd h0 he
      · obtain ⟨h3, h4⟩ := h2 [] rfl
        rw [List.drop_zero] at h3 h4
        obtain ⟨pv, hPL, hPR⟩ : ∃ pv : Nat, (Calls Tryd.prog 24 #[.slice A TT.length c, .int .i64 mx, .int .i64 s.size] (w2.alloc (.cells #[.int .i64 Y.kind, .string (tx Y.text), .int .i64 Y.num, .int .i64 Y.at_, .slice Ay Y.l.length cy] 24)) fun e w' => e = .returned (.int .i64 pv) ∧ (w2.alloc (.cells #[.int .i64 Y.kind, .string (tx Y.text), .int .i64 Y.num, .int .i64 Y.at_, .slice Ay Y.l.length cy] 24)) = w') ∧ PR = (Nd.zero, pv, er) := by
          have hPL := place_any TT A c mx s.size _ HT3.out
          cases hm : TT[mx]? with
          | some t =>
            simp only [hm] at hPL
            refine ⟨t.at_, hPL, ?_⟩
            rw [HR.out, if_neg (by omega), h3 t hm]
            rfl
          | none =>
            simp only [hm] at hPL
            obtain ⟨rfl, p, hp, hpw⟩ := h4 hm
            refine ⟨s.size, hPL, ?_⟩
            rw [HR.out, if_neg (by omega), hp]
            unfold endP
            simp only [hpw]
        have HPL := Lib.hid hPL
        have HPR := Lib.hid hPR
        unfold LN.val
        rw [hgy]
        clear hgy hly hb2 hb3 hnd h2 h3 h4 hPR hPL
        go_wp2_with (first
          | (go_at_call 24; refine HPL.out.mono ?_; rintro e w5 ⟨rfl, rfl⟩)
          | (refine wpList_store_nd rfl _ _ rfl rfl w.heap.size _ _ _ _ _ _ _ rfl rfl _ _ _ _ _ _ hX3 ?_))
        refine bodyPost_ret (results_nd rfl _ _ w.heap.size rfl (setRow_heap _ _ _ _ _ _ hX3)) rfl ?_
        rw [HPR.out]
        exact ⟨LN.zero, rfl, zero_bare, zero_lies _ _ _, below_setRow HB3.out (Nat.le_refl _) _⟩
  · have dE : ((EE : Int) != 0) = true := by rw [bne_iff_ne]; omega
    have HB2 := Lib.hid (below_setRow HB1.out (Nat.le_refl _) #[.int .i64 0, .string ⟨#[]⟩, .int .i64 0, .int .i64 0, .slice none 0 0])
    clear hown hb1 hT
    go_wp2_with (refine wpList_store_nd rfl _ _ rfl rfl w.heap.size _ _ _ _ _ _ _ rfl rfl _ _ _ _ _ _ hX1 ?_)
    refine bodyPost_ret (results_nd rfl _ _ w.heap.size rfl (setRow_heap _ _ _ _ _ _ hX1)) rfl ?_
    refine ⟨LN.zero, ?_, ?_, zero_lies _ _ _, HB2.out⟩
    · rw [HR.out, if_pos hE]; rfl
    · rw [HR.out, if_pos hE]; exact zero_bare
end Go.Proofs.YtceomdbahiimlaaDoor.T14
