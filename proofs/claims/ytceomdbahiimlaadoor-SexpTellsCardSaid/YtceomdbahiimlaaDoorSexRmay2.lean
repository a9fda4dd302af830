/-
  The document's own May of nodes, at every depth.
-/
import Derived.Test.YtceomdbahiimlaaDoorSexRmay
namespace Go.Proofs.YtceomdbahiimlaaDoor.T14
set_option maxRecDepth 100000

open Go.RowKit

theorem mayI_list {x : Nd} {i : Nat} (h : x.kind = 4) : mayI x i = (decide (x.text = []) && decide (x.num = 0) && decide (i < 16) && x.l.all fun y => mayI y (i + 1)) := by
  rw [mayI_eq]
  unfold fitB
  rw [if_pos h]
set_option maxRecDepth 1000000 in
set_option maxHeartbeats 8000000 in
theorem rmay_step {B d : Nat} (H : RMayH B d) : RMayH B (d + 1) := by
  intro x u i w hB hx hsm hi
  by_cases h4 : x.kind = 4
  · have hx0 := hx
    obtain ⟨u', hu, hl⟩ := hx0
    obtain rfl : u = u' := by simpa using hu
    obtain ⟨A, c, xs, rfl, hs, hbl, hr, hn⟩ := hl.open_
    have HI : Hid (mayI x i = (decide (x.text = []) && decide (x.num = 0) && decide (i < 16) && x.l.all fun y => mayI y (i + 1))) := Lib.hid (mayI_list h4)
    have HS := Lib.hid hs
    have HBL := Lib.hid hbl
    have HR := Lib.hid hr
    have HH := Lib.hid H
    have HSM := Lib.hid hsm
    generalize mayI x i = MI at *
    rw [h4]
    generalize x.num = nu at *
    generalize x.text = te at *
    have HX := Lib.hid (heap_alloc_new w (.cells #[.int .i64 4, .string (tx te), .int .i64 nu, .int .i64 x.at_, .slice A x.l.length c] 24))
    have hbW := below_new w (.cells #[.int .i64 4, .string (tx te), .int .i64 nu, .int .i64 x.at_, .slice A x.l.length c] 24)
    have HBW := Lib.hid hbW
    obtain ⟨n0, n1, n2, n3, n4⟩ := five_cells HX.out
    clear hs hbl hr hl H hsm hu hx h4
    by_cases h16 : 16 ≤ i
    · have d1 : decide (16 ≤ i) = true := by rw [decide_eq_true_eq]; exact h16
      have d2 : decide ((16 : Int) ≤ (i : Int)) = true := by rw [decide_eq_true_eq]; omega
      have hf : Hid (MI = false) := Lib.hid (by rw [HI.out]; simp; omega)
      clear h16 hbW
      go_enter Tryd.func27, Tryd.ntmps27
      go_wp2
      go_ret
      exact ⟨by rw [hf.out]; rfl, HBW.out⟩
    · have d1 : decide (16 ≤ i) = false := by rw [decide_eq_false_iff_not]; exact h16
      have d2 : decide ((16 : Int) ≤ (i : Int)) = false := by rw [decide_eq_false_iff_not]; omega
      cases te with
      | nil =>
        have d3 : (tx []).toList.isEmpty = true := by rw [Lib.toList_data]; rfl
        by_cases hnu : nu = 0
        · subst hnu
          have HI2 : Hid (MI = x.l.all fun y => mayI y (i + 1)) := Lib.hid (by rw [HI.out]; simp; omega)
          have d5 : IntKind.i64.wrap ((i : Int) + 1) = (i : Int) + 1 := by rw [IntKind.wrap_i64]; omega
          clear HI
          go_enter Tryd.func27, Tryd.ntmps27
          go_wp2
          obtain ⟨W, hW⟩ : ∃ W, W = w.alloc (.cells #[.int .i64 4, .string (tx []), .int .i64 0, .int .i64 x.at_, .slice A x.l.length c] 24) := ⟨_, rfl⟩
          have X1 : W.heap[w.heap.size]? = some (.cells #[.int .i64 4, .string (tx []), .int .i64 0, .int .i64 x.at_, .slice A x.l.length c] 24 (0, 0)) := by rw [hW]; exact HX.out
          have HBW2 : Hid (Below w.heap.size w W) := Lib.hid (by rw [hW]; exact hbW)
          rw [← hW]
          clear hW HX HBW hbW n0 n1 n2 n3 n4 d3
          go_loopw [5, 6] (fun j r wx => ∃ t : Nat, j = .int .i64 t ∧ t ≤ x.l.length ∧ ((x.l.take t).all fun y => mayI y (i + 1)) = true ∧ Below W.heap.size W wx) (fun j _ _ => x.l.length - (intOf j).toNat)
          case atStart => exact ⟨0, rfl, by omega, rfl, Below.refl _ _⟩
          case round =>
            obtain ⟨t, rfl, ht, htt, hbx⟩ := hrel
            have HTT := Lib.hid htt
            have HBX := Lib.hid hbx
            have HBA := Lib.hid (HBW2.out.trans (hbx.mono HBW2.out.size))
            obtain ⟨n0, n1, n2, n3, n4⟩ := five_cells ((hbx.block _ (box_lt X1)).trans X1)
            clear htt hbx
            by_cases htl : t < x.l.length
            · obtain ⟨y, hy⟩ : ∃ y, x.l[t]? = some y := ⟨_, List.getElem?_eq_getElem htl⟩
              have hlo := Lo.below HBA.out hB
              obtain ⟨ad1, uy, rfl, hg1, hcy, p0, p1, p2, p3, p4⟩ := row5e (sl_low HS.out HBL.out hlo) (HR.out.imp fun a cs h => NRd.low hlo h) hy
              obtain ⟨A3, c3, rfl⟩ := NAt.shape hcy
              have HC := Lib.hid (HH.out y _ (i + 1) wr (Nat.le_trans hB HBA.out.size) hcy (HSM.out.below (List.mem_of_getElem? hy)) (by omega))
              have HY := Lib.hid hy
              obtain ⟨r, hr⟩ : ∃ r, mayI y (i + 1) = r := ⟨_, rfl⟩
              rw [hr] at HC
              have HRR := Lib.hid hr
              clear hcy hy hlo hr
              go_wp2_with fail
              refine HC.out.mono ?_
              rintro e w9 ⟨rfl, hb9⟩
              cases r with
              | true =>
                go_wp2
                refine ⟨⟨t + 1, ?_, by omega, ?_, HBX.out.trans (hb9.mono HBX.out.size)⟩, ?_⟩
                · go_num
                · rw [List.take_add_one, HY.out, List.all_append, HTT.out]
                  simp [HRR.out]
                · simp [intOf]; omega
              | false =>
                have hf : Hid (MI = false) := Lib.hid (by
                  rw [HI2.out, List.all_eq_false]
                  exact ⟨y, List.mem_of_getElem? HY.out, by rw [HRR.out]; simp⟩)
                go_wp2
                go_ret
                exact ⟨by rw [hf.out]; rfl, HBA.out.trans (hb9.mono HBA.out.size)⟩
            · obtain rfl : t = x.l.length := by omega
              have hf : Hid (MI = true) := Lib.hid (by rw [HI2.out]; have := HTT.out; rwa [List.take_length] at this)
              go_wp2
              go_ret
              exact ⟨by rw [hf.out]; rfl, HBA.out⟩
        · have d4 : (nu == 0) = false := by rw [beq_eq_false_iff_ne]; exact hnu
          have hf : Hid (MI = false) := Lib.hid (by rw [HI.out]; simp [hnu])
          clear hbW hnu
          go_enter Tryd.func27, Tryd.ntmps27
          go_wp2
          go_ret
          exact ⟨by rw [hf.out]; rfl, HBW.out⟩
      | cons q te =>
        have d3 : (tx (q :: te)).toList.isEmpty = false := by rw [show (tx (q :: te)).toList = q :: te from txt_toList _]; rfl
        have hf : Hid (MI = false) := Lib.hid (by rw [HI.out]; simp)
        clear hbW
        go_enter Tryd.func27, Tryd.ntmps27
        go_wp2
        go_ret
        exact ⟨by rw [hf.out]; rfl, HBW.out⟩
  · rw [mayI_leaf h4]
    exact rmay_leaf x u i w hB hx hsm h4
theorem rmay_all (B : Nat) : ∀ d, RMayH B d
  | 0 => fun _ _ _ _ _ h => h.elim
  | d + 1 => rmay_step (rmay_all B d)
set_option maxRecDepth 1000000 in
set_option maxHeartbeats 4000000 in
/-- May. -/
theorem rmay_any (d : Nat) (x : Nd) (u : Value) (w : World) (hx : NAt (Rd w.heap.size w) d x [.int .i64 x.kind, .string (tx x.text), .int .i64 x.num, .int .i64 x.at_, u]) (hsm : Sm 1000000 x) :
    Calls Tryd.prog 15 #[.agg #[.int .i64 x.kind, .string (tx x.text), .int .i64 x.num, .int .i64 x.at_, u]] w fun e w' => e = .returned (.bool (mayB Lib.itoa x)) ∧ Below w.heap.size w w' := by
  obtain ⟨A, c, rfl⟩ := NAt.shape hx
  have hbW := below_new w (.cells #[.int .i64 x.kind, .string (tx x.text), .int .i64 x.num, .int .i64 x.at_, .slice A x.l.length c] 24)
  obtain ⟨n0, n1, n2, n3, n4⟩ := five_cells (heap_alloc_new w (.cells #[.int .i64 x.kind, .string (tx x.text), .int .i64 x.num, .int .i64 x.at_, .slice A x.l.length c] 24))
  have HC := Lib.hid (rmay_all w.heap.size d x _ 0 _ hbW.size (NRd.low (Lo.below hbW (Nat.le_refl _)) hx) hsm (by decide))
  have HBW := Lib.hid hbW
  clear hx hsm hbW
  go_enter Tryd.func15, Tryd.ntmps15
  go_wp2_with fail
  refine HC.out.mono ?_
  rintro e w9 ⟨rfl, hb9⟩
  go_wp2
  go_ret
  exact ⟨rfl, below_then HBW.out hb9⟩
end Go.Proofs.YtceomdbahiimlaaDoor.T14
