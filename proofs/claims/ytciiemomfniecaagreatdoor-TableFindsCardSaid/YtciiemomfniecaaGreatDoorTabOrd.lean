/-
  Is a schema not too great: the contract of the document's own.
-/
import Derived.Test.YtciiemomfniecaaGreatDoorTabFew
import Derived.Test.YtciiemomfniecaaGreatDoorBytes
import Derived.Test.YtciiemomfniecaaGreatDoorTabDrop
import Derived.Test.YtciiemomfniecaaGreatDoorRawOpen
import Derived.Deep.AppendLies
import Derived.Deep.RegionHeldLaw
import Derived.Laws.OwnMore
namespace Go.Proofs.YtciiemomfniecaaGreatDoor
set_option maxRecDepth 100000

open Go.RowKit

def fewMd (m : Md) : Bool := decide (m.F.length ≤ 60)
def fewEd (e : Ed) : Bool := decide (e.V.length ≤ 60) && decide (e.N.length ≤ 60)
def fewS (s : Sc) : Bool := decide (s.M.length ≤ 30) && decide (s.E.length ≤ 30) && s.M.all fewMd && s.E.all fewEd
set_option maxRecDepth 1000000 in
set_option maxHeartbeats 4000000 in
theorem fews_any (B : Nat) (f : Sc) (vM vE : Value) (w : World) (hB : B ≤ w.heap.size) (hf : SAt B w f vM vE) :
    Calls Tryz.prog 11 #[.agg #[vM, vE]] w fun e w' => e = .returned (.bool (fewS f)) ∧ Below w.heap.size w w' := by
  obtain ⟨xs, ys, ⟨A1, q1, rfl, s1, b1⟩, h2, ⟨A2, q2, rfl, s2, b2⟩, h4⟩ := hf
  obtain ⟨M, E⟩ := f
  simp only at s1 s2 h2 h4 b1 b2
  have HS : Hid (fewS ⟨M, E⟩ = ((decide (M.length ≤ 30) && decide (E.length ≤ 30)) && M.all fewMd && E.all fewEd)) := Lib.hid rfl
  have hlow := Low.alloc w (.cells #[.slice A1 M.length q1, .slice A2 E.length q2] 29) hB
  have HM := Lib.hid (s1.low b1 hlow)
  have HMA := Lib.hid (h2.low hlow)
  have HE := Lib.hid (s2.low b2 hlow)
  have HEA := Lib.hid (h4.low hlow)
  have hbox := heap_alloc_new w (.cells #[.slice A1 M.length q1, .slice A2 E.length q2] 29)
  have hbw := below_new w (.cells #[.slice A1 M.length q1, .slice A2 E.length q2] 29)
  by_cases hsm : M.length ≤ 30 ∧ E.length ≤ 30
  · have d1 : decide ((M.length : Int) ≤ 30) = true := by rw [decide_eq_true_eq]; omega
    have d2 : decide ((E.length : Int) ≤ 30) = true := by rw [decide_eq_true_eq]; omega
    have HS1 : Hid (fewS ⟨M, E⟩ = (M.all fewMd && E.all fewEd)) := Lib.hid (by rw [HS.out, decide_eq_true hsm.1, decide_eq_true hsm.2]; simp)
    have hml := hsm.1
    have hel := hsm.2
    clear hsm
    go_enter Tryz.func11, Tryz.ntmps11
    go_wp2_with fail
    generalize w.alloc (.cells #[.slice A1 M.length q1, .slice A2 E.length q2] 29) = W at *
    have HBW := Lib.hid hbw
    have b0 := heap_cell hbox 0
    have b1 := heap_cell hbox 1
    simp at b0 b1
    clear hbw hbox
    go_wp2
    go_loopw [3, 4] (fun o i wr => ∃ (k : Nat) (b : Bool), i = .int .i64 k ∧ o = .bool b ∧ k ≤ M.length ∧ b = (M.take k).all fewMd ∧ wr = W) (fun _ i _ => M.length - (intOf i).toNat)
    case atStart => exact ⟨0, true, rfl, rfl, by omega, by simp, rfl⟩
    case round =>
      obtain ⟨k, b, rfl, rfl, hk, hb, rfl⟩ := hrel
      have HB := Lib.hid hb
      clear hb
      by_cases hlt : k < M.length
      · cases b with
        | true =>
          obtain ⟨m, hm⟩ : ∃ m, M[k]? = some m := ⟨_, List.getElem?_eq_getElem hlt⟩
          obtain ⟨ad, vF, rfl, hg, hmr, c0, c1⟩ := mdr_at HM.out HMA.out hm
          obtain ⟨AF, cF, rfl, -, -⟩ := hmr
          have HN := Lib.hid (all_next (g := fewMd) hm)
          have HF : Hid (fewMd m = decide ((m.F.length : Int) ≤ 60)) := Lib.hid (by unfold fewMd; congr 1; apply propext; omega)
          clear hm c0
          go_wp2
          refine ⟨⟨k + 1, _, by go_num, rfl, by omega, ?_, trivial⟩, by simp [intOf]; omega⟩
          have h := HB.out
          rw [HN.out, ← h, HF.out, Bool.true_and]
        | false =>
          obtain ⟨c, hc⟩ : ∃ c, c = false := ⟨_, rfl⟩
          have HS2 : Hid (fewS ⟨M, E⟩ = (c && E.all fewEd)) := Lib.hid (by rw [HS1.out, hc, all_part HB.out.symm])
          go_wp2
          go_loopw [3, 5] (fun o i wx => ∃ (k : Nat) (b : Bool), i = .int .i64 k ∧ o = .bool b ∧ k ≤ E.length ∧ b = (c && (E.take k).all fewEd) ∧ wx = wr) (fun _ i _ => E.length - (intOf i).toNat)
          case atStart => exact ⟨0, c, rfl, by rw [hc], by omega, by simp, rfl⟩
          case round =>
            obtain ⟨k, b, rfl, rfl, hk2, hb2, rfl⟩ := hrel
            have HB2 := Lib.hid hb2
            clear hb2
            by_cases hlt2 : k < E.length
            · cases b with
              | false =>
                go_wp2
                go_ret
                exact ⟨by rw [HS2.out, few_end HB2.out]; rfl, HBW.out⟩
              | true =>
                obtain ⟨e, he⟩ : ∃ e, E[k]? = some e := ⟨_, List.getElem?_eq_getElem hlt2⟩
                obtain ⟨ad2, vV, vN, rfl, hg2, hmr2, hnr2, g0, g1, g2⟩ := edr_at HE.out HEA.out he
                obtain ⟨AV, cV, rfl, -, -⟩ := hmr2
                obtain ⟨AN, cN, rfl, -, -⟩ := hnr2
                have HN2 := Lib.hid (all_next (g := fewEd) he)
                have HV : Hid (fewEd e = (decide ((e.V.length : Int) ≤ 60) && decide ((e.N.length : Int) ≤ 60))) := Lib.hid (by
                  have e60 : ∀ n : Nat, decide (n ≤ 60) = decide ((n : Int) ≤ 60) := fun n => by congr 1; apply propext; omega
                  unfold fewEd
                  rw [e60, e60])
                clear he g0
                obtain ⟨a1, ha1⟩ : ∃ a, decide ((e.V.length : Int) ≤ 60) = a := ⟨_, rfl⟩
                rw [ha1] at HV
                cases a1
                all_goals
                  go_wp2
                  refine ⟨⟨k + 1, _, by go_num, rfl, by omega, ?_, trivial⟩, by simp [intOf]; omega⟩
                  have h := HB2.out
                  rw [HN2.out, ← Bool.and_assoc, ← h, Bool.true_and, HV.out]
                  simp
            · obtain rfl : k = E.length := by omega
              go_wp2
              go_ret
              exact ⟨by rw [HS2.out]; have h := HB2.out; rw [List.take_length] at h; rw [← h]; rfl, HBW.out⟩
      · obtain rfl : k = M.length := by omega
        have HS2 : Hid (fewS ⟨M, E⟩ = (b && E.all fewEd)) := Lib.hid (by rw [HS1.out]; have h := HB.out; rw [List.take_length] at h; rw [h])
        obtain ⟨c, hc⟩ : ∃ c, c = b := ⟨_, rfl⟩
        rw [← hc] at HS2
        clear HB
        go_wp2
        go_loopw [3, 5] (fun o i wx => ∃ (k : Nat) (b : Bool), i = .int .i64 k ∧ o = .bool b ∧ k ≤ E.length ∧ b = (c && (E.take k).all fewEd) ∧ wx = wr) (fun _ i _ => E.length - (intOf i).toNat)
        case atStart => exact ⟨0, c, rfl, by rw [hc], by omega, by simp, rfl⟩
        case round =>
          obtain ⟨k, b, rfl, rfl, hk2, hb2, rfl⟩ := hrel
          have HB2 := Lib.hid hb2
          clear hb2
          by_cases hlt2 : k < E.length
          · cases b with
            | false =>
              go_wp2
              go_ret
              exact ⟨by rw [HS2.out, few_end HB2.out]; rfl, HBW.out⟩
            | true =>
              obtain ⟨e, he⟩ : ∃ e, E[k]? = some e := ⟨_, List.getElem?_eq_getElem hlt2⟩
              obtain ⟨ad2, vV, vN, rfl, hg2, hmr2, hnr2, g0, g1, g2⟩ := edr_at HE.out HEA.out he
              obtain ⟨AV, cV, rfl, -, -⟩ := hmr2
              obtain ⟨AN, cN, rfl, -, -⟩ := hnr2
              have HN2 := Lib.hid (all_next (g := fewEd) he)
              have HV : Hid (fewEd e = (decide ((e.V.length : Int) ≤ 60) && decide ((e.N.length : Int) ≤ 60))) := Lib.hid (by
                have e60 : ∀ n : Nat, decide (n ≤ 60) = decide ((n : Int) ≤ 60) := fun n => by congr 1; apply propext; omega
                unfold fewEd
                rw [e60, e60])
              clear he g0
              obtain ⟨a1, ha1⟩ : ∃ a, decide ((e.V.length : Int) ≤ 60) = a := ⟨_, rfl⟩
              rw [ha1] at HV
              cases a1
              all_goals
                go_wp2
                refine ⟨⟨k + 1, _, by go_num, rfl, by omega, ?_, trivial⟩, by simp [intOf]; omega⟩
                have h := HB2.out
                rw [HN2.out, ← Bool.and_assoc, ← h, Bool.true_and, HV.out]
                simp
          · obtain rfl : k = E.length := by omega
            go_wp2
            go_ret
            exact ⟨by rw [HS2.out]; have h := HB2.out; rw [List.take_length] at h; rw [← h]; rfl, HBW.out⟩
  · have HF : Hid (fewS ⟨M, E⟩ = false) := Lib.hid (by
      rw [HS.out]
      by_cases h1 : M.length ≤ 30
      · have h2 : ¬ E.length ≤ 30 := fun h => hsm ⟨h1, h⟩
        simp [h2]
      · simp [h1])
    have hor : decide ((M.length : Int) ≤ 30) = false ∨ (decide ((M.length : Int) ≤ 30) = true ∧ decide ((E.length : Int) ≤ 30) = false) := by
      by_cases h1 : M.length ≤ 30
      · right
        have h2 : ¬ E.length ≤ 30 := fun h => hsm ⟨h1, h⟩
        exact ⟨by rw [decide_eq_true_eq]; omega, by rw [decide_eq_false_iff_not]; omega⟩
      · left
        rw [decide_eq_false_iff_not]; omega
    have HBW := Lib.hid hbw
    clear hsm HS HM HMA HE HEA hbw
    rcases hor with d1 | ⟨d1, d2⟩
    all_goals
      go_enter Tryz.func11, Tryz.ntmps11
      go_wp2_with fail
      generalize w.alloc (.cells #[.slice A1 M.length q1, .slice A2 E.length q2] 29) = W at *
      have b0 := heap_cell hbox 0
      have b1 := heap_cell hbox 1
      simp at b0 b1
      clear hbox
      go_wp2
      go_loopw [3, 4] (fun o i wr => ∃ k : Nat, i = .int .i64 k ∧ o = .bool false ∧ k ≤ M.length ∧ wr = W) (fun _ _ _ => 0)
      case atStart => exact ⟨0, rfl, rfl, by omega, rfl⟩
      case round =>
        obtain ⟨k, rfl, rfl, hk, rfl⟩ := hrel
        by_cases hlt : k < M.length
        all_goals
          go_wp2
          go_loopw [3, 5] (fun o i wx => ∃ k : Nat, i = .int .i64 k ∧ o = .bool false ∧ k ≤ E.length ∧ wx = wr) (fun _ _ _ => 0)
          case atStart => exact ⟨0, rfl, rfl, by omega, rfl⟩
          case round =>
            obtain ⟨k2, rfl, rfl, hk2, rfl⟩ := hrel
            by_cases hlt2 : k2 < E.length
            all_goals
              go_wp2
              go_ret
              exact ⟨by rw [HF.out]; rfl, HBW.out⟩
end Go.Proofs.YtciiemomfniecaaGreatDoor
/-
  What a law's region keeps that takes two results, one of them a struct, of a function that makes memory ('x, ok := f(..)'): a box of two cells, two cells more, and the struct's own box.
-/
namespace Go.Proofs.YtciiemomfniecaaGreatDoor
set_option maxRecDepth 100000

open Go.RowKit

theorem cell_lt {w : World} {p : Addr} {v : Value} (h : w.cell? p = some v) : p.block < w.heap.size := by
  unfold World.cell? at h
  by_cases hb : p.block < w.heap.size
  · exact hb
  · rw [Array.getElem?_eq_none (by omega)] at h
    cases h
/-- A box of two cells, and two cells more. -/
def Four (w : World) (g : Nat) (t : TypeId) (a b : Value) (p q : Addr) (u v : Value) : Prop := w.heap[g]? = some (.cells #[a, b] t (0, 0)) ∧ w.cell? ⟨g, 0, none⟩ = some a ∧ w.cell? ⟨g, 1, none⟩ = some b ∧ w.cell? p = some u ∧ w.cell? q = some v
theorem four_below {w w' : World} {g : Nat} {t : TypeId} {a b : Value} {p q : Addr} {u v : Value} (hb : Below w.heap.size w w') (h : w.heap[g]? = some (.cells #[a, b] t (0, 0)) ∧ w.cell? ⟨g, 0, none⟩ = some a ∧ w.cell? ⟨g, 1, none⟩ = some b ∧ w.cell? p = some u ∧ w.cell? q = some v) :
    w'.heap[g]? = some (.cells #[a, b] t (0, 0)) ∧ w'.cell? ⟨g, 0, none⟩ = some a ∧ w'.cell? ⟨g, 1, none⟩ = some b ∧ w'.cell? p = some u ∧ w'.cell? q = some v :=
  ⟨(hb.block g (Array.getElem?_eq_some_iff.1 h.1).1).trans h.1, (hb.cell (cell_lt h.2.1)).trans h.2.1, (hb.cell (cell_lt h.2.2.1)).trans h.2.2.1, (hb.cell (cell_lt h.2.2.2.1)).trans h.2.2.2.1, (hb.cell (cell_lt h.2.2.2.2)).trans h.2.2.2.2⟩
theorem cell_of_heap {w w' : World} {p : Addr} (h : w'.heap[p.block]? = w.heap[p.block]?) : w'.cell? p = w.cell? p := by
  unfold World.cell?
  rw [h]
theorem heap_seven (w : World) (G k : Nat) (hne : k ≠ G) (a0 a1 a2 a3 a4 a5 a6 : Value) :
    (((((((w.setCell ⟨G, 0, none⟩ a0).setCell ⟨G, 1, none⟩ a1).setCell ⟨G, 2, none⟩ a2).setCell ⟨G, 3, none⟩ a3).setCell ⟨G, 4, none⟩ a4).setCell ⟨G, 5, none⟩ a5).setCell ⟨G, 6, none⟩ a6).heap[k]? = w.heap[k]? := by
  rw [Below.heap_setCell _ _ _ _ hne, Below.heap_setCell _ _ _ _ hne, Below.heap_setCell _ _ _ _ hne, Below.heap_setCell _ _ _ _ hne, Below.heap_setCell _ _ _ _ hne, Below.heap_setCell _ _ _ _ hne, Below.heap_setCell _ _ _ _ hne]
theorem four_heap {w w' : World} {g : Nat} {t : TypeId} {a b : Value} {p q : Addr} {u v : Value} (hg : w'.heap[g]? = w.heap[g]?) (hp : w'.heap[p.block]? = w.heap[p.block]?) (hq : w'.heap[q.block]? = w.heap[q.block]?) (h : w.heap[g]? = some (.cells #[a, b] t (0, 0)) ∧ w.cell? ⟨g, 0, none⟩ = some a ∧ w.cell? ⟨g, 1, none⟩ = some b ∧ w.cell? p = some u ∧ w.cell? q = some v) :
    w'.heap[g]? = some (.cells #[a, b] t (0, 0)) ∧ w'.cell? ⟨g, 0, none⟩ = some a ∧ w'.cell? ⟨g, 1, none⟩ = some b ∧ w'.cell? p = some u ∧ w'.cell? q = some v :=
  ⟨hg.trans h.1, (cell_of_heap (p := ⟨g, 0, none⟩) hg).trans h.2.1, (cell_of_heap (p := ⟨g, 1, none⟩) hg).trans h.2.2.1, (cell_of_heap hp).trans h.2.2.2.1, (cell_of_heap hq).trans h.2.2.2.2⟩
theorem four_seven {w : World} {G g : Nat} {t : TypeId} {a b : Value} {p q : Addr} {u v : Value} (h : w.heap[g]? = some (.cells #[a, b] t (0, 0)) ∧ w.cell? ⟨g, 0, none⟩ = some a ∧ w.cell? ⟨g, 1, none⟩ = some b ∧ w.cell? p = some u ∧ w.cell? q = some v)
    (hg : g ≠ G) (hp : p.block ≠ G) (hq : q.block ≠ G) (a0 a1 a2 a3 a4 a5 a6 : Value) :
    (((((((w.setCell ⟨G, 0, none⟩ a0).setCell ⟨G, 1, none⟩ a1).setCell ⟨G, 2, none⟩ a2).setCell ⟨G, 3, none⟩ a3).setCell ⟨G, 4, none⟩ a4).setCell ⟨G, 5, none⟩ a5).setCell ⟨G, 6, none⟩ a6).heap[g]? = some (.cells #[a, b] t (0, 0)) ∧ (((((((w.setCell ⟨G, 0, none⟩ a0).setCell ⟨G, 1, none⟩ a1).setCell ⟨G, 2, none⟩ a2).setCell ⟨G, 3, none⟩ a3).setCell ⟨G, 4, none⟩ a4).setCell ⟨G, 5, none⟩ a5).setCell ⟨G, 6, none⟩ a6).cell? ⟨g, 0, none⟩ = some a ∧ (((((((w.setCell ⟨G, 0, none⟩ a0).setCell ⟨G, 1, none⟩ a1).setCell ⟨G, 2, none⟩ a2).setCell ⟨G, 3, none⟩ a3).setCell ⟨G, 4, none⟩ a4).setCell ⟨G, 5, none⟩ a5).setCell ⟨G, 6, none⟩ a6).cell? ⟨g, 1, none⟩ = some b ∧ (((((((w.setCell ⟨G, 0, none⟩ a0).setCell ⟨G, 1, none⟩ a1).setCell ⟨G, 2, none⟩ a2).setCell ⟨G, 3, none⟩ a3).setCell ⟨G, 4, none⟩ a4).setCell ⟨G, 5, none⟩ a5).setCell ⟨G, 6, none⟩ a6).cell? p = some u ∧ (((((((w.setCell ⟨G, 0, none⟩ a0).setCell ⟨G, 1, none⟩ a1).setCell ⟨G, 2, none⟩ a2).setCell ⟨G, 3, none⟩ a3).setCell ⟨G, 4, none⟩ a4).setCell ⟨G, 5, none⟩ a5).setCell ⟨G, 6, none⟩ a6).cell? q = some v :=
  four_heap (p := p) (q := q) (heap_seven _ _ _ hg _ _ _ _ _ _ _) (heap_seven _ _ _ hp _ _ _ _ _ _ _) (heap_seven _ _ _ hq _ _ _ _ _ _ _) h
theorem zed_df {w : World} {g : Nat} {t : TypeId} {a0 a1 a2 a3 a4 a5 a6 : Value} (h : w.heap[g]? = some (.cells #[a0, a1, a2, a3, a4, a5, a6] t (0, 0))) :
    (w.cell? ⟨g, 0, none⟩ = some a0 ∧ w.cell? ⟨g, 1, none⟩ = some a1 ∧ w.cell? ⟨g, 2, none⟩ = some a2 ∧ w.cell? ⟨g, 3, none⟩ = some a3 ∧ w.cell? ⟨g, 4, none⟩ = some a4 ∧ w.cell? ⟨g, 5, none⟩ = some a5 ∧ w.cell? ⟨g, 6, none⟩ = some a6) ∧
    (w.frozen? ⟨g, 0, none⟩ = false ∧ w.frozen? ⟨g, 1, none⟩ = false ∧ w.frozen? ⟨g, 2, none⟩ = false ∧ w.frozen? ⟨g, 3, none⟩ = false ∧ w.frozen? ⟨g, 4, none⟩ = false ∧ w.frozen? ⟨g, 5, none⟩ = false ∧ w.frozen? ⟨g, 6, none⟩ = false) :=
  ⟨⟨by rw [heap_cell h 0]; rfl, by rw [heap_cell h 1]; rfl, by rw [heap_cell h 2]; rfl, by rw [heap_cell h 3]; rfl, by rw [heap_cell h 4]; rfl, by rw [heap_cell h 5]; rfl, by rw [heap_cell h 6]; rfl⟩,
    heap_free h 0, heap_free h 1, heap_free h 2, heap_free h 3, heap_free h 4, heap_free h 5, heap_free h 6⟩
theorem heap_seven_same {w : World} {G : Nat} {t : TypeId} {u0 u1 u2 u3 u4 u5 u6 : Value} (h : w.heap[G]? = some (.cells #[u0, u1, u2, u3, u4, u5, u6] t (0, 0))) (a0 a1 a2 a3 a4 a5 a6 : Value) :
    (((((((w.setCell ⟨G, 0, none⟩ a0).setCell ⟨G, 1, none⟩ a1).setCell ⟨G, 2, none⟩ a2).setCell ⟨G, 3, none⟩ a3).setCell ⟨G, 4, none⟩ a4).setCell ⟨G, 5, none⟩ a5).setCell ⟨G, 6, none⟩ a6).heap[G]? = some (.cells #[a0, a1, a2, a3, a4, a5, a6] t (0, 0)) := by
  have h0 := heap_setCell_same h (j := 0) a0
  have h1 := heap_setCell_same h0 (j := 1) a1
  have h2 := heap_setCell_same h1 (j := 2) a2
  have h3 := heap_setCell_same h2 (j := 3) a3
  have h4 := heap_setCell_same h3 (j := 4) a4
  have h5 := heap_setCell_same h4 (j := 5) a5
  have h6 := heap_setCell_same h5 (j := 6) a6
  simpa using h6
theorem below_seven {n : Nat} {w w' : World} {G : Nat} (h : Below n w w') (hG : n ≤ G) (a0 a1 a2 a3 a4 a5 a6 : Value) :
    Below n w (((((((w'.setCell ⟨G, 0, none⟩ a0).setCell ⟨G, 1, none⟩ a1).setCell ⟨G, 2, none⟩ a2).setCell ⟨G, 3, none⟩ a3).setCell ⟨G, 4, none⟩ a4).setCell ⟨G, 5, none⟩ a5).setCell ⟨G, 6, none⟩ a6) :=
  ((((((h.setCell hG _).setCell hG _).setCell hG _).setCell hG _).setCell hG _).setCell hG _).setCell hG _
end Go.Proofs.YtciiemomfniecaaGreatDoor
/-
  What is told of a file is within the numbers' bounds, and an error is none of the numbers that say that all is well.
-/
namespace Go.Proofs.YtciiemomfniecaaGreatDoor
set_option maxRecDepth 100000

theorem keyed_range {k : Int} (h : keyedB k = true) : 0 ≤ k ∧ k ≤ 7 := by
  simp [keyedB] at h
  omega
theorem sch_in {f : Fl} (h : FlIn f) (hg : FlGood f) : ScIn (schF f) := by
  have hm := sch_may hg
  refine ⟨fun m hmm => ?_, fun e he => ?_⟩
  · have hd := hm.M m hmm
    obtain ⟨x, hx, rfl⟩ := List.mem_map.1 hmm
    refine ⟨(h.M x hx).name, fun d hdm => ?_⟩
    have hdd := hd.each d hdm
    obtain ⟨y, hy, rfl⟩ := List.mem_map.1 ((sortF_perm _).mem_iff.1 hdm)
    have hy2 := (h.M x hx).F y hy
    have h1 := hm.fewM
    have h2 := hm.fewE
    refine ⟨hy2.no, hy2.name, ?_, ?_, ?_, hy2.one⟩
    · have a := hdd.k0
      have b := hdd.k9
      unfold inr
      omega
    · have a := hdd.r0
      have b := hdd.ref
      unfold inr
      split at b
      · omega
      · split at b <;> omega
    · unfold inr
      rcases hdd.key with a | a
      · omega
      · have := keyed_range a.1
        omega
  · obtain ⟨x, hx, rfl⟩ := List.mem_map.1 he
    refine ⟨(h.E x hx).name, fun y hy => ?_, fun n hn => ?_⟩
    · simp only [enD, List.mem_map] at hy
      obtain ⟨v, hv, rfl⟩ := hy
      exact ((h.E x hx).V v hv).name
    · simp only [enD, List.mem_map] at hn
      obtain ⟨v, hv, rfl⟩ := hn
      exact ((h.E x hx).V v hv).n
theorem sch_in_nil : ScIn ⟨[], []⟩ := ⟨fun _ h => by simp at h, fun _ h => by simp at h⟩
theorem tab_in {f : Fl} (h : FlIn f) : ScIn (tabS f) := by
  unfold tabS
  cases he : errR f with
  | none => exact sch_in h ((good_iff f).1 he)
  | some r => exact sch_in_nil
theorem hdErr_pos {f : Fl} {i : Nat} {r : Int × Nat} (h : hdErr f i = some r) : r.2 ≠ 0 := by
  unfold hdErr at h
  split at h
  · obtain rfl := Option.some.inj h; simp
  · split at h
    · obtain rfl := Option.some.inj h; simp
    · cases h
theorem fdErr_pos {f : Fl} {m : Ms} {k : Nat} {x : Fd} {r : Int × Nat} (h : fdErr f m k x = some r) : r.2 ≠ 0 := by
  unfold fdErr at h
  split at h
  · obtain rfl := Option.some.inj h; simp
  · split at h
    · obtain rfl := Option.some.inj h; simp
    · split at h
      · obtain rfl := Option.some.inj h; simp
      · cases h
theorem vlErr_pos {e : En} {k : Nat} {x : Vl} {r : Int × Nat} (h : vlErr e k x = some r) : r.2 ≠ 0 := by
  unfold vlErr at h
  split at h
  · obtain rfl := Option.some.inj h; simp
  · cases h
theorem firstOf_pos {α : Type} {g : Nat → α → Option (Int × Nat)} {l : List α} {r : Int × Nat} (hg : ∀ k x, g k x = some r → r.2 ≠ 0) (h : firstOf g l = some r) : r.2 ≠ 0 := by
  unfold firstOf at h
  obtain ⟨k, -, hk⟩ := List.exists_of_findSome?_eq_some h
  obtain ⟨x, -, hx⟩ := Option.bind_eq_some_iff.1 hk
  exact hg k x hx
theorem err_pos {f : Fl} {r : Int × Nat} (h : errR f = some r) : r.2 ≠ 0 := by
  unfold errR at h
  split at h
  · obtain rfl := Option.some.inj h; simp
  · cases h1 : errH f with
    | some r' =>
      rw [h1] at h
      obtain rfl : r' = r := by simpa using h
      unfold errH at h1
      obtain ⟨k, -, hk⟩ := List.exists_of_findSome?_eq_some h1
      exact hdErr_pos hk
    | none =>
      rw [h1] at h
      cases h2 : errF f with
      | some r' =>
        rw [h2] at h
        obtain rfl : r' = r := by simpa using h
        unfold errF at h2
        obtain ⟨m, -, hm⟩ := List.exists_of_findSome?_eq_some h2
        exact firstOf_pos (fun k x hx => fdErr_pos hx) hm
      | none =>
        rw [h2] at h
        have h3 : errV f = some r := by simpa using h
        unfold errV at h3
        obtain ⟨m, -, hm⟩ := List.exists_of_findSome?_eq_some h3
        exact firstOf_pos (fun k x hx => vlErr_pos hx) hm
/-- What is told of a file, in two cases. -/
theorem tab_cases (f : Fl) : (tabE f ≠ 0 ∧ tabS f = ⟨[], []⟩ ∧ ¬ FlGood f) ∨ (tabE f = 0 ∧ tabAt f = 0 ∧ tabS f = schF f ∧ FlGood f) := by
  unfold tabE tabAt tabS
  cases he : errR f with
  | none => exact .inr ⟨rfl, rfl, rfl, (good_iff f).1 he⟩
  | some r => exact .inl ⟨err_pos he, rfl, fun hg => by rw [(good_iff f).2 hg] at he; cases he⟩
theorem msgD_len (f : Fl) (m : Ms) : (msgD f m).F.length = m.F.length := by
  have := (sortF_perm (m.F.map (defF f))).length_eq
  simpa [msgD] using this
end Go.Proofs.YtciiemomfniecaaGreatDoor
/-
  A file with the fields of one message put in another order: what lies in memory behind the stores.
-/
namespace Go.Proofs.YtciiemomfniecaaGreatDoor
set_option maxRecDepth 100000

open Go.RowKit

theorem set_seven (x : Fd) (ys : List Value) (n : Nat) (v : Value) : (FC x ++ ys).set (n + 7) v = FC x ++ ys.set n v := rfl
theorem fdv_cons (x : Fd) (l : List Fd) : fdv (x :: l) = FC x ++ fdv l := rfl
theorem fdv_set : ∀ (l : List Fd) (k : Nat) (d : Fd), k < l.length →
    (((((((fdv l).set (k * 7) (.string (txt d.type))).set (k * 7 + 1) (.string (txt d.key))).set (k * 7 + 2) (.bool d.rep)).set (k * 7 + 3) (.int .i64 d.one)).set (k * 7 + 4) (.string (txt d.name))).set (k * 7 + 5) (.int .i64 d.no)).set (k * 7 + 6) (.int .i64 d.at_) = fdv (l.set k d)
  | [], k, d, h => by simp at h
  | x :: l, 0, d, _ => rfl
  | x :: l, k + 1, d, h => by
    have ih := fdv_set l k d (by simpa using h)
    have e0 : (k + 1) * 7 = k * 7 + 7 := by omega
    have e1 : k * 7 + 7 + 1 = k * 7 + 1 + 7 := by omega
    have e2 : k * 7 + 7 + 2 = k * 7 + 2 + 7 := by omega
    have e3 : k * 7 + 7 + 3 = k * 7 + 3 + 7 := by omega
    have e4 : k * 7 + 7 + 4 = k * 7 + 4 + 7 := by omega
    have e5 : k * 7 + 7 + 5 = k * 7 + 5 + 7 := by omega
    have e6 : k * 7 + 7 + 6 = k * 7 + 6 + 7 := by omega
    rw [e0, e1, e2, e3, e4, e5, e6, fdv_cons, set_seven, set_seven, set_seven, set_seven, set_seven, set_seven, set_seven, ih]
    rfl
/-- A struct is stored into a row of the call's own. -/
theorem own_seven {w : World} {base : Nat} {e : TypeId} {g cap n : Nat} {l : List Fd} (h : w.ownsRow base e 7 (.slice (some ⟨g, 0, none⟩) n cap) n (fdv l)) (k : Nat) (d : Fd) (hk : k < l.length) :
    (((((((w.setCell ⟨g, k * 7, none⟩ (.string (txt d.type))).setCell ⟨g, k * 7 + 1, none⟩ (.string (txt d.key))).setCell ⟨g, k * 7 + 2, none⟩ (.bool d.rep)).setCell ⟨g, k * 7 + 3, none⟩ (.int .i64 d.one)).setCell ⟨g, k * 7 + 4, none⟩ (.string (txt d.name))).setCell ⟨g, k * 7 + 5, none⟩ (.int .i64 d.no)).setCell ⟨g, k * 7 + 6, none⟩ (.int .i64 d.at_)).ownsRow base e 7 (.slice (some ⟨g, 0, none⟩) n cap) n (fdv (l.set k d)) := by
  rw [← fdv_set l k d hk]
  exact ((((((((h.stored (k * 7) _).1).stored (k * 7 + 1) _).1).stored (k * 7 + 2) _).1.stored (k * 7 + 3) _).1.stored (k * 7 + 4) _).1.stored (k * 7 + 5) _).1.stored (k * 7 + 6) _ |>.1
/-- A message's fields are another row. -/
theorem msat_set {B : Nat} {w : World} {F' : List Fd} {vF' : Value} : ∀ {l : List Ms} {xs : List Value} {k : Nat}, MsAt B w l xs → k < l.length → Rb B w vF' F'.length 7 (fdv F') → MsAt B w (l.modify k fun m => { m with F := F' }) (xs.set (k * 5 + 1) vF')
  | [], _, _, _, h, _ => by simp at h
  | m :: l, xs, 0, ⟨vF, vO, vR, ys, h1, h2, h3⟩, _, hr => by
    subst h1
    exact ⟨vF', vO, vR, ys, rfl, ⟨hr, h2.o, h2.r⟩, h3⟩
  | m :: l, xs, k + 1, ⟨vF, vO, vR, ys, h1, h2, h3⟩, h, hr => by
    subst h1
    have e : (k + 1) * 5 + 1 = k * 5 + 1 + 5 := by omega
    rw [e]
    exact ⟨vF, vO, vR, ys.set (k * 5 + 1) vF', rfl, h2, msat_set h3 (by simpa using h) hr⟩
theorem MsAt.cells {B : Nat} {w : World} : ∀ {l : List Ms} {xs : List Value}, MsAt B w l xs → ∀ u ∈ xs, u.oneCell' = true
  | [], _, h => by cases h; intro u hu; cases hu
  | _ :: _, _, ⟨_, _, _, ys, h1, h2, h3⟩ => by
    subst h1
    intro u hu
    rcases List.mem_append.1 hu with hu | hu
    · simp only [MC, List.mem_cons, List.not_mem_nil, or_false] at hu
      rcases hu with rfl | rfl | rfl | rfl | rfl
      · rfl
      · exact h2.f.one
      · exact h2.o.one
      · exact h2.r.one
      · rfl
    · exact h3.cells u hu
/-- 'append(s, x...)', s a row of the call's own, x any slice: the step. -/
theorem step_append_sl {P : Program} {w : World} {ops : Array Oper} {o : Oper} {a : Act} {K : Act → World → Prop} {Q : Exit → Act → World → Prop} {E : Prop} (hgd : o.guard = none) (s x : Operand) (t : TypeId)
    (ho : o.op = .call { callee := .builtin .append, args := #[s, x], argTypes := #[t, t] })
    (base : Nat) (e : TypeId) (i : TypeInfo) (z : Value) (size bytes : Nat) (ht : P.underlying t = some (.slice e)) (hi : P.info? e = some i) (hz : i.zero = some z)
    (hsize : i.size = size) (hby : i.bytes = bytes) (hzs : z.cells.size = size) (hsz : 0 < size)
    (v : Value) (n : Nat) (xs : List Value) (hs : a.eval s = v) (hown : w.ownsRow base e size v n xs)
    (A : Option Addr) (m c : Nat) (news : List Value) (hx : a.eval x = .slice A m c) (hsl : Sl w A m c size news) (h1 : ∀ u ∈ news, u.oneCell' = true)
    (h63 : n + m ≤ maxLen) (hbytes : (n + m) * bytes ≤ 140737488355328) (hbase : base ≤ w.heap.size)
    (h : ∀ v' w', w'.ownsRow base e size v' (n + m) (xs ++ news) → w.grownBy w' v.ownBlock → K (a.put o.dst v') w') :
    if Region.wanted o (yielded ops a.tmps) = true then Oper.wp P o a w K Q else E := by
  have hw : Region.wanted o (yielded ops a.tmps) = true := by simp [Region.wanted, hgd]
  rw [if_pos hw]
  cases A with
  | some ad => exact wp_append_own w s x t ho base e i z size bytes ht hi hz hsize hby hzs hsz v n xs hs hown ad m c news hx hsl.len (hsl.cell ad rfl) h1 h63 hbytes hbase fun v' w' h2 h3 _ => h v' w' h2 h3
  | none =>
    obtain rfl := hsl.nil rfl
    obtain rfl : m = 0 := by have := hsl.le; omega
    obtain rfl : news = [] := List.eq_nil_of_length_eq_zero (by rw [hsl.len]; simp)
    have hrun := run_append_owned_none (P := P) (w := w) base t o.type e i size ht hi v n xs hown
    unfold Oper.wp
    simp [execOp, ho, resolve, invoke, builtin, hs, hx, hrun, Result.andThen]
    exact h v w (by simpa using hown) (World.grownBy.refl _ _)
theorem own_there {w : World} {base : Nat} {e : TypeId} {size : Nat} {v : Value} {n : Nat} {xs : List Value} (h : w.ownsRow base e size v n xs) (hn : 0 < n) (hs : 0 < size) : ∃ g cap, v = .slice (some ⟨g, 0, none⟩) n cap ∧ base ≤ g := by
  rcases h.2 with ⟨rfl, rfl⟩ | ⟨g, cap, cur, rfl, hb, _⟩
  · have := h.1
    simp at this
    omega
  · exact ⟨g, cap, rfl, hb⟩
theorem grown_cell {w w' : World} {g : Nat} (h : w.grownBy w' (some g)) (j : Nat) (v : Value) : w.grownBy (w'.setCell ⟨g, j, none⟩ v) (some g) := by
  refine ⟨h.os, h.tape, h.output, by simpa [World.setCell] using h.size, fun k hk hne => ?_⟩
  have hk' : k ≠ g := fun e => hne (by rw [e])
  rw [Below.heap_setCell _ _ _ _ hk']
  exact h.block k hk hne
theorem grown_seven {w w' : World} {g : Nat} (h : w.grownBy w' (some g)) (k : Nat) (a0 a1 a2 a3 a4 a5 a6 : Value) :
    w.grownBy (((((((w'.setCell ⟨g, k * 7, none⟩ a0).setCell ⟨g, k * 7 + 1, none⟩ a1).setCell ⟨g, k * 7 + 2, none⟩ a2).setCell ⟨g, k * 7 + 3, none⟩ a3).setCell ⟨g, k * 7 + 4, none⟩ a4).setCell ⟨g, k * 7 + 5, none⟩ a5).setCell ⟨g, k * 7 + 6, none⟩ a6) (some g) :=
  grown_cell (grown_cell (grown_cell (grown_cell (grown_cell (grown_cell (grown_cell h _ _) _ _) _ _) _ _) _ _) _ _) _ _
theorem grown_drew {w w' : World} {r : Option Nat} (h : w.grownBy w' r) : w.grownBy w'.drew r := ⟨h.os, h.tape, h.output, h.size, h.block⟩
/-- A box of two cells that is written. -/
theorem box_two {c : World} {g : Nat} {x y : Value} {t : TypeId} (hb : c.heap[g]? = some (.cells #[x, y] t (0, 0))) (v u : Value) :
    ((c.setCell ⟨g, 0, none⟩ v).setCell ⟨g, 1, none⟩ u).heap[g]? = some (.cells #[v, u] t (0, 0)) ∧ c.grownBy ((c.setCell ⟨g, 0, none⟩ v).setCell ⟨g, 1, none⟩ u) (some g) := by
  have k1 := heap_setCell_same (j := 0) hb v
  have k2 := heap_setCell_same (j := 1) k1 u
  refine ⟨by simpa using k2, rfl, rfl, rfl, by simp [World.setCell], fun k _ hk => ?_⟩
  have hk' : k ≠ g := by intro e; exact hk (by rw [e])
  rw [Below.heap_setCell _ _ _ _ hk', Below.heap_setCell _ _ _ _ hk']
theorem own_far8 {w w' : World} {b : Nat} {e : TypeId} {size : Nat} {v : Value} {n : Nat} {xs : List Value} (hr : w.ownsRow b e size v n xs) (hg : w.grownBy w' v.ownBlock) {B : Nat} {cs : Array Value} {t : TypeId} {fr : Nat × Nat} (hb : w.heap[B]? = some (.cells cs t fr)) (ht : t ≠ e) : w'.heap[B]? = some (.cells cs t fr) := by
  refine (hg.block B (Array.getElem?_eq_some_iff.1 hb).1 ?_).trans hb
  rcases hr.2 with ⟨rfl, _⟩ | ⟨g', cap, cur, rfl, _, h2, _⟩
  · simp [Value.ownBlock]
  · simp only [Value.ownBlock, ne_eq, Option.some.injEq]
    rintro rfl
    rw [hb] at h2
    simp only [Option.some.injEq, Obj.cells.injEq] at h2
    exact ht h2.2.1
/-- The cells of a field of a row of the call's own. -/
theorem fdc_at {w : World} {base : Nat} {e : TypeId} {g cap n : Nat} {l : List Fd} (h : w.ownsRow base e 7 (.slice (some ⟨g, 0, none⟩) n cap) n (fdv l)) {k : Nat} {d : Fd} (hk : l[k]? = some d) :
    w.cell? ⟨g, k * 7, none⟩ = some (.string (txt d.type)) ∧ w.cell? ⟨g, k * 7 + 1, none⟩ = some (.string (txt d.key)) ∧ w.cell? ⟨g, k * 7 + 2, none⟩ = some (.bool d.rep) ∧ w.cell? ⟨g, k * 7 + 3, none⟩ = some (.int .i64 d.one) ∧ w.cell? ⟨g, k * 7 + 4, none⟩ = some (.string (txt d.name)) ∧ w.cell? ⟨g, k * 7 + 5, none⟩ = some (.int .i64 d.no) ∧ w.cell? ⟨g, k * 7 + 6, none⟩ = some (.int .i64 d.at_) := by
  have hv := fun (j : Nat) (hj : j < 7) => fdv_get l k j d hk hj
  have hl : (fdv l).length = n * 7 := h.1
  have hlt : ∀ j, j < 7 → k * 7 + j < n * 7 := fun j hj => by
    have h1 := hv j hj
    rw [List.getElem?_eq_getElem (show j < (FC d).length by simpa [FC] using hj)] at h1
    have h2 := (List.getElem?_eq_some_iff.1 h1).1
    omega
  have hc := fun (j : Nat) (hj : j < 7) => (h.cellAt (k * 7 + j) (hlt j hj)).trans (hv j hj)
  exact ⟨hc 0 (by omega), hc 1 (by omega), hc 2 (by omega), hc 3 (by omega), hc 4 (by omega), hc 5 (by omega), hc 6 (by omega)⟩
end Go.Proofs.YtciiemomfniecaaGreatDoor
