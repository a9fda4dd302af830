/-
  Is a file, or a schema, not too great: the contracts.
-/
import Derived.Test.YtciiemomfniecaaGreatDoorTabOf
import Derived.Test.YtciiemomfniecaaGreatDoorTabAwake
import Derived.Test.YtciiemomfniecaaGreatDoorVars
import Derived.Deep.AppendLies
import Derived.Deep.RegionHeldLaw
import Derived.Laws.OwnMore
import Derived.BigQuiet
namespace Go.Proofs.YtciiemomfniecaaGreatDoor
set_option maxRecDepth 100000

open Go.RowKit

def fewM (m : Ms) : Bool := decide (m.F.length ≤ 40) && decide (m.ones.length ≤ 40) && decide (m.res.length ≤ 40)
def fewE (e : En) : Bool := decide (e.V.length ≤ 40)
def fewF (f : Fl) : Bool := decide (f.M.length ≤ 30) && decide (f.E.length ≤ 30) && f.M.all fewM && f.E.all fewE
theorem all_next {α : Type} {g : α → Bool} {l : List α} {k : Nat} {x : α} (h : l[k]? = some x) : (l.take (k + 1)).all g = ((l.take k).all g && g x) := by
  rw [List.take_add_one, h]; simp [List.all_append]
theorem all_part {α : Type} {g : α → Bool} {l : List α} {k : Nat} (h : (l.take k).all g = false) : l.all g = false := by
  rw [← List.take_append_drop k l, List.all_append, h, Bool.false_and]
theorem few_end {α : Type} {g : α → Bool} {c : Bool} {l : List α} {k : Nat} (h : false = (c && (l.take k).all g)) : (c && l.all g) = false := by
  cases c with
  | false => rfl
  | true =>
    rw [Bool.true_and] at h ⊢
    exact all_part h.symm
set_option maxRecDepth 1000000 in
set_option maxHeartbeats 4000000 in
theorem few_any (B : Nat) (f : Fl) (vM vE : Value) (w : World) (hB : B ≤ w.heap.size) (hf : FAt B w f vM vE) :
    Calls Tryz.prog 10 #[.agg #[vM, vE]] w fun e w' => e = .returned (.bool (fewF f)) ∧ Below w.heap.size w w' := by
  obtain ⟨xs, ys, ⟨A1, q1, rfl, s1, b1⟩, h2, ⟨A2, q2, rfl, s2, b2⟩, h4⟩ := hf
  obtain ⟨M, E⟩ := f
  simp only at s1 s2 h2 h4 b1 b2
  have HS : Hid (fewF ⟨M, E⟩ = ((decide (M.length ≤ 30) && decide (E.length ≤ 30)) && M.all fewM && E.all fewE)) := Lib.hid rfl
  have hlow := Low.alloc w (.cells #[.slice A1 M.length q1, .slice A2 E.length q2] 25) hB
  have HM := Lib.hid (s1.low b1 hlow)
  have HMA := Lib.hid (h2.low hlow)
  have HE := Lib.hid (s2.low b2 hlow)
  have HEA := Lib.hid (h4.low hlow)
  have hbox := heap_alloc_new w (.cells #[.slice A1 M.length q1, .slice A2 E.length q2] 25)
  have hbw := below_new w (.cells #[.slice A1 M.length q1, .slice A2 E.length q2] 25)
  by_cases hsm : M.length ≤ 30 ∧ E.length ≤ 30
  · have d1 : decide ((M.length : Int) ≤ 30) = true := by rw [decide_eq_true_eq]; omega
    have d2 : decide ((E.length : Int) ≤ 30) = true := by rw [decide_eq_true_eq]; omega
    have HS1 : Hid (fewF ⟨M, E⟩ = (M.all fewM && E.all fewE)) := Lib.hid (by rw [HS.out, decide_eq_true hsm.1, decide_eq_true hsm.2]; simp)
    have hml := hsm.1
    have hel := hsm.2
    clear hsm
    go_enter Tryz.func10, Tryz.ntmps10
    go_wp2_with fail
    generalize w.alloc (.cells #[.slice A1 M.length q1, .slice A2 E.length q2] 25) = W at *
    have HBW := Lib.hid hbw
    have b0 := heap_cell hbox 0
    have b1 := heap_cell hbox 1
    simp at b0 b1
    clear hbw hbox
    go_wp2
    go_loopw [3, 4] (fun o i wr => ∃ (k : Nat) (b : Bool), i = .int .i64 k ∧ o = .bool b ∧ k ≤ M.length ∧ b = (M.take k).all fewM ∧ wr = W) (fun _ i _ => M.length - (intOf i).toNat)
    case atStart => exact ⟨0, true, rfl, rfl, by omega, by simp, rfl⟩
    case round =>
      obtain ⟨k, b, rfl, rfl, hk, hb, rfl⟩ := hrel
      have HB := Lib.hid hb
      clear hb
      by_cases hlt : k < M.length
      · cases b with
        | true =>
          obtain ⟨m, hm⟩ : ∃ m, M[k]? = some m := ⟨_, List.getElem?_eq_getElem hlt⟩
          obtain ⟨ad, vF, vO, vR, rfl, hg, hmr, c0, c1, c2, c3, c4⟩ := msr_at HM.out HMA.out hm
          obtain ⟨AF, cF, rfl, -, -⟩ := hmr.f
          obtain ⟨AO, cO, rfl, -, -⟩ := hmr.o
          obtain ⟨AR, cR, rfl, -, -⟩ := hmr.r
          have HN := Lib.hid (all_next (g := fewM) hm)
          have HF : Hid (fewM m = (decide ((m.F.length : Int) ≤ 40) && decide ((m.ones.length : Int) ≤ 40) && decide ((m.res.length : Int) ≤ 40))) := Lib.hid (by
            unfold fewM
            have e : ∀ n : Nat, decide (n ≤ 40) = decide ((n : Int) ≤ 40) := fun n => by congr 1; apply propext; omega
            rw [e, e, e])
          clear hm hmr c0 c4
          obtain ⟨a1, ha1⟩ : ∃ a, decide ((m.F.length : Int) ≤ 40) = a := ⟨_, rfl⟩
          obtain ⟨a2, ha2⟩ : ∃ a, decide ((m.ones.length : Int) ≤ 40) = a := ⟨_, rfl⟩
          rw [ha1, ha2] at HF
          cases a1 <;> cases a2
          all_goals
            go_wp2
            refine ⟨⟨k + 1, _, by go_num, rfl, by omega, ?_, trivial⟩, by simp [intOf]; omega⟩
            have h := HB.out
            rw [HN.out, ← h, HF.out]
            simp
        | false =>
          obtain ⟨c, hc⟩ : ∃ c, c = false := ⟨_, rfl⟩
          have HS2 : Hid (fewF ⟨M, E⟩ = (c && E.all fewE)) := Lib.hid (by rw [HS1.out, hc, all_part HB.out.symm])
          go_wp2
          go_loopw [3, 5] (fun o i wx => ∃ (k : Nat) (b : Bool), i = .int .i64 k ∧ o = .bool b ∧ k ≤ E.length ∧ b = (c && (E.take k).all fewE) ∧ wx = wr) (fun _ i _ => E.length - (intOf i).toNat)
          case atStart => exact ⟨0, c, rfl, by rw [hc], by omega, by simp, rfl⟩
          case round =>
            obtain ⟨k, b, rfl, rfl, hk2, hb2, rfl⟩ := hrel
            have HB2 := Lib.hid hb2
            clear hb2
            by_cases hlt2 : k < E.length
            · cases b with
              | false =>
                go_wp2
                go_ret
                exact ⟨by rw [HS2.out, few_end HB2.out]; rfl, HBW.out⟩
              | true =>
                obtain ⟨e, he⟩ : ∃ e, E[k]? = some e := ⟨_, List.getElem?_eq_getElem hlt2⟩
                obtain ⟨ad2, vV, rfl, hg2, hmr2, g0, g1, g2⟩ := enr_at HE.out HEA.out he
                obtain ⟨AV, cV, rfl, -, -⟩ := hmr2
                have HN2 := Lib.hid (all_next (g := fewE) he)
                have HV : Hid (fewE e = decide ((e.V.length : Int) ≤ 40)) := Lib.hid (by unfold fewE; congr 1; apply propext; omega)
                clear he g0 g2
                go_wp2
                refine ⟨⟨k + 1, _, by go_num, rfl, by omega, ?_, trivial⟩, by simp [intOf]; omega⟩
                have h := HB2.out
                rw [HN2.out, ← Bool.and_assoc, ← h, Bool.true_and, HV.out]
            · obtain rfl : k = E.length := by omega
              go_wp2
              go_ret
              exact ⟨by rw [HS2.out]; have h := HB2.out; rw [List.take_length] at h; rw [← h]; rfl, HBW.out⟩
      · obtain rfl : k = M.length := by omega
        have HS2 : Hid (fewF ⟨M, E⟩ = (b && E.all fewE)) := Lib.hid (by rw [HS1.out]; have h := HB.out; rw [List.take_length] at h; rw [h])
        obtain ⟨c, hc⟩ : ∃ c, c = b := ⟨_, rfl⟩
        rw [← hc] at HS2
        clear HB
        go_wp2
        go_loopw [3, 5] (fun o i wx => ∃ (k : Nat) (b : Bool), i = .int .i64 k ∧ o = .bool b ∧ k ≤ E.length ∧ b = (c && (E.take k).all fewE) ∧ wx = wr) (fun _ i _ => E.length - (intOf i).toNat)
        case atStart => exact ⟨0, c, rfl, by rw [hc], by omega, by simp, rfl⟩
        case round =>
          obtain ⟨k, b, rfl, rfl, hk2, hb2, rfl⟩ := hrel
          have HB2 := Lib.hid hb2
          clear hb2
          by_cases hlt2 : k < E.length
          · cases b with
            | false =>
              go_wp2
              go_ret
              exact ⟨by rw [HS2.out, few_end HB2.out]; rfl, HBW.out⟩
            | true =>
              obtain ⟨e, he⟩ : ∃ e, E[k]? = some e := ⟨_, List.getElem?_eq_getElem hlt2⟩
              obtain ⟨ad2, vV, rfl, hg2, hmr2, g0, g1, g2⟩ := enr_at HE.out HEA.out he
              obtain ⟨AV, cV, rfl, -, -⟩ := hmr2
              have HN2 := Lib.hid (all_next (g := fewE) he)
              have HV : Hid (fewE e = decide ((e.V.length : Int) ≤ 40)) := Lib.hid (by unfold fewE; congr 1; apply propext; omega)
              clear he g0 g2
              go_wp2
              refine ⟨⟨k + 1, _, by go_num, rfl, by omega, ?_, trivial⟩, by simp [intOf]; omega⟩
              have h := HB2.out
              rw [HN2.out, ← Bool.and_assoc, ← h, Bool.true_and, HV.out]
          · obtain rfl : k = E.length := by omega
            go_wp2
            go_ret
            exact ⟨by rw [HS2.out]; have h := HB2.out; rw [List.take_length] at h; rw [← h]; rfl, HBW.out⟩
  · have HF : Hid (fewF ⟨M, E⟩ = false) := Lib.hid (by
      rw [HS.out]
      by_cases h1 : M.length ≤ 30
      · have h2 : ¬ E.length ≤ 30 := fun h => hsm ⟨h1, h⟩
        simp [h2]
      · simp [h1])
    have hor : decide ((M.length : Int) ≤ 30) = false ∨ (decide ((M.length : Int) ≤ 30) = true ∧ decide ((E.length : Int) ≤ 30) = false) := by
      by_cases h1 : M.length ≤ 30
      · right
        have h2 : ¬ E.length ≤ 30 := fun h => hsm ⟨h1, h⟩
        exact ⟨by rw [decide_eq_true_eq]; omega, by rw [decide_eq_false_iff_not]; omega⟩
      · left
        rw [decide_eq_false_iff_not]; omega
    have HBW := Lib.hid hbw
    clear hsm HS HM HMA HE HEA hbw
    rcases hor with d1 | ⟨d1, d2⟩
    all_goals
      go_enter Tryz.func10, Tryz.ntmps10
      go_wp2_with fail
      generalize w.alloc (.cells #[.slice A1 M.length q1, .slice A2 E.length q2] 25) = W at *
      have b0 := heap_cell hbox 0
      have b1 := heap_cell hbox 1
      simp at b0 b1
      clear hbox
      go_wp2
      go_loopw [3, 4] (fun o i wr => ∃ k : Nat, i = .int .i64 k ∧ o = .bool false ∧ k ≤ M.length ∧ wr = W) (fun _ _ _ => 0)
      case atStart => exact ⟨0, rfl, rfl, by omega, rfl⟩
      case round =>
        obtain ⟨k, rfl, rfl, hk, rfl⟩ := hrel
        by_cases hlt : k < M.length
        all_goals
          go_wp2
          go_loopw [3, 5] (fun o i wx => ∃ k : Nat, i = .int .i64 k ∧ o = .bool false ∧ k ≤ E.length ∧ wx = wr) (fun _ _ _ => 0)
          case atStart => exact ⟨0, rfl, rfl, by omega, rfl⟩
          case round =>
            obtain ⟨k2, rfl, rfl, hk2, rfl⟩ := hrel
            by_cases hlt2 : k2 < E.length
            all_goals
              go_wp2
              go_ret
              exact ⟨by rw [HF.out]; rfl, HBW.out⟩
end Go.Proofs.YtciiemomfniecaaGreatDoor
/-
  What a law's region keeps that takes two results, one of them a struct, of a function that makes memory ('x, ok := f(..)'): a box of two cells, two cells more, and the struct's own box.
-/
namespace Go.Proofs.YtciiemomfniecaaGreatDoor
set_option maxRecDepth 100000

open Go.RowKit

theorem cell_lt {w : World} {p : Addr} {v : Value} (h : w.cell? p = some v) : p.block < w.heap.size := by
  unfold World.cell? at h
  by_cases hb : p.block < w.heap.size
  · exact hb
  · rw [Array.getElem?_eq_none (by omega)] at h
    cases h
/-- A box of two cells, and two cells more. -/
def Four (w : World) (g : Nat) (t : TypeId) (a b : Value) (p q : Addr) (u v : Value) : Prop := w.heap[g]? = some (.cells #[a, b] t (0, 0)) ∧ w.cell? ⟨g, 0, none⟩ = some a ∧ w.cell? ⟨g, 1, none⟩ = some b ∧ w.cell? p = some u ∧ w.cell? q = some v
theorem four_below {w w' : World} {g : Nat} {t : TypeId} {a b : Value} {p q : Addr} {u v : Value} (hb : Below w.heap.size w w') (h : w.heap[g]? = some (.cells #[a, b] t (0, 0)) ∧ w.cell? ⟨g, 0, none⟩ = some a ∧ w.cell? ⟨g, 1, none⟩ = some b ∧ w.cell? p = some u ∧ w.cell? q = some v) :
    w'.heap[g]? = some (.cells #[a, b] t (0, 0)) ∧ w'.cell? ⟨g, 0, none⟩ = some a ∧ w'.cell? ⟨g, 1, none⟩ = some b ∧ w'.cell? p = some u ∧ w'.cell? q = some v :=
  ⟨(hb.block g (Array.getElem?_eq_some_iff.1 h.1).1).trans h.1, (hb.cell (cell_lt h.2.1)).trans h.2.1, (hb.cell (cell_lt h.2.2.1)).trans h.2.2.1, (hb.cell (cell_lt h.2.2.2.1)).trans h.2.2.2.1, (hb.cell (cell_lt h.2.2.2.2)).trans h.2.2.2.2⟩
theorem cell_of_heap {w w' : World} {p : Addr} (h : w'.heap[p.block]? = w.heap[p.block]?) : w'.cell? p = w.cell? p := by
  unfold World.cell?
  rw [h]
theorem heap_seven (w : World) (G k : Nat) (hne : k ≠ G) (a0 a1 a2 a3 a4 a5 a6 : Value) :
    (((((((w.setCell ⟨G, 0, none⟩ a0).setCell ⟨G, 1, none⟩ a1).setCell ⟨G, 2, none⟩ a2).setCell ⟨G, 3, none⟩ a3).setCell ⟨G, 4, none⟩ a4).setCell ⟨G, 5, none⟩ a5).setCell ⟨G, 6, none⟩ a6).heap[k]? = w.heap[k]? := by
  rw [Below.heap_setCell _ _ _ _ hne, Below.heap_setCell _ _ _ _ hne, Below.heap_setCell _ _ _ _ hne, Below.heap_setCell _ _ _ _ hne, Below.heap_setCell _ _ _ _ hne, Below.heap_setCell _ _ _ _ hne, Below.heap_setCell _ _ _ _ hne]
theorem four_heap {w w' : World} {g : Nat} {t : TypeId} {a b : Value} {p q : Addr} {u v : Value} (hg : w'.heap[g]? = w.heap[g]?) (hp : w'.heap[p.block]? = w.heap[p.block]?) (hq : w'.heap[q.block]? = w.heap[q.block]?) (h : w.heap[g]? = some (.cells #[a, b] t (0, 0)) ∧ w.cell? ⟨g, 0, none⟩ = some a ∧ w.cell? ⟨g, 1, none⟩ = some b ∧ w.cell? p = some u ∧ w.cell? q = some v) :
    w'.heap[g]? = some (.cells #[a, b] t (0, 0)) ∧ w'.cell? ⟨g, 0, none⟩ = some a ∧ w'.cell? ⟨g, 1, none⟩ = some b ∧ w'.cell? p = some u ∧ w'.cell? q = some v :=
  ⟨hg.trans h.1, (cell_of_heap (p := ⟨g, 0, none⟩) hg).trans h.2.1, (cell_of_heap (p := ⟨g, 1, none⟩) hg).trans h.2.2.1, (cell_of_heap hp).trans h.2.2.2.1, (cell_of_heap hq).trans h.2.2.2.2⟩
theorem four_seven {w : World} {G g : Nat} {t : TypeId} {a b : Value} {p q : Addr} {u v : Value} (h : w.heap[g]? = some (.cells #[a, b] t (0, 0)) ∧ w.cell? ⟨g, 0, none⟩ = some a ∧ w.cell? ⟨g, 1, none⟩ = some b ∧ w.cell? p = some u ∧ w.cell? q = some v)
    (hg : g ≠ G) (hp : p.block ≠ G) (hq : q.block ≠ G) (a0 a1 a2 a3 a4 a5 a6 : Value) :
    (((((((w.setCell ⟨G, 0, none⟩ a0).setCell ⟨G, 1, none⟩ a1).setCell ⟨G, 2, none⟩ a2).setCell ⟨G, 3, none⟩ a3).setCell ⟨G, 4, none⟩ a4).setCell ⟨G, 5, none⟩ a5).setCell ⟨G, 6, none⟩ a6).heap[g]? = some (.cells #[a, b] t (0, 0)) ∧ (((((((w.setCell ⟨G, 0, none⟩ a0).setCell ⟨G, 1, none⟩ a1).setCell ⟨G, 2, none⟩ a2).setCell ⟨G, 3, none⟩ a3).setCell ⟨G, 4, none⟩ a4).setCell ⟨G, 5, none⟩ a5).setCell ⟨G, 6, none⟩ a6).cell? ⟨g, 0, none⟩ = some a ∧ (((((((w.setCell ⟨G, 0, none⟩ a0).setCell ⟨G, 1, none⟩ a1).setCell ⟨G, 2, none⟩ a2).setCell ⟨G, 3, none⟩ a3).setCell ⟨G, 4, none⟩ a4).setCell ⟨G, 5, none⟩ a5).setCell ⟨G, 6, none⟩ a6).cell? ⟨g, 1, none⟩ = some b ∧ (((((((w.setCell ⟨G, 0, none⟩ a0).setCell ⟨G, 1, none⟩ a1).setCell ⟨G, 2, none⟩ a2).setCell ⟨G, 3, none⟩ a3).setCell ⟨G, 4, none⟩ a4).setCell ⟨G, 5, none⟩ a5).setCell ⟨G, 6, none⟩ a6).cell? p = some u ∧ (((((((w.setCell ⟨G, 0, none⟩ a0).setCell ⟨G, 1, none⟩ a1).setCell ⟨G, 2, none⟩ a2).setCell ⟨G, 3, none⟩ a3).setCell ⟨G, 4, none⟩ a4).setCell ⟨G, 5, none⟩ a5).setCell ⟨G, 6, none⟩ a6).cell? q = some v :=
  four_heap (p := p) (q := q) (heap_seven _ _ _ hg _ _ _ _ _ _ _) (heap_seven _ _ _ hp _ _ _ _ _ _ _) (heap_seven _ _ _ hq _ _ _ _ _ _ _) h
theorem zed_df {w : World} {g : Nat} {t : TypeId} {a0 a1 a2 a3 a4 a5 a6 : Value} (h : w.heap[g]? = some (.cells #[a0, a1, a2, a3, a4, a5, a6] t (0, 0))) :
    (w.cell? ⟨g, 0, none⟩ = some a0 ∧ w.cell? ⟨g, 1, none⟩ = some a1 ∧ w.cell? ⟨g, 2, none⟩ = some a2 ∧ w.cell? ⟨g, 3, none⟩ = some a3 ∧ w.cell? ⟨g, 4, none⟩ = some a4 ∧ w.cell? ⟨g, 5, none⟩ = some a5 ∧ w.cell? ⟨g, 6, none⟩ = some a6) ∧
    (w.frozen? ⟨g, 0, none⟩ = false ∧ w.frozen? ⟨g, 1, none⟩ = false ∧ w.frozen? ⟨g, 2, none⟩ = false ∧ w.frozen? ⟨g, 3, none⟩ = false ∧ w.frozen? ⟨g, 4, none⟩ = false ∧ w.frozen? ⟨g, 5, none⟩ = false ∧ w.frozen? ⟨g, 6, none⟩ = false) :=
  ⟨⟨by rw [heap_cell h 0]; rfl, by rw [heap_cell h 1]; rfl, by rw [heap_cell h 2]; rfl, by rw [heap_cell h 3]; rfl, by rw [heap_cell h 4]; rfl, by rw [heap_cell h 5]; rfl, by rw [heap_cell h 6]; rfl⟩,
    heap_free h 0, heap_free h 1, heap_free h 2, heap_free h 3, heap_free h 4, heap_free h 5, heap_free h 6⟩
theorem heap_seven_same {w : World} {G : Nat} {t : TypeId} {u0 u1 u2 u3 u4 u5 u6 : Value} (h : w.heap[G]? = some (.cells #[u0, u1, u2, u3, u4, u5, u6] t (0, 0))) (a0 a1 a2 a3 a4 a5 a6 : Value) :
    (((((((w.setCell ⟨G, 0, none⟩ a0).setCell ⟨G, 1, none⟩ a1).setCell ⟨G, 2, none⟩ a2).setCell ⟨G, 3, none⟩ a3).setCell ⟨G, 4, none⟩ a4).setCell ⟨G, 5, none⟩ a5).setCell ⟨G, 6, none⟩ a6).heap[G]? = some (.cells #[a0, a1, a2, a3, a4, a5, a6] t (0, 0)) := by
  have h0 := heap_setCell_same h (j := 0) a0
  have h1 := heap_setCell_same h0 (j := 1) a1
  have h2 := heap_setCell_same h1 (j := 2) a2
  have h3 := heap_setCell_same h2 (j := 3) a3
  have h4 := heap_setCell_same h3 (j := 4) a4
  have h5 := heap_setCell_same h4 (j := 5) a5
  have h6 := heap_setCell_same h5 (j := 6) a6
  simpa using h6
theorem below_seven {n : Nat} {w w' : World} {G : Nat} (h : Below n w w') (hG : n ≤ G) (a0 a1 a2 a3 a4 a5 a6 : Value) :
    Below n w (((((((w'.setCell ⟨G, 0, none⟩ a0).setCell ⟨G, 1, none⟩ a1).setCell ⟨G, 2, none⟩ a2).setCell ⟨G, 3, none⟩ a3).setCell ⟨G, 4, none⟩ a4).setCell ⟨G, 5, none⟩ a5).setCell ⟨G, 6, none⟩ a6) :=
  ((((((h.setCell hG _).setCell hG _).setCell hG _).setCell hG _).setCell hG _).setCell hG _).setCell hG _
end Go.Proofs.YtciiemomfniecaaGreatDoor
/-
  What is told of a file is within the numbers' bounds, and an error is none of the numbers that say that all is well.
-/
namespace Go.Proofs.YtciiemomfniecaaGreatDoor
set_option maxRecDepth 100000

theorem keyed_range {k : Int} (h : keyedB k = true) : 0 ≤ k ∧ k ≤ 7 := by
  simp [keyedB] at h
  omega
theorem sch_in {f : Fl} (h : FlIn f) (hg : FlGood f) : ScIn (schF f) := by
  have hm := sch_may hg
  refine ⟨fun m hmm => ?_, fun e he => ?_⟩
  · have hd := hm.M m hmm
    obtain ⟨x, hx, rfl⟩ := List.mem_map.1 hmm
    refine ⟨(h.M x hx).name, fun d hdm => ?_⟩
    have hdd := hd.each d hdm
    obtain ⟨y, hy, rfl⟩ := List.mem_map.1 ((sortF_perm _).mem_iff.1 hdm)
    have hy2 := (h.M x hx).F y hy
    have h1 := hm.fewM
    have h2 := hm.fewE
    refine ⟨hy2.no, hy2.name, ?_, ?_, ?_, hy2.one⟩
    · have a := hdd.k0
      have b := hdd.k9
      unfold inr
      omega
    · have a := hdd.r0
      have b := hdd.ref
      unfold inr
      split at b
      · omega
      · split at b <;> omega
    · unfold inr
      rcases hdd.key with a | a
      · omega
      · have := keyed_range a.1
        omega
  · obtain ⟨x, hx, rfl⟩ := List.mem_map.1 he
    refine ⟨(h.E x hx).name, fun y hy => ?_, fun n hn => ?_⟩
    · simp only [enD, List.mem_map] at hy
      obtain ⟨v, hv, rfl⟩ := hy
      exact ((h.E x hx).V v hv).name
    · simp only [enD, List.mem_map] at hn
      obtain ⟨v, hv, rfl⟩ := hn
      exact ((h.E x hx).V v hv).n
theorem sch_in_nil : ScIn ⟨[], []⟩ := ⟨fun _ h => by simp at h, fun _ h => by simp at h⟩
theorem tab_in {f : Fl} (h : FlIn f) : ScIn (tabS f) := by
  unfold tabS
  cases he : errR f with
  | none => exact sch_in h ((good_iff f).1 he)
  | some r => exact sch_in_nil
theorem hdErr_pos {f : Fl} {i : Nat} {r : Int × Nat} (h : hdErr f i = some r) : r.2 ≠ 0 := by
  unfold hdErr at h
  split at h
  · obtain rfl := Option.some.inj h; simp
  · split at h
    · obtain rfl := Option.some.inj h; simp
    · cases h
theorem fdErr_pos {f : Fl} {m : Ms} {k : Nat} {x : Fd} {r : Int × Nat} (h : fdErr f m k x = some r) : r.2 ≠ 0 := by
  unfold fdErr at h
  split at h
  · obtain rfl := Option.some.inj h; simp
  · split at h
    · obtain rfl := Option.some.inj h; simp
    · split at h
      · obtain rfl := Option.some.inj h; simp
      · cases h
theorem vlErr_pos {e : En} {k : Nat} {x : Vl} {r : Int × Nat} (h : vlErr e k x = some r) : r.2 ≠ 0 := by
  unfold vlErr at h
  split at h
  · obtain rfl := Option.some.inj h; simp
  · cases h
theorem firstOf_pos {α : Type} {g : Nat → α → Option (Int × Nat)} {l : List α} {r : Int × Nat} (hg : ∀ k x, g k x = some r → r.2 ≠ 0) (h : firstOf g l = some r) : r.2 ≠ 0 := by
  unfold firstOf at h
  obtain ⟨k, -, hk⟩ := List.exists_of_findSome?_eq_some h
  obtain ⟨x, -, hx⟩ := Option.bind_eq_some_iff.1 hk
  exact hg k x hx
theorem err_pos {f : Fl} {r : Int × Nat} (h : errR f = some r) : r.2 ≠ 0 := by
  unfold errR at h
  split at h
  · obtain rfl := Option.some.inj h; simp
  · cases h1 : errH f with
    | some r' =>
      rw [h1] at h
      obtain rfl : r' = r := by simpa using h
      unfold errH at h1
      obtain ⟨k, -, hk⟩ := List.exists_of_findSome?_eq_some h1
      exact hdErr_pos hk
    | none =>
      rw [h1] at h
      cases h2 : errF f with
      | some r' =>
        rw [h2] at h
        obtain rfl : r' = r := by simpa using h
        unfold errF at h2
        obtain ⟨m, -, hm⟩ := List.exists_of_findSome?_eq_some h2
        exact firstOf_pos (fun k x hx => fdErr_pos hx) hm
      | none =>
        rw [h2] at h
        have h3 : errV f = some r := by simpa using h
        unfold errV at h3
        obtain ⟨m, -, hm⟩ := List.exists_of_findSome?_eq_some h3
        exact firstOf_pos (fun k x hx => vlErr_pos hx) hm
/-- What is told of a file, in two cases. -/
theorem tab_cases (f : Fl) : (tabE f ≠ 0 ∧ tabS f = ⟨[], []⟩ ∧ ¬ FlGood f) ∨ (tabE f = 0 ∧ tabAt f = 0 ∧ tabS f = schF f ∧ FlGood f) := by
  unfold tabE tabAt tabS
  cases he : errR f with
  | none => exact .inr ⟨rfl, rfl, rfl, (good_iff f).1 he⟩
  | some r => exact .inl ⟨err_pos he, rfl, fun hg => by rw [(good_iff f).2 hg] at he; cases he⟩
theorem msgD_len (f : Fl) (m : Ms) : (msgD f m).F.length = m.F.length := by
  have := (sortF_perm (m.F.map (defF f))).length_eq
  simpa [msgD] using this
end Go.Proofs.YtciiemomfniecaaGreatDoor
/-
  A file with the fields of one message put in another order: what lies in memory behind the stores.
-/
namespace Go.Proofs.YtciiemomfniecaaGreatDoor
set_option maxRecDepth 100000

open Go.RowKit

theorem set_seven (x : Fd) (ys : List Value) (n : Nat) (v : Value) : (FC x ++ ys).set (n + 7) v = FC x ++ ys.set n v := rfl
theorem fdv_cons (x : Fd) (l : List Fd) : fdv (x :: l) = FC x ++ fdv l := rfl
theorem fdv_set : ∀ (l : List Fd) (k : Nat) (d : Fd), k < l.length →
    (((((((fdv l).set (k * 7) (.string (txt d.type))).set (k * 7 + 1) (.string (txt d.key))).set (k * 7 + 2) (.bool d.rep)).set (k * 7 + 3) (.int .i64 d.one)).set (k * 7 + 4) (.string (txt d.name))).set (k * 7 + 5) (.int .i64 d.no)).set (k * 7 + 6) (.int .i64 d.at_) = fdv (l.set k d)
  | [], k, d, h => by simp at h
  | x :: l, 0, d, _ => rfl
  | x :: l, k + 1, d, h => by
    have ih := fdv_set l k d (by simpa using h)
    have e0 : (k + 1) * 7 = k * 7 + 7 := by omega
    have e1 : k * 7 + 7 + 1 = k * 7 + 1 + 7 := by omega
    have e2 : k * 7 + 7 + 2 = k * 7 + 2 + 7 := by omega
    have e3 : k * 7 + 7 + 3 = k * 7 + 3 + 7 := by omega
    have e4 : k * 7 + 7 + 4 = k * 7 + 4 + 7 := by omega
    have e5 : k * 7 + 7 + 5 = k * 7 + 5 + 7 := by omega
    have e6 : k * 7 + 7 + 6 = k * 7 + 6 + 7 := by omega
    rw [e0, e1, e2, e3, e4, e5, e6, fdv_cons, set_seven, set_seven, set_seven, set_seven, set_seven, set_seven, set_seven, ih]
    rfl
/-- A struct is stored into a row of the call's own. -/
theorem own_seven {w : World} {base : Nat} {e : TypeId} {g cap n : Nat} {l : List Fd} (h : w.ownsRow base e 7 (.slice (some ⟨g, 0, none⟩) n cap) n (fdv l)) (k : Nat) (d : Fd) (hk : k < l.length) :
    (((((((w.setCell ⟨g, k * 7, none⟩ (.string (txt d.type))).setCell ⟨g, k * 7 + 1, none⟩ (.string (txt d.key))).setCell ⟨g, k * 7 + 2, none⟩ (.bool d.rep)).setCell ⟨g, k * 7 + 3, none⟩ (.int .i64 d.one)).setCell ⟨g, k * 7 + 4, none⟩ (.string (txt d.name))).setCell ⟨g, k * 7 + 5, none⟩ (.int .i64 d.no)).setCell ⟨g, k * 7 + 6, none⟩ (.int .i64 d.at_)).ownsRow base e 7 (.slice (some ⟨g, 0, none⟩) n cap) n (fdv (l.set k d)) := by
  rw [← fdv_set l k d hk]
  exact ((((((((h.stored (k * 7) _).1).stored (k * 7 + 1) _).1).stored (k * 7 + 2) _).1.stored (k * 7 + 3) _).1.stored (k * 7 + 4) _).1.stored (k * 7 + 5) _).1.stored (k * 7 + 6) _ |>.1
/-- A message's fields are another row. -/
theorem msat_set {B : Nat} {w : World} {F' : List Fd} {vF' : Value} : ∀ {l : List Ms} {xs : List Value} {k : Nat}, MsAt B w l xs → k < l.length → Rb B w vF' F'.length 7 (fdv F') → MsAt B w (l.modify k fun m => { m with F := F' }) (xs.set (k * 5 + 1) vF')
  | [], _, _, _, h, _ => by simp at h
  | m :: l, xs, 0, ⟨vF, vO, vR, ys, h1, h2, h3⟩, _, hr => by
    subst h1
    exact ⟨vF', vO, vR, ys, rfl, ⟨hr, h2.o, h2.r⟩, h3⟩
  | m :: l, xs, k + 1, ⟨vF, vO, vR, ys, h1, h2, h3⟩, h, hr => by
    subst h1
    have e : (k + 1) * 5 + 1 = k * 5 + 1 + 5 := by omega
    rw [e]
    exact ⟨vF, vO, vR, ys.set (k * 5 + 1) vF', rfl, h2, msat_set h3 (by simpa using h) hr⟩
theorem MsAt.cells {B : Nat} {w : World} : ∀ {l : List Ms} {xs : List Value}, MsAt B w l xs → ∀ u ∈ xs, u.oneCell' = true
  | [], _, h => by cases h; intro u hu; cases hu
  | _ :: _, _, ⟨_, _, _, ys, h1, h2, h3⟩ => by
    subst h1
    intro u hu
    rcases List.mem_append.1 hu with hu | hu
    · simp only [MC, List.mem_cons, List.not_mem_nil, or_false] at hu
      rcases hu with rfl | rfl | rfl | rfl | rfl
      · rfl
      · exact h2.f.one
      · exact h2.o.one
      · exact h2.r.one
      · rfl
    · exact h3.cells u hu
/-- 'append(s, x...)', s a row of the call's own, x any slice: the step. -/
theorem step_append_sl {P : Program} {w : World} {ops : Array Oper} {o : Oper} {a : Act} {K : Act → World → Prop} {Q : Exit → Act → World → Prop} {E : Prop} (hgd : o.guard = none) (s x : Operand) (t : TypeId)
    (ho : o.op = .call { callee := .builtin .append, args := #[s, x], argTypes := #[t, t] })
    (base : Nat) (e : TypeId) (i : TypeInfo) (z : Value) (size bytes : Nat) (ht : P.underlying t = some (.slice e)) (hi : P.info? e = some i) (hz : i.zero = some z)
    (hsize : i.size = size) (hby : i.bytes = bytes) (hzs : z.cells.size = size) (hsz : 0 < size)
    (v : Value) (n : Nat) (xs : List Value) (hs : a.eval s = v) (hown : w.ownsRow base e size v n xs)
    (A : Option Addr) (m c : Nat) (news : List Value) (hx : a.eval x = .slice A m c) (hsl : Sl w A m c size news) (h1 : ∀ u ∈ news, u.oneCell' = true)
    (h63 : n + m ≤ maxLen) (hbytes : (n + m) * bytes ≤ 140737488355328) (hbase : base ≤ w.heap.size)
    (h : ∀ v' w', w'.ownsRow base e size v' (n + m) (xs ++ news) → w.grownBy w' v.ownBlock → K (a.put o.dst v') w') :
    if Region.wanted o (yielded ops a.tmps) = true then Oper.wp P o a w K Q else E := by
  have hw : Region.wanted o (yielded ops a.tmps) = true := by simp [Region.wanted, hgd]
  rw [if_pos hw]
  cases A with
  | some ad => exact wp_append_own w s x t ho base e i z size bytes ht hi hz hsize hby hzs hsz v n xs hs hown ad m c news hx hsl.len (hsl.cell ad rfl) h1 h63 hbytes hbase fun v' w' h2 h3 _ => h v' w' h2 h3
  | none =>
    obtain rfl := hsl.nil rfl
    obtain rfl : m = 0 := by have := hsl.le; omega
    obtain rfl : news = [] := List.eq_nil_of_length_eq_zero (by rw [hsl.len]; simp)
    have hrun := run_append_owned_none (P := P) (w := w) base t o.type e i size ht hi v n xs hown
    unfold Oper.wp
    simp [execOp, ho, resolve, invoke, builtin, hs, hx, hrun, Result.andThen]
    exact h v w (by simpa using hown) (World.grownBy.refl _ _)
theorem own_there {w : World} {base : Nat} {e : TypeId} {size : Nat} {v : Value} {n : Nat} {xs : List Value} (h : w.ownsRow base e size v n xs) (hn : 0 < n) (hs : 0 < size) : ∃ g cap, v = .slice (some ⟨g, 0, none⟩) n cap ∧ base ≤ g := by
  rcases h.2 with ⟨rfl, rfl⟩ | ⟨g, cap, cur, rfl, hb, _⟩
  · have := h.1
    simp at this
    omega
  · exact ⟨g, cap, rfl, hb⟩
theorem grown_cell {w w' : World} {g : Nat} (h : w.grownBy w' (some g)) (j : Nat) (v : Value) : w.grownBy (w'.setCell ⟨g, j, none⟩ v) (some g) := by
  refine ⟨h.os, h.tape, h.output, by simpa [World.setCell] using h.size, fun k hk hne => ?_⟩
  have hk' : k ≠ g := fun e => hne (by rw [e])
  rw [Below.heap_setCell _ _ _ _ hk']
  exact h.block k hk hne
theorem grown_seven {w w' : World} {g : Nat} (h : w.grownBy w' (some g)) (k : Nat) (a0 a1 a2 a3 a4 a5 a6 : Value) :
    w.grownBy (((((((w'.setCell ⟨g, k * 7, none⟩ a0).setCell ⟨g, k * 7 + 1, none⟩ a1).setCell ⟨g, k * 7 + 2, none⟩ a2).setCell ⟨g, k * 7 + 3, none⟩ a3).setCell ⟨g, k * 7 + 4, none⟩ a4).setCell ⟨g, k * 7 + 5, none⟩ a5).setCell ⟨g, k * 7 + 6, none⟩ a6) (some g) :=
  grown_cell (grown_cell (grown_cell (grown_cell (grown_cell (grown_cell (grown_cell h _ _) _ _) _ _) _ _) _ _) _ _) _ _
theorem grown_drew {w w' : World} {r : Option Nat} (h : w.grownBy w' r) : w.grownBy w'.drew r := ⟨h.os, h.tape, h.output, h.size, h.block⟩
/-- A box of two cells that is written. -/
theorem box_two {c : World} {g : Nat} {x y : Value} {t : TypeId} (hb : c.heap[g]? = some (.cells #[x, y] t (0, 0))) (v u : Value) :
    ((c.setCell ⟨g, 0, none⟩ v).setCell ⟨g, 1, none⟩ u).heap[g]? = some (.cells #[v, u] t (0, 0)) ∧ c.grownBy ((c.setCell ⟨g, 0, none⟩ v).setCell ⟨g, 1, none⟩ u) (some g) := by
  have k1 := heap_setCell_same (j := 0) hb v
  have k2 := heap_setCell_same (j := 1) k1 u
  refine ⟨by simpa using k2, rfl, rfl, rfl, by simp [World.setCell], fun k _ hk => ?_⟩
  have hk' : k ≠ g := by intro e; exact hk (by rw [e])
  rw [Below.heap_setCell _ _ _ _ hk', Below.heap_setCell _ _ _ _ hk']
theorem own_far8 {w w' : World} {b : Nat} {e : TypeId} {size : Nat} {v : Value} {n : Nat} {xs : List Value} (hr : w.ownsRow b e size v n xs) (hg : w.grownBy w' v.ownBlock) {B : Nat} {cs : Array Value} {t : TypeId} {fr : Nat × Nat} (hb : w.heap[B]? = some (.cells cs t fr)) (ht : t ≠ e) : w'.heap[B]? = some (.cells cs t fr) := by
  refine (hg.block B (Array.getElem?_eq_some_iff.1 hb).1 ?_).trans hb
  rcases hr.2 with ⟨rfl, _⟩ | ⟨g', cap, cur, rfl, _, h2, _⟩
  · simp [Value.ownBlock]
  · simp only [Value.ownBlock, ne_eq, Option.some.injEq]
    rintro rfl
    rw [hb] at h2
    simp only [Option.some.injEq, Obj.cells.injEq] at h2
    exact ht h2.2.1
/-- The cells of a field of a row of the call's own. -/
theorem fdc_at {w : World} {base : Nat} {e : TypeId} {g cap n : Nat} {l : List Fd} (h : w.ownsRow base e 7 (.slice (some ⟨g, 0, none⟩) n cap) n (fdv l)) {k : Nat} {d : Fd} (hk : l[k]? = some d) :
    w.cell? ⟨g, k * 7, none⟩ = some (.string (txt d.type)) ∧ w.cell? ⟨g, k * 7 + 1, none⟩ = some (.string (txt d.key)) ∧ w.cell? ⟨g, k * 7 + 2, none⟩ = some (.bool d.rep) ∧ w.cell? ⟨g, k * 7 + 3, none⟩ = some (.int .i64 d.one) ∧ w.cell? ⟨g, k * 7 + 4, none⟩ = some (.string (txt d.name)) ∧ w.cell? ⟨g, k * 7 + 5, none⟩ = some (.int .i64 d.no) ∧ w.cell? ⟨g, k * 7 + 6, none⟩ = some (.int .i64 d.at_) := by
  have hv := fun (j : Nat) (hj : j < 7) => fdv_get l k j d hk hj
  have hl : (fdv l).length = n * 7 := h.1
  have hlt : ∀ j, j < 7 → k * 7 + j < n * 7 := fun j hj => by
    have h1 := hv j hj
    rw [List.getElem?_eq_getElem (show j < (FC d).length by simpa [FC] using hj)] at h1
    have h2 := (List.getElem?_eq_some_iff.1 h1).1
    omega
  have hc := fun (j : Nat) (hj : j < 7) => (h.cellAt (k * 7 + j) (hlt j hj)).trans (hv j hj)
  exact ⟨hc 0 (by omega), hc 1 (by omega), hc 2 (by omega), hc 3 (by omega), hc 4 (by omega), hc 5 (by omega), hc 6 (by omega)⟩
end Go.Proofs.YtciiemomfniecaaGreatDoor
/-
  A message more changes nothing of the others; what is told where its name is not new.
-/
namespace Go.Proofs.YtciiemomfniecaaGreatDoor
set_option maxRecDepth 100000

def newM (x : List UInt8) : Ms := ⟨x, [], [], [], 0⟩
def moreF (f : Fl) (x : List UInt8) : Fl := { f with M := f.M ++ [newM x] }
theorem more_names (f : Fl) (x : List UInt8) : namesF (moreF f x) = f.M.map (·.name) ++ (x :: f.E.map (·.name)) := by simp [namesF, moreF, newM]
theorem more_len (f : Fl) (x : List UInt8) : (moreF f x).M.length = f.M.length + 1 := by simp [moreF]
/-- Another name's type. -/
theorem kindF_more {f : Fl} {x y : List UInt8} (hne : y ≠ x) (h : (kindF f y).isSome = true) : kindF (moreF f x) y = kindF f y := by
  unfold kindF at h ⊢
  cases hk : typeK y with
  | some k => rfl
  | none =>
    rw [hk] at h
    simp only at h ⊢
    rw [more_names, more_len]
    unfold namesF at h ⊢
    have hne' : (x == y) = false := by rw [beq_eq_false_iff_ne]; exact fun e => hne e.symm
    by_cases hm : y ∈ f.M.map (·.name)
    · have h1 : (f.M.map (·.name)).idxOf y < f.M.length := by have := List.idxOf_lt_length_iff.2 hm; simpa using this
      rw [List.idxOf_append, List.idxOf_append, if_pos hm, if_pos hm, if_pos (by omega), if_pos h1]
    · rw [List.idxOf_append, List.idxOf_append, if_neg hm, if_neg hm, List.length_map, List.idxOf_cons, hne']
      simp only [cond_false]
      have c1 : ¬ ((f.E.map (·.name)).idxOf y + f.M.length < f.M.length) := by omega
      have c2 : ¬ ((f.E.map (·.name)).idxOf y + 1 + f.M.length < f.M.length + 1) := by omega
      have l1 : (f.M.map (·.name) ++ f.E.map (·.name)).length = f.M.length + f.E.length := by simp
      have l2 : (f.M.map (·.name) ++ x :: f.E.map (·.name)).length = f.M.length + f.E.length + 1 := by simp; omega
      rw [List.idxOf_append, if_neg hm, List.length_map, if_neg c1, l1] at h
      have h2 : (f.E.map (·.name)).idxOf y + f.M.length < f.M.length + f.E.length := by
        by_cases hq : (f.E.map (·.name)).idxOf y + f.M.length < f.M.length + f.E.length
        · exact hq
        · rw [if_neg hq] at h; cases h
      have h3 : (f.E.map (·.name)).idxOf y + 1 + f.M.length < f.M.length + f.E.length + 1 := by omega
      rw [if_neg c2, if_neg c1, l1, l2, if_pos h2, if_pos h3]
      congr 2
      omega
theorem type_ne {f : Fl} {x y : List UInt8} (hx : x ∉ namesF f) (hp : typeK x = none) (h : (kindF f y).isSome = true) : y ≠ x := by
  rintro rfl
  unfold kindF at h
  rw [hp] at h
  simp only at h
  have h1 : (namesF f).idxOf y = (namesF f).length := List.idxOf_eq_length hx
  rw [h1, names_length] at h
  rw [if_neg (by omega), if_neg (by omega)] at h
  cases h
theorem good_more {f : Fl} {x : List UInt8} (h : FlGood f) (hx : x ∉ namesF f) (hp : typeK x = none) (hl : f.M.length < 20) : FlGood (moreF f x) := by
  have hpm : (namesF (moreF f x)).Perm (x :: namesF f) := by rw [more_names]; exact List.perm_middle
  refine ⟨by rw [more_len]; omega, by rw [more_len]; omega, h.fewE, ?_, fun y hy => ?_, fun m hm => ?_, h.E⟩
  · refine (hpm.pairwise_iff (fun hab => fun e => hab e.symm)).2 (List.pairwise_cons.2 ⟨fun y hy => ?_, h.names⟩)
    rintro rfl
    exact hx hy
  · rcases List.mem_cons.1 (hpm.mem_iff.1 hy) with rfl | hy
    · exact hp
    · exact h.plain y hy
  · simp only [moreF, List.mem_append, List.mem_singleton] at hm
    rcases hm with hm | rfl
    · have hg := h.M m hm
      refine ⟨hg.few, hg.onesFew, hg.two, fun d hd => ?_⟩
      have hdg := hg.each d hd
      exact ⟨hdg.res, hdg.ones, hdg.num, hdg.lo, hdg.hi, hdg.two, hdg.alone, hdg.key, by rw [kindF_more (type_ne hx hp hdg.type) hdg.type]; exact hdg.type⟩
    · exact ⟨by simp [newM], by simp [newM], by simp [newM], fun d hd => by simp [newM] at hd⟩
theorem sch_more {f : Fl} {x : List UInt8} (h : FlGood f) (hx : x ∉ namesF f) (hp : typeK x = none) : schF (moreF f x) = ⟨(schF f).M ++ [⟨x, []⟩], (schF f).E⟩ := by
  unfold schF
  have e : f.M.map (msgD (moreF f x)) = f.M.map (msgD f) := by
    apply List.map_congr_left
    intro m hm
    unfold msgD
    congr 2
    apply List.map_congr_left
    intro d hd
    have hdg := (h.M m hm).each d hd
    unfold defF
    rw [kindF_more (type_ne hx hp hdg.type) hdg.type]
  show Sc.mk ((f.M ++ [newM x]).map (msgD (moreF f x))) (f.E.map enD) = _
  rw [List.map_append, e]
  rfl
theorem root_more {f : Fl} {x : List UInt8} (h : FlGood f) (hx : x ∉ namesF f) (hp : typeK x = none) (hl : f.M.length < 20) : rootS (schF (moreF f x)) x = some f.M.length := by
  have hm : (schF (moreF f x)).M[f.M.length]? = some ⟨x, []⟩ := by
    rw [sch_more h hx hp]
    have : (schF f).M.length = f.M.length := by simp [schF]
    simp [← this]
  exact root_may (sch_may (good_more h hx hp hl)) hm
/-- Where the name is not new: what is told is of the form. -/
theorem bad_more {f : Fl} {x : List UInt8} (h : FlGood f) (hx : x ∈ namesF f ∨ typeK x ≠ none) (hl : f.M.length < 20) : ∃ a, errR (moreF f x) = some (a, 4) := by
  have h0 : sizeBad (moreF f x) = false := by
    have := h.fewE
    simp only [sizeBad, Bool.or_eq_false_iff, decide_eq_false_iff_not, more_len]
    refine ⟨⟨by omega, by omega⟩, ?_⟩
    show ¬ 20 < f.E.length
    omega
  have hlong : ∀ i, hdLong (moreF f x) i = false := by
    intro i
    unfold hdLong
    rw [more_len]
    split
    · rename_i hi
      show ((f.M ++ [newM x])[i]?.map _).getD false = false
      by_cases hlt : i < f.M.length
      · rw [List.getElem?_append_left hlt, List.getElem?_eq_getElem hlt]
        have hg := h.M _ (List.getElem_mem hlt)
        simp only [Option.map_some, Option.getD_some, Bool.or_eq_false_iff, decide_eq_false_iff_not]
        have := hg.few
        have := hg.onesFew
        omega
      · obtain rfl : i = f.M.length := by omega
        simp [newM]
    · rename_i hi
      show (f.E[i - (f.M.length + 1)]?.map _).getD false = false
      cases he : f.E[i - (f.M.length + 1)]? with
      | none => rfl
      | some e =>
        have hg := h.E _ (List.mem_of_getElem? he)
        simp only [Option.map_some, Option.getD_some, Bool.or_eq_false_iff, decide_eq_false_iff_not]
        have := hg.some_
        have := hg.few
        omega
  have hne : errH (moreF f x) ≠ none := by
    intro e
    obtain ⟨e1, e2, _⟩ := errH_none.1 e
    have hpm : (namesF (moreF f x)).Perm (x :: namesF f) := by rw [more_names]; exact List.perm_middle
    rcases hx with hx | hx
    · have := (hpm.pairwise_iff (fun hab => fun e => hab e.symm)).1 e1
      exact (List.pairwise_cons.1 this).1 x hx rfl
    · exact hx (e2 x (hpm.mem_iff.2 (by simp)))
  cases hh : errH (moreF f x) with
  | none => exact absurd hh hne
  | some y =>
    unfold errH at hh
    obtain ⟨i, _, hi⟩ := List.exists_of_findSome?_eq_some hh
    unfold hdErr at hi
    rw [hlong i] at hi
    unfold errR
    have hh' : errH (moreF f x) = some y := hh
    rw [h0, hh']
    split at hi
    · obtain rfl := Option.some.inj hi
      exact ⟨_, rfl⟩
    · cases hi
end Go.Proofs.YtciiemomfniecaaGreatDoor
/-
  A file with a message more, and a schema without its last one: how they lie in memory.
-/
namespace Go.Proofs.YtciiemomfniecaaGreatDoor
set_option maxRecDepth 100000

open Go.RowKit

def NewC (x : List UInt8) : List Value := [.string (txt x), .slice none 0 0, .slice none 0 0, .slice none 0 0, .int .i64 0]
theorem MsAt.app {B : Nat} {w : World} : ∀ {l m : List Ms} {xs ys : List Value}, MsAt B w l xs → MsAt B w m ys → MsAt B w (l ++ m) (xs ++ ys)
  | [], _, _, _, h, k => by cases h; simpa using k
  | _ :: _, _, _, ys, ⟨a, b, c, zs, h1, h2, h3⟩, k => ⟨a, b, c, zs ++ ys, by rw [h1]; simp, h2, h3.app k⟩
theorem rb_nothing (B : Nat) (w : World) (size : Nat) : Rb B w (.slice none 0 0) 0 size [] := ⟨none, 0, rfl, Sl.nothing _ _, by simp⟩
theorem ms_new (B : Nat) (w : World) (x : List UInt8) : MsAt B w [newM x] (NewC x) :=
  ⟨.slice none 0 0, .slice none 0 0, .slice none 0 0, [], rfl, ⟨rb_nothing _ _ _, rb_nothing _ _ _, rb_nothing _ _ _⟩, rfl⟩
theorem more_at {B : Nat} {w : World} {f : Fl} {v vE : Value} {xs ys : List Value} {x : List UInt8} (h1 : Rb B w v (f.M.length + 1) 5 (xs ++ NewC x)) (h2 : MsAt B w f.M xs) (h3 : Rb B w vE f.E.length 3 ys) (h4 : EnAt B w f.E ys) : FAt B w (moreF f x) v vE := by
  refine ⟨xs ++ NewC x, ys, ?_, h2.app (ms_new _ _ _), h3, h4⟩
  rw [more_len]
  exact h1
theorem in_more {f : Fl} {x : List UInt8} (h : FlIn f) (hx : x.length ≤ maxLen) : FlIn (moreF f x) := by
  refine ⟨fun m hm => ?_, h.E⟩
  simp only [moreF, List.mem_append, List.mem_singleton] at hm
  rcases hm with hm | rfl
  · exact h.M m hm
  · exact ⟨hx, fun _ hd => by simp [newM] at hd, fun _ hd => by simp [newM] at hd, fun _ hd => by simp [newM] at hd, by unfold newM inr; simp⟩
theorem Sl.less {w : World} {A : Option Addr} {n c size : Nat} {xs ys : List Value} (h : Sl w A (n + 1) c size (xs ++ ys)) (hl : xs.length = n * size) : Sl w A n c size xs := by
  refine ⟨hl, by have := h.le; omega, h.cap, h.nil, fun ad ha hn => h.old ad ha (by omega), fun ad ha k u hu => h.cell ad ha k u ?_⟩
  have := (List.getElem?_eq_some_iff.1 hu).1
  rw [List.getElem?_append_left this]
  exact hu
theorem MdsAt.split {B : Nat} {w : World} {m : Md} : ∀ {l : List Md} {xs : List Value}, MdsAt B w (l ++ [m]) xs → ∃ a b, xs = a ++ b ∧ a.length = l.length * 2 ∧ MdsAt B w l a
  | [], xs, _ => ⟨[], xs, rfl, rfl, rfl⟩
  | y :: l, xs, ⟨vF, ys, h1, h2, h3⟩ => by
    obtain ⟨a, b, rfl, hl, hm⟩ := MdsAt.split h3
    refine ⟨MDC y vF ++ a, b, by rw [h1, List.append_assoc], by simp [MDC, hl]; omega, vF, a, rfl, h2, hm⟩
theorem sat_less {B : Nat} {w : World} {M : List Md} {E : List Ed} {m : Md} {A : Option Addr} {c : Nat} {vE : Value} (h : SAt B w ⟨M ++ [m], E⟩ (.slice A (M.length + 1) c) vE) : SAt B w ⟨M, E⟩ (.slice A M.length c) vE := by
  obtain ⟨xs, ys, ⟨A', c', hv, h1, hB⟩, h2, h3, h4⟩ := h
  simp only at h2 h3 h4
  obtain ⟨a, b, rfl, hl, hm⟩ := MdsAt.split h2
  simp only [List.length_append, List.length_singleton] at hv h1 hB
  simp only [Value.slice.injEq] at hv
  obtain ⟨rfl, -, rfl⟩ := hv
  exact ⟨a, ys, ⟨A, c, rfl, h1.less hl, fun ad ha hn => hB ad ha (by omega)⟩, hm, h3, h4⟩
/-- The cells of the new message, where it was built. -/
theorem new_sl {w : World} {p : Nat} {x : List UInt8} {t : TypeId} (h : w.heap[p]? = some (.cells #[.string (txt x), .slice none 0 0, .slice none 0 0, .slice none 0 0, .int .i64 0] t (0, 0))) : Sl w (some ⟨p, 0, none⟩) 1 1 5 (NewC x) := by
  have hlt := (Array.getElem?_eq_some_iff.1 h).1
  refine ⟨rfl, Nat.le_refl _, by unfold maxLen; omega, (fun e => by cases e), fun ad ha _ => ?_, fun ad ha k u hu => ?_⟩
  · obtain rfl := Option.some.inj ha
    exact hlt
  · obtain rfl := Option.some.inj ha
    have hk := (List.getElem?_eq_some_iff.1 hu).1
    have hk5 : k < 5 := by simpa [NewC] using hk
    have e : (⟨p, 0, none⟩ : Addr).add k = ⟨p, k, none⟩ := by
      cases k with
      | zero => rfl
      | succ k => simp [Addr.add]
    rw [e, heap_cell h k]
    rcases k with _ | _ | _ | _ | _ | k
    · exact hu
    · exact hu
    · exact hu
    · exact hu
    · exact hu
    · omega
theorem newc_cells (x : List UInt8) : ∀ u ∈ NewC x, u.oneCell' = true := by
  intro u hu
  simp only [NewC, List.mem_cons, List.not_mem_nil, or_false] at hu
  rcases hu with rfl | rfl | rfl | rfl | rfl <;> rfl
/-- Was there one of that name, among the first ones? -/
def hasM (l : List Ms) (x : List UInt8) : Bool := l.any fun m => m.name == x
def hasE (l : List En) (x : List UInt8) : Bool := l.any fun m => m.name == x
theorem hasM_next {l : List Ms} {k : Nat} {m : Ms} {x : List UInt8} (h : l[k]? = some m) : hasM (l.take (k + 1)) x = (hasM (l.take k) x || m.name == x) := by
  unfold hasM
  rw [List.take_add_one, h]
  simp [List.any_append]
theorem hasE_next {l : List En} {k : Nat} {m : En} {x : List UInt8} (h : l[k]? = some m) : hasE (l.take (k + 1)) x = (hasE (l.take k) x || m.name == x) := by
  unfold hasE
  rw [List.take_add_one, h]
  simp [List.any_append]
theorem has_names (f : Fl) (x : List UInt8) : (hasM f.M x || hasE f.E x) = true ↔ x ∈ namesF f := by
  simp only [hasM, hasE, namesF, Bool.or_eq_true, List.any_eq_true, List.mem_append, List.mem_map, beq_iff_eq]
/-- What is told of a file with a message more. -/
theorem more_told {f : Fl} {x : List UInt8} (h : FlGood f) (hl : f.M.length < 20) :
    (((typeK x).isSome || hasM f.M x || hasE f.E x) = true ∧ tabE (moreF f x) = 4) ∨
    (((typeK x).isSome || hasM f.M x || hasE f.E x) = false ∧ tabE (moreF f x) = 0 ∧ tabS (moreF f x) = ⟨(schF f).M ++ [⟨x, []⟩], (schF f).E⟩ ∧ rootS (tabS (moreF f x)) x = some f.M.length) := by
  cases hw : ((typeK x).isSome || hasM f.M x || hasE f.E x) with
  | true =>
    refine .inl ⟨rfl, ?_⟩
    have hor : x ∈ namesF f ∨ typeK x ≠ none := by
      rw [Bool.or_assoc, Bool.or_eq_true] at hw
      rcases hw with hw | hw
      · exact .inr (by intro e; rw [e] at hw; cases hw)
      · exact .inl ((has_names f x).1 hw)
    obtain ⟨a, ha⟩ := bad_more h hor hl
    unfold tabE
    rw [ha]
    rfl
  | false =>
    refine .inr ⟨rfl, ?_⟩
    rw [Bool.or_assoc, Bool.or_eq_false_iff] at hw
    have hp : typeK x = none := by cases ht : typeK x with | none => rfl | some y => rw [ht] at hw; cases hw.1
    have hn : x ∉ namesF f := fun hm => by have := (has_names f x).2 hm; rw [hw.2] at this; cases this
    have hg := good_more h hn hp hl
    have he := (good_iff _).2 hg
    have hs : tabS (moreF f x) = schF (moreF f x) := by unfold tabS; rw [he]; rfl
    refine ⟨by unfold tabE; rw [he]; rfl, by rw [hs]; exact sch_more h hn hp, by rw [hs]; exact root_more h hn hp hl⟩
end Go.Proofs.YtciiemomfniecaaGreatDoor
/-
  Two schemas are held against each other: the contracts.
-/
namespace Go.Proofs.YtciiemomfniecaaGreatDoor
set_option maxRecDepth 100000

open Go.RowKit Go.Maps

theorem takeN {α : Type} {l m : List α} {k : Nat} {x : α} (hx : l[k]? = some x) (hy : m[k]? = some x) (h : l.take k = m.take k) : l.take (k + 1) = m.take (k + 1) := by
  rw [List.take_add_one, List.take_add_one, h, hx, hy]
theorem takeE {α : Type} {l m : List α} (hl : l.length = m.length) (h : l.take l.length = m.take l.length) : l = m := by
  rw [List.take_length, hl, List.take_length] at h
  exact h
theorem ne_at {α : Type} [DecidableEq α] {l m : List α} {k : Nat} {x y : α} (hx : l[k]? = some x) (hy : m[k]? = some y) (hne : x ≠ y) : decide (l = m) = false :=
  decide_eq_false (by rintro rfl; rw [hx] at hy; exact hne (by injection hy))
theorem ne_len {α : Type} [DecidableEq α] {l m : List α} (h : l.length ≠ m.length) : decide (l = m) = false := decide_eq_false (by rintro rfl; exact h rfl)
theorem lenI {a b : Nat} (h : a = b) : ((a : Int) != (b : Int)) = false := by simp [h]
theorem lenN {a b : Nat} (h : a ≠ b) : ((a : Int) != (b : Int)) = true := by rw [bne_iff_ne]; omega
set_option maxRecDepth 1000000 in
set_option maxHeartbeats 4000000 in
theorem eqDf_any (A A' : Option Addr) (c c' : Nat) (l m : List Df) (w : World) (h1 : Sl w A l.length c 7 (dfv l)) (h2 : Sl w A' m.length c' 7 (dfv m)) :
    Calls Tryz.prog 103 #[.slice A l.length c, .slice A' m.length c'] w fun e w' => e = .returned (.bool (decide (l = m))) ∧ Below w.heap.size w w' := by
  have hsm : l.length ≤ 9223372036854775807 := by have h3 := h1.le; have h2 := h1.cap; unfold maxLen at h2; omega
  have H1 := Lib.hid h1
  have H2 := Lib.hid h2
  clear h1 h2
  by_cases hlen : l.length = m.length
  · have hb := lenI hlen
    go_enter Tryz.func103, Tryz.ntmps103
    have HL := Lib.hid hlen
    clear hlen
    go_wp2
    clear hb
    go_loopw [13] (fun i wr => ∃ k d : Nat, i = .int .i64 k ∧ k ≤ l.length ∧ l.take k = m.take k ∧ wr = w.drewN d) (fun i _ => l.length - (intOf i).toNat)
    case atStart => exact ⟨0, 0, rfl, by omega, rfl, rfl⟩
    case round =>
      obtain ⟨k, d, rfl, hk, ht, rfl⟩ := hrel
      have HT := Lib.hid ht
      clear ht
      by_cases hlt : k < l.length
      · have hlm : k < m.length := by have := HL.out; omega
        obtain ⟨a, ha⟩ : ∃ a, l[k]? = some a := ⟨_, List.getElem?_eq_getElem hlt⟩
        obtain ⟨b, hbk⟩ : ∃ b, m[k]? = some b := ⟨_, List.getElem?_eq_getElem hlm⟩
        obtain ⟨ad, rfl, _, p0, p1, p2, p3, p4, p5, p6⟩ := dfr_at H1.out ha
        obtain ⟨ad2, rfl, _, r0, r1, r2, r3, r4, r5, r6⟩ := dfr_at H2.out hbk
        have HAK := Lib.hid ha
        have HBK := Lib.hid hbk
        clear ha hbk
        by_cases hab : a = b
        · subst hab
          go_wp2
          go_quiet (fail)
          go_wp2
          exact ⟨⟨k + 1, d + nq, by go_num, by omega, takeN HAK.out HBK.out HT.out, rfl⟩, by simp [intOf]; omega⟩
        · have HF := Lib.hid (ne_at HAK.out HBK.out hab)
          obtain ⟨a1, a2, a3, a4, a5, a6, a7⟩ := a
          obtain ⟨b1, b2, b3, b4, b5, b6, b7⟩ := b
          simp only at p0 p1 p2 p3 p4 p5 p6 r0 r1 r2 r3 r4 r5 r6
          have hd : ((a1 == b1) = false) ∨ (a1 = b1 ∧ ((txt a2).toList == (txt b2).toList) = false) ∨ (a1 = b1 ∧ a2 = b2 ∧ (a3 == b3) = false) ∨ (a1 = b1 ∧ a2 = b2 ∧ a3 = b3 ∧ (a4 == b4) = false) ∨
              (a1 = b1 ∧ a2 = b2 ∧ a3 = b3 ∧ a4 = b4 ∧ (a5 == b5) = false) ∨ (a1 = b1 ∧ a2 = b2 ∧ a3 = b3 ∧ a4 = b4 ∧ a5 = b5 ∧ (a6 == b6) = false) ∨ (a1 = b1 ∧ a2 = b2 ∧ a3 = b3 ∧ a4 = b4 ∧ a5 = b5 ∧ a6 = b6 ∧ (a7 == b7) = false) := by
            simp only [Df.mk.injEq] at hab
            by_cases e1 : a1 = b1
            · right
              by_cases e2 : a2 = b2
              · right
                by_cases e3 : a3 = b3
                · right
                  by_cases e4 : a4 = b4
                  · right
                    by_cases e5 : a5 = b5
                    · right
                      by_cases e6 : a6 = b6
                      · right
                        exact ⟨e1, e2, e3, e4, e5, e6, beq_eq_false_iff_ne.2 fun e7 => hab ⟨e1, e2, e3, e4, e5, e6, e7⟩⟩
                      · left; exact ⟨e1, e2, e3, e4, e5, beq_eq_false_iff_ne.2 e6⟩
                    · left; exact ⟨e1, e2, e3, e4, beq_eq_false_iff_ne.2 e5⟩
                  · left; exact ⟨e1, e2, e3, beq_eq_false_iff_ne.2 e4⟩
                · left; exact ⟨e1, e2, beq_eq_false_iff_ne.2 e3⟩
              · left; exact ⟨e1, txt_ne e2⟩
            · left; exact beq_eq_false_iff_ne.2 e1
          clear hab
          rcases hd with d1 | ⟨rfl, d1⟩ | ⟨rfl, rfl, d1⟩ | ⟨rfl, rfl, rfl, d1⟩ | ⟨rfl, rfl, rfl, rfl, d1⟩ | ⟨rfl, rfl, rfl, rfl, rfl, d1⟩ | ⟨rfl, rfl, rfl, rfl, rfl, rfl, d1⟩
          all_goals
            go_wp2
            go_quiet (fail)
            go_wp2
            go_ret
            exact ⟨by rw [HF.out]; rfl, (by repeat (first | exact Below.refl _ _ | assumption | refine below_draws ?_ _ | refine Below.drew ?_))⟩
      · obtain rfl : k = l.length := by omega
        have HF := Lib.hid (decide_eq_true (takeE HL.out HT.out))
        go_wp2
        go_ret
        exact ⟨by rw [HF.out]; rfl, (by repeat (first | exact Below.refl _ _ | assumption | refine below_draws ?_ _ | refine Below.drew ?_))⟩
  · have hb := lenN hlen
    have HF := Lib.hid (ne_len hlen)
    clear hlen
    go_enter Tryz.func103, Tryz.ntmps103
    go_wp2
    go_ret
    exact ⟨by rw [HF.out]; rfl, Below.refl _ _⟩
set_option maxRecDepth 1000000 in
set_option maxHeartbeats 4000000 in
theorem eqStr_any (A A' : Option Addr) (c c' : Nat) (l m : List (List UInt8)) (w : World) (h1 : Sl w A l.length c 1 (strv l)) (h2 : Sl w A' m.length c' 1 (strv m)) :
    Calls Tryz.prog 104 #[.slice A l.length c, .slice A' m.length c'] w fun e w' => e = .returned (.bool (decide (l = m))) ∧ Below w.heap.size w w' := by
  have hsm : l.length ≤ 9223372036854775807 := by have h3 := h1.le; have h2 := h1.cap; unfold maxLen at h2; omega
  have H1 := Lib.hid h1
  have H2 := Lib.hid h2
  clear h1 h2
  by_cases hlen : l.length = m.length
  · have hb := lenI hlen
    go_enter Tryz.func104, Tryz.ntmps104
    have HL := Lib.hid hlen
    clear hlen
    go_wp2
    clear hb
    go_loopw [13] (fun i wr => ∃ k d : Nat, i = .int .i64 k ∧ k ≤ l.length ∧ l.take k = m.take k ∧ wr = w.drewN d) (fun i _ => l.length - (intOf i).toNat)
    case atStart => exact ⟨0, 0, rfl, by omega, rfl, rfl⟩
    case round =>
      obtain ⟨k, d, rfl, hk, ht, rfl⟩ := hrel
      have HT := Lib.hid ht
      clear ht
      by_cases hlt : k < l.length
      · have hlm : k < m.length := by have := HL.out; omega
        obtain ⟨a, ha⟩ : ∃ a, l[k]? = some a := ⟨_, List.getElem?_eq_getElem hlt⟩
        obtain ⟨b, hbk⟩ : ∃ b, m[k]? = some b := ⟨_, List.getElem?_eq_getElem hlm⟩
        obtain ⟨ad, rfl, _, p0⟩ := strr_at H1.out ha
        obtain ⟨ad2, rfl, _, r0⟩ := strr_at H2.out hbk
        have HAK := Lib.hid ha
        have HBK := Lib.hid hbk
        clear ha hbk
        by_cases hab : a = b
        · subst hab
          go_wp2
          go_quiet (fail)
          go_wp2
          exact ⟨⟨k + 1, d + nq, by go_num, by omega, takeN HAK.out HBK.out HT.out, rfl⟩, by simp [intOf]; omega⟩
        · have HF := Lib.hid (ne_at HAK.out HBK.out hab)
          have hne := txt_ne hab
          clear hab
          go_wp2
          go_quiet (fail)
          go_wp2
          go_ret
          exact ⟨by rw [HF.out]; rfl, (by repeat (first | exact Below.refl _ _ | assumption | refine below_draws ?_ _ | refine Below.drew ?_))⟩
      · obtain rfl : k = l.length := by omega
        have HF := Lib.hid (decide_eq_true (takeE HL.out HT.out))
        go_wp2
        go_ret
        exact ⟨by rw [HF.out]; rfl, (by repeat (first | exact Below.refl _ _ | assumption | refine below_draws ?_ _ | refine Below.drew ?_))⟩
  · have hb := lenN hlen
    have HF := Lib.hid (ne_len hlen)
    clear hlen
    go_enter Tryz.func104, Tryz.ntmps104
    go_wp2
    go_ret
    exact ⟨by rw [HF.out]; rfl, Below.refl _ _⟩
set_option maxRecDepth 1000000 in
set_option maxHeartbeats 4000000 in
theorem eqInt_any (A A' : Option Addr) (c c' : Nat) (l m : List Int) (w : World) (h1 : Sl w A l.length c 1 (intv l)) (h2 : Sl w A' m.length c' 1 (intv m)) :
    Calls Tryz.prog 105 #[.slice A l.length c, .slice A' m.length c'] w fun e w' => e = .returned (.bool (decide (l = m))) ∧ Below w.heap.size w w' := by
  have hsm : l.length ≤ 9223372036854775807 := by have h3 := h1.le; have h2 := h1.cap; unfold maxLen at h2; omega
  have H1 := Lib.hid h1
  have H2 := Lib.hid h2
  clear h1 h2
  by_cases hlen : l.length = m.length
  · have hb := lenI hlen
    go_enter Tryz.func105, Tryz.ntmps105
    have HL := Lib.hid hlen
    clear hlen
    go_wp2
    clear hb
    go_loopw [13] (fun i wr => ∃ k d : Nat, i = .int .i64 k ∧ k ≤ l.length ∧ l.take k = m.take k ∧ wr = w.drewN d) (fun i _ => l.length - (intOf i).toNat)
    case atStart => exact ⟨0, 0, rfl, by omega, rfl, rfl⟩
    case round =>
      obtain ⟨k, d, rfl, hk, ht, rfl⟩ := hrel
      have HT := Lib.hid ht
      clear ht
      by_cases hlt : k < l.length
      · have hlm : k < m.length := by have := HL.out; omega
        obtain ⟨a, ha⟩ : ∃ a, l[k]? = some a := ⟨_, List.getElem?_eq_getElem hlt⟩
        obtain ⟨b, hbk⟩ : ∃ b, m[k]? = some b := ⟨_, List.getElem?_eq_getElem hlm⟩
        obtain ⟨ad, rfl, _, p0⟩ := intr_at H1.out ha
        obtain ⟨ad2, rfl, _, r0⟩ := intr_at H2.out hbk
        have HAK := Lib.hid ha
        have HBK := Lib.hid hbk
        clear ha hbk
        by_cases hab : a = b
        · subst hab
          go_wp2
          go_quiet (fail)
          go_wp2
          exact ⟨⟨k + 1, d + nq, by go_num, by omega, takeN HAK.out HBK.out HT.out, rfl⟩, by simp [intOf]; omega⟩
        · have HF := Lib.hid (ne_at HAK.out HBK.out hab)
          have hne : (a == b) = false := beq_eq_false_iff_ne.2 hab
          clear hab
          go_wp2
          go_quiet (fail)
          go_wp2
          go_ret
          exact ⟨by rw [HF.out]; rfl, (by repeat (first | exact Below.refl _ _ | assumption | refine below_draws ?_ _ | refine Below.drew ?_))⟩
      · obtain rfl : k = l.length := by omega
        have HF := Lib.hid (decide_eq_true (takeE HL.out HT.out))
        go_wp2
        go_ret
        exact ⟨by rw [HF.out]; rfl, (by repeat (first | exact Below.refl _ _ | assumption | refine below_draws ?_ _ | refine Below.drew ?_))⟩
  · have hb := lenN hlen
    have HF := Lib.hid (ne_len hlen)
    clear hlen
    go_enter Tryz.func105, Tryz.ntmps105
    go_wp2
    go_ret
    exact ⟨by rw [HF.out]; rfl, Below.refl _ _⟩
end Go.Proofs.YtciiemomfniecaaGreatDoor
/-
  Two messages, two enums, two schemas are held against each other: the contracts.
-/
namespace Go.Proofs.YtciiemomfniecaaGreatDoor
set_option maxRecDepth 100000

open Go.RowKit Go.Maps

theorem cellLt {w : World} {p : Addr} {v : Value} (h : w.cell? p = some v) : p.block < w.heap.size := by
  unfold World.cell? at h
  by_cases hb : p.block < w.heap.size
  · exact hb
  · rw [Array.getElem?_eq_none (by omega)] at h
    cases h
theorem md_dec (a b : Md) : decide (a = b) = (decide (a.name = b.name) && decide (a.F = b.F)) := by
  obtain ⟨a1, a2⟩ := a
  obtain ⟨b1, b2⟩ := b
  rw [Bool.eq_iff_iff]; simp
theorem ed_dec (a b : Ed) : decide (a = b) = (decide (a.name = b.name) && decide (a.V = b.V) && decide (a.N = b.N)) := by
  obtain ⟨a1, a2, a3⟩ := a
  obtain ⟨b1, b2, b3⟩ := b
  rw [Bool.eq_iff_iff]; simp [and_assoc]
theorem sc_dec (a b : Sc) : decide (a = b) = (decide (a.M = b.M) && decide (a.E = b.E)) := by
  obtain ⟨a1, a2⟩ := a
  obtain ⟨b1, b2⟩ := b
  rw [Bool.eq_iff_iff]; simp
theorem eqDf_rb (B : Nat) (v v' : Value) (l m : List Df) (w : World) (h1 : Rb B w v l.length 7 (dfv l)) (h2 : Rb B w v' m.length 7 (dfv m)) : Calls Tryz.prog 103 #[v, v'] w fun e w' => e = .returned (.bool (decide (l = m))) ∧ Below w.heap.size w w' := by
  obtain ⟨A, c, rfl, s, -⟩ := h1
  obtain ⟨A', c', rfl, s', -⟩ := h2
  exact eqDf_any A A' c c' l m w s s'
theorem eqStr_rb (B : Nat) (v v' : Value) (l m : List (List UInt8)) (w : World) (h1 : Rb B w v l.length 1 (strv l)) (h2 : Rb B w v' m.length 1 (strv m)) : Calls Tryz.prog 104 #[v, v'] w fun e w' => e = .returned (.bool (decide (l = m))) ∧ Below w.heap.size w w' := by
  obtain ⟨A, c, rfl, s, -⟩ := h1
  obtain ⟨A', c', rfl, s', -⟩ := h2
  exact eqStr_any A A' c c' l m w s s'
theorem eqInt_rb (B : Nat) (v v' : Value) (l m : List Int) (w : World) (h1 : Rb B w v l.length 1 (intv l)) (h2 : Rb B w v' m.length 1 (intv m)) : Calls Tryz.prog 105 #[v, v'] w fun e w' => e = .returned (.bool (decide (l = m))) ∧ Below w.heap.size w w' := by
  obtain ⟨A, c, rfl, s, -⟩ := h1
  obtain ⟨A', c', rfl, s', -⟩ := h2
  exact eqInt_any A A' c c' l m w s s'
set_option maxHeartbeats 4000000 in
theorem samemd_any (B : Nat) (a b : Md) (vF vF' : Value) (w : World) (hB : B ≤ w.heap.size) (ha : Rb B w vF a.F.length 7 (dfv a.F)) (hb : Rb B w vF' b.F.length 7 (dfv b.F)) :
    Calls Tryz.prog 55 #[.agg #[.string (txt a.name), vF], .agg #[.string (txt b.name), vF']] w fun e w' => e = .returned (.bool (decide (a = b))) ∧ Below w.heap.size w w' := by
  have HS := Lib.hid (md_dec a b)
  have H1 := Lib.hid (fun (w2 : World) (hb2 : Below w.heap.size w w2) => eqDf_rb B vF vF' a.F b.F w2 (ha.low (Low.below hb2 hB)) (hb.low (Low.below hb2 hB)))
  obtain ⟨A1, q1, rfl, -, -⟩ := ha
  obtain ⟨A2, q2, rfl, -, -⟩ := hb
  have HB0 := Lib.hid (below_lit (below_new w (.cells #[.string (txt a.name), .slice A1 a.F.length q1] 56)) (.cells #[.string (txt b.name), .slice A2 b.F.length q2] 56))
  by_cases hn : a.name = b.name
  · rw [decide_eq_true hn, Bool.true_and] at HS
    rw [hn] at HB0 ⊢
    clear hn
    go_enter Tryz.func55, Tryz.ntmps55
    go_wp2_with fail
    refine (H1.out _ HB0.out).mono ?_
    rintro e w3 ⟨rfl, hb3⟩
    generalize decide (a.F = b.F) = b1 at *
    have HB3 := Lib.hid (below_then HB0.out hb3)
    go_wp2
    go_ret
    exact ⟨by rw [HS.out]; rfl, HB3.out⟩
  · rw [decide_eq_false hn, Bool.false_and] at HS
    have hne := txt_ne hn
    clear hn
    go_enter Tryz.func55, Tryz.ntmps55
    go_wp2
    go_ret
    exact ⟨by rw [HS.out]; rfl, HB0.out⟩
set_option maxHeartbeats 4000000 in
theorem sameed_any (B : Nat) (a b : Ed) (vV vN vV' vN' : Value) (w : World) (hB : B ≤ w.heap.size) (ha : Rb B w vV a.V.length 1 (strv a.V)) (ha2 : Rb B w vN a.N.length 1 (intv a.N)) (hb : Rb B w vV' b.V.length 1 (strv b.V)) (hb2 : Rb B w vN' b.N.length 1 (intv b.N)) :
    Calls Tryz.prog 57 #[.agg #[.string (txt a.name), vV, vN], .agg #[.string (txt b.name), vV', vN']] w fun e w' => e = .returned (.bool (decide (a = b))) ∧ Below w.heap.size w w' := by
  have HS := Lib.hid (ed_dec a b)
  have H1 := Lib.hid (fun (w2 : World) (hx : Below w.heap.size w w2) => eqStr_rb B vV vV' a.V b.V w2 (ha.low (Low.below hx hB)) (hb.low (Low.below hx hB)))
  have H2 := Lib.hid (fun (w2 : World) (hx : Below w.heap.size w w2) => eqInt_rb B vN vN' a.N b.N w2 (ha2.low (Low.below hx hB)) (hb2.low (Low.below hx hB)))
  obtain ⟨A1, q1, rfl, -, -⟩ := ha
  obtain ⟨A2, q2, rfl, -, -⟩ := hb
  obtain ⟨A3, q3, rfl, -, -⟩ := ha2
  obtain ⟨A4, q4, rfl, -, -⟩ := hb2
  have HB0 := Lib.hid (below_lit (below_new w (.cells #[.string (txt a.name), .slice A1 a.V.length q1, .slice A3 a.N.length q3] 68)) (.cells #[.string (txt b.name), .slice A2 b.V.length q2, .slice A4 b.N.length q4] 68))
  have HBA := Lib.hid (heap_first w (.cells #[.string (txt a.name), .slice A1 a.V.length q1, .slice A3 a.N.length q3] 68) (.cells #[.string (txt b.name), .slice A2 b.V.length q2, .slice A4 b.N.length q4] 68) rfl)
  have HBB := Lib.hid (heap_second w (.cells #[.string (txt a.name), .slice A1 a.V.length q1, .slice A3 a.N.length q3] 68) (.cells #[.string (txt b.name), .slice A2 b.V.length q2, .slice A4 b.N.length q4] 68))
  by_cases hn : a.name = b.name
  · rw [decide_eq_true hn, Bool.true_and] at HS
    rw [hn] at HB0 HBA HBB ⊢
    clear hn
    go_enter Tryz.func57, Tryz.ntmps57
    go_wp2_with fail
    refine (H1.out _ HB0.out).mono ?_
    rintro e w3 ⟨rfl, hb3⟩
    have ga := (hb3.block w.heap.size (by simp; omega)).trans HBA.out
    have gb := (hb3.block (w.heap.size + 1) (by simp)).trans HBB.out
    have c2 := heap_cell ga 2
    have d2 := heap_cell gb 2
    simp at c2 d2
    have HB3 := Lib.hid (below_then HB0.out hb3)
    clear ga gb hb3
    generalize decide (a.V = b.V) = b1 at *
    cases b1 with
    | false =>
      go_wp2
      go_ret
      exact ⟨by rw [HS.out]; rfl, HB3.out⟩
    | true =>
      go_wp2_with fail
      refine (H2.out _ HB3.out).mono ?_
      rintro e w4 ⟨rfl, hb4⟩
      have HB4 := Lib.hid (below_then HB3.out hb4)
      clear hb4
      generalize decide (a.N = b.N) = b2 at *
      go_wp2
      go_ret
      exact ⟨by rw [HS.out]; rfl, HB4.out⟩
  · rw [decide_eq_false hn, Bool.false_and] at HS
    have hne := txt_ne hn
    clear hn
    go_enter Tryz.func57, Tryz.ntmps57
    go_wp2
    go_ret
    exact ⟨by rw [HS.out]; rfl, HB0.out⟩
set_option maxRecDepth 1000000 in
set_option maxHeartbeats 4000000 in
theorem eqMds_any (B : Nat) (v v' : Value) (l m : List Md) (xs ys : List Value) (w : World) (hB : B ≤ w.heap.size) (h1 : Rb B w v l.length 2 xs) (k1 : MdsAt B w l xs) (h2 : Rb B w v' m.length 2 ys) (k2 : MdsAt B w m ys) :
    Calls Tryz.prog 54 #[v, v', .func (.func 55) #[] #[]] w fun e w' => e = .returned (.bool (decide (l = m))) ∧ Below w.heap.size w w' := by
  obtain ⟨A, c, rfl, s1, b1⟩ := h1
  obtain ⟨A', c', rfl, s2, b2⟩ := h2
  have hsm : l.length ≤ 9223372036854775807 := by have h3 := s1.le; have h2 := s1.cap; unfold maxLen at h2; omega
  have H1 := Lib.hid s1
  have H2 := Lib.hid s2
  have K1 := Lib.hid k1
  have K2 := Lib.hid k2
  clear s1 s2 k1 k2
  by_cases hlen : l.length = m.length
  · have hb := lenI hlen
    go_enter Tryz.func54, Tryz.ntmps54
    have HL := Lib.hid hlen
    clear hlen
    go_wp2
    clear hb
    go_loopw [17] (fun i wr => ∃ k : Nat, i = .int .i64 k ∧ k ≤ l.length ∧ l.take k = m.take k ∧ Below w.heap.size w wr) (fun i _ => l.length - (intOf i).toNat)
    case atStart => exact ⟨0, rfl, by omega, rfl, Below.refl _ _⟩
    case round =>
      obtain ⟨k, rfl, hk, ht, hb⟩ := hrel
      have HT := Lib.hid ht
      have HB := Lib.hid hb
      clear ht
      by_cases hlt : k < l.length
      · have hlm : k < m.length := by have := HL.out; omega
        obtain ⟨a, ha⟩ : ∃ a, l[k]? = some a := ⟨_, List.getElem?_eq_getElem hlt⟩
        obtain ⟨b, hbk⟩ : ∃ b, m[k]? = some b := ⟨_, List.getElem?_eq_getElem hlm⟩
        obtain ⟨ad, vF, rfl, _, hr, c0, c1⟩ := mdr_at (H1.out.low b1 (Low.below hb hB)) (K1.out.low (Low.below hb hB)) ha
        obtain ⟨ad2, vF2, rfl, _, hr2, d0, d1⟩ := mdr_at (H2.out.low b2 (Low.below hb hB)) (K2.out.low (Low.below hb hB)) hbk
        have HAK := Lib.hid ha
        have HBK := Lib.hid hbk
        clear ha hbk hb
        have HB2 := Lib.hid (below_lit (below_lit HB.out (.cells #[.string (txt a.name), vF] 56)) (.cells #[.string (txt b.name), vF2] 56))
        have hl := (Low.alloc wr (.cells #[.string (txt a.name), vF] 56) (Nat.le_trans hB HB.out.size)).trans (Low.alloc (wr.alloc (.cells #[.string (txt a.name), vF] 56)) (.cells #[.string (txt b.name), vF2] 56) (Nat.le_trans hB (Nat.le_trans HB.out.size (by simp))))
        have HC := Lib.hid (samemd_any B a b vF vF2 _ (Nat.le_trans hB HB2.out.size) (hr.low hl) (hr2.low hl))
        obtain ⟨AF, cF, rfl, -, -⟩ := hr
        obtain ⟨AF2, cF2, rfl, -, -⟩ := hr2
        have d0' := ((below_new wr (.cells #[.string (txt a.name), .slice AF a.F.length cF] 56)).cell (cellLt d0)).trans d0
        have d1' := ((below_new wr (.cells #[.string (txt a.name), .slice AF a.F.length cF] 56)).cell (cellLt d1)).trans d1
        clear hl d0 d1
        by_cases hab : a = b
        · have HN := Lib.hid (fun (h : decide (a = b) = true) => takeN HAK.out (show m[k]? = some a by rw [hab]; exact HBK.out) HT.out)
          have hd : decide (a = b) = true := decide_eq_true hab
          rw [hd] at HC
          have HN2 := Lib.hid (HN.out hd)
          clear hab hd
          go_wp2_with fail
          refine HC.out.mono ?_
          rintro e w8 ⟨rfl, hb8⟩
          go_wp2
          exact ⟨⟨k + 1, by go_num, by omega, HN2.out, below_then HB2.out hb8⟩, by simp [intOf]; omega⟩
        · have HF := Lib.hid (ne_at HAK.out HBK.out hab)
          have hd : decide (a = b) = false := decide_eq_false hab
          rw [hd] at HC
          clear hab hd
          go_wp2_with fail
          refine HC.out.mono ?_
          rintro e w8 ⟨rfl, hb8⟩
          go_wp2
          go_ret
          exact ⟨by rw [HF.out]; rfl, below_then HB2.out hb8⟩
      · obtain rfl : k = l.length := by omega
        have HF := Lib.hid (decide_eq_true (takeE HL.out HT.out))
        go_wp2
        go_ret
        exact ⟨by rw [HF.out]; rfl, HB.out⟩
  · have hb := lenN hlen
    have HF := Lib.hid (ne_len hlen)
    clear hlen
    go_enter Tryz.func54, Tryz.ntmps54
    go_wp2
    go_ret
    exact ⟨by rw [HF.out]; rfl, Below.refl _ _⟩
set_option maxRecDepth 1000000 in
set_option maxHeartbeats 4000000 in
theorem eqEds_any (B : Nat) (v v' : Value) (l m : List Ed) (xs ys : List Value) (w : World) (hB : B ≤ w.heap.size) (h1 : Rb B w v l.length 3 xs) (k1 : EdsAt B w l xs) (h2 : Rb B w v' m.length 3 ys) (k2 : EdsAt B w m ys) :
    Calls Tryz.prog 56 #[v, v', .func (.func 57) #[] #[]] w fun e w' => e = .returned (.bool (decide (l = m))) ∧ Below w.heap.size w w' := by
  obtain ⟨A, c, rfl, s1, b1⟩ := h1
  obtain ⟨A', c', rfl, s2, b2⟩ := h2
  have hsm : l.length ≤ 9223372036854775807 := by have h3 := s1.le; have h2 := s1.cap; unfold maxLen at h2; omega
  have H1 := Lib.hid s1
  have H2 := Lib.hid s2
  have K1 := Lib.hid k1
  have K2 := Lib.hid k2
  clear s1 s2 k1 k2
  by_cases hlen : l.length = m.length
  · have hb := lenI hlen
    go_enter Tryz.func56, Tryz.ntmps56
    have HL := Lib.hid hlen
    clear hlen
    go_wp2
    clear hb
    go_loopw [17] (fun i wr => ∃ k : Nat, i = .int .i64 k ∧ k ≤ l.length ∧ l.take k = m.take k ∧ Below w.heap.size w wr) (fun i _ => l.length - (intOf i).toNat)
    case atStart => exact ⟨0, rfl, by omega, rfl, Below.refl _ _⟩
    case round =>
      obtain ⟨k, rfl, hk, ht, hb⟩ := hrel
      have HT := Lib.hid ht
      have HB := Lib.hid hb
      clear ht
      by_cases hlt : k < l.length
      · have hlm : k < m.length := by have := HL.out; omega
        obtain ⟨a, ha⟩ : ∃ a, l[k]? = some a := ⟨_, List.getElem?_eq_getElem hlt⟩
        obtain ⟨b, hbk⟩ : ∃ b, m[k]? = some b := ⟨_, List.getElem?_eq_getElem hlm⟩
        obtain ⟨ad, vV, vN, rfl, _, hr, hs, c0, c1, c2⟩ := edr_at (H1.out.low b1 (Low.below hb hB)) (K1.out.low (Low.below hb hB)) ha
        obtain ⟨ad2, vV2, vN2, rfl, _, hr2, hs2, d0, d1, d2⟩ := edr_at (H2.out.low b2 (Low.below hb hB)) (K2.out.low (Low.below hb hB)) hbk
        have HAK := Lib.hid ha
        have HBK := Lib.hid hbk
        clear ha hbk hb
        have HB2 := Lib.hid (below_lit (below_lit HB.out (.cells #[.string (txt a.name), vV, vN] 68)) (.cells #[.string (txt b.name), vV2, vN2] 68))
        have hl := (Low.alloc wr (.cells #[.string (txt a.name), vV, vN] 68) (Nat.le_trans hB HB.out.size)).trans (Low.alloc (wr.alloc (.cells #[.string (txt a.name), vV, vN] 68)) (.cells #[.string (txt b.name), vV2, vN2] 68) (Nat.le_trans hB (Nat.le_trans HB.out.size (by simp))))
        have HC := Lib.hid (sameed_any B a b vV vN vV2 vN2 _ (Nat.le_trans hB HB2.out.size) (hr.low hl) (hs.low hl) (hr2.low hl) (hs2.low hl))
        obtain ⟨AV, cV, rfl, -, -⟩ := hr
        obtain ⟨AV2, cV2, rfl, -, -⟩ := hr2
        obtain ⟨AN, cN, rfl, -, -⟩ := hs
        obtain ⟨AN2, cN2, rfl, -, -⟩ := hs2
        have d0' := ((below_new wr (.cells #[.string (txt a.name), .slice AV a.V.length cV, .slice AN a.N.length cN] 68)).cell (cellLt d0)).trans d0
        have d1' := ((below_new wr (.cells #[.string (txt a.name), .slice AV a.V.length cV, .slice AN a.N.length cN] 68)).cell (cellLt d1)).trans d1
        have d2' := ((below_new wr (.cells #[.string (txt a.name), .slice AV a.V.length cV, .slice AN a.N.length cN] 68)).cell (cellLt d2)).trans d2
        clear hl d0 d1 d2
        by_cases hab : a = b
        · have HN := Lib.hid (fun (h : decide (a = b) = true) => takeN HAK.out (show m[k]? = some a by rw [hab]; exact HBK.out) HT.out)
          have hd : decide (a = b) = true := decide_eq_true hab
          rw [hd] at HC
          have HN2 := Lib.hid (HN.out hd)
          clear hab hd
          go_wp2_with fail
          refine HC.out.mono ?_
          rintro e w8 ⟨rfl, hb8⟩
          go_wp2
          exact ⟨⟨k + 1, by go_num, by omega, HN2.out, below_then HB2.out hb8⟩, by simp [intOf]; omega⟩
        · have HF := Lib.hid (ne_at HAK.out HBK.out hab)
          have hd : decide (a = b) = false := decide_eq_false hab
          rw [hd] at HC
          clear hab hd
          go_wp2_with fail
          refine HC.out.mono ?_
          rintro e w8 ⟨rfl, hb8⟩
          go_wp2
          go_ret
          exact ⟨by rw [HF.out]; rfl, below_then HB2.out hb8⟩
      · obtain rfl : k = l.length := by omega
        have HF := Lib.hid (decide_eq_true (takeE HL.out HT.out))
        go_wp2
        go_ret
        exact ⟨by rw [HF.out]; rfl, HB.out⟩
  · have hb := lenN hlen
    have HF := Lib.hid (ne_len hlen)
    clear hlen
    go_enter Tryz.func56, Tryz.ntmps56
    go_wp2
    go_ret
    exact ⟨by rw [HF.out]; rfl, Below.refl _ _⟩
set_option maxHeartbeats 4000000 in
theorem sameT_any (B : Nat) (s t : Sc) (vM vE vM' vE' : Value) (w : World) (hB : B ≤ w.heap.size) (hs : SAt B w s vM vE) (ht : SAt B w t vM' vE') :
    Calls Tryz.prog 27 #[.agg #[vM, vE], .agg #[vM', vE']] w fun e w' => e = .returned (.bool (decide (s = t))) ∧ Below w.heap.size w w' := by
  have HS := Lib.hid (sc_dec s t)
  obtain ⟨xs, ys, h1, h2, h3, h4⟩ := hs
  obtain ⟨xs', ys', k1, k2, k3, k4⟩ := ht
  have H1 := Lib.hid (fun (w2 : World) (hb2 : Below w.heap.size w w2) => eqMds_any B vM vM' s.M t.M xs xs' w2 (Nat.le_trans hB hb2.size) (h1.low (Low.below hb2 hB)) (h2.low (Low.below hb2 hB)) (k1.low (Low.below hb2 hB)) (k2.low (Low.below hb2 hB)))
  have H2 := Lib.hid (fun (w2 : World) (hb2 : Below w.heap.size w w2) => eqEds_any B vE vE' s.E t.E ys ys' w2 (Nat.le_trans hB hb2.size) (h3.low (Low.below hb2 hB)) (h4.low (Low.below hb2 hB)) (k3.low (Low.below hb2 hB)) (k4.low (Low.below hb2 hB)))
  obtain ⟨A1, q1, rfl, -, -⟩ := h1
  obtain ⟨A2, q2, rfl, -, -⟩ := h3
  obtain ⟨A3, q3, rfl, -, -⟩ := k1
  obtain ⟨A4, q4, rfl, -, -⟩ := k3
  clear h2 h4 k2 k4
  have HB0 := Lib.hid (below_lit (below_new w (.cells #[.slice A1 s.M.length q1, .slice A2 s.E.length q2] 29)) (.cells #[.slice A3 t.M.length q3, .slice A4 t.E.length q4] 29))
  have HBA := Lib.hid (heap_first w (.cells #[.slice A1 s.M.length q1, .slice A2 s.E.length q2] 29) (.cells #[.slice A3 t.M.length q3, .slice A4 t.E.length q4] 29) rfl)
  have HBB := Lib.hid (heap_second w (.cells #[.slice A1 s.M.length q1, .slice A2 s.E.length q2] 29) (.cells #[.slice A3 t.M.length q3, .slice A4 t.E.length q4] 29))
  go_enter Tryz.func27, Tryz.ntmps27
  go_wp2_with fail
  refine (H1.out _ HB0.out).mono ?_
  rintro e w3 ⟨rfl, hb3⟩
  have ga := (hb3.block w.heap.size (by simp; omega)).trans HBA.out
  have gb := (hb3.block (w.heap.size + 1) (by simp)).trans HBB.out
  have c1 := heap_cell ga 1
  have d1 := heap_cell gb 1
  simp at c1 d1
  have HB3 := Lib.hid (below_then HB0.out hb3)
  clear ga gb hb3
  generalize decide (s.M = t.M) = b1 at *
  cases b1 with
  | false =>
    go_wp2
    go_ret
    exact ⟨by rw [HS.out]; rfl, HB3.out⟩
  | true =>
    go_wp2_with fail
    refine (H2.out _ HB3.out).mono ?_
    rintro e w4 ⟨rfl, hb4⟩
    have HB4 := Lib.hid (below_then HB3.out hb4)
    clear hb4
    generalize decide (s.E = t.E) = b2 at *
    go_wp2
    go_ret
    exact ⟨by rw [HS.out]; rfl, HB4.out⟩
end Go.Proofs.YtciiemomfniecaaGreatDoor
/-
  Reserved numbers of a file that comes in are printed: the contract.
-/
namespace Go.Proofs.YtciiemomfniecaaGreatDoor
set_option maxRecDepth 100000

open Go.RowKit

set_option maxHeartbeats 4000000 in
theorem pres_raw (B : Nat) (v vr : Value) (L : List UInt8) (l : List Int) (w : World) (LV : LaidB B w) (ho : Out B w v L) (hm : Rb B w vr l.length 1 (intv l)) (hB : B ≤ w.heap.size) (hd : ∀ n ∈ l, -9223372036854775808 ≤ n ∧ n ≤ 9223372036854775807) (hl : L.length + (resB l).length ≤ 1000000000000) (hll : l.length ≤ 1000000) :
    Calls Tryz.prog 111 #[v, vr] w (OutPost B (L ++ resB l) w) := by
  obtain ⟨i0, hi, hz0, hz1, hz2⟩ := info_parts info_u8
  obtain ⟨LW, hLW⟩ : ∃ x : List UInt8, x = L ++ [32, 32, 114, 101, 115, 101, 114, 118, 101, 100] := ⟨_, rfl⟩
  have hlw : LW.length = L.length + 10 := by rw [hLW]; simp
  have HR : Hid (L ++ resB l = LW ++ numsB [32] l ++ lineB [[59]]) := Lib.hid (by rw [hLW, resB]; simp)
  have hln : LW.length + (numsB [32] l).length + (lineB [[59]]).length ≤ 1000000000000 := by
    rw [resB] at hl
    simp only [List.length_append] at hl
    simp only [List.length_cons, List.length_nil] at hl
    omega
  have HLN := Lib.hid hln
  have HLW := Lib.hid hLW
  have HO := Lib.hid ho
  obtain ⟨A, c, rfl, hsm, hba⟩ := hm
  have HM := Lib.hid hsm
  have HBA := Lib.hid hba
  have HD := Lib.hid hd
  have HLV := Lib.hid LV
  have hlL : L.length ≤ 1000000000000 := by omega
  clear hl hln hsm hba hd LV ho hLW
  go_enter Tryz.func111, Tryz.ntmps111
  go_wp2_with (refine Lib.wpList_append_own_string _ rfl _ _ _ _ rfl B 5 i0 Tryz.underlying106 Tryz.underlying9 hi hz0 hz1 hz2 _ _ _ rfl HO.out (txt [32, 32, 114, 101, 115, 101, 114, 118, 101, 100]) rfl (by rw [txt_size]; unfold maxLen; simp; omega) (by rw [txt_size]; simp; omega) (by omega) ?_; intro v1 w1 hown1 hg1 hnil1)
  have HO1 : Hid (Out B w1 v1 LW) := Lib.hid (by rw [HLW.out]; exact Out.grow hown1 (by rw [txt_size]; simp) (by rw [strCells_bs]))
  have HP1 := Lib.hid (Pr.grown HO.out hg1 hB)
  have hs1 := hg1.size
  clear hown1 hg1 hnil1
  go_loopw [0, 5, 12] (fun o s i wr => NsRel B LW l w o s i wr) (fun _ _ i _ => l.length - (intOf i).toNat)
  case atStart => exact ⟨0, rfl, rfl, by omega, by simpa [numsB] using HO1.out, HP1.out⟩
  case round =>
    obtain ⟨k, rfl, rfl, hk, ho, hpr⟩ := hrel
    have HO5 := Lib.hid ho
    have HPR := Lib.hid hpr
    have hsz := hpr.size
    clear ho hpr
    by_cases h1 : k < l.length
    · obtain ⟨n, hdk⟩ : ∃ n, l[k]? = some n := ⟨_, List.getElem?_eq_getElem h1⟩
      obtain ⟨ad, rfl, hg, c0⟩ := intr_at (HM.out.low HBA.out HPR.out.low) hdk
      obtain ⟨n1, n2⟩ := HD.out n (List.mem_of_getElem? hdk)
      have hft := numsB_take [32] l k n hdk
      have hfl := numsB_le [32] l (k + 1)
      obtain ⟨a, ha⟩ : ∃ a : List UInt8, a = (if k = 0 then [32] else [44, 32]) := ⟨_, rfl⟩
      rw [← ha] at hft
      rw [hft] at hfl
      have HFT := Lib.hid hft
      have H2 := Lib.hid (fun w L => digits_any n n1 n2 w L)
      change Hid (∀ w, Laid w → Calls Tryz.prog 112 #[.int .i64 n] w fun e w' => e = .returned (.string (txt (digB n))) ∧ Below w.heap.size w w') at H2
      simp only [List.length_append] at hfl
      have hsa := txt_size a
      have hsd := txt_size (digB n)
      have hle := HLN.out
      have ho5l : (LW ++ numsB [32] (l.take k)).length = LW.length + (numsB [32] (l.take k)).length := by simp
      have HOL := Lib.hid ho5l
      have b1 : (LW ++ numsB [32] (l.take k)).length + (txt a).size ≤ 1000000000000 := by omega
      have b2 : (LW ++ numsB [32] (l.take k)).length + (txt a).size + (txt (digB n)).size ≤ 1000000000000 := by omega
      have HSA := Lib.hid hsa
      have HSD := Lib.hid hsd
      rw [← ha]
      have HA := Lib.hid ha
      clear hft hdk hfl ha hsa hsd hle ho5l n1 n2
      go_wp2_with (refine Lib.wpList_append_own_string _ rfl _ _ _ _ rfl B 5 i0 Tryz.underlying106 Tryz.underlying9 hi hz0 hz1 hz2 _ _ _ rfl HO5.out (txt a) rfl (by unfold maxLen; omega) (by omega) (by omega) ?_; intro v6 w6 hown6 hg6 hnil6)
      have hq6 : Pr B w w6 := HPR.out.trans (Pr.grown HO5.out hg6 (by omega))
      have HQ6 := Lib.hid hq6
      have ho6 : Out B w6 v6 (LW ++ numsB [32] (l.take k) ++ a) := Out.grow hown6 (by rw [HSA.out]; simp [Nat.add_assoc]) (by rw [strCells_bs])
      have hs6 := hq6.size
      clear hown6 hnil6 hq6
      refine (H2.out _ (HLV.out.pr HQ6.out).laid).mono ?_
      rintro e w7 ⟨rfl, hb7⟩
      have HO7 := Lib.hid (ho6.below hb7)
      have HQ7 := Lib.hid (HQ6.out.trans (Pr.below hb7 (by omega)))
      have hs7 := hb7.size
      have b3 : (LW ++ numsB [32] (l.take k) ++ a).length + (txt (digB n)).size ≤ 1000000000000 := by
        have := HSA.out
        rw [List.length_append]
        omega
      clear ho6 hb7 hg6
      go_wp2_with (refine Lib.wpList_append_own_string _ rfl _ _ _ _ rfl B 5 i0 Tryz.underlying106 Tryz.underlying9 hi hz0 hz1 hz2 _ _ _ rfl HO7.out (txt (digB n)) rfl (by unfold maxLen; omega) (by omega) (by omega) ?_; intro v8 w8 hown8 hg8 hnil8)
      refine ⟨NsRel.mk (k + 1) (by go_num) rfl (by omega) ?_ (HQ7.out.trans (Pr.grown HO7.out hg8 (by omega))), by simp [intOf]; omega⟩
      rw [HFT.out, ← List.append_assoc, ← List.append_assoc]
      exact Out.grow hown8 (by rw [HSD.out]; simp [Nat.add_assoc]) (by rw [strCells_bs])
    · obtain rfl : k = l.length := by omega
      rw [List.take_of_length_le (Nat.le_refl _)] at HO5
      have hle : (LW ++ numsB [32] l).length + ([[59]] : List (List UInt8)).flatten.length ≤ 1000000000000 := by
        have := HLN.out
        unfold lineB at this
        simp only [List.length_append] at this ⊢
        omega
      obtain ⟨a, ha⟩ : ∃ a : List UInt8, a = (if l.length = 0 then [32] else [44, 32]) := ⟨_, rfl⟩
      rw [← ha]
      clear ha
      have H2 := Lib.hid (line_any B wr.heap.size 1 _ _ [[59]] (wr.alloc (.cells (strv [[59]]).toArray 9)) rfl (HO5.out.alloc _) (heap_alloc_new _ _) (by simp; omega) hle (by simp))
      clear hle
      go_wp2_with fail
      refine H2.out.mono ?_
      rintro e w8 ⟨v8, rfl, ho8, hpr8⟩
      go_wp2
      go_ret
      refine ⟨v8, rfl, ?_, (HPR.out.alloc hB _).trans hpr8⟩
      rw [HR.out]
      exact ho8
end Go.Proofs.YtciiemomfniecaaGreatDoor
/-
  An enum of a file that comes in is printed: the contract.
-/
namespace Go.Proofs.YtciiemomfniecaaGreatDoor
set_option maxRecDepth 100000

open Go.RowKit

set_option maxHeartbeats 4000000 in
theorem penum_raw (B : Nat) (v vV : Value) (L : List UInt8) (e : En) (w : World) (LV : LaidB B w) (ho : Out B w v L) (hm : EAt B w e vV) (hB : B ≤ w.heap.size) (hd : ∀ d ∈ e.V, VlOk d) (hl : L.length + (enumB e).length ≤ 1000000000000) (hll : e.V.length ≤ 1000000) :
    Calls Tryz.prog 59 #[v, EnV e vV] w (OutPost B (L ++ enumB e) w) := by
  obtain ⟨name, l, at_⟩ := e
  unfold EAt at hm
  simp only at hm hd hll
  have HR : Hid (enumB ⟨name, l, at_⟩ = lineB [wEnum, [32], name, [32, 123]] ++ valsB l ++ lineB [[125]]) := Lib.hid rfl
  have hln : L.length + (lineB [wEnum, [32], name, [32, 123]]).length + (valsB l).length + (lineB [[125]]).length ≤ 1000000000000 := by
    rw [HR.out] at hl
    simp only [List.length_append] at hl
    omega
  have HLN := Lib.hid hln
  have hl1 : L.length + [wEnum, [32], name, [32, 123]].flatten.length ≤ 1000000000000 := by
    unfold lineB at hln
    simp only [List.length_append] at hln ⊢
    omega
  obtain ⟨A, c, hvm, hsm, hba⟩ := hm
  have HX : Hid (EnV ⟨name, l, at_⟩ vV = .agg #[.string (txt name), .slice A l.length c, .int .i64 at_]) := Lib.hid (by rw [hvm]; rfl)
  rw [HX.out]
  have HB0 : Hid (Out B (w.alloc (.cells #[.string (txt name), .slice A l.length c, .int .i64 at_] 65)) v L) := Lib.hid (ho.alloc _)
  have H1 := Lib.hid (line_any B (w.heap.size + 1) 4 v L [wEnum, [32], name, [32, 123]] ((w.alloc (.cells #[.string (txt name), .slice A l.length c, .int .i64 at_] 65)).alloc (.cells (strv [wEnum, [32], name, [32, 123]]).toArray 9)) rfl (HB0.out.alloc _) (heap_second w _ _) (by simp; omega) hl1 (by simp))
  subst hvm
  have HM := Lib.hid hsm
  have HBA := Lib.hid hba
  have HD := Lib.hid hd
  have HLV := Lib.hid LV
  clear hl hln hl1 hsm hba hd LV ho
  go_enter Tryz.func59, Tryz.ntmps59
  go_wp2_with fail
  refine H1.out.mono ?_
  rintro e w1 ⟨v1, rfl, ho1, hpr1⟩
  have HO1 := Lib.hid ho1
  have hs1 := hpr1.size
  simp at hs1
  have hb1 := (hpr1.typed w.heap.size _ _ _ (heap_first w (.cells #[.string (txt name), .slice A l.length c, .int .i64 at_] 65) (.cells (strv [wEnum, [32], name, [32, 123]]).toArray 9) rfl) (by decide)).trans (heap_first w _ _ rfl)
  have e1 := heap_cell hb1 1
  simp at e1
  have HP1 := Lib.hid ((((Pr.refl B w).alloc hB _).alloc hB _).trans hpr1)
  clear ho1 hpr1 hb1
  go_wp2
  go_loopw [0, 15] (fun o i wr => VsRel B (L ++ lineB [wEnum, [32], name, [32, 123]]) l w o i wr) (fun _ i _ => l.length - (intOf i).toNat)
  case atStart => exact ⟨0, rfl, by omega, by simpa [valsB] using HO1.out, HP1.out⟩
  case round =>
    obtain ⟨k, rfl, hk, ho, hpr⟩ := hrel
    have HO5 := Lib.hid ho
    have HPR := Lib.hid hpr
    have hsz := hpr.size
    clear ho hpr
    by_cases h1 : k < l.length
    · obtain ⟨d, hdk⟩ : ∃ d, l[k]? = some d := ⟨_, List.getElem?_eq_getElem h1⟩
      obtain ⟨ad, rfl, hg, c0, c1, c2⟩ := vlr_at (HM.out.low HBA.out HPR.out.low) hdk
      obtain ⟨n1, n2⟩ := HD.out d (List.mem_of_getElem? hdk)
      have hft := valsB_take l k d hdk
      have hfl := valsB_le l (k + 1)
      rw [hft, List.length_append] at hfl
      have HFT := Lib.hid hft
      have hle : (L ++ lineB [wEnum, [32], name, [32, 123]] ++ valsB (l.take k)).length + [[32, 32], d.name, [32, 61, 32], digB d.n, [59]].flatten.length ≤ 1000000000000 := by
        have := HLN.out
        simp only [valB] at hfl
        unfold lineB at hfl this ⊢
        simp only [List.length_append] at this hfl ⊢
        omega
      have HLE := Lib.hid hle
      have H2 := Lib.hid (fun w L => digits_any d.n n1 n2 w L)
      have h0 := box3_keep (w' := (wr.alloc (.cells (VC d).toArray 83)).drew) rfl (box3_new wr d)
      simp only [VC] at h0
      have LB : Laid ((wr.alloc (.cells #[.string (txt d.name), .int .i64 d.n, .int .i64 d.at_] 83)).drew) := ((HLV.out.pr HPR.out).laid.on (below_new _ _)).on (Below.refl _ _).drew
      have HOB := Lib.hid ((HO5.out.alloc (.cells #[.string (txt d.name), .int .i64 d.n, .int .i64 d.at_] 83)).below (Below.refl _ _).drew)
      clear hft hdk hfl n1 n2 hle
      go_wp2_with fail
      go_region_held3 (fun w' => w'.heap[wr.heap.size]? = some (.cells #[.string (txt d.name), .int .i64 d.n, .int .i64 d.at_] 83 (0, 0)) ∧ w'.cell? ⟨wr.heap.size, 0, none⟩ = some (.string (txt d.name)) ∧ w'.cell? ⟨wr.heap.size, 1, none⟩ = some (.int .i64 d.n) ∧ w'.cell? ⟨wr.heap.size, 2, none⟩ = some (.int .i64 d.at_))
        (first | exact h0 | exact box3_below hb2 ‹_› | exact box3_below (below_new _ _) ‹_› | exact box3_pr hpr4 ‹_› | go_keep)
        ((first
          | (go_at_call 112; refine (H2.out _ LB).mono ?_; rintro e w2 ⟨rfl, hb2⟩)
          | (go_at_call 106; refine (line_any B _ 5 _ _ [[32, 32], d.name, [32, 61, 32], digB d.n, [59]] _ rfl ((HOB.out.below hb2).alloc _) (heap_alloc_new _ _) (by have h2 := hb2.size; simp at h2 ⊢; omega) HLE.out (by simp)).mono ?_; rintro e w4 ⟨v4, rfl, ho4, hpr4⟩)))
      all_goals
        have h2 := hb2.size
        simp at h2
        go_wp2
        refine ⟨VsRel.mk (k + 1) (by go_num) (by omega) ?_ ?_, by simp [intOf]; omega⟩
        · rw [HFT.out, ← List.append_assoc]
          exact ho4
        · exact (((HPR.out.alloc hB _).drew.trans (Pr.below hb2 (by simp; omega))).trans ((Pr.refl B w2).alloc (by omega) _)).trans hpr4
    · obtain rfl : k = l.length := by omega
      rw [List.take_of_length_le (Nat.le_refl _)] at HO5
      have hle : (L ++ lineB [wEnum, [32], name, [32, 123]] ++ valsB l).length + ([[125]] : List (List UInt8)).flatten.length ≤ 1000000000000 := by
        have := HLN.out
        unfold lineB at this ⊢
        simp only [List.length_append] at this ⊢
        omega
      have H2 := Lib.hid (line_any B wr.heap.size 1 _ _ [[125]] (wr.alloc (.cells (strv [[125]]).toArray 9)) rfl (HO5.out.alloc _) (heap_alloc_new _ _) (by simp; omega) hle (by simp))
      clear hle
      go_wp2_with fail
      refine H2.out.mono ?_
      rintro e w8 ⟨v8, rfl, ho8, hpr8⟩
      go_wp2
      go_ret
      refine ⟨v8, rfl, ?_, (HPR.out.alloc hB _).trans hpr8⟩
      rw [HR.out, ← List.append_assoc, ← List.append_assoc]
      exact ho8
end Go.Proofs.YtciiemomfniecaaGreatDoor
