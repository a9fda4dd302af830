/-
  The chapter's example: the contract of the statements' own first call.
-/
import Derived.Test.YtciiemomfniecaaGreatDoorTabMayC
import Derived.Test.YtciiemomfniecaaGreatDoorTabEx
import Derived.Test.YtciiemomfniecaaGreatDoorRawSch
namespace Go.Proofs.YtciiemomfniecaaGreatDoor
set_option maxRecDepth 100000

open Go.RowKit Go.Maps

theorem ex8_read : readS ex8 = ex8S ∧ readAt ex8 = 0 ∧ readE ex8 = 0 := by
  unfold readS readAt readE
  rw [ex8_par.2.2, ex8_par.1]
  refine ⟨ex8_tab.1, ?_, ex8_tab.2⟩
  unfold tabAt
  rw [if_pos rfl, ex8_err]
  rfl
theorem ex8_in : FlIn ex8F := by
  refine ⟨fun m hm => ?_, fun e he => by cases he⟩
  obtain rfl : m = ex8M := by simpa [ex8F] using hm
  refine ⟨by decide, fun d hd => ?_, fun x hx => (by cases hx), fun n hn => (by cases hn), by unfold inr; decide⟩
  have : d = ex8A ∨ d = ex8B := by simpa [ex8M] using hd
  rcases this with rfl | rfl <;> (constructor <;> first | decide | (unfold inr; decide))
theorem ex8_scin : ScIn ex8S := by
  refine ⟨fun m hm => ?_, fun e he => by cases he⟩
  obtain rfl : m = ⟨[65], [⟨1, [98], 0, 0, false, -1, 0⟩, ⟨2, [97], 9, 0, false, -1, 0⟩]⟩ := by simpa [ex8S] using hm
  refine ⟨by decide, fun d hd => ?_⟩
  have : d = ⟨1, [98], 0, 0, false, -1, 0⟩ ∨ d = ⟨2, [97], 9, 0, false, -1, 0⟩ := by simpa using hd
  rcases this with rfl | rfl <;> exact ⟨by unfold inr; decide, by decide, by unfold inr; decide, by unfold inr; decide, by unfold inr; decide, by unfold inr; decide⟩
theorem ex8_good : errR ex8F = none := ex8_err
theorem ex8_may : ScMay ex8S := by rw [← ex8_sch]; exact sch_may ((good_iff _).1 ex8_err)
theorem ex8_find : findS ex8S 0 [97] = some ⟨2, [97], 9, 0, false, -1, 0⟩ ∧ byS ex8S 0 1 = some ⟨1, [98], 0, 0, false, -1, 0⟩ := ⟨by decide, by decide⟩
/-- A struct is loaded behind a guard that holds. -/
theorem wpList_load_row_g {P : Program} {ops : Array Oper} {rest : List Oper} {o : Oper} {a : Act} {w : World} {Q : Exit → Act → World → Prop} (hw : Region.wanted o (yielded ops a.tmps) = true) (ty : TypeId) (x : Operand) (ho : o.op = .load ty x)
    (g : Nat) (hx : a.eval x = .pointer (some ⟨g, 0, none⟩)) (t : TypeId) (cs : Array Value) (fr : Nat × Nat) (d : TypeDesc) (hg : w.heap[g]? = some (.cells cs t fr))
    (hu : P.underlying ty = some d) (hd : (match d with | .struct _ | .array _ _ => true | _ => false) = true) (hi : (P.info? ty).map (·.size) = some cs.size)
    (h : wpList P ops Q rest (a.put o.dst (.agg cs)) w) : wpList P ops Q (o :: rest) a w := by
  refine wpList_step fun K hK => ?_
  rw [if_pos hw]
  exact wp_load_row ty x ho g hx t cs fr d hg hu hd hi (hK _ _ h)
theorem wpList_load_scg {ops : Array Oper} {rest : List Oper} {o : Oper} {a : Act} {w : World} {Q : Exit → Act → World → Prop} (hw : Region.wanted o (yielded ops a.tmps) = true) (x : Operand) (ho : o.op = .load 29 x)
    (g : Nat) (u0 u1 : Value) (hx : a.eval x = .pointer (some ⟨g, 0, none⟩)) (t : TypeId) (fr : Nat × Nat) (hg : w.heap[g]? = some (.cells #[u0, u1] t fr))
    (h : wpList Tryz.prog ops Q rest (a.put o.dst (.agg #[u0, u1])) w) : wpList Tryz.prog ops Q (o :: rest) a w :=
  wpList_load_row_g hw 29 x ho g hx t _ fr _ hg Tryz.underlying29 rfl infoSc h
set_option maxHeartbeats 4000000 in
theorem awake8_any (w : World) (L : LT w) : Calls Tryz.prog 9 #[] w fun e w' => e = .returned (.bool true) ∧ Below w.heap.size w w' := by
  obtain ⟨s, hs⟩ : ∃ s, s = txt ex8 := ⟨_, rfl⟩
  have hs' : (⟨#[109, 101, 115, 115, 97, 103, 101, 32, 65, 32, 123, 32, 65, 32, 97, 32, 61, 32, 50, 59, 32, 105, 110, 116, 54, 52, 32, 98, 32, 61, 32, 49, 59, 32, 125]⟩ : ByteArray) = s := hs.symm
  have hrd := fun wx (hx : LT wx) => readT_any s (by rw [hs]; decide) wx hx (by rw [hs, txt_list, ex8_par.1]; exact ex8_in)
  rw [hs, txt_list, ex8_read.1, ex8_read.2.1, ex8_read.2.2, ← hs] at hrd
  have HRD := Lib.hid hrd
  have HL := Lib.hid L
  clear hrd hs L
  go_enter Tryz.func9, Tryz.ntmps9
  simp only [hs']
  clear hs'
  go_wp2_with fail
  refine (HRD.out _ HL.out).mono ?_
  rintro e w1 ⟨vM, vE, rfl, hsr, hb1⟩
  have HB1 := Lib.hid hb1
  have HSA := Lib.hid hsr.at
  obtain ⟨xs, ys, g1, g2, g3, g4⟩ := hsr
  obtain ⟨A1, q1, rfl, s1⟩ := Sl.of_own g1
  obtain ⟨A2, q2, rfl, -⟩ := Sl.of_own g3
  obtain ⟨ad, vF, rfl, hgd, hrF, c0, c1⟩ := mdr_at (k := 0) s1 (MdsAt.of_own g2) rfl
  obtain ⟨AF, qF, rfl, -, -⟩ := hrF
  have e1 : ex8S.M.length = 1 := rfl
  have e2 : ex8S.E.length = 0 := rfl
  have HF1 := Lib.hid (fun w2 (hb2 : Below w1.heap.size w1 w2) => Find_any w1.heap.size ex8S _ _ 0 [97] w2 hb2.size (HSA.out.low (Low.below hb2 (Nat.le_refl _))))
  have HF2 := Lib.hid (fun w2 (hb2 : Below w1.heap.size w1 w2) => By_any w1.heap.size ex8S _ _ 0 1 w2 hb2.size (HSA.out.low (Low.below hb2 (Nat.le_refl _))))
  have HMY := Lib.hid (fun w2 (hb2 : Below w1.heap.size w1 w2) => may_any w1.heap.size ex8S _ _ w2 hb2.size (HSA.out.low (Low.below hb2 (Nat.le_refl _))) ex8_scin (HL.out.tabs.on (below_then HB1.out hb2)))
  rw [ex8_find.1, e1, e2] at HF1
  rw [ex8_find.2, e1, e2] at HF2
  rw [e1, e2] at HMY
  rw [e1, e2]
  clear g1 g2 g3 g4 hb1 s1
  go_wp2_with fail
  have HB2 := Lib.hid (below_lit HB1.out (.cells #[.slice (some ad) 1 q1, .slice A2 0 q2] 29))
  have hbx := below_new w1 (.cells #[.slice (some ad) 1 q1, .slice A2 0 q2] 29)
  have hbo : (w1.alloc (.cells #[.slice (some ad) 1 q1, .slice A2 0 q2] 29)).heap[w1.heap.size]? = some (.cells #[.slice (some ad) 1 q1, .slice A2 0 q2] 29 (0, 0)) := heap_alloc_new w1 _
  refine (HF1.out _ hbx).mono ?_
  rintro e w2 ⟨rfl, hb2⟩
  have hbo2 := (hb2.block _ (by simp)).trans hbo
  have hbx2 := below_then hbx hb2
  unfold foundV
  simp only [DC, Option.getD_some, Option.isSome_some]
  have hbo3 := ((below_new w2 (.cells #[.int .i64 2, .string (txt [97]), .int .i64 9, .int .i64 0, .bool false, .int .i64 (-1), .int .i64 0] 39)).block _ (Array.getElem?_eq_some_iff.1 hbo2).1).trans hbo2
  clear hbo2 hbo hbx
  go_wp2_with (refine wpList_load_sc rfl _ rfl w1.heap.size _ _ rfl _ _ hbo3 ?_)
  refine (HF2.out _ (below_lit hbx2 _)).mono ?_
  rintro e w3 ⟨rfl, hb3⟩
  have hb4 := below_then (below_lit hbx2 (.cells #[.int .i64 2, .string (txt [97]), .int .i64 9, .int .i64 0, .bool false, .int .i64 (-1), .int .i64 0] 39)) hb3
  have hf0 : (w2.alloc (.cells #[.int .i64 2, .string (txt [97]), .int .i64 9, .int .i64 0, .bool false, .int .i64 (-1), .int .i64 0] 39)).heap[w2.heap.size]? = some (.cells #[.int .i64 2, .string (txt [97]), .int .i64 9, .int .i64 0, .bool false, .int .i64 (-1), .int .i64 0] 39 (0, 0)) := heap_alloc_new w2 _
  have hf3 := (hb3.block _ (by simp)).trans hf0
  have hbo4 := (hb3.block _ (Array.getElem?_eq_some_iff.1 hbo3).1).trans hbo3
  unfold foundV
  simp only [DC, Option.getD_some, Option.isSome_some]
  clear hbo3 hf0 hb3 hb2
  rw [show txt [98] = ⟨#[98]⟩ from rfl]
  have hgx := below_new w3 (.cells #[.int .i64 1, .string ⟨#[98]⟩, .int .i64 0, .int .i64 0, .bool false, .int .i64 (-1), .int .i64 0] 39)
  have hg5 : (w3.alloc (.cells #[.int .i64 1, .string ⟨#[98]⟩, .int .i64 0, .int .i64 0, .bool false, .int .i64 (-1), .int .i64 0] 39)).heap[w3.heap.size]? = some (.cells #[.int .i64 1, .string ⟨#[98]⟩, .int .i64 0, .int .i64 0, .bool false, .int .i64 (-1), .int .i64 0] 39 (0, 0)) := heap_alloc_new w3 _
  have hbo5 := (hgx.block _ (Array.getElem?_eq_some_iff.1 hbo4).1).trans hbo4
  have hf5 := (hgx.block _ (Array.getElem?_eq_some_iff.1 hf3).1).trans hf3
  have hb5 := below_then hb4 hgx
  have d0 := heap_cell hbo5 0
  have f2 := heap_cell hf5 2
  have f0 := heap_cell hf5 0
  have c5 := (hb5.cell (by cases ad; exact hgd)).trans c1
  simp at d0 f2 f0
  simp only [Nat.zero_mul, List.length_cons, List.length_nil, Nat.reduceAdd] at c5
  rw [show ad.add 0 = ad from rfl] at c5
  have HB5 := Lib.hid hb5
  have HBW := Lib.hid (below_then HB1.out hb5)
  clear hf3 hbo4 hf5 hg5 hgx hb4 hb5 c0 c1 e1 e2 hbx2
  go_wp2_with (first
    | (refine wpList_load_scg rfl _ rfl w1.heap.size _ _ rfl _ _ hbo5 ?_)
    | (go_at_call 25; refine (HMY.out _ HB5.out).mono ?_; rintro e w6 ⟨b, rfl, hbb, hb6⟩))
  go_ret
  exact ⟨by rw [hbb.2 ex8_may]; rfl, below_then HBW.out hb6⟩
end Go.Proofs.YtciiemomfniecaaGreatDoor
/-
  Is a file, or a schema, not too great: the contracts.
-/
namespace Go.Proofs.YtciiemomfniecaaGreatDoor
set_option maxRecDepth 100000

open Go.RowKit

def fewM (m : Ms) : Bool := decide (m.F.length ≤ 40) && decide (m.ones.length ≤ 40) && decide (m.res.length ≤ 40)
def fewE (e : En) : Bool := decide (e.V.length ≤ 40)
def fewF (f : Fl) : Bool := decide (f.M.length ≤ 30) && decide (f.E.length ≤ 30) && f.M.all fewM && f.E.all fewE
theorem all_next {α : Type} {g : α → Bool} {l : List α} {k : Nat} {x : α} (h : l[k]? = some x) : (l.take (k + 1)).all g = ((l.take k).all g && g x) := by
  rw [List.take_add_one, h]; simp [List.all_append]
theorem all_part {α : Type} {g : α → Bool} {l : List α} {k : Nat} (h : (l.take k).all g = false) : l.all g = false := by
  rw [← List.take_append_drop k l, List.all_append, h, Bool.false_and]
theorem few_end {α : Type} {g : α → Bool} {c : Bool} {l : List α} {k : Nat} (h : false = (c && (l.take k).all g)) : (c && l.all g) = false := by
  cases c with
  | false => rfl
  | true =>
    rw [Bool.true_and] at h ⊢
    exact all_part h.symm
set_option maxRecDepth 1000000 in
set_option maxHeartbeats 4000000 in
theorem few_any (B : Nat) (f : Fl) (vM vE : Value) (w : World) (hB : B ≤ w.heap.size) (hf : FAt B w f vM vE) :
    Calls Tryz.prog 10 #[.agg #[vM, vE]] w fun e w' => e = .returned (.bool (fewF f)) ∧ Below w.heap.size w w' := by
  obtain ⟨xs, ys, ⟨A1, q1, rfl, s1, b1⟩, h2, ⟨A2, q2, rfl, s2, b2⟩, h4⟩ := hf
  obtain ⟨M, E⟩ := f
  simp only at s1 s2 h2 h4 b1 b2
  have HS : Hid (fewF ⟨M, E⟩ = ((decide (M.length ≤ 30) && decide (E.length ≤ 30)) && M.all fewM && E.all fewE)) := Lib.hid rfl
  have hlow := Low.alloc w (.cells #[.slice A1 M.length q1, .slice A2 E.length q2] 25) hB
  have HM := Lib.hid (s1.low b1 hlow)
  have HMA := Lib.hid (h2.low hlow)
  have HE := Lib.hid (s2.low b2 hlow)
  have HEA := Lib.hid (h4.low hlow)
  have hbox := heap_alloc_new w (.cells #[.slice A1 M.length q1, .slice A2 E.length q2] 25)
  have hbw := below_new w (.cells #[.slice A1 M.length q1, .slice A2 E.length q2] 25)
  by_cases hsm : M.length ≤ 30 ∧ E.length ≤ 30
  · have d1 : decide ((M.length : Int) ≤ 30) = true := by rw [decide_eq_true_eq]; omega
    have d2 : decide ((E.length : Int) ≤ 30) = true := by rw [decide_eq_true_eq]; omega
    have HS1 : Hid (fewF ⟨M, E⟩ = (M.all fewM && E.all fewE)) := Lib.hid (by rw [HS.out, decide_eq_true hsm.1, decide_eq_true hsm.2]; simp)
    have hml := hsm.1
    have hel := hsm.2
    clear hsm
    go_enter Tryz.func10, Tryz.ntmps10
    go_wp2_with fail
    generalize w.alloc (.cells #[.slice A1 M.length q1, .slice A2 E.length q2] 25) = W at *
    have HBW := Lib.hid hbw
    have b0 := heap_cell hbox 0
    have b1 := heap_cell hbox 1
    simp at b0 b1
    clear hbw hbox
    go_wp2
    go_loopw [3, 4] (fun o i wr => ∃ (k : Nat) (b : Bool), i = .int .i64 k ∧ o = .bool b ∧ k ≤ M.length ∧ b = (M.take k).all fewM ∧ wr = W) (fun _ i _ => M.length - (intOf i).toNat)
    case atStart => exact ⟨0, true, rfl, rfl, by omega, by simp, rfl⟩
    case round =>
      obtain ⟨k, b, rfl, rfl, hk, hb, rfl⟩ := hrel
      have HB := Lib.hid hb
      clear hb
      by_cases hlt : k < M.length
      · cases b with
        | true =>
          obtain ⟨m, hm⟩ : ∃ m, M[k]? = some m := ⟨_, List.getElem?_eq_getElem hlt⟩
          obtain ⟨ad, vF, vO, vR, rfl, hg, hmr, c0, c1, c2, c3, c4⟩ := msr_at HM.out HMA.out hm
          obtain ⟨AF, cF, rfl, -, -⟩ := hmr.f
          obtain ⟨AO, cO, rfl, -, -⟩ := hmr.o
          obtain ⟨AR, cR, rfl, -, -⟩ := hmr.r
          have HN := Lib.hid (all_next (g := fewM) hm)
          have HF : Hid (fewM m = (decide ((m.F.length : Int) ≤ 40) && decide ((m.ones.length : Int) ≤ 40) && decide ((m.res.length : Int) ≤ 40))) := Lib.hid (by
            unfold fewM
            have e : ∀ n : Nat, decide (n ≤ 40) = decide ((n : Int) ≤ 40) := fun n => by congr 1; apply propext; omega
            rw [e, e, e])
          clear hm hmr c0 c4
          obtain ⟨a1, ha1⟩ : ∃ a, decide ((m.F.length : Int) ≤ 40) = a := ⟨_, rfl⟩
          obtain ⟨a2, ha2⟩ : ∃ a, decide ((m.ones.length : Int) ≤ 40) = a := ⟨_, rfl⟩
          rw [ha1, ha2] at HF
          cases a1 <;> cases a2
          all_goals
            go_wp2
            refine ⟨⟨k + 1, _, by go_num, rfl, by omega, ?_, trivial⟩, by simp [intOf]; omega⟩
            have h := HB.out
            rw [HN.out, ← h, HF.out]
            simp
        | false =>
          obtain ⟨c, hc⟩ : ∃ c, c = false := ⟨_, rfl⟩
          have HS2 : Hid (fewF ⟨M, E⟩ = (c && E.all fewE)) := Lib.hid (by rw [HS1.out, hc, all_part HB.out.symm])
          go_wp2
          go_loopw [3, 5] (fun o i wx => ∃ (k : Nat) (b : Bool), i = .int .i64 k ∧ o = .bool b ∧ k ≤ E.length ∧ b = (c && (E.take k).all fewE) ∧ wx = wr) (fun _ i _ => E.length - (intOf i).toNat)
          case atStart => exact ⟨0, c, rfl, by rw [hc], by omega, by simp, rfl⟩
          case round =>
            obtain ⟨k, b, rfl, rfl, hk2, hb2, rfl⟩ := hrel
            have HB2 := Lib.hid hb2
            clear hb2
            by_cases hlt2 : k < E.length
            · cases b with
              | false =>
                go_wp2
                go_ret
                exact ⟨by rw [HS2.out, few_end HB2.out]; rfl, HBW.out⟩
              | true =>
                obtain ⟨e, he⟩ : ∃ e, E[k]? = some e := ⟨_, List.getElem?_eq_getElem hlt2⟩
                obtain ⟨ad2, vV, rfl, hg2, hmr2, g0, g1, g2⟩ := enr_at HE.out HEA.out he
                obtain ⟨AV, cV, rfl, -, -⟩ := hmr2
                have HN2 := Lib.hid (all_next (g := fewE) he)
                have HV : Hid (fewE e = decide ((e.V.length : Int) ≤ 40)) := Lib.hid (by unfold fewE; congr 1; apply propext; omega)
                clear he g0 g2
                go_wp2
                refine ⟨⟨k + 1, _, by go_num, rfl, by omega, ?_, trivial⟩, by simp [intOf]; omega⟩
                have h := HB2.out
                rw [HN2.out, ← Bool.and_assoc, ← h, Bool.true_and, HV.out]
            · obtain rfl : k = E.length := by omega
              go_wp2
              go_ret
              exact ⟨by rw [HS2.out]; have h := HB2.out; rw [List.take_length] at h; rw [← h]; rfl, HBW.out⟩
      · obtain rfl : k = M.length := by omega
        have HS2 : Hid (fewF ⟨M, E⟩ = (b && E.all fewE)) := Lib.hid (by rw [HS1.out]; have h := HB.out; rw [List.take_length] at h; rw [h])
        obtain ⟨c, hc⟩ : ∃ c, c = b := ⟨_, rfl⟩
        rw [← hc] at HS2
        clear HB
        go_wp2
        go_loopw [3, 5] (fun o i wx => ∃ (k : Nat) (b : Bool), i = .int .i64 k ∧ o = .bool b ∧ k ≤ E.length ∧ b = (c && (E.take k).all fewE) ∧ wx = wr) (fun _ i _ => E.length - (intOf i).toNat)
        case atStart => exact ⟨0, c, rfl, by rw [hc], by omega, by simp, rfl⟩
        case round =>
          obtain ⟨k, b, rfl, rfl, hk2, hb2, rfl⟩ := hrel
          have HB2 := Lib.hid hb2
          clear hb2
          by_cases hlt2 : k < E.length
          · cases b with
            | false =>
              go_wp2
              go_ret
              exact ⟨by rw [HS2.out, few_end HB2.out]; rfl, HBW.out⟩
            | true =>
              obtain ⟨e, he⟩ : ∃ e, E[k]? = some e := ⟨_, List.getElem?_eq_getElem hlt2⟩
              obtain ⟨ad2, vV, rfl, hg2, hmr2, g0, g1, g2⟩ := enr_at HE.out HEA.out he
              obtain ⟨AV, cV, rfl, -, -⟩ := hmr2
              have HN2 := Lib.hid (all_next (g := fewE) he)
              have HV : Hid (fewE e = decide ((e.V.length : Int) ≤ 40)) := Lib.hid (by unfold fewE; congr 1; apply propext; omega)
              clear he g0 g2
              go_wp2
              refine ⟨⟨k + 1, _, by go_num, rfl, by omega, ?_, trivial⟩, by simp [intOf]; omega⟩
              have h := HB2.out
              rw [HN2.out, ← Bool.and_assoc, ← h, Bool.true_and, HV.out]
          · obtain rfl : k = E.length := by omega
            go_wp2
            go_ret
            exact ⟨by rw [HS2.out]; have h := HB2.out; rw [List.take_length] at h; rw [← h]; rfl, HBW.out⟩
  · have HF : Hid (fewF ⟨M, E⟩ = false) := Lib.hid (by
      rw [HS.out]
      by_cases h1 : M.length ≤ 30
      · have h2 : ¬ E.length ≤ 30 := fun h => hsm ⟨h1, h⟩
        simp [h2]
      · simp [h1])
    have hor : decide ((M.length : Int) ≤ 30) = false ∨ (decide ((M.length : Int) ≤ 30) = true ∧ decide ((E.length : Int) ≤ 30) = false) := by
      by_cases h1 : M.length ≤ 30
      · right
        have h2 : ¬ E.length ≤ 30 := fun h => hsm ⟨h1, h⟩
        exact ⟨by rw [decide_eq_true_eq]; omega, by rw [decide_eq_false_iff_not]; omega⟩
      · left
        rw [decide_eq_false_iff_not]; omega
    have HBW := Lib.hid hbw
    clear hsm HS HM HMA HE HEA hbw
    rcases hor with d1 | ⟨d1, d2⟩
    all_goals
      go_enter Tryz.func10, Tryz.ntmps10
      go_wp2_with fail
      generalize w.alloc (.cells #[.slice A1 M.length q1, .slice A2 E.length q2] 25) = W at *
      have b0 := heap_cell hbox 0
      have b1 := heap_cell hbox 1
      simp at b0 b1
      clear hbox
      go_wp2
      go_loopw [3, 4] (fun o i wr => ∃ k : Nat, i = .int .i64 k ∧ o = .bool false ∧ k ≤ M.length ∧ wr = W) (fun _ _ _ => 0)
      case atStart => exact ⟨0, rfl, rfl, by omega, rfl⟩
      case round =>
        obtain ⟨k, rfl, rfl, hk, rfl⟩ := hrel
        by_cases hlt : k < M.length
        all_goals
          go_wp2
          go_loopw [3, 5] (fun o i wx => ∃ k : Nat, i = .int .i64 k ∧ o = .bool false ∧ k ≤ E.length ∧ wx = wr) (fun _ _ _ => 0)
          case atStart => exact ⟨0, rfl, rfl, by omega, rfl⟩
          case round =>
            obtain ⟨k2, rfl, rfl, hk2, rfl⟩ := hrel
            by_cases hlt2 : k2 < E.length
            all_goals
              go_wp2
              go_ret
              exact ⟨by rw [HF.out]; rfl, HBW.out⟩
end Go.Proofs.YtciiemomfniecaaGreatDoor
