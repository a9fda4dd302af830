/-
  Is a schema not too great: the contract of the document's own.
-/
import Derived.Test.YtjmcpfckcajnjaaGreatDoorTabFew
import Derived.Test.YtjmcpfckcajnjaaGreatDoorTrLaw
namespace Go.Proofs.YtjmcpfckcajnjaaGreatDoor
set_option maxRecDepth 100000

open Go.RowKit

def fewMd (m : Md) : Bool := decide (m.F.length ≤ 60)
def fewEd (e : Ed) : Bool := decide (e.V.length ≤ 60) && decide (e.N.length ≤ 60)
def fewS (s : Sc) : Bool := decide (s.M.length ≤ 30) && decide (s.E.length ≤ 30) && s.M.all fewMd && s.E.all fewEd
set_option maxRecDepth 1000000 in
set_option maxHeartbeats 4000000 in
theorem fews_any (B : Nat) (f : Sc) (vM vE : Value) (w : World) (hB : B ≤ w.heap.size) (hf : SAt B w f vM vE) :
    Calls Tryz.prog 27 #[.agg #[vM, vE]] w fun e w' => e = .returned (.bool (fewS f)) ∧ Below w.heap.size w w' := by
  obtain ⟨xs, ys, ⟨A1, q1, rfl, s1, b1⟩, h2, ⟨A2, q2, rfl, s2, b2⟩, h4⟩ := hf
  obtain ⟨M, E⟩ := f
  simp only at s1 s2 h2 h4 b1 b2
  have HS : Hid (fewS ⟨M, E⟩ = ((decide (M.length ≤ 30) && decide (E.length ≤ 30)) && M.all fewMd && E.all fewEd)) := Lib.hid rfl
  have hlow := Low.alloc w (.cells #[.slice A1 M.length q1, .slice A2 E.length q2] 25) hB
  have HM := Lib.hid (s1.low b1 hlow)
  have HMA := Lib.hid (h2.low hlow)
  have HE := Lib.hid (s2.low b2 hlow)
  have HEA := Lib.hid (h4.low hlow)
  have hbox := heap_alloc_new w (.cells #[.slice A1 M.length q1, .slice A2 E.length q2] 25)
  have hbw := below_new w (.cells #[.slice A1 M.length q1, .slice A2 E.length q2] 25)
  by_cases hsm : M.length ≤ 30 ∧ E.length ≤ 30
  · have d1 : decide ((M.length : Int) ≤ 30) = true := by rw [decide_eq_true_eq]; omega
    have d2 : decide ((E.length : Int) ≤ 30) = true := by rw [decide_eq_true_eq]; omega
    have HS1 : Hid (fewS ⟨M, E⟩ = (M.all fewMd && E.all fewEd)) := Lib.hid (by rw [HS.out, decide_eq_true hsm.1, decide_eq_true hsm.2]; simp)
    have hml := hsm.1
    have hel := hsm.2
    clear hsm
    go_enter Tryz.func27, Tryz.ntmps27
    go_wp2_with fail
    generalize w.alloc (.cells #[.slice A1 M.length q1, .slice A2 E.length q2] 25) = W at *
    have HBW := Lib.hid hbw
    have b0 := heap_cell hbox 0
    have b1 := heap_cell hbox 1
    simp at b0 b1
    clear hbw hbox
    go_wp2
    go_loopw [3, 4] (fun o i wr => ∃ (k : Nat) (b : Bool), i = .int .i64 k ∧ o = .bool b ∧ k ≤ M.length ∧ b = (M.take k).all fewMd ∧ wr = W) (fun _ i _ => M.length - (intOf i).toNat)
    case atStart => exact ⟨0, true, rfl, rfl, by omega, by simp, rfl⟩
    case round =>
      obtain ⟨k, b, rfl, rfl, hk, hb, rfl⟩ := hrel
      have HB := Lib.hid hb
      clear hb
      by_cases hlt : k < M.length
      · cases b with
        | true =>
          obtain ⟨m, hm⟩ : ∃ m, M[k]? = some m := ⟨_, List.getElem?_eq_getElem hlt⟩
          obtain ⟨ad, vF, rfl, hg, hmr, c0, c1⟩ := mdr_at HM.out HMA.out hm
          obtain ⟨AF, cF, rfl, -, -⟩ := hmr
          have HN := Lib.hid (all_next (g := fewMd) hm)
          have HF : Hid (fewMd m = decide ((m.F.length : Int) ≤ 60)) := Lib.hid (by unfold fewMd; congr 1; apply propext; omega)
          clear hm c0
          go_wp2
          refine ⟨⟨k + 1, _, by go_num, rfl, by omega, ?_, trivial⟩, by simp [intOf]; omega⟩
          have h := HB.out
          rw [HN.out, ← h, HF.out, Bool.true_and]
        | false =>
          obtain ⟨c, hc⟩ : ∃ c, c = false := ⟨_, rfl⟩
          have HS2 : Hid (fewS ⟨M, E⟩ = (c && E.all fewEd)) := Lib.hid (by rw [HS1.out, hc, all_part HB.out.symm])
          go_wp2
          go_loopw [3, 5] (fun o i wx => ∃ (k : Nat) (b : Bool), i = .int .i64 k ∧ o = .bool b ∧ k ≤ E.length ∧ b = (c && (E.take k).all fewEd) ∧ wx = wr) (fun _ i _ => E.length - (intOf i).toNat)
          case atStart => exact ⟨0, c, rfl, by rw [hc], by omega, by simp, rfl⟩
          case round =>
            obtain ⟨k, b, rfl, rfl, hk2, hb2, rfl⟩ := hrel
            have HB2 := Lib.hid hb2
            clear hb2
            by_cases hlt2 : k < E.length
            · cases b with
              | false =>
                go_wp2
                go_ret
                exact ⟨by rw [HS2.out, few_end HB2.out]; rfl, HBW.out⟩
              | true =>
                obtain ⟨e, he⟩ : ∃ e, E[k]? = some e := ⟨_, List.getElem?_eq_getElem hlt2⟩
                obtain ⟨ad2, vV, vN, rfl, hg2, hmr2, hnr2, g0, g1, g2⟩ := edr_at HE.out HEA.out he
                obtain ⟨AV, cV, rfl, -, -⟩ := hmr2
                obtain ⟨AN, cN, rfl, -, -⟩ := hnr2
                have HN2 := Lib.hid (all_next (g := fewEd) he)
                have HV : Hid (fewEd e = (decide ((e.V.length : Int) ≤ 60) && decide ((e.N.length : Int) ≤ 60))) := Lib.hid (by
                  have e60 : ∀ n : Nat, decide (n ≤ 60) = decide ((n : Int) ≤ 60) := fun n => by congr 1; apply propext; omega
                  unfold fewEd
                  rw [e60, e60])
                clear he g0
                obtain ⟨a1, ha1⟩ : ∃ a, decide ((e.V.length : Int) ≤ 60) = a := ⟨_, rfl⟩
                rw [ha1] at HV
                cases a1
                all_goals
                  go_wp2
                  refine ⟨⟨k + 1, _, by go_num, rfl, by omega, ?_, trivial⟩, by simp [intOf]; omega⟩
                  have h := HB2.out
                  rw [HN2.out, ← Bool.and_assoc, ← h, Bool.true_and, HV.out]
                  simp
            · obtain rfl : k = E.length := by omega
              go_wp2
              go_ret
              exact ⟨by rw [HS2.out]; have h := HB2.out; rw [List.take_length] at h; rw [← h]; rfl, HBW.out⟩
      · obtain rfl : k = M.length := by omega
        have HS2 : Hid (fewS ⟨M, E⟩ = (b && E.all fewEd)) := Lib.hid (by rw [HS1.out]; have h := HB.out; rw [List.take_length] at h; rw [h])
        obtain ⟨c, hc⟩ : ∃ c, c = b := ⟨_, rfl⟩
        rw [← hc] at HS2
        clear HB
        go_wp2
        go_loopw [3, 5] (fun o i wx => ∃ (k : Nat) (b : Bool), i = .int .i64 k ∧ o = .bool b ∧ k ≤ E.length ∧ b = (c && (E.take k).all fewEd) ∧ wx = wr) (fun _ i _ => E.length - (intOf i).toNat)
        case atStart => exact ⟨0, c, rfl, by rw [hc], by omega, by simp, rfl⟩
        case round =>
          obtain ⟨k, b, rfl, rfl, hk2, hb2, rfl⟩ := hrel
          have HB2 := Lib.hid hb2
          clear hb2
          by_cases hlt2 : k < E.length
          · cases b with
            | false =>
              go_wp2
              go_ret
              exact ⟨by rw [HS2.out, few_end HB2.out]; rfl, HBW.out⟩
            | true =>
              obtain ⟨e, he⟩ : ∃ e, E[k]? = some e := ⟨_, List.getElem?_eq_getElem hlt2⟩
              obtain ⟨ad2, vV, vN, rfl, hg2, hmr2, hnr2, g0, g1, g2⟩ := edr_at HE.out HEA.out he
              obtain ⟨AV, cV, rfl, -, -⟩ := hmr2
              obtain ⟨AN, cN, rfl, -, -⟩ := hnr2
              have HN2 := Lib.hid (all_next (g := fewEd) he)
              have HV : Hid (fewEd e = (decide ((e.V.length : Int) ≤ 60) && decide ((e.N.length : Int) ≤ 60))) := Lib.hid (by
                have e60 : ∀ n : Nat, decide (n ≤ 60) = decide ((n : Int) ≤ 60) := fun n => by congr 1; apply propext; omega
                unfold fewEd
                rw [e60, e60])
              clear he g0
              obtain ⟨a1, ha1⟩ : ∃ a, decide ((e.V.length : Int) ≤ 60) = a := ⟨_, rfl⟩
              rw [ha1] at HV
              cases a1
              all_goals
                go_wp2
                refine ⟨⟨k + 1, _, by go_num, rfl, by omega, ?_, trivial⟩, by simp [intOf]; omega⟩
                have h := HB2.out
                rw [HN2.out, ← Bool.and_assoc, ← h, Bool.true_and, HV.out]
                simp
          · obtain rfl : k = E.length := by omega
            go_wp2
            go_ret
            exact ⟨by rw [HS2.out]; have h := HB2.out; rw [List.take_length] at h; rw [← h]; rfl, HBW.out⟩
  · have HF : Hid (fewS ⟨M, E⟩ = false) := Lib.hid (by
      rw [HS.out]
      by_cases h1 : M.length ≤ 30
      · have h2 : ¬ E.length ≤ 30 := fun h => hsm ⟨h1, h⟩
        simp [h2]
      · simp [h1])
    have hor : decide ((M.length : Int) ≤ 30) = false ∨ (decide ((M.length : Int) ≤ 30) = true ∧ decide ((E.length : Int) ≤ 30) = false) := by
      by_cases h1 : M.length ≤ 30
      · right
        have h2 : ¬ E.length ≤ 30 := fun h => hsm ⟨h1, h⟩
        exact ⟨by rw [decide_eq_true_eq]; omega, by rw [decide_eq_false_iff_not]; omega⟩
      · left
        rw [decide_eq_false_iff_not]; omega
    have HBW := Lib.hid hbw
    clear hsm HS HM HMA HE HEA hbw
    rcases hor with d1 | ⟨d1, d2⟩
    all_goals
      go_enter Tryz.func27, Tryz.ntmps27
      go_wp2_with fail
      generalize w.alloc (.cells #[.slice A1 M.length q1, .slice A2 E.length q2] 25) = W at *
      have b0 := heap_cell hbox 0
      have b1 := heap_cell hbox 1
      simp at b0 b1
      clear hbox
      go_wp2
      go_loopw [3, 4] (fun o i wr => ∃ k : Nat, i = .int .i64 k ∧ o = .bool false ∧ k ≤ M.length ∧ wr = W) (fun _ _ _ => 0)
      case atStart => exact ⟨0, rfl, rfl, by omega, rfl⟩
      case round =>
        obtain ⟨k, rfl, rfl, hk, rfl⟩ := hrel
        by_cases hlt : k < M.length
        all_goals
          go_wp2
          go_loopw [3, 5] (fun o i wx => ∃ k : Nat, i = .int .i64 k ∧ o = .bool false ∧ k ≤ E.length ∧ wx = wr) (fun _ _ _ => 0)
          case atStart => exact ⟨0, rfl, rfl, by omega, rfl⟩
          case round =>
            obtain ⟨k2, rfl, rfl, hk2, rfl⟩ := hrel
            by_cases hlt2 : k2 < E.length
            all_goals
              go_wp2
              go_ret
              exact ⟨by rw [HF.out]; rfl, HBW.out⟩
end Go.Proofs.YtjmcpfckcajnjaaGreatDoor
/-
  The statements' first call tells yes; and what is not too great.
-/
namespace Go.Proofs.YtjmcpfckcajnjaaGreatDoor.T9
set_option maxRecDepth 100000
open Go.Proofs.YtjmcpfckcajnjaaGreatDoor.T4
open Go.RowKit Go.Maps

theorem norm_bare {s : Sc} (hin : ScIn s) (B D : Nat) (vM vE : Value) (m : Int) (x : Mg) (u : Value) (w : World) (hB : B ≤ w.heap.size) (hs : SAt B w s vM vE) (hx : MRd B w D x u) (hi : MIn x) (hc : x.cnt ≤ 100000) (T : Tabs w)
    (hm : mayT s m x = true) (hno : ∀ a ∈ x.F, ∃ f, byS s m a.no = some f ∧ toldB f a.V = false) :
    Calls Tryz.prog 12 #[.agg #[vM, vE], .int .i64 m, .agg #[u]] w fun e w' => e = .returned (.tuple #[.agg #[.slice none 0 0], .bool true]) ∧ Below w.heap.size w w' := by
  refine (tnormal_of hin B D vM vE m x u w hB hs hx hi hc T (fun v _ => v = .slice none 0 0) (fun v _ _ h _ => h) (fun _ wx hw _ => ?_)).mono ?_
  · refine (normal_none B D vM vE m x u wx (Nat.le_trans hB hw.size) (SAt.lo hs hw hB) (MRd.low (Lo.below hw hB) hx) hno).mono ?_
    rintro e w' ⟨rfl, hb⟩
    exact ⟨none, 0, 0, rfl, rfl, hb⟩
  · rintro e w' ⟨A, n, c, rfl, -, hq, hb⟩
    have := hq hm
    simp only [Value.slice.injEq] at this
    obtain ⟨rfl, rfl, rfl⟩ := this
    exact ⟨by rw [hm], hb⟩
theorem nil_rd (w : World) : MRd w.heap.size w 1 (.mk []) (.slice none 0 0) := ⟨_, rfl, [], ⟨Rr.nil _ _ _, Nat.zero_le _⟩, rfl⟩
theorem is_bare {s : Sc} (hin : ScIn s) (B D : Nat) (vM vE : Value) (m : Int) (x : Mg) (u : Value) (w : World) (hB : B ≤ w.heap.size) (hs : SAt B w s vM vE) (hx : MRd B w D x u) (hi : MIn x) (hc : x.cnt ≤ 100000) (T : Tabs w)
    (hm : mayT s m x = true) (hno : ∀ a ∈ x.F, ∃ f, byS s m a.no = some f ∧ toldB f a.V = false) :
    Calls Tryz.prog 17 #[.agg #[vM, vE], .int .i64 m, .agg #[u]] w fun e w' => e = .returned (.bool (eqB (.mk []) x)) ∧ Below w.heap.size w w' := by
  refine (tis_of B D 1 vM vE m x (.mk []) u w hB hs hx (fun wx hw => ?_)).mono ?_
  · refine (norm_bare hin B D vM vE m x u wx (Nat.le_trans hB hw.size) (SAt.lo hs hw hB) (MRd.low (Lo.below hw hB) hx) hi hc (T.on hw) hm hno).mono ?_
    rintro e w' ⟨rfl, hb⟩
    exact ⟨none, 0, 0, by rw [hm], fun _ => nil_rd w', hb⟩
  · rintro e w' ⟨rfl, hb⟩
    exact ⟨by rw [hm]; rfl, hb⟩
/-! ### The chapter's example -/
def f0 : Df := ⟨1, [97], 0, 0, false, -1, 0⟩
def s0 : Sc := ⟨[⟨[65], [f0]⟩], []⟩
def v0 : Vl' := ⟨0, [], []⟩
def t0 : So := ⟨1, [], [v0]⟩
def x0 : Mg := .mk [t0]
theorem may_s0 : ScMay s0 := by
  refine ⟨by decide, by decide, by decide, by decide, by decide, fun m hm => ?_, fun e he => by cases he⟩
  obtain rfl : m = ⟨[65], [f0]⟩ := by simpa [s0] using hm
  refine ⟨by decide, by simp, by simp, fun d hd => ?_⟩
  obtain rfl : d = f0 := by simpa using hd
  exact ⟨by decide, by decide, by decide, by decide, by decide, by decide, by decide, .inl rfl, .inl rfl⟩
theorem may_x0 : mayT s0 0 x0 = true := by
  unfold mayT
  rw [Bool.and_eq_true]
  exact ⟨@decide_eq_true _ (Classical.propDecidable _) may_s0, by decide +kernel⟩
theorem may_n0 : mayT s0 0 (.mk []) = true := by
  unfold mayT
  rw [Bool.and_eq_true]
  exact ⟨@decide_eq_true _ (Classical.propDecidable _) may_s0, by decide +kernel⟩
theorem in_s0 : ScIn s0 := by
  refine ⟨fun m hm => ?_, fun e he => by cases he⟩
  obtain rfl : m = ⟨[65], [f0]⟩ := by simpa [s0] using hm
  refine ⟨by unfold maxLen; decide, fun d hd => ?_⟩
  obtain rfl : d = f0 := by simpa using hd
  exact ⟨by unfold inr; decide, by unfold maxLen; decide, by unfold inr; decide, by unfold inr; decide, by unfold inr; decide, by unfold inr; decide⟩
theorem in_x0 : MIn x0 := .of fun s hs => by
  obtain rfl : s = t0 := by simpa [x0, Mg.F] using hs
  refine ⟨by unfold inI; decide, fun v hv => ?_⟩
  obtain rfl : v = v0 := by simpa [t0] using hv
  exact ⟨⟨by unfold inI; decide, by decide⟩, fun x hx => by cases hx⟩
theorem in_n0 : MIn (.mk []) := .of fun s hs => by cases hs
theorem not_x0 : ∀ a ∈ x0.F, ∃ f, byS s0 0 a.no = some f ∧ toldB f a.V = false := fun a ha => by
  obtain rfl : a = t0 := by simpa [x0, Mg.F] using ha
  exact ⟨f0, by decide, by decide⟩
theorem sat0 {w : World} {g0 g1 B : Nat} {t0 t1 : TypeId} {fr0 fr1 : Nat × Nat} (h0 : w.heap[g0]? = some (.cells #[.int .i64 1, .string ⟨#[97]⟩, .int .i64 0, .int .i64 0, .bool false, .int .i64 (-1), .int .i64 0] t0 fr0)) (h1 : w.heap[g1]? = some (.cells #[.string ⟨#[65]⟩, .slice (some ⟨g0, 0, none⟩) 1 1] t1 fr1)) (b0 : g0 < B) (b1 : g1 < B) :
    SAt B w s0 (.slice (some ⟨g1, 0, none⟩) 1 1) (.slice none 0 0) :=
  ⟨_, [], (lit_row (n := 1) (size := 2) (xs := [.string ⟨#[65]⟩, .slice (some ⟨g0, 0, none⟩) 1 1]) h1 rfl (by decide) b1 58).1, ⟨.slice (some ⟨g0, 0, none⟩) 1 1, [], rfl, (lit_row (n := 1) (size := 7) (xs := [.int .i64 1, .string ⟨#[97]⟩, .int .i64 0, .int .i64 0, .bool false, .int .i64 (-1), .int .i64 0]) h0 rfl (by decide) b0 48).1, rfl⟩, Rr.nil _ _ _, rfl⟩
theorem rd0 {w : World} {g3 g4 : Nat} {t3 t4 : TypeId} {fr3 fr4 : Nat × Nat} (h3 : w.heap[g3]? = some (.cells #[.int .i64 0, .string ⟨#[]⟩, .slice none 0 0] t3 fr3)) (h4 : w.heap[g4]? = some (.cells #[.int .i64 1, .slice none 0 0, .slice (some ⟨g3, 0, none⟩) 1 1] t4 fr4)) :
    MRd w.heap.size w 2 x0 (.slice (some ⟨g4, 0, none⟩) 1 1) :=
  one_rd (D := 1) (s := t0) ⟨.slice none 0 0, .slice (some ⟨g3, 0, none⟩) 1 1, rfl, ⟨[], ⟨Rr.nil _ _ _, Nat.zero_le _⟩, rfl⟩, ⟨_, lit_row (n := 1) (size := 3) (xs := [.int .i64 0, .string ⟨#[]⟩, .slice none 0 0]) h3 rfl (by decide) (box_lt h3) _, Rows.single ⟨_, rfl, [], ⟨Rr.nil _ _ _, Nat.zero_le _⟩, rfl⟩⟩⟩ h4
theorem six_new (w : World) (o1 o2 o3 o4 o5 o6 : Obj) : let W := (((((w.alloc o1).alloc o2).alloc o3).alloc o4).alloc o5).alloc o6
    W.heap[w.heap.size]? = some o1 ∧ W.heap[w.heap.size + 1]? = some o2 ∧ W.heap[w.heap.size + 1 + 1]? = some o3 ∧ W.heap[w.heap.size + 1 + 1 + 1]? = some o4 ∧ W.heap[w.heap.size + 1 + 1 + 1 + 1]? = some o5 ∧ W.heap[w.heap.size + 1 + 1 + 1 + 1 + 1]? = some o6 ∧ Below w.heap.size w W := by
  intro W
  obtain ⟨a1, a2, a3, a4, L4⟩ := four_new w o1 o2 o3 o4
  have N5 := below_new ((((w.alloc o1).alloc o2).alloc o3).alloc o4) o5
  have N6 := below_new (((((w.alloc o1).alloc o2).alloc o3).alloc o4).alloc o5) o6
  have e5 : ((((w.alloc o1).alloc o2).alloc o3).alloc o4).heap.size = w.heap.size + 1 + 1 + 1 + 1 := by simp
  have e6 : (((((w.alloc o1).alloc o2).alloc o3).alloc o4).alloc o5).heap.size = w.heap.size + 1 + 1 + 1 + 1 + 1 := by simp
  exact ⟨box_on (box_on a1 N5) N6, box_on (box_on a2 N5) N6, box_on (box_on a3 N5) N6, box_on (box_on a4 N5) N6, e5 ▸ box_on (heap_alloc_new _ o5) N6, e6 ▸ heap_alloc_new _ o6, below_then (below_then L4 N5) N6⟩
set_option maxRecDepth 1000000 in
set_option maxHeartbeats 4000000 in
theorem awake10_any (w : World) (T : Tabs w) : Calls Tryz.prog 9 #[] w fun e w' => e = .returned (.bool true) ∧ Below w.heap.size w w' := by
  obtain ⟨h1, h2, h3, h4, h5, h6, L6⟩ := six_new w (.cells #[.int .i64 1, .string ⟨#[97]⟩, .int .i64 0, .int .i64 0, .bool false, .int .i64 (-1), .int .i64 0] 48) (.cells #[.string ⟨#[65]⟩, .slice (some ⟨w.heap.size, 0, none⟩) 1 1] 58) (.cells #[.slice (some ⟨w.heap.size + 1, 0, none⟩) 1 1, .slice none 0 0] 25) (.cells #[.int .i64 0, .string ⟨#[]⟩, .slice none 0 0] 31) (.cells #[.int .i64 1, .slice none 0 0, .slice (some ⟨w.heap.size + 1 + 1 + 1, 0, none⟩) 1 1] 36) (.cells #[.slice (some ⟨w.heap.size + 1 + 1 + 1 + 1, 0, none⟩) 1 1] 28)
  have hT := T.on L6
  clear T
  go_enter Tryz.func9, Tryz.ntmps9
  go_wp2_with fail
  generalize (((((w.alloc (.cells #[.int .i64 1, .string ⟨#[97]⟩, .int .i64 0, .int .i64 0, .bool false, .int .i64 (-1), .int .i64 0] 48)).alloc (.cells #[.string ⟨#[65]⟩, .slice (some ⟨w.heap.size, 0, none⟩) 1 1] 58)).alloc (.cells #[.slice (some ⟨w.heap.size + 1, 0, none⟩) 1 1, .slice none 0 0] 25)).alloc (.cells #[.int .i64 0, .string ⟨#[]⟩, .slice none 0 0] 31)).alloc (.cells #[.int .i64 1, .slice none 0 0, .slice (some ⟨w.heap.size + 1 + 1 + 1, 0, none⟩) 1 1] 36)).alloc (.cells #[.slice (some ⟨w.heap.size + 1 + 1 + 1 + 1, 0, none⟩) 1 1] 28) = W at *
  have HS := Lib.hid (fun wx (h : Below W.heap.size W wx) => sat0 (B := wx.heap.size) (box_on h1 h) (box_on h2 h) (Nat.lt_of_lt_of_le (box_lt h1) h.size) (Nat.lt_of_lt_of_le (box_lt h2) h.size))
  have HM := Lib.hid (fun wx (h : Below W.heap.size W wx) => rd0 (box_on h4 h) (box_on h5 h))
  have HC := Lib.hid (fun wx (h : Below W.heap.size W wx) => And.intro (box2' (box_on h3 h)) (bx1 (box_on h6 h)))
  have HT := Lib.hid hT
  have c0 : x0.cnt ≤ 100000 := by decide +kernel
  have n0 : (Mg.mk []).cnt ≤ 100000 := by decide +kernel
  have LR : Below W.heap.size W W := Below.refl _ _
  clear h1 h2 h3 h4 h5 h6 hT
  refine (norm_bare in_s0 _ 2 _ _ 0 x0 _ W (Nat.le_refl _) (HS.out W LR) (HM.out W LR) in_x0 c0 HT.out may_x0 not_x0).mono ?_
  rintro e w1 ⟨rfl, hb1⟩
  have N1 := below_new w1 (.cells #[.slice none 0 0] 28)
  have L1 := below_then hb1 N1
  have Z1 := heap_alloc_new w1 (.cells #[.slice none 0 0] 28)
  obtain ⟨⟨k1, k2⟩, k3⟩ := HC.out _ L1
  have HA := Lib.hid (tmay_any in_s0 _ 2 _ _ 0 x0 _ _ (Nat.le_refl _) (HS.out _ L1) (HM.out _ L1) in_x0 c0 (HT.out.on L1))
  rw [may_x0] at HA
  go_wp2_with fail
  refine HA.out.mono ?_
  rintro e w2 ⟨rfl, hb2⟩
  have L2 := below_then L1 hb2
  obtain ⟨⟨q1, q2⟩, q3⟩ := HC.out _ L2
  have Z2 := bx1 (box_on Z1 hb2)
  have HI := Lib.hid (is_bare in_s0 _ 2 _ _ 0 x0 _ _ (Nat.le_refl _) (HS.out _ L2) (HM.out _ L2) in_x0 c0 (HT.out.on L2) may_x0 not_x0)
  rw [eqB_no (show ¬ Mg.mk [] = x0 by unfold x0; simp)] at HI
  clear k1 k2 k3
  go_wp2_with fail
  refine HI.out.mono ?_
  rintro e w3 ⟨rfl, hb3⟩
  have L3 := below_then L2 hb3
  obtain ⟨⟨r1, r2⟩, r3⟩ := HC.out _ L3
  have Z3 := bx1 (box_on (box_on Z1 hb2) hb3)
  have HI2 := Lib.hid (is_bare in_s0 w3.heap.size 1 _ _ 0 (.mk []) (.slice none 0 0) w3 (Nat.le_refl _) (HS.out _ L3) (nil_rd w3) in_n0 n0 (HT.out.on L3) may_n0 (fun a ha => by cases ha))
  rw [eqB_yes rfl] at HI2
  clear q1 q2 q3 Z2
  go_wp2_with fail
  refine HI2.out.mono ?_
  rintro e w4 ⟨rfl, hb4⟩
  go_wp2
  go_ret
  exact ⟨rfl, L6.trans ((below_then L3 hb4).mono L6.size)⟩
/-- What is not too great. -/
theorem few10_any (B D : Nat) (s : Sc) (vM vE : Value) (x : Mg) (u : Value) (w : World) (hB : B ≤ w.heap.size) (hs : SAt B w s vM vE) (hx : MRd B w D x u) :
    Calls Tryz.prog 10 #[.agg #[vM, vE], .agg #[u]] w fun e w' => ∃ r : Bool, e = .returned (.bool r) ∧ (r = true → Fit 3000 80 x) ∧ Below w.heap.size w w' := by
  obtain ⟨X1, X2, LBD⟩ := two_boxes w (.cells #[vM, vE] 25) (.cells #[u] 28)
  have HF := Lib.hid (fews_any B s vM vE _ (Nat.le_trans hB LBD.size) (SAt.lo hs LBD hB))
  have HO := Lib.hid (fun wx (h : Below w.heap.size w wx) => few_one B D x u 80 wx (Nat.le_trans hB h.size) (MRd.low (Lo.below h hB) hx) (by omega))
  obtain ⟨A1, q1, A2, q2, rfl, rfl⟩ := sat_shape hs
  obtain ⟨A, c, rfl⟩ := rd_shape hx
  obtain ⟨x1, x2⟩ := box2' X1
  obtain ⟨d, hd⟩ : ∃ d, fewS s = d := ⟨_, rfl⟩
  rw [hd] at HF
  clear hs hx hd
  cases d with
  | false =>
    go_enter Tryz.func10, Tryz.ntmps10
    go_wp2_with fail
    refine HF.out.mono ?_
    rintro e w1 ⟨rfl, hb1⟩
    go_wp2
    go_ret
    exact ⟨false, rfl, (fun h => (by cases h)), below_then LBD hb1⟩
  | true =>
    go_enter Tryz.func10, Tryz.ntmps10
    go_wp2_with fail
    refine HF.out.mono ?_
    rintro e w1 ⟨rfl, hb1⟩
    have z3 := bx1 (box_on X2 hb1)
    have HO2 := Lib.hid (HO.out _ (below_then LBD hb1))
    go_wp2_with fail
    refine HO2.out.mono ?_
    rintro e w2 ⟨r, rfl, hr, hb2⟩
    have HRR := Lib.hid hr
    clear hr
    cases r with
    | false =>
      go_wp2
      go_ret
      exact ⟨_, rfl, (fun h => (by cases h)), below_then (below_then LBD hb1) hb2⟩
    | true =>
      go_wp2
      go_ret
      exact ⟨_, rfl, (fun _ => HRR.out (by trivial)), below_then (below_then LBD hb1) hb2⟩
end Go.Proofs.YtjmcpfckcajnjaaGreatDoor.T9
