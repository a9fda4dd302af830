/-
  May an enum be: the contract.
-/
import Derived.Test.YtciiemomfniecaaGreatDoorTabMayC
import Derived.Test.YtciiemomfniecaaGreatDoorTabSrow
import Derived.BigQuiet
namespace Go.Proofs.YtciiemomfniecaaGreatDoor
set_option maxRecDepth 100000

open Go.RowKit Go.Maps

set_option maxRecDepth 1000000 in
set_option maxHeartbeats 8000000 in
theorem mayEnum_any (B : Nat) (e : Ed) (vV vN : Value) (w : World) (hB : B ≤ w.heap.size) (hV : Rb B w vV e.V.length 1 (strv e.V)) (hN : Rb B w vN e.N.length 1 (intv e.N)) (hin : EdIn e) :
    Calls Tryz.prog 51 #[.agg #[.string (txt e.name), vV, vN]] w fun ee w' => ∃ b, ee = .returned (.bool b) ∧ (b = true ↔ EdMay e) ∧ Below w.heap.size w w' := by
  have HWR := Lib.hid (fun wx (hx : Below w.heap.size w wx) (hlen : e.V.length = e.N.length) (hl : e.N.length ≤ 100000) => wrong_any B vV vN e.V e.N wx (Nat.le_trans hB hx.size) (hV.low (Low.below hx hB)) (hN.low (Low.below hx hB)) hlen hl hin.V hin.N)
  obtain ⟨A1, q1, rfl, -, -⟩ := hV
  obtain ⟨A2, q2, rfl, -, -⟩ := hN
  have HI := Lib.hid (edMay_iff e)
  have HMN := Lib.hid (fun wx => mayName_any (e.V.length : Int) wx)
  have hb0 : Below w.heap.size w ((w.alloc (.cells #[.string (txt e.name), .slice A1 e.V.length q1, .slice A2 e.N.length q2] 68)).drew) := (below_new _ _).trans (Below.refl _ _).drew
  have h0 := box3c (w := (w.alloc (.cells #[.string (txt e.name), .slice A1 e.V.length q1, .slice A2 e.N.length q2] 68)).drew) (heap_alloc_new w (.cells #[.string (txt e.name), .slice A1 e.V.length q1, .slice A2 e.N.length q2] 68))
  clear hin
  by_cases ha : 1 ≤ e.V.length ∧ e.V.length ≤ 30
  · have h1 : (decide (1 ≤ (e.V.length : Int)) && decide ((e.V.length : Int) ≤ 30)) = true := by
      simp only [Bool.and_eq_true, decide_eq_true_eq]; omega
    rw [h1] at HMN
    by_cases hl : e.V.length = e.N.length
    · have HW2 := Lib.hid (HWR.out _ hb0 hl (by omega))
      have he : ((e.V.length : Int) == (e.N.length : Int)) = true := by rw [beq_iff_eq]; omega
      have HHL := Lib.hid hl
      have HHA := Lib.hid ha
      clear h1 ha hl HWR
      go_enter Tryz.func51, Tryz.ntmps51
      go_wp2_with fail
      go_region_held3 (fun w' => w'.heap[w.heap.size]? = some (.cells #[.string (txt e.name), .slice A1 e.V.length q1, .slice A2 e.N.length q2] 68 (0, 0)) ∧ w'.cell? ⟨w.heap.size, 0, none⟩ = some (.string (txt e.name)) ∧ w'.cell? ⟨w.heap.size, 1, none⟩ = some (.slice A1 e.V.length q1) ∧ w'.cell? ⟨w.heap.size, 2, none⟩ = some (.slice A2 e.N.length q2))
        (first | exact h0 | exact box3c_below hb6 ‹_› | go_keep)
        ((first
          | (go_at_call 68; refine (HMN.out _).mono ?_; rintro ee w1 ⟨rfl, rfl⟩)
          | (go_at_call 88; refine HW2.out.mono ?_; rintro ee w6 ⟨r, rfl, hr1, hr2, hr3, hb6⟩)))
      go_wp2
      go_ret
      refine ⟨_, rfl, ?_, below_then hb0 hb6⟩
      rw [HI.out]
      show ((r : Int) == (e.V.length : Int)) = true ↔ _
      rw [beq_iff_eq]
      constructor
      · intro hr
        refine ⟨HHA.out.1, HHA.out.2, HHL.out, fun k x n hx hn => hr2 k x n ?_ hx hn⟩
        have := (List.getElem?_eq_some_iff.1 hx).1
        omega
      · rintro ⟨-, -, -, h4⟩
        by_cases hlt : r < e.V.length
        · have hlt2 : r < e.N.length := by have := HHL.out; omega
          have h5 := h4 r _ _ (List.getElem?_eq_getElem hlt) (List.getElem?_eq_getElem hlt2)
          rw [hr3 _ _ (List.getElem?_eq_getElem hlt) (List.getElem?_eq_getElem hlt2)] at h5
          cases h5
        · have := HHL.out
          omega
    · have he : ((e.V.length : Int) == (e.N.length : Int)) = false := by rw [beq_eq_false_iff_ne]; omega
      have HNO : Hid (¬ EdMay e) := Lib.hid (fun h => hl (HI.out.1 h).2.2.1)
      have hl2 : ¬ ((e.V.length : Int) = (e.N.length : Int)) := by omega
      clear h1 ha HWR
      go_enter Tryz.func51, Tryz.ntmps51
      go_wp2_with fail
      go_quiet (first | (go_at_call_of 68 (Value.int IntKind.i64 (e.V.length : Int)); refine Calls.quiet_of_same ((HMN.out _).mono fun _ _ h => ⟨h.1, h.2.symm⟩)))
      go_wp2
      go_ret
      exact ⟨false, rfl, ⟨fun h => (by cases h), fun h => absurd h HNO.out⟩, below_draws (below_new _ _) _⟩
  · have h1 : (decide (1 ≤ (e.V.length : Int)) && decide ((e.V.length : Int) ≤ 30)) = false := by
      simp only [Bool.and_eq_false_iff, decide_eq_false_iff_not]; omega
    rw [h1] at HMN
    have HNO : Hid (¬ EdMay e) := Lib.hid (fun h => ha ⟨(HI.out.1 h).1, (HI.out.1 h).2.1⟩)
    clear h1 ha HWR
    go_enter Tryz.func51, Tryz.ntmps51
    go_wp2_with fail
    go_quiet (first | (go_at_call_of 68 (Value.int IntKind.i64 (e.V.length : Int)); refine Calls.quiet_of_same ((HMN.out _).mono fun _ _ h => ⟨h.1, h.2.symm⟩)))
    go_wp2
    go_ret
    exact ⟨false, rfl, ⟨fun h => (by cases h), fun h => absurd h HNO.out⟩, below_draws (below_new _ _) _⟩
end Go.Proofs.YtciiemomfniecaaGreatDoor
/-
  May a schema be: the contract.
-/
namespace Go.Proofs.YtciiemomfniecaaGreatDoor
set_option maxRecDepth 100000

open Go.RowKit Go.Maps

theorem sn_m {s : Sc} {k : Nat} {m : Md} (hm : s.M[k]? = some m) : (namesS s)[k]? = some m.name := by
  have hlt := (List.getElem?_eq_some_iff.1 hm).1
  unfold namesS
  rw [List.getElem?_append_left (by simpa using hlt), List.getElem?_map, hm]; rfl
theorem sn_e {s : Sc} {k : Nat} {e : Ed} (he : s.E[k]? = some e) : (namesS s)[s.M.length + k]? = some e.name := by
  unfold namesS
  rw [List.getElem?_append_right (by simp), List.length_map, show s.M.length + k - s.M.length = k by omega, List.getElem?_map, he]; rfl
theorem sn_len (s : Sc) : (namesS s).length = s.M.length + s.E.length := by simp [namesS]
theorem snames_in {s : Sc} (h : ScIn s) : ∀ x ∈ s.M.map (·.name) ++ s.E.map (·.name), x.length ≤ maxLen := by
  intro x hx
  rcases List.mem_append.1 hx with hx | hx
  · obtain ⟨m, hm, rfl⟩ := List.mem_map.1 hx
    exact (h.M m hm).name
  · obtain ⟨e, he, rfl⟩ := List.mem_map.1 hx
    exact (h.E e he).name
set_option maxRecDepth 1000000 in
set_option maxHeartbeats 8000000 in
theorem may_any (B : Nat) (s : Sc) (vM vE : Value) (w : World) (hB : B ≤ w.heap.size) (hs : SAt B w s vM vE) (hin : ScIn s) (T : Tabs w) :
    Calls Tryz.prog 25 #[.agg #[vM, vE]] w fun e w' => ∃ b, e = .returned (.bool b) ∧ (b = true ↔ ScMay s) ∧ Below w.heap.size w w' := by
  obtain ⟨xs, ys, h1, h2, h3, h4⟩ := hs
  have H1 := Lib.hid (fun wx (hx : Below w.heap.size w wx) (hl : s.M.length ≤ 100000) => eachMd_any B vM xs s.M hl wx (Nat.le_trans hB hx.size) (h1.low (Low.below hx hB)) (h2.low (Low.below hx hB)))
  have H2 := Lib.hid (fun wx (hx : Below w.heap.size w wx) (hl : s.E.length ≤ 100000) => eachEd_any B vE ys s.E hl wx (Nat.le_trans hB hx.size) (h3.low (Low.below hx hB)) (h4.low (Low.below hx hB)))
  have H3 := Lib.hid (fun u1 u2 wx (hT : Tabs wx) r1 r2 (hl : s.M.length + s.E.length ≤ 100000) => typeNames_any u1 u2 (s.M.map (·.name)) (s.E.map (·.name)) wx hT (by simpa using r1) (by simpa using r2) (by simpa using hl) (snames_in hin))
  have HI := Lib.hid (scMay_iff s)
  have HH := Lib.hid (fun wx => mayHold_any (s.M.length : Int) (s.E.length : Int) wx)
  obtain ⟨A1, q1, rfl, s1, b1⟩ := h1
  obtain ⟨A2, q2, rfl, s2, b2⟩ := h3
  have HM := Lib.hid s1
  have HE := Lib.hid s2
  have HMA := Lib.hid h2
  have HEA := Lib.hid h4
  have HIN := Lib.hid hin
  have HTB := Lib.hid T
  clear s1 s2 h2 h4 hin T
  have hb0 := below_new w (.cells #[.slice A1 s.M.length q1, .slice A2 s.E.length q2] 29)
  by_cases hsz : 1 ≤ s.M.length ∧ s.M.length ≤ 20 ∧ s.E.length ≤ 20
  · have hh : (decide (1 ≤ (s.M.length : Int)) && decide ((s.M.length : Int) ≤ 20) && decide ((s.E.length : Int) ≤ 20)) = true := by
      simp only [Bool.and_eq_true, decide_eq_true_eq]; omega
    rw [hh] at HH
    obtain ⟨hn0, hn1, hn2⟩ := hsz
    have h0 := box2 (w := (w.alloc (.cells #[.slice A1 s.M.length q1, .slice A2 s.E.length q2] 29)).drew) (heap_alloc_new w (.cells #[.slice A1 s.M.length q1, .slice A2 s.E.length q2] 29))
    have LBD : Below w.heap.size w ((w.alloc (.cells #[.slice A1 s.M.length q1, .slice A2 s.E.length q2] 29)).drew) := hb0.trans (Below.refl _ _).drew
    have hmm : s.M.length ≤ 100000 := by omega
    have hee : s.E.length ≤ 100000 := by omega
    have hme : s.M.length + s.E.length ≤ 100000 := by omega
    clear hb0 hh
    go_enter Tryz.func25, Tryz.ntmps25
    go_wp2_with (go_at_call 31; refine (HH.out _).mono ?_; rintro e w0 ⟨rfl, rfl⟩)
    go_region_held3 (fun w' => w'.heap[w.heap.size]? = some (.cells #[.slice A1 s.M.length q1, .slice A2 s.E.length q2] 29 (0, 0)) ∧ w'.cell? ⟨w.heap.size, 0, none⟩ = some (.slice A1 s.M.length q1) ∧ w'.cell? ⟨w.heap.size, 1, none⟩ = some (.slice A2 s.E.length q2))
      (first | exact h0 | exact box2_below hbM ‹_› | exact box2_below hbE ‹_› | exact box2_below hb4 ‹_› | go_keep)
      ((first
        | (go_at_call 45; refine (H1.out _ (by first | exact LBD | exact below_then LBD hbE) hmm).mono ?_; rintro e wM ⟨uM, rfl, hoM, hbM⟩)
        | (go_at_call 47; refine (H2.out _ (by first | exact LBD | exact below_then LBD hbM) hee).mono ?_; rintro e wE ⟨uE, rfl, hoE, hbE⟩)
        | (go_at_call 44; refine (H3.out uM uE _ (by first | exact ((HTB.out.on LBD).on hbM).on hbE | exact ((HTB.out.on LBD).on hbE).on hbM) (by first | exact Rb.of_own hoM | exact Rb.of_own (own_below hoM hbE)) (by first | exact Rb.of_own hoE | exact Rb.of_own (own_below hoE hbM)) hme).mono ?_; rintro e w4 ⟨b, rfl, hbl, hm4, hb4⟩)))
    all_goals
      have hbB : Below w.heap.size w w4 := by first | exact below_then (below_then (below_then LBD hbM) hbE) hb4 | exact below_then (below_then (below_then LBD hbE) hbM) hb4
      have hx4 : w4.heap[w.heap.size]? = some (.cells #[.slice A1 s.M.length q1, .slice A2 s.E.length q2] 29 (0, 0)) := by first | exact (box2_below hb4 (box2_below hbE (box2_below hbM h0))).1 | exact (box2_below hb4 (box2_below hbM (box2_below hbE h0))).1
      have hbs : w.heap.size + 1 ≤ b := by
        have h1 := hbM.size
        have h2 := hbE.size
        simp at h1 h2
        omega
      have e0 := heap_cell hx4 0
      have e1 := heap_cell hx4 1
      simp at e0 e1
      simp only [List.length_map] at hm4
      replace hm4 : FreeS w4 b (s.M.length + s.E.length) (stillT (namesS s) 0) := hm4
      have HX4 := Lib.hid hx4
      have HBB := Lib.hid hbB
      clear hx4 hb4 hbM hbE hoM hoE hbl h0 LBD hbB H1 H2 H3
      go_wp2
      go_loopw [26] (fun i wr => ∃ k : Nat, i = .int .i64 k ∧ k ≤ s.M.length ∧ (∀ j m, j < k → s.M[j]? = some m → stillT (namesS s) j m.name = true ∧ MdMay s m) ∧ FreeS wr b (s.M.length + s.E.length) (stillT (namesS s) k) ∧ Below (w.heap.size + 1) w4 wr) (fun i _ => s.M.length - (intOf i).toNat)
      case atStart => exact ⟨0, rfl, by omega, fun j m hj => by omega, hm4, Below.refl _ _⟩
      case round =>
        obtain ⟨k, rfl, hk, herr, hm, hb⟩ := hrel
        have hbw := HBB.out.trans (hb.mono (Nat.le_succ _))
        have hxr := (hb.block w.heap.size (by omega)).trans HX4.out
        have HBW := Lib.hid hbw
        have HER := Lib.hid herr
        clear herr
        by_cases hlt : k < s.M.length
        · obtain ⟨m, hm0⟩ : ∃ m, s.M[k]? = some m := ⟨_, List.getElem?_eq_getElem hlt⟩
          obtain ⟨ad, vF, rfl, hg, hmr, c0, c1⟩ := mdr_at (HM.out.low b1 (Low.below hbw hB)) (HMA.out.low (Low.below hbw hB)) hm0
          obtain ⟨AF, cF, hvF, -, -⟩ := id hmr
          subst hvF
          have hx := sn_m hm0
          have hmi := HIN.out.M m (List.mem_of_getElem? hm0)
          have HNX := Lib.hid (stillT_next hx)
          obtain ⟨d, hd⟩ : ∃ d, stillT (namesS s) k m.name = d := ⟨_, rfl⟩
          have HT := fun wx hx => takeS_any b (s.M.length + s.E.length) (stillT (namesS s) k) m.name hmi.name wx hx
          simp only [hd] at HT
          have HTT := Lib.hid HT
          have HMM := Lib.hid (fun wx (hx : Below w.heap.size w wx) (hr : Rb B wx (.slice AF m.F.length cF) m.F.length 7 (dfv m.F)) => mayMessage_any B (some ad) A2 q1 q2 s m (.slice AF m.F.length cF) wx (Nat.le_trans hB hx.size) hr hmi (HTB.out.on hx))
          have HRB := Lib.hid hmr
          have hne : wr.heap.size ≠ b := by have := hm.lt; omega
          have HD := Lib.hid hd
          have HM0 := Lib.hid hm0
          have HXN := Lib.hid hx
          have hyr := ((below_new wr (.cells #[.string (txt m.name), .slice AF m.F.length cF] 56)).block _ (Array.getElem?_eq_some_iff.1 hxr).1).trans hxr
          clear hm0 hmr hx hd HT hmi hbw hxr
          cases d with
          | false =>
            have HNO : Hid (¬ ScMay s) := Lib.hid (fun h => by have := (HI.out.1 h).2.2.2.1 k m.name HXN.out; rw [HD.out] at this; cases this)
            go_wp2_with (go_at_call 49; refine (HTT.out _ (hm.alloc _)).mono ?_; rintro e w5 ⟨rfl, hm5, hg5⟩)
            go_ret
            exact ⟨false, rfl, ⟨fun h => (by cases h), fun h => absurd h HNO.out⟩, (below_lit HBW.out _).grown hg5 (by have := HBW.out.size; simp; omega) (fun j hj => by injection hj with hj; omega)⟩
          | true =>
            go_wp2_with fail
            refine (HTT.out _ (hm.alloc _)).mono ?_
            rintro e w5 ⟨rfl, hm5, hg5⟩
            have hbw5 := (below_lit HBW.out (.cells #[.string (txt m.name), .slice AF m.F.length cF] 56)).grown hg5 (by have := HBW.out.size; simp; omega) (fun j hj => by injection hj with hj; omega)
            have hx5 := box_kept (heap_alloc_new wr _) hg5 hne
            have hy5 := box_kept hyr hg5 (by omega)
            have d0 := heap_cell hx5 0
            have d1 := heap_cell hx5 1
            have y0 := heap_cell hy5 0
            have y1 := heap_cell hy5 1
            simp at d0 d1 y0 y1
            go_wp2_with fail
            refine (HMM.out _ hbw5 (HRB.out.low ((Low.alloc wr _ (Nat.le_trans hB HBW.out.size)).trans ⟨hg5.size, fun j hj => hg5.block j (by have := HBW.out.size; simp; omega) (fun e => by injection e with e; omega)⟩))).mono ?_
            rintro e w6 ⟨bb, rfl, hbb, hb6⟩
            cases bb with
            | false =>
              have HNO : Hid (¬ ScMay s) := Lib.hid (fun h => by have := hbb.2 ((HI.out.1 h).2.2.2.2.1 m (List.mem_of_getElem? HM0.out)); cases this)
              go_wp2
              go_ret
              exact ⟨false, rfl, ⟨fun h => (by cases h), fun h => absurd h HNO.out⟩, below_then hbw5 hb6⟩
            | true =>
              have HMB := Lib.hid (hbb.1 rfl)
              have z5 := hg5.size
              rw [World.size_alloc] at z5
              have hlm := hm.lt
              go_wp2
              refine ⟨⟨k + 1, by go_num, by omega, fun j y hj hy => ?_, (hm5.on hb6).eq HNX.out, ((hb.alloc (by omega) _).grown hg5 (by simp; omega) (fun j hj => by injection hj with hj; omega)).trans (hb6.mono (by omega))⟩, by simp [intOf]; omega⟩
              by_cases hj2 : j < k
              · exact HER.out j y hj2 hy
              · obtain rfl : j = k := by omega
                rw [HM0.out] at hy
                obtain rfl := Option.some.inj hy
                exact ⟨HD.out, HMB.out⟩
        · obtain rfl : k = s.M.length := by omega
          have e6 := heap_cell hxr 1
          simp at e6
          clear hxr
          go_wp2
          go_loopw [45] (fun i wr => ∃ k : Nat, i = .int .i64 k ∧ k ≤ s.E.length ∧ (∀ j m, j < k → s.E[j]? = some m → stillT (namesS s) (s.M.length + j) m.name = true ∧ EdMay m) ∧ FreeS wr b (s.M.length + s.E.length) (stillT (namesS s) (s.M.length + k)) ∧ Below (w.heap.size + 1) w4 wr) (fun i _ => s.E.length - (intOf i).toNat)
          case atStart => exact ⟨0, rfl, by omega, fun j m hj => by omega, hm, hb⟩
          case round =>
            obtain ⟨k, rfl, hk, herr, hm, hb⟩ := hrel
            have hbw := HBB.out.trans (hb.mono (Nat.le_succ _))
            have HBW := Lib.hid hbw
            have HQ := Lib.hid herr
            clear herr
            by_cases hlt : k < s.E.length
            · obtain ⟨m, hm0⟩ : ∃ m, s.E[k]? = some m := ⟨_, List.getElem?_eq_getElem hlt⟩
              obtain ⟨ad, vV, vN, rfl, hg, hmr, hms, c0, c1, c2⟩ := edr_at (HE.out.low b2 (Low.below hbw hB)) (HEA.out.low (Low.below hbw hB)) hm0
              obtain ⟨AV, cV, hvV, -, -⟩ := id hmr
              obtain ⟨AN, cN, hvN, -, -⟩ := id hms
              subst hvV hvN
              have hx := sn_e hm0
              have hmi := HIN.out.E m (List.mem_of_getElem? hm0)
              have HNX := Lib.hid (stillT_next hx)
              obtain ⟨d, hd⟩ : ∃ d, stillT (namesS s) (s.M.length + k) m.name = d := ⟨_, rfl⟩
              have HT := fun wx hx => takeS_any b (s.M.length + s.E.length) (stillT (namesS s) (s.M.length + k)) m.name hmi.name wx hx
              simp only [hd] at HT
              have HTT := Lib.hid HT
              have HMM := Lib.hid (fun wx (hx : Below w.heap.size w wx) (hr : Rb B wx (.slice AV m.V.length cV) m.V.length 1 (strv m.V)) (hr2 : Rb B wx (.slice AN m.N.length cN) m.N.length 1 (intv m.N)) => mayEnum_any B m (.slice AV m.V.length cV) (.slice AN m.N.length cN) wx (Nat.le_trans hB hx.size) hr hr2 hmi)
              have HRB := Lib.hid hmr
              have HRC := Lib.hid hms
              have hne := Nat.ne_of_gt hm.lt
              have HD := Lib.hid hd
              have HM0 := Lib.hid hm0
              have HXN := Lib.hid hx
              have hlow := Low.alloc _ (.cells #[.string (txt m.name), .slice AV m.V.length cV, .slice AN m.N.length cN] 68) (Nat.le_trans hB HBW.out.size)
              clear hm0 hmr hms hx hd HT hmi hbw
              cases d with
              | false =>
                have HNO : Hid (¬ ScMay s) := Lib.hid (fun h => by have := (HI.out.1 h).2.2.2.1 (s.M.length + k) m.name HXN.out; rw [HD.out] at this; cases this)
                go_wp2_with (go_at_call 49; refine (HTT.out _ (hm.alloc _)).mono ?_; rintro e w5 ⟨rfl, hm5, hg5⟩)
                go_ret
                exact ⟨false, rfl, ⟨fun h => (by cases h), fun h => absurd h HNO.out⟩, (below_lit HBW.out _).grown hg5 (by have := HBW.out.size; simp; omega) (fun j hj => by injection hj with hj; omega)⟩
              | true =>
                go_wp2_with fail
                refine (HTT.out _ (hm.alloc _)).mono ?_
                rintro e w5 ⟨rfl, hm5, hg5⟩
                have hbw5 := (below_lit HBW.out (.cells #[.string (txt m.name), .slice AV m.V.length cV, .slice AN m.N.length cN] 68)).grown hg5 (by have := HBW.out.size; simp; omega) (fun j hj => by injection hj with hj; omega)
                have hx5 := box_kept (heap_alloc_new _ _) hg5 hne
                have d0 := heap_cell hx5 0
                have d1 := heap_cell hx5 1
                have d2 := heap_cell hx5 2
                simp at d0 d1 d2
                have hlow5 := hlow.trans ⟨hg5.size, fun j hj => hg5.block j (by have := HBW.out.size; simp; omega) (fun e => by injection e with e; omega)⟩
                go_wp2_with fail
                refine (HMM.out _ hbw5 (HRB.out.low hlow5) (HRC.out.low hlow5)).mono ?_
                rintro e w6 ⟨bb, rfl, hbb, hb6⟩
                cases bb with
                | false =>
                  have HNO : Hid (¬ ScMay s) := Lib.hid (fun h => by have := hbb.2 ((HI.out.1 h).2.2.2.2.2 m (List.mem_of_getElem? HM0.out)); cases this)
                  go_wp2
                  go_ret
                  exact ⟨false, rfl, ⟨fun h => (by cases h), fun h => absurd h HNO.out⟩, below_then hbw5 hb6⟩
                | true =>
                  have HMB := Lib.hid (hbb.1 rfl)
                  have z5 := hg5.size
                  rw [World.size_alloc] at z5
                  have hlm := hm.lt
                  go_wp2
                  refine ⟨⟨k + 1, by go_num, by omega, fun j y hj hy => ?_, (hm5.on hb6).eq HNX.out, ((hb.alloc (by omega) _).grown hg5 (by simp; omega) (fun j hj => by injection hj with hj; omega)).trans (hb6.mono (by omega))⟩, by simp [intOf]; omega⟩
                  by_cases hj2 : j < k
                  · exact HQ.out j y hj2 hy
                  · obtain rfl : j = k := by omega
                    rw [HM0.out] at hy
                    obtain rfl := Option.some.inj hy
                    exact ⟨HD.out, HMB.out⟩
            · obtain rfl : k = s.E.length := by omega
              go_wp2
              go_ret
              refine ⟨true, rfl, ⟨fun _ => HI.out.2 ⟨hn0, hn1, hn2, ?_, ?_, ?_⟩, fun _ => rfl⟩, HBW.out⟩
              · intro j x hx
                have hjl := (List.getElem?_eq_some_iff.1 hx).1
                rw [sn_len] at hjl
                by_cases hj : j < s.M.length
                · obtain ⟨m, hm0⟩ : ∃ m, s.M[j]? = some m := ⟨_, List.getElem?_eq_getElem hj⟩
                  have h1 := sn_m hm0
                  rw [hx] at h1
                  obtain rfl := Option.some.inj h1
                  exact (HER.out j m hj hm0).1
                · obtain ⟨m, hm0⟩ : ∃ m, s.E[j - s.M.length]? = some m := ⟨_, List.getElem?_eq_getElem (by omega)⟩
                  have h1 := sn_e hm0
                  rw [show s.M.length + (j - s.M.length) = j by omega, hx] at h1
                  obtain rfl := Option.some.inj h1
                  have h2 := (HQ.out (j - s.M.length) m (by omega) hm0).1
                  rw [show s.M.length + (j - s.M.length) = j by omega] at h2
                  exact h2
              · intro m hm0
                obtain ⟨j, hj⟩ := List.mem_iff_getElem?.1 hm0
                exact (HER.out j m (List.getElem?_eq_some_iff.1 hj).1 hj).2
              · intro m hm0
                obtain ⟨j, hj⟩ := List.mem_iff_getElem?.1 hm0
                exact (HQ.out j m (List.getElem?_eq_some_iff.1 hj).1 hj).2
  · have hh : (decide (1 ≤ (s.M.length : Int)) && decide ((s.M.length : Int) ≤ 20) && decide ((s.E.length : Int) ≤ 20)) = false := by
      simp only [Bool.and_eq_false_iff, decide_eq_false_iff_not]; omega
    rw [hh] at HH
    have HNO : Hid (¬ ScMay s) := Lib.hid (fun h => hsz ⟨(HI.out.1 h).1, (HI.out.1 h).2.1, (HI.out.1 h).2.2.1⟩)
    clear hsz hh H1 H2 H3
    go_enter Tryz.func25, Tryz.ntmps25
    go_wp2_with (go_at_call 31; refine (HH.out _).mono ?_; rintro e w0 ⟨rfl, rfl⟩)
    go_ret
    exact ⟨false, rfl, ⟨fun h => (by cases h), fun h => absurd h HNO.out⟩, hb0⟩
end Go.Proofs.YtciiemomfniecaaGreatDoor
