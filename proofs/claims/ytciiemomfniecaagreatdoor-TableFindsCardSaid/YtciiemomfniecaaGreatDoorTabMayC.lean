/-
  A text's schema: the contract.
-/
import Derived.Test.YtciiemomfniecaaGreatDoorTabRes
import Derived.Test.YtciiemomfniecaaGreatDoorTabLaid
import Derived.Test.YtciiemomfniecaaGreatDoorProParse
import Derived.Test.YtciiemomfniecaaGreatDoorRawOpen
import Derived.Test.YtciiemomfniecaaGreatDoorTabWrong
namespace Go.Proofs.YtciiemomfniecaaGreatDoor
set_option maxRecDepth 100000

open Go.RowKit Go.Maps

def readS (L : List UInt8) : Sc := if parE L = 0 then tabS (parF L) else ⟨[], []⟩
def readAt (L : List UInt8) : Int := if parE L = 0 then tabAt (parF L) else parAt L
def readE (L : List UInt8) : Nat := if parE L = 0 then tabE (parF L) else parE L
def ReadPost (s : Sc) (p : Int) (q : Nat) (w : World) (e : Ending) (w' : World) : Prop := ∃ vM vE, e = .returned (.tuple #[.agg #[vM, vE], .int .i64 p, .int .i64 (q : Int)]) ∧ SRead w' s vM vE ∧ Below w.heap.size w w'
set_option maxHeartbeats 4000000 in
theorem readT_any (s : ByteArray) (hs : s.size ≤ 1000000) (w : World) (LV : LT w) (hin : FlIn (parF s.data.toList)) :
    Calls Tryz.prog 15 #[.string s] w (ReadPost (readS s.data.toList) (readAt s.data.toList) (readE s.data.toList) w) := by
  have HPAR := Lib.hid (fun wx (hx : LT wx) => parse_any s hs wx hx.laid)
  have HR0 := Lib.hid (fun (h : parE s.data.toList = 0) => (show readS s.data.toList = tabS (parF s.data.toList) ∧ readAt s.data.toList = tabAt (parF s.data.toList) ∧ readE s.data.toList = tabE (parF s.data.toList) from ⟨if_pos h, if_pos h, if_pos h⟩))
  have HR1 := Lib.hid (fun (h : parE s.data.toList ≠ 0) => (show readS s.data.toList = ⟨[], []⟩ ∧ readAt s.data.toList = parAt s.data.toList ∧ readE s.data.toList = parE s.data.toList from ⟨if_neg h, if_neg h, if_neg h⟩))
  generalize readS s.data.toList = RS at *
  generalize readAt s.data.toList = RA at *
  generalize readE s.data.toList = RE at *
  generalize parF s.data.toList = F at *
  generalize parAt s.data.toList = PA at *
  generalize parE s.data.toList = PE at *
  have HIN := Lib.hid hin
  have HLV := Lib.hid LV
  have HB0 := Lib.hid (below_new w (.cells #[.slice none 0 0, .slice none 0 0] 29))
  have hr0 : (w.alloc (.cells #[.slice none 0 0, .slice none 0 0] 29)).heap[w.heap.size]? = some (.cells #[.slice none 0 0, .slice none 0 0] 29 (0, 0)) := heap_alloc_new w _
  clear hin LV
  go_enter Tryz.func15, Tryz.ntmps15
  go_wp2_with fail
  refine (HPAR.out _ (by first | exact HLV.out | exact HLV.out.on HB0.out)).mono ?_
  rintro e w1 ⟨vM, vE, rfl, hf, hb1⟩
  have hr1 := (hb1.block _ (by simp)).trans hr0
  clear hr0
  have HFA := Lib.hid hf.at
  obtain ⟨xs, ys, h1, h2, h3, h4⟩ := hf
  obtain ⟨A1, q1, rfl, -⟩ := Sl.of_own h1
  obtain ⟨A2, q2, rfl, -⟩ := Sl.of_own h3
  have HB1 : Hid (Below w.heap.size w w1) := Lib.hid (by first | exact hb1 | exact below_then HB0.out hb1)
  clear h1 h2 h3 h4
  by_cases hE : PE = 0
  · obtain ⟨e1, e2, e3⟩ := HR0.out hE
    subst hE
    have HRES := Lib.hid (fun (w2 : World) (hb2 : Below w1.heap.size w1 w2) => resolve_any w1.heap.size F _ _ w2 hb2.size (HFA.out.low (Low.below hb2 (Nat.le_refl _))) HIN.out (HLV.out.tabs.on (below_then HB1.out hb2)))
    go_wp2_with fail
    refine (HRES.out _ (below_new _ _)).mono ?_
    rintro e w3 ⟨vM, vE, rfl, hs3, hb3⟩
    have hr3 := (hb3.block _ (by have := (Array.getElem?_eq_some_iff.1 hr1).1; simp; omega)).trans (((below_new w1 (.cells #[.slice A1 F.M.length q1, .slice A2 F.E.length q2] 25)).block _ (Array.getElem?_eq_some_iff.1 hr1).1).trans hr1)
    have HB3 := Lib.hid (below_then (below_lit HB1.out _) hb3)
    have HS3 := Lib.hid hs3
    obtain ⟨xs', ys', g1, g2, g3, g4⟩ := hs3
    obtain ⟨B1, r1, rfl, -⟩ := Sl.of_own g1
    obtain ⟨B2, r2, rfl, -⟩ := Sl.of_own g3
    clear g1 g2 g3 g4 hb3
    go_wp2_with (refine wpList_store_sc rfl _ _ rfl rfl w.heap.size _ _ _ _ rfl rfl rfl rfl _ hr3 ?_)
    refine bodyPost_ret (results_sc2 rfl _ _ w.heap.size _ _ _ (0, 0) rfl (setRow_heap _ _ _ _ _ _ hr3)) rfl ?_
    have hgr : ∀ wx : World, wx.grownBy (wx.setRow w.heap.size #[.slice B1 (tabS F).M.length r1, .slice B2 (tabS F).E.length r2]) (some w.heap.size) := fun wx => ⟨rfl, rfl, rfl, by simp, fun k _ hk => setRow_other _ _ _ _ (by simpa using hk)⟩
    refine ⟨_, _, by rw [e2, e3]; rfl, ?_, below_setRow HB3.out (by omega) _⟩
    rw [e1]
    exact HS3.out.other (hgr _) hr3 (by decide) (by decide) rfl
  · obtain ⟨e1, e2, e3⟩ := HR1.out hE
    have hE2 : ((PE : Int) != 0) = true := by rw [bne_iff_ne]; omega
    clear hE
    have hr2 := ((below_new w1 (.cells #[.slice A1 F.M.length q1, .slice A2 F.E.length q2] 25)).block _ (Array.getElem?_eq_some_iff.1 hr1).1).trans hr1
    clear hr1
    go_wp2_with (refine wpList_store_sc rfl _ _ rfl rfl w.heap.size _ _ _ _ rfl rfl rfl rfl _ hr2 ?_)
    refine bodyPost_ret (results_sc2 rfl _ _ w.heap.size _ _ _ (0, 0) rfl (setRow_heap _ _ _ _ _ _ hr2)) rfl ?_
    exact ⟨_, _, by rw [e2, e3]; rfl, by rw [e1]; exact SRead.nothing _, below_setRow (below_lit HB1.out _) (by omega) _⟩
end Go.Proofs.YtciiemomfniecaaGreatDoor
/-
  May a field, a message, an enum be: the contracts.
-/
namespace Go.Proofs.YtciiemomfniecaaGreatDoor
set_option maxRecDepth 100000

open Go.RowKit Go.Maps

set_option maxHeartbeats 2000000 in
theorem mayRefer_any (A1 A2 : Option Addr) (q1 q2 : Nat) (s : Sc) (kind ref : Int) (w : World) :
    Calls Tryz.prog 130 #[.agg #[.slice A1 s.M.length q1, .slice A2 s.E.length q2], .int .i64 kind, .int .i64 ref] w fun e w' => e = .returned (.bool (referB s kind ref)) ∧ Below w.heap.size w w' := by
  have H : Hid (referB s kind ref = (decide (0 ≤ kind) && decide (kind < 10) && decide (0 ≤ ref) && decide (ref < if kind = 9 then (s.M.length : Int) else if kind = 6 then (s.E.length : Int) else 1))) := Lib.hid rfl
  by_cases h9 : kind = 9
  · subst h9
    rw [if_pos rfl] at H
    go_enter Tryz.func130, Tryz.ntmps130
    go_wp2
    all_goals (go_ret; refine ⟨ret_bool ?_, below_new _ _⟩; rw [H.out]; first | (simp_all; done) | (rw [Bool.eq_iff_iff]; simp only [Bool.and_eq_true, decide_eq_true_eq, Bool.false_eq_true, true_iff, false_iff]; omega))
  · rw [if_neg h9] at H
    have n9 : (kind == 9) = false := beq_eq_false_iff_ne.2 h9
    by_cases h6 : kind = 6
    · subst h6
      rw [if_pos rfl] at H
      clear h9
      go_enter Tryz.func130, Tryz.ntmps130
      go_wp2
      all_goals (go_ret; refine ⟨ret_bool ?_, below_new _ _⟩; rw [H.out]; first | (simp_all; done) | (rw [Bool.eq_iff_iff]; simp only [Bool.and_eq_true, decide_eq_true_eq, Bool.false_eq_true, true_iff, false_iff]; omega))
    · rw [if_neg h6] at H
      have n6 : (kind == 6) = false := beq_eq_false_iff_ne.2 h6
      go_enter Tryz.func130, Tryz.ntmps130
      go_wp2
      all_goals (go_ret; refine ⟨ret_bool ?_, below_new _ _⟩; rw [H.out]; first | (simp_all; done) | (rw [Bool.eq_iff_iff]; simp only [Bool.and_eq_true, decide_eq_true_eq, Bool.false_eq_true, true_iff, false_iff]; omega))
set_option maxHeartbeats 4000000 in
theorem mayField_any (A1 A2 : Option Addr) (q1 q2 : Nat) (s : Sc) (d : Df) (w : World) (T : Tabs w) :
    Calls Tryz.prog 102 #[.agg #[.slice A1 s.M.length q1, .slice A2 s.E.length q2], .agg #[.int .i64 d.no, .string (txt d.name), .int .i64 d.kind, .int .i64 d.ref, .bool d.rep, .int .i64 d.key, .int .i64 d.one]] w fun e w' => e = .returned (.bool (fdMayB s d)) ∧ Below w.heap.size w w' := by
  obtain ⟨kb, hkb⟩ : ∃ b, decide (d.key ≠ -1) = b := ⟨_, rfl⟩
  obtain ⟨p1, hp1⟩ : ∃ b, keyedB d.key = b := ⟨_, rfl⟩
  obtain ⟨p2, hp2⟩ : ∃ b, referB s d.kind d.ref = b := ⟨_, rfl⟩
  obtain ⟨p3, hp3⟩ : ∃ b, standB 30 d.one d.rep kb = b := ⟨_, rfl⟩
  have H : Hid (fdMayB s d = (!(kb && !p1) && p2 && p3)) := Lib.hid (by unfold fdMayB; rw [hkb, hp1, hp2, hp3])
  have hk2 : (d.key != -1) = kb := by rw [← hkb]; by_cases h : d.key = -1 <;> simp [h]
  have H1 := fun wx => isKey_any d.key wx
  have H2 := fun wx => mayRefer_any A1 A2 q1 q2 s d.kind d.ref wx
  have H3 := fun wx (hT : Tabs wx) => mayStand_any 30 d.one d.rep kb wx hT
  simp only [hp1] at H1
  simp only [hp2] at H2
  simp only [hp3] at H3
  have Q1 := Lib.hid H1
  have Q2 := Lib.hid H2
  have Q3 := Lib.hid H3
  have hb0 : Below w.heap.size w ((w.alloc (.cells #[.slice A1 s.M.length q1, .slice A2 s.E.length q2] 29)).alloc (.cells #[.int .i64 d.no, .string (txt d.name), .int .i64 d.kind, .int .i64 d.ref, .bool d.rep, .int .i64 d.key, .int .i64 d.one] 39)) := below_lit (below_new _ _) _
  have hx0 := heap_second w (.cells #[.slice A1 s.M.length q1, .slice A2 s.E.length q2] 29) (.cells #[.int .i64 d.no, .string (txt d.name), .int .i64 d.kind, .int .i64 d.ref, .bool d.rep, .int .i64 d.key, .int .i64 d.one] 39)
  have HT := Lib.hid T
  clear H1 H2 H3 hkb hp1 hp2 hp3 T
  have hs0 : ((w.alloc (.cells #[.slice A1 s.M.length q1, .slice A2 s.E.length q2] 29)).alloc (.cells #[.int .i64 d.no, .string (txt d.name), .int .i64 d.kind, .int .i64 d.ref, .bool d.rep, .int .i64 d.key, .int .i64 d.one] 39)).heap.size = w.heap.size + 2 := by simp
  cases kb with
  | true =>
    cases p1 with
    | false =>
      go_enter Tryz.func102, Tryz.ntmps102
      go_wp2_with (go_at_call 129; refine (Q1.out _).mono ?_; rintro e w1 ⟨rfl, rfl⟩)
      go_ret
      exact ⟨by rw [H.out]; rfl, hb0⟩
    | true =>
      cases p2 with
      | false =>
        go_enter Tryz.func102, Tryz.ntmps102
        go_wp2_with (first
          | (go_at_call 129; refine (Q1.out _).mono ?_; rintro e w1 ⟨rfl, rfl⟩)
          | (go_at_call 130; refine (Q2.out _).mono ?_; rintro e w1 ⟨rfl, hb1⟩))
        go_ret
        exact ⟨by rw [H.out]; rfl, below_then hb0 hb1⟩
      | true =>
        go_enter Tryz.func102, Tryz.ntmps102
        go_wp2_with (first
          | (go_at_call 129; refine (Q1.out _).mono ?_; rintro e w1 ⟨rfl, rfl⟩)
          | (go_at_call 130; refine (Q2.out _).mono ?_; rintro e w1 ⟨rfl, hb1⟩; have hx1 := (hb1.block _ (by rw [hs0]; omega)).trans hx0; have c4 := heap_cell hx1 4; have c6 := heap_cell hx1 6; simp at c4 c6)
          | (go_at_call 79; refine (Q3.out _ (HT.out.on (below_then hb0 hb1))).mono ?_; rintro e w2 ⟨rfl, hb2⟩))
        go_ret
        exact ⟨by rw [H.out]; cases p3 <;> rfl, below_then (below_then hb0 hb1) hb2⟩
  | false =>
    cases p2 with
    | false =>
      go_enter Tryz.func102, Tryz.ntmps102
      go_wp2_with (go_at_call 130; refine (Q2.out _).mono ?_; rintro e w1 ⟨rfl, hb1⟩)
      go_ret
      exact ⟨by rw [H.out]; cases p1 <;> rfl, below_then hb0 hb1⟩
    | true =>
      go_enter Tryz.func102, Tryz.ntmps102
      go_wp2_with (first
        | (go_at_call 130; refine (Q2.out _).mono ?_; rintro e w1 ⟨rfl, hb1⟩; have hx1 := (hb1.block _ (by rw [hs0]; omega)).trans hx0; have c4 := heap_cell hx1 4; have c6 := heap_cell hx1 6; simp at c4 c6)
        | (go_at_call 79; refine (Q3.out _ (HT.out.on (below_then hb0 hb1))).mono ?_; rintro e w2 ⟨rfl, hb2⟩))
      go_ret
      exact ⟨by rw [H.out]; cases p1 <;> cases p3 <;> rfl, below_then (below_then hb0 hb1) hb2⟩
set_option maxRecDepth 1000000 in
set_option maxHeartbeats 4000000 in
theorem mayMessage_any (B : Nat) (A1 A2 : Option Addr) (q1 q2 : Nat) (s : Sc) (m : Md) (vF : Value) (w : World) (hB : B ≤ w.heap.size) (hr : Rb B w vF m.F.length 7 (dfv m.F)) (hin : MdIn m) (T : Tabs w) :
    Calls Tryz.prog 50 #[.agg #[.slice A1 s.M.length q1, .slice A2 s.E.length q2], .agg #[.string (txt m.name), vF]] w fun e w' => ∃ b, e = .returned (.bool b) ∧ (b = true ↔ MdMay s m) ∧ Below w.heap.size w w' := by
  have HEA := Lib.hid (fun wx (hx : Below w.heap.size w wx) (hl : m.F.length ≤ 30) => eachDf_any B vF m.F (by omega) wx (Nat.le_trans hB hx.size) (hr.low (Low.below hx hB)))
  obtain ⟨AF, cF, rfl, sF, aF⟩ := hr
  have HSF := Lib.hid sF
  have HIN := Lib.hid hin
  have HT := Lib.hid T
  have HI := Lib.hid (mdMay_iff s m)
  have hb0 : Below w.heap.size w ((w.alloc (.cells #[.slice A1 s.M.length q1, .slice A2 s.E.length q2] 29)).alloc (.cells #[.string (txt m.name), .slice AF m.F.length cF] 56)) := below_lit (below_new _ _) _
  have hx0 : ((w.alloc (.cells #[.slice A1 s.M.length q1, .slice A2 s.E.length q2] 29)).alloc (.cells #[.string (txt m.name), .slice AF m.F.length cF] 56)).heap[w.heap.size]? = some (.cells #[.slice A1 s.M.length q1, .slice A2 s.E.length q2] 29 (0, 0)) := ((below_new _ _).block _ (by simp)).trans (heap_alloc_new w _)
  have hr0 := heap_second w (.cells #[.slice A1 s.M.length q1, .slice A2 s.E.length q2] 29) (.cells #[.string (txt m.name), .slice AF m.F.length cF] 56)
  have hs0 : ((w.alloc (.cells #[.slice A1 s.M.length q1, .slice A2 s.E.length q2] 29)).alloc (.cells #[.string (txt m.name), .slice AF m.F.length cF] 56)).heap.size = w.heap.size + 2 := by simp
  have hnx : ∀ x ∈ mdNames m, x.length ≤ maxLen := by
    intro x hx
    obtain ⟨d, hd, rfl⟩ := List.mem_map.1 hx
    exact (hin.F d hd).name
  have hnl : (mdNames m).length = m.F.length := by simp [mdNames]
  clear sF hin T
  by_cases h30 : m.F.length ≤ 30
  · have hd : decide ((30 : Int) < (m.F.length : Int)) = false := by rw [decide_eq_false_iff_not]; omega
    have HE1 := Lib.hid (HEA.out _ hb0 h30)
    clear HEA
    go_enter Tryz.func50, Tryz.ntmps50
    go_wp2_with (first
      | (go_at_call 100; refine HE1.out.mono ?_; rintro e w1 ⟨uN, rfl, ho1, hb1⟩; obtain ⟨AN, cN, rfl, -⟩ := Sl.of_own ho1; have hz1 := hb1.size; rw [hs0] at hz1; have HF1 := Lib.hid (free1S _ (mdNames m) w1 (by rw [hnl]; exact Rb.of_own ho1) (by omega) hnx))
      | (go_at_call 69; refine HF1.out.mono ?_; rintro e w2 ⟨rfl, hm2, hb2⟩; replace hm2 := hm2.eq (still_none (mdNames m)); rw [hnl] at hm2; have hbw2 := below_then (below_then hb0 hb1) hb2; have hx2 := (hb2.block _ (by omega)).trans ((hb1.block _ (by rw [hs0]; omega)).trans hx0); have hr2 := (hb2.block _ (by omega)).trans ((hb1.block _ (by rw [hs0]; omega)).trans hr0); have c2 := heap_cell hr2 1; simp at c2; have hz2 := hm2.lt))
    obtain ⟨b1, hb1e⟩ : ∃ b1, w1.heap.size + 1 = b1 := ⟨_, rfl⟩
    simp only [hb1e] at hm2 hz2 ⊢
    have l1 : w.heap.size + 2 ≤ b1 := by omega
    have HX2 := Lib.hid hx2
    have HB2 := Lib.hid hbw2
    clear hx0 hr0 hx2 hr2 hb0 hb1 hb2 hbw2 c2 HF1 HE1 hnx ho1
    go_loopw [6, 21] (fun o i wr => ∃ k : Nat, i = .int .i64 k ∧ o = .int .i64 (lastNo m.F k) ∧ k ≤ m.F.length ∧ (∀ j d, j < k → m.F[j]? = some d → mdAtB s m j d = true) ∧ FreeS wr b1 m.F.length (still (mdNames m) [] k) ∧ Below (w.heap.size + 1) w2 wr) (fun _ i _ => m.F.length - (intOf i).toNat)
    case atStart => exact ⟨0, rfl, rfl, by omega, fun j d hj => by omega, hm2, Below.refl _ _⟩
    case round =>
      obtain ⟨k, rfl, rfl, hk, herr, hmS, hb⟩ := hrel
      have hxr := (hb.block w.heap.size (by omega)).trans HX2.out
      have hbw := HB2.out.trans (hb.mono (by omega))
      have hzr := hb.size
      have HQ := Lib.hid herr
      clear herr
      by_cases hlt : k < m.F.length
      · obtain ⟨d, hd0⟩ : ∃ d, m.F[k]? = some d := ⟨_, List.getElem?_eq_getElem hlt⟩
        obtain ⟨ad, rfl, hg, c0, c1, c2, c3, c4, c5, c6⟩ := dfr_at (HSF.out.low aF (Low.below hbw hB)) hd0
        have hdl := (HIN.out.F d (List.mem_of_getElem? hd0)).name
        obtain ⟨ln, hln⟩ : ∃ l, lastNo m.F k = l := ⟨_, rfl⟩
        obtain ⟨p0, hp0⟩ : ∃ b, decide (d.no ≤ ln) = b := ⟨_, rfl⟩
        obtain ⟨p1, hp1⟩ : ∃ b, numberB d.no = b := ⟨_, rfl⟩
        obtain ⟨p2, hp2⟩ : ∃ b, still (mdNames m) [] k d.name = b := ⟨_, rfl⟩
        obtain ⟨p3, hp3⟩ : ∃ b, fdMayB s d = b := ⟨_, rfl⟩
        have HA : Hid (mdAtB s m k d = (!p0 && p1 && p2 && p3)) := Lib.hid (by unfold mdAtB; rw [hln, hp0, hp1, hp2, hp3])
        have T1 := fun wx => isNumber_any d.no wx
        have T2 := fun wx hx => takeS_any b1 m.F.length (still (mdNames m) [] k) d.name hdl wx hx
        have T3 := fun wx (hT : Tabs wx) => mayField_any A1 A2 q1 q2 s d wx hT
        simp only [hp1] at T1
        simp only [hp2] at T2
        simp only [hp3] at T3
        have Q1 := Lib.hid T1
        have Q2 := Lib.hid T2
        have Q3 := Lib.hid T3
        have HD0 := Lib.hid hd0
        have HBW := Lib.hid hbw
        have HXR := Lib.hid hxr
        have bad : ∀ w', mdAtB s m k d = false → Below w.heap.size w w' → ∃ b, Ending.returned (.bool false) = .returned (.bool b) ∧ (b = true ↔ MdMay s m) ∧ Below w.heap.size w w' := fun w' hf hb' => ⟨false, rfl, ⟨fun h => (by cases h), fun h => (by have := (HI.out.1 h).2 k d HD0.out; rw [hf] at this; cases this)⟩, hb'⟩
        have HBAD := Lib.hid bad
        have hne : wr.heap.size ≠ b1 := by have := hmS.lt; omega
        clear hd0 hp1 hp2 hp3 T1 T2 T3 hg bad hbw hxr
        rw [hln]
        cases p0 with
        | true =>
          go_wp2
          go_ret
          exact HBAD.out _ (by rw [HA.out]; rfl) (below_lit HBW.out _)
        | false =>
          cases p1 with
          | false =>
            go_wp2_with (go_at_call 78; refine (Q1.out _).mono ?_; rintro e w7 ⟨rfl, rfl⟩)
            go_ret
            exact HBAD.out _ (by rw [HA.out]; rfl) (below_lit HBW.out _)
          | true =>
            cases p2 with
            | false =>
              go_wp2_with (first
                | (go_at_call 78; refine (Q1.out _).mono ?_; rintro e w7 ⟨rfl, rfl⟩)
                | (go_at_call 49; refine (Q2.out _ (hmS.alloc _)).mono ?_; rintro e w8 ⟨rfl, hm8, hg8⟩))
              go_ret
              exact HBAD.out _ (by rw [HA.out]; rfl) ((below_lit HBW.out _).grown hg8 (by have := HBW.out.size; simp; omega) (fun j hj => by injection hj with hj; omega))
            | true =>
              have hyr := ((below_new wr (.cells #[.int .i64 d.no, .string (txt d.name), .int .i64 d.kind, .int .i64 d.ref, .bool d.rep, .int .i64 d.key, .int .i64 d.one] 39)).block _ (Array.getElem?_eq_some_iff.1 HXR.out).1).trans HXR.out
              cases p3 with
              | false =>
                go_wp2_with (first
                  | (go_at_call 78; refine (Q1.out _).mono ?_; rintro e w7 ⟨rfl, rfl⟩)
                  | (go_at_call 49; refine (Q2.out _ (hmS.alloc _)).mono ?_; rintro e w8 ⟨rfl, hm8, hg8⟩; have hbw8 := (below_lit HBW.out _).grown hg8 (by have := HBW.out.size; simp; omega) (fun j hj => by injection hj with hj; omega); have hx8 := box_kept (heap_alloc_new wr _) hg8 hne; have hy8 := box_kept hyr hg8 (by omega); have e0 := heap_cell hx8 0; have e1 := heap_cell hx8 1; have e2 := heap_cell hx8 2; have e3 := heap_cell hx8 3; have e4 := heap_cell hx8 4; have e5 := heap_cell hx8 5; have e6 := heap_cell hx8 6; have y0 := heap_cell hy8 0; have y1 := heap_cell hy8 1; simp at e0 e1 e2 e3 e4 e5 e6 y0 y1)
                  | (go_at_call 102; refine (Q3.out _ (HT.out.on hbw8)).mono ?_; rintro e w9 ⟨rfl, hb9⟩))
                go_ret
                exact HBAD.out _ (by rw [HA.out]; rfl) (below_then hbw8 hb9)
              | true =>
                go_wp2_with (first
                  | (go_at_call 78; refine (Q1.out _).mono ?_; rintro e w7 ⟨rfl, rfl⟩)
                  | (go_at_call 49; refine (Q2.out _ (hmS.alloc _)).mono ?_; rintro e w8 ⟨rfl, hm8, hg8⟩; have hbw8 := (below_lit HBW.out _).grown hg8 (by have := HBW.out.size; simp; omega) (fun j hj => by injection hj with hj; omega); have hx8 := box_kept (heap_alloc_new wr _) hg8 hne; have hy8 := box_kept hyr hg8 (by omega); have e0 := heap_cell hx8 0; have e1 := heap_cell hx8 1; have e2 := heap_cell hx8 2; have e3 := heap_cell hx8 3; have e4 := heap_cell hx8 4; have e5 := heap_cell hx8 5; have e6 := heap_cell hx8 6; have y0 := heap_cell hy8 0; have y1 := heap_cell hy8 1; simp at e0 e1 e2 e3 e4 e5 e6 y0 y1)
                  | (go_at_call 102; refine (Q3.out _ (HT.out.on hbw8)).mono ?_; rintro e w9 ⟨rfl, hb9⟩; have hx9 := (hb9.block _ (Array.getElem?_eq_some_iff.1 hx8).1).trans hx8; have g0 := heap_cell hx9 0; simp at g0))
                have z8 := hg8.size
                rw [World.size_alloc] at z8
                refine ⟨⟨k + 1, by go_num, ?_, by omega, fun j y hj hy => ?_, (hm8.on hb9).eq (still_next (by simp [mdNames, HD0.out])), ?_⟩, by simp [intOf]; omega⟩
                · have : lastNo m.F (k + 1) = d.no := by unfold lastNo; rw [if_neg (by omega), Nat.add_sub_cancel, HD0.out]; rfl
                  rw [this]
                · by_cases hj2 : j < k
                  · exact HQ.out j y hj2 hy
                  · obtain rfl : j = k := by omega
                    rw [HD0.out] at hy
                    obtain rfl := Option.some.inj hy
                    rw [HA.out]; rfl
                · exact ((hb.alloc (by omega) _).grown hg8 (by simp; omega) (fun j hj => by injection hj with hj; omega)).trans (hb9.mono (by omega))
      · obtain rfl : k = m.F.length := by omega
        go_wp2
        go_ret
        exact ⟨true, rfl, ⟨fun _ => HI.out.2 ⟨h30, fun j d hd => HQ.out j d (List.getElem?_eq_some_iff.1 hd).1 hd⟩, fun _ => rfl⟩, hbw⟩
  · have hd : decide ((30 : Int) < (m.F.length : Int)) = true := by rw [decide_eq_true_eq]; omega
    have HN : Hid (¬ MdMay s m) := Lib.hid (fun h => h30 (HI.out.1 h).1)
    clear h30 HEA hnx
    go_enter Tryz.func50, Tryz.ntmps50
    go_wp2
    go_ret
    exact ⟨false, rfl, ⟨fun h => (by cases h), fun h => absurd h HN.out⟩, hb0⟩
end Go.Proofs.YtciiemomfniecaaGreatDoor
