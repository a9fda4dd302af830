/-
  A text's schema: the contract.
-/
import Derived.Test.YtciiemomfniecaaGreatDoorTabRes
import Derived.Test.YtciiemomfniecaaGreatDoorTokRead
import Derived.Test.YtciiemomfniecaaGreatDoorProParse
import Derived.Test.YtciiemomfniecaaGreatDoorTabOf
import Derived.Test.YtciiemomfniecaaGreatDoorTabEnum
import Derived.BigQuiet
import Derived.Test.YtciiemomfniecaaGreatDoorVars
namespace Go.Proofs.YtciiemomfniecaaGreatDoor
set_option maxRecDepth 100000

open Go.RowKit Go.Maps

def readS (L : List UInt8) : Sc := if parE L = 0 then tabS (parF L) else ⟨[], []⟩
def readAt (L : List UInt8) : Int := if parE L = 0 then tabAt (parF L) else parAt L
def readE (L : List UInt8) : Nat := if parE L = 0 then tabE (parF L) else parE L
def ReadPost (s : Sc) (p : Int) (q : Nat) (w : World) (e : Ending) (w' : World) : Prop := ∃ vM vE, e = .returned (.tuple #[.agg #[vM, vE], .int .i64 p, .int .i64 (q : Int)]) ∧ SRead w' s vM vE ∧ Below w.heap.size w w'
set_option maxHeartbeats 4000000 in
theorem readT_any (s : ByteArray) (hs : s.size ≤ 1000000) (w : World) (LV : LT w) (hin : FlIn (parF s.data.toList)) :
    Calls Tryz.prog 15 #[.string s] w (ReadPost (readS s.data.toList) (readAt s.data.toList) (readE s.data.toList) w) := by
  have HPAR := Lib.hid (fun wx (hx : LT wx) => parse_any s hs wx hx.laid)
  have HR0 := Lib.hid (fun (h : parE s.data.toList = 0) => (show readS s.data.toList = tabS (parF s.data.toList) ∧ readAt s.data.toList = tabAt (parF s.data.toList) ∧ readE s.data.toList = tabE (parF s.data.toList) from ⟨if_pos h, if_pos h, if_pos h⟩))
  have HR1 := Lib.hid (fun (h : parE s.data.toList ≠ 0) => (show readS s.data.toList = ⟨[], []⟩ ∧ readAt s.data.toList = parAt s.data.toList ∧ readE s.data.toList = parE s.data.toList from ⟨if_neg h, if_neg h, if_neg h⟩))
  generalize readS s.data.toList = RS at *
  generalize readAt s.data.toList = RA at *
  generalize readE s.data.toList = RE at *
  generalize parF s.data.toList = F at *
  generalize parAt s.data.toList = PA at *
  generalize parE s.data.toList = PE at *
  have HIN := Lib.hid hin
  have HLV := Lib.hid LV
  have HB0 := Lib.hid (below_new w (.cells #[.slice none 0 0, .slice none 0 0] 29))
  have hr0 : (w.alloc (.cells #[.slice none 0 0, .slice none 0 0] 29)).heap[w.heap.size]? = some (.cells #[.slice none 0 0, .slice none 0 0] 29 (0, 0)) := heap_alloc_new w _
  clear hin LV
  go_enter Tryz.func15, Tryz.ntmps15
  go_wp2_with fail
  refine (HPAR.out _ (by first | exact HLV.out | exact HLV.out.on HB0.out)).mono ?_
  rintro e w1 ⟨vM, vE, rfl, hf, hb1⟩
  have hr1 := (hb1.block _ (by simp)).trans hr0
  clear hr0
  have HFA := Lib.hid hf.at
  obtain ⟨xs, ys, h1, h2, h3, h4⟩ := hf
  obtain ⟨A1, q1, rfl, -⟩ := Sl.of_own h1
  obtain ⟨A2, q2, rfl, -⟩ := Sl.of_own h3
  have HB1 : Hid (Below w.heap.size w w1) := Lib.hid (by first | exact hb1 | exact below_then HB0.out hb1)
  clear h1 h2 h3 h4
  by_cases hE : PE = 0
  · obtain ⟨e1, e2, e3⟩ := HR0.out hE
    subst hE
    have HRES := Lib.hid (fun (w2 : World) (hb2 : Below w1.heap.size w1 w2) => resolve_any w1.heap.size F _ _ w2 hb2.size (HFA.out.low (Low.below hb2 (Nat.le_refl _))) HIN.out (HLV.out.tabs.on (below_then HB1.out hb2)))
    go_wp2_with fail
    refine (HRES.out _ (below_new _ _)).mono ?_
    rintro e w3 ⟨vM, vE, rfl, hs3, hb3⟩
    have hr3 := (hb3.block _ (by have := (Array.getElem?_eq_some_iff.1 hr1).1; simp; omega)).trans (((below_new w1 (.cells #[.slice A1 F.M.length q1, .slice A2 F.E.length q2] 25)).block _ (Array.getElem?_eq_some_iff.1 hr1).1).trans hr1)
    have HB3 := Lib.hid (below_then (below_lit HB1.out _) hb3)
    have HS3 := Lib.hid hs3
    obtain ⟨xs', ys', g1, g2, g3, g4⟩ := hs3
    obtain ⟨B1, r1, rfl, -⟩ := Sl.of_own g1
    obtain ⟨B2, r2, rfl, -⟩ := Sl.of_own g3
    clear g1 g2 g3 g4 hb3
    go_wp2_with (refine wpList_store_sc rfl _ _ rfl rfl w.heap.size _ _ _ _ rfl rfl rfl rfl _ hr3 ?_)
    refine bodyPost_ret (results_sc2 rfl _ _ w.heap.size _ _ _ (0, 0) rfl (setRow_heap _ _ _ _ _ _ hr3)) rfl ?_
    have hgr : ∀ wx : World, wx.grownBy (wx.setRow w.heap.size #[.slice B1 (tabS F).M.length r1, .slice B2 (tabS F).E.length r2]) (some w.heap.size) := fun wx => ⟨rfl, rfl, rfl, by simp, fun k _ hk => setRow_other _ _ _ _ (by simpa using hk)⟩
    refine ⟨_, _, by rw [e2, e3]; rfl, ?_, below_setRow HB3.out (by omega) _⟩
    rw [e1]
    exact HS3.out.other (hgr _) hr3 (by decide) (by decide) rfl
  · obtain ⟨e1, e2, e3⟩ := HR1.out hE
    have hE2 : ((PE : Int) != 0) = true := by rw [bne_iff_ne]; omega
    clear hE
    have hr2 := ((below_new w1 (.cells #[.slice A1 F.M.length q1, .slice A2 F.E.length q2] 25)).block _ (Array.getElem?_eq_some_iff.1 hr1).1).trans hr1
    clear hr1
    go_wp2_with (refine wpList_store_sc rfl _ _ rfl rfl w.heap.size _ _ _ _ rfl rfl rfl rfl _ hr2 ?_)
    refine bodyPost_ret (results_sc2 rfl _ _ w.heap.size _ _ _ (0, 0) rfl (setRow_heap _ _ _ _ _ _ hr2)) rfl ?_
    exact ⟨_, _, by rw [e2, e3]; rfl, by rw [e1]; exact SRead.nothing _, below_setRow (below_lit HB1.out _) (by omega) _⟩
end Go.Proofs.YtciiemomfniecaaGreatDoor
/-
  May a field, a message, an enum be: the contracts.
-/
namespace Go.Proofs.YtciiemomfniecaaGreatDoor
set_option maxRecDepth 100000

open Go.RowKit Go.Maps

set_option maxHeartbeats 2000000 in
theorem mayRefer_any (A1 A2 : Option Addr) (q1 q2 : Nat) (s : Sc) (kind ref : Int) (w : World) :
    Calls Tryz.prog 130 #[.agg #[.slice A1 s.M.length q1, .slice A2 s.E.length q2], .int .i64 kind, .int .i64 ref] w fun e w' => e = .returned (.bool (referB s kind ref)) ∧ Below w.heap.size w w' := by
  have H : Hid (referB s kind ref = (decide (0 ≤ kind) && decide (kind < 10) && decide (0 ≤ ref) && decide (ref < if kind = 9 then (s.M.length : Int) else if kind = 6 then (s.E.length : Int) else 1))) := Lib.hid rfl
  by_cases h9 : kind = 9
  · subst h9
    rw [if_pos rfl] at H
    go_enter Tryz.func130, Tryz.ntmps130
    go_wp2
    all_goals (go_ret; refine ⟨ret_bool ?_, below_new _ _⟩; rw [H.out]; first | (simp_all; done) | (rw [Bool.eq_iff_iff]; simp only [Bool.and_eq_true, decide_eq_true_eq, Bool.false_eq_true, true_iff, false_iff]; omega))
  · rw [if_neg h9] at H
    have n9 : (kind == 9) = false := beq_eq_false_iff_ne.2 h9
    by_cases h6 : kind = 6
    · subst h6
      rw [if_pos rfl] at H
      clear h9
      go_enter Tryz.func130, Tryz.ntmps130
      go_wp2
      all_goals (go_ret; refine ⟨ret_bool ?_, below_new _ _⟩; rw [H.out]; first | (simp_all; done) | (rw [Bool.eq_iff_iff]; simp only [Bool.and_eq_true, decide_eq_true_eq, Bool.false_eq_true, true_iff, false_iff]; omega))
    · rw [if_neg h6] at H
      have n6 : (kind == 6) = false := beq_eq_false_iff_ne.2 h6
      go_enter Tryz.func130, Tryz.ntmps130
      go_wp2
      all_goals (go_ret; refine ⟨ret_bool ?_, below_new _ _⟩; rw [H.out]; first | (simp_all; done) | (rw [Bool.eq_iff_iff]; simp only [Bool.and_eq_true, decide_eq_true_eq, Bool.false_eq_true, true_iff, false_iff]; omega))
set_option maxHeartbeats 4000000 in
theorem mayField_any (A1 A2 : Option Addr) (q1 q2 : Nat) (s : Sc) (d : Df) (w : World) (T : Tabs w) :
    Calls Tryz.prog 102 #[.agg #[.slice A1 s.M.length q1, .slice A2 s.E.length q2], .agg #[.int .i64 d.no, .string (txt d.name), .int .i64 d.kind, .int .i64 d.ref, .bool d.rep, .int .i64 d.key, .int .i64 d.one]] w fun e w' => e = .returned (.bool (fdMayB s d)) ∧ Below w.heap.size w w' := by
  obtain ⟨kb, hkb⟩ : ∃ b, decide (d.key ≠ -1) = b := ⟨_, rfl⟩
  obtain ⟨p1, hp1⟩ : ∃ b, keyedB d.key = b := ⟨_, rfl⟩
  obtain ⟨p2, hp2⟩ : ∃ b, referB s d.kind d.ref = b := ⟨_, rfl⟩
  obtain ⟨p3, hp3⟩ : ∃ b, standB 30 d.one d.rep kb = b := ⟨_, rfl⟩
  have H : Hid (fdMayB s d = (!(kb && !p1) && p2 && p3)) := Lib.hid (by unfold fdMayB; rw [hkb, hp1, hp2, hp3])
  have hk2 : (d.key != -1) = kb := by rw [← hkb]; by_cases h : d.key = -1 <;> simp [h]
  have H1 := fun wx => isKey_any d.key wx
  have H2 := fun wx => mayRefer_any A1 A2 q1 q2 s d.kind d.ref wx
  have H3 := fun wx (hT : Tabs wx) => mayStand_any 30 d.one d.rep kb wx hT
  simp only [hp1] at H1
  simp only [hp2] at H2
  simp only [hp3] at H3
  have Q1 := Lib.hid H1
  have Q2 := Lib.hid H2
  have Q3 := Lib.hid H3
  have hb0 : Below w.heap.size w ((w.alloc (.cells #[.slice A1 s.M.length q1, .slice A2 s.E.length q2] 29)).alloc (.cells #[.int .i64 d.no, .string (txt d.name), .int .i64 d.kind, .int .i64 d.ref, .bool d.rep, .int .i64 d.key, .int .i64 d.one] 39)) := below_lit (below_new _ _) _
  have hx0 := heap_second w (.cells #[.slice A1 s.M.length q1, .slice A2 s.E.length q2] 29) (.cells #[.int .i64 d.no, .string (txt d.name), .int .i64 d.kind, .int .i64 d.ref, .bool d.rep, .int .i64 d.key, .int .i64 d.one] 39)
  have HT := Lib.hid T
  clear H1 H2 H3 hkb hp1 hp2 hp3 T
  have hs0 : ((w.alloc (.cells #[.slice A1 s.M.length q1, .slice A2 s.E.length q2] 29)).alloc (.cells #[.int .i64 d.no, .string (txt d.name), .int .i64 d.kind, .int .i64 d.ref, .bool d.rep, .int .i64 d.key, .int .i64 d.one] 39)).heap.size = w.heap.size + 2 := by simp
  cases kb with
  | true =>
    cases p1 with
    | false =>
      go_enter Tryz.func102, Tryz.ntmps102
      go_wp2_with (go_at_call 129; refine (Q1.out _).mono ?_; rintro e w1 ⟨rfl, rfl⟩)
      go_ret
      exact ⟨by rw [H.out]; rfl, hb0⟩
    | true =>
      cases p2 with
      | false =>
        go_enter Tryz.func102, Tryz.ntmps102
        go_wp2_with (first
          | (go_at_call 129; refine (Q1.out _).mono ?_; rintro e w1 ⟨rfl, rfl⟩)
          | (go_at_call 130; refine (Q2.out _).mono ?_; rintro e w1 ⟨rfl, hb1⟩))
        go_ret
        exact ⟨by rw [H.out]; rfl, below_then hb0 hb1⟩
      | true =>
        go_enter Tryz.func102, Tryz.ntmps102
        go_wp2_with (first
          | (go_at_call 129; refine (Q1.out _).mono ?_; rintro e w1 ⟨rfl, rfl⟩)
          | (go_at_call 130; refine (Q2.out _).mono ?_; rintro e w1 ⟨rfl, hb1⟩; have hx1 := (hb1.block _ (by rw [hs0]; omega)).trans hx0; have c4 := heap_cell hx1 4; have c6 := heap_cell hx1 6; simp at c4 c6)
          | (go_at_call 79; refine (Q3.out _ (HT.out.on (below_then hb0 hb1))).mono ?_; rintro e w2 ⟨rfl, hb2⟩))
        go_ret
        exact ⟨by rw [H.out]; cases p3 <;> rfl, below_then (below_then hb0 hb1) hb2⟩
  | false =>
    cases p2 with
    | false =>
      go_enter Tryz.func102, Tryz.ntmps102
      go_wp2_with (go_at_call 130; refine (Q2.out _).mono ?_; rintro e w1 ⟨rfl, hb1⟩)
      go_ret
      exact ⟨by rw [H.out]; cases p1 <;> rfl, below_then hb0 hb1⟩
    | true =>
      go_enter Tryz.func102, Tryz.ntmps102
      go_wp2_with (first
        | (go_at_call 130; refine (Q2.out _).mono ?_; rintro e w1 ⟨rfl, hb1⟩; have hx1 := (hb1.block _ (by rw [hs0]; omega)).trans hx0; have c4 := heap_cell hx1 4; have c6 := heap_cell hx1 6; simp at c4 c6)
        | (go_at_call 79; refine (Q3.out _ (HT.out.on (below_then hb0 hb1))).mono ?_; rintro e w2 ⟨rfl, hb2⟩))
      go_ret
      exact ⟨by rw [H.out]; cases p1 <;> cases p3 <;> rfl, below_then (below_then hb0 hb1) hb2⟩
set_option maxRecDepth 1000000 in
set_option maxHeartbeats 4000000 in
theorem mayMessage_any (B : Nat) (A1 A2 : Option Addr) (q1 q2 : Nat) (s : Sc) (m : Md) (vF : Value) (w : World) (hB : B ≤ w.heap.size) (hr : Rb B w vF m.F.length 7 (dfv m.F)) (hin : MdIn m) (T : Tabs w) :
    Calls Tryz.prog 50 #[.agg #[.slice A1 s.M.length q1, .slice A2 s.E.length q2], .agg #[.string (txt m.name), vF]] w fun e w' => ∃ b, e = .returned (.bool b) ∧ (b = true ↔ MdMay s m) ∧ Below w.heap.size w w' := by
  have HEA := Lib.hid (fun wx (hx : Below w.heap.size w wx) (hl : m.F.length ≤ 30) => eachDf_any B vF m.F (by omega) wx (Nat.le_trans hB hx.size) (hr.low (Low.below hx hB)))
  obtain ⟨AF, cF, rfl, sF, aF⟩ := hr
  have HSF := Lib.hid sF
  have HIN := Lib.hid hin
  have HT := Lib.hid T
  have HI := Lib.hid (mdMay_iff s m)
  have hb0 : Below w.heap.size w ((w.alloc (.cells #[.slice A1 s.M.length q1, .slice A2 s.E.length q2] 29)).alloc (.cells #[.string (txt m.name), .slice AF m.F.length cF] 56)) := below_lit (below_new _ _) _
  have hx0 : ((w.alloc (.cells #[.slice A1 s.M.length q1, .slice A2 s.E.length q2] 29)).alloc (.cells #[.string (txt m.name), .slice AF m.F.length cF] 56)).heap[w.heap.size]? = some (.cells #[.slice A1 s.M.length q1, .slice A2 s.E.length q2] 29 (0, 0)) := ((below_new _ _).block _ (by simp)).trans (heap_alloc_new w _)
  have hr0 := heap_second w (.cells #[.slice A1 s.M.length q1, .slice A2 s.E.length q2] 29) (.cells #[.string (txt m.name), .slice AF m.F.length cF] 56)
  have hs0 : ((w.alloc (.cells #[.slice A1 s.M.length q1, .slice A2 s.E.length q2] 29)).alloc (.cells #[.string (txt m.name), .slice AF m.F.length cF] 56)).heap.size = w.heap.size + 2 := by simp
  have hnx : ∀ x ∈ mdNames m, x.length ≤ maxLen := by
    intro x hx
    obtain ⟨d, hd, rfl⟩ := List.mem_map.1 hx
    exact (hin.F d hd).name
  have hnl : (mdNames m).length = m.F.length := by simp [mdNames]
  clear sF hin T
  by_cases h30 : m.F.length ≤ 30
  · have hd : decide ((30 : Int) < (m.F.length : Int)) = false := by rw [decide_eq_false_iff_not]; omega
    have HE1 := Lib.hid (HEA.out _ hb0 h30)
    clear HEA
    go_enter Tryz.func50, Tryz.ntmps50
    go_wp2_with (first
      | (go_at_call 100; refine HE1.out.mono ?_; rintro e w1 ⟨uN, rfl, ho1, hb1⟩; obtain ⟨AN, cN, rfl, -⟩ := Sl.of_own ho1; have hz1 := hb1.size; rw [hs0] at hz1; have HF1 := Lib.hid (free1S _ (mdNames m) w1 (by rw [hnl]; exact Rb.of_own ho1) (by omega) hnx))
      | (go_at_call 69; refine HF1.out.mono ?_; rintro e w2 ⟨rfl, hm2, hb2⟩; replace hm2 := hm2.eq (still_none (mdNames m)); rw [hnl] at hm2; have hbw2 := below_then (below_then hb0 hb1) hb2; have hx2 := (hb2.block _ (by omega)).trans ((hb1.block _ (by rw [hs0]; omega)).trans hx0); have hr2 := (hb2.block _ (by omega)).trans ((hb1.block _ (by rw [hs0]; omega)).trans hr0); have c2 := heap_cell hr2 1; simp at c2; have hz2 := hm2.lt))
    obtain ⟨b1, hb1e⟩ : ∃ b1, w1.heap.size + 1 = b1 := ⟨_, rfl⟩
    simp only [hb1e] at hm2 hz2 ⊢
    have l1 : w.heap.size + 2 ≤ b1 := by omega
    have HX2 := Lib.hid hx2
    have HB2 := Lib.hid hbw2
    clear hx0 hr0 hx2 hr2 hb0 hb1 hb2 hbw2 c2 HF1 HE1 hnx ho1
    go_loopw [6, 21] (fun o i wr => ∃ k : Nat, i = .int .i64 k ∧ o = .int .i64 (lastNo m.F k) ∧ k ≤ m.F.length ∧ (∀ j d, j < k → m.F[j]? = some d → mdAtB s m j d = true) ∧ FreeS wr b1 m.F.length (still (mdNames m) [] k) ∧ Below (w.heap.size + 1) w2 wr) (fun _ i _ => m.F.length - (intOf i).toNat)
    case atStart => exact ⟨0, rfl, rfl, by omega, fun j d hj => by omega, hm2, Below.refl _ _⟩
    case round =>
      obtain ⟨k, rfl, rfl, hk, herr, hmS, hb⟩ := hrel
      have hxr := (hb.block w.heap.size (by omega)).trans HX2.out
      have hbw := HB2.out.trans (hb.mono (by omega))
      have hzr := hb.size
      have HQ := Lib.hid herr
      clear herr
      by_cases hlt : k < m.F.length
      · obtain ⟨d, hd0⟩ : ∃ d, m.F[k]? = some d := ⟨_, List.getElem?_eq_getElem hlt⟩
        obtain ⟨ad, rfl, hg, c0, c1, c2, c3, c4, c5, c6⟩ := dfr_at (HSF.out.low aF (Low.below hbw hB)) hd0
        have hdl := (HIN.out.F d (List.mem_of_getElem? hd0)).name
        obtain ⟨ln, hln⟩ : ∃ l, lastNo m.F k = l := ⟨_, rfl⟩
        obtain ⟨p0, hp0⟩ : ∃ b, decide (d.no ≤ ln) = b := ⟨_, rfl⟩
        obtain ⟨p1, hp1⟩ : ∃ b, numberB d.no = b := ⟨_, rfl⟩
        obtain ⟨p2, hp2⟩ : ∃ b, still (mdNames m) [] k d.name = b := ⟨_, rfl⟩
        obtain ⟨p3, hp3⟩ : ∃ b, fdMayB s d = b := ⟨_, rfl⟩
        have HA : Hid (mdAtB s m k d = (!p0 && p1 && p2 && p3)) := Lib.hid (by unfold mdAtB; rw [hln, hp0, hp1, hp2, hp3])
        have T1 := fun wx => isNumber_any d.no wx
        have T2 := fun wx hx => takeS_any b1 m.F.length (still (mdNames m) [] k) d.name hdl wx hx
        have T3 := fun wx (hT : Tabs wx) => mayField_any A1 A2 q1 q2 s d wx hT
        simp only [hp1] at T1
        simp only [hp2] at T2
        simp only [hp3] at T3
        have Q1 := Lib.hid T1
        have Q2 := Lib.hid T2
        have Q3 := Lib.hid T3
        have HD0 := Lib.hid hd0
        have HBW := Lib.hid hbw
        have HXR := Lib.hid hxr
        have bad : ∀ w', mdAtB s m k d = false → Below w.heap.size w w' → ∃ b, Ending.returned (.bool false) = .returned (.bool b) ∧ (b = true ↔ MdMay s m) ∧ Below w.heap.size w w' := fun w' hf hb' => ⟨false, rfl, ⟨fun h => (by cases h), fun h => (by have := (HI.out.1 h).2 k d HD0.out; rw [hf] at this; cases this)⟩, hb'⟩
        have HBAD := Lib.hid bad
        have hne : wr.heap.size ≠ b1 := by have := hmS.lt; omega
        clear hd0 hp1 hp2 hp3 T1 T2 T3 hg bad hbw hxr
        rw [hln]
        cases p0 with
        | true =>
          go_wp2
          go_ret
          exact HBAD.out _ (by rw [HA.out]; rfl) (below_lit HBW.out _)
        | false =>
          cases p1 with
          | false =>
            go_wp2_with (go_at_call 78; refine (Q1.out _).mono ?_; rintro e w7 ⟨rfl, rfl⟩)
            go_ret
            exact HBAD.out _ (by rw [HA.out]; rfl) (below_lit HBW.out _)
          | true =>
            cases p2 with
            | false =>
              go_wp2_with (first
                | (go_at_call 78; refine (Q1.out _).mono ?_; rintro e w7 ⟨rfl, rfl⟩)
                | (go_at_call 49; refine (Q2.out _ (hmS.alloc _)).mono ?_; rintro e w8 ⟨rfl, hm8, hg8⟩))
              go_ret
              exact HBAD.out _ (by rw [HA.out]; rfl) ((below_lit HBW.out _).grown hg8 (by have := HBW.out.size; simp; omega) (fun j hj => by injection hj with hj; omega))
            | true =>
              have hyr := ((below_new wr (.cells #[.int .i64 d.no, .string (txt d.name), .int .i64 d.kind, .int .i64 d.ref, .bool d.rep, .int .i64 d.key, .int .i64 d.one] 39)).block _ (Array.getElem?_eq_some_iff.1 HXR.out).1).trans HXR.out
              cases p3 with
              | false =>
                go_wp2_with (first
                  | (go_at_call 78; refine (Q1.out _).mono ?_; rintro e w7 ⟨rfl, rfl⟩)
                  | (go_at_call 49; refine (Q2.out _ (hmS.alloc _)).mono ?_; rintro e w8 ⟨rfl, hm8, hg8⟩; have hbw8 := (below_lit HBW.out _).grown hg8 (by have := HBW.out.size; simp; omega) (fun j hj => by injection hj with hj; omega); have hx8 := box_kept (heap_alloc_new wr _) hg8 hne; have hy8 := box_kept hyr hg8 (by omega); have e0 := heap_cell hx8 0; have e1 := heap_cell hx8 1; have e2 := heap_cell hx8 2; have e3 := heap_cell hx8 3; have e4 := heap_cell hx8 4; have e5 := heap_cell hx8 5; have e6 := heap_cell hx8 6; have y0 := heap_cell hy8 0; have y1 := heap_cell hy8 1; simp at e0 e1 e2 e3 e4 e5 e6 y0 y1)
                  | (go_at_call 102; refine (Q3.out _ (HT.out.on hbw8)).mono ?_; rintro e w9 ⟨rfl, hb9⟩))
                go_ret
                exact HBAD.out _ (by rw [HA.out]; rfl) (below_then hbw8 hb9)
              | true =>
                go_wp2_with (first
                  | (go_at_call 78; refine (Q1.out _).mono ?_; rintro e w7 ⟨rfl, rfl⟩)
                  | (go_at_call 49; refine (Q2.out _ (hmS.alloc _)).mono ?_; rintro e w8 ⟨rfl, hm8, hg8⟩; have hbw8 := (below_lit HBW.out _).grown hg8 (by have := HBW.out.size; simp; omega) (fun j hj => by injection hj with hj; omega); have hx8 := box_kept (heap_alloc_new wr _) hg8 hne; have hy8 := box_kept hyr hg8 (by omega); have e0 := heap_cell hx8 0; have e1 := heap_cell hx8 1; have e2 := heap_cell hx8 2; have e3 := heap_cell hx8 3; have e4 := heap_cell hx8 4; have e5 := heap_cell hx8 5; have e6 := heap_cell hx8 6; have y0 := heap_cell hy8 0; have y1 := heap_cell hy8 1; simp at e0 e1 e2 e3 e4 e5 e6 y0 y1)
                  | (go_at_call 102; refine (Q3.out _ (HT.out.on hbw8)).mono ?_; rintro e w9 ⟨rfl, hb9⟩; have hx9 := (hb9.block _ (Array.getElem?_eq_some_iff.1 hx8).1).trans hx8; have g0 := heap_cell hx9 0; simp at g0))
                have z8 := hg8.size
                rw [World.size_alloc] at z8
                refine ⟨⟨k + 1, by go_num, ?_, by omega, fun j y hj hy => ?_, (hm8.on hb9).eq (still_next (by simp [mdNames, HD0.out])), ?_⟩, by simp [intOf]; omega⟩
                · have : lastNo m.F (k + 1) = d.no := by unfold lastNo; rw [if_neg (by omega), Nat.add_sub_cancel, HD0.out]; rfl
                  rw [this]
                · by_cases hj2 : j < k
                  · exact HQ.out j y hj2 hy
                  · obtain rfl : j = k := by omega
                    rw [HD0.out] at hy
                    obtain rfl := Option.some.inj hy
                    rw [HA.out]; rfl
                · exact ((hb.alloc (by omega) _).grown hg8 (by simp; omega) (fun j hj => by injection hj with hj; omega)).trans (hb9.mono (by omega))
      · obtain rfl : k = m.F.length := by omega
        go_wp2
        go_ret
        exact ⟨true, rfl, ⟨fun _ => HI.out.2 ⟨h30, fun j d hd => HQ.out j d (List.getElem?_eq_some_iff.1 hd).1 hd⟩, fun _ => rfl⟩, hbw⟩
  · have hd : decide ((30 : Int) < (m.F.length : Int)) = true := by rw [decide_eq_true_eq]; omega
    have HN : Hid (¬ MdMay s m) := Lib.hid (fun h => h30 (HI.out.1 h).1)
    clear h30 HEA hnx
    go_enter Tryz.func50, Tryz.ntmps50
    go_wp2
    go_ret
    exact ⟨false, rfl, ⟨fun h => (by cases h), fun h => absurd h HN.out⟩, hb0⟩
end Go.Proofs.YtciiemomfniecaaGreatDoor
/-
  May an enum be: the contract.
-/
namespace Go.Proofs.YtciiemomfniecaaGreatDoor
set_option maxRecDepth 100000

open Go.RowKit Go.Maps

set_option maxRecDepth 1000000 in
set_option maxHeartbeats 8000000 in
theorem mayEnum_any (B : Nat) (e : Ed) (vV vN : Value) (w : World) (hB : B ≤ w.heap.size) (hV : Rb B w vV e.V.length 1 (strv e.V)) (hN : Rb B w vN e.N.length 1 (intv e.N)) (hin : EdIn e) :
    Calls Tryz.prog 51 #[.agg #[.string (txt e.name), vV, vN]] w fun ee w' => ∃ b, ee = .returned (.bool b) ∧ (b = true ↔ EdMay e) ∧ Below w.heap.size w w' := by
  have HWR := Lib.hid (fun wx (hx : Below w.heap.size w wx) (hlen : e.V.length = e.N.length) (hl : e.N.length ≤ 100000) => wrong_any B vV vN e.V e.N wx (Nat.le_trans hB hx.size) (hV.low (Low.below hx hB)) (hN.low (Low.below hx hB)) hlen hl hin.V hin.N)
  obtain ⟨A1, q1, rfl, -, -⟩ := hV
  obtain ⟨A2, q2, rfl, -, -⟩ := hN
  have HI := Lib.hid (edMay_iff e)
  have HMN := Lib.hid (fun wx => mayName_any (e.V.length : Int) wx)
  have hb0 : Below w.heap.size w ((w.alloc (.cells #[.string (txt e.name), .slice A1 e.V.length q1, .slice A2 e.N.length q2] 68)).drew) := (below_new _ _).trans (Below.refl _ _).drew
  have h0 := box3c (w := (w.alloc (.cells #[.string (txt e.name), .slice A1 e.V.length q1, .slice A2 e.N.length q2] 68)).drew) (heap_alloc_new w (.cells #[.string (txt e.name), .slice A1 e.V.length q1, .slice A2 e.N.length q2] 68))
  clear hin
  by_cases ha : 1 ≤ e.V.length ∧ e.V.length ≤ 30
  · have h1 : (decide (1 ≤ (e.V.length : Int)) && decide ((e.V.length : Int) ≤ 30)) = true := by
      simp only [Bool.and_eq_true, decide_eq_true_eq]; omega
    rw [h1] at HMN
    by_cases hl : e.V.length = e.N.length
    · have HW2 := Lib.hid (HWR.out _ hb0 hl (by omega))
      have he : ((e.V.length : Int) == (e.N.length : Int)) = true := by rw [beq_iff_eq]; omega
      have HHL := Lib.hid hl
      have HHA := Lib.hid ha
      clear h1 ha hl HWR
      go_enter Tryz.func51, Tryz.ntmps51
      go_wp2_with fail
      go_region_held3 (fun w' => w'.heap[w.heap.size]? = some (.cells #[.string (txt e.name), .slice A1 e.V.length q1, .slice A2 e.N.length q2] 68 (0, 0)) ∧ w'.cell? ⟨w.heap.size, 0, none⟩ = some (.string (txt e.name)) ∧ w'.cell? ⟨w.heap.size, 1, none⟩ = some (.slice A1 e.V.length q1) ∧ w'.cell? ⟨w.heap.size, 2, none⟩ = some (.slice A2 e.N.length q2))
        (first | exact h0 | exact box3c_below hb6 ‹_› | go_keep)
        ((first
          | (go_at_call 68; refine (HMN.out _).mono ?_; rintro ee w1 ⟨rfl, rfl⟩)
          | (go_at_call 88; refine HW2.out.mono ?_; rintro ee w6 ⟨r, rfl, hr1, hr2, hr3, hb6⟩)))
      go_wp2
      go_ret
      refine ⟨_, rfl, ?_, below_then hb0 hb6⟩
      rw [HI.out]
      show ((r : Int) == (e.V.length : Int)) = true ↔ _
      rw [beq_iff_eq]
      constructor
      · intro hr
        refine ⟨HHA.out.1, HHA.out.2, HHL.out, fun k x n hx hn => hr2 k x n ?_ hx hn⟩
        have := (List.getElem?_eq_some_iff.1 hx).1
        omega
      · rintro ⟨-, -, -, h4⟩
        by_cases hlt : r < e.V.length
        · have hlt2 : r < e.N.length := by have := HHL.out; omega
          have h5 := h4 r _ _ (List.getElem?_eq_getElem hlt) (List.getElem?_eq_getElem hlt2)
          rw [hr3 _ _ (List.getElem?_eq_getElem hlt) (List.getElem?_eq_getElem hlt2)] at h5
          cases h5
        · have := HHL.out
          omega
    · have he : ((e.V.length : Int) == (e.N.length : Int)) = false := by rw [beq_eq_false_iff_ne]; omega
      have HNO : Hid (¬ EdMay e) := Lib.hid (fun h => hl (HI.out.1 h).2.2.1)
      have hl2 : ¬ ((e.V.length : Int) = (e.N.length : Int)) := by omega
      clear h1 ha HWR
      go_enter Tryz.func51, Tryz.ntmps51
      go_wp2_with fail
      go_quiet (first | (go_at_call_of 68 (Value.int IntKind.i64 (e.V.length : Int)); refine Calls.quiet_of_same ((HMN.out _).mono fun _ _ h => ⟨h.1, h.2.symm⟩)))
      go_wp2
      go_ret
      exact ⟨false, rfl, ⟨fun h => (by cases h), fun h => absurd h HNO.out⟩, below_draws (below_new _ _) _⟩
  · have h1 : (decide (1 ≤ (e.V.length : Int)) && decide ((e.V.length : Int) ≤ 30)) = false := by
      simp only [Bool.and_eq_false_iff, decide_eq_false_iff_not]; omega
    rw [h1] at HMN
    have HNO : Hid (¬ EdMay e) := Lib.hid (fun h => ha ⟨(HI.out.1 h).1, (HI.out.1 h).2.1⟩)
    clear h1 ha HWR
    go_enter Tryz.func51, Tryz.ntmps51
    go_wp2_with fail
    go_quiet (first | (go_at_call_of 68 (Value.int IntKind.i64 (e.V.length : Int)); refine Calls.quiet_of_same ((HMN.out _).mono fun _ _ h => ⟨h.1, h.2.symm⟩)))
    go_wp2
    go_ret
    exact ⟨false, rfl, ⟨fun h => (by cases h), fun h => absurd h HNO.out⟩, below_draws (below_new _ _) _⟩
end Go.Proofs.YtciiemomfniecaaGreatDoor
/-
  May a schema be: the contract.
-/
namespace Go.Proofs.YtciiemomfniecaaGreatDoor
set_option maxRecDepth 100000

open Go.RowKit Go.Maps

theorem sn_m {s : Sc} {k : Nat} {m : Md} (hm : s.M[k]? = some m) : (namesS s)[k]? = some m.name := by
  have hlt := (List.getElem?_eq_some_iff.1 hm).1
  unfold namesS
  rw [List.getElem?_append_left (by simpa using hlt), List.getElem?_map, hm]; rfl
theorem sn_e {s : Sc} {k : Nat} {e : Ed} (he : s.E[k]? = some e) : (namesS s)[s.M.length + k]? = some e.name := by
  unfold namesS
  rw [List.getElem?_append_right (by simp), List.length_map, show s.M.length + k - s.M.length = k by omega, List.getElem?_map, he]; rfl
theorem sn_len (s : Sc) : (namesS s).length = s.M.length + s.E.length := by simp [namesS]
theorem snames_in {s : Sc} (h : ScIn s) : ∀ x ∈ s.M.map (·.name) ++ s.E.map (·.name), x.length ≤ maxLen := by
  intro x hx
  rcases List.mem_append.1 hx with hx | hx
  · obtain ⟨m, hm, rfl⟩ := List.mem_map.1 hx
    exact (h.M m hm).name
  · obtain ⟨e, he, rfl⟩ := List.mem_map.1 hx
    exact (h.E e he).name
set_option maxRecDepth 1000000 in
set_option maxHeartbeats 8000000 in
theorem may_any (B : Nat) (s : Sc) (vM vE : Value) (w : World) (hB : B ≤ w.heap.size) (hs : SAt B w s vM vE) (hin : ScIn s) (T : Tabs w) :
    Calls Tryz.prog 25 #[.agg #[vM, vE]] w fun e w' => ∃ b, e = .returned (.bool b) ∧ (b = true ↔ ScMay s) ∧ Below w.heap.size w w' := by
  obtain ⟨xs, ys, h1, h2, h3, h4⟩ := hs
  have H1 := Lib.hid (fun wx (hx : Below w.heap.size w wx) (hl : s.M.length ≤ 100000) => eachMd_any B vM xs s.M hl wx (Nat.le_trans hB hx.size) (h1.low (Low.below hx hB)) (h2.low (Low.below hx hB)))
  have H2 := Lib.hid (fun wx (hx : Below w.heap.size w wx) (hl : s.E.length ≤ 100000) => eachEd_any B vE ys s.E hl wx (Nat.le_trans hB hx.size) (h3.low (Low.below hx hB)) (h4.low (Low.below hx hB)))
  have H3 := Lib.hid (fun u1 u2 wx (hT : Tabs wx) r1 r2 (hl : s.M.length + s.E.length ≤ 100000) => typeNames_any u1 u2 (s.M.map (·.name)) (s.E.map (·.name)) wx hT (by simpa using r1) (by simpa using r2) (by simpa using hl) (snames_in hin))
  have HI := Lib.hid (scMay_iff s)
  have HH := Lib.hid (fun wx => mayHold_any (s.M.length : Int) (s.E.length : Int) wx)
  obtain ⟨A1, q1, rfl, s1, b1⟩ := h1
  obtain ⟨A2, q2, rfl, s2, b2⟩ := h3
  have HM := Lib.hid s1
  have HE := Lib.hid s2
  have HMA := Lib.hid h2
  have HEA := Lib.hid h4
  have HIN := Lib.hid hin
  have HTB := Lib.hid T
  clear s1 s2 h2 h4 hin T
  have hb0 := below_new w (.cells #[.slice A1 s.M.length q1, .slice A2 s.E.length q2] 29)
  by_cases hsz : 1 ≤ s.M.length ∧ s.M.length ≤ 20 ∧ s.E.length ≤ 20
  · have hh : (decide (1 ≤ (s.M.length : Int)) && decide ((s.M.length : Int) ≤ 20) && decide ((s.E.length : Int) ≤ 20)) = true := by
      simp only [Bool.and_eq_true, decide_eq_true_eq]; omega
    rw [hh] at HH
    obtain ⟨hn0, hn1, hn2⟩ := hsz
    have h0 := box2 (w := (w.alloc (.cells #[.slice A1 s.M.length q1, .slice A2 s.E.length q2] 29)).drew) (heap_alloc_new w (.cells #[.slice A1 s.M.length q1, .slice A2 s.E.length q2] 29))
    have LBD : Below w.heap.size w ((w.alloc (.cells #[.slice A1 s.M.length q1, .slice A2 s.E.length q2] 29)).drew) := hb0.trans (Below.refl _ _).drew
    have hmm : s.M.length ≤ 100000 := by omega
    have hee : s.E.length ≤ 100000 := by omega
    have hme : s.M.length + s.E.length ≤ 100000 := by omega
    clear hb0 hh
    go_enter Tryz.func25, Tryz.ntmps25
    go_wp2_with (go_at_call 31; refine (HH.out _).mono ?_; rintro e w0 ⟨rfl, rfl⟩)
    go_region_held3 (fun w' => w'.heap[w.heap.size]? = some (.cells #[.slice A1 s.M.length q1, .slice A2 s.E.length q2] 29 (0, 0)) ∧ w'.cell? ⟨w.heap.size, 0, none⟩ = some (.slice A1 s.M.length q1) ∧ w'.cell? ⟨w.heap.size, 1, none⟩ = some (.slice A2 s.E.length q2))
      (first | exact h0 | exact box2_below hbM ‹_› | exact box2_below hbE ‹_› | exact box2_below hb4 ‹_› | go_keep)
      ((first
        | (go_at_call 45; refine (H1.out _ (by first | exact LBD | exact below_then LBD hbE) hmm).mono ?_; rintro e wM ⟨uM, rfl, hoM, hbM⟩)
        | (go_at_call 47; refine (H2.out _ (by first | exact LBD | exact below_then LBD hbM) hee).mono ?_; rintro e wE ⟨uE, rfl, hoE, hbE⟩)
        | (go_at_call 44; refine (H3.out uM uE _ (by first | exact ((HTB.out.on LBD).on hbM).on hbE | exact ((HTB.out.on LBD).on hbE).on hbM) (by first | exact Rb.of_own hoM | exact Rb.of_own (own_below hoM hbE)) (by first | exact Rb.of_own hoE | exact Rb.of_own (own_below hoE hbM)) hme).mono ?_; rintro e w4 ⟨b, rfl, hbl, hm4, hb4⟩)))
    all_goals
      have hbB : Below w.heap.size w w4 := by first | exact below_then (below_then (below_then LBD hbM) hbE) hb4 | exact below_then (below_then (below_then LBD hbE) hbM) hb4
      have hx4 : w4.heap[w.heap.size]? = some (.cells #[.slice A1 s.M.length q1, .slice A2 s.E.length q2] 29 (0, 0)) := by first | exact (box2_below hb4 (box2_below hbE (box2_below hbM h0))).1 | exact (box2_below hb4 (box2_below hbM (box2_below hbE h0))).1
      have hbs : w.heap.size + 1 ≤ b := by
        have h1 := hbM.size
        have h2 := hbE.size
        simp at h1 h2
        omega
      have e0 := heap_cell hx4 0
      have e1 := heap_cell hx4 1
      simp at e0 e1
      simp only [List.length_map] at hm4
      replace hm4 : FreeS w4 b (s.M.length + s.E.length) (stillT (namesS s) 0) := hm4
      have HX4 := Lib.hid hx4
      have HBB := Lib.hid hbB
      clear hx4 hb4 hbM hbE hoM hoE hbl h0 LBD hbB H1 H2 H3
      go_wp2
      go_loopw [26] (fun i wr => ∃ k : Nat, i = .int .i64 k ∧ k ≤ s.M.length ∧ (∀ j m, j < k → s.M[j]? = some m → stillT (namesS s) j m.name = true ∧ MdMay s m) ∧ FreeS wr b (s.M.length + s.E.length) (stillT (namesS s) k) ∧ Below (w.heap.size + 1) w4 wr) (fun i _ => s.M.length - (intOf i).toNat)
      case atStart => exact ⟨0, rfl, by omega, fun j m hj => by omega, hm4, Below.refl _ _⟩
      case round =>
        obtain ⟨k, rfl, hk, herr, hm, hb⟩ := hrel
        have hbw := HBB.out.trans (hb.mono (Nat.le_succ _))
        have hxr := (hb.block w.heap.size (by omega)).trans HX4.out
        have HBW := Lib.hid hbw
        have HER := Lib.hid herr
        clear herr
        by_cases hlt : k < s.M.length
        · obtain ⟨m, hm0⟩ : ∃ m, s.M[k]? = some m := ⟨_, List.getElem?_eq_getElem hlt⟩
          obtain ⟨ad, vF, rfl, hg, hmr, c0, c1⟩ := mdr_at (HM.out.low b1 (Low.below hbw hB)) (HMA.out.low (Low.below hbw hB)) hm0
          obtain ⟨AF, cF, hvF, -, -⟩ := id hmr
          subst hvF
          have hx := sn_m hm0
          have hmi := HIN.out.M m (List.mem_of_getElem? hm0)
          have HNX := Lib.hid (stillT_next hx)
          obtain ⟨d, hd⟩ : ∃ d, stillT (namesS s) k m.name = d := ⟨_, rfl⟩
          have HT := fun wx hx => takeS_any b (s.M.length + s.E.length) (stillT (namesS s) k) m.name hmi.name wx hx
          simp only [hd] at HT
          have HTT := Lib.hid HT
          have HMM := Lib.hid (fun wx (hx : Below w.heap.size w wx) (hr : Rb B wx (.slice AF m.F.length cF) m.F.length 7 (dfv m.F)) => mayMessage_any B (some ad) A2 q1 q2 s m (.slice AF m.F.length cF) wx (Nat.le_trans hB hx.size) hr hmi (HTB.out.on hx))
          have HRB := Lib.hid hmr
          have hne : wr.heap.size ≠ b := by have := hm.lt; omega
          have HD := Lib.hid hd
          have HM0 := Lib.hid hm0
          have HXN := Lib.hid hx
          have hyr := ((below_new wr (.cells #[.string (txt m.name), .slice AF m.F.length cF] 56)).block _ (Array.getElem?_eq_some_iff.1 hxr).1).trans hxr
          clear hm0 hmr hx hd HT hmi hbw hxr
          cases d with
          | false =>
            have HNO : Hid (¬ ScMay s) := Lib.hid (fun h => by have := (HI.out.1 h).2.2.2.1 k m.name HXN.out; rw [HD.out] at this; cases this)
            go_wp2_with (go_at_call 49; refine (HTT.out _ (hm.alloc _)).mono ?_; rintro e w5 ⟨rfl, hm5, hg5⟩)
            go_ret
            exact ⟨false, rfl, ⟨fun h => (by cases h), fun h => absurd h HNO.out⟩, (below_lit HBW.out _).grown hg5 (by have := HBW.out.size; simp; omega) (fun j hj => by injection hj with hj; omega)⟩
          | true =>
            go_wp2_with fail
            refine (HTT.out _ (hm.alloc _)).mono ?_
            rintro e w5 ⟨rfl, hm5, hg5⟩
            have hbw5 := (below_lit HBW.out (.cells #[.string (txt m.name), .slice AF m.F.length cF] 56)).grown hg5 (by have := HBW.out.size; simp; omega) (fun j hj => by injection hj with hj; omega)
            have hx5 := box_kept (heap_alloc_new wr _) hg5 hne
            have hy5 := box_kept hyr hg5 (by omega)
            have d0 := heap_cell hx5 0
            have d1 := heap_cell hx5 1
            have y0 := heap_cell hy5 0
            have y1 := heap_cell hy5 1
            simp at d0 d1 y0 y1
            go_wp2_with fail
            refine (HMM.out _ hbw5 (HRB.out.low ((Low.alloc wr _ (Nat.le_trans hB HBW.out.size)).trans ⟨hg5.size, fun j hj => hg5.block j (by have := HBW.out.size; simp; omega) (fun e => by injection e with e; omega)⟩))).mono ?_
            rintro e w6 ⟨bb, rfl, hbb, hb6⟩
            cases bb with
            | false =>
              have HNO : Hid (¬ ScMay s) := Lib.hid (fun h => by have := hbb.2 ((HI.out.1 h).2.2.2.2.1 m (List.mem_of_getElem? HM0.out)); cases this)
              go_wp2
              go_ret
              exact ⟨false, rfl, ⟨fun h => (by cases h), fun h => absurd h HNO.out⟩, below_then hbw5 hb6⟩
            | true =>
              have HMB := Lib.hid (hbb.1 rfl)
              have z5 := hg5.size
              rw [World.size_alloc] at z5
              have hlm := hm.lt
              go_wp2
              refine ⟨⟨k + 1, by go_num, by omega, fun j y hj hy => ?_, (hm5.on hb6).eq HNX.out, ((hb.alloc (by omega) _).grown hg5 (by simp; omega) (fun j hj => by injection hj with hj; omega)).trans (hb6.mono (by omega))⟩, by simp [intOf]; omega⟩
              by_cases hj2 : j < k
              · exact HER.out j y hj2 hy
              · obtain rfl : j = k := by omega
                rw [HM0.out] at hy
                obtain rfl := Option.some.inj hy
                exact ⟨HD.out, HMB.out⟩
        · obtain rfl : k = s.M.length := by omega
          have e6 := heap_cell hxr 1
          simp at e6
          clear hxr
          go_wp2
          go_loopw [45] (fun i wr => ∃ k : Nat, i = .int .i64 k ∧ k ≤ s.E.length ∧ (∀ j m, j < k → s.E[j]? = some m → stillT (namesS s) (s.M.length + j) m.name = true ∧ EdMay m) ∧ FreeS wr b (s.M.length + s.E.length) (stillT (namesS s) (s.M.length + k)) ∧ Below (w.heap.size + 1) w4 wr) (fun i _ => s.E.length - (intOf i).toNat)
          case atStart => exact ⟨0, rfl, by omega, fun j m hj => by omega, hm, hb⟩
          case round =>
            obtain ⟨k, rfl, hk, herr, hm, hb⟩ := hrel
            have hbw := HBB.out.trans (hb.mono (Nat.le_succ _))
            have HBW := Lib.hid hbw
            have HQ := Lib.hid herr
            clear herr
            by_cases hlt : k < s.E.length
            · obtain ⟨m, hm0⟩ : ∃ m, s.E[k]? = some m := ⟨_, List.getElem?_eq_getElem hlt⟩
              obtain ⟨ad, vV, vN, rfl, hg, hmr, hms, c0, c1, c2⟩ := edr_at (HE.out.low b2 (Low.below hbw hB)) (HEA.out.low (Low.below hbw hB)) hm0
              obtain ⟨AV, cV, hvV, -, -⟩ := id hmr
              obtain ⟨AN, cN, hvN, -, -⟩ := id hms
              subst hvV hvN
              have hx := sn_e hm0
              have hmi := HIN.out.E m (List.mem_of_getElem? hm0)
              have HNX := Lib.hid (stillT_next hx)
              obtain ⟨d, hd⟩ : ∃ d, stillT (namesS s) (s.M.length + k) m.name = d := ⟨_, rfl⟩
              have HT := fun wx hx => takeS_any b (s.M.length + s.E.length) (stillT (namesS s) (s.M.length + k)) m.name hmi.name wx hx
              simp only [hd] at HT
              have HTT := Lib.hid HT
              have HMM := Lib.hid (fun wx (hx : Below w.heap.size w wx) (hr : Rb B wx (.slice AV m.V.length cV) m.V.length 1 (strv m.V)) (hr2 : Rb B wx (.slice AN m.N.length cN) m.N.length 1 (intv m.N)) => mayEnum_any B m (.slice AV m.V.length cV) (.slice AN m.N.length cN) wx (Nat.le_trans hB hx.size) hr hr2 hmi)
              have HRB := Lib.hid hmr
              have HRC := Lib.hid hms
              have hne := Nat.ne_of_gt hm.lt
              have HD := Lib.hid hd
              have HM0 := Lib.hid hm0
              have HXN := Lib.hid hx
              have hlow := Low.alloc _ (.cells #[.string (txt m.name), .slice AV m.V.length cV, .slice AN m.N.length cN] 68) (Nat.le_trans hB HBW.out.size)
              clear hm0 hmr hms hx hd HT hmi hbw
              cases d with
              | false =>
                have HNO : Hid (¬ ScMay s) := Lib.hid (fun h => by have := (HI.out.1 h).2.2.2.1 (s.M.length + k) m.name HXN.out; rw [HD.out] at this; cases this)
                go_wp2_with (go_at_call 49; refine (HTT.out _ (hm.alloc _)).mono ?_; rintro e w5 ⟨rfl, hm5, hg5⟩)
                go_ret
                exact ⟨false, rfl, ⟨fun h => (by cases h), fun h => absurd h HNO.out⟩, (below_lit HBW.out _).grown hg5 (by have := HBW.out.size; simp; omega) (fun j hj => by injection hj with hj; omega)⟩
              | true =>
                go_wp2_with fail
                refine (HTT.out _ (hm.alloc _)).mono ?_
                rintro e w5 ⟨rfl, hm5, hg5⟩
                have hbw5 := (below_lit HBW.out (.cells #[.string (txt m.name), .slice AV m.V.length cV, .slice AN m.N.length cN] 68)).grown hg5 (by have := HBW.out.size; simp; omega) (fun j hj => by injection hj with hj; omega)
                have hx5 := box_kept (heap_alloc_new _ _) hg5 hne
                have d0 := heap_cell hx5 0
                have d1 := heap_cell hx5 1
                have d2 := heap_cell hx5 2
                simp at d0 d1 d2
                have hlow5 := hlow.trans ⟨hg5.size, fun j hj => hg5.block j (by have := HBW.out.size; simp; omega) (fun e => by injection e with e; omega)⟩
                go_wp2_with fail
                refine (HMM.out _ hbw5 (HRB.out.low hlow5) (HRC.out.low hlow5)).mono ?_
                rintro e w6 ⟨bb, rfl, hbb, hb6⟩
                cases bb with
                | false =>
                  have HNO : Hid (¬ ScMay s) := Lib.hid (fun h => by have := hbb.2 ((HI.out.1 h).2.2.2.2.2 m (List.mem_of_getElem? HM0.out)); cases this)
                  go_wp2
                  go_ret
                  exact ⟨false, rfl, ⟨fun h => (by cases h), fun h => absurd h HNO.out⟩, below_then hbw5 hb6⟩
                | true =>
                  have HMB := Lib.hid (hbb.1 rfl)
                  have z5 := hg5.size
                  rw [World.size_alloc] at z5
                  have hlm := hm.lt
                  go_wp2
                  refine ⟨⟨k + 1, by go_num, by omega, fun j y hj hy => ?_, (hm5.on hb6).eq HNX.out, ((hb.alloc (by omega) _).grown hg5 (by simp; omega) (fun j hj => by injection hj with hj; omega)).trans (hb6.mono (by omega))⟩, by simp [intOf]; omega⟩
                  by_cases hj2 : j < k
                  · exact HQ.out j y hj2 hy
                  · obtain rfl : j = k := by omega
                    rw [HM0.out] at hy
                    obtain rfl := Option.some.inj hy
                    exact ⟨HD.out, HMB.out⟩
            · obtain rfl : k = s.E.length := by omega
              go_wp2
              go_ret
              refine ⟨true, rfl, ⟨fun _ => HI.out.2 ⟨hn0, hn1, hn2, ?_, ?_, ?_⟩, fun _ => rfl⟩, HBW.out⟩
              · intro j x hx
                have hjl := (List.getElem?_eq_some_iff.1 hx).1
                rw [sn_len] at hjl
                by_cases hj : j < s.M.length
                · obtain ⟨m, hm0⟩ : ∃ m, s.M[j]? = some m := ⟨_, List.getElem?_eq_getElem hj⟩
                  have h1 := sn_m hm0
                  rw [hx] at h1
                  obtain rfl := Option.some.inj h1
                  exact (HER.out j m hj hm0).1
                · obtain ⟨m, hm0⟩ : ∃ m, s.E[j - s.M.length]? = some m := ⟨_, List.getElem?_eq_getElem (by omega)⟩
                  have h1 := sn_e hm0
                  rw [show s.M.length + (j - s.M.length) = j by omega, hx] at h1
                  obtain rfl := Option.some.inj h1
                  have h2 := (HQ.out (j - s.M.length) m (by omega) hm0).1
                  rw [show s.M.length + (j - s.M.length) = j by omega] at h2
                  exact h2
              · intro m hm0
                obtain ⟨j, hj⟩ := List.mem_iff_getElem?.1 hm0
                exact (HER.out j m (List.getElem?_eq_some_iff.1 hj).1 hj).2
              · intro m hm0
                obtain ⟨j, hj⟩ := List.mem_iff_getElem?.1 hm0
                exact (HQ.out j m (List.getElem?_eq_some_iff.1 hj).1 hj).2
  · have hh : (decide (1 ≤ (s.M.length : Int)) && decide ((s.M.length : Int) ≤ 20) && decide ((s.E.length : Int) ≤ 20)) = false := by
      simp only [Bool.and_eq_false_iff, decide_eq_false_iff_not]; omega
    rw [hh] at HH
    have HNO : Hid (¬ ScMay s) := Lib.hid (fun h => hsz ⟨(HI.out.1 h).1, (HI.out.1 h).2.1, (HI.out.1 h).2.2.1⟩)
    clear hsz hh H1 H2 H3
    go_enter Tryz.func25, Tryz.ntmps25
    go_wp2_with (go_at_call 31; refine (HH.out _).mono ?_; rintro e w0 ⟨rfl, rfl⟩)
    go_ret
    exact ⟨false, rfl, ⟨fun h => (by cases h), fun h => absurd h HNO.out⟩, hb0⟩
end Go.Proofs.YtciiemomfniecaaGreatDoor
/-
  A field that is found by its name, or number; a message by its name: the contracts.
-/
namespace Go.Proofs.YtciiemomfniecaaGreatDoor
set_option maxRecDepth 100000

open Go.RowKit Go.Maps

/-- What a search tells: the element, or a zero one. -/
def foundV (o : Option Df) : Value := .tuple #[.agg (DC (o.getD df0)).toArray, .bool o.isSome]
theorem find_first {l : List Df} {p : Df → Bool} {k : Nat} {d : Df} (h : ∀ j y, j < k → l[j]? = some y → p y = false) (hd : l[k]? = some d) (hp : p d = true) : l.find? p = some d := by
  rw [List.find?_eq_some_iff_getElem]
  obtain ⟨hk, rfl⟩ := List.getElem?_eq_some_iff.1 hd
  exact ⟨hp, k, hk, rfl, fun j hj => by rw [h j _ hj (List.getElem?_eq_getElem (by omega))]; rfl⟩
theorem find_none {l : List Df} {p : Df → Bool} (h : ∀ j y, j < l.length → l[j]? = some y → p y = false) : l.find? p = none := by
  rw [List.find?_eq_none]
  intro y hy
  obtain ⟨j, hj⟩ := List.mem_iff_getElem?.1 hy
  rw [h j y (List.getElem?_eq_some_iff.1 hj).1 hj]
  simp
theorem clo_name (d : Df) (x : List UInt8) (P : Nat) (W : World) (hc : W.heap[P]? = some (.cells #[.string (txt x)] 9 (0, 0))) :
    Calls Tryz.prog 42 #[.agg #[.int .i64 d.no, .string (txt d.name), .int .i64 d.kind, .int .i64 d.ref, .bool d.rep, .int .i64 d.key, .int .i64 d.one], .pointer (some ⟨P, 0, none⟩)] W fun e w' => e = .returned (.bool (d.name == x)) ∧ Below W.heap.size W w' := by
  have c0 := heap_cell hc 0
  simp at c0
  have hlt := (Array.getElem?_eq_some_iff.1 hc).1
  have H : Hid ((d.name == x) = ((txt d.name).toList == (txt x).toList)) := Lib.hid (by rw [Lib.toList_data, Lib.toList_data, txt_list, txt_list])
  clear hc
  go_enter Tryz.func42, Tryz.ntmps42
  go_wp2
  go_ret
  exact ⟨by rw [H.out]; rfl, below_new _ _⟩
theorem clo_no (d : Df) (x : Int) (P : Nat) (W : World) (hc : W.heap[P]? = some (.cells #[.int .i64 x] 3 (0, 0))) :
    Calls Tryz.prog 43 #[.agg #[.int .i64 d.no, .string (txt d.name), .int .i64 d.kind, .int .i64 d.ref, .bool d.rep, .int .i64 d.key, .int .i64 d.one], .pointer (some ⟨P, 0, none⟩)] W fun e w' => e = .returned (.bool (d.no == x)) ∧ Below W.heap.size W w' := by
  have c0 := heap_cell hc 0
  simp at c0
  have hlt := (Array.getElem?_eq_some_iff.1 hc).1
  clear hc
  go_enter Tryz.func43, Tryz.ntmps43
  go_wp2
  go_ret
  exact ⟨rfl, below_new _ _⟩
set_option maxRecDepth 1000000 in
set_option maxHeartbeats 4000000 in
theorem indexN_any (P : Nat) (x : List UInt8) (A : Option Addr) (c : Nat) (l : List Df) (w : World) (hs : Sl w A l.length c 7 (dfv l)) (hc : w.heap[P]? = some (.cells #[.string (txt x)] 9 (0, 0))) :
    Calls Tryz.prog 99 #[.slice A l.length c, .func (.func 42) #[] #[.pointer (some ⟨P, 0, none⟩)]] w fun e w' => ∃ r : Int, e = .returned (.int .i64 r) ∧ ((r = -1 ∧ l.find? (fun d => d.name == x) = none) ∨ ∃ (k : Nat) (d : Df), r = k ∧ l[k]? = some d ∧ l.find? (fun d => d.name == x) = some d) ∧ Below w.heap.size w w' := by
  have hsm : l.length ≤ 9223372036854775807 := by have h1 := hs.le; have h2 := hs.cap; unfold maxLen at h2; omega
  have HS := Lib.hid hs
  have HC := Lib.hid hc
  clear hs hc
  go_enter Tryz.func99, Tryz.ntmps99
  go_wp2
  go_loopw [8] (fun i wr => ∃ k : Nat, i = .int .i64 k ∧ k ≤ l.length ∧ (∀ j y, j < k → l[j]? = some y → (y.name == x) = false) ∧ Below w.heap.size w wr) (fun i _ => l.length - (intOf i).toNat)
  case atStart => exact ⟨0, rfl, by omega, fun j y hj => by omega, Below.refl _ _⟩
  case round =>
    obtain ⟨k, rfl, hk, herr, hb⟩ := hrel
    have HQ := Lib.hid herr
    clear herr
    by_cases hlt : k < l.length
    · obtain ⟨d, hd0⟩ : ∃ d, l[k]? = some d := ⟨_, List.getElem?_eq_getElem hlt⟩
      obtain ⟨ad, rfl, hg, c0, c1, c2, c3, c4, c5, c6⟩ := dfr_at (HS.out.on hb) hd0
      have HCL := clo_name d x P wr ((hb.block P (Array.getElem?_eq_some_iff.1 HC.out).1).trans HC.out)
      have HD0 := Lib.hid hd0
      clear hd0
      obtain ⟨v, hv⟩ : ∃ v, (d.name == x) = v := ⟨_, rfl⟩
      rw [hv] at HCL
      have HV := Lib.hid hv
      have HCL2 := Lib.hid HCL
      clear hv HCL
      cases v with
      | true =>
        go_wp2_with (go_at_call 42; refine HCL2.out.mono ?_; rintro e w1 ⟨rfl, hb1⟩)
        go_ret
        exact ⟨k, rfl, .inr ⟨k, d, rfl, HD0.out, find_first HQ.out HD0.out HV.out⟩, hb.trans (hb1.mono hb.size)⟩
      | false =>
        go_wp2_with (go_at_call 42; refine HCL2.out.mono ?_; rintro e w1 ⟨rfl, hb1⟩)
        refine ⟨⟨k + 1, by go_num, by omega, fun j y hj hy => ?_, hb.trans (hb1.mono hb.size)⟩, by simp [intOf]; omega⟩
        by_cases hj2 : j < k
        · exact HQ.out j y hj2 hy
        · obtain rfl : j = k := by omega
          rw [HD0.out] at hy
          obtain rfl := Option.some.inj hy
          exact HV.out
    · obtain rfl : k = l.length := by omega
      go_wp2
      go_ret
      exact ⟨-1, rfl, .inl ⟨rfl, find_none HQ.out⟩, hb⟩
set_option maxRecDepth 1000000 in
set_option maxHeartbeats 4000000 in
theorem firstN_any (B : Nat) (s : Sc) (vM vE : Value) (m : Int) (P : Nat) (x : List UInt8) (w : World) (hB : B ≤ w.heap.size) (hs : SAt B w s vM vE) (hc : w.heap[P]? = some (.cells #[.string (txt x)] 9 (0, 0))) :
    Calls Tryz.prog 41 #[.agg #[vM, vE], .int .i64 m, .func (.func 42) #[] #[.pointer (some ⟨P, 0, none⟩)]] w fun e w' => e = .returned (foundV (findS s m x)) ∧ Below w.heap.size w w' := by
  obtain ⟨xs, ys, ⟨A1, q1, rfl, s1, b1⟩, h2, ⟨A2, q2, rfl, s2, b2⟩, h4⟩ := hs
  have hb0 : Below w.heap.size w ((w.alloc (.cells #[.slice A1 s.M.length q1, .slice A2 s.E.length q2] 29)).alloc (.cells #[.int .i64 0, .string ⟨#[]⟩, .int .i64 0, .int .i64 0, .bool false, .int .i64 0, .int .i64 0] 39)) := below_lit (below_new _ _) _
  have hx0 : ((w.alloc (.cells #[.slice A1 s.M.length q1, .slice A2 s.E.length q2] 29)).alloc (.cells #[.int .i64 0, .string ⟨#[]⟩, .int .i64 0, .int .i64 0, .bool false, .int .i64 0, .int .i64 0] 39)).heap[w.heap.size]? = some (.cells #[.slice A1 s.M.length q1, .slice A2 s.E.length q2] 29 (0, 0)) := ((below_new _ _).block _ (by simp)).trans (heap_alloc_new w _)
  have hr0 := heap_second w (.cells #[.slice A1 s.M.length q1, .slice A2 s.E.length q2] 29) (.cells #[.int .i64 0, .string ⟨#[]⟩, .int .i64 0, .int .i64 0, .bool false, .int .i64 0, .int .i64 0] 39)
  have hs0 : ((w.alloc (.cells #[.slice A1 s.M.length q1, .slice A2 s.E.length q2] 29)).alloc (.cells #[.int .i64 0, .string ⟨#[]⟩, .int .i64 0, .int .i64 0, .bool false, .int .i64 0, .int .i64 0] 39)).heap.size = w.heap.size + 2 := by simp
  have hsm : s.M.length ≤ 9223372036854775807 := by have h1 := s1.le; have h2 := s1.cap; unfold maxLen at h2; omega
  have HM := Lib.hid s1
  have HMA := Lib.hid h2
  have HC := Lib.hid ((hb0.block P (Array.getElem?_eq_some_iff.1 hc).1).trans hc)
  clear s1 h2 s2 h4 hc
  by_cases hm : 0 ≤ m ∧ m < s.M.length
  · obtain ⟨k, rfl⟩ : ∃ k : Nat, m = k := ⟨m.toNat, by omega⟩
    have hlt : k < s.M.length := by omega
    obtain ⟨d, hd0⟩ : ∃ d, s.M[k]? = some d := ⟨_, List.getElem?_eq_getElem hlt⟩
    have hn : findS s (k : Int) x = d.F.find? (fun y => y.name == x) := by
      have e : msgAt s (k : Int) = some d := by unfold msgAt; rw [if_neg (by omega), Int.toNat_natCast, hd0]
      unfold findS
      rw [e]
      rfl
    obtain ⟨ad, vF, rfl, hg, hmr, c0, c1⟩ := mdr_at (HM.out.low b1 (Low.below hb0 hB)) (HMA.out.low (Low.below hb0 hB)) hd0
    have HR := Lib.hid hmr
    obtain ⟨AF, cF, hvF, sF, aF⟩ := id hmr
    subst hvF
    have HIX := Lib.hid (indexN_any P x AF cF d.F _ sF HC.out)
    have HN := Lib.hid hn
    have HSF := Lib.hid sF
    have HD0 := Lib.hid hd0
    clear hm hn hmr sF hd0
    have h1 : decide ((k : Int) < 0) = false := by rw [decide_eq_false_iff_not]; omega
    have h2 : decide ((s.M.length : Int) ≤ (k : Int)) = false := by rw [decide_eq_false_iff_not]; omega
    have h3 : decide ((k : Int) ≥ (s.M.length : Int)) = false := by rw [decide_eq_false_iff_not]; omega
    go_enter Tryz.func41, Tryz.ntmps41
    go_wp2_with fail
    refine HIX.out.mono ?_
    rintro e w1 ⟨r, rfl, hr, hb1⟩
    have hx1 := (hb1.block _ (by rw [hs0]; omega)).trans hx0
    have hr1 := (hb1.block _ (by rw [hs0]; omega)).trans hr0
    have hbw1 := below_then hb0 hb1
    rcases hr with ⟨rfl, hf⟩ | ⟨i, y, rfl, hy, hf⟩
    · have HF := Lib.hid (HN.out.trans hf)
      clear hf
      go_wp2_with (refine wpList_store_df rfl _ _ rfl rfl (w.heap.size + 1) _ _ _ _ _ _ _ _ _ _ _ _ _ _ rfl rfl _ hr1 ?_)
      refine bodyPost_ret (results_df1 rfl _ _ (w.heap.size + 1) _ _ _ _ _ _ _ _ (0, 0) rfl (setRow_heap _ _ _ _ _ _ hr1)) rfl ?_
      exact ⟨by rw [HF.out]; rfl, below_setRow hbw1 (by omega) _⟩
    · have HF := Lib.hid (HN.out.trans hf)
      obtain ⟨ad2, vF2, had, hg2, hmr2, g0, g1⟩ := mdr_at (HM.out.low b1 (Low.below hbw1 hB)) (HMA.out.low (Low.below hbw1 hB)) HD0.out
      obtain rfl := Option.some.inj had
      have hcc := (hb1.cell (p := ⟨(ad.add (k * 2)).block, (ad.add (k * 2)).off + 1, none⟩) (by show (ad.add (k * 2)).block < _; rw [add_same_block]; exact hg)).trans c1
      obtain ⟨ad3, had3, hg3, k0, k1, k2, k3, k4, k5, k6⟩ := dfr_at (HSF.out.on hb1) hy
      subst had3
      have y0 := heap_cell hx1 0
      simp at y0
      have hi1 : decide ((i : Int) < 0) = false := by rw [decide_eq_false_iff_not]; omega
      have hil := (List.getElem?_eq_some_iff.1 hy).1
      clear hf hy g0 g1 hmr2
      go_wp2_with (refine wpList_store_df rfl _ _ rfl rfl (w.heap.size + 1) _ _ _ _ _ _ _ _ _ _ _ _ _ _ rfl rfl _ hr1 ?_)
      refine bodyPost_ret (results_df1 rfl _ _ (w.heap.size + 1) _ _ _ _ _ _ _ _ (0, 0) rfl (setRow_heap _ _ _ _ _ _ hr1)) rfl ?_
      exact ⟨by rw [HF.out]; rfl, below_setRow hbw1 (by omega) _⟩
  · have HN : Hid (findS s m x = none) := Lib.hid (by
      have e : msgAt s m = none := by
        unfold msgAt
        split
        · rfl
        · exact List.getElem?_eq_none (by omega)
      unfold findS
      rw [e]
      rfl)
    obtain ⟨v1, hv1⟩ : ∃ v, decide (m < 0) = v := ⟨_, rfl⟩
    obtain ⟨v2, hv2⟩ : ∃ v, decide ((s.M.length : Int) ≤ m) = v := ⟨_, rfl⟩
    have HV : Hid ((v1 || v2) = true) := Lib.hid (by rw [← hv1, ← hv2]; simp only [Bool.or_eq_true, decide_eq_true_eq]; omega)
    have hv3 : decide (m ≥ (s.M.length : Int)) = v2 := hv2
    clear hm
    cases v1 <;> cases v2
    · exact absurd HV.out (by simp)
    all_goals
      go_enter Tryz.func41, Tryz.ntmps41
      go_wp2_with (refine wpList_store_df rfl _ _ rfl rfl (w.heap.size + 1) _ _ _ _ _ _ _ _ _ _ _ _ _ _ rfl rfl _ hr0 ?_)
      refine bodyPost_ret (results_df1 rfl _ _ (w.heap.size + 1) _ _ _ _ _ _ _ _ (0, 0) rfl (setRow_heap _ _ _ _ _ _ hr0)) rfl ?_
      exact ⟨by rw [HN.out]; rfl, below_setRow hb0 (by omega) _⟩
set_option maxRecDepth 1000000 in
set_option maxHeartbeats 4000000 in
theorem Find_any (B : Nat) (s : Sc) (vM vE : Value) (m : Int) (x : List UInt8) (w : World) (hB : B ≤ w.heap.size) (hs : SAt B w s vM vE) :
    Calls Tryz.prog 17 #[.agg #[vM, vE], .int .i64 m, .string (txt x)] w fun e w' => e = .returned (foundV (findS s m x)) ∧ Below w.heap.size w w' := by
  obtain ⟨xs, ys, ⟨A1, q1, hv1, s1, b1⟩, h2, ⟨A2, q2, hv2, s2, b2⟩, h4⟩ := id hs
  subst hv1 hv2
  clear s1 h2 s2 h4
  have hb0 : Below w.heap.size w (((w.alloc (.cells #[.slice A1 s.M.length q1, .slice A2 s.E.length q2] 29)).alloc (.cells #[.string (txt x)] 9)).alloc (.cells #[.int .i64 0, .string ⟨#[]⟩, .int .i64 0, .int .i64 0, .bool false, .int .i64 0, .int .i64 0] 39)) := below_lit (below_lit (below_new _ _) _) _
  have hc0 : (((w.alloc (.cells #[.slice A1 s.M.length q1, .slice A2 s.E.length q2] 29)).alloc (.cells #[.string (txt x)] 9)).alloc (.cells #[.int .i64 0, .string ⟨#[]⟩, .int .i64 0, .int .i64 0, .bool false, .int .i64 0, .int .i64 0] 39)).heap[w.heap.size + 1]? = some (.cells #[.string (txt x)] 9 (0, 0)) := ((below_new _ _).block _ (by simp)).trans (heap_second w _ _)
  have hr0 : (((w.alloc (.cells #[.slice A1 s.M.length q1, .slice A2 s.E.length q2] 29)).alloc (.cells #[.string (txt x)] 9)).alloc (.cells #[.int .i64 0, .string ⟨#[]⟩, .int .i64 0, .int .i64 0, .bool false, .int .i64 0, .int .i64 0] 39)).heap[w.heap.size + 1 + 1]? = some (.cells #[.int .i64 0, .string ⟨#[]⟩, .int .i64 0, .int .i64 0, .bool false, .int .i64 0, .int .i64 0] 39 (0, 0)) := by
    have := heap_second (w.alloc (.cells #[.slice A1 s.M.length q1, .slice A2 s.E.length q2] 29)) (.cells #[.string (txt x)] 9) (.cells #[.int .i64 0, .string ⟨#[]⟩, .int .i64 0, .int .i64 0, .bool false, .int .i64 0, .int .i64 0] 39)
    rw [World.size_alloc] at this
    exact this
  have HF := Lib.hid (firstN_any B s (.slice A1 s.M.length q1) (.slice A2 s.E.length q2) m (w.heap.size + 1) x _ (Nat.le_trans hB hb0.size) (hs.low (Low.below hb0 hB)) hc0)
  clear hs hc0
  go_enter Tryz.func17, Tryz.ntmps17
  go_wp2_with fail
  refine HF.out.mono ?_
  rintro e w1 ⟨rfl, hb1⟩
  have hr1 := (hb1.block _ (by simp)).trans hr0
  unfold foundV
  simp only [DC]
  go_wp2_with (refine wpList_store_df rfl _ _ rfl rfl (w.heap.size + 1 + 1) _ _ _ _ _ _ _ _ _ _ _ _ _ _ rfl rfl _ hr1 ?_)
  refine bodyPost_ret (results_df1 rfl _ _ (w.heap.size + 1 + 1) _ _ _ _ _ _ _ _ (0, 0) rfl (setRow_heap _ _ _ _ _ _ hr1)) rfl ?_
  exact ⟨rfl, below_setRow (below_then hb0 hb1) (by omega) _⟩
set_option maxRecDepth 1000000 in
set_option maxHeartbeats 4000000 in
theorem indexI_any (P : Nat) (x : Int) (A : Option Addr) (c : Nat) (l : List Df) (w : World) (hs : Sl w A l.length c 7 (dfv l)) (hc : w.heap[P]? = some (.cells #[.int .i64 x] 3 (0, 0))) :
    Calls Tryz.prog 99 #[.slice A l.length c, .func (.func 43) #[] #[.pointer (some ⟨P, 0, none⟩)]] w fun e w' => ∃ r : Int, e = .returned (.int .i64 r) ∧ ((r = -1 ∧ l.find? (fun d => d.no == x) = none) ∨ ∃ (k : Nat) (d : Df), r = k ∧ l[k]? = some d ∧ l.find? (fun d => d.no == x) = some d) ∧ Below w.heap.size w w' := by
  have hsm : l.length ≤ 9223372036854775807 := by have h1 := hs.le; have h2 := hs.cap; unfold maxLen at h2; omega
  have HS := Lib.hid hs
  have HC := Lib.hid hc
  clear hs hc
  go_enter Tryz.func99, Tryz.ntmps99
  go_wp2
  go_loopw [8] (fun i wr => ∃ k : Nat, i = .int .i64 k ∧ k ≤ l.length ∧ (∀ j y, j < k → l[j]? = some y → (y.no == x) = false) ∧ Below w.heap.size w wr) (fun i _ => l.length - (intOf i).toNat)
  case atStart => exact ⟨0, rfl, by omega, fun j y hj => by omega, Below.refl _ _⟩
  case round =>
    obtain ⟨k, rfl, hk, herr, hb⟩ := hrel
    have HQ := Lib.hid herr
    clear herr
    by_cases hlt : k < l.length
    · obtain ⟨d, hd0⟩ : ∃ d, l[k]? = some d := ⟨_, List.getElem?_eq_getElem hlt⟩
      obtain ⟨ad, rfl, hg, c0, c1, c2, c3, c4, c5, c6⟩ := dfr_at (HS.out.on hb) hd0
      have HCL := clo_no d x P wr ((hb.block P (Array.getElem?_eq_some_iff.1 HC.out).1).trans HC.out)
      have HD0 := Lib.hid hd0
      clear hd0
      obtain ⟨v, hv⟩ : ∃ v, (d.no == x) = v := ⟨_, rfl⟩
      rw [hv] at HCL
      have HV := Lib.hid hv
      have HCL2 := Lib.hid HCL
      clear hv HCL
      cases v with
      | true =>
        go_wp2_with (go_at_call 43; refine HCL2.out.mono ?_; rintro e w1 ⟨rfl, hb1⟩)
        go_ret
        exact ⟨k, rfl, .inr ⟨k, d, rfl, HD0.out, find_first HQ.out HD0.out HV.out⟩, hb.trans (hb1.mono hb.size)⟩
      | false =>
        go_wp2_with (go_at_call 43; refine HCL2.out.mono ?_; rintro e w1 ⟨rfl, hb1⟩)
        refine ⟨⟨k + 1, by go_num, by omega, fun j y hj hy => ?_, hb.trans (hb1.mono hb.size)⟩, by simp [intOf]; omega⟩
        by_cases hj2 : j < k
        · exact HQ.out j y hj2 hy
        · obtain rfl : j = k := by omega
          rw [HD0.out] at hy
          obtain rfl := Option.some.inj hy
          exact HV.out
    · obtain rfl : k = l.length := by omega
      go_wp2
      go_ret
      exact ⟨-1, rfl, .inl ⟨rfl, find_none HQ.out⟩, hb⟩
set_option maxRecDepth 1000000 in
set_option maxHeartbeats 4000000 in
theorem firstI_any (B : Nat) (s : Sc) (vM vE : Value) (m : Int) (P : Nat) (x : Int) (w : World) (hB : B ≤ w.heap.size) (hs : SAt B w s vM vE) (hc : w.heap[P]? = some (.cells #[.int .i64 x] 3 (0, 0))) :
    Calls Tryz.prog 41 #[.agg #[vM, vE], .int .i64 m, .func (.func 43) #[] #[.pointer (some ⟨P, 0, none⟩)]] w fun e w' => e = .returned (foundV (byS s m x)) ∧ Below w.heap.size w w' := by
  obtain ⟨xs, ys, ⟨A1, q1, rfl, s1, b1⟩, h2, ⟨A2, q2, rfl, s2, b2⟩, h4⟩ := hs
  have hb0 : Below w.heap.size w ((w.alloc (.cells #[.slice A1 s.M.length q1, .slice A2 s.E.length q2] 29)).alloc (.cells #[.int .i64 0, .string ⟨#[]⟩, .int .i64 0, .int .i64 0, .bool false, .int .i64 0, .int .i64 0] 39)) := below_lit (below_new _ _) _
  have hx0 : ((w.alloc (.cells #[.slice A1 s.M.length q1, .slice A2 s.E.length q2] 29)).alloc (.cells #[.int .i64 0, .string ⟨#[]⟩, .int .i64 0, .int .i64 0, .bool false, .int .i64 0, .int .i64 0] 39)).heap[w.heap.size]? = some (.cells #[.slice A1 s.M.length q1, .slice A2 s.E.length q2] 29 (0, 0)) := ((below_new _ _).block _ (by simp)).trans (heap_alloc_new w _)
  have hr0 := heap_second w (.cells #[.slice A1 s.M.length q1, .slice A2 s.E.length q2] 29) (.cells #[.int .i64 0, .string ⟨#[]⟩, .int .i64 0, .int .i64 0, .bool false, .int .i64 0, .int .i64 0] 39)
  have hs0 : ((w.alloc (.cells #[.slice A1 s.M.length q1, .slice A2 s.E.length q2] 29)).alloc (.cells #[.int .i64 0, .string ⟨#[]⟩, .int .i64 0, .int .i64 0, .bool false, .int .i64 0, .int .i64 0] 39)).heap.size = w.heap.size + 2 := by simp
  have hsm : s.M.length ≤ 9223372036854775807 := by have h1 := s1.le; have h2 := s1.cap; unfold maxLen at h2; omega
  have HM := Lib.hid s1
  have HMA := Lib.hid h2
  have HC := Lib.hid ((hb0.block P (Array.getElem?_eq_some_iff.1 hc).1).trans hc)
  clear s1 h2 s2 h4 hc
  by_cases hm : 0 ≤ m ∧ m < s.M.length
  · obtain ⟨k, rfl⟩ : ∃ k : Nat, m = k := ⟨m.toNat, by omega⟩
    have hlt : k < s.M.length := by omega
    obtain ⟨d, hd0⟩ : ∃ d, s.M[k]? = some d := ⟨_, List.getElem?_eq_getElem hlt⟩
    have hn : byS s (k : Int) x = d.F.find? (fun y => y.no == x) := by
      have e : msgAt s (k : Int) = some d := by unfold msgAt; rw [if_neg (by omega), Int.toNat_natCast, hd0]
      unfold byS
      rw [e]
      rfl
    obtain ⟨ad, vF, rfl, hg, hmr, c0, c1⟩ := mdr_at (HM.out.low b1 (Low.below hb0 hB)) (HMA.out.low (Low.below hb0 hB)) hd0
    have HR := Lib.hid hmr
    obtain ⟨AF, cF, hvF, sF, aF⟩ := id hmr
    subst hvF
    have HIX := Lib.hid (indexI_any P x AF cF d.F _ sF HC.out)
    have HN := Lib.hid hn
    have HSF := Lib.hid sF
    have HD0 := Lib.hid hd0
    clear hm hn hmr sF hd0
    have h1 : decide ((k : Int) < 0) = false := by rw [decide_eq_false_iff_not]; omega
    have h2 : decide ((s.M.length : Int) ≤ (k : Int)) = false := by rw [decide_eq_false_iff_not]; omega
    have h3 : decide ((k : Int) ≥ (s.M.length : Int)) = false := by rw [decide_eq_false_iff_not]; omega
    go_enter Tryz.func41, Tryz.ntmps41
    go_wp2_with fail
    refine HIX.out.mono ?_
    rintro e w1 ⟨r, rfl, hr, hb1⟩
    have hx1 := (hb1.block _ (by rw [hs0]; omega)).trans hx0
    have hr1 := (hb1.block _ (by rw [hs0]; omega)).trans hr0
    have hbw1 := below_then hb0 hb1
    rcases hr with ⟨rfl, hf⟩ | ⟨i, y, rfl, hy, hf⟩
    · have HF := Lib.hid (HN.out.trans hf)
      clear hf
      go_wp2_with (refine wpList_store_df rfl _ _ rfl rfl (w.heap.size + 1) _ _ _ _ _ _ _ _ _ _ _ _ _ _ rfl rfl _ hr1 ?_)
      refine bodyPost_ret (results_df1 rfl _ _ (w.heap.size + 1) _ _ _ _ _ _ _ _ (0, 0) rfl (setRow_heap _ _ _ _ _ _ hr1)) rfl ?_
      exact ⟨by rw [HF.out]; rfl, below_setRow hbw1 (by omega) _⟩
    · have HF := Lib.hid (HN.out.trans hf)
      obtain ⟨ad2, vF2, had, hg2, hmr2, g0, g1⟩ := mdr_at (HM.out.low b1 (Low.below hbw1 hB)) (HMA.out.low (Low.below hbw1 hB)) HD0.out
      obtain rfl := Option.some.inj had
      have hcc := (hb1.cell (p := ⟨(ad.add (k * 2)).block, (ad.add (k * 2)).off + 1, none⟩) (by show (ad.add (k * 2)).block < _; rw [add_same_block]; exact hg)).trans c1
      obtain ⟨ad3, had3, hg3, k0, k1, k2, k3, k4, k5, k6⟩ := dfr_at (HSF.out.on hb1) hy
      subst had3
      have y0 := heap_cell hx1 0
      simp at y0
      have hi1 : decide ((i : Int) < 0) = false := by rw [decide_eq_false_iff_not]; omega
      have hil := (List.getElem?_eq_some_iff.1 hy).1
      clear hf hy g0 g1 hmr2
      go_wp2_with (refine wpList_store_df rfl _ _ rfl rfl (w.heap.size + 1) _ _ _ _ _ _ _ _ _ _ _ _ _ _ rfl rfl _ hr1 ?_)
      refine bodyPost_ret (results_df1 rfl _ _ (w.heap.size + 1) _ _ _ _ _ _ _ _ (0, 0) rfl (setRow_heap _ _ _ _ _ _ hr1)) rfl ?_
      exact ⟨by rw [HF.out]; rfl, below_setRow hbw1 (by omega) _⟩
  · have HN : Hid (byS s m x = none) := Lib.hid (by
      have e : msgAt s m = none := by
        unfold msgAt
        split
        · rfl
        · exact List.getElem?_eq_none (by omega)
      unfold byS
      rw [e]
      rfl)
    obtain ⟨v1, hv1⟩ : ∃ v, decide (m < 0) = v := ⟨_, rfl⟩
    obtain ⟨v2, hv2⟩ : ∃ v, decide ((s.M.length : Int) ≤ m) = v := ⟨_, rfl⟩
    have HV : Hid ((v1 || v2) = true) := Lib.hid (by rw [← hv1, ← hv2]; simp only [Bool.or_eq_true, decide_eq_true_eq]; omega)
    have hv3 : decide (m ≥ (s.M.length : Int)) = v2 := hv2
    clear hm
    cases v1 <;> cases v2
    · exact absurd HV.out (by simp)
    all_goals
      go_enter Tryz.func41, Tryz.ntmps41
      go_wp2_with (refine wpList_store_df rfl _ _ rfl rfl (w.heap.size + 1) _ _ _ _ _ _ _ _ _ _ _ _ _ _ rfl rfl _ hr0 ?_)
      refine bodyPost_ret (results_df1 rfl _ _ (w.heap.size + 1) _ _ _ _ _ _ _ _ (0, 0) rfl (setRow_heap _ _ _ _ _ _ hr0)) rfl ?_
      exact ⟨by rw [HN.out]; rfl, below_setRow hb0 (by omega) _⟩
set_option maxRecDepth 1000000 in
set_option maxHeartbeats 4000000 in
theorem By_any (B : Nat) (s : Sc) (vM vE : Value) (m : Int) (x : Int) (w : World) (hB : B ≤ w.heap.size) (hs : SAt B w s vM vE) :
    Calls Tryz.prog 19 #[.agg #[vM, vE], .int .i64 m, .int .i64 x] w fun e w' => e = .returned (foundV (byS s m x)) ∧ Below w.heap.size w w' := by
  obtain ⟨xs, ys, ⟨A1, q1, hv1, s1, b1⟩, h2, ⟨A2, q2, hv2, s2, b2⟩, h4⟩ := id hs
  subst hv1 hv2
  clear s1 h2 s2 h4
  have hb0 : Below w.heap.size w (((w.alloc (.cells #[.slice A1 s.M.length q1, .slice A2 s.E.length q2] 29)).alloc (.cells #[.int .i64 x] 3)).alloc (.cells #[.int .i64 0, .string ⟨#[]⟩, .int .i64 0, .int .i64 0, .bool false, .int .i64 0, .int .i64 0] 39)) := below_lit (below_lit (below_new _ _) _) _
  have hc0 : (((w.alloc (.cells #[.slice A1 s.M.length q1, .slice A2 s.E.length q2] 29)).alloc (.cells #[.int .i64 x] 3)).alloc (.cells #[.int .i64 0, .string ⟨#[]⟩, .int .i64 0, .int .i64 0, .bool false, .int .i64 0, .int .i64 0] 39)).heap[w.heap.size + 1]? = some (.cells #[.int .i64 x] 3 (0, 0)) := ((below_new _ _).block _ (by simp)).trans (heap_second w _ _)
  have hr0 : (((w.alloc (.cells #[.slice A1 s.M.length q1, .slice A2 s.E.length q2] 29)).alloc (.cells #[.int .i64 x] 3)).alloc (.cells #[.int .i64 0, .string ⟨#[]⟩, .int .i64 0, .int .i64 0, .bool false, .int .i64 0, .int .i64 0] 39)).heap[w.heap.size + 1 + 1]? = some (.cells #[.int .i64 0, .string ⟨#[]⟩, .int .i64 0, .int .i64 0, .bool false, .int .i64 0, .int .i64 0] 39 (0, 0)) := by
    have := heap_second (w.alloc (.cells #[.slice A1 s.M.length q1, .slice A2 s.E.length q2] 29)) (.cells #[.int .i64 x] 3) (.cells #[.int .i64 0, .string ⟨#[]⟩, .int .i64 0, .int .i64 0, .bool false, .int .i64 0, .int .i64 0] 39)
    rw [World.size_alloc] at this
    exact this
  have HF := Lib.hid (firstI_any B s (.slice A1 s.M.length q1) (.slice A2 s.E.length q2) m (w.heap.size + 1) x _ (Nat.le_trans hB hb0.size) (hs.low (Low.below hb0 hB)) hc0)
  clear hs hc0
  go_enter Tryz.func19, Tryz.ntmps19
  go_wp2_with fail
  refine HF.out.mono ?_
  rintro e w1 ⟨rfl, hb1⟩
  have hr1 := (hb1.block _ (by simp)).trans hr0
  unfold foundV
  simp only [DC]
  go_wp2_with (refine wpList_store_df rfl _ _ rfl rfl (w.heap.size + 1 + 1) _ _ _ _ _ _ _ _ _ _ _ _ _ _ rfl rfl _ hr1 ?_)
  refine bodyPost_ret (results_df1 rfl _ _ (w.heap.size + 1 + 1) _ _ _ _ _ _ _ _ (0, 0) rfl (setRow_heap _ _ _ _ _ _ hr1)) rfl ?_
  exact ⟨rfl, below_setRow (below_then hb0 hb1) (by omega) _⟩
set_option maxRecDepth 1000000 in
set_option maxHeartbeats 4000000 in
theorem root_any (B : Nat) (s : Sc) (vM vE : Value) (x : List UInt8) (w : World) (hB : B ≤ w.heap.size) (hs : SAt B w s vM vE) :
    Calls Tryz.prog 21 #[.agg #[vM, vE], .string (txt x)] w fun e w' => e = .returned (.tuple #[.int .i64 (((rootS s x).getD 0 : Nat) : Int), .bool (rootS s x).isSome]) ∧ Below w.heap.size w w' := by
  obtain ⟨xs, ys, ⟨A1, q1, rfl, s1, b1⟩, h2, ⟨A2, q2, rfl, s2, b2⟩, h4⟩ := hs
  have hsm : s.M.length ≤ 9223372036854775807 := by have h1 := s1.le; have h2 := s1.cap; unfold maxLen at h2; omega
  have hb0 := below_new w (.cells #[.slice A1 s.M.length q1, .slice A2 s.E.length q2] 29)
  have HM := Lib.hid s1
  have HMA := Lib.hid h2
  clear s1 h2 s2 h4
  go_enter Tryz.func21, Tryz.ntmps21
  go_wp2
  go_loopw [11] (fun i wr => ∃ k : Nat, i = .int .i64 k ∧ k ≤ s.M.length ∧ (∀ j y, j < k → s.M[j]? = some y → y.name ≠ x) ∧ Below w.heap.size w wr) (fun i _ => s.M.length - (intOf i).toNat)
  case atStart => exact ⟨0, rfl, by omega, fun j y hj => by omega, hb0⟩
  case round =>
    obtain ⟨k, rfl, hk, herr, hb⟩ := hrel
    have HQ := Lib.hid herr
    clear herr
    by_cases hlt : k < s.M.length
    · obtain ⟨d, hd0⟩ : ∃ d, s.M[k]? = some d := ⟨_, List.getElem?_eq_getElem hlt⟩
      obtain ⟨ad, vF, rfl, hg, hmr, c0, c1⟩ := mdr_at (HM.out.low b1 (Low.below hb hB)) (HMA.out.low (Low.below hb hB)) hd0
      obtain ⟨AF, cF, rfl, -, -⟩ := hmr
      have HD0 := Lib.hid hd0
      clear hd0
      by_cases hx : d.name = x
      · have he : ((txt d.name).toList == (txt x).toList) = true := by rw [hx]; simp
        have HR : Hid (rootS s x = some k) := Lib.hid (by
          unfold rootS
          have hi : (s.M.map (·.name)).idxOf x = k := by
            have h1 : (s.M.map (·.name))[k]? = some x := by rw [List.getElem?_map, HD0.out]; simp [hx]
            obtain ⟨hk1, hk2⟩ := List.getElem?_eq_some_iff.1 h1
            have hle : (s.M.map (·.name)).idxOf x ≤ k := by
              rcases Nat.lt_or_ge k ((s.M.map (·.name)).idxOf x) with h | h
              · exact absurd hk2 (List.not_of_lt_findIdx (p := (· == x)) h |> fun h' => by simpa using h')
              · exact h
            rcases Nat.lt_or_ge ((s.M.map (·.name)).idxOf x) k with h | h
            · have hl2 : (s.M.map (·.name)).idxOf x < s.M.length := by omega
              have h3 : (s.M.map (·.name))[(s.M.map (·.name)).idxOf x]'(by simpa using hl2) = x := List.getElem_idxOf (by simpa using hl2)
              rw [List.getElem_map] at h3
              exact absurd h3 (HQ.out _ _ h (List.getElem?_eq_getElem hl2))
            · omega
          rw [hi, if_pos hlt])
        clear hx
        go_wp2
        go_ret2
        exact ⟨by rw [HR.out]; rfl, hb.trans ((below_new _ _).mono hb.size)⟩
      · have he : ((txt d.name).toList == (txt x).toList) = false := by
          rw [beq_eq_false_iff_ne, Lib.toList_data, Lib.toList_data, txt_list, txt_list]; exact hx
        have HX := Lib.hid hx
        clear hx
        go_wp2
        refine ⟨⟨k + 1, by go_num, by omega, fun j y hj hy => ?_, hb.trans ((below_new _ _).mono hb.size)⟩, by simp [intOf]; omega⟩
        by_cases hj2 : j < k
        · exact HQ.out j y hj2 hy
        · obtain rfl : j = k := by omega
          rw [HD0.out] at hy
          obtain rfl := Option.some.inj hy
          exact HX.out
    · obtain rfl : k = s.M.length := by omega
      have HR : Hid (rootS s x = none) := Lib.hid (by
        unfold rootS
        rw [if_neg]
        intro h
        have h3 : (s.M.map (·.name))[(s.M.map (·.name)).idxOf x]'(by simpa using h) = x := List.getElem_idxOf (by simpa using h)
        rw [List.getElem_map] at h3
        exact HQ.out _ _ h (List.getElem?_eq_getElem h) h3)
      go_wp2
      go_ret2
      exact ⟨by rw [HR.out]; rfl, hb⟩
end Go.Proofs.YtciiemomfniecaaGreatDoor
/-
  The chapter's example of layer 8: its file, and its schema.
-/
namespace Go.Proofs.YtciiemomfniecaaGreatDoor
set_option maxRecDepth 100000

def ex8 : List UInt8 := [109, 101, 115, 115, 97, 103, 101, 32, 65, 32, 123, 32, 65, 32, 97, 32, 61, 32, 50, 59, 32, 105, 110, 116, 54, 52, 32, 98, 32, 61, 32, 49, 59, 32, 125]
def ex8T : List T := [⟨0, [109, 101, 115, 115, 97, 103, 101], 0, 0⟩, ⟨0, [65], 0, 8⟩, ⟨3, [123], 0, 10⟩, ⟨0, [65], 0, 12⟩, ⟨0, [97], 0, 14⟩, ⟨3, [61], 0, 16⟩, ⟨1, [50], 2, 18⟩, ⟨3, [59], 0, 19⟩, ⟨0, [105, 110, 116, 54, 52], 0, 21⟩, ⟨0, [98], 0, 27⟩, ⟨3, [61], 0, 29⟩, ⟨1, [49], 1, 31⟩, ⟨3, [59], 0, 32⟩, ⟨3, [125], 0, 34⟩]
def ex8A : Fd := ⟨[65], [], false, 0, [97], 2, 12⟩
def ex8B : Fd := ⟨[105, 110, 116, 54, 52], [], false, 0, [98], 1, 21⟩
def ex8M : Ms := ⟨[65], [ex8A, ex8B], [], [], 0⟩
def ex8F : Fl := ⟨[ex8M], []⟩
def ex8S : Sc := ⟨[⟨[65], [⟨1, [98], 0, 0, false, -1, 0⟩, ⟨2, [97], 9, 0, false, -1, 0⟩]⟩], []⟩
theorem itoa_d (k : Nat) (h : k < 10) : Lib.itoa k = [UInt8.ofNat (48 + k)] := by
  rw [itoa_nonneg _ (by omega), Int.toNat_natCast, Lib.decDigits_one h]
theorem num_d1 : numOf Lib.itoa [49] = some 1 := by
  have h := numOf_itoa (n := 1) (by omega) (by omega)
  have e : Lib.itoa 1 = [49] := itoa_d 1 (by omega)
  rwa [e] at h
theorem num_d2 : numOf Lib.itoa [50] = some 2 := by
  have h := numOf_itoa (n := 2) (by omega) (by omega)
  have e : Lib.itoa 2 = [50] := itoa_d 2 (by omega)
  rwa [e] at h
theorem ex8_lex (it : Int → List UInt8) (h1 : numOf it [49] = some 1) (h2 : numOf it [50] = some 2) : lex it 0 0 ex8 = (ex8T, none) := by
  have a1 : lex it 0 0 ex8 = (ex8T.take 6 ++ (lex it 0 18 [50, 59, 32, 105, 110, 116, 54, 52, 32, 98, 32, 61, 32, 49, 59, 32, 125]).1, (lex it 0 18 [50, 59, 32, 105, 110, 116, 54, 52, 32, 98, 32, 61, 32, 49, 59, 32, 125]).2) := rfl
  have a2 : tk it [50, 59, 32, 105, 110, 116, 54, 52, 32, 98, 32, 61, 32, 49, 59, 32, 125] = some ⟨1, [50], 2, 0⟩ := by
    have : tk it [50, 59, 32, 105, 110, 116, 54, 52, 32, 98, 32, 61, 32, 49, 59, 32, 125] = (numOf it [50]).map fun n => ⟨1, [50], n, 0⟩ := rfl
    rw [this, h2]; rfl
  have a3 : lex it 0 (18 + 0 + 1) ([50, 59, 32, 105, 110, 116, 54, 52, 32, 98, 32, 61, 32, 49, 59, 32, 125].drop (0 + 1)) = ((ex8T.drop 7).take 4 ++ (lex it 0 31 [49, 59, 32, 125]).1, (lex it 0 31 [49, 59, 32, 125]).2) := rfl
  have a4 : tk it [49, 59, 32, 125] = some ⟨1, [49], 1, 0⟩ := by
    have : tk it [49, 59, 32, 125] = (numOf it [49]).map fun n => ⟨1, [49], n, 0⟩ := rfl
    rw [this, h1]; rfl
  rw [a1, lex_some rfl a2]
  dsimp only
  rw [a3, lex_some rfl a4]
  rfl
theorem ex8_all : toksOf ex8 = ex8T ∧ errOf ex8 = 0 := by
  have h := ex8_lex Lib.itoa num_d1 num_d2
  simp only [toksOf, errOf, allT, allE, h]
  exact ⟨rfl, rfl⟩
theorem ex8_run : run c0 ex8T = ({ pc := .top, f := ex8F }, []) := rfl
theorem ex8_par : parF ex8 = ex8F ∧ parAt ex8 = 35 ∧ parE ex8 = 0 := by
  simp only [parF, parAt, parE, parOK, ex8_all.1, ex8_all.2, ex8_run]
  exact ⟨rfl, rfl, rfl⟩
theorem ex8_err : errR ex8F = none := by decide +kernel
theorem ex8_sch : schF ex8F = ex8S := by decide +kernel
theorem ex8_tab : tabS ex8F = ex8S ∧ tabE ex8F = 0 := by
  unfold tabS tabE
  rw [ex8_err]
  exact ⟨ex8_sch, rfl⟩
end Go.Proofs.YtciiemomfniecaaGreatDoor
/-
  The chapter's example: the contract of the statements' own first call.
-/
namespace Go.Proofs.YtciiemomfniecaaGreatDoor
set_option maxRecDepth 100000

open Go.RowKit Go.Maps

theorem ex8_read : readS ex8 = ex8S ∧ readAt ex8 = 0 ∧ readE ex8 = 0 := by
  unfold readS readAt readE
  rw [ex8_par.2.2, ex8_par.1]
  refine ⟨ex8_tab.1, ?_, ex8_tab.2⟩
  unfold tabAt
  rw [if_pos rfl, ex8_err]
  rfl
theorem ex8_in : FlIn ex8F := by
  refine ⟨fun m hm => ?_, fun e he => by cases he⟩
  obtain rfl : m = ex8M := by simpa [ex8F] using hm
  refine ⟨by decide, fun d hd => ?_, fun x hx => (by cases hx), fun n hn => (by cases hn), by unfold inr; decide⟩
  have : d = ex8A ∨ d = ex8B := by simpa [ex8M] using hd
  rcases this with rfl | rfl <;> (constructor <;> first | decide | (unfold inr; decide))
theorem ex8_scin : ScIn ex8S := by
  refine ⟨fun m hm => ?_, fun e he => by cases he⟩
  obtain rfl : m = ⟨[65], [⟨1, [98], 0, 0, false, -1, 0⟩, ⟨2, [97], 9, 0, false, -1, 0⟩]⟩ := by simpa [ex8S] using hm
  refine ⟨by decide, fun d hd => ?_⟩
  have : d = ⟨1, [98], 0, 0, false, -1, 0⟩ ∨ d = ⟨2, [97], 9, 0, false, -1, 0⟩ := by simpa using hd
  rcases this with rfl | rfl <;> exact ⟨by unfold inr; decide, by decide, by unfold inr; decide, by unfold inr; decide, by unfold inr; decide, by unfold inr; decide⟩
theorem ex8_good : errR ex8F = none := ex8_err
theorem ex8_may : ScMay ex8S := by rw [← ex8_sch]; exact sch_may ((good_iff _).1 ex8_err)
theorem ex8_find : findS ex8S 0 [97] = some ⟨2, [97], 9, 0, false, -1, 0⟩ ∧ byS ex8S 0 1 = some ⟨1, [98], 0, 0, false, -1, 0⟩ := ⟨by decide, by decide⟩
/-- A struct is loaded behind a guard that holds. -/
theorem wpList_load_row_g {P : Program} {ops : Array Oper} {rest : List Oper} {o : Oper} {a : Act} {w : World} {Q : Exit → Act → World → Prop} (hw : Region.wanted o (yielded ops a.tmps) = true) (ty : TypeId) (x : Operand) (ho : o.op = .load ty x)
    (g : Nat) (hx : a.eval x = .pointer (some ⟨g, 0, none⟩)) (t : TypeId) (cs : Array Value) (fr : Nat × Nat) (d : TypeDesc) (hg : w.heap[g]? = some (.cells cs t fr))
    (hu : P.underlying ty = some d) (hd : (match d with | .struct _ | .array _ _ => true | _ => false) = true) (hi : (P.info? ty).map (·.size) = some cs.size)
    (h : wpList P ops Q rest (a.put o.dst (.agg cs)) w) : wpList P ops Q (o :: rest) a w := by
  refine wpList_step fun K hK => ?_
  rw [if_pos hw]
  exact wp_load_row ty x ho g hx t cs fr d hg hu hd hi (hK _ _ h)
theorem wpList_load_scg {ops : Array Oper} {rest : List Oper} {o : Oper} {a : Act} {w : World} {Q : Exit → Act → World → Prop} (hw : Region.wanted o (yielded ops a.tmps) = true) (x : Operand) (ho : o.op = .load 29 x)
    (g : Nat) (u0 u1 : Value) (hx : a.eval x = .pointer (some ⟨g, 0, none⟩)) (t : TypeId) (fr : Nat × Nat) (hg : w.heap[g]? = some (.cells #[u0, u1] t fr))
    (h : wpList Tryz.prog ops Q rest (a.put o.dst (.agg #[u0, u1])) w) : wpList Tryz.prog ops Q (o :: rest) a w :=
  wpList_load_row_g hw 29 x ho g hx t _ fr _ hg Tryz.underlying29 rfl infoSc h
set_option maxHeartbeats 4000000 in
theorem awake8_any (w : World) (L : LT w) : Calls Tryz.prog 9 #[] w fun e w' => e = .returned (.bool true) ∧ Below w.heap.size w w' := by
  obtain ⟨s, hs⟩ : ∃ s, s = txt ex8 := ⟨_, rfl⟩
  have hs' : (⟨#[109, 101, 115, 115, 97, 103, 101, 32, 65, 32, 123, 32, 65, 32, 97, 32, 61, 32, 50, 59, 32, 105, 110, 116, 54, 52, 32, 98, 32, 61, 32, 49, 59, 32, 125]⟩ : ByteArray) = s := hs.symm
  have hrd := fun wx (hx : LT wx) => readT_any s (by rw [hs]; decide) wx hx (by rw [hs, txt_list, ex8_par.1]; exact ex8_in)
  rw [hs, txt_list, ex8_read.1, ex8_read.2.1, ex8_read.2.2, ← hs] at hrd
  have HRD := Lib.hid hrd
  have HL := Lib.hid L
  clear hrd hs L
  go_enter Tryz.func9, Tryz.ntmps9
  simp only [hs']
  clear hs'
  go_wp2_with fail
  refine (HRD.out _ HL.out).mono ?_
  rintro e w1 ⟨vM, vE, rfl, hsr, hb1⟩
  have HB1 := Lib.hid hb1
  have HSA := Lib.hid hsr.at
  obtain ⟨xs, ys, g1, g2, g3, g4⟩ := hsr
  obtain ⟨A1, q1, rfl, s1⟩ := Sl.of_own g1
  obtain ⟨A2, q2, rfl, -⟩ := Sl.of_own g3
  obtain ⟨ad, vF, rfl, hgd, hrF, c0, c1⟩ := mdr_at (k := 0) s1 (MdsAt.of_own g2) rfl
  obtain ⟨AF, qF, rfl, -, -⟩ := hrF
  have e1 : ex8S.M.length = 1 := rfl
  have e2 : ex8S.E.length = 0 := rfl
  have HF1 := Lib.hid (fun w2 (hb2 : Below w1.heap.size w1 w2) => Find_any w1.heap.size ex8S _ _ 0 [97] w2 hb2.size (HSA.out.low (Low.below hb2 (Nat.le_refl _))))
  have HF2 := Lib.hid (fun w2 (hb2 : Below w1.heap.size w1 w2) => By_any w1.heap.size ex8S _ _ 0 1 w2 hb2.size (HSA.out.low (Low.below hb2 (Nat.le_refl _))))
  have HMY := Lib.hid (fun w2 (hb2 : Below w1.heap.size w1 w2) => may_any w1.heap.size ex8S _ _ w2 hb2.size (HSA.out.low (Low.below hb2 (Nat.le_refl _))) ex8_scin (HL.out.tabs.on (below_then HB1.out hb2)))
  rw [ex8_find.1, e1, e2] at HF1
  rw [ex8_find.2, e1, e2] at HF2
  rw [e1, e2] at HMY
  rw [e1, e2]
  clear g1 g2 g3 g4 hb1 s1
  go_wp2_with fail
  have HB2 := Lib.hid (below_lit HB1.out (.cells #[.slice (some ad) 1 q1, .slice A2 0 q2] 29))
  have hbx := below_new w1 (.cells #[.slice (some ad) 1 q1, .slice A2 0 q2] 29)
  have hbo : (w1.alloc (.cells #[.slice (some ad) 1 q1, .slice A2 0 q2] 29)).heap[w1.heap.size]? = some (.cells #[.slice (some ad) 1 q1, .slice A2 0 q2] 29 (0, 0)) := heap_alloc_new w1 _
  refine (HF1.out _ hbx).mono ?_
  rintro e w2 ⟨rfl, hb2⟩
  have hbo2 := (hb2.block _ (by simp)).trans hbo
  have hbx2 := below_then hbx hb2
  unfold foundV
  simp only [DC, Option.getD_some, Option.isSome_some]
  have hbo3 := ((below_new w2 (.cells #[.int .i64 2, .string (txt [97]), .int .i64 9, .int .i64 0, .bool false, .int .i64 (-1), .int .i64 0] 39)).block _ (Array.getElem?_eq_some_iff.1 hbo2).1).trans hbo2
  clear hbo2 hbo hbx
  go_wp2_with (refine wpList_load_sc rfl _ rfl w1.heap.size _ _ rfl _ _ hbo3 ?_)
  refine (HF2.out _ (below_lit hbx2 _)).mono ?_
  rintro e w3 ⟨rfl, hb3⟩
  have hb4 := below_then (below_lit hbx2 (.cells #[.int .i64 2, .string (txt [97]), .int .i64 9, .int .i64 0, .bool false, .int .i64 (-1), .int .i64 0] 39)) hb3
  have hf0 : (w2.alloc (.cells #[.int .i64 2, .string (txt [97]), .int .i64 9, .int .i64 0, .bool false, .int .i64 (-1), .int .i64 0] 39)).heap[w2.heap.size]? = some (.cells #[.int .i64 2, .string (txt [97]), .int .i64 9, .int .i64 0, .bool false, .int .i64 (-1), .int .i64 0] 39 (0, 0)) := heap_alloc_new w2 _
  have hf3 := (hb3.block _ (by simp)).trans hf0
  have hbo4 := (hb3.block _ (Array.getElem?_eq_some_iff.1 hbo3).1).trans hbo3
  unfold foundV
  simp only [DC, Option.getD_some, Option.isSome_some]
  clear hbo3 hf0 hb3 hb2
  rw [show txt [98] = ⟨#[98]⟩ from rfl]
  have hgx := below_new w3 (.cells #[.int .i64 1, .string ⟨#[98]⟩, .int .i64 0, .int .i64 0, .bool false, .int .i64 (-1), .int .i64 0] 39)
  have hg5 : (w3.alloc (.cells #[.int .i64 1, .string ⟨#[98]⟩, .int .i64 0, .int .i64 0, .bool false, .int .i64 (-1), .int .i64 0] 39)).heap[w3.heap.size]? = some (.cells #[.int .i64 1, .string ⟨#[98]⟩, .int .i64 0, .int .i64 0, .bool false, .int .i64 (-1), .int .i64 0] 39 (0, 0)) := heap_alloc_new w3 _
  have hbo5 := (hgx.block _ (Array.getElem?_eq_some_iff.1 hbo4).1).trans hbo4
  have hf5 := (hgx.block _ (Array.getElem?_eq_some_iff.1 hf3).1).trans hf3
  have hb5 := below_then hb4 hgx
  have d0 := heap_cell hbo5 0
  have f2 := heap_cell hf5 2
  have f0 := heap_cell hf5 0
  have c5 := (hb5.cell (by cases ad; exact hgd)).trans c1
  simp at d0 f2 f0
  simp only [Nat.zero_mul, List.length_cons, List.length_nil, Nat.reduceAdd] at c5
  rw [show ad.add 0 = ad from rfl] at c5
  have HB5 := Lib.hid hb5
  have HBW := Lib.hid (below_then HB1.out hb5)
  clear hf3 hbo4 hf5 hg5 hgx hb4 hb5 c0 c1 e1 e2 hbx2
  go_wp2_with (first
    | (refine wpList_load_scg rfl _ rfl w1.heap.size _ _ rfl _ _ hbo5 ?_)
    | (go_at_call 25; refine (HMY.out _ HB5.out).mono ?_; rintro e w6 ⟨b, rfl, hbb, hb6⟩))
  go_ret
  exact ⟨by rw [hbb.2 ex8_may]; rfl, below_then HBW.out hb6⟩
end Go.Proofs.YtciiemomfniecaaGreatDoor
