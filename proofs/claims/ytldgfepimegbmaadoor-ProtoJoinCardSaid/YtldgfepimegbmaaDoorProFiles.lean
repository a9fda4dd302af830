/-
  A file is read: the contract.
-/
import Derived.Test.YtldgfepimegbmaaDoorProFile
namespace Go.Proofs.YtldgfepimegbmaaDoor
set_option maxRecDepth 100000
open Go.RowKit

theorem goes_cons {t : T} {l : List T} : S.goes ⟨t :: l, false⟩ = true := by simp [S.goes]
set_option maxHeartbeats 4000000 in
theorem file_any (P E : Nat) (s : S) (w : World) (hp : PSt w P E s) (hn : s.mu ≤ 40000) :
    Calls Tryd.prog 12 #[.pointer (some ⟨P, 0, none⟩)] w (FlPost P E w (fileF E s ⟨[], []⟩)) := by
  obtain ⟨i0, hi, hz0, hz1, hz2⟩ := info_parts infoMss
  obtain ⟨j0, hj, hy0, hy1, hy2⟩ := info_parts infoEns
  have hPl := hp.lt
  have HP := Lib.hid hp
  clear hp
  have hN : 2 ≤ 3 := by omega
  generalize hX : fileF E s ⟨[], []⟩ = X at *
  have HX := Lib.hid hX
  clear hX
  go_enter Tryd.func12, Tryd.ntmps12
  go_wp2
  go_loopw [17] (fun _ wr => FlRel P E (w.heap.size + 1) ((w.alloc (.cells #[.slice none 0 0, .slice none 0 0] 26)).alloc (.cells #[.slice none 0 0, .slice none 0 0] 26)) X 40000 wr) (fun _ wr => muW wr P)
  case atStart => exact ⟨s, ⟨[], []⟩, .slice none 0 0, .slice none 0 0, [], [], (HP.out.alloc _).alloc _, ⟨heap_second w _ _, World.ownsRow_nil _ _ _ _, rfl, World.ownsRow_nil _ _ _ _, rfl⟩, Kp.refl _ _ _, HX.out, by show 0 + 0 + _ ≤ _; omega⟩
  case round =>
    obtain ⟨s5, f5, vM, vE, xs, ys, hp5, hf5, hk5, hx5, hw5⟩ := hrel
    have HX5 := Lib.hid hx5
    have HF5 := Lib.hid hf5
    have HK5 := Lib.hid hk5
    have HP5 := Lib.hid hp5
    have hmu5 := hp5.mu
    have hsr := hk5.size
    simp at hsr
    clear hx5 hf5 hk5
    obtain ⟨A, q, hb, hl, hlt⟩ := hp5
    obtain ⟨l5, st5⟩ := s5
    simp only at hb hl
    have c0 := heap_cell hb 0
    have c2 := heap_cell hb 2
    simp at c0 c2
    have HL := Lib.hid hl
    clear hb hl hlt
    cases hgo : S.goes ⟨l5, st5⟩
    · have HE : Hid (X = (⟨l5, st5⟩, f5)) := Lib.hid (by rw [← HX5.out, fileF, dif_neg (by rw [hgo]; decide)])
      have HMU5 := Lib.hid hmu5
      clear hmu5
      have hc : st5 = true ∨ (st5 = false ∧ l5 = []) := by
        cases st5
        · right
          refine ⟨rfl, ?_⟩
          cases l5 with
          | nil => rfl
          | cons t l => rw [goes_cons] at hgo; cases hgo
        · exact .inl rfl
      clear hgo
      have HB5 := Lib.hid HF5.out.box
      have HRR := Lib.hid ((HK5.out.block w.heap.size (by omega) (by omega)).trans (heap_first w (.cells #[.slice none 0 0, .slice none 0 0] 26) (.cells #[.slice none 0 0, .slice none 0 0] 26) rfl))
      have g1 := own_one HF5.out.m
      have g2 := own_one HF5.out.e
      rcases hc with rfl | ⟨rfl, rfl⟩
      all_goals
        go_wp2_with (refine wpList_load_fl rfl _ rfl (w.heap.size + 1) _ _ rfl _ _ HB5.out ?_; refine wpList_store_fl rfl _ _ rfl rfl w.heap.size _ _ _ _ rfl rfl g1 g2 _ HRR.out ?_)
        refine bodyPost_ret (results_fl rfl _ _ w.heap.size _ _ _ (0, 0) rfl (setRow_heap _ _ _ _ _ _ HRR.out)) rfl ?_
        rw [HE.out]
        have hgr : wr.grownBy (wr.setRow w.heap.size #[vM, vE]) (some w.heap.size) := ⟨rfl, rfl, rfl, by simp, fun k _ hk => setRow_other _ _ _ _ (by simpa using hk)⟩
        have hlf := Leaf.grown hgr HRR.out rfl
        obtain ⟨xs', ys', r1, r2, r3, r4⟩ := HF5.out.read
        exact ⟨vM, vE, rfl, ⟨xs', ys', own_other r1 hgr HRR.out (by decide), r2.leaf hlf, own_other r3 hgr HRR.out (by decide), r4.leaf hlf⟩, HP5.out.setRow hPl _, (((((Kp.refl w.heap.size P w).alloc (Nat.le_refl _) _).alloc (by simp) _).trans (HK5.out.mono (by omega))).setRow (Nat.le_refl _) _).out⟩
    · obtain rfl : st5 = false := goes_st hgo
      cases l5 with
      | nil => simp [S.goes] at hgo
      | cons t l5 =>
        have hd1 : decide ((0 : Int) < ((t :: l5).length : Int)) = true := by simp
        have hd2 : decide (0 < (t :: l5).length) = true := by simp
        have HGO := Lib.hid hgo
        clear hgo
        have hI := sees_any P E 0 ⟨#[101, 110, 117, 109]⟩ _ wr HP5.out
        have hM5 := HF5.out.lt
        have hmb : f5.M.length ≤ 40000 ∧ f5.E.length ≤ 40000 := ⟨by omega, by omega⟩
        obtain ⟨hmb1, hmb2⟩ := hmb
        have hmuk : S.mu ⟨t :: l5, false⟩ ≤ 40000 := by omega
        cases hin : S.sees ⟨t :: l5, false⟩ 0 wEnum
        · have HI : Hid (Calls Tryd.prog 22 #[.pointer (some ⟨P, 0, none⟩), .int .i64 ((0 : Nat) : Int), .string ⟨#[101, 110, 117, 109]⟩] wr fun e w' => e = .returned (.bool false) ∧ wr = w') := Lib.hid (hI.mono fun e w' h => ⟨by rw [h.1]; exact congrArg (fun b => Ending.returned (Value.bool b)) hin, h.2⟩)
          have HN := Lib.hid (fileF_ms E _ f5 HGO.out (by rw [hin]; decide))
          have hmd := messageF_mu E _ (goes_st HGO.out)
          have hca := message_any P E _ wr.drew HP5.out.drew rfl (by omega)
          generalize hY : messageF E ⟨t :: l5, false⟩ = Y at *
          have HCA := Lib.hid hca
          have HMU5 := Lib.hid hmu5
          have hFR := HF5.out.drew
          have cF := heap_cell HF5.out.box 0
          simp at cF
          have HFR := Lib.hid hFR
          have HKD := Lib.hid (HK5.out.drew 1)
          have HW5 := Lib.hid hw5
          have HMD := Lib.hid hmd
          clear hI hin hY hca hmu5 hFR hw5 hmd
          go_wp2_with fail
          refine HI.out.mono ?_
          rintro e w6 ⟨rfl, rfl⟩
          go_wp2_with fail
          go_region_law
            (first
              | (refine step_append_lies _ rfl _ _ 23 rfl (w.heap.size + 2) 34 i0 _ 5 96 Tryd.underlying23 hi hz0 hz1 hz2 rfl (by decide) vM f5.M.length xs (by simp [Act.eval, Act.put]) (HFR7.out.alloc _).m ⟨w7.heap.size, 0, none⟩ 1 1 (MC Y.2 vF vO vR) (by simp [Act.eval, Act.put]) rfl (World.news_of_block (heap_alloc_new _ _)) hmr.cells (by decide) (by unfold maxLen; omega) (by omega) (by simp; omega) w7.heap.size.succ (by simp) ?_; intro g8 cap8 w8 hown8 hg8 hat8 hlt8; have hb8 := (hg8.block _ (HFR7.out.alloc _).lt (fun e => by have := own_M HFR7.out.m _ e.symm; omega)).trans (HFR7.out.alloc _).box; have c8 := heap_cell hb8 0; have f8 := heap_free hb8 0; simp at c8; have HB8 := Lib.hid hb8; clear hb8)
              | (go_simp; refine HCA.out.mono ?_; rintro e w7 ⟨vF, vO, vR, rfl, hmr, hp7, hg7⟩; have hs7 : wr.heap.size ≤ w7.heap.size := hg7.size; have hr7 := HFR.out.taken HP5.out.drew hg7 (by omega); have hk7 := HKD.out.taken hg7 (by show w.heap.size + 1 ≤ wr.heap.size; omega); have c7 := heap_cell hr7.box 0; simp at c7; have HFR7 := Lib.hid hr7; have HK7 := Lib.hid hk7; have hM7 := hr7.lt; clear hr7 hk7; unfold MsV))
          all_goals
            have hp9 := (hp7.alloc (.cells #[.string (txt Y.2.name), vF, vO, vR, .int .i64 Y.2.at_] 34)).past (v := .slice (some ⟨g8, 0, none⟩) (f5.M.length + 1) cap8) (by omega) (HFR7.out.alloc _).m hg8 0
            go_wp2
            refine ⟨⟨Y.1, _, _, _, _, _, hp9, (HFR7.out.alloc _).addM (hmr.leaf (Leaf.alloc _ _)) hg8 hown8, (HK7.out.alloc (Nat.le_of_lt hM7) _).past (by simp; omega) (HFR7.out.alloc _).m hg8 0, HN.out.symm.trans HX5.out, by have := HW5.out; have := HMD.out; simp; omega⟩, ?_⟩
            rw [hp9.mu, HMU5.out]
            have := HMD.out
            omega
        · have HI : Hid (Calls Tryd.prog 22 #[.pointer (some ⟨P, 0, none⟩), .int .i64 ((0 : Nat) : Int), .string ⟨#[101, 110, 117, 109]⟩] wr fun e w' => e = .returned (.bool true) ∧ wr = w') := Lib.hid (hI.mono fun e w' h => ⟨by rw [h.1]; exact congrArg (fun b => Ending.returned (Value.bool b)) hin, h.2⟩)
          have HN := Lib.hid (fileF_en E _ f5 HGO.out hin)
          have hmd := enumF_mu E _ (goes_st HGO.out)
          have hca := enum_any P E _ wr.drew HP5.out.drew rfl (by omega)
          generalize hY : enumF E ⟨t :: l5, false⟩ = Y at *
          have HCA := Lib.hid hca
          have HMU5 := Lib.hid hmu5
          have hFR := HF5.out.drew
          have cF := heap_cell HF5.out.box 1
          simp at cF
          have HFR := Lib.hid hFR
          have HKD := Lib.hid (HK5.out.drew 1)
          have HW5 := Lib.hid hw5
          have HMD := Lib.hid hmd
          clear hI hin hY hca hmu5 hFR hw5 hmd
          go_wp2_with fail
          refine HI.out.mono ?_
          rintro e w6 ⟨rfl, rfl⟩
          go_wp2_with fail
          go_region_law
            (first
              | (refine step_append_lies _ rfl _ _ 24 rfl (w.heap.size + 2) 58 j0 _ 3 48 Tryd.underlying24 hj hy0 hy1 hy2 rfl (by decide) vE f5.E.length ys (by simp [Act.eval, Act.put]) (HFR7.out.alloc _).e ⟨w7.heap.size, 0, none⟩ 1 1 (EC Y.2 vV) (by simp [Act.eval, Act.put]) rfl (World.news_of_block (heap_alloc_new _ _)) hmr.cells (by decide) (by unfold maxLen; omega) (by omega) (by simp; omega) w7.heap.size.succ (by simp) ?_; intro g8 cap8 w8 hown8 hg8 hat8 hlt8; have hb8 := (hg8.block _ (HFR7.out.alloc _).lt (fun e => by have := own_M HFR7.out.e _ e.symm; omega)).trans (HFR7.out.alloc _).box; have c8 := heap_cell hb8 1; have f8 := heap_free hb8 1; simp at c8; have HB8 := Lib.hid hb8; clear hb8)
              | (go_simp; refine HCA.out.mono ?_; rintro e w7 ⟨vV, rfl, hmr, hp7, hg7⟩; have hs7 : wr.heap.size ≤ w7.heap.size := hg7.size; have hr7 := HFR.out.taken HP5.out.drew hg7 (by omega); have hk7 := HKD.out.taken hg7 (by show w.heap.size + 1 ≤ wr.heap.size; omega); have c7 := heap_cell hr7.box 1; simp at c7; have HFR7 := Lib.hid hr7; have HK7 := Lib.hid hk7; have hM7 := hr7.lt; clear hr7 hk7; unfold EnV))
          all_goals
            have hp9 := (hp7.alloc (.cells #[.string (txt Y.2.name), vV, .int .i64 Y.2.at_] 58)).past (v := .slice (some ⟨g8, 0, none⟩) (f5.E.length + 1) cap8) (by omega) (HFR7.out.alloc _).e hg8 1
            go_wp2
            refine ⟨⟨Y.1, _, _, _, _, _, hp9, (HFR7.out.alloc _).addE (hmr.leaf (Leaf.alloc _ _)) hg8 hown8, (HK7.out.alloc (Nat.le_of_lt hM7) _).past (by simp; omega) (HFR7.out.alloc _).e hg8 1, HN.out.symm.trans HX5.out, by have := HW5.out; have := HMD.out; simp; omega⟩, ?_⟩
            rw [hp9.mu, HMU5.out]
            have := HMD.out
            omega
end Go.Proofs.YtldgfepimegbmaaDoor
