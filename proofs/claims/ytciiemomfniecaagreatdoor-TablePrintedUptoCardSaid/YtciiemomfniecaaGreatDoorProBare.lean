/-
  The fields of each oneof of a message that comes in: the contract.
-/
import Derived.Test.YtciiemomfniecaaGreatDoorRawPen
import Derived.Laws.MakeOwn
import Derived.Deep.RegionHeld3
import Derived.Test.YtciiemomfniecaaGreatDoorProPrint
import Derived.Test.YtciiemomfniecaaGreatDoorTabOf
import Derived.Test.YtciiemomfniecaaGreatDoorRows
import Derived.Test.YtciiemomfniecaaGreatDoorTabMath
namespace Go.Proofs.YtciiemomfniecaaGreatDoor
set_option maxRecDepth 100000

open Go.RowKit

set_option maxHeartbeats 4000000 in
theorem pmem_raw (B : Nat) (m : Ms) (vF vO vR : Value) (w : World) (hB : B ≤ w.heap.size) (hm : MAt B w m vF vO vR) (hf : m.F.length ≤ 100000) (hn : m.ones.length ≤ 100000) :
    Calls Tryz.prog 107 #[MsV m vF vO vR] w (MmPost (memsB m.ones.length m.F) w) := by
  obtain ⟨i0, hi, hz0, hz1, hz2⟩ := info_parts infoFds
  obtain ⟨name, l, ones, res, at_⟩ := m
  obtain ⟨A1, q1, h1, hsf, hbf⟩ := hm.f
  obtain ⟨A2, q2, h2, -, -⟩ := hm.o
  obtain ⟨A3, q3, h3, -, -⟩ := hm.r
  simp only at h1 h2 h3 hf hn hsf hbf
  have HX : Hid (MsV ⟨name, l, ones, res, at_⟩ vF vO vR = .agg #[.string (txt name), .slice A1 l.length q1, .slice A2 ones.length q2, .slice A3 res.length q3, .int .i64 at_]) := Lib.hid (by rw [h1, h2, h3]; rfl)
  rw [HX.out]
  have HF := Lib.hid hsf
  have HBA := Lib.hid hbf
  have hmk := make_mem ones.length (by omega)
  clear hm hsf hbf h1 h2 h3
  go_enter Tryz.func107, Tryz.ntmps107
  go_wp2
  go_loopw [13] (fun i wr => MmRel (w.heap.size + 2) (w.heap.size + 1) ones.length l (w.alloc (.cells #[.string (txt name), .slice A1 l.length q1, .slice A2 ones.length q2, .slice A3 res.length q3, .int .i64 at_] 51)) i wr) (fun i _ => l.length - (intOf i).toNat)
  case atStart => exact MmRel.mk 0 _ rfl (by omega) (by have := MemAt.made (w.alloc (.cells #[.string (txt name), .slice A1 l.length q1, .slice A2 ones.length q2, .slice A3 res.length q3, .int .i64 at_] 51)) (w.heap.size + 2) ones.length; simpa [memsB] using this) (below_new _ _)
  case round =>
    obtain ⟨k, us, rfl, hk, hma, hb⟩ := hrel
    have HMA := Lib.hid hma
    have HB := Lib.hid hb
    have hsz := hb.size
    simp at hsz
    have hbox := (hb.block w.heap.size (by simp)).trans (heap_alloc_new w _)
    have m0 := heap_cell hbox 0
    have m1 := heap_cell hbox 1
    have m2 := heap_cell hbox 2
    have m3 := heap_cell hbox 3
    have m4 := heap_cell hbox 4
    simp at m0 m1 m2 m3 m4
    have hszl : w.heap.size < wr.heap.size := by omega
    clear hma hb hbox
    by_cases h1 : k < l.length
    · obtain ⟨d, hdk⟩ : ∃ d, l[k]? = some d := ⟨_, List.getElem?_eq_getElem h1⟩
      obtain ⟨ad, rfl, hg, c0, c1, c2, c3, c4, c5, c6⟩ := fdr_at (HF.out.low HBA.out (Low.below ((below_new w _).trans (HB.out.mono (by simp))) hB)) hdk
      have HT := Lib.hid (memsB_take ones.length l k d hdk)
      have hI := inOne_any (txt name) (some ad) A2 A3 l.length ones.length res.length q1 q2 q3 at_ d (wr.alloc (.cells #[.string (txt d.type), .string (txt d.key), .bool d.rep, .int .i64 d.one, .string (txt d.name), .int .i64 d.no, .int .i64 d.at_] 53))
      have HXD : Hid (FdV d = .agg #[.string (txt d.type), .string (txt d.key), .bool d.rep, .int .i64 d.one, .string (txt d.name), .int .i64 d.no, .int .i64 d.at_]) := Lib.hid rfl
      rw [HXD.out] at hI
      have HI := Lib.hid hI
      clear hdk hI
      go_wp2_with fail
      refine HI.out.mono ?_
      cases hin : inOne ones.length d
      · have HN : Hid (memStep ones.length (memsB ones.length (l.take k)) d = memsB ones.length (l.take k)) := Lib.hid (by simp [memStep, hin])
        clear hin
        rintro e w6 ⟨rfl, hb6⟩
        go_wp2
        refine ⟨MmRel.mk (k + 1) us (by go_num) (by omega) ?_ (HB.out.trans ((below_lit (Below.refl _ _) _ |>.trans (hb6.mono (by simp))).mono (by simp; omega))), by simp [intOf]; omega⟩
        rw [HT.out, HN.out]
        exact (HMA.out.below (below_new wr _)).below hb6
      · obtain ⟨j, hj⟩ : ∃ j : Nat, d.one = (j : Int) + 1 := ⟨d.one.toNat - 1, by simp only [inOne, Bool.and_eq_true, decide_eq_true_eq] at hin; omega⟩
        have hoj : oneAt d = j := by unfold oneAt; omega
        have hjn : j < ones.length := by simp only [inOne, Bool.and_eq_true, decide_eq_true_eq] at hin; omega
        have hml := memsB_length ones.length (l.take k)
        have hju : j < us.length := by rw [HMA.out.len, hml]; exact hjn
        obtain ⟨u, hu⟩ : ∃ u, us[j]? = some u := ⟨_, List.getElem?_eq_getElem hju⟩
        obtain ⟨lj, hlj⟩ : ∃ lj, (memsB ones.length (l.take k))[j]? = some lj := ⟨_, List.getElem?_eq_getElem (by rw [hml]; exact hjn)⟩
        have hfew : lj.length ≤ 100000 := by
          have h := memsB_few ones.length (l.take k) j
          rw [List.getD_eq_getElem?_getD, hlj, Option.getD_some, List.length_take] at h
          omega
        have HN : Hid (memStep ones.length (memsB ones.length (l.take k)) d = (memsB ones.length (l.take k)).set j (lj ++ [d])) := Lib.hid (by simp [memStep, hin, hoj, hlj])
        have ew : IntKind.i64.wrap ((d.one : Int) - 1) = (j : Int) := by rw [IntKind.wrap_i64]; omega
        have ei1 : (0 : Int) ≤ (j : Int) := by omega
        have ei2 : (j : Int) < (ones.length : Int) := by omega
        have HU := Lib.hid hu
        have HLJ := Lib.hid hlj
        clear hin hj hoj hml hju hu hlj
        rintro e w6 ⟨rfl, hb6⟩
        have hma6 := (HMA.out.below (below_new wr _)).below hb6
        have hbf := (hb6.block wr.heap.size (by simp)).trans (heap_alloc_new wr _)
        have f0 := heap_cell hbf 0
        have f1 := heap_cell hbf 1
        have f2 := heap_cell hbf 2
        have f3 := heap_cell hbf 3
        have f4 := heap_cell hbf 4
        have f5 := heap_cell hbf 5
        have f6 := heap_cell hbf 6
        simp at f0 f1 f2 f3 f4 f5 f6
        have HBF6 := Lib.hid hbf
        have cu := hma6.cell HU.out
        have hs6 := hb6.size
        simp at hs6
        have hs7 : wr.heap.size < w6.heap.size := by omega
        have hs8 : w.heap.size + 1 < w6.heap.size := by have := HMA.out.lt; omega
        have HM6 := Lib.hid (hma6.below (below_new w6 (.cells #[.string (txt d.type), .string (txt d.key), .bool d.rep, .int .i64 d.one, .string (txt d.name), .int .i64 d.no, .int .i64 d.at_] 53)))
        have HB6 := Lib.hid (HB.out.trans ((below_lit (Below.refl _ _) _ |>.trans (hb6.mono (by simp))).mono (by simp; omega)))
        have HBF := Lib.hid ((Below.heap_alloc w6 (.cells #[.string (txt d.type), .string (txt d.key), .bool d.rep, .int .i64 d.one, .string (txt d.name), .int .i64 d.no, .int .i64 d.at_] 53) wr.heap.size (by omega)).trans hbf)
        clear hma6 hbf hb6 c0 c1 c2 c3 c4 c5 c6 m0 m1 m2 m3 m4
        have hS0 : w6.drew.heap[wr.heap.size]? = some (.cells #[.string (txt d.type), .string (txt d.key), .bool d.rep, .int .i64 d.one, .string (txt d.name), .int .i64 d.no, .int .i64 d.at_] 53 (0, 0)) ∧ w6.drew.cell? ⟨wr.heap.size, 0, none⟩ = some (.string (txt d.type)) ∧ w6.drew.cell? ⟨wr.heap.size, 1, none⟩ = some (.string (txt d.key)) ∧ w6.drew.cell? ⟨wr.heap.size, 2, none⟩ = some (.bool d.rep) ∧ w6.drew.cell? ⟨wr.heap.size, 3, none⟩ = some (.int .i64 d.one) ∧ w6.drew.cell? ⟨wr.heap.size, 4, none⟩ = some (.string (txt d.name)) ∧ w6.drew.cell? ⟨wr.heap.size, 5, none⟩ = some (.int .i64 d.no) ∧ w6.drew.cell? ⟨wr.heap.size, 6, none⟩ = some (.int .i64 d.at_) := box7_keep (w := w6) rfl ⟨HBF6.out, f0, f1, f2, f3, f4, f5, f6⟩
        go_wp2_with fail
        refine wp_region_noPanic ?_
        refine wp_region_held_drew (S := fun w' => w'.heap[wr.heap.size]? = some (.cells #[.string (txt d.type), .string (txt d.key), .bool d.rep, .int .i64 d.one, .string (txt d.name), .int .i64 d.no, .int .i64 d.at_] 53 (0, 0)) ∧ w'.cell? ⟨wr.heap.size, 0, none⟩ = some (.string (txt d.type)) ∧ w'.cell? ⟨wr.heap.size, 1, none⟩ = some (.string (txt d.key)) ∧ w'.cell? ⟨wr.heap.size, 2, none⟩ = some (.bool d.rep) ∧ w'.cell? ⟨wr.heap.size, 3, none⟩ = some (.int .i64 d.one) ∧ w'.cell? ⟨wr.heap.size, 4, none⟩ = some (.string (txt d.name)) ∧ w'.cell? ⟨wr.heap.size, 5, none⟩ = some (.int .i64 d.no) ∧ w'.cell? ⟨wr.heap.size, 6, none⟩ = some (.int .i64 d.at_)) (by kernel_rfl) hS0 (fun hHeld => ?_)
        refine wpAnyH_take (i := 0) (v := ?_) rfl (by kernel_rfl) (by kernel_rfl) (by kernel_rfl) (fun _ _ _ h => h) (Or.inl ⟨by rfl, ?_⟩) (by assumption) ?_
        rotate_left
        · intro w hSw; (try dsimp only at hSw); go_simp; with_reducible rfl
        try simp only [Act.put, List.setIfInBounds_toArray, List.set_cons_zero, List.set_cons_succ]
        refine wpAnyH_take (i := 1) (v := ?_) rfl (by kernel_rfl) (by kernel_rfl) (by kernel_rfl) (fun _ _ _ h => h) (Or.inl ⟨by rfl, ?_⟩) (by assumption) ?_
        rotate_left
        · intro w hSw; (try dsimp only at hSw); go_simp; with_reducible rfl
        try simp only [Act.put, List.setIfInBounds_toArray, List.set_cons_zero, List.set_cons_succ]
        refine wpAnyH_take (i := 2) (v := ?_) rfl (by kernel_rfl) (by kernel_rfl) (by kernel_rfl) (fun _ _ _ h => h) (Or.inl ⟨by rfl, ?_⟩) (by assumption) ?_
        rotate_left
        · intro w hSw; (try dsimp only at hSw); go_simp; with_reducible rfl
        try simp only [Act.put, List.setIfInBounds_toArray, List.set_cons_zero, List.set_cons_succ]
        refine wpAnyH_take (i := 3) (v := ?_) rfl (by kernel_rfl) (by kernel_rfl) (by kernel_rfl) (fun _ _ _ h => h) (Or.inl ⟨by rfl, ?_⟩) (by assumption) ?_
        rotate_left
        · intro w hSw; (try dsimp only at hSw); go_simp; with_reducible rfl
        try simp only [Act.put, List.setIfInBounds_toArray, List.set_cons_zero, List.set_cons_succ]
        refine wpAnyH_take (i := 4) (v := ?_) rfl (by kernel_rfl) (by kernel_rfl) (by kernel_rfl) (fun _ _ _ h => h) (Or.inl ⟨by rfl, ?_⟩) (by assumption) ?_
        rotate_left
        · intro w hSw; (try dsimp only at hSw); go_simp; with_reducible rfl
        try simp only [Act.put, List.setIfInBounds_toArray, List.set_cons_zero, List.set_cons_succ]
        refine wpAnyH_take (i := 5) (v := ?_) rfl (by kernel_rfl) (by kernel_rfl) (by kernel_rfl) (fun _ _ _ h => h) (Or.inl ⟨by rfl, ?_⟩) (by assumption) ?_
        rotate_left
        · intro w hSw; (try dsimp only at hSw); go_simp; with_reducible rfl
        try simp only [Act.put, List.setIfInBounds_toArray, List.set_cons_zero, List.set_cons_succ]
        refine wpAnyH_take (i := 6) (v := ?_) rfl (by kernel_rfl) (by kernel_rfl) (by kernel_rfl) (fun _ _ _ h => h) (Or.inl ⟨by rfl, ?_⟩) (by assumption) ?_
        rotate_left
        · intro w hSw; (try dsimp only at hSw); go_simp; with_reducible rfl
        try simp only [Act.put, List.setIfInBounds_toArray, List.set_cons_zero, List.set_cons_succ]
        refine wpAnyH_take (i := 7) (v := ?_) rfl (by kernel_rfl) (by kernel_rfl) (by kernel_rfl) (fun _ _ _ h => h) (Or.inl ⟨by rfl, ?_⟩) (by assumption) ?_
        rotate_left
        · intro w hSw; (try dsimp only at hSw); go_simp; with_reducible rfl
        try simp only [Act.put, List.setIfInBounds_toArray, List.set_cons_zero, List.set_cons_succ]
        refine wpAnyH_take (i := 8) (v := ?_) rfl (by kernel_rfl) (by kernel_rfl) (by kernel_rfl) (fun _ _ _ h => h) (Or.inl ⟨by rfl, ?_⟩) (by assumption) ?_
        rotate_left
        · intro w hSw; (try dsimp only at hSw); go_simp; with_reducible rfl
        try simp only [Act.put, List.setIfInBounds_toArray, List.set_cons_zero, List.set_cons_succ]
        refine wpAnyH_take (i := 10) (v := ?_) rfl (by kernel_rfl) (by kernel_rfl) (by kernel_rfl) (fun _ _ _ h => h) (Or.inl ⟨by rfl, ?_⟩) (by assumption) ?_
        rotate_left
        · intro w hSw; (try dsimp only at hSw); go_simp; with_reducible rfl
        try simp only [Act.put, List.setIfInBounds_toArray, List.set_cons_zero, List.set_cons_succ]
        have hS1 := box7_keep (w' := ((w6.alloc (.cells #[.string (txt d.type), .string (txt d.key), .bool d.rep, .int .i64 d.one, .string (txt d.name), .int .i64 d.no, .int .i64 d.at_] 53)).drew)) (Below.heap_alloc w6 _ _ hs7) hS0
        have hne8 : wr.heap.size ≠ w.heap.size + 1 := by have := HMA.out.lt; omega
        refine wpAnyH_ready (rs := [9, 11]) (by kernel_rfl) (by simp) ?_
        refine AllReadyH.cons (o := _) rfl (fun K hK => ?_) (AllReadyH.cons (o := _) rfl (fun K hK => ?_) AllReadyH.nil)
        · go_simp
          refine hK.out _ _ hS0 (fun _ => ?_)
          clear hK K
          try simp only [Act.put, List.setIfInBounds_toArray, List.set_cons_zero, List.set_cons_succ]
          refine wpAnyH_ready (rs := [11]) (by kernel_rfl) (by simp) ?_
          refine AllReadyH.cons (o := _) rfl (fun K hK => ?_) AllReadyH.nil
          go_simp
          refine hK.out _ _ hS1 (fun _ => ?_)
          clear hK K
          try simp only [Act.put, List.setIfInBounds_toArray, List.set_cons_zero, List.set_cons_succ]
          refine wpAnyH_ready (rs := [12]) (by kernel_rfl) (by simp) ?_
          refine AllReadyH.cons (o := _) rfl (fun K hK => ?_) AllReadyH.nil
          refine step_append_lies _ rfl _ _ 47 rfl (w.heap.size + 2) 53 i0 _ 7 80 Tryz.underlying47 hi hz0 hz1 hz2 rfl (by decide) u lj.length (fdv lj) (by simp [Act.eval, Act.put]) (HM6.out.row j u lj HU.out HLJ.out) ⟨w6.heap.size, 0, none⟩ 1 1 (FC d) (by simp [Act.eval, Act.put]) rfl (World.news_of_block (heap_alloc_new _ _)) (by intro u hu; exact fdv_cells [d] u (by rw [fdv_one]; exact hu)) (by decide) (by unfold maxLen; omega) (by omega) (by simp; omega) (w6.heap.size + 1) (by simp) ?_
          intro g8 cap8 w8 hown8 hg8 hat8 hlt8
          have hS8 := box7_keep (hg8.block wr.heap.size (by simp; omega) (fun e => by have := ((HMA.out.row j u lj HU.out HLJ.out).lt _ e.symm).2; omega)) hS1
          refine hK.out _ _ hS8 (fun _ => ?_)
          clear hK K
          try simp only [Act.put, List.setIfInBounds_toArray, List.set_cons_zero, List.set_cons_succ]
          have hb8 := (hg8.block (w.heap.size + 1) HM6.out.lt (fun e => by have := ((HM6.out.row j u lj HU.out HLJ.out).lt _ e.symm).1; omega)).trans HM6.out.heap
          have c8 := heap_cell hb8 j
          have f8 := heap_free hb8 j
          rw [show (us.toArray)[j]? = some u from by simpa using HU.out] at c8
          have HB8 := Lib.hid hb8
          clear hb8
          refine wpAnyH_take (i := 13) (v := ?_) rfl (by kernel_rfl) (by kernel_rfl) (by kernel_rfl) (fun _ _ _ h => h) (Or.inl ⟨by rfl, ?_⟩) (by assumption) ?_
          rotate_left
          · intro w hSw; (try dsimp only at hSw); go_simp; with_reducible rfl
          try simp only [Act.put, List.setIfInBounds_toArray, List.set_cons_zero, List.set_cons_succ]
          refine wpAnyH_ready (rs := [14]) (by kernel_rfl) (by simp) ?_
          refine AllReadyH.cons (o := _) rfl (fun K hK => ?_) AllReadyH.nil
          go_simp
          refine hK.out _ _ (box7_keep (Below.heap_setCell w8 ⟨w.heap.size + 1, j, none⟩ (.slice (some ⟨g8, 0, none⟩) (lj.length + 1) cap8) wr.heap.size (by simp; omega)) hS8) (fun _ => ?_)
          clear hK K
          try simp only [Act.put, List.setIfInBounds_toArray, List.set_cons_zero, List.set_cons_succ]
          refine wpAnyH_done (by kernel_rfl) ?_ _
          refine NoPanic.normal ?_
          go_wp2
          refine ⟨MmRel.mk (k + 1) (us.set j (.slice (some ⟨g8, 0, none⟩) (lj.length + 1) cap8)) (by go_num) (by omega) ?_ (((HB6.out.alloc (by simp; omega) _).drew.grown hg8 (by simp; omega) (fun q hq => by have := ((HM6.out.row j u lj HU.out HLJ.out).lt q hq).1; simp; omega)).setCell (by simp) _), by simp [intOf]; omega⟩
          rw [HT.out, HN.out]
          exact HM6.out.drew.add HU.out HLJ.out hg8 hown8 (by simp) rfl (by simpa using hat8) (by omega)
        · go_simp
          refine hK.out _ _ hS1 (fun _ => ?_)
          clear hK K
          try simp only [Act.put, List.setIfInBounds_toArray, List.set_cons_zero, List.set_cons_succ]
          refine wpAnyH_ready (rs := [9]) (by kernel_rfl) (by simp) ?_
          refine AllReadyH.cons (o := _) rfl (fun K hK => ?_) AllReadyH.nil
          go_simp
          refine hK.out _ _ hS1 (fun _ => ?_)
          clear hK K
          try simp only [Act.put, List.setIfInBounds_toArray, List.set_cons_zero, List.set_cons_succ]
          refine wpAnyH_ready (rs := [12]) (by kernel_rfl) (by simp) ?_
          refine AllReadyH.cons (o := _) rfl (fun K hK => ?_) AllReadyH.nil
          refine step_append_lies _ rfl _ _ 47 rfl (w.heap.size + 2) 53 i0 _ 7 80 Tryz.underlying47 hi hz0 hz1 hz2 rfl (by decide) u lj.length (fdv lj) (by simp [Act.eval, Act.put]) (HM6.out.row j u lj HU.out HLJ.out) ⟨w6.heap.size, 0, none⟩ 1 1 (FC d) (by simp [Act.eval, Act.put]) rfl (World.news_of_block (heap_alloc_new _ _)) (by intro u hu; exact fdv_cells [d] u (by rw [fdv_one]; exact hu)) (by decide) (by unfold maxLen; omega) (by omega) (by simp; omega) (w6.heap.size + 1) (by simp) ?_
          intro g8 cap8 w8 hown8 hg8 hat8 hlt8
          have hS8 := box7_keep (hg8.block wr.heap.size (by simp; omega) (fun e => by have := ((HMA.out.row j u lj HU.out HLJ.out).lt _ e.symm).2; omega)) hS1
          refine hK.out _ _ hS8 (fun _ => ?_)
          clear hK K
          try simp only [Act.put, List.setIfInBounds_toArray, List.set_cons_zero, List.set_cons_succ]
          have hb8 := (hg8.block (w.heap.size + 1) HM6.out.lt (fun e => by have := ((HM6.out.row j u lj HU.out HLJ.out).lt _ e.symm).1; omega)).trans HM6.out.heap
          have c8 := heap_cell hb8 j
          have f8 := heap_free hb8 j
          rw [show (us.toArray)[j]? = some u from by simpa using HU.out] at c8
          have HB8 := Lib.hid hb8
          clear hb8
          refine wpAnyH_take (i := 13) (v := ?_) rfl (by kernel_rfl) (by kernel_rfl) (by kernel_rfl) (fun _ _ _ h => h) (Or.inl ⟨by rfl, ?_⟩) (by assumption) ?_
          rotate_left
          · intro w hSw; (try dsimp only at hSw); go_simp; with_reducible rfl
          try simp only [Act.put, List.setIfInBounds_toArray, List.set_cons_zero, List.set_cons_succ]
          refine wpAnyH_ready (rs := [14]) (by kernel_rfl) (by simp) ?_
          refine AllReadyH.cons (o := _) rfl (fun K hK => ?_) AllReadyH.nil
          go_simp
          refine hK.out _ _ (box7_keep (Below.heap_setCell w8 ⟨w.heap.size + 1, j, none⟩ (.slice (some ⟨g8, 0, none⟩) (lj.length + 1) cap8) wr.heap.size (by simp; omega)) hS8) (fun _ => ?_)
          clear hK K
          try simp only [Act.put, List.setIfInBounds_toArray, List.set_cons_zero, List.set_cons_succ]
          refine wpAnyH_done (by kernel_rfl) ?_ _
          refine NoPanic.normal ?_
          go_wp2
          refine ⟨MmRel.mk (k + 1) (us.set j (.slice (some ⟨g8, 0, none⟩) (lj.length + 1) cap8)) (by go_num) (by omega) ?_ (((HB6.out.alloc (by simp; omega) _).drew.grown hg8 (by simp; omega) (fun q hq => by have := ((HM6.out.row j u lj HU.out HLJ.out).lt q hq).1; simp; omega)).setCell (by simp) _), by simp [intOf]; omega⟩
          rw [HT.out, HN.out]
          exact HM6.out.drew.add HU.out HLJ.out hg8 hown8 (by simp) rfl (by simpa using hat8) (by omega)
    · obtain rfl : k = l.length := by omega
      rw [List.take_of_length_le (Nat.le_refl _)] at HMA
      go_wp2
      go_ret
      exact ⟨w.heap.size + 1, us, by rw [memsB_length]; rfl, by omega, HMA.out.zero, (below_new w _).trans (HB.out.mono (by simp))⟩
end Go.Proofs.YtciiemomfniecaaGreatDoor
/-
  A message of a file that comes in is printed: the contract.
-/
namespace Go.Proofs.YtciiemomfniecaaGreatDoor
set_option maxRecDepth 100000

open Go.RowKit

set_option maxHeartbeats 8000000 in
theorem pmsg_raw (B : Nat) (v vF vO vR : Value) (L : List UInt8) (m : Ms) (w : World) (LV : LaidB B w) (ho : Out B w v L) (hm : MAt B w m vF vO vR) (hB : B ≤ w.heap.size) (hd : MsOk m) (hl : L.length + (messageB m).length ≤ 1000000000000) :
    Calls Tryz.prog 58 #[v, MsV m vF vO vR] w (OutPost B (L ++ messageB m) w) := by
  obtain ⟨name, l, ones, res, at_⟩ := m
  obtain ⟨A1, q1, h1, sf, bf⟩ := hm.f
  obtain ⟨A2, q2, h2, so, bo⟩ := hm.o
  obtain ⟨A3, q3, h3, sr, br⟩ := hm.r
  simp only at h1 h2 h3 sf so sr bf bo br
  have HX : Hid (MsV ⟨name, l, ones, res, at_⟩ vF vO vR = .agg #[.string (txt name), .slice A1 l.length q1, .slice A2 ones.length q2, .slice A3 res.length q3, .int .i64 at_]) := Lib.hid (by rw [h1, h2, h3]; rfl)
  obtain ⟨w0, hw0⟩ : ∃ w0, w0 = w.alloc (.cells #[.string (txt name), .slice A1 l.length q1, .slice A2 ones.length q2, .slice A3 res.length q3, .int .i64 at_] 51) := ⟨_, rfl⟩
  have hs0 : w0.heap.size = w.heap.size + 1 := by rw [hw0]; simp
  have HP0 : Hid (Pr B w w0) := Lib.hid (by rw [hw0]; exact (Pr.refl B w).alloc hB _)
  have hbox : w0.heap[w.heap.size]? = some (.cells #[.string (txt name), .slice A1 l.length q1, .slice A2 ones.length q2, .slice A3 res.length q3, .int .i64 at_] 51 (0, 0)) := by rw [hw0]; exact heap_alloc_new w _
  have hm0 := hm.low HP0.out.low
  have hmem := pmem_raw B ⟨name, l, ones, res, at_⟩ vF vO vR
  rw [HX.out] at hmem
  have HF : Hid (Sl w0 A1 l.length q1 7 (fdv l)) := Lib.hid (sf.low bf HP0.out.low)
  have HFB := Lib.hid bf
  have HO : Hid (Sl w0 A2 ones.length q2 1 (strv ones)) := Lib.hid (so.low bo HP0.out.low)
  have HOB := Lib.hid bo
  have HR : Hid (Rb B w0 (.slice A3 res.length q3) res.length 1 (intv res)) := Lib.hid ⟨A3, q3, rfl, sr.low br HP0.out.low, br⟩
  have HMR := Lib.hid hm0
  have HBOX := Lib.hid hbox
  have HLV := Lib.hid (LV.pr HP0.out)
  have HD := Lib.hid hd
  have hlf := hd.lf
  have hlo := hd.lo
  have hlr := hd.lr
  simp only at hlf hlo hlr
  have HMEM := Lib.hid (fun (w : World) (h0 : B ≤ w.heap.size) (h : MAt B w ⟨name, l, ones, res, at_⟩ vF vO vR) => hmem w h0 h hlf hlo)
  have HT : Hid (messageB ⟨name, l, ones, res, at_⟩ = lineB [wMessage, [32], name, [32, 123]] ++ itemsB ones (memsB ones.length l) l ++ (if res = [] then [] else resB res) ++ lineB [[125]]) := Lib.hid rfl
  have hln : L.length + (lineB [wMessage, [32], name, [32, 123]]).length + (itemsB ones (memsB ones.length l) l).length + (if res = [] then [] else resB res).length + (lineB [[125]]).length ≤ 1000000000000 := by
    rw [HT.out] at hl
    simp only [List.length_append] at hl
    omega
  have HLN := Lib.hid hln
  have hl1 : L.length + [wMessage, [32], name, [32, 123]].flatten.length ≤ 1000000000000 := by
    unfold lineB at hln
    simp only [List.length_append] at hln ⊢
    omega
  have HO0 : Hid (Out B w0 v L) := Lib.hid (by rw [hw0]; exact ho.alloc _)
  have H1 := Lib.hid (line_any B (w.heap.size + 1) 4 v L [wMessage, [32], name, [32, 123]] (w0.alloc (.cells (strv [wMessage, [32], name, [32, 123]]).toArray 9)) rfl (HO0.out.alloc _) (by rw [← hs0]; exact heap_alloc_new _ _) (by simp; omega) hl1 (by simp))
  rw [HX.out]
  clear hm hm0 hmem hd hl hln hl1 h1 h2 h3 sf so sr bf bo br hbox LV ho
  go_enter Tryz.func58, Tryz.ntmps58
  have HW0 := Lib.hid hw0
  clear hw0
  go_wp2_with fail
  rw [← HW0.out]
  refine H1.out.mono ?_
  rintro e w1 ⟨v1, rfl, ho1, hpr1⟩
  have hs1 := hpr1.size
  simp at hs1
  have HP1 := Lib.hid (((Pr.refl B w0).alloc (by omega) _).trans hpr1)
  have HO1 := Lib.hid ho1
  have hb1 := (HP1.out.typed w.heap.size _ _ _ HBOX.out (by decide)).trans HBOX.out
  have m0 := heap_cell hb1 0
  have m1 := heap_cell hb1 1
  have m2 := heap_cell hb1 2
  have m3 := heap_cell hb1 3
  have m4 := heap_cell hb1 4
  simp at m0 m1 m2 m3 m4
  clear ho1 hpr1 hb1
  go_wp2_with fail
  refine (HMEM.out w1 (by omega) (HMR.out.low HP1.out.low)).mono ?_
  rintro e w2 ⟨g, us, rfl, hgs, hma, hb2⟩
  simp only [memsB_length]
  have hs2 := hb2.size
  have HP2 := Lib.hid (HP1.out.trans (Pr.below hb2 (by omega)))
  have HO2 := Lib.hid (HO1.out.below hb2)
  have HM2 := Lib.hid hma
  have hbx := (HP2.out.typed w.heap.size _ _ _ HBOX.out (by decide)).trans HBOX.out
  have n1 := heap_cell hbx 1
  simp at n1
  clear hma hb2 m0 m1 m2 m3 m4 hbx
  go_wp2
  go_loopw [0, 19] (fun o i wr => PmRel B g (L ++ lineB [wMessage, [32], name, [32, 123]]) ones l w0 o i wr) (fun _ i _ => l.length - (intOf i).toNat)
  case atStart => exact PmRel.mk 0 us _ [] rfl (by omega) (by simpa using HO2.out) (by simp) HM2.out (memsB_length _ _) (fun j x hx => ⟨memsB_mem _ _ FdOk HD.out.f j x hx, by have h := memsB_few ones.length l j; rw [List.getD_eq_getElem?_getD, hx] at h; simpa using h⟩) HP2.out
  case round =>
    obtain ⟨k, us, ms, X, rfl, hk, ho, hit, hma, hml, hmo, hpr⟩ := hrel
    have HO5 := Lib.hid ho
    have HIT := Lib.hid hit
    have HMA := Lib.hid hma
    have HML := Lib.hid hml
    have HMO := Lib.hid hmo
    have HPR := Lib.hid hpr
    have hsz := hpr.size
    have hszl : w.heap.size < wr.heap.size := by omega
    have hbx := (hpr.typed w.heap.size _ _ _ HBOX.out (by decide)).trans HBOX.out
    have m0 := heap_cell hbx 0
    have m1 := heap_cell hbx 1
    have m2 := heap_cell hbx 2
    have m3 := heap_cell hbx 3
    have m4 := heap_cell hbx 4
    simp at m0 m1 m2 m3 m4
    have HBX := Lib.hid hbx
    clear ho hit hma hml hmo hpr hbx
    by_cases h1 : k < l.length
    · obtain ⟨d, hdk⟩ : ∃ d, l[k]? = some d := ⟨_, List.getElem?_eq_getElem h1⟩
      obtain ⟨gf, rfl, hg, c0, c1, c2, c3, c4, c5, c6⟩ := fdr_at (HF.out.low HFB.out HPR.out.low) hdk
      have hdr : l.drop k = d :: l.drop (k + 1) := by
        obtain ⟨h, e⟩ := List.getElem?_eq_some_iff.1 hdk
        rw [List.drop_eq_getElem_cons h, e]
      have hdok := HD.out.f d (List.mem_of_getElem? hdk)
      have HDR := Lib.hid hdr
      have hI := inOne_any (txt name) (some gf) A2 A3 l.length ones.length res.length q1 q2 q3 at_ d (wr.alloc (.cells #[.string (txt d.type), .string (txt d.key), .bool d.rep, .int .i64 d.one, .string (txt d.name), .int .i64 d.no, .int .i64 d.at_] 53))
      have HXD : Hid (FdV d = .agg #[.string (txt d.type), .string (txt d.key), .bool d.rep, .int .i64 d.one, .string (txt d.name), .int .i64 d.no, .int .i64 d.at_]) := Lib.hid rfl
      rw [HXD.out] at hI
      have HI := Lib.hid hI
      have HDK := Lib.hid hdok
      clear hdk hI hdr hdok
      go_wp2_with fail
      refine HI.out.mono ?_
      have hi6 : ∀ w6, Below (wr.alloc (.cells #[.string (txt d.type), .string (txt d.key), .bool d.rep, .int .i64 d.one, .string (txt d.name), .int .i64 d.no, .int .i64 d.at_] 53)).heap.size (wr.alloc (.cells #[.string (txt d.type), .string (txt d.key), .bool d.rep, .int .i64 d.one, .string (txt d.name), .int .i64 d.no, .int .i64 d.at_] 53)) w6 → Below wr.heap.size wr w6 ∧ w6.heap[wr.heap.size]? = some (.cells #[.string (txt d.type), .string (txt d.key), .bool d.rep, .int .i64 d.one, .string (txt d.name), .int .i64 d.no, .int .i64 d.at_] 53 (0, 0)) := fun w6 hb6 => ⟨(below_new wr _).trans (hb6.mono (by simp)), (hb6.block wr.heap.size (by simp)).trans (heap_alloc_new wr _)⟩
      have HI6 := Lib.hid hi6
      clear hi6
      cases hin : inOne ones.length d
      · have hio := items_out (ms := ms) (l := l.drop (k + 1)) hin
        have hfl : (L ++ lineB [wMessage, [32], name, [32, 123]] ++ X).length + (fieldB [32, 32] d).length ≤ 1000000000000 := by
          have h2 := HLN.out
          rw [HIT.out, HDR.out, hio] at h2
          simp only [List.length_append] at h2 ⊢
          omega
        have HIO : Hid (itemsB ones (memsB ones.length l) l = (X ++ fieldB [32, 32] d) ++ itemsB ones ms (l.drop (k + 1))) := Lib.hid (by rw [HIT.out, HDR.out, hio, List.append_assoc])
        have HFL := Lib.hid hfl
        clear hin hio hfl
        rintro e w6 ⟨rfl, hb6⟩
        obtain ⟨hbw, hbf⟩ := HI6.out w6 hb6
        have f0 := heap_cell hbf 0
        have f1 := heap_cell hbf 1
        have f2 := heap_cell hbf 2
        have f3 := heap_cell hbf 3
        have f4 := heap_cell hbf 4
        have f5 := heap_cell hbf 5
        have f6 := heap_cell hbf 6
        simp at f0 f1 f2 f3 f4 f5 f6
        have hs6 := hbw.size
        have HQ6 := Lib.hid (HPR.out.trans (Pr.below hbw (by omega)))
        have H2 := Lib.hid (pfld_any B _ _ [32, 32] d w6 (HLV.out.pr HQ6.out).laid (HO5.out.below hbw) (by omega) HDK.out HFL.out)
        have HBW := Lib.hid hbw
        clear hb6 hbw hbf
        go_wp2_with fail
        refine H2.out.mono ?_
        rintro e w8 ⟨v8, rfl, ho8, hpr8⟩
        go_wp2
        refine ⟨PmRel.mk (k + 1) us ms (X ++ fieldB [32, 32] d) (by go_num) (by omega) (by rw [← List.append_assoc]; exact ho8) HIO.out ((HMA.out.below HBW.out).pr hpr8) HML.out HMO.out (HQ6.out.trans hpr8), by simp [intOf]; omega⟩
      · obtain ⟨j, hj⟩ : ∃ j : Nat, d.one = (j : Int) + 1 := ⟨d.one.toNat - 1, by simp only [inOne, Bool.and_eq_true, decide_eq_true_eq] at hin; omega⟩
        have hoj : oneAt d = j := by unfold oneAt; omega
        have hjn : j < ones.length := by simp only [inOne, Bool.and_eq_true, decide_eq_true_eq] at hin; omega
        have hjm : j < ms.length := by rw [HML.out]; exact hjn
        have hju : j < us.length := by rw [HMA.out.len]; exact hjm
        obtain ⟨u, hu⟩ : ∃ u, us[j]? = some u := ⟨_, List.getElem?_eq_getElem hju⟩
        obtain ⟨lj, hlj⟩ : ∃ lj, ms[j]? = some lj := ⟨_, List.getElem?_eq_getElem hjm⟩
        obtain ⟨x, hx⟩ : ∃ x, ones[j]? = some x := ⟨_, List.getElem?_eq_getElem hjn⟩
        have hio := items_in (ms := ms) (l := l.drop (k + 1)) hin hoj hx hlj
        have hfl : (L ++ lineB [wMessage, [32], name, [32, 123]] ++ X).length + (oneB x lj).length ≤ 1000000000000 := by
          have h2 := HLN.out
          rw [HIT.out, HDR.out, hio] at h2
          simp only [List.length_append] at h2 ⊢
          omega
        have HIO : Hid (itemsB ones (memsB ones.length l) l = (X ++ oneB x lj) ++ itemsB ones (ms.set j []) (l.drop (k + 1))) := Lib.hid (by rw [HIT.out, HDR.out, hio, List.append_assoc])
        have HFL := Lib.hid hfl
        have ew : IntKind.i64.wrap ((d.one : Int) - 1) = (j : Int) := by rw [IntKind.wrap_i64]; omega
        have ei1 : (0 : Int) ≤ (j : Int) := by omega
        have ei2 : (j : Int) < (ones.length : Int) := by omega
        have hmo := HMO.out j lj hlj
        have HMJ := Lib.hid hmo
        have HU := Lib.hid hu
        have HLJ := Lib.hid hlj
        have HXX := Lib.hid hx
        have HJM := Lib.hid hjm
        clear hin hio hfl hj hoj hju hu hlj hx hmo hjm
        rintro e w6 ⟨rfl, hb6⟩
        obtain ⟨hbw, hbf⟩ := HI6.out w6 hb6
        have f3 := heap_cell hbf 3
        simp at f3
        have hs6 := hbw.size
        have hq6 := HPR.out.trans (Pr.below hbw (by omega))
        have hbx6 := (hq6.typed w.heap.size _ _ _ HBOX.out (by decide)).trans HBOX.out
        have n2 := heap_cell hbx6 2
        simp at n2
        obtain ⟨go, rfl, hgo, cx⟩ := strr_at (HO.out.low HOB.out hq6.low) HXX.out
        have hma6 := HMA.out.below hbw
        have cu := hma6.cell HU.out
        have HQ6 := Lib.hid hq6
        have HM6 := Lib.hid hma6
        have H2 := Lib.hid (pone_any B _ u _ x lj w6.drew ((HLV.out.pr HQ6.out).pr (Pr.refl B w6).drew) (Out.below (HO5.out.below hbw) (Below.refl _ _).drew) (own_mono (hma6.drew.row j u lj HU.out HLJ.out) (Nat.zero_le _)) (by show B ≤ w6.heap.size; omega) HMJ.out.1 HFL.out (by have := HMJ.out.2; omega))
        have hkeep : Hid (∀ w', Pr B w6.drew w' → w'.cell? ⟨w.heap.size, 2, none⟩ = some (.slice (some go) ones.length q2) ∧ w'.cell? (go.add j) = some (.string (txt x)) ∧ w'.cell? ⟨g, j, none⟩ = some u) := Lib.hid (fun w' h => by
          have q := (HQ6.out.drew).trans h
          refine ⟨?_, ?_, ((HM6.out.drew).pr h).cell HU.out⟩
          · rw [heap_cell ((q.typed w.heap.size _ _ _ HBOX.out (by decide)).trans HBOX.out)]; rfl
          · obtain ⟨go', hgo', _, cx'⟩ := strr_at (HO.out.low HOB.out q.low) HXX.out
            obtain rfl := Option.some.inj hgo'
            exact cx')
        clear hb6 hbw hbf hq6 hbx6 hma6 c0 c1 c2 c3 c4 c5 c6
        go_wp2_with fail
        go_region_held3 (fun w' => w'.cell? ⟨w.heap.size, 2, none⟩ = some (.slice (some go) ones.length q2) ∧ w'.cell? (go.add j) = some (.string (txt x)) ∧ w'.cell? ⟨g, j, none⟩ = some u)
          (first | exact hkeep.out _ (Pr.refl _ _) | exact hkeep.out _ hpr8 | go_keep)
          ((first
            | (go_at_call 110; refine H2.out.mono ?_; rintro e w8 ⟨v8, rfl, ho8, hpr8⟩)))
        all_goals
          have hm8 := HM6.out.drew.pr hpr8
          have cu8 := hm8.cell HU.out
          have fu8 := heap_free hm8.heap j
          have HM8 := Lib.hid hm8
          clear hm8 cu n2 cx
          go_wp2
          refine ⟨PmRel.mk (k + 1) (us.set j (.slice none 0 0)) (ms.set j []) (X ++ oneB x lj) (by go_num) (by omega) ?_ HIO.out (HM8.out.clear HJM.out) (by simp [HML.out]) ?_ ((HQ6.out.drew.trans hpr8).setCell (by omega) (by simp; omega) _), by simp [intOf]; omega⟩
          · rw [← List.append_assoc]
            exact own_other ho8 (grown_set w8 g j _) HM8.out.heap (by decide)
          · intro i y hy
            rw [List.getElem?_set] at hy
            split at hy
            · split at hy
              · cases hy; exact ⟨fun d hd => (by cases hd), by simp⟩
              · cases hy
            · exact HMO.out i y hy
    · obtain rfl : k = l.length := by omega
      have hix : itemsB ones (memsB ones.length l) l = X := by rw [HIT.out, List.drop_of_length_le (Nat.le_refl _)]; simp [itemsB]
      have hln2 := HLN.out
      rw [hix] at hln2
      have HIX := Lib.hid hix
      have HLN2 := Lib.hid hln2
      have hle1 : (L ++ lineB [wMessage, [32], name, [32, 123]] ++ X).length + (if res = [] then [] else resB res).length + (lineB [[125]]).length ≤ 1000000000000 := by
        simp only [List.length_append] at hln2 ⊢
        omega
      clear hix hln2 m0 m1 m2 m4
      by_cases hr0 : res = []
      · subst hr0
        have hle : (L ++ lineB [wMessage, [32], name, [32, 123]] ++ X).length + ([[125]] : List (List UInt8)).flatten.length ≤ 1000000000000 := by
          unfold lineB at hle1 ⊢
          simp only [List.length_append] at hle1 ⊢
          omega
        have H2 := Lib.hid (line_any B wr.heap.size 1 _ _ [[125]] (wr.alloc (.cells (strv [[125]]).toArray 9)) rfl (HO5.out.alloc _) (heap_alloc_new _ _) (by simp; omega) hle (by simp))
        clear hle hle1
        go_wp2_with fail
        refine H2.out.mono ?_
        rintro e w8 ⟨v8, rfl, ho8, hpr8⟩
        go_wp2
        go_ret
        refine ⟨v8, rfl, ?_, HP0.out.trans ((HPR.out.alloc (by omega) _).trans hpr8)⟩
        rw [HT.out, HIX.out]
        simp only [if_pos, List.append_nil, ← List.append_assoc]
        exact ho8
      · have hrp : 0 < res.length := List.length_pos_iff.2 hr0
        have HIF : Hid ((if res = [] then [] else resB res) = resB res) := Lib.hid (if_neg hr0)
        rw [HIF.out] at hle1
        have hd1 : decide ((0 : Int) < (res.length : Int)) = true := by rw [decide_eq_true_eq]; omega
        have hd2 : decide (0 < res.length) = true := by rw [decide_eq_true_eq]; omega
        have H2 := Lib.hid (pres_raw B _ (.slice A3 res.length q3) _ res wr (HLV.out.pr HPR.out) HO5.out (HR.out.low HPR.out.low) (by omega) HD.out.r (by omega) (by omega))
        have hle : (L ++ lineB [wMessage, [32], name, [32, 123]] ++ X ++ resB res).length + ([[125]] : List (List UInt8)).flatten.length ≤ 1000000000000 := by
          unfold lineB at hle1 ⊢
          simp only [List.length_append] at hle1 ⊢
          omega
        have HLE := Lib.hid hle
        clear hle hle1 hr0
        go_wp2_with fail
        refine H2.out.mono ?_
        rintro e w7 ⟨v7, rfl, ho7, hpr7⟩
        have hs7 := hpr7.size
        have H3 := Lib.hid (line_any B w7.heap.size 1 _ _ [[125]] (w7.alloc (.cells (strv [[125]]).toArray 9)) rfl (ho7.alloc _) (heap_alloc_new _ _) (by simp; omega) HLE.out (by simp))
        go_wp2_with fail
        refine H3.out.mono ?_
        rintro e w8 ⟨v8, rfl, ho8, hpr8⟩
        go_wp2
        go_ret
        refine ⟨v8, rfl, ?_, HP0.out.trans (((HPR.out.trans hpr7).alloc (by omega) _).trans hpr8)⟩
        rw [HT.out, HIX.out, HIF.out]
        simp only [← List.append_assoc]
        exact ho8
end Go.Proofs.YtciiemomfniecaaGreatDoor
/-
  A file that comes in is printed: the contract.
-/
namespace Go.Proofs.YtciiemomfniecaaGreatDoor
set_option maxRecDepth 100000

open Go.RowKit

set_option maxHeartbeats 8000000 in
theorem print_raw (f : Fl) (vM vE : Value) (w : World) (LV : Laid w) (hf : FAt w.heap.size w f vM vE) (hok : FlOk f) (hl : (fileB f).length ≤ 1000000000000) :
    Calls Tryz.prog 28 #[.agg #[vM, vE]] w fun e w' => e = .returned (.string (txt (fileB f))) ∧ Below w.heap.size w w' := by
  obtain ⟨M, E⟩ := f
  obtain ⟨xs, ys, h1, h2, h3, h4⟩ := hf
  simp only at h1 h2 h3 h4
  obtain ⟨A1, q1, rfl, s1, b1⟩ := h1
  obtain ⟨A2, q2, rfl, s2, b2⟩ := h3
  have HM := Lib.hid s1
  have HMB := Lib.hid b1
  have HMA := Lib.hid h2
  have HE := Lib.hid s2
  have HEB := Lib.hid b2
  have HEA := Lib.hid h4
  have hlm := hok.lm
  have hle := hok.le
  simp only at hlm hle
  have HOK := Lib.hid hok
  have HLV := Lib.hid (LaidB.start LV)
  have HT : Hid (fileB ⟨M, E⟩ = listB messageB M ++ listB enumB E) := Lib.hid rfl
  have hln : (listB messageB M).length + (listB enumB E).length ≤ 1000000000000 := by rw [HT.out, List.length_append] at hl; exact hl
  have HLN := Lib.hid hln
  clear hl hln hok s1 b1 h2 s2 b2 h4 LV
  go_enter Tryz.func28, Tryz.ntmps28
  go_wp2
  go_loopw [3, 11] (fun o i wr => PfRel w.heap.size messageB [] M (w.alloc (.cells #[.slice A1 M.length q1, .slice A2 E.length q2] 25)) o i wr) (fun _ i _ => M.length - (intOf i).toNat)
  case atStart => exact PfRel.mk 0 rfl (by omega) (World.ownsRow_nil _ _ _ _) (Pr.refl _ _)
  case round =>
    obtain ⟨k, rfl, hk, ho, hpr⟩ := hrel
    have HO5 := Lib.hid ho
    have hp0 : Pr w.heap.size w (w.alloc (.cells #[.slice A1 M.length q1, .slice A2 E.length q2] 25)) := (Pr.refl _ _).alloc (Nat.le_refl _) _
    have HPW := Lib.hid (hp0.trans hpr)
    have HPR := Lib.hid hpr
    have hsz := hpr.size
    simp at hsz
    clear ho hpr hp0
    by_cases h1 : k < M.length
    · obtain ⟨m, hdk⟩ : ∃ m, M[k]? = some m := ⟨_, List.getElem?_eq_getElem h1⟩
      obtain ⟨ad, vF, vO, vR, rfl, hg, hmr, c0, c1, c2, c3, c4⟩ := msr_at (HM.out.low HMB.out HPW.out.low) (HMA.out.low HPW.out.low) hdk
      have hmok := HOK.out.m m (List.mem_of_getElem? hdk)
      have hft := listB_take messageB M k m hdk
      have hfl := listB_le messageB M (k + 1)
      rw [hft, List.length_append] at hfl
      have HFT := Lib.hid hft
      have hle2 : ([] ++ listB messageB (M.take k)).length + (messageB m).length ≤ 1000000000000 := by
        have := HLN.out
        simp only [List.nil_append]
        omega
      obtain ⟨B1, r1, e1, -, -⟩ := hmr.f
      obtain ⟨B2, r2, e2, -, -⟩ := hmr.o
      obtain ⟨B3, r3, e3, -, -⟩ := hmr.r
      subst e1 e2 e3
      have H2 := Lib.hid (pmsg_raw w.heap.size _ _ _ _ _ m (wr.alloc (.cells #[.string (txt m.name), .slice B1 m.F.length r1, .slice B2 m.ones.length r2, .slice B3 m.res.length r3, .int .i64 m.at_] 51)) ((HLV.out.pr HPW.out).pr ((Pr.refl _ _).alloc (by omega) _)) (HO5.out.alloc _) (hmr.low (Low.alloc _ _ (by omega))) (by simp; omega) hmok hle2)
      have HXM : Hid (MsV m (.slice B1 m.F.length r1) (.slice B2 m.ones.length r2) (.slice B3 m.res.length r3) = .agg #[.string (txt m.name), .slice B1 m.F.length r1, .slice B2 m.ones.length r2, .slice B3 m.res.length r3, .int .i64 m.at_]) := Lib.hid rfl
      rw [HXM.out] at H2
      clear hmok hft hdk hfl hle2 hmr
      go_wp2_with fail
      refine H2.out.mono ?_
      rintro e w8 ⟨v8, rfl, ho8, hpr8⟩
      go_wp2
      refine ⟨PfRel.mk (k + 1) (by go_num) (by omega) ?_ ((HPR.out.trans ((Pr.refl _ _).alloc (by omega) _)).trans hpr8), by simp [intOf]; omega⟩
      rw [HFT.out, ← List.append_assoc]
      exact ho8
    · obtain rfl : k = M.length := by omega
      rw [List.take_of_length_le (Nat.le_refl _), List.nil_append] at HO5
      have hb := (HPR.out.typed w.heap.size _ _ _ (heap_alloc_new w (.cells #[.slice A1 M.length q1, .slice A2 E.length q2] 25)) (by decide)).trans (heap_alloc_new w _)
      have n1 := heap_cell hb 1
      simp at n1
      have HPX := Lib.hid HPW.out
      clear hb
      go_wp2
      go_loopw [3, 22] (fun o i w5 => PfRel w.heap.size enumB (listB messageB M) E wr o i w5) (fun _ i _ => E.length - (intOf i).toNat)
      case atStart => exact PfRel.mk 0 rfl (by omega) (by simpa [listB] using HO5.out) (Pr.refl _ _)
      case round =>
        obtain ⟨k, rfl, hk, ho, hpr⟩ := hrel
        have HO6 := Lib.hid ho
        have HPY := Lib.hid (HPX.out.trans hpr)
        have HPS := Lib.hid hpr
        have hsy := hpr.size
        clear ho hpr
        by_cases h1 : k < E.length
        · obtain ⟨m, hdk⟩ : ∃ m, E[k]? = some m := ⟨_, List.getElem?_eq_getElem h1⟩
          obtain ⟨ad, vV, rfl, hg, hmr, c0, c1, c2⟩ := enr_at (HE.out.low HEB.out HPY.out.low) (HEA.out.low HPY.out.low) hdk
          obtain ⟨hmo1, hmo2⟩ := HOK.out.e m (List.mem_of_getElem? hdk)
          have hft := listB_take enumB E k m hdk
          have hfl := listB_le enumB E (k + 1)
          rw [hft, List.length_append] at hfl
          have HFT := Lib.hid hft
          have hle2 : (listB messageB M ++ listB enumB (E.take k)).length + (enumB m).length ≤ 1000000000000 := by
            have := HLN.out
            rw [List.length_append]
            omega
          obtain ⟨B1, r1, e1, s5, b5⟩ := hmr
          have hmr : EAt w.heap.size wr m vV := ⟨B1, r1, e1, s5, b5⟩
          subst e1
          have H2 := Lib.hid (penum_raw w.heap.size _ _ _ m (wr.alloc (.cells #[.string (txt m.name), .slice B1 m.V.length r1, .int .i64 m.at_] 65)) ((HLV.out.pr HPY.out).pr ((Pr.refl _ _).alloc (by omega) _)) (HO6.out.alloc _) (hmr.low (Low.alloc _ _ (by omega))) (by simp; omega) hmo1 hle2 hmo2)
          have HXM : Hid (EnV m (.slice B1 m.V.length r1) = .agg #[.string (txt m.name), .slice B1 m.V.length r1, .int .i64 m.at_]) := Lib.hid rfl
          rw [HXM.out] at H2
          clear hmo1 hmo2 hft hdk hfl hle2 hmr s5 b5
          go_wp2_with fail
          refine H2.out.mono ?_
          rintro e w8 ⟨v8, rfl, ho8, hpr8⟩
          go_wp2
          refine ⟨PfRel.mk (k + 1) (by go_num) (by omega) ?_ ((HPS.out.trans ((Pr.refl _ _).alloc (by omega) _)).trans hpr8), by simp [intOf]; omega⟩
          rw [HFT.out, ← List.append_assoc]
          exact ho8
        · obtain rfl : k = E.length := by omega
          rw [List.take_of_length_le (Nat.le_refl _)] at HO6
          obtain ⟨A, c, rfl, hr⟩ := SlB.of_own HO6.out
          have hcv := run_str_of_bytes (P := Tryz.prog) wr 106 9 5 Tryz.underlying106 Tryz.underlying5 Tryz.underlying9 A c _ hr
          rw [← HT.out] at hcv
          have HTT := Lib.hid HT.out
          rw [← HT.out]
          clear hr
          go_wp2
          go_ret
          exact ⟨rfl, HPY.out.os, HPY.out.tape, HPY.out.output, HPY.out.size, HPY.out.block⟩
end Go.Proofs.YtciiemomfniecaaGreatDoor
/-
  A file as an argument of a bounded size: no text in it is longer than what was read.
-/
namespace Go.Proofs.YtciiemomfniecaaGreatDoor
set_option maxRecDepth 100000

open Go.RowKit Go.ChangeShapes Go.WideShapes Go.ChangeAt

section

variable {H : Type} {enc : TypeId × Value → H} {W : World} {n : Nat}

theorem bulk_mem : ∀ {l : List (DataW H)} {d : DataW H}, d ∈ l → Rows.uptoBulk d ≤ Rows.uptoBulkAll l
  | [], _, h => by cases h
  | e :: l, d, h => by
    rw [Rows.uptoBulkAll]
    rcases List.mem_cons.1 h with rfl | h
    · omega
    · have := bulk_mem h
      omega
theorem bulk_part {xs : List (DataW H × List MemPlace)} {y : DataW H × List MemPlace} (hy : y ∈ xs) : Rows.uptoBulk y.1 ≤ Rows.uptoBulk (.agg (xs.map (·.1))) := by
  rw [Rows.uptoBulk]
  have := bulk_mem (List.mem_map.2 ⟨y, hy, rfl⟩ : y.1 ∈ xs.map (·.1))
  omega
theorem small_string {x : List UInt8} {y : DataW H × List MemPlace} (h : DataW.trod enc Tryz.prog W 0 (fun _ => true) true n 9 [.string (txt x)] = some y) : x.length ≤ Rows.uptoBulk y.1 := by
  obtain ⟨s, h1, rfl, h2⟩ := DataW.trod_string Tryz.underlying9 h
  simp only [List.cons.injEq, Value.string.injEq, and_true] at h1
  subst h1
  simp only [Rows.uptoBulk]
  have : (txt x).data.toList = x := rfl
  rw [this]
  omega
/-- What is read of a slice's element. -/
theorem small_elem {t e : TypeId} {size : Nat} {ad : Addr} {m c : Nat} {x : DataW H × List MemPlace} (ht : Tryz.prog.underlying t = some (.slice e)) (hc : Tryz.prog.cellsOf e = size)
    (h : DataW.trod enc Tryz.prog W 0 (fun _ => true) true n t [.slice (some ad) m c] = some x) {i : Nat} (hi : i < m) :
    ∃ (cs : List Value) (k : Nat) (y : DataW H × List MemPlace), cs.length = size ∧ (∀ q, q < size → W.cell? ((ad.add (i * size)).add q) = cs[q]?) ∧ DataW.trod enc Tryz.prog W 0 (fun _ => true) true k e cs = some y ∧ Rows.uptoBulk y.1 ≤ Rows.uptoBulk x.1 := by
  rcases Deep.open_slice ht h with ⟨h0, _⟩ | ⟨a, len, cap, m', k, D, Pl, h0, _, hl, hm, hmm, rfl, hx⟩
  · simp at h0
  · simp only [List.cons.injEq, Value.slice.injEq, Option.some.injEq, and_true] at h0
    obtain ⟨rfl, rfl, rfl⟩ := h0
    have hlm : m ≤ m' := by rw [hmm]; split <;> omega
    rw [hc] at hx
    obtain ⟨cs, h1, h2⟩ := hx i (by omega)
    obtain ⟨-, hl2, hcell⟩ := World.cells?_some h1
    refine ⟨cs, k, _, hl2, hcell, h2, ?_⟩
    simp only [Rows.uptoBulk]
    have := bulk_mem (List.mem_map.2 ⟨i, List.mem_range.2 hi, rfl⟩ : D i ∈ (List.range m).map D)
    omega
def TR (enc : TypeId × Value → H) (W : World) (n : Nat) (t : TypeId) (cs : List Value) (y : DataW H × List MemPlace) : Prop := DataW.trod enc Tryz.prog W 0 (fun _ => true) true n t cs = some y
structure FdSmall (N : Nat) (d : Fd) : Prop where
  type : d.type.length ≤ N
  key : d.key.length ≤ N
  name : d.name.length ≤ N
structure MsSmall (N : Nat) (m : Ms) : Prop where
  name : m.name.length ≤ N
  F : ∀ d ∈ m.F, FdSmall N d
  ones : ∀ x ∈ m.ones, x.length ≤ N
structure EnSmall (N : Nat) (e : En) : Prop where
  name : e.name.length ≤ N
  V : ∀ v ∈ e.V, v.name.length ≤ N
structure FlSmall (N : Nat) (f : Fl) : Prop where
  M : ∀ m ∈ f.M, MsSmall N m
  E : ∀ e ∈ f.E, EnSmall N e
theorem small_fd {cs : List Value} {y : DataW H × List MemPlace} {v2 v3 v5 v6 : Value} {d : Fd} (hc : cs = [.string (txt d.type), .string (txt d.key), v2, v3, .string (txt d.name), v5, v6]) (h : DataW.trod enc Tryz.prog W 0 (fun _ => true) true n 53 cs = some y) : FdSmall (Rows.uptoBulk y.1) d := by
  subst hc
  obtain ⟨xs, k, -, hy, -, hxl, hg⟩ := DataW.trod_struct Tryz.underlying53 h
  have hx7 : xs.length = 7 := hxl
  obtain ⟨x0, x1, x2, x3, x4, x5, x6, rfl⟩ := list7 hx7
  have g0 : DataW.trod enc Tryz.prog W 0 (fun _ => true) true k 9 (List.take (Tryz.prog.cellsOf 9) [.string (txt d.type), .string (txt d.key), v2, v3, .string (txt d.name), v5, v6]) = some x0 := hg 0 _ rfl
  have g1 : DataW.trod enc Tryz.prog W 0 (fun _ => true) true k 9 (List.take (Tryz.prog.cellsOf 9) [.string (txt d.key), v2, v3, .string (txt d.name), v5, v6]) = some x1 := hg 1 _ rfl
  have g4 : DataW.trod enc Tryz.prog W 0 (fun _ => true) true k 9 (List.take (Tryz.prog.cellsOf 9) [.string (txt d.name), v5, v6]) = some x4 := hg 4 _ rfl
  rw [k_string] at g0 g1 g4
  have e : y.1 = _ := congrArg Prod.fst hy
  rw [e]
  exact ⟨Nat.le_trans (small_string g0) (bulk_part (by simp)), Nat.le_trans (small_string g1) (bulk_part (by simp)), Nat.le_trans (small_string g4) (bulk_part (by simp))⟩
theorem small_vl {cs : List Value} {y : DataW H × List MemPlace} {v1 v2 : Value} {d : Vl} (hc : cs = [.string (txt d.name), v1, v2]) (h : DataW.trod enc Tryz.prog W 0 (fun _ => true) true n 83 cs = some y) : d.name.length ≤ Rows.uptoBulk y.1 := by
  subst hc
  obtain ⟨xs, k, -, hy, -, hxl, hg⟩ := DataW.trod_struct Tryz.underlying83 h
  have hx3 : xs.length = 3 := hxl
  obtain ⟨x0, x1, x2, rfl⟩ := list3 hx3
  have g0 : DataW.trod enc Tryz.prog W 0 (fun _ => true) true k 9 (List.take (Tryz.prog.cellsOf 9) [.string (txt d.name), v1, v2]) = some x0 := hg 0 _ rfl
  rw [k_string] at g0
  have e : y.1 = _ := congrArg Prod.fst hy
  rw [e]
  exact Nat.le_trans (small_string g0) (bulk_part (by simp))
theorem q_at {W : World} {ad : Addr} {cs : List Value} {size : Nat} {u : Value} (hq : ∀ q, q < size → W.cell? (ad.add q) = cs[q]?) (q : Nat) (hs : q < size) (h : W.cell? (ad.add q) = some u) : cs[q]? = some u := (hq q hs).symm.trans h
theorem small_fds {v : Value} {l : List Fd} {x : DataW H × List MemPlace} (hr : Rb W.heap.size W v l.length 7 (fdv l)) (h : DataW.trod enc Tryz.prog W 0 (fun _ => true) true n 47 [v] = some x) : ∀ d ∈ l, FdSmall (Rows.uptoBulk x.1) d := by
  intro d hd
  obtain ⟨i, hi⟩ := List.mem_iff_getElem?.1 hd
  obtain ⟨A, c, rfl, hs, -⟩ := hr
  obtain ⟨ad, rfl, -, c0, c1, c2, c3, c4, c5, c6⟩ := fdr_at hs hi
  obtain ⟨cs, k, y, hl, hq, hy, hb⟩ := small_elem Tryz.underlying47 k_fd h (List.getElem?_eq_some_iff.1 hi).1
  obtain ⟨v0, v1, v2, v3, v4, v5, v6, rfl⟩ := list7 hl
  have e0 := Option.some.inj (q_at hq 0 (by omega) c0)
  have e1 := Option.some.inj (q_at hq 1 (by omega) c1)
  have e4 := Option.some.inj (q_at hq 4 (by omega) c4)
  subst e0 e1 e4
  have r := small_fd rfl hy
  exact ⟨Nat.le_trans r.type hb, Nat.le_trans r.key hb, Nat.le_trans r.name hb⟩
theorem small_vls {v : Value} {l : List Vl} {x : DataW H × List MemPlace} (hr : Rb W.heap.size W v l.length 3 (vlv l)) (h : DataW.trod enc Tryz.prog W 0 (fun _ => true) true n 63 [v] = some x) : ∀ d ∈ l, d.name.length ≤ Rows.uptoBulk x.1 := by
  intro d hd
  obtain ⟨i, hi⟩ := List.mem_iff_getElem?.1 hd
  obtain ⟨A, c, rfl, hs, -⟩ := hr
  obtain ⟨ad, rfl, -, c0, c1, c2⟩ := vlr_at hs hi
  obtain ⟨cs, k, y, hl, hq, hy, hb⟩ := small_elem Tryz.underlying63 k_vl h (List.getElem?_eq_some_iff.1 hi).1
  obtain ⟨v0, v1, v2, rfl⟩ := list3 hl
  have e0 := Option.some.inj (q_at hq 0 (by omega) c0)
  subst e0
  exact Nat.le_trans (small_vl rfl hy) hb
theorem small_strs {v : Value} {l : List (List UInt8)} {x : DataW H × List MemPlace} (hr : Rb W.heap.size W v l.length 1 (strv l)) (h : DataW.trod enc Tryz.prog W 0 (fun _ => true) true n 48 [v] = some x) : ∀ d ∈ l, d.length ≤ Rows.uptoBulk x.1 := by
  intro d hd
  obtain ⟨i, hi⟩ := List.mem_iff_getElem?.1 hd
  obtain ⟨A, c, rfl, hs, -⟩ := hr
  obtain ⟨ad, rfl, -, c0⟩ := strr_at hs hi
  obtain ⟨cs, k, y, hl, hq, hy, hb⟩ := small_elem Tryz.underlying48 k_string h (List.getElem?_eq_some_iff.1 hi).1
  obtain ⟨v0, rfl⟩ := list1 hl
  rw [Nat.mul_one] at hq
  have e0 := Option.some.inj (q_at hq 0 (by omega) c0)
  subst e0
  exact Nat.le_trans (small_string hy) hb
theorem small_mss {v : Value} {l : List Ms} {xs : List Value} {x : DataW H × List MemPlace} (hr : Rb W.heap.size W v l.length 5 xs) (ha : MsAt W.heap.size W l xs) (h : DataW.trod enc Tryz.prog W 0 (fun _ => true) true n 22 [v] = some x) : ∀ m ∈ l, MsSmall (Rows.uptoBulk x.1) m := by
  intro d hd
  obtain ⟨i, hi⟩ := List.mem_iff_getElem?.1 hd
  obtain ⟨A, c, rfl, hs, -⟩ := hr
  obtain ⟨ad, vF, vO, vR, rfl, -, hm, c0, c1, c2, c3, c4⟩ := msr_at hs ha hi
  obtain ⟨cs, k, y, hl, hq, hy, hb⟩ := small_elem Tryz.underlying22 k_ms h (List.getElem?_eq_some_iff.1 hi).1
  obtain ⟨v0, v1, v2, v3, v4, rfl⟩ := list5 hl
  have e0 := Option.some.inj (q_at hq 0 (by omega) c0)
  have e1 := Option.some.inj (q_at hq 1 (by omega) c1)
  have e2 := Option.some.inj (q_at hq 2 (by omega) c2)
  subst e0 e1 e2
  obtain ⟨zs, k2, -, hz, -, hxl, hg⟩ := DataW.trod_struct Tryz.underlying51 hy
  have hx5 : zs.length = 5 := hxl
  obtain ⟨x0, x1, x2, x3, x4, rfl⟩ := list5 hx5
  have g0 : DataW.trod enc Tryz.prog W 0 (fun _ => true) true k2 9 (List.take (Tryz.prog.cellsOf 9) [.string (txt d.name), v1, v2, v3, v4]) = some x0 := hg 0 _ rfl
  have g1 : DataW.trod enc Tryz.prog W 0 (fun _ => true) true k2 47 (List.take (Tryz.prog.cellsOf 47) [v1, v2, v3, v4]) = some x1 := hg 1 _ rfl
  have g2 : DataW.trod enc Tryz.prog W 0 (fun _ => true) true k2 48 (List.take (Tryz.prog.cellsOf 48) [v2, v3, v4]) = some x2 := hg 2 _ rfl
  rw [k_string] at g0
  rw [k_fds] at g1
  rw [k_strs] at g2
  have e : y.1 = _ := congrArg Prod.fst hz
  rw [e] at hb
  refine ⟨Nat.le_trans (small_string g0) (Nat.le_trans (bulk_part (by simp)) hb), fun f hf => ?_, fun f hf => ?_⟩
  · have r := small_fds hm.f g1 f hf
    have hle : Rows.uptoBulk x1.1 ≤ Rows.uptoBulk x.1 := Nat.le_trans (bulk_part (by simp)) hb
    exact ⟨Nat.le_trans r.type hle, Nat.le_trans r.key hle, Nat.le_trans r.name hle⟩
  · exact Nat.le_trans (small_strs hm.o g2 f hf) (Nat.le_trans (bulk_part (by simp)) hb)
theorem small_ens {v : Value} {l : List En} {xs : List Value} {x : DataW H × List MemPlace} (hr : Rb W.heap.size W v l.length 3 xs) (ha : EnAt W.heap.size W l xs) (h : DataW.trod enc Tryz.prog W 0 (fun _ => true) true n 23 [v] = some x) : ∀ m ∈ l, EnSmall (Rows.uptoBulk x.1) m := by
  intro d hd
  obtain ⟨i, hi⟩ := List.mem_iff_getElem?.1 hd
  obtain ⟨A, c, rfl, hs, -⟩ := hr
  obtain ⟨ad, vV, rfl, -, hm, c0, c1, c2⟩ := enr_at hs ha hi
  obtain ⟨cs, k, y, hl, hq, hy, hb⟩ := small_elem Tryz.underlying23 k_en h (List.getElem?_eq_some_iff.1 hi).1
  obtain ⟨v0, v1, v2, rfl⟩ := list3 hl
  have e0 := Option.some.inj (q_at hq 0 (by omega) c0)
  have e1 := Option.some.inj (q_at hq 1 (by omega) c1)
  subst e0 e1
  obtain ⟨zs, k2, -, hz, -, hxl, hg⟩ := DataW.trod_struct Tryz.underlying65 hy
  have hx5 : zs.length = 3 := hxl
  obtain ⟨x0, x1, x2, rfl⟩ := list3 hx5
  have g0 : DataW.trod enc Tryz.prog W 0 (fun _ => true) true k2 9 (List.take (Tryz.prog.cellsOf 9) [.string (txt d.name), v1, v2]) = some x0 := hg 0 _ rfl
  have g1 : DataW.trod enc Tryz.prog W 0 (fun _ => true) true k2 63 (List.take (Tryz.prog.cellsOf 63) [v1, v2]) = some x1 := hg 1 _ rfl
  rw [k_string] at g0
  rw [k_vls] at g1
  have e : y.1 = _ := congrArg Prod.fst hz
  rw [e] at hb
  exact ⟨Nat.le_trans (small_string g0) (Nat.le_trans (bulk_part (by simp)) hb), fun f hf => Nat.le_trans (small_vls hm g1 f hf) (Nat.le_trans (bulk_part (by simp)) hb)⟩
theorem small_file {vM vE : Value} {f : Fl} {d : DataW H} {ps : List MemPlace} (hf : FAt W.heap.size W f vM vE) (h : DataW.Trod enc Tryz.prog W 0 (fun _ => true) true 25 (.agg #[vM, vE]) d ps) : FlSmall (Rows.uptoBulk d) f := by
  obtain ⟨xs, ys, h1, h2, h3, h4⟩ := hf
  obtain ⟨fuel, hf⟩ := h
  obtain ⟨zs, k, -, hz, -, hxl, hg⟩ := DataW.trod_struct Tryz.underlying25 hf
  have hx2 : zs.length = 2 := hxl
  obtain ⟨x0, x1, rfl⟩ := list2 hx2
  have g0 : DataW.trod enc Tryz.prog W 0 (fun _ => true) true k 22 (List.take (Tryz.prog.cellsOf 22) [vM, vE]) = some x0 := hg 0 _ rfl
  have g1 : DataW.trod enc Tryz.prog W 0 (fun _ => true) true k 23 (List.take (Tryz.prog.cellsOf 23) [vE]) = some x1 := hg 1 _ rfl
  rw [k_mss] at g0
  rw [k_ens] at g1
  have e : d = _ := congrArg Prod.fst hz
  rw [e]
  refine ⟨fun m hm => ?_, fun m hm => ?_⟩
  · have r := small_mss h1 h2 g0 m hm
    have hle : Rows.uptoBulk x0.1 ≤ Rows.uptoBulk (.agg ([x0, x1].map (·.1))) := bulk_part (by simp)
    exact ⟨Nat.le_trans r.name hle, fun f hf => ⟨Nat.le_trans (r.F f hf).type hle, Nat.le_trans (r.F f hf).key hle, Nat.le_trans (r.F f hf).name hle⟩, fun f hf => Nat.le_trans (r.ones f hf) hle⟩
  · have r := small_ens h3 h4 g1 m hm
    have hle : Rows.uptoBulk x1.1 ≤ Rows.uptoBulk (.agg ([x0, x1].map (·.1))) := bulk_part (by simp)
    exact ⟨Nat.le_trans r.name hle, fun f hf => Nat.le_trans (r.V f hf) hle⟩
theorem FlSmall.le {N M : Nat} {f : Fl} (h : FlSmall N f) (hle : N ≤ M) : FlSmall M f :=
  ⟨fun m hm => ⟨Nat.le_trans (h.M m hm).name hle, fun d hd => ⟨Nat.le_trans ((h.M m hm).F d hd).type hle, Nat.le_trans ((h.M m hm).F d hd).key hle, Nat.le_trans ((h.M m hm).F d hd).name hle⟩, fun x hx => Nat.le_trans ((h.M m hm).ones x hx) hle⟩,
    fun e he => ⟨Nat.le_trans (h.E e he).name hle, fun v hv => Nat.le_trans ((h.E e he).V v hv) hle⟩⟩
theorem small_upto {vM vE : Value} {f : Fl} {d : DataW H} {ps : List MemPlace} (hf : FAt W.heap.size W f vM vE) (h : DataW.Trod enc Tryz.prog W 0 (fun _ => true) true 25 (.agg #[vM, vE]) d ps) (hb : Rows.uptoBulk d ≤ 1048576) : FlSmall 1048576 f := (small_file hf h).le hb
end

end Go.Proofs.YtciiemomfniecaaGreatDoor
/-
  How long a file's text is, where the file is not too great.
-/
namespace Go.Proofs.YtciiemomfniecaaGreatDoor
set_option maxRecDepth 100000

open Go.RowKit

theorem itoa_short {n : Int} (h : inr n) : (digB n).length ≤ 20 := by
  unfold digB
  by_cases hn : n < 0
  · rw [itoa_neg n hn, List.length_cons, Lib.decDigits_length]
    have := nDigits_le 18 n.natAbs (by have : (10 : Nat) ^ (18 + 1) = 10000000000000000000 := by decide
                                       have := h.1
                                       omega)
    omega
  · rw [itoa_nonneg n (by omega), Lib.decDigits_length]
    have := nDigits_le 18 n.toNat (by have : (10 : Nat) ^ (18 + 1) = 10000000000000000000 := by decide
                                      have := h.2
                                      omega)
    omega
theorem flatB_le {α : Type} (g : α → List UInt8) (C : Nat) : ∀ l : List α, (∀ x ∈ l, (g x).length ≤ C) → ((l.map g).flatten).length ≤ l.length * C
  | [], _ => by simp
  | x :: l, h => by
    have h1 := h x (by simp)
    have h2 := flatB_le g C l fun y hy => h y (by simp [hy])
    rw [List.map_cons, List.flatten_cons, List.length_append, List.length_cons, Nat.succ_mul]
    omega
theorem field_le {a : List UInt8} {d : Fd} (ha : a.length ≤ 4) (hd : FdSmall 1048576 d) (hn : inr d.no) : (fieldB a d).length ≤ 3145788 := by
  have h1 := hd.type
  have h2 := hd.key
  have h3 := hd.name
  have h4 := itoa_short hn
  have h5 : (typeB d).length ≤ d.type.length + d.key.length + 10 := by
    unfold typeB
    split
    · simp; omega
    · split
      · simp; omega
      · omega
  unfold fieldB lineB
  simp only [List.flatten_cons, List.flatten_nil, List.length_append, List.length_cons, List.length_nil]
  omega
theorem one_le {x : List UInt8} {l : List Fd} (hx : x.length ≤ 1048576) (hl : l.length ≤ 40) (hd : ∀ d ∈ l, FdSmall 1048576 d ∧ inr d.no) : (oneB x l).length ≤ 127000000 := by
  unfold oneB
  split
  · simp
  · have h1 := flatB_le (fieldB [32, 32, 32, 32]) 3145788 l fun d h => field_le (by simp) (hd d h).1 (hd d h).2
    have h2 : l.length * 3145788 ≤ 40 * 3145788 := Nat.mul_le_mul_right _ hl
    have hw : wOneof.length = 5 := rfl
    unfold fieldsB lineB
    simp only [List.flatten_cons, List.flatten_nil, List.length_append, List.length_cons, List.length_nil, hw]
    omega
def MemOk (ms : List (List Fd)) : Prop := ∀ x ∈ ms, x.length ≤ 40 ∧ ∀ d ∈ x, FdSmall 1048576 d ∧ inr d.no
theorem MemOk.at {ms : List (List Fd)} (h : MemOk ms) (k : Nat) : (ms.getD k []).length ≤ 40 ∧ ∀ d ∈ ms.getD k [], FdSmall 1048576 d ∧ inr d.no := by
  rw [List.getD_eq_getElem?_getD]
  cases hk : ms[k]? with
  | none => exact ⟨by simp, fun d hd => by simp at hd⟩
  | some x => exact h x (List.mem_of_getElem? hk)
theorem MemOk.set {ms : List (List Fd)} (h : MemOk ms) (k : Nat) {x : List Fd} (hx : x.length ≤ 40 ∧ ∀ d ∈ x, FdSmall 1048576 d ∧ inr d.no) : MemOk (ms.set k x) := by
  intro y hy
  rcases List.mem_or_eq_of_mem_set hy with hy | rfl
  · exact h y hy
  · exact hx
theorem items_le {ones : List (List UInt8)} (ho : ∀ x ∈ ones, x.length ≤ 1048576) : ∀ (l : List Fd) (ms : List (List Fd)), MemOk ms → (∀ d ∈ l, FdSmall 1048576 d ∧ inr d.no) → (itemsB ones ms l).length ≤ l.length * 127000000
  | [], _, _, _ => by simp [itemsB]
  | d :: l, ms, hm, hd => by
    unfold itemsB
    rw [List.length_cons, Nat.succ_mul]
    split
    · have h1 := items_le ho l (ms.set (oneAt d) []) (hm.set _ ⟨by simp, fun _ h => by simp at h⟩) fun x hx => hd x (by simp [hx])
      have hn : (ones.getD (oneAt d) []).length ≤ 1048576 := by
        rw [List.getD_eq_getElem?_getD]
        cases hk : ones[oneAt d]? with
        | none => simp
        | some x => exact ho x (List.mem_of_getElem? hk)
      have h2 := one_le hn (hm.at (oneAt d)).1 (hm.at (oneAt d)).2
      rw [List.length_append]
      omega
    · have h1 := items_le ho l ms hm fun x hx => hd x (by simp [hx])
      have h2 := field_le (a := [32, 32]) (by simp) (hd d (by simp)).1 (hd d (by simp)).2
      rw [List.length_append]
      omega
theorem mems_in {n : Nat} {P : Fd → Prop} : ∀ (l : List Fd) (ms : List (List Fd)), (∀ x ∈ ms, ∀ d ∈ x, P d) → (∀ d ∈ l, P d) → ∀ x ∈ l.foldl (memStep n) ms, ∀ d ∈ x, P d
  | [], _, h, _ => h
  | d :: l, ms, h, hl => by
    rw [List.foldl_cons]
    refine mems_in l _ (fun x hx => ?_) fun e he => hl e (by simp [he])
    unfold memStep at hx
    split at hx
    · rcases List.mem_or_eq_of_mem_set hx with hx | rfl
      · exact h x hx
      · intro e he
        rcases List.mem_append.1 he with he | he
        · rw [List.getD_eq_getElem?_getD] at he
          cases hk : ms[oneAt d]? with
          | none => rw [hk] at he; simp at he
          | some y => rw [hk] at he; exact h y (List.mem_of_getElem? hk) e he
        · obtain rfl : e = d := by simpa using he
          exact hl e (by simp)
    · exact h x hx
theorem mems_ok {n : Nat} {l : List Fd} (hl : l.length ≤ 40) (hd : ∀ d ∈ l, FdSmall 1048576 d ∧ inr d.no) : MemOk (memsB n l) := by
  intro x hx
  refine ⟨?_, mems_in l _ (fun y hy => ?_) hd x hx⟩
  · obtain ⟨k, hk⟩ := List.mem_iff_getElem?.1 hx
    have := memsB_few n l k
    rw [List.getD_eq_getElem?_getD, hk] at this
    exact Nat.le_trans this hl
  · intro d h
    obtain rfl := List.eq_of_mem_replicate hy
    simp at h
theorem nums_le : ∀ (l : List Int) (a : List UInt8), a.length ≤ 2 → (∀ n ∈ l, inr n) → (numsB a l).length ≤ l.length * 22
  | [], _, _, _ => by simp [numsB]
  | n :: l, a, ha, h => by
    have h1 := nums_le l [44, 32] (by simp) fun m hm => h m (by simp [hm])
    have h2 := itoa_short (h n (by simp))
    unfold numsB
    rw [List.length_append, List.length_append, List.length_cons, Nat.succ_mul]
    omega
theorem message_le {m : Ms} (hs : MsSmall 1048576 m) (hi : MsIn m) (hf : fewM m = true) : (messageB m).length ≤ 5090000000 := by
  simp only [fewM, Bool.and_eq_true, decide_eq_true_eq] at hf
  have hd : ∀ d ∈ m.F, FdSmall 1048576 d ∧ inr d.no := fun d h => ⟨hs.F d h, (hi.F d h).no⟩
  have h1 := items_le hs.ones m.F _ (mems_ok (n := m.ones.length) hf.1.1 hd) hd
  have h2 : m.F.length * 127000000 ≤ 40 * 127000000 := Nat.mul_le_mul_right _ hf.1.1
  have h3 := nums_le m.res [32] (by simp) hi.res
  have h4 := hs.name
  have h5 := hf.2
  have hw : wMessage.length = 7 := rfl
  have h6 : (if m.res = [] then [] else resB m.res).length ≤ 1000 := by
    split
    · simp
    · unfold resB lineB
      simp only [List.flatten_cons, List.flatten_nil, List.length_append, List.length_cons, List.length_nil]
      omega
  unfold messageB lineB
  simp only [List.flatten_cons, List.flatten_nil, List.length_append, List.length_cons, List.length_nil, hw]
  omega
theorem enum_le {e : En} (hs : EnSmall 1048576 e) (hi : EnIn e) (hf : fewE e = true) : (enumB e).length ≤ 50000000 := by
  simp only [fewE, decide_eq_true_eq] at hf
  have h1 := flatB_le valB 1048640 e.V fun v hv => by
    have h1 := hs.V v hv
    have h2 := itoa_short (hi.V v hv).n
    unfold valB lineB
    simp only [List.flatten_cons, List.flatten_nil, List.length_append, List.length_cons, List.length_nil]
    omega
  have h2 : e.V.length * 1048640 ≤ 40 * 1048640 := Nat.mul_le_mul_right _ hf
  have h4 := hs.name
  have hw : wEnum.length = 4 := rfl
  unfold enumB lineB
  simp only [List.flatten_cons, List.flatten_nil, List.length_append, List.length_cons, List.length_nil, hw]
  omega
/-- A file that is not too great has a text of at most so many bytes. -/
theorem file_le {f : Fl} (hs : FlSmall 1048576 f) (hi : FlIn f) (hf : fewF f = true) : (fileB f).length ≤ 1000000000000 := by
  simp only [fewF, Bool.and_eq_true, decide_eq_true_eq, List.all_eq_true] at hf
  obtain ⟨⟨⟨f1, f2⟩, f3⟩, f4⟩ := hf
  have h1 := flatB_le messageB 5090000000 f.M fun m hm => message_le (hs.M m hm) (hi.M m hm) (f3 m hm)
  have h2 := flatB_le enumB 50000000 f.E fun e he => enum_le (hs.E e he) (hi.E e he) (f4 e he)
  have h3 : f.M.length * 5090000000 ≤ 30 * 5090000000 := Nat.mul_le_mul_right _ f1
  have h4 : f.E.length * 50000000 ≤ 30 * 50000000 := Nat.mul_le_mul_right _ f2
  unfold fileB
  rw [List.length_append]
  omega
theorem file_ok {f : Fl} (hs : FlSmall 1048576 f) (hi : FlIn f) (hf : fewF f = true) : FlOk f := by
  simp only [fewF, Bool.and_eq_true, decide_eq_true_eq, List.all_eq_true] at hf
  obtain ⟨⟨⟨f1, f2⟩, f3⟩, f4⟩ := hf
  refine ⟨fun m hm => ?_, fun e he => ⟨fun d hd => ?_, ?_⟩, by omega, by omega⟩
  · have g := f3 m hm
    simp only [fewM, Bool.and_eq_true, decide_eq_true_eq] at g
    have a := hs.M m hm
    have b := hi.M m hm
    refine ⟨fun d hd => ?_, fun n hn => b.res n hn, by omega, by omega, by omega⟩
    have c := a.F d hd
    have c1 := c.key
    have c2 := c.type
    have c3 := c.name
    exact ⟨by omega, by omega, by omega, ((b.F d hd).no).1, ((b.F d hd).no).2⟩
  · exact ⟨(((hi.E e he).V d hd).n).1, (((hi.E e he).V d hd).n).2⟩
  · have g := f4 e he
    simp only [fewE, decide_eq_true_eq] at g
    omega
end Go.Proofs.YtciiemomfniecaaGreatDoor
/-
  A file without the places where things begin.
-/
namespace Go.Proofs.YtciiemomfniecaaGreatDoor
set_option maxRecDepth 100000

def bareFd (d : Fd) : Fd := { d with at_ := 0 }
def bareVl (d : Vl) : Vl := { d with at_ := 0 }
def bareMs (m : Ms) : Ms := { m with F := m.F.map bareFd, at_ := 0 }
def bareEn (e : En) : En := { e with V := e.V.map bareVl, at_ := 0 }
def bareFl (f : Fl) : Fl := ⟨f.M.map bareMs, f.E.map bareEn⟩
end Go.Proofs.YtciiemomfniecaaGreatDoor
