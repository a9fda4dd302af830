/-
  A file is printed: the contract.
-/
import Derived.Test.YtldgfepimegbmaaDoorProPmsg
namespace Go.Proofs.YtldgfepimegbmaaDoor
set_option maxRecDepth 100000
open Go.RowKit

theorem ms_at {w : World} : ∀ {l : List Ms} {xs : List Value}, MsAre w l xs → ∀ {k : Nat} {m : Ms}, l[k]? = some m → ∃ vF vO vR, MRead w m vF vO vR ∧ ∀ j, j < 5 → xs[k * 5 + j]? = (MC m vF vO vR)[j]?
  | [], _, _, k, m, hk => by simp at hk
  | x :: l, xs, ⟨vF, vO, vR, ys, h1, h2, h3⟩, 0, m, hk => by
    obtain rfl : x = m := by simpa using hk
    refine ⟨vF, vO, vR, h2, fun j hj => ?_⟩
    rw [h1, Nat.zero_mul, Nat.zero_add, List.getElem?_append_left (by simp [MC]; omega)]
  | x :: l, xs, ⟨vF, vO, vR, ys, h1, h2, h3⟩, k + 1, m, hk => by
    obtain ⟨a, b, c, h4, h5⟩ := ms_at h3 (k := k) (m := m) (by simpa using hk)
    refine ⟨a, b, c, h4, fun j hj => ?_⟩
    rw [h1, List.getElem?_append_right (by simp [MC]; omega), ← h5 j hj]
    congr 1
    simp [MC]; omega
theorem en_at {w : World} : ∀ {l : List En} {xs : List Value}, EnAre w l xs → ∀ {k : Nat} {m : En}, l[k]? = some m → ∃ vV, ERead w m vV ∧ ∀ j, j < 3 → xs[k * 3 + j]? = (EC m vV)[j]?
  | [], _, _, k, m, hk => by simp at hk
  | x :: l, xs, ⟨vV, ys, h1, h2, h3⟩, 0, m, hk => by
    obtain rfl : x = m := by simpa using hk
    refine ⟨vV, h2, fun j hj => ?_⟩
    rw [h1, Nat.zero_mul, Nat.zero_add, List.getElem?_append_left (by simp [EC]; omega)]
  | x :: l, xs, ⟨vV, ys, h1, h2, h3⟩, k + 1, m, hk => by
    obtain ⟨a, h4, h5⟩ := en_at h3 (k := k) (m := m) (by simpa using hk)
    refine ⟨a, h4, fun j hj => ?_⟩
    rw [h1, List.getElem?_append_right (by simp [EC]; omega), ← h5 j hj]
    congr 1
    simp [EC]; omega
/-- Message k of a row, as it lies there. -/
theorem msrow_at {w : World} {b : Nat} {v : Value} {l : List Ms} {xs : List Value} (h : w.ownsRow b 34 5 v l.length xs) (ha : MsAre w l xs) {k : Nat} {m : Ms} (hk : l[k]? = some m) :
    ∃ g cap vF vO vR, v = .slice (some ⟨g, 0, none⟩) l.length cap ∧ g < w.heap.size ∧ MRead w m vF vO vR ∧ w.cell? ⟨g, k * 5, none⟩ = some (.string (txt m.name)) ∧ w.cell? ⟨g, k * 5 + 1, none⟩ = some vF ∧ w.cell? ⟨g, k * 5 + 2, none⟩ = some vO ∧
      w.cell? ⟨g, k * 5 + 3, none⟩ = some vR ∧ w.cell? ⟨g, k * 5 + 4, none⟩ = some (.int .i64 m.at_) := by
  have hlt : k < l.length := (List.getElem?_eq_some_iff.1 hk).1
  obtain ⟨vF, vO, vR, hr, hx⟩ := ms_at ha hk
  rcases h.2 with ⟨_, h0⟩ | ⟨g, cap, cur, rfl, _, hh, _⟩
  · omega
  · have key : ∀ (j : Nat) (hj : j < 5) (u : Value), (MC m vF vO vR)[j]? = some u → w.cell? ⟨g, k * 5 + j, none⟩ = some u := by
      intro j hj u hu
      have := h.cells (g := g) rfl (k * 5 + j) u (by rw [hx j hj, hu])
      simpa [Addr.add_lit] using this
    exact ⟨g, cap, vF, vO, vR, rfl, (Array.getElem?_eq_some_iff.1 hh).1, hr, key 0 (by omega) _ rfl, key 1 (by omega) _ rfl, key 2 (by omega) _ rfl, key 3 (by omega) _ rfl, key 4 (by omega) _ rfl⟩
theorem enrow_at {w : World} {b : Nat} {v : Value} {l : List En} {xs : List Value} (h : w.ownsRow b 58 3 v l.length xs) (ha : EnAre w l xs) {k : Nat} {m : En} (hk : l[k]? = some m) :
    ∃ g cap vV, v = .slice (some ⟨g, 0, none⟩) l.length cap ∧ g < w.heap.size ∧ ERead w m vV ∧ w.cell? ⟨g, k * 3, none⟩ = some (.string (txt m.name)) ∧ w.cell? ⟨g, k * 3 + 1, none⟩ = some vV ∧ w.cell? ⟨g, k * 3 + 2, none⟩ = some (.int .i64 m.at_) := by
  have hlt : k < l.length := (List.getElem?_eq_some_iff.1 hk).1
  obtain ⟨vV, hr, hx⟩ := en_at ha hk
  rcases h.2 with ⟨_, h0⟩ | ⟨g, cap, cur, rfl, _, hh, _⟩
  · omega
  · have key : ∀ (j : Nat) (hj : j < 3) (u : Value), (EC m vV)[j]? = some u → w.cell? ⟨g, k * 3 + j, none⟩ = some u := by
      intro j hj u hu
      have := h.cells (g := g) rfl (k * 3 + j) u (by rw [hx j hj, hu])
      simpa [Addr.add_lit] using this
    exact ⟨g, cap, vV, rfl, (Array.getElem?_eq_some_iff.1 hh).1, hr, key 0 (by omega) _ rfl, key 1 (by omega) _ rfl, key 2 (by omega) _ rfl⟩
structure FlOk (f : Fl) : Prop where
  m : ∀ m ∈ f.M, MsOk m
  e : ∀ e ∈ f.E, (∀ d ∈ e.V, VlOk d) ∧ e.V.length ≤ 1000000
  lm : f.M.length ≤ 1000000
  le : f.E.length ≤ 1000000
def listB {α : Type} (g : α → List UInt8) (l : List α) : List UInt8 := (l.map g).flatten
theorem listB_take {α : Type} (g : α → List UInt8) (l : List α) (k : Nat) (d : α) (h : l[k]? = some d) : listB g (l.take (k + 1)) = listB g (l.take k) ++ g d := by
  rw [List.take_add_one, h]; simp [listB]
theorem listB_le {α : Type} (g : α → List UInt8) (l : List α) (k : Nat) : (listB g (l.take k)).length ≤ (listB g l).length := by
  conv => rhs; rw [← List.take_append_drop k l]
  simp only [listB, List.map_append, List.flatten_append, List.length_append]
  omega
def PfRel {α : Type} (B : Nat) (g : α → List UInt8) (L : List UInt8) (l : List α) (w : World) (o i : Value) (wr : World) : Prop := ∃ k : Nat, i = .int .i64 k ∧ k ≤ l.length ∧ Out B wr o (L ++ listB g (l.take k)) ∧ Pr B w wr
theorem PfRel.mk {α : Type} {B : Nat} {g : α → List UInt8} {L : List UInt8} {l : List α} {w wr : World} {o i : Value} (k : Nat) (h1 : i = .int .i64 k) (h2 : k ≤ l.length) (h3 : Out B wr o (L ++ listB g (l.take k))) (h4 : Pr B w wr) : PfRel B g L l w o i wr := ⟨k, h1, h2, h3, h4⟩
set_option maxHeartbeats 8000000 in
theorem print_any (f : Fl) (vM vE : Value) (w : World) (LV : Laid w) (hf : FRead w f vM vE) (hok : FlOk f) (hl : (fileB f).length ≤ 1000000000) :
    Calls Tryd.prog 9 #[.agg #[vM, vE]] w fun e w' => e = .returned (.string (txt (fileB f))) ∧ Below w.heap.size w w' := by
  obtain ⟨M, E⟩ := f
  obtain ⟨xs, ys, h1, h2, h3, h4⟩ := hf
  simp only at h1 h2 h3 h4
  obtain ⟨A1, q1, e1, -⟩ := Sl.of_own h1
  obtain ⟨A2, q2, e2, -⟩ := Sl.of_own h3
  subst e1 e2
  have HM := Lib.hid h1
  have HMA := Lib.hid h2
  have HE := Lib.hid h3
  have HEA := Lib.hid h4
  have hlm := hok.lm
  have hle := hok.le
  simp only at hlm hle
  have HOK := Lib.hid hok
  have HLV := Lib.hid (LaidB.start LV)
  have HT : Hid (fileB ⟨M, E⟩ = listB messageB M ++ listB enumB E) := Lib.hid rfl
  have hln : (listB messageB M).length + (listB enumB E).length ≤ 1000000000 := by rw [HT.out, List.length_append] at hl; exact hl
  have HLN := Lib.hid hln
  clear hl hln hok h1 h2 h3 h4 LV
  go_enter Tryd.func9, Tryd.ntmps9
  go_wp2
  go_loopw [3, 11] (fun o i wr => PfRel w.heap.size messageB [] M (w.alloc (.cells #[.slice A1 M.length q1, .slice A2 E.length q2] 26)) o i wr) (fun _ i _ => M.length - (intOf i).toNat)
  case atStart => exact PfRel.mk 0 rfl (by omega) (World.ownsRow_nil _ _ _ _) (Pr.refl _ _)
  case round =>
    obtain ⟨k, rfl, hk, ho, hpr⟩ := hrel
    have HO5 := Lib.hid ho
    have hp0 : Pr w.heap.size w (w.alloc (.cells #[.slice A1 M.length q1, .slice A2 E.length q2] 26)) := (Pr.refl _ _).alloc (Nat.le_refl _) _
    have HPW := Lib.hid (hp0.trans hpr)
    have HPR := Lib.hid hpr
    have hsz := hpr.size
    simp at hsz
    clear ho hpr hp0
    by_cases h1 : k < M.length
    · obtain ⟨m, hdk⟩ : ∃ m, M[k]? = some m := ⟨_, List.getElem?_eq_getElem h1⟩
      obtain ⟨g, cap, vF, vO, vR, hv, hg, hmr, c0, c1, c2, c3, c4⟩ := msrow_at (HPW.out.own HM.out (by decide)) (HMA.out.leaf HPW.out.leaf) hdk
      injection hv with hA hn hc
      subst hA hc
      have hmok := HOK.out.m m (List.mem_of_getElem? hdk)
      have hft := listB_take messageB M k m hdk
      have hfl := listB_le messageB M (k + 1)
      rw [hft, List.length_append] at hfl
      have HFT := Lib.hid hft
      have hle2 : ([] ++ listB messageB (M.take k)).length + (messageB m).length ≤ 1000000000 := by
        have := HLN.out
        simp only [List.nil_append]
        omega
      obtain ⟨B1, r1, e1, -⟩ := Sl.of_own hmr.f
      obtain ⟨B2, r2, e2, -⟩ := Sl.of_own hmr.o
      obtain ⟨B3, r3, e3, -⟩ := Sl.of_own hmr.r
      subst e1 e2 e3
      have H2 := Lib.hid (pmsg_any w.heap.size _ _ _ _ _ m (wr.alloc (.cells #[.string (txt m.name), .slice B1 m.F.length r1, .slice B2 m.ones.length r2, .slice B3 m.res.length r3, .int .i64 m.at_] 34)) ((HLV.out.pr HPW.out).pr ((Pr.refl _ _).alloc (by omega) _)) (HO5.out.alloc _) (hmr.leaf (Leaf.alloc _ _)) (by simp; omega) hmok hle2)
      have HXM : Hid (MsV m (.slice B1 m.F.length r1) (.slice B2 m.ones.length r2) (.slice B3 m.res.length r3) = .agg #[.string (txt m.name), .slice B1 m.F.length r1, .slice B2 m.ones.length r2, .slice B3 m.res.length r3, .int .i64 m.at_]) := Lib.hid rfl
      rw [HXM.out] at H2
      clear hmok hft hdk hfl hle2 hn hmr
      go_wp2_with fail
      refine H2.out.mono ?_
      rintro e w8 ⟨v8, rfl, ho8, hpr8⟩
      go_wp2
      refine ⟨PfRel.mk (k + 1) (by go_num) (by omega) ?_ ((HPR.out.trans ((Pr.refl _ _).alloc (by omega) _)).trans hpr8), by simp [intOf]; omega⟩
      rw [HFT.out, ← List.append_assoc]
      exact ho8
    · obtain rfl : k = M.length := by omega
      rw [List.take_of_length_le (Nat.le_refl _), List.nil_append] at HO5
      have hb := (HPR.out.typed w.heap.size _ _ _ (heap_alloc_new w (.cells #[.slice A1 M.length q1, .slice A2 E.length q2] 26)) (by decide)).trans (heap_alloc_new w _)
      have n1 := heap_cell hb 1
      simp at n1
      have HPX := Lib.hid HPW.out
      clear hb
      go_wp2
      go_loopw [3, 22] (fun o i w5 => PfRel w.heap.size enumB (listB messageB M) E wr o i w5) (fun _ i _ => E.length - (intOf i).toNat)
      case atStart => exact PfRel.mk 0 rfl (by omega) (by simpa [listB] using HO5.out) (Pr.refl _ _)
      case round =>
        obtain ⟨k, rfl, hk, ho, hpr⟩ := hrel
        have HO6 := Lib.hid ho
        have HPY := Lib.hid (HPX.out.trans hpr)
        have HPS := Lib.hid hpr
        have hsy := hpr.size
        clear ho hpr
        by_cases h1 : k < E.length
        · obtain ⟨m, hdk⟩ : ∃ m, E[k]? = some m := ⟨_, List.getElem?_eq_getElem h1⟩
          obtain ⟨g, cap, vV, hv, hg, hmr, c0, c1, c2⟩ := enrow_at (HPY.out.own HE.out (by decide)) (HEA.out.leaf HPY.out.leaf) hdk
          injection hv with hA hn hc
          subst hA hc
          obtain ⟨hmo1, hmo2⟩ := HOK.out.e m (List.mem_of_getElem? hdk)
          have hft := listB_take enumB E k m hdk
          have hfl := listB_le enumB E (k + 1)
          rw [hft, List.length_append] at hfl
          have HFT := Lib.hid hft
          have hle2 : (listB messageB M ++ listB enumB (E.take k)).length + (enumB m).length ≤ 1000000000 := by
            have := HLN.out
            rw [List.length_append]
            omega
          obtain ⟨B1, r1, e1, -⟩ := Sl.of_own hmr
          subst e1
          have H2 := Lib.hid (penum_any w.heap.size _ _ _ m (wr.alloc (.cells #[.string (txt m.name), .slice B1 m.V.length r1, .int .i64 m.at_] 58)) ((HLV.out.pr HPY.out).pr ((Pr.refl _ _).alloc (by omega) _)) (HO6.out.alloc _) (hmr.leaf (Leaf.alloc _ _)) (by simp; omega) hmo1 hle2 hmo2)
          have HXM : Hid (EnV m (.slice B1 m.V.length r1) = .agg #[.string (txt m.name), .slice B1 m.V.length r1, .int .i64 m.at_]) := Lib.hid rfl
          rw [HXM.out] at H2
          clear hmo1 hmo2 hft hdk hfl hle2 hn hmr
          go_wp2_with fail
          refine H2.out.mono ?_
          rintro e w8 ⟨v8, rfl, ho8, hpr8⟩
          go_wp2
          refine ⟨PfRel.mk (k + 1) (by go_num) (by omega) ?_ ((HPS.out.trans ((Pr.refl _ _).alloc (by omega) _)).trans hpr8), by simp [intOf]; omega⟩
          rw [HFT.out, ← List.append_assoc]
          exact ho8
        · obtain rfl : k = E.length := by omega
          rw [List.take_of_length_le (Nat.le_refl _)] at HO6
          obtain ⟨A, c, rfl, hr⟩ := SlB.of_own HO6.out
          have hcv := run_str_of_bytes (P := Tryd.prog) wr 54 9 5 Tryd.underlying54 Tryd.underlying5 Tryd.underlying9 A c _ hr
          rw [← HT.out] at hcv
          have HTT := Lib.hid HT.out
          rw [← HT.out]
          clear hr
          go_wp2
          go_ret
          exact ⟨rfl, HPY.out.os, HPY.out.tape, HPY.out.output, HPY.out.size, HPY.out.block⟩
end Go.Proofs.YtldgfepimegbmaaDoor
