/-
  A message, made normal: the contract of normal, of any message that is of its message; and of Normal and Is.
-/
import Derived.Test.YtggcjdajmbkpiaaGreatDoorTyNorS
import Derived.Test.YtggcjdajmbkpiaaGreatDoorTyNorm
import Derived.Test.YtggcjdajmbkpiaaGreatDoorTyKeys
import Derived.Test.YtggcjdajmbkpiaaGreatDoorTabMsg
import Derived.Test.YtggcjdajmbkpiaaGreatDoorTrLaw
namespace Go.Proofs.YtggcjdajmbkpiaaGreatDoor.T9
set_option maxRecDepth 100000
open Go.Proofs.YtggcjdajmbkpiaaGreatDoor.T4
open Go.RowKit Go.Maps

theorem dc_cells {w : World} {g : Nat} {f : Df} {fr : Nat × Nat} (h : w.heap[g]? = some (.cells #[.int .i64 f.no, .string (txt f.name), .int .i64 f.kind, .int .i64 f.ref, .bool f.rep, .int .i64 f.key, .int .i64 f.one] 64 fr)) :
    w.cell? ⟨g, 0, none⟩ = some (.int .i64 f.no) ∧ w.cell? ⟨g, 1, none⟩ = some (.string (txt f.name)) ∧ w.cell? ⟨g, 2, none⟩ = some (.int .i64 f.kind) ∧ w.cell? ⟨g, 3, none⟩ = some (.int .i64 f.ref) ∧ w.cell? ⟨g, 4, none⟩ = some (.bool f.rep) ∧ w.cell? ⟨g, 5, none⟩ = some (.int .i64 f.key) ∧ w.cell? ⟨g, 6, none⟩ = some (.int .i64 f.one) :=
  ⟨by rw [heap_cell h 0]; rfl, by rw [heap_cell h 1]; rfl, by rw [heap_cell h 2]; rfl, by rw [heap_cell h 3]; rfl, by rw [heap_cell h 4]; rfl, by rw [heap_cell h 5]; rfl, by rw [heap_cell h 6]; rfl⟩
theorem told_next {α β : Type} {l : List α} {k : Nat} {a : α} (g : α → Option β) (h : l[k]? = some a) : (l.take (k + 1)).filterMap g = (l.take k).filterMap g ++ (g a).toList := by
  rw [List.take_add_one, h, List.filterMap_append]
  simp [List.filterMap_cons]
  cases g a <;> rfl
theorem told_len {α β : Type} (l : List α) (k : Nat) (g : α → Option β) : ((l.take k).filterMap g).length ≤ k := Nat.le_trans (List.length_filterMap_le _ _) (by rw [List.length_take]; omega)
set_option maxRecDepth 1000000 in
set_option maxHeartbeats 8000000 in
theorem norm_step {s : Sc} {B D d : Nat} (hin : ScIn s) (H : NormH s B D (isB s d) (norB s d)) : NormH s B (D + 1) (isB s (d + 1)) (norB s (d + 1)) := by
  intro vM vE m x u w hB hs hx hi hc hG b hb
  obtain ⟨A1, q1, A2, q2, rfl, rfl⟩ := sat_shape hs
  obtain ⟨u', hu, hl⟩ := hx
  simp only [List.cons.injEq, and_true] at hu
  subst hu
  obtain ⟨A, c, xs, rfl, hsl, hbl, hr, hn⟩ := hl.open_
  obtain ⟨i0, hi0, hz0, hz1, hz2⟩ := info_parts info_slot
  obtain ⟨X1, X2, X3, X4, LBD⟩ := four_new w (.cells #[.slice A1 s.M.length q1, .slice A2 s.E.length q2] 25) (.cells #[.slice A x.F.length c] 28) (.cells #[.slice none 0 0] 28) (.cells #[.slice none 0 0] 28)
  have hsz : ((((w.alloc (.cells #[.slice A1 s.M.length q1, .slice A2 s.E.length q2] 25)).alloc (.cells #[.slice A x.F.length c] 28)).alloc (.cells #[.slice none 0 0] 28)).alloc (.cells #[.slice none 0 0] 28)).heap.size = w.heap.size + 4 := by simp
  obtain ⟨W0, hW0⟩ : ∃ W, W = (((w.alloc (.cells #[.slice A1 s.M.length q1, .slice A2 s.E.length q2] 25)).alloc (.cells #[.slice A x.F.length c] 28)).alloc (.cells #[.slice none 0 0] 28)).alloc (.cells #[.slice none 0 0] 28) := ⟨_, rfl⟩
  have hcf := cnt_F x
  have hGs : slotsG (byS s m) (fillG (isB s d)) [] x.F = true := by
    have h : (decide (0 ≤ m ∧ m < s.M.length) && slotsG (byS s m) (fillG (isB s d)) [] x.F) = true := hG
    rw [Bool.and_eq_true] at h
    exact h.2
  have HNO := Lib.hid (slots_no hGs)
  have HSL := Lib.hid hsl
  have HR := Lib.hid hr
  have HBB := Lib.hid hbl
  have HSA := Lib.hid hs
  have HII := Lib.hid hi
  have HH := Lib.hid H
  have HFL := Lib.hid (slots_iff.1 hGs).1
  have HIN := Lib.hid hin
  have x3 := bx1 X2
  clear hsl hr hl hbl hs hi H hGs hG hin
  go_enter Tryz.func48, Tryz.ntmps48
  go_wp2
  rw [← hW0] at X1 X2 X3 X4 LBD hsz ⊢
  clear hW0 x3
  go_loopw [15] (fun i wr => ∃ (k : Nat) (v' : Value) (zs : List Value), i = .int .i64 k ∧ k ≤ x.F.length ∧ wr.heap[w.heap.size + 3]? = some (.cells #[v'] 28 (0, 0)) ∧ Grow (fun R => SAt' R D) 36 3 (w.heap.size + 4) wr v' ((x.F.take k).filterMap (norO (byS s m) (norB s d))) zs ∧ Below (w.heap.size + 3) W0 wr ∧ w.heap.size + 4 ≤ wr.heap.size) (fun i _ => x.F.length - (intOf i).toNat)
  case atStart => exact ⟨0, _, [], rfl, by omega, X4, Grow.nil _ _ _ _ _, Below.refl _ _, by omega⟩
  case round =>
    obtain ⟨k, v', zs, rfl, hk, hX, hgx, hbx, hsx⟩ := hrel
    have hm1 := (hbx.block _ (show w.heap.size < w.heap.size + 3 by omega)).trans X1
    have hm3 := (hbx.block _ (show w.heap.size + 2 < w.heap.size + 3 by omega)).trans X3
    have hbw : Below w.heap.size w wr := LBD.trans (hbx.mono (by omega))
    have hBw : B ≤ wr.heap.size := by omega
    have hlo : Lo B w wr := Lo.of (hbw.mono hB)
    have hLk := told_len x.F k (norO (byS s m) (norB s d))
    obtain ⟨L, hL⟩ : ∃ L, (x.F.take k).filterMap (norO (byS s m) (norB s d)) = L := ⟨_, rfl⟩
    rw [hL] at hgx hLk
    by_cases hlt : k < x.F.length
    · obtain ⟨a, ha⟩ : ∃ a, x.F[k]? = some a := ⟨_, List.getElem?_eq_getElem hlt⟩
      obtain ⟨ad, x0, y0, z0, rfl, hga, hca, c0, c1, c2⟩ := row3 sAt.len (sl_low HSL.out HBB.out hlo) (HR.out.imp fun a cs h => SRd.low hlo h) ha
      obtain ⟨B1, d1, B2, d2, rfl, rfl, rfl⟩ := slot_shape hca
      have hmem := List.mem_of_getElem? ha
      obtain ⟨f, hf, hfl⟩ := HFL.out a hmem
      have hcs := cS_le hmem
      have hon := told_next (norO (byS s m) (norB s d)) ha
      rw [hL] at hon
      have HON := Lib.hid hon
      have HO1 : Hid (norO (byS s m) (norB s d) a = if toldB f a.V then some (norS (norB s d) f a) else none) := Lib.hid (by unfold norO; rw [hf]; rfl)
      have N1 := below_new wr (.cells #[.int .i64 a.no, .slice B1 a.K.length d1, .slice B2 a.V.length d2] 36)
      have T1 := heap_alloc_new wr (.cells #[.int .i64 a.no, .slice B1 a.K.length d1, .slice B2 a.V.length d2] 36)
      have hb1 := below_then hbw N1
      have HBY := Lib.hid (by_found hf _ (Nat.le_trans hB hb1.size) (SAt.lo HSA.out hb1 hB))
      have HB1 := Lib.hid (And.intro hbx N1)
      have HXX := Lib.hid hX
      have HGO := Lib.hid hgx
      have HCA := Lib.hid hca
      have HM3 := Lib.hid hm3
      obtain ⟨y1, y2⟩ := box2' (box_on hm1 N1)
      obtain ⟨t0, t1, t2⟩ := bx3 T1
      have HMM := Lib.hid (And.intro (box_on hm1 N1) T1)
      clear ha hca hbx hb1 hf hX hgx hm3 hon hL N1 T1 hm1
      go_wp2_with fail
      refine HBY.out.mono ?_
      rintro e w2 ⟨rfl, hb2⟩
      have N2 := below_new w2 (dC f)
      have L2 := HB1.out.2.trans ((below_then hb2 N2).mono HB1.out.2.size)
      have hs12 : wr.heap.size ≤ w2.heap.size := Nat.le_trans HB1.out.2.size hb2.size
      have Y1 := box_on HMM.out.1 (below_then hb2 N2)
      have Y2 := box_on HMM.out.2 (below_then hb2 N2)
      have Y3 := heap_alloc_new w2 (dC f)
      obtain ⟨u0, u1, u2⟩ := bx3 Y2
      obtain ⟨u3, u4, hu, -, hV⟩ := HCA.out
      simp only [List.cons.injEq, and_true, true_and] at hu
      obtain ⟨-, rfl⟩ := hu
      have hlo2 : Lo B wr (w2.alloc (dC f)) := Lo.below L2 hBw
      have HTO := Lib.hid (isTold_any B D f a.V _ (w2.alloc (dC f)) (by have := L2.size; omega) (hV.low hlo2 fun a cs h => VRd.low hlo2 h))
      have g3 := heap_cell Y3
      have f0 := g3 0
      have f1 := g3 1
      have f2 := g3 2
      have f3 := g3 3
      have f4 := g3 4
      have f5 := g3 5
      have f6 := g3 6
      simp at f0 f1 f2 f3 f4 f5 f6
      have hszd : (w2.alloc (dC f)).heap.size = w2.heap.size + 1 := by simp
      have HL2 := Lib.hid (And.intro L2 (And.intro Y1 (And.intro Y2 Y3)))
      obtain ⟨bt, hbt⟩ : ∃ bt, toldB f a.V = bt := ⟨_, rfl⟩
      rw [hbt] at HTO HO1
      clear y1 y2 t0 t1 t2 hV hbt N2 L2 hb2 g3 hlo2 Y1 Y2 Y3
      cases bt with
      | false =>
        go_wp2_with fail
        refine HTO.out.mono ?_
        rintro e w3 ⟨rfl, hb3⟩
        have HL3 := Lib.hid (HL2.out.1.trans (hb3.mono HL2.out.1.size))
        have hbz : Below (w.heap.size + 3) wr w3 := HL3.out.mono (by omega)
        go_wp2
        refine ⟨⟨k + 1, v', zs, by go_num, by omega, box_on HXX.out HL3.out, ?_, HB1.out.1.trans hbz, by have := hbz.size; omega⟩, by simp [intOf]; omega⟩
        rw [HON.out, HO1.out, if_neg (by simp)]
        simp only [Option.toList_none, List.append_nil]
        exact HGO.out.on (mono_s D) HL3.out
      | true =>
        go_wp2_with fail
        refine HTO.out.mono ?_
        rintro e w3 ⟨rfl, hb3⟩
        have HL3 := Lib.hid (HL2.out.1.trans (hb3.mono HL2.out.1.size))
        have hL3s : wr.heap.size ≤ w3.heap.size := HL3.out.size
        have hb3s := hb3.size
        have hw3 : w.heap.size + 4 ≤ w3.heap.size := by omega
        have hbw3 : Below w.heap.size w w3 := hbw.trans (HL3.out.mono hbw.size)
        have hD : Below w3.heap.size w3 w3.drew := (Below.refl _ _).drew
        have HCX := Lib.hid (nslot_any HH.out (.slice A1 s.M.length q1) (.slice A2 s.E.length q2) f a (.slice B1 a.K.length d1) (.slice B2 a.V.length d2) w3.drew (show B ≤ w3.heap.size by omega) (SAt.lo HSA.out hbw3.drew hB) (SRd.low (Lo.below HL3.out.drew hBw) HCA.out) (HII.out.slot hmem) (by omega) hfl w3.heap.size (Nat.le_refl _))
        have HGX := Lib.hid (HGO.out.on (mono_s D) HL3.out)
        have HX := Lib.hid (box_on HXX.out HL3.out)
        have HM := Lib.hid (And.intro (box_on HL2.out.2.1 hb3) (And.intro (box_on HL2.out.2.2.2 hb3) (box_on HL2.out.2.2.1 hb3)))
        have g2 := bx1 HX.out
        have hS0 : (w3.cell? ⟨w.heap.size, 0, none⟩ = some (.slice A1 s.M.length q1) ∧ w3.cell? ⟨w.heap.size, 1, none⟩ = some (.slice A2 s.E.length q2)) ∧ (w3.cell? ⟨w2.heap.size, 0, none⟩ = some (.int .i64 f.no) ∧ w3.cell? ⟨w2.heap.size, 1, none⟩ = some (.string (txt f.name)) ∧ w3.cell? ⟨w2.heap.size, 2, none⟩ = some (.int .i64 f.kind) ∧ w3.cell? ⟨w2.heap.size, 3, none⟩ = some (.int .i64 f.ref) ∧ w3.cell? ⟨w2.heap.size, 4, none⟩ = some (.bool f.rep) ∧ w3.cell? ⟨w2.heap.size, 5, none⟩ = some (.int .i64 f.key) ∧ w3.cell? ⟨w2.heap.size, 6, none⟩ = some (.int .i64 f.one)) ∧ (w3.cell? ⟨wr.heap.size, 0, none⟩ = some (.int .i64 a.no) ∧ w3.cell? ⟨wr.heap.size, 1, none⟩ = some (.slice B1 a.K.length d1) ∧ w3.cell? ⟨wr.heap.size, 2, none⟩ = some (.slice B2 a.V.length d2)) := ⟨box2' HM.out.1, dc_cells HM.out.2.1, bx3 HM.out.2.2⟩
        clear hb3 c0 c1 c2
        go_wp2_with fail
        refine wp_region_held_drew (S := (fun w' => (w'.cell? ⟨w.heap.size, 0, none⟩ = some (.slice A1 s.M.length q1) ∧ w'.cell? ⟨w.heap.size, 1, none⟩ = some (.slice A2 s.E.length q2)) ∧ (w'.cell? ⟨w2.heap.size, 0, none⟩ = some (.int .i64 f.no) ∧ w'.cell? ⟨w2.heap.size, 1, none⟩ = some (.string (txt f.name)) ∧ w'.cell? ⟨w2.heap.size, 2, none⟩ = some (.int .i64 f.kind) ∧ w'.cell? ⟨w2.heap.size, 3, none⟩ = some (.int .i64 f.ref) ∧ w'.cell? ⟨w2.heap.size, 4, none⟩ = some (.bool f.rep) ∧ w'.cell? ⟨w2.heap.size, 5, none⟩ = some (.int .i64 f.key) ∧ w'.cell? ⟨w2.heap.size, 6, none⟩ = some (.int .i64 f.one)) ∧ (w'.cell? ⟨wr.heap.size, 0, none⟩ = some (.int .i64 a.no) ∧ w'.cell? ⟨wr.heap.size, 1, none⟩ = some (.slice B1 a.K.length d1) ∧ w'.cell? ⟨wr.heap.size, 2, none⟩ = some (.slice B2 a.V.length d2)))) (by kernel_rfl) (hS0) (fun hHeld => ?_)
        refine wpAnyH_take (i := 0) (oi := { dst := some 31, op := Go.Op.fieldAddr 28 (Go.Operand.tmp 7) 0, type := 0, pos := "typed.go:132", after := #[], guard := none }) (v := ?_) rfl (by kernel_rfl) (by kernel_rfl) (by kernel_rfl) (fun _ _ _ h => h) (Or.inl ⟨by rfl, ?_⟩) hHeld ?_
        rotate_left
        · intro w hSw
          (try dsimp only at hSw)
          go_simp
          all_goals with_reducible rfl
        (try simp only [Act.put, List.setIfInBounds_toArray, List.set_cons_zero, List.set_cons_succ])
        refine wpAnyH_take (i := 2) (oi := { dst := some 33, op := Go.Op.load 25 (Go.Operand.tmp 3), type := 25, pos := "typed.go:132", after := #[], guard := none }) (v := ?_) rfl (by kernel_rfl) (by kernel_rfl) (by kernel_rfl) (fun _ _ _ h => h) (Or.inl ⟨by rfl, ?_⟩) hHeld ?_
        rotate_left
        · intro w hSw
          (try dsimp only at hSw)
          go_simp
          all_goals with_reducible rfl
        (try simp only [Act.put, List.setIfInBounds_toArray, List.set_cons_zero, List.set_cons_succ])
        refine wpAnyH_take (i := 3) (oi := { dst := some 34, op := Go.Op.load 64 (Go.Operand.tmp 10), type := 64, pos := "typed.go:132", after := #[], guard := none }) (v := ?_) rfl (by kernel_rfl) (by kernel_rfl) (by kernel_rfl) (fun _ _ _ h => h) (Or.inl ⟨by rfl, ?_⟩) hHeld ?_
        rotate_left
        · intro w hSw
          (try dsimp only at hSw)
          go_simp
          all_goals with_reducible rfl
        (try simp only [Act.put, List.setIfInBounds_toArray, List.set_cons_zero, List.set_cons_succ])
        refine wpAnyH_take (i := 4) (oi := { dst := some 35, op := Go.Op.load 36 (Go.Operand.tmp 9), type := 36, pos := "typed.go:132", after := #[], guard := none }) (v := ?_) rfl (by kernel_rfl) (by kernel_rfl) (by kernel_rfl) (fun _ _ _ h => h) (Or.inl ⟨by rfl, ?_⟩) hHeld ?_
        rotate_left
        · intro w hSw
          (try dsimp only at hSw)
          go_simp
          all_goals with_reducible rfl
        (try simp only [Act.put, List.setIfInBounds_toArray, List.set_cons_zero, List.set_cons_succ])
        refine wpAnyH_ready (rs := [1, 5]) (by kernel_rfl) (by simp) ?_
        refine AllReadyH.cons (o := { dst := some 32, op := Go.Op.load 26 (Go.Operand.tmp 31), type := 26, pos := "typed.go:132", after := #[{ on := 0, ground := Go.Ground.data }], guard := none }) rfl (fun K hK => ?_) (AllReadyH.cons (o := { dst := some 36, op := Go.Op.call { callee := Go.Callee.value (Go.Operand.func 89), args := #[Go.Operand.tmp 33, Go.Operand.tmp 34, Go.Operand.tmp 35], argTypes := #[25, 64, 36] }, type := 36, pos := "typed.go:132", after := #[{ on := 2, ground := Go.Ground.data }, { on := 3, ground := Go.Ground.data }, { on := 4, ground := Go.Ground.data }], guard := none }) rfl (fun K hK => ?_) AllReadyH.nil)
        · go_simp
          refine hK.out _ _ (hS0) (fun hHeld => ?_)
          clear hK K
          (try simp only [Act.put, List.setIfInBounds_toArray, List.set_cons_zero, List.set_cons_succ])
          refine wpAnyH_ready (rs := [5]) (by kernel_rfl) (by simp) ?_
          refine AllReadyH.cons (o := { dst := some 36, op := Go.Op.call { callee := Go.Callee.value (Go.Operand.func 89), args := #[Go.Operand.tmp 33, Go.Operand.tmp 34, Go.Operand.tmp 35], argTypes := #[25, 64, 36] }, type := 36, pos := "typed.go:132", after := #[{ on := 2, ground := Go.Ground.data }, { on := 3, ground := Go.Ground.data }, { on := 4, ground := Go.Ground.data }], guard := none }) rfl (fun K hK => ?_) AllReadyH.nil
          go_simp
          (go_at_call 89; refine HCX.out.mono ?_; rintro e w7 ⟨x1, x2, x3, rfl, ho7, hb7⟩; have hb7d := Lib.hid (hD.trans hb7); have HX7 := Lib.hid (box_on HX.out hb7d.out); have c7 := bx1 HX7.out; have c7b := bx1 (box_on HX7.out (below_new w7 (.cells #[x1, x2, x3] 36))); have HG8 := Lib.hid ((HGX.out.on (mono_s D) hb7d.out).on (mono_s D) (below_new w7 (.cells #[x1, x2, x3] 36))); have hs7 : w3.heap.size ≤ w7.heap.size := hb7d.out.size; have HM7 := Lib.hid (And.intro (box_on HM.out.1 hb7d.out) (And.intro (box_on HM.out.2.1 hb7d.out) (box_on HM.out.2.2 hb7d.out))))
          go_wp2_with fail
          refine hK.out _ _ (And.intro (box2' (HM7.out.1)) (And.intro (dc_cells (HM7.out.2.1)) (bx3 (HM7.out.2.2)))) (fun hHeld => ?_)
          clear hK K
          (try simp only [Act.put, List.setIfInBounds_toArray, List.set_cons_zero, List.set_cons_succ])
          refine wpAnyH_ready (rs := [6]) (by kernel_rfl) (by simp) ?_
          refine AllReadyH.cons (o := { dst := some 37, op := Go.Op.buildSlice 26 1 #[(0, Go.Operand.tmp 36)], type := 26, pos := "typed.go:132", after := #[{ on := 5, ground := Go.Ground.data }], guard := none }) rfl (fun K hK => ?_) AllReadyH.nil
          go_simp
          refine hK.out _ _ (And.intro (box2' (box_on HM7.out.1 (below_new w7 (.cells #[x1, x2, x3] 36)))) (And.intro (dc_cells (box_on HM7.out.2.1 (below_new w7 (.cells #[x1, x2, x3] 36)))) (bx3 (box_on HM7.out.2.2 (below_new w7 (.cells #[x1, x2, x3] 36)))))) (fun hHeld => ?_)
          clear hK K
          (try simp only [Act.put, List.setIfInBounds_toArray, List.set_cons_zero, List.set_cons_succ])
          refine wpAnyH_ready (rs := [7]) (by kernel_rfl) (by simp) ?_
          refine AllReadyH.cons (o := { dst := some 38, op := Go.Op.call { callee := Go.Callee.builtin Go.Builtin.append, args := #[Go.Operand.tmp 32, Go.Operand.tmp 37], argTypes := #[26, 26] }, type := 26, pos := "typed.go:132", after := #[{ on := 1, ground := Go.Ground.data }, { on := 6, ground := Go.Ground.data }, { on := 5, ground := Go.Ground.chain }], guard := none }) rfl (fun K hK => ?_) AllReadyH.nil
          (refine step_append_lies _ rfl _ _ 26 rfl (w.heap.size + 4) 36 i0 _ 3 56 Tryz.underlying26 hi0 hz0 hz1 hz2 rfl (by decide) v' L.length zs (by simp [Act.eval, Act.put]) HG8.out.own ⟨w7.heap.size, 0, none⟩ 1 1 [x1, x2, x3] (by simp [Act.eval, Act.put]) rfl (World.news_of_block (heap_alloc_new _ _)) (sAt.oneO _ _ ho7) (by decide) (by unfold maxLen; omega) (by omega) (by simp; omega) w7.heap.size.succ (by simp) ?_; intro g8 cap8 w8 hown8 hg8 hat8 hlt8; have hX8 := Lib.hid (box_far (box_on HX7.out (below_new w7 (.cells #[x1, x2, x3] 36))) hg8 HG8.out.own (Nat.lt_succ_self (w.heap.size + 3))); have f8 : w8.frozen? ⟨w.heap.size + 3, 0, none⟩ = false := (by simp [World.frozen?, hX8.out]); have c8 := bx1 hX8.out; have HM8 := Lib.hid (And.intro (box_far (box_on HM7.out.1 (below_new w7 (.cells #[x1, x2, x3] 36))) hg8 HG8.out.own (show w.heap.size < w.heap.size + 4 by omega)) (And.intro (box_new (box_on HM7.out.2.1 (below_new w7 (.cells #[x1, x2, x3] 36))) hg8 fun q hq => Nat.lt_of_lt_of_le (HGO.out.lt q hq) (by omega)) (box_new (box_on HM7.out.2.2 (below_new w7 (.cells #[x1, x2, x3] 36))) hg8 fun q hq => HGO.out.lt q hq))))
          refine hK.out _ _ (And.intro (box2' (HM8.out.1)) (And.intro (dc_cells (HM8.out.2.1)) (bx3 (HM8.out.2.2)))) (fun hHeld => ?_)
          clear hK K
          (try simp only [Act.put, List.setIfInBounds_toArray, List.set_cons_zero, List.set_cons_succ])
          refine wpAnyH_take (i := 8) (oi := { dst := some 39, op := Go.Op.fieldAddr 28 (Go.Operand.tmp 7) 0, type := 0, pos := "typed.go:132", after := #[{ on := 0, ground := Go.Ground.phase }, { on := 1, ground := Go.Ground.phase }, { on := 2, ground := Go.Ground.phase }, { on := 3, ground := Go.Ground.phase }, { on := 4, ground := Go.Ground.phase }, { on := 5, ground := Go.Ground.phase }, { on := 6, ground := Go.Ground.phase }, { on := 7, ground := Go.Ground.phase }], guard := none }) (v := ?_) rfl (by kernel_rfl) (by kernel_rfl) (by kernel_rfl) (fun _ _ _ h => h) (Or.inl ⟨by rfl, ?_⟩) hHeld ?_
          rotate_left
          · intro w hSw
            (try dsimp only at hSw)
            go_simp
            all_goals with_reducible rfl
          (try simp only [Act.put, List.setIfInBounds_toArray, List.set_cons_zero, List.set_cons_succ])
          refine wpAnyH_ready (rs := [9]) (by kernel_rfl) (by simp) ?_
          refine AllReadyH.cons (o := { dst := none, op := Go.Op.store 26 (Go.Operand.tmp 39) (Go.Operand.tmp 38), type := 0, pos := "typed.go:132", after := #[{ on := 8, ground := Go.Ground.data }, { on := 7, ground := Go.Ground.data }, { on := 7, ground := Go.Ground.chain }, { on := 0, ground := Go.Ground.phase }, { on := 1, ground := Go.Ground.phase }, { on := 2, ground := Go.Ground.phase }, { on := 3, ground := Go.Ground.phase }, { on := 4, ground := Go.Ground.phase }, { on := 5, ground := Go.Ground.phase }, { on := 6, ground := Go.Ground.phase }, { on := 7, ground := Go.Ground.phase }], guard := none }) rfl (fun K hK => ?_) AllReadyH.nil
          go_simp
          refine hK.out _ _ (And.intro (box2' (box_set (g := w.heap.size + 3) (j := 0) HM8.out.1 (by omega) _)) (And.intro (dc_cells (box_set (g := w.heap.size + 3) (j := 0) HM8.out.2.1 (by omega) _)) (bx3 (box_set (g := w.heap.size + 3) (j := 0) HM8.out.2.2 (by omega) _)))) (fun hHeld => ?_)
          clear hK K
          (try simp only [Act.put, List.setIfInBounds_toArray, List.set_cons_zero, List.set_cons_succ])
          refine wpAnyH_done (by kernel_rfl) ?_ _
          obtain ⟨Z1, Z2⟩ := cell1 hX8.out (.slice (some ⟨g8, 0, none⟩) (L.length + 1) cap8)
          have hnew := (Grow.app (mono_s D) HG8.out (a := norS (norB s d) f a) (b' := w3.heap.size) (by omega) (fun k hk => HGX.out.lt k hk) (mono_s D (Ow.hi (hi_below _ (below_new w7 (.cells #[x1, x2, x3] 36)))) _ _ ho7) hown8 hg8 (hat8.imp id fun h => by rw [h]; simp)).box (mono_s D) Z2 (Nat.lt_succ_self (w.heap.size + 3))
          have hw7 : w.heap.size + 4 ≤ w7.heap.size := Nat.le_trans hw3 hs7
          have hbz : Below (w.heap.size + 3) wr _ := ((HL3.out.mono (by omega)).trans ((hb7d.out.mono (by omega)).trans ((below_new w7 (.cells #[x1, x2, x3] 36)).mono (by omega)))).trans ((below_row hg8 HG8.out.own (Nat.le_succ _) (by simp; omega)).trans (below_own Z2 (Nat.le_refl _) (by have := hg8.size; simp at this; omega)))
          go_wp2
          refine ⟨⟨k + 1, _, zs ++ [x1, x2, x3], by go_num, by omega, Z1, ?_, HB1.out.1.trans hbz, by have h1 := hbz.size; have h2 := hg8.size; simp at h1 h2 ⊢; omega⟩, by simp [intOf]; omega⟩
          rw [HON.out, HO1.out, if_pos (by trivial)]
          exact hnew
        · go_simp
          (go_at_call 89; refine HCX.out.mono ?_; rintro e w7 ⟨x1, x2, x3, rfl, ho7, hb7⟩; have hb7d := Lib.hid (hD.trans hb7); have HX7 := Lib.hid (box_on HX.out hb7d.out); have c7 := bx1 HX7.out; have c7b := bx1 (box_on HX7.out (below_new w7 (.cells #[x1, x2, x3] 36))); have HG8 := Lib.hid ((HGX.out.on (mono_s D) hb7d.out).on (mono_s D) (below_new w7 (.cells #[x1, x2, x3] 36))); have hs7 : w3.heap.size ≤ w7.heap.size := hb7d.out.size; have HM7 := Lib.hid (And.intro (box_on HM.out.1 hb7d.out) (And.intro (box_on HM.out.2.1 hb7d.out) (box_on HM.out.2.2 hb7d.out))))
          go_wp2_with fail
          refine hK.out _ _ (And.intro (box2' (HM7.out.1)) (And.intro (dc_cells (HM7.out.2.1)) (bx3 (HM7.out.2.2)))) (fun hHeld => ?_)
          clear hK K
          (try simp only [Act.put, List.setIfInBounds_toArray, List.set_cons_zero, List.set_cons_succ])
          refine wpAnyH_ready (rs := [1, 6]) (by kernel_rfl) (by simp) ?_
          refine AllReadyH.cons (o := { dst := some 32, op := Go.Op.load 26 (Go.Operand.tmp 31), type := 26, pos := "typed.go:132", after := #[{ on := 0, ground := Go.Ground.data }], guard := none }) rfl (fun K hK => ?_) (AllReadyH.cons (o := { dst := some 37, op := Go.Op.buildSlice 26 1 #[(0, Go.Operand.tmp 36)], type := 26, pos := "typed.go:132", after := #[{ on := 5, ground := Go.Ground.data }], guard := none }) rfl (fun K hK => ?_) AllReadyH.nil)
          · go_simp
            refine hK.out _ _ (And.intro (box2' (HM7.out.1)) (And.intro (dc_cells (HM7.out.2.1)) (bx3 (HM7.out.2.2)))) (fun hHeld => ?_)
            clear hK K
            (try simp only [Act.put, List.setIfInBounds_toArray, List.set_cons_zero, List.set_cons_succ])
            refine wpAnyH_ready (rs := [6]) (by kernel_rfl) (by simp) ?_
            refine AllReadyH.cons (o := { dst := some 37, op := Go.Op.buildSlice 26 1 #[(0, Go.Operand.tmp 36)], type := 26, pos := "typed.go:132", after := #[{ on := 5, ground := Go.Ground.data }], guard := none }) rfl (fun K hK => ?_) AllReadyH.nil
            go_simp
            refine hK.out _ _ (And.intro (box2' (box_on HM7.out.1 (below_new w7 (.cells #[x1, x2, x3] 36)))) (And.intro (dc_cells (box_on HM7.out.2.1 (below_new w7 (.cells #[x1, x2, x3] 36)))) (bx3 (box_on HM7.out.2.2 (below_new w7 (.cells #[x1, x2, x3] 36)))))) (fun hHeld => ?_)
            clear hK K
            (try simp only [Act.put, List.setIfInBounds_toArray, List.set_cons_zero, List.set_cons_succ])
            refine wpAnyH_ready (rs := [7]) (by kernel_rfl) (by simp) ?_
            refine AllReadyH.cons (o := { dst := some 38, op := Go.Op.call { callee := Go.Callee.builtin Go.Builtin.append, args := #[Go.Operand.tmp 32, Go.Operand.tmp 37], argTypes := #[26, 26] }, type := 26, pos := "typed.go:132", after := #[{ on := 1, ground := Go.Ground.data }, { on := 6, ground := Go.Ground.data }, { on := 5, ground := Go.Ground.chain }], guard := none }) rfl (fun K hK => ?_) AllReadyH.nil
            (refine step_append_lies _ rfl _ _ 26 rfl (w.heap.size + 4) 36 i0 _ 3 56 Tryz.underlying26 hi0 hz0 hz1 hz2 rfl (by decide) v' L.length zs (by simp [Act.eval, Act.put]) HG8.out.own ⟨w7.heap.size, 0, none⟩ 1 1 [x1, x2, x3] (by simp [Act.eval, Act.put]) rfl (World.news_of_block (heap_alloc_new _ _)) (sAt.oneO _ _ ho7) (by decide) (by unfold maxLen; omega) (by omega) (by simp; omega) w7.heap.size.succ (by simp) ?_; intro g8 cap8 w8 hown8 hg8 hat8 hlt8; have hX8 := Lib.hid (box_far (box_on HX7.out (below_new w7 (.cells #[x1, x2, x3] 36))) hg8 HG8.out.own (Nat.lt_succ_self (w.heap.size + 3))); have f8 : w8.frozen? ⟨w.heap.size + 3, 0, none⟩ = false := (by simp [World.frozen?, hX8.out]); have c8 := bx1 hX8.out; have HM8 := Lib.hid (And.intro (box_far (box_on HM7.out.1 (below_new w7 (.cells #[x1, x2, x3] 36))) hg8 HG8.out.own (show w.heap.size < w.heap.size + 4 by omega)) (And.intro (box_new (box_on HM7.out.2.1 (below_new w7 (.cells #[x1, x2, x3] 36))) hg8 fun q hq => Nat.lt_of_lt_of_le (HGO.out.lt q hq) (by omega)) (box_new (box_on HM7.out.2.2 (below_new w7 (.cells #[x1, x2, x3] 36))) hg8 fun q hq => HGO.out.lt q hq))))
            refine hK.out _ _ (And.intro (box2' (HM8.out.1)) (And.intro (dc_cells (HM8.out.2.1)) (bx3 (HM8.out.2.2)))) (fun hHeld => ?_)
            clear hK K
            (try simp only [Act.put, List.setIfInBounds_toArray, List.set_cons_zero, List.set_cons_succ])
            refine wpAnyH_take (i := 8) (oi := { dst := some 39, op := Go.Op.fieldAddr 28 (Go.Operand.tmp 7) 0, type := 0, pos := "typed.go:132", after := #[{ on := 0, ground := Go.Ground.phase }, { on := 1, ground := Go.Ground.phase }, { on := 2, ground := Go.Ground.phase }, { on := 3, ground := Go.Ground.phase }, { on := 4, ground := Go.Ground.phase }, { on := 5, ground := Go.Ground.phase }, { on := 6, ground := Go.Ground.phase }, { on := 7, ground := Go.Ground.phase }], guard := none }) (v := ?_) rfl (by kernel_rfl) (by kernel_rfl) (by kernel_rfl) (fun _ _ _ h => h) (Or.inl ⟨by rfl, ?_⟩) hHeld ?_
            rotate_left
            · intro w hSw
              (try dsimp only at hSw)
              go_simp
              all_goals with_reducible rfl
            (try simp only [Act.put, List.setIfInBounds_toArray, List.set_cons_zero, List.set_cons_succ])
            refine wpAnyH_ready (rs := [9]) (by kernel_rfl) (by simp) ?_
            refine AllReadyH.cons (o := { dst := none, op := Go.Op.store 26 (Go.Operand.tmp 39) (Go.Operand.tmp 38), type := 0, pos := "typed.go:132", after := #[{ on := 8, ground := Go.Ground.data }, { on := 7, ground := Go.Ground.data }, { on := 7, ground := Go.Ground.chain }, { on := 0, ground := Go.Ground.phase }, { on := 1, ground := Go.Ground.phase }, { on := 2, ground := Go.Ground.phase }, { on := 3, ground := Go.Ground.phase }, { on := 4, ground := Go.Ground.phase }, { on := 5, ground := Go.Ground.phase }, { on := 6, ground := Go.Ground.phase }, { on := 7, ground := Go.Ground.phase }], guard := none }) rfl (fun K hK => ?_) AllReadyH.nil
            go_simp
            refine hK.out _ _ (And.intro (box2' (box_set (g := w.heap.size + 3) (j := 0) HM8.out.1 (by omega) _)) (And.intro (dc_cells (box_set (g := w.heap.size + 3) (j := 0) HM8.out.2.1 (by omega) _)) (bx3 (box_set (g := w.heap.size + 3) (j := 0) HM8.out.2.2 (by omega) _)))) (fun hHeld => ?_)
            clear hK K
            (try simp only [Act.put, List.setIfInBounds_toArray, List.set_cons_zero, List.set_cons_succ])
            refine wpAnyH_done (by kernel_rfl) ?_ _
            obtain ⟨Z1, Z2⟩ := cell1 hX8.out (.slice (some ⟨g8, 0, none⟩) (L.length + 1) cap8)
            have hnew := (Grow.app (mono_s D) HG8.out (a := norS (norB s d) f a) (b' := w3.heap.size) (by omega) (fun k hk => HGX.out.lt k hk) (mono_s D (Ow.hi (hi_below _ (below_new w7 (.cells #[x1, x2, x3] 36)))) _ _ ho7) hown8 hg8 (hat8.imp id fun h => by rw [h]; simp)).box (mono_s D) Z2 (Nat.lt_succ_self (w.heap.size + 3))
            have hw7 : w.heap.size + 4 ≤ w7.heap.size := Nat.le_trans hw3 hs7
            have hbz : Below (w.heap.size + 3) wr _ := ((HL3.out.mono (by omega)).trans ((hb7d.out.mono (by omega)).trans ((below_new w7 (.cells #[x1, x2, x3] 36)).mono (by omega)))).trans ((below_row hg8 HG8.out.own (Nat.le_succ _) (by simp; omega)).trans (below_own Z2 (Nat.le_refl _) (by have := hg8.size; simp at this; omega)))
            go_wp2
            refine ⟨⟨k + 1, _, zs ++ [x1, x2, x3], by go_num, by omega, Z1, ?_, HB1.out.1.trans hbz, by have h1 := hbz.size; have h2 := hg8.size; simp at h1 h2 ⊢; omega⟩, by simp [intOf]; omega⟩
            rw [HON.out, HO1.out, if_pos (by trivial)]
            exact hnew
          · go_simp
            refine hK.out _ _ (And.intro (box2' (box_on HM7.out.1 (below_new w7 (.cells #[x1, x2, x3] 36)))) (And.intro (dc_cells (box_on HM7.out.2.1 (below_new w7 (.cells #[x1, x2, x3] 36)))) (bx3 (box_on HM7.out.2.2 (below_new w7 (.cells #[x1, x2, x3] 36)))))) (fun hHeld => ?_)
            clear hK K
            (try simp only [Act.put, List.setIfInBounds_toArray, List.set_cons_zero, List.set_cons_succ])
            refine wpAnyH_ready (rs := [1]) (by kernel_rfl) (by simp) ?_
            refine AllReadyH.cons (o := { dst := some 32, op := Go.Op.load 26 (Go.Operand.tmp 31), type := 26, pos := "typed.go:132", after := #[{ on := 0, ground := Go.Ground.data }], guard := none }) rfl (fun K hK => ?_) AllReadyH.nil
            go_simp
            refine hK.out _ _ (And.intro (box2' (box_on HM7.out.1 (below_new w7 (.cells #[x1, x2, x3] 36)))) (And.intro (dc_cells (box_on HM7.out.2.1 (below_new w7 (.cells #[x1, x2, x3] 36)))) (bx3 (box_on HM7.out.2.2 (below_new w7 (.cells #[x1, x2, x3] 36)))))) (fun hHeld => ?_)
            clear hK K
            (try simp only [Act.put, List.setIfInBounds_toArray, List.set_cons_zero, List.set_cons_succ])
            refine wpAnyH_ready (rs := [7]) (by kernel_rfl) (by simp) ?_
            refine AllReadyH.cons (o := { dst := some 38, op := Go.Op.call { callee := Go.Callee.builtin Go.Builtin.append, args := #[Go.Operand.tmp 32, Go.Operand.tmp 37], argTypes := #[26, 26] }, type := 26, pos := "typed.go:132", after := #[{ on := 1, ground := Go.Ground.data }, { on := 6, ground := Go.Ground.data }, { on := 5, ground := Go.Ground.chain }], guard := none }) rfl (fun K hK => ?_) AllReadyH.nil
            (refine step_append_lies _ rfl _ _ 26 rfl (w.heap.size + 4) 36 i0 _ 3 56 Tryz.underlying26 hi0 hz0 hz1 hz2 rfl (by decide) v' L.length zs (by simp [Act.eval, Act.put]) HG8.out.own ⟨w7.heap.size, 0, none⟩ 1 1 [x1, x2, x3] (by simp [Act.eval, Act.put]) rfl (World.news_of_block (heap_alloc_new _ _)) (sAt.oneO _ _ ho7) (by decide) (by unfold maxLen; omega) (by omega) (by simp; omega) w7.heap.size.succ (by simp) ?_; intro g8 cap8 w8 hown8 hg8 hat8 hlt8; have hX8 := Lib.hid (box_far (box_on HX7.out (below_new w7 (.cells #[x1, x2, x3] 36))) hg8 HG8.out.own (Nat.lt_succ_self (w.heap.size + 3))); have f8 : w8.frozen? ⟨w.heap.size + 3, 0, none⟩ = false := (by simp [World.frozen?, hX8.out]); have c8 := bx1 hX8.out; have HM8 := Lib.hid (And.intro (box_far (box_on HM7.out.1 (below_new w7 (.cells #[x1, x2, x3] 36))) hg8 HG8.out.own (show w.heap.size < w.heap.size + 4 by omega)) (And.intro (box_new (box_on HM7.out.2.1 (below_new w7 (.cells #[x1, x2, x3] 36))) hg8 fun q hq => Nat.lt_of_lt_of_le (HGO.out.lt q hq) (by omega)) (box_new (box_on HM7.out.2.2 (below_new w7 (.cells #[x1, x2, x3] 36))) hg8 fun q hq => HGO.out.lt q hq))))
            refine hK.out _ _ (And.intro (box2' (HM8.out.1)) (And.intro (dc_cells (HM8.out.2.1)) (bx3 (HM8.out.2.2)))) (fun hHeld => ?_)
            clear hK K
            (try simp only [Act.put, List.setIfInBounds_toArray, List.set_cons_zero, List.set_cons_succ])
            refine wpAnyH_take (i := 8) (oi := { dst := some 39, op := Go.Op.fieldAddr 28 (Go.Operand.tmp 7) 0, type := 0, pos := "typed.go:132", after := #[{ on := 0, ground := Go.Ground.phase }, { on := 1, ground := Go.Ground.phase }, { on := 2, ground := Go.Ground.phase }, { on := 3, ground := Go.Ground.phase }, { on := 4, ground := Go.Ground.phase }, { on := 5, ground := Go.Ground.phase }, { on := 6, ground := Go.Ground.phase }, { on := 7, ground := Go.Ground.phase }], guard := none }) (v := ?_) rfl (by kernel_rfl) (by kernel_rfl) (by kernel_rfl) (fun _ _ _ h => h) (Or.inl ⟨by rfl, ?_⟩) hHeld ?_
            rotate_left
            · intro w hSw
              (try dsimp only at hSw)
              go_simp
              all_goals with_reducible rfl
            (try simp only [Act.put, List.setIfInBounds_toArray, List.set_cons_zero, List.set_cons_succ])
            refine wpAnyH_ready (rs := [9]) (by kernel_rfl) (by simp) ?_
            refine AllReadyH.cons (o := { dst := none, op := Go.Op.store 26 (Go.Operand.tmp 39) (Go.Operand.tmp 38), type := 0, pos := "typed.go:132", after := #[{ on := 8, ground := Go.Ground.data }, { on := 7, ground := Go.Ground.data }, { on := 7, ground := Go.Ground.chain }, { on := 0, ground := Go.Ground.phase }, { on := 1, ground := Go.Ground.phase }, { on := 2, ground := Go.Ground.phase }, { on := 3, ground := Go.Ground.phase }, { on := 4, ground := Go.Ground.phase }, { on := 5, ground := Go.Ground.phase }, { on := 6, ground := Go.Ground.phase }, { on := 7, ground := Go.Ground.phase }], guard := none }) rfl (fun K hK => ?_) AllReadyH.nil
            go_simp
            refine hK.out _ _ (And.intro (box2' (box_set (g := w.heap.size + 3) (j := 0) HM8.out.1 (by omega) _)) (And.intro (dc_cells (box_set (g := w.heap.size + 3) (j := 0) HM8.out.2.1 (by omega) _)) (bx3 (box_set (g := w.heap.size + 3) (j := 0) HM8.out.2.2 (by omega) _)))) (fun hHeld => ?_)
            clear hK K
            (try simp only [Act.put, List.setIfInBounds_toArray, List.set_cons_zero, List.set_cons_succ])
            refine wpAnyH_done (by kernel_rfl) ?_ _
            obtain ⟨Z1, Z2⟩ := cell1 hX8.out (.slice (some ⟨g8, 0, none⟩) (L.length + 1) cap8)
            have hnew := (Grow.app (mono_s D) HG8.out (a := norS (norB s d) f a) (b' := w3.heap.size) (by omega) (fun k hk => HGX.out.lt k hk) (mono_s D (Ow.hi (hi_below _ (below_new w7 (.cells #[x1, x2, x3] 36)))) _ _ ho7) hown8 hg8 (hat8.imp id fun h => by rw [h]; simp)).box (mono_s D) Z2 (Nat.lt_succ_self (w.heap.size + 3))
            have hw7 : w.heap.size + 4 ≤ w7.heap.size := Nat.le_trans hw3 hs7
            have hbz : Below (w.heap.size + 3) wr _ := ((HL3.out.mono (by omega)).trans ((hb7d.out.mono (by omega)).trans ((below_new w7 (.cells #[x1, x2, x3] 36)).mono (by omega)))).trans ((below_row hg8 HG8.out.own (Nat.le_succ _) (by simp; omega)).trans (below_own Z2 (Nat.le_refl _) (by have := hg8.size; simp at this; omega)))
            go_wp2
            refine ⟨⟨k + 1, _, zs ++ [x1, x2, x3], by go_num, by omega, Z1, ?_, HB1.out.1.trans hbz, by have h1 := hbz.size; have h2 := hg8.size; simp at h1 h2 ⊢; omega⟩, by simp [intOf]; omega⟩
            rw [HON.out, HO1.out, if_pos (by trivial)]
            exact hnew
    · obtain rfl : k = x.F.length := by omega
      rw [List.take_length] at hL
      have hd : L.Pairwise fun a b => a.no ≠ b.no := by rw [← hL]; exact told_no HNO.out
      have HSO := Lib.hid (sort_slots D (w.heap.size + 4) v' L zs wr hgx hd (by omega))
      have HG0 := Lib.hid hgx
      have x4 := bx1 hX
      have HL := Lib.hid hL
      have HX := Lib.hid hX
      have HM3 := Lib.hid hm3
      clear hX hgx hm1 hm3 hL hd
      go_wp2_with fail
      refine HSO.out.mono ?_
      rintro e w9 ⟨rfl, ⟨ys, hg9⟩, hlen9, hgr9⟩
      have Y3 := box_far HM3.out hgr9 HG0.out.own (show w.heap.size + 2 < w.heap.size + 4 by omega)
      have Y4 := box_far HX.out hgr9 HG0.out.own (show w.heap.size + 3 < w.heap.size + 4 by omega)
      obtain ⟨Av, cv, rfl, -⟩ := Sl.of_own hg9.own
      have y4 := bx1 Y4
      have y3 := bx1 Y3
      have ff : w9.frozen? ⟨w.heap.size + 2, 0, none⟩ = false := by simp [World.frozen?, Y3]
      obtain ⟨Z1, Z2⟩ := cell1 Y3 (.slice Av (srt ltNo L).length cv)
      have hs9 := hgr9.size
      have HLEN := Lib.hid hlen9
      clear x4 hlen9
      go_wp2
      refine bodyPost_ret (results_cell_row rfl _ _ (w.heap.size + 2) _ _ (0, 0) _ rfl Z1 Tryz.underlying28 rfl sz_msg) rfl ?_
      have h1 := (hg9.box (mono_s D) Z2 (show w.heap.size + 2 < w.heap.size + 4 by omega)).less (mono_s D) (show b ≤ w.heap.size + 4 by omega)
      have e : norB s (d + 1) m x = .mk (srt ltNo L) := by
        show Mg.mk (srt ltNo (x.F.filterMap (norO (byS s m) (norB s d)))) = _
        rw [HL.out]
      rw [e]
      exact ⟨_, rfl, ⟨_, rfl, h1.ow (mono_s D) (show (srt ltNo L).length ≤ _ by rw [HLEN.out]; omega)⟩, (hbw.trans (below_row hgr9 HG0.out.own (by omega) (by omega))).trans (below_own Z2 (by omega) (by omega))⟩
/-- normal, of any message of its message. -/
theorem norm_any {s : Sc} (hin : ScIn s) (B : Nat) : ∀ (D d : Nat), NormH s B D (isB s d) (norB s d)
  | 0, _ => fun _ _ _ _ _ _ _ _ h => h.elim
  | _ + 1, 0 => fun _ _ _ _ _ _ _ _ _ _ _ h => by cases h
  | D + 1, d + 1 => norm_step hin (norm_any hin B D d)
/-- Normal, of any message. -/
theorem tnormal_any {s : Sc} (hin : ScIn s) (B D : Nat) (vM vE : Value) (m : Int) (x : Mg) (u : Value) (w : World) (hB : B ≤ w.heap.size) (hs : SAt B w s vM vE) (hx : MRd B w D x u) (hi : MIn x) (hc : x.cnt ≤ 100000) (T : Tabs w) :
    Calls Tryz.prog 18 #[.agg #[vM, vE], .int .i64 m, .agg #[u]] w fun e w' => ∃ A n c, e = .returned (.tuple #[.agg #[.slice A n c], .bool (mayT s m x)]) ∧ (mayT s m x = false → A = none ∧ n = 0 ∧ c = 0) ∧ (mayT s m x = true → MRd w'.heap.size w' D (norB s 64 m x) (.slice A n c)) ∧ Below w.heap.size w w' := by
  refine (tnormal_of hin B D vM vE m x u w hB hs hx hi hc T (fun v wa => MAt (Ow (w.heap.size + 3) wa) D (norB s 64 m x) [v]) (fun v wa wb h hg => MAt.imp (Ow.hi (hi_grown hg (by omega))) D _ _ h) ?_).mono ?_
  · intro hm wx hbw hsz
    have hG : isB s 64 m x = true := by
      unfold mayT at hm
      rw [Bool.and_eq_true] at hm
      exact hm.2
    refine (norm_any hin B D 64 vM vE m x u wx (Nat.le_trans hB hbw.size) (SAt.lo hs hbw hB) (MRd.low (Lo.below hbw hB) hx) hi hc hG (w.heap.size + 3) hsz).mono ?_
    rintro e w' ⟨x1, rfl, h1, h2⟩
    obtain ⟨A, c, rfl⟩ := msg_shape h1
    exact ⟨A, _, c, rfl, h1, h2⟩
  · rintro e w' ⟨A, n, c, rfl, h1, h2, h3⟩
    exact ⟨A, n, c, rfl, h1, fun hm => own_rd (h2 hm), h3⟩
/-- Is, of any message. -/
theorem tis_any {s : Sc} (hin : ScIn s) (B D : Nat) (vM vE : Value) (m : Int) (x : Mg) (u : Value) (w : World) (hB : B ≤ w.heap.size) (hs : SAt B w s vM vE) (hx : MRd B w D x u) (hi : MIn x) (hc : x.cnt ≤ 100000) (T : Tabs w) :
    Calls Tryz.prog 23 #[.agg #[vM, vE], .int .i64 m, .agg #[u]] w fun e w' => e = .returned (.bool (mayT s m x && eqB (norB s 64 m x) x)) ∧ Below w.heap.size w w' :=
  tis_of B D D vM vE m x (norB s 64 m x) u w hB hs hx fun wx hbw => (tnormal_any hin B D vM vE m x u wx (Nat.le_trans hB hbw.size) (SAt.lo hs hbw hB) (MRd.low (Lo.below hbw hB) hx) hi hc (T.on hbw)).mono fun e w' ⟨A, n, c, h1, _, h2, h3⟩ => ⟨A, n, c, h1, h2, h3⟩
end Go.Proofs.YtggcjdajmbkpiaaGreatDoor.T9
/-
  Is a file, or a schema, not too great: the contracts.
-/
namespace Go.Proofs.YtggcjdajmbkpiaaGreatDoor
set_option maxRecDepth 100000

open Go.RowKit

def fewM (m : Ms) : Bool := decide (m.F.length ≤ 40) && decide (m.ones.length ≤ 40) && decide (m.res.length ≤ 40)
def fewE (e : En) : Bool := decide (e.V.length ≤ 40)
def fewF (f : Fl) : Bool := decide (f.M.length ≤ 30) && decide (f.E.length ≤ 30) && f.M.all fewM && f.E.all fewE
theorem all_next {α : Type} {g : α → Bool} {l : List α} {k : Nat} {x : α} (h : l[k]? = some x) : (l.take (k + 1)).all g = ((l.take k).all g && g x) := by
  rw [List.take_add_one, h]; simp [List.all_append]
theorem all_part {α : Type} {g : α → Bool} {l : List α} {k : Nat} (h : (l.take k).all g = false) : l.all g = false := by
  rw [← List.take_append_drop k l, List.all_append, h, Bool.false_and]
theorem few_end {α : Type} {g : α → Bool} {c : Bool} {l : List α} {k : Nat} (h : false = (c && (l.take k).all g)) : (c && l.all g) = false := by
  cases c with
  | false => rfl
  | true =>
    rw [Bool.true_and] at h ⊢
    exact all_part h.symm
end Go.Proofs.YtggcjdajmbkpiaaGreatDoor
/-
  Is a schema not too great: the contract of the document's own.
-/
namespace Go.Proofs.YtggcjdajmbkpiaaGreatDoor
set_option maxRecDepth 100000

open Go.RowKit

def fewMd (m : Md) : Bool := decide (m.F.length ≤ 60)
def fewEd (e : Ed) : Bool := decide (e.V.length ≤ 60) && decide (e.N.length ≤ 60)
def fewS (s : Sc) : Bool := decide (s.M.length ≤ 30) && decide (s.E.length ≤ 30) && s.M.all fewMd && s.E.all fewEd
set_option maxRecDepth 1000000 in
set_option maxHeartbeats 4000000 in
theorem fews_any (B : Nat) (f : Sc) (vM vE : Value) (w : World) (hB : B ≤ w.heap.size) (hf : SAt B w f vM vE) :
    Calls Tryz.prog 33 #[.agg #[vM, vE]] w fun e w' => e = .returned (.bool (fewS f)) ∧ Below w.heap.size w w' := by
  obtain ⟨xs, ys, ⟨A1, q1, rfl, s1, b1⟩, h2, ⟨A2, q2, rfl, s2, b2⟩, h4⟩ := hf
  obtain ⟨M, E⟩ := f
  simp only at s1 s2 h2 h4 b1 b2
  have HS : Hid (fewS ⟨M, E⟩ = ((decide (M.length ≤ 30) && decide (E.length ≤ 30)) && M.all fewMd && E.all fewEd)) := Lib.hid rfl
  have hlow := Low.alloc w (.cells #[.slice A1 M.length q1, .slice A2 E.length q2] 25) hB
  have HM := Lib.hid (s1.low b1 hlow)
  have HMA := Lib.hid (h2.low hlow)
  have HE := Lib.hid (s2.low b2 hlow)
  have HEA := Lib.hid (h4.low hlow)
  have hbox := heap_alloc_new w (.cells #[.slice A1 M.length q1, .slice A2 E.length q2] 25)
  have hbw := below_new w (.cells #[.slice A1 M.length q1, .slice A2 E.length q2] 25)
  by_cases hsm : M.length ≤ 30 ∧ E.length ≤ 30
  · have d1 : decide ((M.length : Int) ≤ 30) = true := by rw [decide_eq_true_eq]; omega
    have d2 : decide ((E.length : Int) ≤ 30) = true := by rw [decide_eq_true_eq]; omega
    have HS1 : Hid (fewS ⟨M, E⟩ = (M.all fewMd && E.all fewEd)) := Lib.hid (by rw [HS.out, decide_eq_true hsm.1, decide_eq_true hsm.2]; simp)
    have hml := hsm.1
    have hel := hsm.2
    clear hsm
    go_enter Tryz.func33, Tryz.ntmps33
    go_wp2_with fail
    generalize w.alloc (.cells #[.slice A1 M.length q1, .slice A2 E.length q2] 25) = W at *
    have HBW := Lib.hid hbw
    have b0 := heap_cell hbox 0
    have b1 := heap_cell hbox 1
    simp at b0 b1
    clear hbw hbox
    go_wp2
    go_loopw [3, 4] (fun o i wr => ∃ (k : Nat) (b : Bool), i = .int .i64 k ∧ o = .bool b ∧ k ≤ M.length ∧ b = (M.take k).all fewMd ∧ wr = W) (fun _ i _ => M.length - (intOf i).toNat)
    case atStart => exact ⟨0, true, rfl, rfl, by omega, by simp, rfl⟩
    case round =>
      obtain ⟨k, b, rfl, rfl, hk, hb, rfl⟩ := hrel
      have HB := Lib.hid hb
      clear hb
      by_cases hlt : k < M.length
      · cases b with
        | true =>
          obtain ⟨m, hm⟩ : ∃ m, M[k]? = some m := ⟨_, List.getElem?_eq_getElem hlt⟩
          obtain ⟨ad, vF, rfl, hg, hmr, c0, c1⟩ := mdr_at HM.out HMA.out hm
          obtain ⟨AF, cF, rfl, -, -⟩ := hmr
          have HN := Lib.hid (all_next (g := fewMd) hm)
          have HF : Hid (fewMd m = decide ((m.F.length : Int) ≤ 60)) := Lib.hid (by unfold fewMd; congr 1; apply propext; omega)
          clear hm c0
          go_wp2
          refine ⟨⟨k + 1, _, by go_num, rfl, by omega, ?_, trivial⟩, by simp [intOf]; omega⟩
          have h := HB.out
          rw [HN.out, ← h, HF.out, Bool.true_and]
        | false =>
          obtain ⟨c, hc⟩ : ∃ c, c = false := ⟨_, rfl⟩
          have HS2 : Hid (fewS ⟨M, E⟩ = (c && E.all fewEd)) := Lib.hid (by rw [HS1.out, hc, all_part HB.out.symm])
          go_wp2
          go_loopw [3, 5] (fun o i wx => ∃ (k : Nat) (b : Bool), i = .int .i64 k ∧ o = .bool b ∧ k ≤ E.length ∧ b = (c && (E.take k).all fewEd) ∧ wx = wr) (fun _ i _ => E.length - (intOf i).toNat)
          case atStart => exact ⟨0, c, rfl, by rw [hc], by omega, by simp, rfl⟩
          case round =>
            obtain ⟨k, b, rfl, rfl, hk2, hb2, rfl⟩ := hrel
            have HB2 := Lib.hid hb2
            clear hb2
            by_cases hlt2 : k < E.length
            · cases b with
              | false =>
                go_wp2
                go_ret
                exact ⟨by rw [HS2.out, few_end HB2.out]; rfl, HBW.out⟩
              | true =>
                obtain ⟨e, he⟩ : ∃ e, E[k]? = some e := ⟨_, List.getElem?_eq_getElem hlt2⟩
                obtain ⟨ad2, vV, vN, rfl, hg2, hmr2, hnr2, g0, g1, g2⟩ := edr_at HE.out HEA.out he
                obtain ⟨AV, cV, rfl, -, -⟩ := hmr2
                obtain ⟨AN, cN, rfl, -, -⟩ := hnr2
                have HN2 := Lib.hid (all_next (g := fewEd) he)
                have HV : Hid (fewEd e = (decide ((e.V.length : Int) ≤ 60) && decide ((e.N.length : Int) ≤ 60))) := Lib.hid (by
                  have e60 : ∀ n : Nat, decide (n ≤ 60) = decide ((n : Int) ≤ 60) := fun n => by congr 1; apply propext; omega
                  unfold fewEd
                  rw [e60, e60])
                clear he g0
                obtain ⟨a1, ha1⟩ : ∃ a, decide ((e.V.length : Int) ≤ 60) = a := ⟨_, rfl⟩
                rw [ha1] at HV
                cases a1
                all_goals
                  go_wp2
                  refine ⟨⟨k + 1, _, by go_num, rfl, by omega, ?_, trivial⟩, by simp [intOf]; omega⟩
                  have h := HB2.out
                  rw [HN2.out, ← Bool.and_assoc, ← h, Bool.true_and, HV.out]
                  simp
            · obtain rfl : k = E.length := by omega
              go_wp2
              go_ret
              exact ⟨by rw [HS2.out]; have h := HB2.out; rw [List.take_length] at h; rw [← h]; rfl, HBW.out⟩
      · obtain rfl : k = M.length := by omega
        have HS2 : Hid (fewS ⟨M, E⟩ = (b && E.all fewEd)) := Lib.hid (by rw [HS1.out]; have h := HB.out; rw [List.take_length] at h; rw [h])
        obtain ⟨c, hc⟩ : ∃ c, c = b := ⟨_, rfl⟩
        rw [← hc] at HS2
        clear HB
        go_wp2
        go_loopw [3, 5] (fun o i wx => ∃ (k : Nat) (b : Bool), i = .int .i64 k ∧ o = .bool b ∧ k ≤ E.length ∧ b = (c && (E.take k).all fewEd) ∧ wx = wr) (fun _ i _ => E.length - (intOf i).toNat)
        case atStart => exact ⟨0, c, rfl, by rw [hc], by omega, by simp, rfl⟩
        case round =>
          obtain ⟨k, b, rfl, rfl, hk2, hb2, rfl⟩ := hrel
          have HB2 := Lib.hid hb2
          clear hb2
          by_cases hlt2 : k < E.length
          · cases b with
            | false =>
              go_wp2
              go_ret
              exact ⟨by rw [HS2.out, few_end HB2.out]; rfl, HBW.out⟩
            | true =>
              obtain ⟨e, he⟩ : ∃ e, E[k]? = some e := ⟨_, List.getElem?_eq_getElem hlt2⟩
              obtain ⟨ad2, vV, vN, rfl, hg2, hmr2, hnr2, g0, g1, g2⟩ := edr_at HE.out HEA.out he
              obtain ⟨AV, cV, rfl, -, -⟩ := hmr2
              obtain ⟨AN, cN, rfl, -, -⟩ := hnr2
              have HN2 := Lib.hid (all_next (g := fewEd) he)
              have HV : Hid (fewEd e = (decide ((e.V.length : Int) ≤ 60) && decide ((e.N.length : Int) ≤ 60))) := Lib.hid (by
                have e60 : ∀ n : Nat, decide (n ≤ 60) = decide ((n : Int) ≤ 60) := fun n => by congr 1; apply propext; omega
                unfold fewEd
                rw [e60, e60])
              clear he g0
              obtain ⟨a1, ha1⟩ : ∃ a, decide ((e.V.length : Int) ≤ 60) = a := ⟨_, rfl⟩
              rw [ha1] at HV
              cases a1
              all_goals
                go_wp2
                refine ⟨⟨k + 1, _, by go_num, rfl, by omega, ?_, trivial⟩, by simp [intOf]; omega⟩
                have h := HB2.out
                rw [HN2.out, ← Bool.and_assoc, ← h, Bool.true_and, HV.out]
                simp
          · obtain rfl : k = E.length := by omega
            go_wp2
            go_ret
            exact ⟨by rw [HS2.out]; have h := HB2.out; rw [List.take_length] at h; rw [← h]; rfl, HBW.out⟩
  · have HF : Hid (fewS ⟨M, E⟩ = false) := Lib.hid (by
      rw [HS.out]
      by_cases h1 : M.length ≤ 30
      · have h2 : ¬ E.length ≤ 30 := fun h => hsm ⟨h1, h⟩
        simp [h2]
      · simp [h1])
    have hor : decide ((M.length : Int) ≤ 30) = false ∨ (decide ((M.length : Int) ≤ 30) = true ∧ decide ((E.length : Int) ≤ 30) = false) := by
      by_cases h1 : M.length ≤ 30
      · right
        have h2 : ¬ E.length ≤ 30 := fun h => hsm ⟨h1, h⟩
        exact ⟨by rw [decide_eq_true_eq]; omega, by rw [decide_eq_false_iff_not]; omega⟩
      · left
        rw [decide_eq_false_iff_not]; omega
    have HBW := Lib.hid hbw
    clear hsm HS HM HMA HE HEA hbw
    rcases hor with d1 | ⟨d1, d2⟩
    all_goals
      go_enter Tryz.func33, Tryz.ntmps33
      go_wp2_with fail
      generalize w.alloc (.cells #[.slice A1 M.length q1, .slice A2 E.length q2] 25) = W at *
      have b0 := heap_cell hbox 0
      have b1 := heap_cell hbox 1
      simp at b0 b1
      clear hbox
      go_wp2
      go_loopw [3, 4] (fun o i wr => ∃ k : Nat, i = .int .i64 k ∧ o = .bool false ∧ k ≤ M.length ∧ wr = W) (fun _ _ _ => 0)
      case atStart => exact ⟨0, rfl, rfl, by omega, rfl⟩
      case round =>
        obtain ⟨k, rfl, rfl, hk, rfl⟩ := hrel
        by_cases hlt : k < M.length
        all_goals
          go_wp2
          go_loopw [3, 5] (fun o i wx => ∃ k : Nat, i = .int .i64 k ∧ o = .bool false ∧ k ≤ E.length ∧ wx = wr) (fun _ _ _ => 0)
          case atStart => exact ⟨0, rfl, rfl, by omega, rfl⟩
          case round =>
            obtain ⟨k2, rfl, rfl, hk2, rfl⟩ := hrel
            by_cases hlt2 : k2 < E.length
            all_goals
              go_wp2
              go_ret
              exact ⟨by rw [HF.out]; rfl, HBW.out⟩
end Go.Proofs.YtggcjdajmbkpiaaGreatDoor
/-
  The statements' first call tells yes; and what is not too great.
-/
namespace Go.Proofs.YtggcjdajmbkpiaaGreatDoor.T9
set_option maxRecDepth 100000
open Go.Proofs.YtggcjdajmbkpiaaGreatDoor.T4
open Go.RowKit Go.Maps

theorem norm_bare {s : Sc} (hin : ScIn s) (B D : Nat) (vM vE : Value) (m : Int) (x : Mg) (u : Value) (w : World) (hB : B ≤ w.heap.size) (hs : SAt B w s vM vE) (hx : MRd B w D x u) (hi : MIn x) (hc : x.cnt ≤ 100000) (T : Tabs w)
    (hm : mayT s m x = true) (hno : ∀ a ∈ x.F, ∃ f, byS s m a.no = some f ∧ toldB f a.V = false) :
    Calls Tryz.prog 18 #[.agg #[vM, vE], .int .i64 m, .agg #[u]] w fun e w' => e = .returned (.tuple #[.agg #[.slice none 0 0], .bool true]) ∧ Below w.heap.size w w' := by
  refine (tnormal_of hin B D vM vE m x u w hB hs hx hi hc T (fun v _ => v = .slice none 0 0) (fun v _ _ h _ => h) (fun _ wx hw _ => ?_)).mono ?_
  · refine (normal_none B D vM vE m x u wx (Nat.le_trans hB hw.size) (SAt.lo hs hw hB) (MRd.low (Lo.below hw hB) hx) hno).mono ?_
    rintro e w' ⟨rfl, hb⟩
    exact ⟨none, 0, 0, rfl, rfl, hb⟩
  · rintro e w' ⟨A, n, c, rfl, -, hq, hb⟩
    have := hq hm
    simp only [Value.slice.injEq] at this
    obtain ⟨rfl, rfl, rfl⟩ := this
    exact ⟨by rw [hm], hb⟩
theorem nil_rd (w : World) : MRd w.heap.size w 1 (.mk []) (.slice none 0 0) := ⟨_, rfl, [], ⟨Rr.nil _ _ _, Nat.zero_le _⟩, rfl⟩
theorem is_bare {s : Sc} (hin : ScIn s) (B D : Nat) (vM vE : Value) (m : Int) (x : Mg) (u : Value) (w : World) (hB : B ≤ w.heap.size) (hs : SAt B w s vM vE) (hx : MRd B w D x u) (hi : MIn x) (hc : x.cnt ≤ 100000) (T : Tabs w)
    (hm : mayT s m x = true) (hno : ∀ a ∈ x.F, ∃ f, byS s m a.no = some f ∧ toldB f a.V = false) :
    Calls Tryz.prog 23 #[.agg #[vM, vE], .int .i64 m, .agg #[u]] w fun e w' => e = .returned (.bool (eqB (.mk []) x)) ∧ Below w.heap.size w w' := by
  refine (tis_of B D 1 vM vE m x (.mk []) u w hB hs hx (fun wx hw => ?_)).mono ?_
  · refine (norm_bare hin B D vM vE m x u wx (Nat.le_trans hB hw.size) (SAt.lo hs hw hB) (MRd.low (Lo.below hw hB) hx) hi hc (T.on hw) hm hno).mono ?_
    rintro e w' ⟨rfl, hb⟩
    exact ⟨none, 0, 0, by rw [hm], fun _ => nil_rd w', hb⟩
  · rintro e w' ⟨rfl, hb⟩
    exact ⟨by rw [hm]; rfl, hb⟩
/-! ### The chapter's example -/
def f0 : Df := ⟨1, [97], 0, 0, false, -1, 0⟩
def s0 : Sc := ⟨[⟨[65], [f0]⟩], []⟩
def v0 : Vl' := ⟨0, [], []⟩
def t0 : So := ⟨1, [], [v0]⟩
def x0 : Mg := .mk [t0]
theorem may_s0 : ScMay s0 := by
  refine ⟨by decide, by decide, by decide, by decide, by decide, fun m hm => ?_, fun e he => by cases he⟩
  obtain rfl : m = ⟨[65], [f0]⟩ := by simpa [s0] using hm
  refine ⟨by decide, by simp, by simp, fun d hd => ?_⟩
  obtain rfl : d = f0 := by simpa using hd
  exact ⟨by decide, by decide, by decide, by decide, by decide, by decide, by decide, .inl rfl, .inl rfl⟩
theorem may_x0 : mayT s0 0 x0 = true := by
  unfold mayT
  rw [Bool.and_eq_true]
  exact ⟨@decide_eq_true _ (Classical.propDecidable _) may_s0, by decide +kernel⟩
theorem may_n0 : mayT s0 0 (.mk []) = true := by
  unfold mayT
  rw [Bool.and_eq_true]
  exact ⟨@decide_eq_true _ (Classical.propDecidable _) may_s0, by decide +kernel⟩
theorem in_s0 : ScIn s0 := by
  refine ⟨fun m hm => ?_, fun e he => by cases he⟩
  obtain rfl : m = ⟨[65], [f0]⟩ := by simpa [s0] using hm
  refine ⟨by unfold maxLen; decide, fun d hd => ?_⟩
  obtain rfl : d = f0 := by simpa using hd
  exact ⟨by unfold inr; decide, by unfold maxLen; decide, by unfold inr; decide, by unfold inr; decide, by unfold inr; decide, by unfold inr; decide⟩
theorem in_x0 : MIn x0 := .of fun s hs => by
  obtain rfl : s = t0 := by simpa [x0, Mg.F] using hs
  refine ⟨by unfold inI; decide, fun v hv => ?_⟩
  obtain rfl : v = v0 := by simpa [t0] using hv
  exact ⟨⟨by unfold inI; decide, by decide⟩, fun x hx => by cases hx⟩
theorem in_n0 : MIn (.mk []) := .of fun s hs => by cases hs
theorem not_x0 : ∀ a ∈ x0.F, ∃ f, byS s0 0 a.no = some f ∧ toldB f a.V = false := fun a ha => by
  obtain rfl : a = t0 := by simpa [x0, Mg.F] using ha
  exact ⟨f0, by decide, by decide⟩
theorem sat0 {w : World} {g0 g1 B : Nat} {t0 t1 : TypeId} {fr0 fr1 : Nat × Nat} (h0 : w.heap[g0]? = some (.cells #[.int .i64 1, .string ⟨#[97]⟩, .int .i64 0, .int .i64 0, .bool false, .int .i64 (-1), .int .i64 0] t0 fr0)) (h1 : w.heap[g1]? = some (.cells #[.string ⟨#[65]⟩, .slice (some ⟨g0, 0, none⟩) 1 1] t1 fr1)) (b0 : g0 < B) (b1 : g1 < B) :
    SAt B w s0 (.slice (some ⟨g1, 0, none⟩) 1 1) (.slice none 0 0) :=
  ⟨_, [], (lit_row (n := 1) (size := 2) (xs := [.string ⟨#[65]⟩, .slice (some ⟨g0, 0, none⟩) 1 1]) h1 rfl (by decide) b1 74).1, ⟨.slice (some ⟨g0, 0, none⟩) 1 1, [], rfl, (lit_row (n := 1) (size := 7) (xs := [.int .i64 1, .string ⟨#[97]⟩, .int .i64 0, .int .i64 0, .bool false, .int .i64 (-1), .int .i64 0]) h0 rfl (by decide) b0 64).1, rfl⟩, Rr.nil _ _ _, rfl⟩
theorem rd0 {w : World} {g3 g4 : Nat} {t3 t4 : TypeId} {fr3 fr4 : Nat × Nat} (h3 : w.heap[g3]? = some (.cells #[.int .i64 0, .string ⟨#[]⟩, .slice none 0 0] t3 fr3)) (h4 : w.heap[g4]? = some (.cells #[.int .i64 1, .slice none 0 0, .slice (some ⟨g3, 0, none⟩) 1 1] t4 fr4)) :
    MRd w.heap.size w 2 x0 (.slice (some ⟨g4, 0, none⟩) 1 1) :=
  one_rd (D := 1) (s := t0) ⟨.slice none 0 0, .slice (some ⟨g3, 0, none⟩) 1 1, rfl, ⟨[], ⟨Rr.nil _ _ _, Nat.zero_le _⟩, rfl⟩, ⟨_, lit_row (n := 1) (size := 3) (xs := [.int .i64 0, .string ⟨#[]⟩, .slice none 0 0]) h3 rfl (by decide) (box_lt h3) _, Rows.single ⟨_, rfl, [], ⟨Rr.nil _ _ _, Nat.zero_le _⟩, rfl⟩⟩⟩ h4
theorem six_new (w : World) (o1 o2 o3 o4 o5 o6 : Obj) : let W := (((((w.alloc o1).alloc o2).alloc o3).alloc o4).alloc o5).alloc o6
    W.heap[w.heap.size]? = some o1 ∧ W.heap[w.heap.size + 1]? = some o2 ∧ W.heap[w.heap.size + 1 + 1]? = some o3 ∧ W.heap[w.heap.size + 1 + 1 + 1]? = some o4 ∧ W.heap[w.heap.size + 1 + 1 + 1 + 1]? = some o5 ∧ W.heap[w.heap.size + 1 + 1 + 1 + 1 + 1]? = some o6 ∧ Below w.heap.size w W := by
  intro W
  obtain ⟨a1, a2, a3, a4, L4⟩ := four_new w o1 o2 o3 o4
  have N5 := below_new ((((w.alloc o1).alloc o2).alloc o3).alloc o4) o5
  have N6 := below_new (((((w.alloc o1).alloc o2).alloc o3).alloc o4).alloc o5) o6
  have e5 : ((((w.alloc o1).alloc o2).alloc o3).alloc o4).heap.size = w.heap.size + 1 + 1 + 1 + 1 := by simp
  have e6 : (((((w.alloc o1).alloc o2).alloc o3).alloc o4).alloc o5).heap.size = w.heap.size + 1 + 1 + 1 + 1 + 1 := by simp
  exact ⟨box_on (box_on a1 N5) N6, box_on (box_on a2 N5) N6, box_on (box_on a3 N5) N6, box_on (box_on a4 N5) N6, e5 ▸ box_on (heap_alloc_new _ o5) N6, e6 ▸ heap_alloc_new _ o6, below_then (below_then L4 N5) N6⟩
set_option maxRecDepth 1000000 in
set_option maxHeartbeats 4000000 in
theorem awake10_any (w : World) (T : Tabs w) : Calls Tryz.prog 15 #[] w fun e w' => e = .returned (.bool true) ∧ Below w.heap.size w w' := by
  obtain ⟨h1, h2, h3, h4, h5, h6, L6⟩ := six_new w (.cells #[.int .i64 1, .string ⟨#[97]⟩, .int .i64 0, .int .i64 0, .bool false, .int .i64 (-1), .int .i64 0] 64) (.cells #[.string ⟨#[65]⟩, .slice (some ⟨w.heap.size, 0, none⟩) 1 1] 74) (.cells #[.slice (some ⟨w.heap.size + 1, 0, none⟩) 1 1, .slice none 0 0] 25) (.cells #[.int .i64 0, .string ⟨#[]⟩, .slice none 0 0] 31) (.cells #[.int .i64 1, .slice none 0 0, .slice (some ⟨w.heap.size + 1 + 1 + 1, 0, none⟩) 1 1] 36) (.cells #[.slice (some ⟨w.heap.size + 1 + 1 + 1 + 1, 0, none⟩) 1 1] 28)
  have hT := T.on L6
  clear T
  go_enter Tryz.func15, Tryz.ntmps15
  go_wp2_with fail
  generalize (((((w.alloc (.cells #[.int .i64 1, .string ⟨#[97]⟩, .int .i64 0, .int .i64 0, .bool false, .int .i64 (-1), .int .i64 0] 64)).alloc (.cells #[.string ⟨#[65]⟩, .slice (some ⟨w.heap.size, 0, none⟩) 1 1] 74)).alloc (.cells #[.slice (some ⟨w.heap.size + 1, 0, none⟩) 1 1, .slice none 0 0] 25)).alloc (.cells #[.int .i64 0, .string ⟨#[]⟩, .slice none 0 0] 31)).alloc (.cells #[.int .i64 1, .slice none 0 0, .slice (some ⟨w.heap.size + 1 + 1 + 1, 0, none⟩) 1 1] 36)).alloc (.cells #[.slice (some ⟨w.heap.size + 1 + 1 + 1 + 1, 0, none⟩) 1 1] 28) = W at *
  have HS := Lib.hid (fun wx (h : Below W.heap.size W wx) => sat0 (B := wx.heap.size) (box_on h1 h) (box_on h2 h) (Nat.lt_of_lt_of_le (box_lt h1) h.size) (Nat.lt_of_lt_of_le (box_lt h2) h.size))
  have HM := Lib.hid (fun wx (h : Below W.heap.size W wx) => rd0 (box_on h4 h) (box_on h5 h))
  have HC := Lib.hid (fun wx (h : Below W.heap.size W wx) => And.intro (box2' (box_on h3 h)) (bx1 (box_on h6 h)))
  have HT := Lib.hid hT
  have c0 : x0.cnt ≤ 100000 := by decide +kernel
  have n0 : (Mg.mk []).cnt ≤ 100000 := by decide +kernel
  have LR : Below W.heap.size W W := Below.refl _ _
  clear h1 h2 h3 h4 h5 h6 hT
  refine (norm_bare in_s0 _ 2 _ _ 0 x0 _ W (Nat.le_refl _) (HS.out W LR) (HM.out W LR) in_x0 c0 HT.out may_x0 not_x0).mono ?_
  rintro e w1 ⟨rfl, hb1⟩
  have N1 := below_new w1 (.cells #[.slice none 0 0] 28)
  have L1 := below_then hb1 N1
  have Z1 := heap_alloc_new w1 (.cells #[.slice none 0 0] 28)
  obtain ⟨⟨k1, k2⟩, k3⟩ := HC.out _ L1
  have HA := Lib.hid (tmay_any in_s0 _ 2 _ _ 0 x0 _ _ (Nat.le_refl _) (HS.out _ L1) (HM.out _ L1) in_x0 c0 (HT.out.on L1))
  rw [may_x0] at HA
  go_wp2_with fail
  refine HA.out.mono ?_
  rintro e w2 ⟨rfl, hb2⟩
  have L2 := below_then L1 hb2
  obtain ⟨⟨q1, q2⟩, q3⟩ := HC.out _ L2
  have Z2 := bx1 (box_on Z1 hb2)
  have HI := Lib.hid (is_bare in_s0 _ 2 _ _ 0 x0 _ _ (Nat.le_refl _) (HS.out _ L2) (HM.out _ L2) in_x0 c0 (HT.out.on L2) may_x0 not_x0)
  rw [eqB_no (show ¬ Mg.mk [] = x0 by unfold x0; simp)] at HI
  clear k1 k2 k3
  go_wp2_with fail
  refine HI.out.mono ?_
  rintro e w3 ⟨rfl, hb3⟩
  have L3 := below_then L2 hb3
  obtain ⟨⟨r1, r2⟩, r3⟩ := HC.out _ L3
  have Z3 := bx1 (box_on (box_on Z1 hb2) hb3)
  have HI2 := Lib.hid (is_bare in_s0 w3.heap.size 1 _ _ 0 (.mk []) (.slice none 0 0) w3 (Nat.le_refl _) (HS.out _ L3) (nil_rd w3) in_n0 n0 (HT.out.on L3) may_n0 (fun a ha => by cases ha))
  rw [eqB_yes rfl] at HI2
  clear q1 q2 q3 Z2
  go_wp2_with fail
  refine HI2.out.mono ?_
  rintro e w4 ⟨rfl, hb4⟩
  go_wp2
  go_ret
  exact ⟨rfl, L6.trans ((below_then L3 hb4).mono L6.size)⟩
/-- What is not too great. -/
theorem few10_any (B D : Nat) (s : Sc) (vM vE : Value) (x : Mg) (u : Value) (w : World) (hB : B ≤ w.heap.size) (hs : SAt B w s vM vE) (hx : MRd B w D x u) :
    Calls Tryz.prog 16 #[.agg #[vM, vE], .agg #[u]] w fun e w' => ∃ r : Bool, e = .returned (.bool r) ∧ (r = true → Fit 3000 80 x) ∧ Below w.heap.size w w' := by
  obtain ⟨X1, X2, LBD⟩ := two_boxes w (.cells #[vM, vE] 25) (.cells #[u] 28)
  have HF := Lib.hid (fews_any B s vM vE _ (Nat.le_trans hB LBD.size) (SAt.lo hs LBD hB))
  have HO := Lib.hid (fun wx (h : Below w.heap.size w wx) => few_one B D x u 80 wx (Nat.le_trans hB h.size) (MRd.low (Lo.below h hB) hx) (by omega))
  obtain ⟨A1, q1, A2, q2, rfl, rfl⟩ := sat_shape hs
  obtain ⟨A, c, rfl⟩ := rd_shape hx
  obtain ⟨x1, x2⟩ := box2' X1
  obtain ⟨d, hd⟩ : ∃ d, fewS s = d := ⟨_, rfl⟩
  rw [hd] at HF
  clear hs hx hd
  cases d with
  | false =>
    go_enter Tryz.func16, Tryz.ntmps16
    go_wp2_with fail
    refine HF.out.mono ?_
    rintro e w1 ⟨rfl, hb1⟩
    go_wp2
    go_ret
    exact ⟨false, rfl, (fun h => (by cases h)), below_then LBD hb1⟩
  | true =>
    go_enter Tryz.func16, Tryz.ntmps16
    go_wp2_with fail
    refine HF.out.mono ?_
    rintro e w1 ⟨rfl, hb1⟩
    have z3 := bx1 (box_on X2 hb1)
    have HO2 := Lib.hid (HO.out _ (below_then LBD hb1))
    go_wp2_with fail
    refine HO2.out.mono ?_
    rintro e w2 ⟨r, rfl, hr, hb2⟩
    have HRR := Lib.hid hr
    clear hr
    cases r with
    | false =>
      go_wp2
      go_ret
      exact ⟨_, rfl, (fun h => (by cases h)), below_then (below_then LBD hb1) hb2⟩
    | true =>
      go_wp2
      go_ret
      exact ⟨_, rfl, (fun _ => HRR.out (by trivial)), below_then (below_then LBD hb1) hb2⟩
end Go.Proofs.YtggcjdajmbkpiaaGreatDoor.T9
