/-
  A map, as bytes: the contract of entries.
-/
import Derived.Test.YtipaangiehdgkaaGreatDoorEncWri
import Derived.Test.YtipaangiehdgkaaGreatDoorTyNorm
import Derived.Test.YtipaangiehdgkaaGreatDoorEncNor
namespace Go.Proofs.YtipaangiehdgkaaGreatDoor.T12
set_option maxRecDepth 100000

open Go.RowKit

open Go.Proofs.YtipaangiehdgkaaGreatDoor.T9 Go.Proofs.YtipaangiehdgkaaGreatDoor.T4

theorem far_cell {w w' : World} {v : Value} {b e size n top : Nat} {xs : List Value} (hg : w.grownBy w' v.ownBlock) (hown : w.ownsRow b e size v n xs) (htop : ∀ q, v.ownBlock = some q → q < top) {a : Addr} {u : Value} (h : w.cell? a = some u) (hlt : a.block < w.heap.size) (hf : a.block < b ∨ top ≤ a.block) : w'.cell? a = some u :=
  (hg.cell_far a hlt fun e => by have h1 := (own_blk hown _ e.symm).1; have h2 := htop _ e.symm; omega).trans h
theorem okV_of {s : Sc} {d : Nat} {f : Df} {t : So} (hi : SIn t) (hfill : fillG (isB s d) f t = true) (hc : cS t ≤ 100000) (hwt : 40 * cS t + tS t ≤ 35184372088832) : ∀ v ∈ t.V, OkV s d f.kind f.ref v := by
  intro v hv
  have h1 := cV_le (s := t) (.inr hv)
  have h2 := sm_mem (g := tV) hv
  have h3 : tS t = sm (t.K.map tV) + sm (t.V.map tV) := rfl
  unfold fillG at hfill
  simp only [Bool.and_eq_true, List.all_eq_true] at hfill
  exact ⟨hi.val (.inr hv), hfill.2.2 v hv, by omega, by omega⟩
theorem okK_of {s : Sc} {d : Nat} {f : Df} {t : So} (hi : SIn t) (hfill : fillG (isB s d) f t = true) (hc : cS t ≤ 100000) (hwt : 40 * cS t + tS t ≤ 35184372088832) : ∀ v ∈ t.K, OkV s d f.key 0 v := by
  intro v hv
  have h1 := cV_le (s := t) (.inl hv)
  have h2 := sm_mem (g := tV) hv
  have h3 : tS t = sm (t.K.map tV) + sm (t.V.map tV) := rfl
  unfold fillG at hfill
  simp only [Bool.and_eq_true, List.all_eq_true] at hfill
  exact ⟨hi.val (.inl hv), hfill.2.1 v hv, by omega, by omega⟩
theorem len_of {s : Sc} {d : Nat} {f : Df} {t : So} (hfill : fillG (isB s d) f t = true) (hk : f.key ≠ -1) : t.K.length = t.V.length := by
  unfold fillG manyB at hfill
  rw [if_neg hk] at hfill
  simp only [Bool.and_eq_true, beq_iff_eq] at hfill
  exact hfill.1
set_option maxRecDepth 1000000 in
set_option maxHeartbeats 8000000 in
theorem entries_any {s : Sc} {B D d : Nat} (H : EncH s B D d) (A1 A2 : Option Addr) (q1 q2 : Nat) (f : Df) (t : So) (A3 A4 : Option Addr) (q3 q4 : Nat) (w : World) (hB : B ≤ w.heap.size) (hs : SAt B w s (.slice A1 s.M.length q1) (.slice A2 s.E.length q2)) (ht : SAt' (Rd B w) D t [.int .i64 t.no, .slice A3 t.K.length q3, .slice A4 t.V.length q4]) (hi : SIn t) (hfill : fillG (isB s d) f t = true) (hc : cS t ≤ 100000) (hwt : 40 * cS t + tS t ≤ 35184372088832) (hfn : inI f.no) (T : Wires w) (hkey : f.key ≠ -1) :
    Calls Tryz.prog 75 #[.agg #[.slice A1 s.M.length q1, .slice A2 s.E.length q2], .agg #[.int .i64 f.no, .string (txt f.name), .int .i64 f.kind, .int .i64 f.ref, .bool f.rep, .int .i64 f.key, .int .i64 f.one], .agg #[.int .i64 t.no, .slice A3 t.K.length q3, .slice A4 t.V.length q4]] w fun e w' => ∃ v, e = .returned v ∧ By w.heap.size w' (fieldL (encB s d) f t) v ∧ Below w.heap.size w w' := by
  obtain ⟨i0, hi0, hz0, hz1, hz2⟩ := info_parts info_sl8
  obtain ⟨T1, T2, T3, L3⟩ := three_boxes w (.cells #[.slice A1 s.M.length q1, .slice A2 s.E.length q2] 33) (dC f) (.cells #[.int .i64 t.no, .slice A3 t.K.length q3, .slice A4 t.V.length q4] 48)
  obtain ⟨W3, hW3⟩ : ∃ W, W = (((w.alloc (.cells #[.slice A1 s.M.length q1, .slice A2 s.E.length q2] 33)).alloc (dC f)).alloc (.cells #[.int .i64 t.no, .slice A3 t.K.length q3, .slice A4 t.V.length q4] 48)) := ⟨_, rfl⟩
  obtain ⟨u3, u4, hu, hK, hV⟩ := ht
  simp only [List.cons.injEq, and_true, true_and] at hu
  obtain ⟨rfl, rfl⟩ := hu
  rw [← hW3] at T1 T2 T3 L3
  have hBW := Nat.le_trans hB L3.size
  have HS := Lib.hid (fun wx (h : Below W3.heap.size W3 wx) => SAt.lo (SAt.lo hs L3 hB) h hBW)
  have HKK := Lib.hid (fun wx (h : Below W3.heap.size W3 wx) => (hK.low (Lo.below L3 hB) fun a cs h => VRd.low (Lo.below L3 hB) h).low (Lo.below h hBW) fun a cs hh => VRd.low (Lo.below h hBW) hh)
  have HVV := Lib.hid (fun wx (h : Below W3.heap.size W3 wx) => (hV.low (Lo.below L3 hB) fun a cs h => VRd.low (Lo.below L3 hB) h).low (Lo.below h hBW) fun a cs hh => VRd.low (Lo.below h hBW) hh)
  have HSX : Hid (∀ wx, Below W3.heap.size W3 wx → (wx.cell? ⟨w.heap.size, 0, none⟩ = some (.slice A1 s.M.length q1) ∧ wx.cell? ⟨w.heap.size, 1, none⟩ = some (.slice A2 s.E.length q2)) ∧ (wx.cell? ⟨w.heap.size + 1, 0, none⟩ = some (.int .i64 f.no) ∧ wx.cell? ⟨w.heap.size + 1, 1, none⟩ = some (.string (txt f.name)) ∧ wx.cell? ⟨w.heap.size + 1, 2, none⟩ = some (.int .i64 f.kind) ∧ wx.cell? ⟨w.heap.size + 1, 3, none⟩ = some (.int .i64 f.ref) ∧ wx.cell? ⟨w.heap.size + 1, 4, none⟩ = some (.bool f.rep) ∧ wx.cell? ⟨w.heap.size + 1, 5, none⟩ = some (.int .i64 f.key) ∧ wx.cell? ⟨w.heap.size + 1, 6, none⟩ = some (.int .i64 f.one)) ∧ (wx.cell? ⟨w.heap.size + 2, 0, none⟩ = some (.int .i64 t.no) ∧ wx.cell? ⟨w.heap.size + 2, 1, none⟩ = some (.slice A3 t.K.length q3) ∧ wx.cell? ⟨w.heap.size + 2, 2, none⟩ = some (.slice A4 t.V.length q4))) := Lib.hid fun wx h => ⟨box2' (box_on T1 h), dc_cells (box_on T2 h), bx3 (box_on T3 h)⟩
  have hD : Below W3.heap.size W3 W3.drew := (Below.refl _ _).drew
  have HT := Lib.hid (fun wx (h : Below W3.heap.size W3 wx) => T.on (below_then L3 h))
  have HOV := Lib.hid (okV_of hi hfill hc hwt)
  have HOK := Lib.hid (okK_of hi hfill hc hwt)
  have HL3 := Lib.hid L3
  have hcl := cS_len (s := t)
  have HLEN := Lib.hid (len_of hfill hkey)
  have HA1 := Lib.hid (fun wx (h : Below W3.heap.size W3 wx) => valueWriter_any H (.slice A1 s.M.length q1) (.slice A2 s.E.length q2) f.key 0 1 wx (Nat.le_trans hBW h.size) (HS.out wx h) ⟨by decide, by decide⟩ (HT.out wx h))
  have HA2 := Lib.hid (fun wx (h : Below W3.heap.size W3 wx) => valueWriter_any H (.slice A1 s.M.length q1) (.slice A2 s.E.length q2) f.kind f.ref 2 wx (Nat.le_trans hBW h.size) (HS.out wx h) ⟨by decide, by decide⟩ (HT.out wx h))
  have HFL : Hid (fieldL (encB s d) f t = ((t.K.zip t.V).map (entL (encB s d) f)).flatten) := Lib.hid (by unfold fieldL; rw [if_neg hkey])
  have hflen := field_len (enc_len s d) f t hi (Nat.le_trans hwt (by decide))
  have HFN := Lib.hid hflen
  have HWT := Lib.hid hwt
  have HW3Z : Hid (w.heap.size + 3 = W3.heap.size) := Lib.hid (by rw [hW3]; simp)
  clear hs hi hfill hK hV T1 T2 T3 L3 H hflen T hwt
  go_enter Tryz.func75, Tryz.ntmps75
  go_wp2_with fail
  rw [← hW3]
  clear hW3
  refine wp_region_held_drew (S := (fun w' => (w'.cell? ⟨w.heap.size, 0, none⟩ = some (.slice A1 s.M.length q1) ∧ w'.cell? ⟨w.heap.size, 1, none⟩ = some (.slice A2 s.E.length q2)) ∧ (w'.cell? ⟨w.heap.size + 1, 0, none⟩ = some (.int .i64 f.no) ∧ w'.cell? ⟨w.heap.size + 1, 1, none⟩ = some (.string (txt f.name)) ∧ w'.cell? ⟨w.heap.size + 1, 2, none⟩ = some (.int .i64 f.kind) ∧ w'.cell? ⟨w.heap.size + 1, 3, none⟩ = some (.int .i64 f.ref) ∧ w'.cell? ⟨w.heap.size + 1, 4, none⟩ = some (.bool f.rep) ∧ w'.cell? ⟨w.heap.size + 1, 5, none⟩ = some (.int .i64 f.key) ∧ w'.cell? ⟨w.heap.size + 1, 6, none⟩ = some (.int .i64 f.one)) ∧ (w'.cell? ⟨w.heap.size + 2, 0, none⟩ = some (.int .i64 t.no) ∧ w'.cell? ⟨w.heap.size + 2, 1, none⟩ = some (.slice A3 t.K.length q3) ∧ w'.cell? ⟨w.heap.size + 2, 2, none⟩ = some (.slice A4 t.V.length q4)))) (by kernel_rfl) (HSX.out _ hD) (fun hHeld => ?_)
  refine wpAnyH_take (i := 0) (oi := { dst := some 12, op := Go.Op.load 33 (Go.Operand.tmp 3), type := 33, pos := "encode.go:79", after := #[], guard := none }) (v := ?_) rfl (by kernel_rfl) (by kernel_rfl) (by kernel_rfl) (fun _ _ _ h => h) (Or.inl ⟨by rfl, ?_⟩) hHeld ?_
  rotate_left
  · intro w hSw
    (try dsimp only at hSw)
    go_simp
    all_goals with_reducible rfl
  (try simp only [Act.put, List.setIfInBounds_toArray, List.set_cons_zero, List.set_cons_succ])
  refine wpAnyH_take (i := 1) (oi := { dst := some 13, op := Go.Op.fieldAddr 53 (Go.Operand.tmp 4) 5, type := 0, pos := "encode.go:79", after := #[], guard := none }) (v := ?_) rfl (by kernel_rfl) (by kernel_rfl) (by kernel_rfl) (fun _ _ _ h => h) (Or.inl ⟨by rfl, ?_⟩) hHeld ?_
  rotate_left
  · intro w hSw
    (try dsimp only at hSw)
    go_simp
    all_goals with_reducible rfl
  (try simp only [Act.put, List.setIfInBounds_toArray, List.set_cons_zero, List.set_cons_succ])
  refine wpAnyH_take (i := 2) (oi := { dst := some 14, op := Go.Op.load 3 (Go.Operand.tmp 13), type := 3, pos := "encode.go:79", after := #[{ on := 1, ground := Go.Ground.data }], guard := none }) (v := ?_) rfl (by kernel_rfl) (by kernel_rfl) (by kernel_rfl) (fun _ _ _ h => h) (Or.inl ⟨by rfl, ?_⟩) hHeld ?_
  rotate_left
  · intro w hSw
    (try dsimp only at hSw)
    go_simp
    all_goals with_reducible rfl
  (try simp only [Act.put, List.setIfInBounds_toArray, List.set_cons_zero, List.set_cons_succ])
  refine wpAnyH_take (i := 4) (oi := { dst := some 16, op := Go.Op.load 33 (Go.Operand.tmp 3), type := 33, pos := "encode.go:79", after := #[], guard := none }) (v := ?_) rfl (by kernel_rfl) (by kernel_rfl) (by kernel_rfl) (fun _ _ _ h => h) (Or.inl ⟨by rfl, ?_⟩) hHeld ?_
  rotate_left
  · intro w hSw
    (try dsimp only at hSw)
    go_simp
    all_goals with_reducible rfl
  (try simp only [Act.put, List.setIfInBounds_toArray, List.set_cons_zero, List.set_cons_succ])
  refine wpAnyH_take (i := 5) (oi := { dst := some 17, op := Go.Op.fieldAddr 53 (Go.Operand.tmp 4) 2, type := 0, pos := "encode.go:79", after := #[], guard := none }) (v := ?_) rfl (by kernel_rfl) (by kernel_rfl) (by kernel_rfl) (fun _ _ _ h => h) (Or.inl ⟨by rfl, ?_⟩) hHeld ?_
  rotate_left
  · intro w hSw
    (try dsimp only at hSw)
    go_simp
    all_goals with_reducible rfl
  (try simp only [Act.put, List.setIfInBounds_toArray, List.set_cons_zero, List.set_cons_succ])
  refine wpAnyH_take (i := 6) (oi := { dst := some 18, op := Go.Op.load 3 (Go.Operand.tmp 17), type := 3, pos := "encode.go:79", after := #[{ on := 5, ground := Go.Ground.data }], guard := none }) (v := ?_) rfl (by kernel_rfl) (by kernel_rfl) (by kernel_rfl) (fun _ _ _ h => h) (Or.inl ⟨by rfl, ?_⟩) hHeld ?_
  rotate_left
  · intro w hSw
    (try dsimp only at hSw)
    go_simp
    all_goals with_reducible rfl
  (try simp only [Act.put, List.setIfInBounds_toArray, List.set_cons_zero, List.set_cons_succ])
  refine wpAnyH_take (i := 7) (oi := { dst := some 19, op := Go.Op.fieldAddr 53 (Go.Operand.tmp 4) 3, type := 0, pos := "encode.go:79", after := #[], guard := none }) (v := ?_) rfl (by kernel_rfl) (by kernel_rfl) (by kernel_rfl) (fun _ _ _ h => h) (Or.inl ⟨by rfl, ?_⟩) hHeld ?_
  rotate_left
  · intro w hSw
    (try dsimp only at hSw)
    go_simp
    all_goals with_reducible rfl
  (try simp only [Act.put, List.setIfInBounds_toArray, List.set_cons_zero, List.set_cons_succ])
  refine wpAnyH_take (i := 8) (oi := { dst := some 20, op := Go.Op.load 3 (Go.Operand.tmp 19), type := 3, pos := "encode.go:79", after := #[{ on := 7, ground := Go.Ground.data }], guard := none }) (v := ?_) rfl (by kernel_rfl) (by kernel_rfl) (by kernel_rfl) (fun _ _ _ h => h) (Or.inl ⟨by rfl, ?_⟩) hHeld ?_
  rotate_left
  · intro w hSw
    (try dsimp only at hSw)
    go_simp
    all_goals with_reducible rfl
  (try simp only [Act.put, List.setIfInBounds_toArray, List.set_cons_zero, List.set_cons_succ])
  refine wpAnyH_ready (rs := [3]) (by kernel_rfl) (by simp) ?_
  refine AllReadyH.cons (o := { dst := some 15, op := Go.Op.call { callee := Go.Callee.value (Go.Operand.func 33), args := #[Go.Operand.tmp 12, Go.Operand.tmp 14, Go.Operand.const (Go.Value.int Go.IntKind.i64 0), Go.Operand.const (Go.Value.int Go.IntKind.i64 1)], argTypes := #[33, 3, 3, 3] }, type := 79, pos := "encode.go:79", after := #[{ on := 0, ground := Go.Ground.data }, { on := 2, ground := Go.Ground.data }], guard := none }) rfl (fun K hK => ?_) AllReadyH.nil
  go_simp
  (go_at_call 33; refine (HA1.out _ hD).mono ?_; rintro e w4 ⟨ck, rfl, hck, hbw4⟩; have hbw4d := hD.trans (hbw4.mono (hD).size))
  go_wp2_with fail
  refine hK.out _ _ (HSX.out _ hbw4d) (fun hHeld => ?_)
  clear hK K
  (try simp only [Act.put, List.setIfInBounds_toArray, List.set_cons_zero, List.set_cons_succ])
  refine wpAnyH_ready (rs := [9]) (by kernel_rfl) (by simp) ?_
  refine AllReadyH.cons (o := { dst := some 21, op := Go.Op.call { callee := Go.Callee.value (Go.Operand.func 33), args := #[Go.Operand.tmp 16, Go.Operand.tmp 18, Go.Operand.tmp 20, Go.Operand.const (Go.Value.int Go.IntKind.i64 2)], argTypes := #[33, 3, 3, 3] }, type := 79, pos := "encode.go:79", after := #[{ on := 4, ground := Go.Ground.data }, { on := 6, ground := Go.Ground.data }, { on := 8, ground := Go.Ground.data }, { on := 3, ground := Go.Ground.chain }], guard := none }) rfl (fun K hK => ?_) AllReadyH.nil
  go_simp
  (go_at_call 33; refine (HA2.out _ hbw4d).mono ?_; rintro e w5 ⟨cv, rfl, hcv, hbw5⟩; have hbw5d := hbw4d.trans (hbw5.mono (hbw4d).size))
  go_wp2_with fail
  have HCK := Lib.hid (hck.on hbw5)
  have HCV := Lib.hid hcv
  refine hK.out _ _ (HSX.out _ hbw5d) (fun hHeld => ?_)
  clear hK K
  (try simp only [Act.put, List.setIfInBounds_toArray, List.set_cons_zero, List.set_cons_succ])
  refine wpAnyH_take (i := 10) (oi := { dst := some 7, op := Go.Op.assign (Go.Operand.tmp 15), type := 79, pos := "encode.go:79", after := #[{ on := 3, ground := Go.Ground.data }, { on := 9, ground := Go.Ground.chain }, { on := 0, ground := Go.Ground.phase }, { on := 1, ground := Go.Ground.phase }, { on := 2, ground := Go.Ground.phase }, { on := 3, ground := Go.Ground.phase }, { on := 4, ground := Go.Ground.textOnly Go.Departure.lateStores }, { on := 5, ground := Go.Ground.textOnly Go.Departure.lateStores }, { on := 6, ground := Go.Ground.textOnly Go.Departure.lateStores }, { on := 7, ground := Go.Ground.textOnly Go.Departure.lateStores }, { on := 8, ground := Go.Ground.textOnly Go.Departure.lateStores }, { on := 9, ground := Go.Ground.textOnly Go.Departure.lateStoresUnsure }], guard := none }) (v := ?_) rfl (by kernel_rfl) (by kernel_rfl) (by kernel_rfl) (fun _ _ _ h => h) (Or.inl ⟨by rfl, ?_⟩) hHeld ?_
  rotate_left
  · intro w hSw
    (try dsimp only at hSw)
    go_simp
    all_goals with_reducible rfl
  (try simp only [Act.put, List.setIfInBounds_toArray, List.set_cons_zero, List.set_cons_succ])
  refine wpAnyH_take (i := 11) (oi := { dst := some 8, op := Go.Op.assign (Go.Operand.tmp 21), type := 79, pos := "encode.go:79", after := #[{ on := 9, ground := Go.Ground.data }, { on := 10, ground := Go.Ground.chain }, { on := 0, ground := Go.Ground.phase }, { on := 1, ground := Go.Ground.phase }, { on := 2, ground := Go.Ground.phase }, { on := 3, ground := Go.Ground.phase }, { on := 4, ground := Go.Ground.phase }, { on := 5, ground := Go.Ground.phase }, { on := 6, ground := Go.Ground.phase }, { on := 7, ground := Go.Ground.phase }, { on := 8, ground := Go.Ground.phase }, { on := 9, ground := Go.Ground.phase }, { on := 10, ground := Go.Ground.phase }], guard := none }) (v := ?_) rfl (by kernel_rfl) (by kernel_rfl) (by kernel_rfl) (fun _ _ _ h => h) (Or.inl ⟨by rfl, ?_⟩) hHeld ?_
  rotate_left
  · intro w hSw
    (try dsimp only at hSw)
    go_simp
    all_goals with_reducible rfl
  (try simp only [Act.put, List.setIfInBounds_toArray, List.set_cons_zero, List.set_cons_succ])
  refine wpAnyH_done (by kernel_rfl) ?_ _
  go_wp2
  go_loopw [9, 25] (fun v i wr => ∃ (k : Nat) (zs : List Value), i = .int .i64 k ∧ k ≤ t.K.length ∧ PB w5.heap.size wr v (((t.K.zip t.V).take k).map (entL (encB s d) f)) zs ∧ Below w5.heap.size w5 wr) (fun _ i _ => t.K.length - (intOf i).toNat)
  case atStart => exact ⟨0, [], rfl, by omega, PB.nil _ _, Below.refl _ _⟩
  case round =>
    obtain ⟨k, zs, rfl, hk, hpb, hbw5r⟩ := hrel
    have hbw := below_then hbw5d hbw5r
    have hwW := hbw.size
    by_cases hlt : k < t.K.length
    · have hlt2 : k < t.V.length := by rw [← HLEN.out]; exact hlt
      obtain ⟨a, ha⟩ : ∃ a, t.K[k]? = some a := ⟨_, List.getElem?_eq_getElem hlt⟩
      obtain ⟨b, hb⟩ : ∃ b, t.V[k]? = some b := ⟨_, List.getElem?_eq_getElem hlt2⟩
      have hab : (t.K.zip t.V)[k]? = some (a, b) := by rw [List.getElem?_zip_eq_some]; exact ⟨ha, hb⟩
      have hLB := below_new wr (.cells #[.int .i64 a.n] 3)
      obtain ⟨A3', c3', xs3, e3, hs3, hb3, hr3, hn3⟩ := (HKK.out wr hbw).open_
      injection e3 with e31 e32 e33
      subst e31 e33
      obtain ⟨ad3, x, y, z, rfl, hg3, hca, c0, c1, c2⟩ := row3 vAt.len hs3 hr3 ha
      obtain ⟨AM, cM, rfl, rfl, rfl⟩ := val_shape hca
      have N1 := below_new wr (.cells #[.int .i64 a.n, .string (tx a.s), .slice AM a.M.length cM] 51)
      have X1 := heap_alloc_new wr (.cells #[.int .i64 a.n, .string (tx a.s), .slice AM a.M.length cM] 51)
      have hbwN := below_then hbw N1
      obtain ⟨A4', c4', xs4, e4, hs4, hb4', hr4, hn4⟩ := (HVV.out _ hbwN).open_
      injection e4 with e41 e42 e43
      subst e41 e43
      obtain ⟨ad4, x', y', z', rfl, hg4, hcb, d0, d1, d2⟩ := row3 vAt.len hs4 hr4 hb
      obtain ⟨BM, dM, rfl, rfl, rfl⟩ := val_shape hcb
      obtain ⟨W1, hW1⟩ : ∃ W, W = wr.alloc (.cells #[.int .i64 a.n, .string (tx a.s), .slice AM a.M.length cM] 51) := ⟨_, rfl⟩
      rw [← hW1] at N1 X1 hbwN hcb d0 d1 d2 hs4 hr4
      have HADB : Hid (ad4.block < B) := Lib.hid (hb4' ad4 rfl (by omega))
      have HW1S : Hid (W1.heap.size = wr.heap.size + 1) := Lib.hid (by rw [hW1]; simp)
      have hBr : B ≤ wr.heap.size := Nat.le_trans hBW hbw.size
      have hD6 : Below W1.heap.size W1 W1.drew := (Below.refl _ _).drew
      have HS6 : Hid (∀ wx, Below W1.heap.size W1 wx → wx.cell? ⟨w.heap.size + 1, 0, none⟩ = some (.int .i64 f.no) ∧ wx.cell? ⟨w.heap.size + 2, 2, none⟩ = some (.slice (some ad4) t.V.length q4) ∧ (wx.cell? ⟨wr.heap.size, 0, none⟩ = some (.int .i64 a.n) ∧ wx.cell? ⟨wr.heap.size, 1, none⟩ = some (.string (tx a.s)) ∧ wx.cell? ⟨wr.heap.size, 2, none⟩ = some (.slice AM a.M.length cM)) ∧ (wx.cell? (ad4.add (k * 3)) = some (.int .i64 b.n) ∧ wx.cell? ⟨(ad4.add (k * 3)).block, (ad4.add (k * 3)).off + 1, none⟩ = some (.string (tx b.s)) ∧ wx.cell? ⟨(ad4.add (k * 3)).block, (ad4.add (k * 3)).off + 2, none⟩ = some (.slice BM b.M.length dM))) := Lib.hid fun wx h => ⟨(HSX.out wx (below_then hbwN h)).2.1.1, (HSX.out wx (below_then hbwN h)).2.2.2.2, bx3 (box_on X1 h), cell_on h d0, cell_on h d1, cell_on h d2⟩
      obtain ⟨KB, hKB⟩ : ∃ KB, KB = valL (encB s d) f.key 0 1 := ⟨_, rfl⟩
      obtain ⟨VB, hVB⟩ : ∃ VB, VB = valL (encB s d) f.kind f.ref 2 := ⟨_, rfl⟩
      have hma := List.mem_of_getElem? ha
      have hmb := List.mem_of_getElem? hb
      have hokk := HOK.out a hma
      have hokv := HOV.out b hmb
      have hl1 := val_len (enc_len s d) f.key 0 1 a hokk.1 (Nat.le_trans hokk.2.2.2 (by decide))
      have hl2 := val_len (enc_len s d) f.kind f.ref 2 b hokv.1 (Nat.le_trans hokv.2.2.2 (by decide))
      have hw1 := hokk.2.2.2
      have hw2 := hokv.2.2.2
      rw [← hKB] at hl1
      rw [← hVB] at hl2
      have HLN : Hid ((KB a ++ VB b).length ≤ 140737488351232) := Lib.hid (by rw [List.length_append]; omega)
      have HRN := Lib.hid (fun vk vv b1 b2 wx (h : Below W1.heap.size W1 wx) (hk : By b1 wx (KB a) vk) (hv : By b2 wx (VB b) vv) => run2_any f.no (KB a) (VB b) vk vv _ _ wx hfn hk hv HLN.out (HT.out _ (below_then hbwN h)))
      obtain ⟨fnk, capk, rfl, hentk, hclk⟩ := HCK.out
      obtain ⟨fnv, capv, rfl, hentv, hclv⟩ := HCV.out
      have hw5N : Below w5.heap.size w5 W1 := below_then hbw5r N1
      rw [← hKB] at hclk
      rw [← hVB] at hclv
      have HDK := Lib.hid (fun wx (h : Below W1.heap.size W1 wx) => hclk a _ wx (below_then hw5N h) (VRd.low (Lo.below (below_then N1 h) hBr) hca) hokk)
      have HDV := Lib.hid (fun wx (h : Below W1.heap.size W1 wx) => hclv b _ wx (below_then hw5N h) (VRd.low (Lo.below h (Nat.le_trans hBr N1.size)) hcb) hokv)
      obtain ⟨L, hL⟩ : ∃ L, ((t.K.zip t.V).take k).map (entL (encB s d) f) = L := ⟨_, rfl⟩
      have hzl : (t.K.zip t.V).length = t.K.length := by rw [List.length_zip, ← HLEN.out, Nat.min_self]
      have hLk : L.length = k := by rw [← hL, List.length_map, List.length_take, hzl]; omega
      rw [hL] at hpb
      have HLL : Hid (L ++ [runL f.no (KB a ++ VB b)] = ((t.K.zip t.V).take (k + 1)).map (entL (encB s d) f)) := Lib.hid (by
        have h := map_snoc (entL (encB s d) f) hab
        rw [hL] at h
        rw [← h, hKB, hVB]; rfl)
      have HPB := Lib.hid hpb
      have HN1 := Lib.hid N1
      have hv1 := hpb.lt
      have HW3S : Hid (w.heap.size + 3 = W3.heap.size) := HW3Z
      have i1 : (0 : Int) ≤ (k : Int) := by omega
      have i2 : (k : Int) < (t.V.length : Int) := by omega
      clear hL hpb hab ha hb hma hmb hokk hokv hl1 hl2 hw1 hw2 hclk hclv hcb hca hs3 hr3 hb3 hs4 hr4 hb4' hKB hVB d0 d1 d2 hzl hLB N1 X1 hg3 hg4 HCK HCV
      go_wp2_with fail
      rw [← hW1]
      clear hW1 c0 c1 c2
      refine wp_region_held_drew (S := (fun w' => w'.cell? ⟨w.heap.size + 1, 0, none⟩ = some (.int .i64 f.no) ∧ w'.cell? ⟨w.heap.size + 2, 2, none⟩ = some (.slice (some ad4) t.V.length q4) ∧ (w'.cell? ⟨wr.heap.size, 0, none⟩ = some (.int .i64 a.n) ∧ w'.cell? ⟨wr.heap.size, 1, none⟩ = some (.string (tx a.s)) ∧ w'.cell? ⟨wr.heap.size, 2, none⟩ = some (.slice AM a.M.length cM)) ∧ (w'.cell? (ad4.add (k * 3)) = some (.int .i64 b.n) ∧ w'.cell? ⟨(ad4.add (k * 3)).block, (ad4.add (k * 3)).off + 1, none⟩ = some (.string (tx b.s)) ∧ w'.cell? ⟨(ad4.add (k * 3)).block, (ad4.add (k * 3)).off + 2, none⟩ = some (.slice BM b.M.length dM)))) (by kernel_rfl) (HS6.out _ hD6) (fun hHeld => ?_)
      refine wpAnyH_take (i := 0) (oi := { dst := some 30, op := Go.Op.move (Go.Operand.tmp 9), type := 100, pos := "encode.go:82", after := #[], guard := none }) (v := ?_) rfl (by kernel_rfl) (by kernel_rfl) (by kernel_rfl) (fun _ _ _ h => h) (Or.inl ⟨by rfl, ?_⟩) hHeld ?_
      rotate_left
      · intro w hSw
        (try dsimp only at hSw)
        go_simp
        all_goals with_reducible rfl
      (try simp only [Act.put, List.setIfInBounds_toArray, List.set_cons_zero, List.set_cons_succ])
      refine wpAnyH_take (i := 1) (oi := { dst := some 31, op := Go.Op.fieldAddr 53 (Go.Operand.tmp 4) 0, type := 0, pos := "encode.go:82", after := #[], guard := none }) (v := ?_) rfl (by kernel_rfl) (by kernel_rfl) (by kernel_rfl) (fun _ _ _ h => h) (Or.inl ⟨by rfl, ?_⟩) hHeld ?_
      rotate_left
      · intro w hSw
        (try dsimp only at hSw)
        go_simp
        all_goals with_reducible rfl
      (try simp only [Act.put, List.setIfInBounds_toArray, List.set_cons_zero, List.set_cons_succ])
      refine wpAnyH_take (i := 2) (oi := { dst := some 32, op := Go.Op.load 3 (Go.Operand.tmp 31), type := 3, pos := "encode.go:82", after := #[{ on := 1, ground := Go.Ground.data }], guard := none }) (v := ?_) rfl (by kernel_rfl) (by kernel_rfl) (by kernel_rfl) (fun _ _ _ h => h) (Or.inl ⟨by rfl, ?_⟩) hHeld ?_
      rotate_left
      · intro w hSw
        (try dsimp only at hSw)
        go_simp
        all_goals with_reducible rfl
      (try simp only [Act.put, List.setIfInBounds_toArray, List.set_cons_zero, List.set_cons_succ])
      refine wpAnyH_take (i := 3) (oi := { dst := some 33, op := Go.Op.move (Go.Operand.tmp 7), type := 79, pos := "encode.go:82", after := #[], guard := none }) (v := ?_) rfl (by kernel_rfl) (by kernel_rfl) (by kernel_rfl) (fun _ _ _ h => h) (Or.inl ⟨by rfl, ?_⟩) hHeld ?_
      rotate_left
      · intro w hSw
        (try dsimp only at hSw)
        go_simp
        all_goals with_reducible rfl
      (try simp only [Act.put, List.setIfInBounds_toArray, List.set_cons_zero, List.set_cons_succ])
      refine wpAnyH_take (i := 4) (oi := { dst := some 34, op := Go.Op.load 51 (Go.Operand.tmp 11), type := 51, pos := "encode.go:82", after := #[], guard := none }) (v := ?_) rfl (by kernel_rfl) (by kernel_rfl) (by kernel_rfl) (fun _ _ _ h => h) (Or.inl ⟨by rfl, ?_⟩) hHeld ?_
      rotate_left
      · intro w hSw
        (try dsimp only at hSw)
        go_simp
        all_goals with_reducible rfl
      (try simp only [Act.put, List.setIfInBounds_toArray, List.set_cons_zero, List.set_cons_succ])
      refine wpAnyH_take (i := 6) (oi := { dst := some 36, op := Go.Op.move (Go.Operand.tmp 8), type := 79, pos := "encode.go:82", after := #[], guard := none }) (v := ?_) rfl (by kernel_rfl) (by kernel_rfl) (by kernel_rfl) (fun _ _ _ h => h) (Or.inl ⟨by rfl, ?_⟩) hHeld ?_
      rotate_left
      · intro w hSw
        (try dsimp only at hSw)
        go_simp
        all_goals with_reducible rfl
      (try simp only [Act.put, List.setIfInBounds_toArray, List.set_cons_zero, List.set_cons_succ])
      refine wpAnyH_take (i := 7) (oi := { dst := some 37, op := Go.Op.fieldAddr 48 (Go.Operand.tmp 5) 2, type := 0, pos := "encode.go:82", after := #[], guard := none }) (v := ?_) rfl (by kernel_rfl) (by kernel_rfl) (by kernel_rfl) (fun _ _ _ h => h) (Or.inl ⟨by rfl, ?_⟩) hHeld ?_
      rotate_left
      · intro w hSw
        (try dsimp only at hSw)
        go_simp
        all_goals with_reducible rfl
      (try simp only [Act.put, List.setIfInBounds_toArray, List.set_cons_zero, List.set_cons_succ])
      refine wpAnyH_take (i := 8) (oi := { dst := some 38, op := Go.Op.load 46 (Go.Operand.tmp 37), type := 46, pos := "encode.go:82", after := #[{ on := 7, ground := Go.Ground.data }], guard := none }) (v := ?_) rfl (by kernel_rfl) (by kernel_rfl) (by kernel_rfl) (fun _ _ _ h => h) (Or.inl ⟨by rfl, ?_⟩) hHeld ?_
      rotate_left
      · intro w hSw
        (try dsimp only at hSw)
        go_simp
        all_goals with_reducible rfl
      (try simp only [Act.put, List.setIfInBounds_toArray, List.set_cons_zero, List.set_cons_succ])
      refine wpAnyH_take (i := 9) (oi := { dst := some 39, op := Go.Op.move (Go.Operand.tmp 10), type := 3, pos := "encode.go:82", after := #[], guard := none }) (v := ?_) rfl (by kernel_rfl) (by kernel_rfl) (by kernel_rfl) (fun _ _ _ h => h) (Or.inl ⟨by rfl, ?_⟩) hHeld ?_
      rotate_left
      · intro w hSw
        (try dsimp only at hSw)
        go_simp
        all_goals with_reducible rfl
      (try simp only [Act.put, List.setIfInBounds_toArray, List.set_cons_zero, List.set_cons_succ])
      refine wpAnyH_take (i := 10) (oi := { dst := some 40, op := Go.Op.indexAddr 46 (Go.Operand.tmp 38) (Go.Operand.tmp 39), type := 0, pos := "encode.go:82", after := #[{ on := 8, ground := Go.Ground.data }, { on := 9, ground := Go.Ground.data }], guard := none }) (v := ?_) rfl (by kernel_rfl) (by kernel_rfl) (by kernel_rfl) (fun _ _ _ h => h) (Or.inl ⟨by rfl, ?_⟩) hHeld ?_
      rotate_left
      · intro w hSw
        (try dsimp only at hSw)
        go_simp
        all_goals with_reducible rfl
      (try simp only [Act.put, List.setIfInBounds_toArray, List.set_cons_zero, List.set_cons_succ])
      refine wpAnyH_take (i := 11) (oi := { dst := some 41, op := Go.Op.load 51 (Go.Operand.tmp 40), type := 51, pos := "encode.go:82", after := #[{ on := 10, ground := Go.Ground.data }], guard := none }) (v := ?_) rfl (by kernel_rfl) (by kernel_rfl) (by kernel_rfl) (fun _ _ _ h => h) (Or.inl ⟨by rfl, ?_⟩) hHeld ?_
      rotate_left
      · intro w hSw
        (try dsimp only at hSw)
        go_simp
        all_goals with_reducible rfl
      (try simp only [Act.put, List.setIfInBounds_toArray, List.set_cons_zero, List.set_cons_succ])
      refine wpAnyH_ready (rs := [5]) (by kernel_rfl) (by simp) ?_
      refine AllReadyH.cons (o := { dst := some 35, op := Go.Op.call { callee := Go.Callee.value (Go.Operand.tmp 33), args := #[Go.Operand.tmp 34], argTypes := #[51] }, type := 22, pos := "encode.go:82", after := #[{ on := 3, ground := Go.Ground.data }, { on := 4, ground := Go.Ground.data }], guard := none }) rfl (fun K hK => ?_) AllReadyH.nil
      go_simp
      refine (HDK.out _ hD6).mono ?_
      rintro e w7 ⟨vk, rfl, hyk, hbw7⟩
      have hbw7d := below_then hD6 hbw7
      go_wp2_with fail
      refine hK.out _ _ (HS6.out _ hbw7d) (fun hHeld => ?_)
      clear hK K
      (try simp only [Act.put, List.setIfInBounds_toArray, List.set_cons_zero, List.set_cons_succ])
      refine wpAnyH_ready (rs := [12]) (by kernel_rfl) (by simp) ?_
      refine AllReadyH.cons (o := { dst := some 42, op := Go.Op.call { callee := Go.Callee.value (Go.Operand.tmp 36), args := #[Go.Operand.tmp 41], argTypes := #[51] }, type := 22, pos := "encode.go:82", after := #[{ on := 6, ground := Go.Ground.data }, { on := 11, ground := Go.Ground.data }, { on := 5, ground := Go.Ground.chain }], guard := none }) rfl (fun K hK => ?_) AllReadyH.nil
      go_simp
      refine (HDV.out _ hbw7d).mono ?_
      rintro e w8 ⟨vv, rfl, hyv, hbw8⟩
      have hbw8d := below_then hbw7d hbw8
      go_wp2_with fail
      have hYK := hyk.on hbw8
      have hYV := hyv
      obtain ⟨AK8, cK8, rfl, -⟩ := hyk
      obtain ⟨AV8, cV8, rfl, -⟩ := hyv
      refine hK.out _ _ (HS6.out _ hbw8d) (fun hHeld => ?_)
      clear hK K
      (try simp only [Act.put, List.setIfInBounds_toArray, List.set_cons_zero, List.set_cons_succ])
      refine wpAnyH_ready (rs := [13]) (by kernel_rfl) (by simp) ?_
      refine AllReadyH.cons (o := { dst := some 43, op := Go.Op.buildSlice 100 2 #[(0, Go.Operand.tmp 35), (1, Go.Operand.tmp 42)], type := 100, pos := "encode.go:82", after := #[{ on := 5, ground := Go.Ground.data }, { on := 12, ground := Go.Ground.data }], guard := none }) rfl (fun K hK => ?_) AllReadyH.nil
      go_simp
      refine hK.out _ _ (HS6.out _ (below_then hbw8d (below_new w8 (.cells #[.slice AK8 (KB a).length cK8, .slice AV8 (VB b).length cV8] 22)))) (fun hHeld => ?_)
      clear hK K
      (try simp only [Act.put, List.setIfInBounds_toArray, List.set_cons_zero, List.set_cons_succ])
      refine wpAnyH_ready (rs := [14]) (by kernel_rfl) (by simp) ?_
      refine AllReadyH.cons (o := { dst := some 44, op := Go.Op.call { callee := Go.Callee.value (Go.Operand.func 61), args := #[Go.Operand.tmp 32, Go.Operand.tmp 43], argTypes := #[3, 100] }, type := 22, pos := "encode.go:82", after := #[{ on := 2, ground := Go.Ground.data }, { on := 13, ground := Go.Ground.data }, { on := 12, ground := Go.Ground.chain }], guard := none }) rfl (fun K hK => ?_) AllReadyH.nil
      go_simp
      (go_at_call 61; refine (HRN.out _ _ _ _ w8 hbw8d hYK hYV).mono ?_; rintro e w9 ⟨v9, rfl, hy9, hb9⟩)
      have hb9d := below_then (below_then hbw8d (below_new w8 (.cells #[.slice AK8 (KB a).length cK8, .slice AV8 (VB b).length cV8] 22))) hb9
      have hY9 := hy9.on (below_new w9 (.cells #[v9] 22))
      obtain ⟨A9, c9, rfl, -⟩ := hy9
      go_wp2_with fail
      refine hK.out _ _ (HS6.out _ hb9d) (fun hHeld => ?_)
      clear hK K
      (try simp only [Act.put, List.setIfInBounds_toArray, List.set_cons_zero, List.set_cons_succ])
      refine wpAnyH_ready (rs := [15]) (by kernel_rfl) (by simp) ?_
      refine AllReadyH.cons (o := { dst := some 45, op := Go.Op.buildSlice 100 1 #[(0, Go.Operand.tmp 44)], type := 100, pos := "encode.go:82", after := #[{ on := 14, ground := Go.Ground.data }], guard := none }) rfl (fun K hK => ?_) AllReadyH.nil
      go_simp
      have hb10 := below_then hb9d (below_new w9 (.cells #[.slice A9 (runL f.no (KB a ++ VB b)).length c9] 22))
      refine hK.out _ _ (HS6.out _ hb10) (fun hHeld => ?_)
      clear hK K
      (try simp only [Act.put, List.setIfInBounds_toArray, List.set_cons_zero, List.set_cons_succ])
      refine wpAnyH_ready (rs := [16]) (by kernel_rfl) (by simp) ?_
      refine AllReadyH.cons (o := { dst := some 46, op := Go.Op.call { callee := Go.Callee.builtin Go.Builtin.append, args := #[Go.Operand.tmp 30, Go.Operand.tmp 45], argTypes := #[100, 100] }, type := 100, pos := "encode.go:82", after := #[{ on := 0, ground := Go.Ground.data }, { on := 15, ground := Go.Ground.data }, { on := 14, ground := Go.Ground.chain }], guard := none }) rfl (fun K hK => ?_) AllReadyH.nil
      have HQ := Lib.hid (HPB.out.on (below_then HN1.out hb10))
      have hs9 : w5.heap.size ≤ w9.heap.size := Nat.le_trans hbw5r.size (Nat.le_trans HN1.out.size hb9d.size)
      have hs35 := hbw5d.size
      refine step_append_lies _ rfl _ _ 100 rfl w5.heap.size 22 i0 _ 1 24 Tryz.underlying100 hi0 hz0 hz1 hz2 rfl (by decide) _ L.length zs (by simp [Act.eval, Act.put]) HQ.out.own ⟨w9.heap.size, 0, none⟩ 1 1 [.slice A9 (runL f.no (KB a ++ VB b)).length c9] (by simp [Act.eval, Act.put]) rfl (World.news_of_block (heap_alloc_new _ _)) (by simp [Value.oneCell']) (by decide) (by unfold maxLen; omega) (by omega) (by simp; omega) w9.heap.size.succ (by simp) ?_
      intro g8 cap8 w10 hown8 hg8 hat8 hlt8
      have hb11 : Below wr.heap.size wr (w9.alloc _) := below_then HN1.out hb10
      have hq := HQ.out.app (b' := W1.heap.size) (fun q hq => Nat.lt_of_lt_of_le (hv1 q hq) HN1.out.size) (hY9.less (Nat.le_trans hbw8d.size (Nat.le_succ _))) hown8 hg8 (hat8.imp id fun h => by rw [h]; simp)
      have hb12 : Below w5.heap.size w5 w10 := (hbw5r.trans (hb11.mono hbw5r.size)).trans (below_row hg8 HQ.out.own (Nat.le_refl _) (by simp; omega))
      obtain ⟨s1, s2, ⟨s3, s4, s5⟩, s6, s7, s8⟩ := HS6.out _ hb10
      have z1 := HW3S.out; have z2 := HW1S.out; have z3 := hb9d.size; have z4 := HADB.out; have zk : (ad4.add (k * 3)).block = ad4.block := add_same_block _ _
      refine hK.out _ _ (⟨far_cell hg8 HQ.out.own hv1 s1 (by simp; omega) (.inl (by dsimp only; omega)), far_cell hg8 HQ.out.own hv1 s2 (by simp; omega) (.inl (by dsimp only; omega)), ⟨far_cell hg8 HQ.out.own hv1 s3 (by simp; omega) (.inr (Nat.le_refl _)), far_cell hg8 HQ.out.own hv1 s4 (by simp; omega) (.inr (Nat.le_refl _)), far_cell hg8 HQ.out.own hv1 s5 (by simp; omega) (.inr (Nat.le_refl _))⟩, far_cell hg8 HQ.out.own hv1 s6 (by rw [zk]; simp; omega) (.inl (by rw [zk]; omega)), far_cell hg8 HQ.out.own hv1 s7 (by dsimp only; rw [zk]; simp; omega) (.inl (by dsimp only; rw [zk]; omega)), far_cell hg8 HQ.out.own hv1 s8 (by dsimp only; rw [zk]; simp; omega) (.inl (by dsimp only; rw [zk]; omega))⟩) (fun hHeld => ?_)
      clear hK K
      (try simp only [Act.put, List.setIfInBounds_toArray, List.set_cons_zero, List.set_cons_succ])
      refine wpAnyH_take (i := 17) (oi := { dst := some 9, op := Go.Op.assign (Go.Operand.tmp 46), type := 100, pos := "encode.go:82", after := #[{ on := 16, ground := Go.Ground.data }, { on := 16, ground := Go.Ground.chain }, { on := 0, ground := Go.Ground.phase }, { on := 1, ground := Go.Ground.phase }, { on := 2, ground := Go.Ground.phase }, { on := 3, ground := Go.Ground.phase }, { on := 4, ground := Go.Ground.phase }, { on := 5, ground := Go.Ground.phase }, { on := 6, ground := Go.Ground.phase }, { on := 7, ground := Go.Ground.phase }, { on := 8, ground := Go.Ground.phase }, { on := 9, ground := Go.Ground.phase }, { on := 10, ground := Go.Ground.phase }, { on := 11, ground := Go.Ground.phase }, { on := 12, ground := Go.Ground.phase }, { on := 13, ground := Go.Ground.phase }, { on := 14, ground := Go.Ground.phase }, { on := 15, ground := Go.Ground.phase }, { on := 16, ground := Go.Ground.phase }], guard := none }) (v := ?_) rfl (by kernel_rfl) (by kernel_rfl) (by kernel_rfl) (fun _ _ _ h => h) (Or.inl ⟨by rfl, ?_⟩) hHeld ?_
      rotate_left
      · intro w hSw
        (try dsimp only at hSw)
        go_simp
        all_goals with_reducible rfl
      (try simp only [Act.put, List.setIfInBounds_toArray, List.set_cons_zero, List.set_cons_succ])
      refine wpAnyH_done (by kernel_rfl) ?_ _
      go_wp2
      rw [HLL.out, hLk] at hq
      refine ⟨⟨k + 1, _, by go_num, by omega, hq, hb12⟩, by simp [intOf]; omega⟩
    · obtain rfl : k = t.K.length := by omega
      have hzl : (t.K.zip t.V).length = t.K.length := by rw [List.length_zip, ← HLEN.out, Nat.min_self]
      rw [← hzl, List.take_length] at hpb
      obtain ⟨ls, hls⟩ : ∃ ls, (t.K.zip t.V).map (entL (encB s d) f) = ls := ⟨_, rfl⟩
      rw [hls] at hpb
      obtain ⟨F, hF⟩ : ∃ F, ls.flatten = F := ⟨_, rfl⟩
      have HFE : Hid (fieldL (encB s d) f t = F) := Lib.hid (by rw [HFL.out, hls, hF])
      have hFn : F.length ≤ 140737488351232 := by rw [← HFE.out]; have := HFN.out; have := HWT.out; omega
      obtain ⟨A9, c9, rfl, hs9⟩ := Sl.of_own hpb.own
      have HTG := Lib.hid (together_any A9 c9 ls zs F hF wr hs9 (hpb.rows.imp BL.any) hFn)
      clear hpb hs9 hF hls hzl
      go_wp2_with fail
      refine HTG.out.mono ?_
      rintro e w9 ⟨v9, rfl, hy9, hb9⟩
      have hbz := below_then (below_then HL3.out hbw) hb9
      have HY9 : Hid (By w.heap.size w9 (fieldL (encB s d) f t) v9) := Lib.hid (by rw [HFE.out]; exact hy9.less (Nat.le_trans HL3.out.size hbw.size))
      clear hy9
      go_wp2
      go_ret
      exact ⟨v9, rfl, HY9.out, hbz⟩
end Go.Proofs.YtipaangiehdgkaaGreatDoor.T12
/-
  A field, as bytes: the contract of field.
-/
namespace Go.Proofs.YtipaangiehdgkaaGreatDoor.T12
set_option maxRecDepth 100000

open Go.RowKit

open Go.Proofs.YtipaangiehdgkaaGreatDoor.T9 Go.Proofs.YtipaangiehdgkaaGreatDoor.T4

theorem bare_len {kind : Int} {l : List Vl'} (h : ∀ v ∈ l, VIn v) : (l.map fun v => bareN kind v.n).flatten.length ≤ 15 * l.length := by
  induction l with
  | nil => simp
  | cons x l ih =>
    have h1 := ih fun v hv => h v (by simp [hv])
    have h2 := encN_len kind 1 x.n (h x (by simp)).1.1
    simp only [List.map_cons, List.flatten_cons, List.length_append, List.length_cons]
    have h3 : (bareN kind x.n).length ≤ 15 := by unfold bareN; rw [List.length_drop]; omega
    omega
set_option maxRecDepth 1000000 in
set_option maxHeartbeats 8000000 in
theorem encField_any {s : Sc} {B D d : Nat} (H : EncH s B D d) (A1 A2 : Option Addr) (q1 q2 : Nat) (f : Df) (t : So) (A3 A4 : Option Addr) (q3 q4 : Nat) (w : World) (hB : B ≤ w.heap.size) (hs : SAt B w s (.slice A1 s.M.length q1) (.slice A2 s.E.length q2)) (ht : SAt' (Rd B w) D t [.int .i64 t.no, .slice A3 t.K.length q3, .slice A4 t.V.length q4]) (hi : SIn t) (hfill : fillG (isB s d) f t = true) (hc : cS t ≤ 100000) (hwt : 40 * cS t + tS t ≤ 35184372088832) (hfn : inI f.no) (T : Wires w) :
    Calls Tryz.prog 48 #[.agg #[.slice A1 s.M.length q1, .slice A2 s.E.length q2], .agg #[.int .i64 f.no, .string (txt f.name), .int .i64 f.kind, .int .i64 f.ref, .bool f.rep, .int .i64 f.key, .int .i64 f.one], .agg #[.int .i64 t.no, .slice A3 t.K.length q3, .slice A4 t.V.length q4]] w fun e w' => ∃ v, e = .returned v ∧ By w.heap.size w' (fieldL (encB s d) f t) v ∧ Below w.heap.size w w' := by
  have HEN := Lib.hid (fun wx (h : Below w.heap.size w wx) (hk : f.key ≠ -1) => entries_any H A1 A2 q1 q2 f t A3 A4 q3 q4 wx (Nat.le_trans hB h.size) (SAt.lo hs h hB) (SRd.low (Lo.below h hB) ht) hi hfill hc hwt hfn (T.on h) hk)
  obtain ⟨T1, T2, T3, L3⟩ := three_boxes w (.cells #[.slice A1 s.M.length q1, .slice A2 s.E.length q2] 33) (dC f) (.cells #[.int .i64 t.no, .slice A3 t.K.length q3, .slice A4 t.V.length q4] 48)
  obtain ⟨g0, g1, g2, g3, g4, g5, g6⟩ := dc_cells T2
  obtain ⟨p0, p1, p2⟩ := bx3 T3
  obtain ⟨s0, s1⟩ := box2' T1
  obtain ⟨W3, hW3⟩ : ∃ W, W = (((w.alloc (.cells #[.slice A1 s.M.length q1, .slice A2 s.E.length q2] 33)).alloc (dC f)).alloc (.cells #[.int .i64 t.no, .slice A3 t.K.length q3, .slice A4 t.V.length q4] 48)) := ⟨_, rfl⟩
  obtain ⟨u3, u4, hu, hK, hV⟩ := ht
  simp only [List.cons.injEq, and_true, true_and] at hu
  obtain ⟨rfl, rfl⟩ := hu
  rw [← hW3] at T1 T2 T3 L3
  have hBW := Nat.le_trans hB L3.size
  have HS := Lib.hid (fun wx (h : Below W3.heap.size W3 wx) => SAt.lo (SAt.lo hs L3 hB) h hBW)
  have HKK := Lib.hid (fun wx (h : Below W3.heap.size W3 wx) => (hK.low (Lo.below L3 hB) fun a cs h => VRd.low (Lo.below L3 hB) h).low (Lo.below h hBW) fun a cs hh => VRd.low (Lo.below h hBW) hh)
  have HVV := Lib.hid (fun wx (h : Below W3.heap.size W3 wx) => (hV.low (Lo.below L3 hB) fun a cs h => VRd.low (Lo.below L3 hB) h).low (Lo.below h hBW) fun a cs hh => VRd.low (Lo.below h hBW) hh)
  have HSX : Hid (∀ wx, Below W3.heap.size W3 wx → (wx.cell? ⟨w.heap.size, 0, none⟩ = some (.slice A1 s.M.length q1) ∧ wx.cell? ⟨w.heap.size, 1, none⟩ = some (.slice A2 s.E.length q2)) ∧ (wx.cell? ⟨w.heap.size + 1, 0, none⟩ = some (.int .i64 f.no) ∧ wx.cell? ⟨w.heap.size + 1, 1, none⟩ = some (.string (txt f.name)) ∧ wx.cell? ⟨w.heap.size + 1, 2, none⟩ = some (.int .i64 f.kind) ∧ wx.cell? ⟨w.heap.size + 1, 3, none⟩ = some (.int .i64 f.ref) ∧ wx.cell? ⟨w.heap.size + 1, 4, none⟩ = some (.bool f.rep) ∧ wx.cell? ⟨w.heap.size + 1, 5, none⟩ = some (.int .i64 f.key) ∧ wx.cell? ⟨w.heap.size + 1, 6, none⟩ = some (.int .i64 f.one)) ∧ (wx.cell? ⟨w.heap.size + 2, 0, none⟩ = some (.int .i64 t.no) ∧ wx.cell? ⟨w.heap.size + 2, 1, none⟩ = some (.slice A3 t.K.length q3) ∧ wx.cell? ⟨w.heap.size + 2, 2, none⟩ = some (.slice A4 t.V.length q4))) := Lib.hid fun wx h => ⟨box2' (box_on T1 h), dc_cells (box_on T2 h), bx3 (box_on T3 h)⟩
  have hD : Below W3.heap.size W3 W3.drew := (Below.refl _ _).drew
  have HT := Lib.hid (fun wx (h : Below W3.heap.size W3 wx) => T.on (below_then L3 h))
  have HOV := Lib.hid (okV_of hi hfill hc hwt)
  have HOK := Lib.hid (okK_of hi hfill hc hwt)
  have HL3 := Lib.hid L3
  have hcl := cS_len (s := t)
  have hflen := field_len (enc_len s d) f t hi (Nat.le_trans hwt (by decide))
  have HFN : Hid ((fieldL (encB s d) f t).length ≤ 140737488351232) := Lib.hid (by omega)
  have HBW := Lib.hid (fun (hk : cnt f.kind = true) wx (h : Below W3.heap.size W3 wx) => bareWriter_any B D f.kind hk wx (Nat.le_trans hBW h.size) (HT.out wx h))
  have HVW := Lib.hid (fun wx (h : Below W3.heap.size W3 wx) => valueWriter_any H (.slice A1 s.M.length q1) (.slice A2 s.E.length q2) f.kind f.ref f.no wx (Nat.le_trans hBW h.size) (HS.out wx h) hfn (HT.out wx h))
  have HWA := Lib.hid (fun (g : Vl' → List UInt8) (P : Vl' → Prop) (F : List UInt8) (hF : (t.V.map g).flatten = F) (hP : ∀ v ∈ t.V, P v) (hn : F.length ≤ 140737488351232) c wx (h : Below W3.heap.size W3 wx) (hcl : ClosW B D wx c g P) => written_any B D g P t.V (.slice A4 t.V.length q4) c F hF wx (Nat.le_trans hBW h.size) (HVV.out wx h) hcl hP (by omega) hn)
  have HKI := Lib.hid (fun wx => isCounting_any f.kind wx)
  have HI := Lib.hid hi
  clear hs hi hfill hK hV T1 T2 T3 L3 H hflen T hwt
  by_cases hkey : f.key = -1
  · have b1 : (f.key != -1) = false := by rw [hkey]; rfl
    have b2 : (f.key == -1) = true := by rw [hkey]; rfl
    obtain ⟨br, hbr⟩ : ∃ b, f.rep = b := ⟨_, rfl⟩
    obtain ⟨bk, hbk⟩ : ∃ b, cnt f.kind = b := ⟨_, rfl⟩
    unfold dC at hW3
    rw [hbr] at hW3
    cases br with
    | true =>
      rw [hbk] at HKI HBW
      cases bk with
      | true =>
        obtain ⟨F7, hF7⟩ : ∃ F, (t.V.map fun v => bareN f.kind v.n).flatten = F := ⟨_, rfl⟩
        have HFE : Hid (fieldL (encB s d) f t = runL f.no F7) := Lib.hid (by unfold fieldL; rw [if_pos hkey, hbr, hbk, if_pos (by rfl), hF7])
        have hF7n : F7.length ≤ 140737488351232 := by have := bare_len (kind := f.kind) (l := t.V) fun v hv => HI.out.val (.inr hv); rw [hF7] at this; omega
        have HWR := Lib.hid (fun c wx h (hcl : ClosW B D wx c (fun v => bareN f.kind v.n) VIn) => HWA.out (fun v => bareN f.kind v.n) VIn F7 hF7 (fun v hv => HI.out.val (.inr hv)) hF7n c wx h hcl)
        have HRU := Lib.hid (fun v wx b (h : Below W3.heap.size W3 wx) (hy : By b wx F7 v) => run1_any f.no F7 v b wx hfn hy hF7n (HT.out wx h))
        have HBW1 := Lib.hid (HBW.out rfl)
        clear hF7 hbk hkey HBW HEN HKK HWA HOK HVW
        go_enter Tryz.func48, Tryz.ntmps48
        go_wp2_with fail
        refine (HKI.out _).mono ?_
        rintro e wk ⟨rfl, hbk⟩
        rw [← hW3] at hbk
        have hDk : Below W3.heap.size W3 wk.drew := hbk.drew
        go_wp2_with fail
        refine wp_region_held_drew (S := (fun w' => (w'.cell? ⟨w.heap.size, 0, none⟩ = some (.slice A1 s.M.length q1) ∧ w'.cell? ⟨w.heap.size, 1, none⟩ = some (.slice A2 s.E.length q2)) ∧ (w'.cell? ⟨w.heap.size + 1, 0, none⟩ = some (.int .i64 f.no) ∧ w'.cell? ⟨w.heap.size + 1, 1, none⟩ = some (.string (txt f.name)) ∧ w'.cell? ⟨w.heap.size + 1, 2, none⟩ = some (.int .i64 f.kind) ∧ w'.cell? ⟨w.heap.size + 1, 3, none⟩ = some (.int .i64 f.ref) ∧ w'.cell? ⟨w.heap.size + 1, 4, none⟩ = some (.bool f.rep) ∧ w'.cell? ⟨w.heap.size + 1, 5, none⟩ = some (.int .i64 f.key) ∧ w'.cell? ⟨w.heap.size + 1, 6, none⟩ = some (.int .i64 f.one)) ∧ (w'.cell? ⟨w.heap.size + 2, 0, none⟩ = some (.int .i64 t.no) ∧ w'.cell? ⟨w.heap.size + 2, 1, none⟩ = some (.slice A3 t.K.length q3) ∧ w'.cell? ⟨w.heap.size + 2, 2, none⟩ = some (.slice A4 t.V.length q4)))) (by kernel_rfl) (HSX.out _ hDk) (fun hHeld => ?_)
        refine wpAnyH_take (i := 0) (oi := { dst := some 23, op := Go.Op.fieldAddr 53 (Go.Operand.tmp 4) 0, type := 0, pos := "encode.go:72", after := #[], guard := none }) (v := ?_) rfl (by kernel_rfl) (by kernel_rfl) (by kernel_rfl) (fun _ _ _ h => h) (Or.inl ⟨by rfl, ?_⟩) hHeld ?_
        rotate_left
        · intro w hSw
          (try dsimp only at hSw)
          go_simp
          all_goals with_reducible rfl
        (try simp only [Act.put, List.setIfInBounds_toArray, List.set_cons_zero, List.set_cons_succ])
        refine wpAnyH_take (i := 1) (oi := { dst := some 24, op := Go.Op.load 3 (Go.Operand.tmp 23), type := 3, pos := "encode.go:72", after := #[{ on := 0, ground := Go.Ground.data }], guard := none }) (v := ?_) rfl (by kernel_rfl) (by kernel_rfl) (by kernel_rfl) (fun _ _ _ h => h) (Or.inl ⟨by rfl, ?_⟩) hHeld ?_
        rotate_left
        · intro w hSw
          (try dsimp only at hSw)
          go_simp
          all_goals with_reducible rfl
        (try simp only [Act.put, List.setIfInBounds_toArray, List.set_cons_zero, List.set_cons_succ])
        refine wpAnyH_take (i := 2) (oi := { dst := some 25, op := Go.Op.fieldAddr 48 (Go.Operand.tmp 5) 2, type := 0, pos := "encode.go:72", after := #[], guard := none }) (v := ?_) rfl (by kernel_rfl) (by kernel_rfl) (by kernel_rfl) (fun _ _ _ h => h) (Or.inl ⟨by rfl, ?_⟩) hHeld ?_
        rotate_left
        · intro w hSw
          (try dsimp only at hSw)
          go_simp
          all_goals with_reducible rfl
        (try simp only [Act.put, List.setIfInBounds_toArray, List.set_cons_zero, List.set_cons_succ])
        refine wpAnyH_take (i := 3) (oi := { dst := some 26, op := Go.Op.load 46 (Go.Operand.tmp 25), type := 46, pos := "encode.go:72", after := #[{ on := 2, ground := Go.Ground.data }], guard := none }) (v := ?_) rfl (by kernel_rfl) (by kernel_rfl) (by kernel_rfl) (fun _ _ _ h => h) (Or.inl ⟨by rfl, ?_⟩) hHeld ?_
        rotate_left
        · intro w hSw
          (try dsimp only at hSw)
          go_simp
          all_goals with_reducible rfl
        (try simp only [Act.put, List.setIfInBounds_toArray, List.set_cons_zero, List.set_cons_succ])
        refine wpAnyH_take (i := 4) (oi := { dst := some 27, op := Go.Op.fieldAddr 53 (Go.Operand.tmp 4) 2, type := 0, pos := "encode.go:72", after := #[], guard := none }) (v := ?_) rfl (by kernel_rfl) (by kernel_rfl) (by kernel_rfl) (fun _ _ _ h => h) (Or.inl ⟨by rfl, ?_⟩) hHeld ?_
        rotate_left
        · intro w hSw
          (try dsimp only at hSw)
          go_simp
          all_goals with_reducible rfl
        (try simp only [Act.put, List.setIfInBounds_toArray, List.set_cons_zero, List.set_cons_succ])
        refine wpAnyH_take (i := 5) (oi := { dst := some 28, op := Go.Op.load 3 (Go.Operand.tmp 27), type := 3, pos := "encode.go:72", after := #[{ on := 4, ground := Go.Ground.data }], guard := none }) (v := ?_) rfl (by kernel_rfl) (by kernel_rfl) (by kernel_rfl) (fun _ _ _ h => h) (Or.inl ⟨by rfl, ?_⟩) hHeld ?_
        rotate_left
        · intro w hSw
          (try dsimp only at hSw)
          go_simp
          all_goals with_reducible rfl
        (try simp only [Act.put, List.setIfInBounds_toArray, List.set_cons_zero, List.set_cons_succ])
        refine wpAnyH_ready (rs := [6]) (by kernel_rfl) (by simp) ?_
        refine AllReadyH.cons (o := { dst := some 29, op := Go.Op.call { callee := Go.Callee.value (Go.Operand.func 78), args := #[Go.Operand.tmp 28], argTypes := #[3] }, type := 79, pos := "encode.go:72", after := #[{ on := 5, ground := Go.Ground.data }], guard := none }) rfl (fun K hK => ?_) AllReadyH.nil
        go_simp
        (go_at_call 78; refine (HBW1.out _ hDk).mono ?_; rintro e w4 ⟨cw, rfl, hcw, hb4⟩)
        have hb4d := hDk.trans (hb4.mono hDk.size)
        have HW7 := Lib.hid (HWR.out cw w4 hb4d hcw)
        obtain ⟨fnw, capw, rfl, -⟩ := hcw
        go_wp2_with fail
        refine hK.out _ _ (HSX.out _ hb4d) (fun hHeld => ?_)
        clear hK K
        (try simp only [Act.put, List.setIfInBounds_toArray, List.set_cons_zero, List.set_cons_succ])
        refine wpAnyH_ready (rs := [7]) (by kernel_rfl) (by simp) ?_
        refine AllReadyH.cons (o := { dst := some 30, op := Go.Op.call { callee := Go.Callee.value (Go.Operand.func 77), args := #[Go.Operand.tmp 26, Go.Operand.tmp 29], argTypes := #[46, 79] }, type := 22, pos := "encode.go:72", after := #[{ on := 3, ground := Go.Ground.data }, { on := 6, ground := Go.Ground.data }, { on := 6, ground := Go.Ground.chain }], guard := none }) rfl (fun K hK => ?_) AllReadyH.nil
        go_simp
        (go_at_call 77; refine HW7.out.mono ?_; rintro e w7 ⟨v7, rfl, hy7, hb7⟩)
        have hb7d := below_then hb4d hb7
        have hb8 := below_then hb7d (below_new w7 (.cells #[v7] 22))
        have HRN := Lib.hid (HRU.out v7 w7 _ hb7d hy7)
        obtain ⟨A7, c7, rfl, -⟩ := hy7
        go_wp2_with fail
        refine hK.out _ _ (HSX.out _ hb7d) (fun hHeld => ?_)
        clear hK K
        (try simp only [Act.put, List.setIfInBounds_toArray, List.set_cons_zero, List.set_cons_succ])
        refine wpAnyH_ready (rs := [8]) (by kernel_rfl) (by simp) ?_
        refine AllReadyH.cons (o := { dst := some 31, op := Go.Op.buildSlice 100 1 #[(0, Go.Operand.tmp 30)], type := 100, pos := "encode.go:72", after := #[{ on := 7, ground := Go.Ground.data }], guard := none }) rfl (fun K hK => ?_) AllReadyH.nil
        go_simp
        refine hK.out _ _ (HSX.out _ hb8) (fun hHeld => ?_)
        clear hK K
        (try simp only [Act.put, List.setIfInBounds_toArray, List.set_cons_zero, List.set_cons_succ])
        refine wpAnyH_ready (rs := [9]) (by kernel_rfl) (by simp) ?_
        refine AllReadyH.cons (o := { dst := some 32, op := Go.Op.call { callee := Go.Callee.value (Go.Operand.func 61), args := #[Go.Operand.tmp 24, Go.Operand.tmp 31], argTypes := #[3, 100] }, type := 22, pos := "encode.go:72", after := #[{ on := 1, ground := Go.Ground.data }, { on := 8, ground := Go.Ground.data }, { on := 7, ground := Go.Ground.chain }], guard := none }) rfl (fun K hK => ?_) AllReadyH.nil
        go_simp
        (go_at_call 61; refine HRN.out.mono ?_; rintro e w9 ⟨v9, rfl, hy9, hb9⟩)
        have hb9d := below_then hb8 hb9
        go_wp2_with fail
        refine hK.out _ _ (HSX.out _ hb9d) (fun hHeld => ?_)
        clear hK K
        (try simp only [Act.put, List.setIfInBounds_toArray, List.set_cons_zero, List.set_cons_succ])
        refine wpAnyH_take (i := 10) (oi := { dst := some 6, op := Go.Op.assign (Go.Operand.tmp 32), type := 22, pos := "encode.go:72", after := #[{ on := 9, ground := Go.Ground.data }, { on := 9, ground := Go.Ground.chain }, { on := 0, ground := Go.Ground.phase }, { on := 1, ground := Go.Ground.phase }, { on := 2, ground := Go.Ground.phase }, { on := 3, ground := Go.Ground.phase }, { on := 4, ground := Go.Ground.phase }, { on := 5, ground := Go.Ground.phase }, { on := 6, ground := Go.Ground.phase }, { on := 7, ground := Go.Ground.phase }, { on := 8, ground := Go.Ground.phase }, { on := 9, ground := Go.Ground.phase }], guard := none }) (v := ?_) rfl (by kernel_rfl) (by kernel_rfl) (by kernel_rfl) (fun _ _ _ h => h) (Or.inl ⟨by rfl, ?_⟩) hHeld ?_
        rotate_left
        · intro w hSw
          (try dsimp only at hSw)
          go_simp
          all_goals with_reducible rfl
        (try simp only [Act.put, List.setIfInBounds_toArray, List.set_cons_zero, List.set_cons_succ])
        refine wpAnyH_done (by kernel_rfl) ?_ _
        go_wp2
        go_ret
        refine ⟨v9, rfl, ?_, below_then HL3.out hb9d⟩
        rw [HFE.out]
        exact hy9.less (Nat.le_trans HL3.out.size (Nat.le_trans hb7d.size (Nat.le_succ _)))
      | false =>
        obtain ⟨F7, hF7⟩ : ∃ F, (t.V.map (valL (encB s d) f.kind f.ref f.no)).flatten = F := ⟨_, rfl⟩
        have HFE : Hid (fieldL (encB s d) f t = F7) := Lib.hid (by unfold fieldL; rw [if_pos hkey, if_neg (by rw [hbk]; simp), hF7])
        have hF7n : F7.length ≤ 140737488351232 := by rw [← HFE.out]; exact HFN.out
        have HWR := Lib.hid (fun c wx h (hcl : ClosW B D wx c (valL (encB s d) f.kind f.ref f.no) (OkV s d f.kind f.ref)) => HWA.out _ _ F7 hF7 HOV.out hF7n c wx h hcl)
        clear hF7 hbk hkey HBW HEN HKK HWA HOK
        go_enter Tryz.func48, Tryz.ntmps48
        go_wp2_with fail
        refine (HKI.out _).mono ?_
        rintro e wk ⟨rfl, hbk⟩
        rw [← hW3] at hbk
        have hDk : Below W3.heap.size W3 wk.drew := hbk.drew
        go_wp2_with fail
        refine wp_region_held_drew (S := (fun w' => (w'.cell? ⟨w.heap.size, 0, none⟩ = some (.slice A1 s.M.length q1) ∧ w'.cell? ⟨w.heap.size, 1, none⟩ = some (.slice A2 s.E.length q2)) ∧ (w'.cell? ⟨w.heap.size + 1, 0, none⟩ = some (.int .i64 f.no) ∧ w'.cell? ⟨w.heap.size + 1, 1, none⟩ = some (.string (txt f.name)) ∧ w'.cell? ⟨w.heap.size + 1, 2, none⟩ = some (.int .i64 f.kind) ∧ w'.cell? ⟨w.heap.size + 1, 3, none⟩ = some (.int .i64 f.ref) ∧ w'.cell? ⟨w.heap.size + 1, 4, none⟩ = some (.bool f.rep) ∧ w'.cell? ⟨w.heap.size + 1, 5, none⟩ = some (.int .i64 f.key) ∧ w'.cell? ⟨w.heap.size + 1, 6, none⟩ = some (.int .i64 f.one)) ∧ (w'.cell? ⟨w.heap.size + 2, 0, none⟩ = some (.int .i64 t.no) ∧ w'.cell? ⟨w.heap.size + 2, 1, none⟩ = some (.slice A3 t.K.length q3) ∧ w'.cell? ⟨w.heap.size + 2, 2, none⟩ = some (.slice A4 t.V.length q4)))) (by kernel_rfl) (HSX.out _ hDk) (fun hHeld => ?_)
        refine wpAnyH_take (i := 0) (oi := { dst := some 33, op := Go.Op.fieldAddr 48 (Go.Operand.tmp 5) 2, type := 0, pos := "encode.go:74", after := #[], guard := none }) (v := ?_) rfl (by kernel_rfl) (by kernel_rfl) (by kernel_rfl) (fun _ _ _ h => h) (Or.inl ⟨by rfl, ?_⟩) hHeld ?_
        rotate_left
        · intro w hSw
          (try dsimp only at hSw)
          go_simp
          all_goals with_reducible rfl
        (try simp only [Act.put, List.setIfInBounds_toArray, List.set_cons_zero, List.set_cons_succ])
        refine wpAnyH_take (i := 1) (oi := { dst := some 34, op := Go.Op.load 46 (Go.Operand.tmp 33), type := 46, pos := "encode.go:74", after := #[{ on := 0, ground := Go.Ground.data }], guard := none }) (v := ?_) rfl (by kernel_rfl) (by kernel_rfl) (by kernel_rfl) (fun _ _ _ h => h) (Or.inl ⟨by rfl, ?_⟩) hHeld ?_
        rotate_left
        · intro w hSw
          (try dsimp only at hSw)
          go_simp
          all_goals with_reducible rfl
        (try simp only [Act.put, List.setIfInBounds_toArray, List.set_cons_zero, List.set_cons_succ])
        refine wpAnyH_take (i := 2) (oi := { dst := some 35, op := Go.Op.load 33 (Go.Operand.tmp 3), type := 33, pos := "encode.go:74", after := #[], guard := none }) (v := ?_) rfl (by kernel_rfl) (by kernel_rfl) (by kernel_rfl) (fun _ _ _ h => h) (Or.inl ⟨by rfl, ?_⟩) hHeld ?_
        rotate_left
        · intro w hSw
          (try dsimp only at hSw)
          go_simp
          all_goals with_reducible rfl
        (try simp only [Act.put, List.setIfInBounds_toArray, List.set_cons_zero, List.set_cons_succ])
        refine wpAnyH_take (i := 3) (oi := { dst := some 36, op := Go.Op.fieldAddr 53 (Go.Operand.tmp 4) 2, type := 0, pos := "encode.go:74", after := #[], guard := none }) (v := ?_) rfl (by kernel_rfl) (by kernel_rfl) (by kernel_rfl) (fun _ _ _ h => h) (Or.inl ⟨by rfl, ?_⟩) hHeld ?_
        rotate_left
        · intro w hSw
          (try dsimp only at hSw)
          go_simp
          all_goals with_reducible rfl
        (try simp only [Act.put, List.setIfInBounds_toArray, List.set_cons_zero, List.set_cons_succ])
        refine wpAnyH_take (i := 4) (oi := { dst := some 37, op := Go.Op.load 3 (Go.Operand.tmp 36), type := 3, pos := "encode.go:74", after := #[{ on := 3, ground := Go.Ground.data }], guard := none }) (v := ?_) rfl (by kernel_rfl) (by kernel_rfl) (by kernel_rfl) (fun _ _ _ h => h) (Or.inl ⟨by rfl, ?_⟩) hHeld ?_
        rotate_left
        · intro w hSw
          (try dsimp only at hSw)
          go_simp
          all_goals with_reducible rfl
        (try simp only [Act.put, List.setIfInBounds_toArray, List.set_cons_zero, List.set_cons_succ])
        refine wpAnyH_take (i := 5) (oi := { dst := some 38, op := Go.Op.fieldAddr 53 (Go.Operand.tmp 4) 3, type := 0, pos := "encode.go:74", after := #[], guard := none }) (v := ?_) rfl (by kernel_rfl) (by kernel_rfl) (by kernel_rfl) (fun _ _ _ h => h) (Or.inl ⟨by rfl, ?_⟩) hHeld ?_
        rotate_left
        · intro w hSw
          (try dsimp only at hSw)
          go_simp
          all_goals with_reducible rfl
        (try simp only [Act.put, List.setIfInBounds_toArray, List.set_cons_zero, List.set_cons_succ])
        refine wpAnyH_take (i := 6) (oi := { dst := some 39, op := Go.Op.load 3 (Go.Operand.tmp 38), type := 3, pos := "encode.go:74", after := #[{ on := 5, ground := Go.Ground.data }], guard := none }) (v := ?_) rfl (by kernel_rfl) (by kernel_rfl) (by kernel_rfl) (fun _ _ _ h => h) (Or.inl ⟨by rfl, ?_⟩) hHeld ?_
        rotate_left
        · intro w hSw
          (try dsimp only at hSw)
          go_simp
          all_goals with_reducible rfl
        (try simp only [Act.put, List.setIfInBounds_toArray, List.set_cons_zero, List.set_cons_succ])
        refine wpAnyH_take (i := 7) (oi := { dst := some 40, op := Go.Op.fieldAddr 53 (Go.Operand.tmp 4) 0, type := 0, pos := "encode.go:74", after := #[], guard := none }) (v := ?_) rfl (by kernel_rfl) (by kernel_rfl) (by kernel_rfl) (fun _ _ _ h => h) (Or.inl ⟨by rfl, ?_⟩) hHeld ?_
        rotate_left
        · intro w hSw
          (try dsimp only at hSw)
          go_simp
          all_goals with_reducible rfl
        (try simp only [Act.put, List.setIfInBounds_toArray, List.set_cons_zero, List.set_cons_succ])
        refine wpAnyH_take (i := 8) (oi := { dst := some 41, op := Go.Op.load 3 (Go.Operand.tmp 40), type := 3, pos := "encode.go:74", after := #[{ on := 7, ground := Go.Ground.data }], guard := none }) (v := ?_) rfl (by kernel_rfl) (by kernel_rfl) (by kernel_rfl) (fun _ _ _ h => h) (Or.inl ⟨by rfl, ?_⟩) hHeld ?_
        rotate_left
        · intro w hSw
          (try dsimp only at hSw)
          go_simp
          all_goals with_reducible rfl
        (try simp only [Act.put, List.setIfInBounds_toArray, List.set_cons_zero, List.set_cons_succ])
        refine wpAnyH_ready (rs := [9]) (by kernel_rfl) (by simp) ?_
        refine AllReadyH.cons (o := { dst := some 42, op := Go.Op.call { callee := Go.Callee.value (Go.Operand.func 33), args := #[Go.Operand.tmp 35, Go.Operand.tmp 37, Go.Operand.tmp 39, Go.Operand.tmp 41], argTypes := #[33, 3, 3, 3] }, type := 79, pos := "encode.go:74", after := #[{ on := 2, ground := Go.Ground.data }, { on := 4, ground := Go.Ground.data }, { on := 6, ground := Go.Ground.data }, { on := 8, ground := Go.Ground.data }], guard := none }) rfl (fun K hK => ?_) AllReadyH.nil
        go_simp
        (go_at_call 33; refine (HVW.out _ hDk).mono ?_; rintro e w4 ⟨cw, rfl, hcw, hb4⟩)
        have hb4d := hDk.trans (hb4.mono hDk.size)
        have HW7 := Lib.hid (HWR.out cw w4 hb4d hcw)
        obtain ⟨fnw, capw, rfl, -⟩ := hcw
        go_wp2_with fail
        refine hK.out _ _ (HSX.out _ hb4d) (fun hHeld => ?_)
        clear hK K
        (try simp only [Act.put, List.setIfInBounds_toArray, List.set_cons_zero, List.set_cons_succ])
        refine wpAnyH_ready (rs := [10]) (by kernel_rfl) (by simp) ?_
        refine AllReadyH.cons (o := { dst := some 43, op := Go.Op.call { callee := Go.Callee.value (Go.Operand.func 77), args := #[Go.Operand.tmp 34, Go.Operand.tmp 42], argTypes := #[46, 79] }, type := 22, pos := "encode.go:74", after := #[{ on := 1, ground := Go.Ground.data }, { on := 9, ground := Go.Ground.data }, { on := 9, ground := Go.Ground.chain }], guard := none }) rfl (fun K hK => ?_) AllReadyH.nil
        go_simp
        (go_at_call 77; refine HW7.out.mono ?_; rintro e w7 ⟨v7, rfl, hy7, hb7⟩)
        have hb7d := below_then hb4d hb7
        go_wp2_with fail
        refine hK.out _ _ (HSX.out _ hb7d) (fun hHeld => ?_)
        clear hK K
        (try simp only [Act.put, List.setIfInBounds_toArray, List.set_cons_zero, List.set_cons_succ])
        refine wpAnyH_take (i := 11) (oi := { dst := some 6, op := Go.Op.assign (Go.Operand.tmp 43), type := 22, pos := "encode.go:74", after := #[{ on := 10, ground := Go.Ground.data }, { on := 10, ground := Go.Ground.chain }, { on := 0, ground := Go.Ground.phase }, { on := 1, ground := Go.Ground.phase }, { on := 2, ground := Go.Ground.phase }, { on := 3, ground := Go.Ground.phase }, { on := 4, ground := Go.Ground.phase }, { on := 5, ground := Go.Ground.phase }, { on := 6, ground := Go.Ground.phase }, { on := 7, ground := Go.Ground.phase }, { on := 8, ground := Go.Ground.phase }, { on := 9, ground := Go.Ground.phase }, { on := 10, ground := Go.Ground.phase }], guard := none }) (v := ?_) rfl (by kernel_rfl) (by kernel_rfl) (by kernel_rfl) (fun _ _ _ h => h) (Or.inl ⟨by rfl, ?_⟩) hHeld ?_
        rotate_left
        · intro w hSw
          (try dsimp only at hSw)
          go_simp
          all_goals with_reducible rfl
        (try simp only [Act.put, List.setIfInBounds_toArray, List.set_cons_zero, List.set_cons_succ])
        refine wpAnyH_done (by kernel_rfl) ?_ _
        go_wp2
        go_ret
        refine ⟨v7, rfl, ?_, below_then HL3.out hb7d⟩
        rw [HFE.out]
        exact hy7.less (Nat.le_trans HL3.out.size hb4d.size)
    | false =>
      obtain ⟨F7, hF7⟩ : ∃ F, (t.V.map (valL (encB s d) f.kind f.ref f.no)).flatten = F := ⟨_, rfl⟩
      have HFE : Hid (fieldL (encB s d) f t = F7) := Lib.hid (by unfold fieldL; rw [if_pos hkey, if_neg (by rw [hbr]; simp), hF7])
      have hF7n : F7.length ≤ 140737488351232 := by rw [← HFE.out]; exact HFN.out
      have HWR := Lib.hid (fun c wx h (hcl : ClosW B D wx c (valL (encB s d) f.kind f.ref f.no) (OkV s d f.kind f.ref)) => HWA.out _ _ F7 hF7 HOV.out hF7n c wx h hcl)
      clear hF7 hbk hkey HBW HEN HKK HWA HOK
      go_enter Tryz.func48, Tryz.ntmps48
      go_wp2_with fail
      rw [← hW3]
      clear hW3
      have hDk := hD
      refine wp_region_held_drew (S := (fun w' => (w'.cell? ⟨w.heap.size, 0, none⟩ = some (.slice A1 s.M.length q1) ∧ w'.cell? ⟨w.heap.size, 1, none⟩ = some (.slice A2 s.E.length q2)) ∧ (w'.cell? ⟨w.heap.size + 1, 0, none⟩ = some (.int .i64 f.no) ∧ w'.cell? ⟨w.heap.size + 1, 1, none⟩ = some (.string (txt f.name)) ∧ w'.cell? ⟨w.heap.size + 1, 2, none⟩ = some (.int .i64 f.kind) ∧ w'.cell? ⟨w.heap.size + 1, 3, none⟩ = some (.int .i64 f.ref) ∧ w'.cell? ⟨w.heap.size + 1, 4, none⟩ = some (.bool f.rep) ∧ w'.cell? ⟨w.heap.size + 1, 5, none⟩ = some (.int .i64 f.key) ∧ w'.cell? ⟨w.heap.size + 1, 6, none⟩ = some (.int .i64 f.one)) ∧ (w'.cell? ⟨w.heap.size + 2, 0, none⟩ = some (.int .i64 t.no) ∧ w'.cell? ⟨w.heap.size + 2, 1, none⟩ = some (.slice A3 t.K.length q3) ∧ w'.cell? ⟨w.heap.size + 2, 2, none⟩ = some (.slice A4 t.V.length q4)))) (by kernel_rfl) (HSX.out _ hDk) (fun hHeld => ?_)
      refine wpAnyH_take (i := 0) (oi := { dst := some 33, op := Go.Op.fieldAddr 48 (Go.Operand.tmp 5) 2, type := 0, pos := "encode.go:74", after := #[], guard := none }) (v := ?_) rfl (by kernel_rfl) (by kernel_rfl) (by kernel_rfl) (fun _ _ _ h => h) (Or.inl ⟨by rfl, ?_⟩) hHeld ?_
      rotate_left
      · intro w hSw
        (try dsimp only at hSw)
        go_simp
        all_goals with_reducible rfl
      (try simp only [Act.put, List.setIfInBounds_toArray, List.set_cons_zero, List.set_cons_succ])
      refine wpAnyH_take (i := 1) (oi := { dst := some 34, op := Go.Op.load 46 (Go.Operand.tmp 33), type := 46, pos := "encode.go:74", after := #[{ on := 0, ground := Go.Ground.data }], guard := none }) (v := ?_) rfl (by kernel_rfl) (by kernel_rfl) (by kernel_rfl) (fun _ _ _ h => h) (Or.inl ⟨by rfl, ?_⟩) hHeld ?_
      rotate_left
      · intro w hSw
        (try dsimp only at hSw)
        go_simp
        all_goals with_reducible rfl
      (try simp only [Act.put, List.setIfInBounds_toArray, List.set_cons_zero, List.set_cons_succ])
      refine wpAnyH_take (i := 2) (oi := { dst := some 35, op := Go.Op.load 33 (Go.Operand.tmp 3), type := 33, pos := "encode.go:74", after := #[], guard := none }) (v := ?_) rfl (by kernel_rfl) (by kernel_rfl) (by kernel_rfl) (fun _ _ _ h => h) (Or.inl ⟨by rfl, ?_⟩) hHeld ?_
      rotate_left
      · intro w hSw
        (try dsimp only at hSw)
        go_simp
        all_goals with_reducible rfl
      (try simp only [Act.put, List.setIfInBounds_toArray, List.set_cons_zero, List.set_cons_succ])
      refine wpAnyH_take (i := 3) (oi := { dst := some 36, op := Go.Op.fieldAddr 53 (Go.Operand.tmp 4) 2, type := 0, pos := "encode.go:74", after := #[], guard := none }) (v := ?_) rfl (by kernel_rfl) (by kernel_rfl) (by kernel_rfl) (fun _ _ _ h => h) (Or.inl ⟨by rfl, ?_⟩) hHeld ?_
      rotate_left
      · intro w hSw
        (try dsimp only at hSw)
        go_simp
        all_goals with_reducible rfl
      (try simp only [Act.put, List.setIfInBounds_toArray, List.set_cons_zero, List.set_cons_succ])
      refine wpAnyH_take (i := 4) (oi := { dst := some 37, op := Go.Op.load 3 (Go.Operand.tmp 36), type := 3, pos := "encode.go:74", after := #[{ on := 3, ground := Go.Ground.data }], guard := none }) (v := ?_) rfl (by kernel_rfl) (by kernel_rfl) (by kernel_rfl) (fun _ _ _ h => h) (Or.inl ⟨by rfl, ?_⟩) hHeld ?_
      rotate_left
      · intro w hSw
        (try dsimp only at hSw)
        go_simp
        all_goals with_reducible rfl
      (try simp only [Act.put, List.setIfInBounds_toArray, List.set_cons_zero, List.set_cons_succ])
      refine wpAnyH_take (i := 5) (oi := { dst := some 38, op := Go.Op.fieldAddr 53 (Go.Operand.tmp 4) 3, type := 0, pos := "encode.go:74", after := #[], guard := none }) (v := ?_) rfl (by kernel_rfl) (by kernel_rfl) (by kernel_rfl) (fun _ _ _ h => h) (Or.inl ⟨by rfl, ?_⟩) hHeld ?_
      rotate_left
      · intro w hSw
        (try dsimp only at hSw)
        go_simp
        all_goals with_reducible rfl
      (try simp only [Act.put, List.setIfInBounds_toArray, List.set_cons_zero, List.set_cons_succ])
      refine wpAnyH_take (i := 6) (oi := { dst := some 39, op := Go.Op.load 3 (Go.Operand.tmp 38), type := 3, pos := "encode.go:74", after := #[{ on := 5, ground := Go.Ground.data }], guard := none }) (v := ?_) rfl (by kernel_rfl) (by kernel_rfl) (by kernel_rfl) (fun _ _ _ h => h) (Or.inl ⟨by rfl, ?_⟩) hHeld ?_
      rotate_left
      · intro w hSw
        (try dsimp only at hSw)
        go_simp
        all_goals with_reducible rfl
      (try simp only [Act.put, List.setIfInBounds_toArray, List.set_cons_zero, List.set_cons_succ])
      refine wpAnyH_take (i := 7) (oi := { dst := some 40, op := Go.Op.fieldAddr 53 (Go.Operand.tmp 4) 0, type := 0, pos := "encode.go:74", after := #[], guard := none }) (v := ?_) rfl (by kernel_rfl) (by kernel_rfl) (by kernel_rfl) (fun _ _ _ h => h) (Or.inl ⟨by rfl, ?_⟩) hHeld ?_
      rotate_left
      · intro w hSw
        (try dsimp only at hSw)
        go_simp
        all_goals with_reducible rfl
      (try simp only [Act.put, List.setIfInBounds_toArray, List.set_cons_zero, List.set_cons_succ])
      refine wpAnyH_take (i := 8) (oi := { dst := some 41, op := Go.Op.load 3 (Go.Operand.tmp 40), type := 3, pos := "encode.go:74", after := #[{ on := 7, ground := Go.Ground.data }], guard := none }) (v := ?_) rfl (by kernel_rfl) (by kernel_rfl) (by kernel_rfl) (fun _ _ _ h => h) (Or.inl ⟨by rfl, ?_⟩) hHeld ?_
      rotate_left
      · intro w hSw
        (try dsimp only at hSw)
        go_simp
        all_goals with_reducible rfl
      (try simp only [Act.put, List.setIfInBounds_toArray, List.set_cons_zero, List.set_cons_succ])
      refine wpAnyH_ready (rs := [9]) (by kernel_rfl) (by simp) ?_
      refine AllReadyH.cons (o := { dst := some 42, op := Go.Op.call { callee := Go.Callee.value (Go.Operand.func 33), args := #[Go.Operand.tmp 35, Go.Operand.tmp 37, Go.Operand.tmp 39, Go.Operand.tmp 41], argTypes := #[33, 3, 3, 3] }, type := 79, pos := "encode.go:74", after := #[{ on := 2, ground := Go.Ground.data }, { on := 4, ground := Go.Ground.data }, { on := 6, ground := Go.Ground.data }, { on := 8, ground := Go.Ground.data }], guard := none }) rfl (fun K hK => ?_) AllReadyH.nil
      go_simp
      (go_at_call 33; refine (HVW.out _ hDk).mono ?_; rintro e w4 ⟨cw, rfl, hcw, hb4⟩)
      have hb4d := hDk.trans (hb4.mono hDk.size)
      have HW7 := Lib.hid (HWR.out cw w4 hb4d hcw)
      obtain ⟨fnw, capw, rfl, -⟩ := hcw
      go_wp2_with fail
      refine hK.out _ _ (HSX.out _ hb4d) (fun hHeld => ?_)
      clear hK K
      (try simp only [Act.put, List.setIfInBounds_toArray, List.set_cons_zero, List.set_cons_succ])
      refine wpAnyH_ready (rs := [10]) (by kernel_rfl) (by simp) ?_
      refine AllReadyH.cons (o := { dst := some 43, op := Go.Op.call { callee := Go.Callee.value (Go.Operand.func 77), args := #[Go.Operand.tmp 34, Go.Operand.tmp 42], argTypes := #[46, 79] }, type := 22, pos := "encode.go:74", after := #[{ on := 1, ground := Go.Ground.data }, { on := 9, ground := Go.Ground.data }, { on := 9, ground := Go.Ground.chain }], guard := none }) rfl (fun K hK => ?_) AllReadyH.nil
      go_simp
      (go_at_call 77; refine HW7.out.mono ?_; rintro e w7 ⟨v7, rfl, hy7, hb7⟩)
      have hb7d := below_then hb4d hb7
      go_wp2_with fail
      refine hK.out _ _ (HSX.out _ hb7d) (fun hHeld => ?_)
      clear hK K
      (try simp only [Act.put, List.setIfInBounds_toArray, List.set_cons_zero, List.set_cons_succ])
      refine wpAnyH_take (i := 11) (oi := { dst := some 6, op := Go.Op.assign (Go.Operand.tmp 43), type := 22, pos := "encode.go:74", after := #[{ on := 10, ground := Go.Ground.data }, { on := 10, ground := Go.Ground.chain }, { on := 0, ground := Go.Ground.phase }, { on := 1, ground := Go.Ground.phase }, { on := 2, ground := Go.Ground.phase }, { on := 3, ground := Go.Ground.phase }, { on := 4, ground := Go.Ground.phase }, { on := 5, ground := Go.Ground.phase }, { on := 6, ground := Go.Ground.phase }, { on := 7, ground := Go.Ground.phase }, { on := 8, ground := Go.Ground.phase }, { on := 9, ground := Go.Ground.phase }, { on := 10, ground := Go.Ground.phase }], guard := none }) (v := ?_) rfl (by kernel_rfl) (by kernel_rfl) (by kernel_rfl) (fun _ _ _ h => h) (Or.inl ⟨by rfl, ?_⟩) hHeld ?_
      rotate_left
      · intro w hSw
        (try dsimp only at hSw)
        go_simp
        all_goals with_reducible rfl
      (try simp only [Act.put, List.setIfInBounds_toArray, List.set_cons_zero, List.set_cons_succ])
      refine wpAnyH_done (by kernel_rfl) ?_ _
      go_wp2
      go_ret
      refine ⟨v7, rfl, ?_, below_then HL3.out hb7d⟩
      rw [HFE.out]
      exact hy7.less (Nat.le_trans HL3.out.size hb4d.size)
  · have b1 : (f.key != -1) = true := by simp [hkey]
    have b2 : (f.key == -1) = false := by simp [hkey]
    have HE2 := Lib.hid (HEN.out _ HL3.out hkey)
    clear HEN HWA HVW HBW HKK HVV
    go_enter Tryz.func48, Tryz.ntmps48
    go_wp2_with fail
    rw [← hW3]
    refine HE2.out.mono ?_
    rintro e w9 ⟨v9, rfl, hy9, hb9⟩
    have HY9 := Lib.hid (hy9.less HL3.out.size)
    clear hy9
    go_wp2
    go_ret
    exact ⟨v9, rfl, HY9.out, below_then HL3.out hb9⟩
end Go.Proofs.YtipaangiehdgkaaGreatDoor.T12
/-
  A message, as bytes: the contract of message.
-/
namespace Go.Proofs.YtipaangiehdgkaaGreatDoor.T12
set_option maxRecDepth 100000

open Go.RowKit

open Go.Proofs.YtipaangiehdgkaaGreatDoor.T9 Go.Proofs.YtipaangiehdgkaaGreatDoor.T4

set_option maxRecDepth 1000000 in
set_option maxHeartbeats 8000000 in
theorem encmsg_step {s : Sc} {B D d : Nat} (hin : ScIn s) (H : EncH s B D d) : EncH s B (D + 1) (d + 1) := by
  rintro vM vE m x u w hB hs ⟨u', hu, hl⟩ hi hG hcm hwt T
  simp only [List.cons.injEq, and_true] at hu
  subst hu
  obtain ⟨i0, hi0, hz0, hz1, hz2⟩ := info_parts info_sl8
  obtain ⟨A1, q1, A2, q2, rfl, rfl⟩ := sat_shape hs
  obtain ⟨A, c, xs, rfl, hsl, hbl, hr, hn⟩ := hl.open_
  obtain ⟨X1, X2, LBD⟩ := two_boxes w (.cells #[.slice A1 s.M.length q1, .slice A2 s.E.length q2] 33) (.cells #[.slice A x.F.length c] 36)
  have hslots : ∀ a ∈ x.F, ∃ f, byS s m a.no = some f ∧ fillG (isB s d) f a = true := (slots_iff.1 (isB_slots hG)).1
  have hlen := enc_len s (d + 1) m x hi (Nat.le_trans hwt (by decide))
  have HE : Hid (encB s (d + 1) m x = (x.F.map (slotL (byS s m) (encB s d))).flatten) := Lib.hid rfl
  have hFn : (encB s (d + 1) m x).length ≤ 140737488351232 := by omega
  have hcF : x.F.length ≤ 100000 := Nat.le_trans (cnt_F x) hcm
  have hcS : ∀ a ∈ x.F, cS a ≤ x.cnt := fun a ha => cS_le ha
  have htS : ∀ a ∈ x.F, tS a ≤ Mg.txt x := fun a ha => by rw [Mg.txt_eq]; exact sm_mem ha
  have hwS : ∀ a ∈ x.F, 40 * cS a + tS a ≤ 35184372088832 := fun a ha => by
    rw [Mg.cnt_eq, Mg.txt_eq] at hwt
    have h1 := sm_mem (g := cS) ha
    have h2 := sm_mem (g := tS) ha
    omega
  have HS := Lib.hid hsl
  have HR := Lib.hid hr
  have HBB := Lib.hid hbl
  have HH := Lib.hid H
  have HSA := Lib.hid hs
  have HI := Lib.hid hi
  have HSL := Lib.hid hslots
  have HCS := Lib.hid (And.intro hcS hwS)
  have HCM := Lib.hid hcm
  have p1 := bx1 X2
  have s1 := box2' X1
  clear hsl hr hbl hl H hs hi hslots hcS htS hwS hlen hwt hG hcm
  go_enter Tryz.func27, Tryz.ntmps27
  go_wp2
  obtain ⟨W0, hW0⟩ : ∃ W, W = (w.alloc (.cells #[.slice A1 s.M.length q1, .slice A2 s.E.length q2] 33)).alloc (.cells #[.slice A x.F.length c] 36) := ⟨_, rfl⟩
  rw [← hW0] at X1 X2 LBD ⊢
  clear hW0 p1 s1
  have HL0 := Lib.hid LBD
  go_loopw [7, 15] (fun v i wr => ∃ (k : Nat) (zs : List Value), i = .int .i64 k ∧ k ≤ x.F.length ∧ PB W0.heap.size wr v ((x.F.take k).map (slotL (byS s m) (encB s d))) zs ∧ Below W0.heap.size W0 wr) (fun _ i _ => x.F.length - (intOf i).toNat)
  case atStart => exact ⟨0, [], rfl, by omega, PB.nil _ _, Below.refl _ _⟩
  case round =>
    obtain ⟨k, zs, rfl, hk, hpb, hbw⟩ := hrel
    have hw0 := hbw.size
    have hbw0 := below_then LBD hbw
    by_cases hlt : k < x.F.length
    · obtain ⟨a, ha⟩ : ∃ a, x.F[k]? = some a := ⟨_, List.getElem?_eq_getElem hlt⟩
      obtain ⟨ad, x', y', z', rfl, hg, hca, c0, c1, c2⟩ := row3 sAt.len (sl_low HS.out HBB.out (Lo.below hbw0 hB)) (HR.out.imp fun a cs h => SRd.low (Lo.below hbw0 hB) h) ha
      obtain ⟨AK, cK, AV, cV_, rfl, rfl, rfl⟩ := slot_shape hca
      have hmem := List.mem_of_getElem? ha
      obtain ⟨f, hf, hfl⟩ := HSL.out a hmem
      obtain ⟨hfi, -, -⟩ := byS_in hin hf
      have N1 := below_new wr (.cells #[.int .i64 a.no, .slice AK a.K.length cK, .slice AV a.V.length cV_] 48)
      have Z1 := heap_alloc_new wr (.cells #[.int .i64 a.no, .slice AK a.K.length cK, .slice AV a.V.length cV_] 48)
      have y1 := box2' (box_on (box_on X1 hbw) N1)
      obtain ⟨z0, z1, z2⟩ := bx3 Z1
      have hbw2 := below_then hbw0 N1
      have hB1 : B ≤ (wr.alloc (.cells #[.int .i64 a.no, .slice AK a.K.length cK, .slice AV a.V.length cV_] 48)).heap.size := Nat.le_trans hB hbw2.size
      have HBY := Lib.hid (by_found (B := B) hf (wr.alloc (.cells #[.int .i64 a.no, .slice AK a.K.length cK, .slice AV a.V.length cV_] 48)) hB1 (SAt.lo HSA.out hbw2 hB))
      obtain ⟨L, hL⟩ : ∃ L, (x.F.take k).map (slotL (byS s m) (encB s d)) = L := ⟨_, rfl⟩
      have hLk : L.length = k := by rw [← hL, List.length_map, List.length_take]; omega
      rw [hL] at hpb
      obtain ⟨FL, hFL⟩ : ∃ FL, fieldL (encB s d) f a = FL := ⟨_, rfl⟩
      have HL := Lib.hid (show L ++ [FL] = (x.F.take (k + 1)).map (slotL (byS s m) (encB s d)) by
        have h := map_snoc (slotL (byS s m) (encB s d)) ha
        rw [hL] at h
        rw [← h]
        unfold slotL
        rw [hf, ← hFL])
      have hcs := HCS.out.1 a hmem
      have hws := HCS.out.2 a hmem
      have hcm := HCM.out
      have HFD := Lib.hid (fun wx (h : Below wr.heap.size wr wx) => encField_any HH.out A1 A2 q1 q2 f a AK AV cK cV_ wx (Nat.le_trans hB (Nat.le_trans hbw0.size h.size)) (SAt.lo HSA.out (below_then hbw0 h) hB) (SRd.low (Lo.below h (Nat.le_trans hB hbw0.size)) hca) (HI.out.slot hmem) hfl (by omega) hws ⟨hfi.1.1, hfi.1.2⟩ (T.on (below_then hbw0 h)))
      have HPB := Lib.hid hpb
      have HN1 := Lib.hid (And.intro N1 (And.intro Z1 (box_on X1 hbw)))
      have hv1 := hpb.lt
      clear hca ha hmem hL hpb hf hfl hfi hcs hws hcm hbw2 hB1 N1 Z1
      go_wp2_with fail
      refine HBY.out.mono ?_
      rintro e w2 ⟨rfl, hb2⟩
      have N2 := below_new w2 (dC f)
      have hr2 := below_then (below_then HN1.out.1 hb2) N2
      have Y1 := box2' (box_on (box_on (box_on HN1.out.2.2 HN1.out.1) hb2) N2)
      have Y2 := bx3 (box_on (box_on HN1.out.2.1 hb2) N2)
      obtain ⟨g0, g1, g2, g3, g4, g5, g6⟩ := dc_cells (heap_alloc_new w2 (dC f))
      rw [hFL] at HFD
      have HFD2 := Lib.hid (HFD.out _ hr2)
      have hwr2 : wr.heap.size ≤ w2.heap.size := Nat.le_trans HN1.out.1.size hb2.size
      clear y1 z0 z1 z2 c0 c1 c2
      go_wp2_with fail
      refine HFD2.out.mono ?_
      rintro e w3 ⟨v3, rfl, hy3, hb3⟩
      have hr3 := below_then hr2 hb3
      have HY3 := Lib.hid (hy3.on (below_new w3 (.cells #[v3] 22)))
      have HB3 := Lib.hid (below_then hr3 (below_new w3 (.cells #[v3] 22)))
      have HQ := Lib.hid (HPB.out.on HB3.out)
      have hs3 := hr3.size
      obtain ⟨A3, c3, rfl, -⟩ := hy3
      clear Y1 Y2 g0 g1 g2 g3 g4 g5 g6
      go_wp2_with (at_builtin; refine wpList_append_lies _ rfl _ _ 100 rfl W0.heap.size 22 i0 _ 1 24 Tryz.underlying100 hi0 hz0 hz1 hz2 rfl (by decide) _ L.length zs rfl HQ.out.own ⟨w3.heap.size, 0, none⟩ 1 1 [.slice A3 FL.length c3] rfl rfl (World.news_of_block (heap_alloc_new _ _)) (by simp [Value.oneCell']) (by decide) (by unfold maxLen; omega) (by omega) (by simp; omega) w3.heap.size.succ (by simp) ?_; intro g8 cap8 w8 hown8 hg8 hat8 hlt8)
      have hq := HQ.out.app (b' := wr.heap.size) hv1 (HY3.out.less hr2.size) hown8 hg8 (hat8.imp id fun h => by rw [h]; simp)
      have hb8 : Below W0.heap.size W0 w8 := (hbw.trans (HB3.out.mono hw0)).trans (below_row hg8 HQ.out.own (Nat.le_refl _) (by simp; omega))
      rw [HL.out, hLk] at hq
      refine ⟨⟨k + 1, _, by go_num, by omega, hq, hb8⟩, by simp [intOf]; omega⟩
    · obtain rfl : k = x.F.length := by omega
      rw [List.take_length] at hpb
      obtain ⟨ls, hls⟩ : ∃ ls, x.F.map (slotL (byS s m) (encB s d)) = ls := ⟨_, rfl⟩
      rw [hls] at hpb HE
      obtain ⟨F, hF⟩ : ∃ F, encB s (d + 1) m x = F := ⟨_, rfl⟩
      have HEF := Lib.hid hF
      have hFF : ls.flatten = F := by rw [← HE.out, hF]
      rw [hF] at hFn
      obtain ⟨A9, c9, rfl, hs9⟩ := Sl.of_own hpb.own
      have HTG := Lib.hid (together_any A9 c9 ls zs F hFF wr hs9 (hpb.rows.imp BL.any) hFn)
      clear hpb hs9 hF hls hFF
      go_wp2_with fail
      refine HTG.out.mono ?_
      rintro e w9 ⟨v9, rfl, hy9, hb9⟩
      have hbz := below_then hbw0 hb9
      have HY9 : Hid (By w.heap.size w9 (encB s (d + 1) m x) v9) := Lib.hid (by rw [HEF.out]; exact hy9.less hbw0.size)
      clear hy9
      go_wp2
      go_ret
      exact ⟨v9, rfl, HY9.out, hbz⟩
/-- message, of any message. -/
theorem encmsg_any {s : Sc} (hin : ScIn s) (B : Nat) : ∀ D d, EncH s B D d
  | 0, _ => fun _ _ _ _ _ _ _ _ h => h.elim
  | _ + 1, 0 => fun _ _ _ _ _ _ _ _ _ _ h => by cases h
  | D + 1, d + 1 => encmsg_step hin (encmsg_any hin B D d)
end Go.Proofs.YtipaangiehdgkaaGreatDoor.T12
/-
  Encode: the contract, of any message.
-/
namespace Go.Proofs.YtipaangiehdgkaaGreatDoor.T12
set_option maxRecDepth 100000

open Go.RowKit

open Go.Proofs.YtipaangiehdgkaaGreatDoor.T9 Go.Proofs.YtipaangiehdgkaaGreatDoor.T4

theorem mayT_split {s : Sc} {m : Int} {x : Mg} (h : mayT s m x = true) : ScMay s ∧ isB s 64 m x = true := by
  unfold mayT at h
  rw [Bool.and_eq_true] at h
  exact ⟨@of_decide_eq_true _ (Classical.propDecidable _) h.1, h.2⟩
theorem sat_grow {B : Nat} {w w' : World} {s : Sc} {vM vE : Value} (hs : SAt B w s vM vE) (hB : B ≤ w.heap.size) (hb : Below w.heap.size w w') : SAt w'.heap.size w' s vM vE := SAt.mono (SAt.lo hs hb hB) (Nat.le_trans hB hb.size)
set_option maxRecDepth 1000000 in
set_option maxHeartbeats 4000000 in
theorem encode_yes {s : Sc} (hin : ScIn s) (B D : Nat) (vM vE : Value) (m : Int) (x : Mg) (u : Value) (w : World) (hB : B ≤ w.heap.size) (hs : SAt B w s vM vE) (hx : MRd B w D x u) (hi : MIn x) (hc : x.cnt ≤ 100000) (hwt : 40 * x.cnt + Mg.txt x ≤ 35184372088832) (T : Tabs w) (TW : Wires w) (hm : mayT s m x = true) :
    Calls Tryz.prog 12 #[.agg #[vM, vE], .int .i64 m, .agg #[u]] w fun e w' => ∃ v, e = .returned (.tuple #[v, .int .i64 0]) ∧ By w.heap.size w' (encB s 64 m (norB s 64 m x)) v ∧ Below w.heap.size w w' := by
  obtain ⟨A1, q1, A2, q2, rfl, rfl⟩ := sat_shape hs
  obtain ⟨A, c, rfl⟩ := rd_shape hx
  obtain ⟨X1, X2, LBD⟩ := two_boxes w (.cells #[.slice A1 s.M.length q1, .slice A2 s.E.length q2] 33) (.cells #[.slice A x.F.length c] 36)
  have HX := Lib.hid X1
  have p1 := bx1 X2
  have s1 := box2' X1
  obtain ⟨hsm, hG⟩ := mayT_split hm
  have hgood := norB_good (may_keys hsm) 64
  have hG2 := hgood.is m x hG
  have hi2 := hgood.in_ m x hG hi
  have hc2 := Nat.le_trans (hgood.cnt m x hG) hc
  have hw2 : 40 * (norB s 64 m x).cnt + Mg.txt (norB s 64 m x) ≤ 35184372088832 := by
    have h1 := hgood.cnt m x hG
    have h2 := nor_txt s 64 m x hG
    omega
  have HN := Lib.hid (fun wx (h : Below w.heap.size w wx) => tnormal_any hin B D (.slice A1 s.M.length q1) (.slice A2 s.E.length q2) m x (.slice A x.F.length c) wx (Nat.le_trans hB h.size) (SAt.lo hs h hB) (MRd.low (Lo.below h hB) hx) hi hc (T.on h))
  rw [hm] at HN
  have HE := Lib.hid (fun u' wx (h : Below w.heap.size w wx) (hx' : MRd wx.heap.size wx D (norB s 64 m x) u') => encmsg_any hin wx.heap.size D 64 (.slice A1 s.M.length q1) (.slice A2 s.E.length q2) m (norB s 64 m x) u' wx (Nat.le_refl _) (sat_grow hs hB h) hx' hi2 hG2 hc2 hw2 (TW.on h))
  obtain ⟨N, hN⟩ : ∃ N, norB s 64 m x = N := ⟨_, rfl⟩
  obtain ⟨F, hF⟩ : ∃ F, encB s 64 m N = F := ⟨_, rfl⟩
  rw [hN] at HN HE ⊢
  rw [hF] at HE ⊢
  clear hs hx hi hgood hG2 hi2 hc2 hw2 X1 X2 hm hG hN hF
  go_enter Tryz.func12, Tryz.ntmps12
  go_wp2_with fail
  refine (HN.out _ LBD).mono ?_
  rintro e w1 ⟨A', n', c', rfl, -, hrd, hb1⟩
  have hrd := hrd (by trivial)
  have N1 := below_new w1 (.cells #[.slice A' n' c'] 36)
  have L1 := below_then (below_then LBD hb1) N1
  have Z1 := bx1 (heap_alloc_new w1 (.cells #[.slice A' n' c'] 36))
  have S1 := box2' (box_on (box_on HX.out hb1) N1)
  have HE1 := Lib.hid (HE.out _ _ L1 (rd_up N1 hrd))
  clear hrd p1 s1
  go_wp2_with fail
  refine HE1.out.mono ?_
  rintro e w2 ⟨v, rfl, hy, hb2⟩
  have HY := Lib.hid (hy.less L1.size)
  clear hy
  go_wp2
  go_ret2
  exact ⟨v, rfl, HY.out, below_then L1 hb2⟩
set_option maxRecDepth 1000000 in
set_option maxHeartbeats 4000000 in
theorem encode_no {s : Sc} (hin : ScIn s) (B D : Nat) (vM vE : Value) (m : Int) (x : Mg) (u : Value) (w : World) (hB : B ≤ w.heap.size) (hs : SAt B w s vM vE) (hx : MRd B w D x u) (hi : MIn x) (hc : x.cnt ≤ 100000) (T : Tabs w) (hm : mayT s m x = false) :
    Calls Tryz.prog 12 #[.agg #[vM, vE], .int .i64 m, .agg #[u]] w fun e w' => e = .returned (.tuple #[.slice none 0 0, .int .i64 1]) ∧ Below w.heap.size w w' := by
  obtain ⟨A1, q1, A2, q2, rfl, rfl⟩ := sat_shape hs
  obtain ⟨A, c, rfl⟩ := rd_shape hx
  obtain ⟨X1, X2, LBD⟩ := two_boxes w (.cells #[.slice A1 s.M.length q1, .slice A2 s.E.length q2] 33) (.cells #[.slice A x.F.length c] 36)
  have p1 := bx1 X2
  have s1 := box2' X1
  have HN := Lib.hid (fun wx (h : Below w.heap.size w wx) => tnormal_any hin B D (.slice A1 s.M.length q1) (.slice A2 s.E.length q2) m x (.slice A x.F.length c) wx (Nat.le_trans hB h.size) (SAt.lo hs h hB) (MRd.low (Lo.below h hB) hx) hi hc (T.on h))
  rw [hm] at HN
  clear hs hx hi X1 X2 hm
  go_enter Tryz.func12, Tryz.ntmps12
  go_wp2_with fail
  refine (HN.out _ LBD).mono ?_
  rintro e w1 ⟨A', n', c', rfl, -, -, hb1⟩
  go_wp2
  go_ret2
  exact ⟨rfl, below_then (below_then LBD hb1) (below_new _ _)⟩
end Go.Proofs.YtipaangiehdgkaaGreatDoor.T12
