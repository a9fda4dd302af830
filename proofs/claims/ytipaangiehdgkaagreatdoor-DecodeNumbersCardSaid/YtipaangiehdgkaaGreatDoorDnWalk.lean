/-
  A record's number into the only value of a field, where the message has it already; and field, where it takes such a record.
-/
import Derived.Test.YtipaangiehdgkaaGreatDoorDecOnly
import Derived.Test.YtipaangiehdgkaaGreatDoorDecSlot2
import Derived.Test.YtipaangiehdgkaaGreatDoorEncAw
import Derived.Test.YtipaangiehdgkaaGreatDoorDecNumb
namespace Go.Proofs.YtipaangiehdgkaaGreatDoor.T11
set_option maxRecDepth 100000

open Go.RowKit

open Go.Proofs.YtipaangiehdgkaaGreatDoor.T9

theorem s6_far2 {w : World} {g gv : Nat} {x y : Value} {a : Nat} {vM vE vB : Value} {f : Df} {no' wire : Int} {num : Nat} {frm upto : Int} (h : ((w.cell? ⟨a, 0, none⟩ = some vM ∧ w.cell? ⟨a, 1, none⟩ = some vE ∧ w.cell? ⟨a, 2, none⟩ = some vB) ∧ (w.cell? ⟨a + 1, 0, none⟩ = some (.int .i64 f.no) ∧ w.cell? ⟨a + 1, 1, none⟩ = some (.string (txt f.name)) ∧ w.cell? ⟨a + 1, 2, none⟩ = some (.int .i64 f.kind) ∧ w.cell? ⟨a + 1, 3, none⟩ = some (.int .i64 f.ref) ∧ w.cell? ⟨a + 1, 4, none⟩ = some (.bool f.rep) ∧ w.cell? ⟨a + 1, 5, none⟩ = some (.int .i64 f.key) ∧ w.cell? ⟨a + 1, 6, none⟩ = some (.int .i64 f.one)) ∧ (w.cell? ⟨a + 2, 0, none⟩ = some (.int .i64 no') ∧ w.cell? ⟨a + 2, 1, none⟩ = some (.int .i64 wire) ∧ w.cell? ⟨a + 2, 2, none⟩ = some (.int .u64 num) ∧ w.cell? ⟨a + 2, 3, none⟩ = some (.int .i64 frm) ∧ w.cell? ⟨a + 2, 4, none⟩ = some (.int .i64 upto))) ∧ w.cell? ⟨g, 2, none⟩ = some y) (hg2 : gv < a) (hne : g ≠ gv) : (((w.setCell ⟨gv, 0, none⟩ x).cell? ⟨a, 0, none⟩ = some vM ∧ (w.setCell ⟨gv, 0, none⟩ x).cell? ⟨a, 1, none⟩ = some vE ∧ (w.setCell ⟨gv, 0, none⟩ x).cell? ⟨a, 2, none⟩ = some vB) ∧ ((w.setCell ⟨gv, 0, none⟩ x).cell? ⟨a + 1, 0, none⟩ = some (.int .i64 f.no) ∧ (w.setCell ⟨gv, 0, none⟩ x).cell? ⟨a + 1, 1, none⟩ = some (.string (txt f.name)) ∧ (w.setCell ⟨gv, 0, none⟩ x).cell? ⟨a + 1, 2, none⟩ = some (.int .i64 f.kind) ∧ (w.setCell ⟨gv, 0, none⟩ x).cell? ⟨a + 1, 3, none⟩ = some (.int .i64 f.ref) ∧ (w.setCell ⟨gv, 0, none⟩ x).cell? ⟨a + 1, 4, none⟩ = some (.bool f.rep) ∧ (w.setCell ⟨gv, 0, none⟩ x).cell? ⟨a + 1, 5, none⟩ = some (.int .i64 f.key) ∧ (w.setCell ⟨gv, 0, none⟩ x).cell? ⟨a + 1, 6, none⟩ = some (.int .i64 f.one)) ∧ ((w.setCell ⟨gv, 0, none⟩ x).cell? ⟨a + 2, 0, none⟩ = some (.int .i64 no') ∧ (w.setCell ⟨gv, 0, none⟩ x).cell? ⟨a + 2, 1, none⟩ = some (.int .i64 wire) ∧ (w.setCell ⟨gv, 0, none⟩ x).cell? ⟨a + 2, 2, none⟩ = some (.int .u64 num) ∧ (w.setCell ⟨gv, 0, none⟩ x).cell? ⟨a + 2, 3, none⟩ = some (.int .i64 frm) ∧ (w.setCell ⟨gv, 0, none⟩ x).cell? ⟨a + 2, 4, none⟩ = some (.int .i64 upto))) ∧ (w.setCell ⟨gv, 0, none⟩ x).cell? ⟨g, 2, none⟩ = some y := by
  have k : ∀ b j v, b ≠ gv → w.cell? ⟨b, j, none⟩ = some v → (w.setCell ⟨gv, 0, none⟩ x).cell? ⟨b, j, none⟩ = some v := fun b j v hb hc => by
    refine (World.cell?_of_block ?_).trans hc
    have hne : gv ≠ b := fun e => hb e.symm
    simp [World.setCell, Array.getElem?_modify, hne]
  obtain ⟨⟨⟨a1, a2, a3⟩, ⟨b1, b2, b3, b4, b5, b6, b7⟩, c1, c2, c3, c4, c5⟩, d1⟩ := h
  exact ⟨⟨⟨k _ _ _ (by omega) a1, k _ _ _ (by omega) a2, k _ _ _ (by omega) a3⟩, ⟨k _ _ _ (by omega) b1, k _ _ _ (by omega) b2, k _ _ _ (by omega) b3, k _ _ _ (by omega) b4, k _ _ _ (by omega) b5, k _ _ _ (by omega) b6, k _ _ _ (by omega) b7⟩, k _ _ _ (by omega) c1, k _ _ _ (by omega) c2, k _ _ _ (by omega) c3, k _ _ _ (by omega) c4, k _ _ _ (by omega) c5⟩, k _ _ _ hne d1⟩
set_option maxRecDepth 1000000 in
set_option maxHeartbeats 8000000 in
theorem only_old (vM vE vB : Value) (gx gs gv cs cv b : Nat) (n0 : Int) (m : Int) (f : Df) (no' wire : Int) (num : Nat) (frm upto deep : Int) (w : World) (X : w.heap[gx]? = some (.cells #[.slice (some ⟨gs, 0, none⟩) 1 cs] 36 (0, 0)))
    (ho : w.ownsRow b 48 3 (.slice (some ⟨gs, 0, none⟩) 1 cs) 1 [.int .i64 f.no, .slice none 0 0, .slice (some ⟨gv, 0, none⟩) 1 cv]) (hv : w.ownsRow b 51 3 (.slice (some ⟨gv, 0, none⟩) 1 cv) 1 [.int .i64 n0, .string ⟨#[]⟩, .slice none 0 0]) (hne : gs ≠ gv) (hgb : gx < b)
    (hone : f.one = 0) (hk : cnt f.kind = true) (hw : wire = wireI f.kind) (hn : num < 18446744073709551616) :
    Calls Tryz.prog 160 #[.agg #[vM, vE, vB], .pointer (some ⟨gx, 0, none⟩), .int .i64 m, .agg #[.int .i64 f.no, .string (txt f.name), .int .i64 f.kind, .int .i64 f.ref, .bool f.rep, .int .i64 f.key, .int .i64 f.one], .agg #[.int .i64 no', .int .i64 wire, .int .u64 num, .int .i64 frm, .int .i64 upto], .int .i64 deep] w fun e w' => e = .returned (.tuple #[]) ∧ w'.heap[gx]? = some (.cells #[.slice (some ⟨gs, 0, none⟩) 1 cs] 36 (0, 0)) ∧
      w'.ownsRow b 48 3 (.slice (some ⟨gs, 0, none⟩) 1 cs) 1 [.int .i64 f.no, .slice none 0 0, .slice (some ⟨gv, 0, none⟩) 1 cv] ∧ w'.ownsRow b 51 3 (.slice (some ⟨gv, 0, none⟩) 1 cv) 1 [.int .i64 (ofI f.kind (num : Int)), .string ⟨#[]⟩, .slice none 0 0] ∧ w.grownBy w' (some gv) := by
  obtain ⟨T1, T2, T3, L3⟩ := three_boxes w (.cells #[vM, vE, vB] 119) (dC f) (.cells #[.int .i64 no', .int .i64 wire, .int .u64 num, .int .i64 frm, .int .i64 upto] 62)
  have X3 := box_on X L3
  have hgx := box_lt X
  have hgs := own_blk ho gs rfl
  have hgv := own_blk hv gv rfl
  obtain ⟨g0, g1, g2, g3, g4, g5, g6⟩ := dc_cells T2
  obtain ⟨W3, hW3⟩ : ∃ W, W = (((w.alloc (.cells #[vM, vE, vB] 119)).alloc (dC f)).alloc (.cells #[.int .i64 no', .int .i64 wire, .int .u64 num, .int .i64 frm, .int .i64 upto] 62)) := ⟨_, rfl⟩
  have ho3 := own_hi ho (hi_below b (hW3 ▸ L3))
  have hv3 := own_hi hv (hi_below b (hW3 ▸ L3))
  obtain ⟨As, cs', e1, hsl⟩ := Sl.of_own ho3
  injection e1 with e11 e12 e13
  subst e11 e13
  have HSL := slotOf_old ⟨gx, 0, none⟩ f.no (some ⟨gs, 0, none⟩) cs [.int .i64 f.no, .slice none 0 0, .slice (some ⟨gv, 0, none⟩) 1 cv] [f.no] 0 W3 (by rw [hW3]; exact bx1 X3) hsl (show (1 : Nat) ≤ 1000000000 by decide) (fun k x h => by
    cases k with
    | zero => have e : f.no = x := (by simpa using h); subst e; rfl
    | succ k => simp at h) rfl (fun k hk => by omega)
  have HSL := Lib.hid HSL
  have c2 : (((w.alloc (.cells #[vM, vE, vB] 119)).alloc (dC f)).alloc (.cells #[.int .i64 no', .int .i64 wire, .int .u64 num, .int .i64 frm, .int .i64 upto] 62)).cell? ⟨gs, 2, none⟩ = some (.slice (some ⟨gv, 0, none⟩) 1 cv) := hW3 ▸ ho3.cells (g := gs) rfl 2 _ rfl
  rw [← hW3] at T1 T2 T3 L3
  have b1 : (f.one != 0) = false := by rw [hone]; rfl
  have HONE := Lib.hid hone
  have HOS := Lib.hid ho
  have HOV := Lib.hid hv
  have hgvw : gv < w.heap.size := hgv.2
  have hgvb : b ≤ gv := hgv.1
  have hD9 : Below W3.heap.size W3 W3.drew := (Below.refl _ _).drew
  have c9 : W3.cell? ⟨gv, 0, none⟩ = some (.int .i64 n0) := hv3.cells (g := gv) rfl 0 _ rfl
  have c92 : W3.cell? ⟨gs, 2, none⟩ = some (.slice (some ⟨gv, 0, none⟩) 1 cv) := hW3 ▸ c2
  have HTK := Lib.hid (fun wx (h : Below W3.heap.size W3 wx) => take_num vM vE vB ⟨gv, 0, none⟩ f.kind f.ref no' wire num frm upto deep hk hw hn wx (.int .i64 n0) (Nat.lt_of_lt_of_le (own_blk hv3 gv rfl).2 h.size) (cell_on h c9) (by have := own_froz (own_hi hv3 (hi_below b h)) 0; exact this))
  have HS6 : Hid (∀ wx, Below W3.heap.size W3 wx → ((wx.cell? ⟨w.heap.size, 0, none⟩ = some vM ∧ wx.cell? ⟨w.heap.size, 1, none⟩ = some vE ∧ wx.cell? ⟨w.heap.size, 2, none⟩ = some vB) ∧ (wx.cell? ⟨w.heap.size + 1, 0, none⟩ = some (.int .i64 f.no) ∧ wx.cell? ⟨w.heap.size + 1, 1, none⟩ = some (.string (txt f.name)) ∧ wx.cell? ⟨w.heap.size + 1, 2, none⟩ = some (.int .i64 f.kind) ∧ wx.cell? ⟨w.heap.size + 1, 3, none⟩ = some (.int .i64 f.ref) ∧ wx.cell? ⟨w.heap.size + 1, 4, none⟩ = some (.bool f.rep) ∧ wx.cell? ⟨w.heap.size + 1, 5, none⟩ = some (.int .i64 f.key) ∧ wx.cell? ⟨w.heap.size + 1, 6, none⟩ = some (.int .i64 f.one)) ∧ (wx.cell? ⟨w.heap.size + 2, 0, none⟩ = some (.int .i64 no') ∧ wx.cell? ⟨w.heap.size + 2, 1, none⟩ = some (.int .i64 wire) ∧ wx.cell? ⟨w.heap.size + 2, 2, none⟩ = some (.int .u64 num) ∧ wx.cell? ⟨w.heap.size + 2, 3, none⟩ = some (.int .i64 frm) ∧ wx.cell? ⟨w.heap.size + 2, 4, none⟩ = some (.int .i64 upto))) ∧ wx.cell? ⟨gs, 2, none⟩ = some (.slice (some ⟨gv, 0, none⟩) 1 cv)) := Lib.hid fun wx h => ⟨⟨bx3 (box_on T1 h), dc_cells (box_on T2 h), heap_cells (box_on T3 h)⟩, cell_on h c92⟩
  clear T1 T2 T3 hone ho hv ho3 hv3 hsl hw c9 hgs hgv
  go_enter Tryz.func160, Tryz.ntmps160
  go_wp2_with fail
  rw [← hW3]
  refine HSL.out.mono ?_
  rintro e V0 ⟨⟨ad, had, rfl⟩, rfl⟩
  obtain rfl := Option.some.inj had
  simp only [Nat.zero_mul, add_nothing]
  rw [← hW3] at g0 g1 g2 g3 g4 g5 g6 c2
  clear hW3
  go_wp2_with fail
  refine wp_region_held_drew (S := (fun w' => ((w'.cell? ⟨w.heap.size, 0, none⟩ = some vM ∧ w'.cell? ⟨w.heap.size, 1, none⟩ = some vE ∧ w'.cell? ⟨w.heap.size, 2, none⟩ = some vB) ∧ (w'.cell? ⟨w.heap.size + 1, 0, none⟩ = some (.int .i64 f.no) ∧ w'.cell? ⟨w.heap.size + 1, 1, none⟩ = some (.string (txt f.name)) ∧ w'.cell? ⟨w.heap.size + 1, 2, none⟩ = some (.int .i64 f.kind) ∧ w'.cell? ⟨w.heap.size + 1, 3, none⟩ = some (.int .i64 f.ref) ∧ w'.cell? ⟨w.heap.size + 1, 4, none⟩ = some (.bool f.rep) ∧ w'.cell? ⟨w.heap.size + 1, 5, none⟩ = some (.int .i64 f.key) ∧ w'.cell? ⟨w.heap.size + 1, 6, none⟩ = some (.int .i64 f.one)) ∧ (w'.cell? ⟨w.heap.size + 2, 0, none⟩ = some (.int .i64 no') ∧ w'.cell? ⟨w.heap.size + 2, 1, none⟩ = some (.int .i64 wire) ∧ w'.cell? ⟨w.heap.size + 2, 2, none⟩ = some (.int .u64 num) ∧ w'.cell? ⟨w.heap.size + 2, 3, none⟩ = some (.int .i64 frm) ∧ w'.cell? ⟨w.heap.size + 2, 4, none⟩ = some (.int .i64 upto))) ∧ w'.cell? ⟨gs, 2, none⟩ = some (.slice (some ⟨gv, 0, none⟩) 1 cv))) (by kernel_rfl) (HS6.out _ hD9) (fun hHeld => ?_)
  refine wpAnyH_take (i := 0) (oi := { dst := some 43, op := Go.Op.load 119 (Go.Operand.tmp 6), type := 119, pos := "decode.go:160", after := #[], guard := none }) (v := ?_) rfl (by kernel_rfl) (by kernel_rfl) (by kernel_rfl) (fun _ _ _ h => h) (Or.inl ⟨by rfl, ?_⟩) hHeld ?_
  rotate_left
  · intro w hSw
    (try dsimp only at hSw)
    go_simp
    all_goals with_reducible rfl
  (try simp only [Act.put, List.setIfInBounds_toArray, List.set_cons_zero, List.set_cons_succ])
  refine wpAnyH_take (i := 1) (oi := { dst := some 44, op := Go.Op.move (Go.Operand.tmp 12), type := 206, pos := "decode.go:160", after := #[], guard := none }) (v := ?_) rfl (by kernel_rfl) (by kernel_rfl) (by kernel_rfl) (fun _ _ _ h => h) (Or.inl ⟨by rfl, ?_⟩) hHeld ?_
  rotate_left
  · intro w hSw
    (try dsimp only at hSw)
    go_simp
    all_goals with_reducible rfl
  (try simp only [Act.put, List.setIfInBounds_toArray, List.set_cons_zero, List.set_cons_succ])
  refine wpAnyH_take (i := 2) (oi := { dst := some 45, op := Go.Op.nilCheck (Go.Operand.tmp 44), type := 0, pos := "decode.go:160", after := #[{ on := 1, ground := Go.Ground.data }], guard := none }) (v := ?_) rfl (by kernel_rfl) (by kernel_rfl) (by kernel_rfl) (fun _ _ _ h => h) (Or.inl ⟨by rfl, ?_⟩) hHeld ?_
  rotate_left
  · intro w hSw
    (try dsimp only at hSw)
    go_simp
    all_goals with_reducible rfl
  (try simp only [Act.put, List.setIfInBounds_toArray, List.set_cons_zero, List.set_cons_succ])
  refine wpAnyH_take (i := 3) (oi := { dst := some 46, op := Go.Op.fieldAddr 48 (Go.Operand.tmp 45) 2, type := 0, pos := "decode.go:160", after := #[{ on := 2, ground := Go.Ground.data }], guard := none }) (v := ?_) rfl (by kernel_rfl) (by kernel_rfl) (by kernel_rfl) (fun _ _ _ h => h) (Or.inl ⟨by rfl, ?_⟩) hHeld ?_
  rotate_left
  · intro w hSw
    (try dsimp only at hSw)
    go_simp
    all_goals with_reducible rfl
  (try simp only [Act.put, List.setIfInBounds_toArray, List.set_cons_zero, List.set_cons_succ])
  refine wpAnyH_take (i := 4) (oi := { dst := some 47, op := Go.Op.load 46 (Go.Operand.tmp 46), type := 46, pos := "decode.go:160", after := #[{ on := 3, ground := Go.Ground.data }], guard := none }) (v := ?_) rfl (by kernel_rfl) (by kernel_rfl) (by kernel_rfl) (fun _ _ _ h => h) (Or.inl ⟨by rfl, ?_⟩) hHeld ?_
  rotate_left
  · intro w hSw
    (try dsimp only at hSw)
    go_simp
    all_goals with_reducible rfl
  (try simp only [Act.put, List.setIfInBounds_toArray, List.set_cons_zero, List.set_cons_succ])
  refine wpAnyH_take (i := 5) (oi := { dst := some 48, op := Go.Op.indexAddr 46 (Go.Operand.tmp 47) (Go.Operand.const (Go.Value.int Go.IntKind.i64 0)), type := 0, pos := "decode.go:160", after := #[{ on := 4, ground := Go.Ground.data }], guard := none }) (v := ?_) rfl (by kernel_rfl) (by kernel_rfl) (by kernel_rfl) (fun _ _ _ h => h) (Or.inl ⟨by rfl, ?_⟩) hHeld ?_
  rotate_left
  · intro w hSw
    (try dsimp only at hSw)
    go_simp
    all_goals with_reducible rfl
  (try simp only [Act.put, List.setIfInBounds_toArray, List.set_cons_zero, List.set_cons_succ])
  refine wpAnyH_take (i := 6) (oi := { dst := some 49, op := Go.Op.fieldAddr 53 (Go.Operand.tmp 9) 2, type := 0, pos := "decode.go:160", after := #[], guard := none }) (v := ?_) rfl (by kernel_rfl) (by kernel_rfl) (by kernel_rfl) (fun _ _ _ h => h) (Or.inl ⟨by rfl, ?_⟩) hHeld ?_
  rotate_left
  · intro w hSw
    (try dsimp only at hSw)
    go_simp
    all_goals with_reducible rfl
  (try simp only [Act.put, List.setIfInBounds_toArray, List.set_cons_zero, List.set_cons_succ])
  refine wpAnyH_take (i := 7) (oi := { dst := some 50, op := Go.Op.load 3 (Go.Operand.tmp 49), type := 3, pos := "decode.go:160", after := #[{ on := 6, ground := Go.Ground.data }], guard := none }) (v := ?_) rfl (by kernel_rfl) (by kernel_rfl) (by kernel_rfl) (fun _ _ _ h => h) (Or.inl ⟨by rfl, ?_⟩) hHeld ?_
  rotate_left
  · intro w hSw
    (try dsimp only at hSw)
    go_simp
    all_goals with_reducible rfl
  (try simp only [Act.put, List.setIfInBounds_toArray, List.set_cons_zero, List.set_cons_succ])
  refine wpAnyH_take (i := 8) (oi := { dst := some 51, op := Go.Op.fieldAddr 53 (Go.Operand.tmp 9) 3, type := 0, pos := "decode.go:160", after := #[], guard := none }) (v := ?_) rfl (by kernel_rfl) (by kernel_rfl) (by kernel_rfl) (fun _ _ _ h => h) (Or.inl ⟨by rfl, ?_⟩) hHeld ?_
  rotate_left
  · intro w hSw
    (try dsimp only at hSw)
    go_simp
    all_goals with_reducible rfl
  (try simp only [Act.put, List.setIfInBounds_toArray, List.set_cons_zero, List.set_cons_succ])
  refine wpAnyH_take (i := 9) (oi := { dst := some 52, op := Go.Op.load 3 (Go.Operand.tmp 51), type := 3, pos := "decode.go:160", after := #[{ on := 8, ground := Go.Ground.data }], guard := none }) (v := ?_) rfl (by kernel_rfl) (by kernel_rfl) (by kernel_rfl) (fun _ _ _ h => h) (Or.inl ⟨by rfl, ?_⟩) hHeld ?_
  rotate_left
  · intro w hSw
    (try dsimp only at hSw)
    go_simp
    all_goals with_reducible rfl
  (try simp only [Act.put, List.setIfInBounds_toArray, List.set_cons_zero, List.set_cons_succ])
  refine wpAnyH_take (i := 10) (oi := { dst := some 53, op := Go.Op.load 62 (Go.Operand.tmp 10), type := 62, pos := "decode.go:160", after := #[], guard := none }) (v := ?_) rfl (by kernel_rfl) (by kernel_rfl) (by kernel_rfl) (fun _ _ _ h => h) (Or.inl ⟨by rfl, ?_⟩) hHeld ?_
  rotate_left
  · intro w hSw
    (try dsimp only at hSw)
    go_simp
    all_goals with_reducible rfl
  (try simp only [Act.put, List.setIfInBounds_toArray, List.set_cons_zero, List.set_cons_succ])
  refine wpAnyH_take (i := 11) (oi := { dst := some 54, op := Go.Op.move (Go.Operand.tmp 5), type := 3, pos := "decode.go:160", after := #[], guard := none }) (v := ?_) rfl (by kernel_rfl) (by kernel_rfl) (by kernel_rfl) (fun _ _ _ h => h) (Or.inl ⟨by rfl, ?_⟩) hHeld ?_
  rotate_left
  · intro w hSw
    (try dsimp only at hSw)
    go_simp
    all_goals with_reducible rfl
  (try simp only [Act.put, List.setIfInBounds_toArray, List.set_cons_zero, List.set_cons_succ])
  refine wpAnyH_ready (rs := [12]) (by kernel_rfl) (by simp) ?_
  refine AllReadyH.cons (o := { dst := some 55, op := Go.Op.call { callee := Go.Callee.value (Go.Operand.func 181), args := #[Go.Operand.tmp 43, Go.Operand.tmp 48, Go.Operand.tmp 50, Go.Operand.tmp 52, Go.Operand.tmp 53, Go.Operand.tmp 54], argTypes := #[119, 229, 3, 3, 62, 3] }, type := 0, pos := "decode.go:160", after := #[{ on := 0, ground := Go.Ground.data }, { on := 5, ground := Go.Ground.data }, { on := 7, ground := Go.Ground.data }, { on := 9, ground := Go.Ground.data }, { on := 10, ground := Go.Ground.data }, { on := 11, ground := Go.Ground.data }], guard := none }) rfl (fun K hK => ?_) AllReadyH.nil
  go_simp
  (go_at_call 181; refine (HTK.out _ hD9).mono ?_; rintro e wt2 ⟨rfl, wt, hbt, rfl⟩)
  have hbt9 := hD9.trans (hbt.mono hD9.size)
  go_wp2_with fail
  refine hK.out _ _ (s6_far2 (HS6.out _ hbt9) hgvw hne) (fun hHeld => ?_)
  clear hK K
  (try simp only [Act.put, List.setIfInBounds_toArray, List.set_cons_zero, List.set_cons_succ])
  refine wpAnyH_done (by kernel_rfl) ?_ _
  go_wp2
  go_end0
  have hbw := L3.trans (hbt9.mono L3.size)
  obtain ⟨r1, r2⟩ := (own_hi HOV.out (hi_below b hbw)).stored 0 (.int .i64 (ofI f.kind (num : Int)))
  refine ⟨rfl, ?_, T9.own_kept (own_hi HOS.out (hi_below b hbw)) fun k hk hlt => r2.block k hlt (by intro e; exact hne (by simpa [Value.ownBlock] using hk.trans e)), r1, ?_⟩
  · rw [r2.block gx (Nat.lt_of_lt_of_le hgx hbw.size) (by simp; omega)]
    exact box_on X hbw
  · exact ⟨r2.os.trans hbw.os, r2.tape.trans hbw.tape, r2.output.trans hbw.output, Nat.le_trans hbw.size r2.size, fun k hk hk2 => (r2.block k (Nat.lt_of_lt_of_le hk hbw.size) hk2).trans (hbw.block k hk)⟩
end Go.Proofs.YtipaangiehdgkaaGreatDoor.T11
/-
  field, where it takes a record of a field that has one value at the most.
-/
namespace Go.Proofs.YtipaangiehdgkaaGreatDoor.T11
set_option maxRecDepth 100000

open Go.RowKit

open Go.Proofs.YtipaangiehdgkaaGreatDoor.T9

set_option maxRecDepth 1000000 in
set_option maxHeartbeats 4000000 in
/-- field, of a field that has one value at the most. -/
theorem field_only (vM vE vB : Value) (gx : Nat) (m : Int) (f : Df) (no' wire : Int) (num : Nat) (frm upto deep : Int) (w : World) (hkey : f.key = -1) (hrep : f.rep = false) (Q : World → World → Prop)
    (HO : ∀ wx, Below w.heap.size w wx → Calls Tryz.prog 160 #[.agg #[vM, vE, vB], .pointer (some ⟨gx, 0, none⟩), .int .i64 m, .agg #[.int .i64 f.no, .string (txt f.name), .int .i64 f.kind, .int .i64 f.ref, .bool f.rep, .int .i64 f.key, .int .i64 f.one], .agg #[.int .i64 no', .int .i64 wire, .int .u64 num, .int .i64 frm, .int .i64 upto], .int .i64 deep] wx fun e w' => e = .returned (.tuple #[]) ∧ Q wx w') :
    Calls Tryz.prog 113 #[.agg #[vM, vE, vB], .pointer (some ⟨gx, 0, none⟩), .int .i64 m, .agg #[.int .i64 f.no, .string (txt f.name), .int .i64 f.kind, .int .i64 f.ref, .bool f.rep, .int .i64 f.key, .int .i64 f.one], .agg #[.int .i64 no', .int .i64 wire, .int .u64 num, .int .i64 frm, .int .i64 upto], .int .i64 deep] w fun e w' => e = .returned (.tuple #[]) ∧ ∃ wx, Below w.heap.size w wx ∧ Q wx w' := by
  obtain ⟨no, name, kind, ref, rep, key, one⟩ := f
  simp only at hkey hrep HO ⊢
  subst hrep
  obtain ⟨T1, T2, T3, L3⟩ := three_boxes w (.cells #[vM, vE, vB] 119) (dC ⟨no, name, kind, ref, false, key, one⟩) (.cells #[.int .i64 no', .int .i64 wire, .int .u64 num, .int .i64 frm, .int .i64 upto] 62)
  obtain ⟨g0, g1, g2, g3, g4, g5, g6⟩ := dc_cells T2
  obtain ⟨s0, s1, s2⟩ := bx3 T1
  obtain ⟨r0, r1, r2, r3, r4⟩ := heap_cells T3
  have b1 : (key != -1) = false := by rw [hkey]; rfl
  have HOC := Lib.hid (HO _ L3)
  simp only at g0 g1 g2 g3 g4 g5 g6
  clear T1 T2 T3 HO hkey
  obtain ⟨W3, hW3⟩ : ∃ W, W = (((w.alloc (.cells #[vM, vE, vB] 119)).alloc (dC ⟨no, name, kind, ref, false, key, one⟩)).alloc (.cells #[.int .i64 no', .int .i64 wire, .int .u64 num, .int .i64 frm, .int .i64 upto] 62)) := ⟨_, rfl⟩
  go_enter Tryz.func113, Tryz.ntmps113
  go_wp2_with fail
  refine HOC.out.mono ?_
  rintro e w2 ⟨rfl, hq⟩
  go_wp2
  go_end0
  exact ⟨rfl, _, L3, hq⟩
end Go.Proofs.YtipaangiehdgkaaGreatDoor.T11
/-
  The chapter's example: what is taken from the bytes 8 5 8 7.
-/
namespace Go.Proofs.YtipaangiehdgkaaGreatDoor.T11
set_option maxRecDepth 100000

open Go.RowKit

open Go.Proofs.YtipaangiehdgkaaGreatDoor.T9 Go.Proofs.YtipaangiehdgkaaGreatDoor.T4 Go.Proofs.YtipaangiehdgkaaGreatDoor.T12

theorem next_first : nextR [8, 5, 8, 7] 0 4 = (⟨1, 0, 5, 1, 2⟩, 2, 0) := by decide +kernel
theorem next_second : nextR [8, 5, 8, 7] 2 4 = (⟨1, 0, 7, 3, 4⟩, 4, 0) := by decide +kernel
theorem by_s0 : byS s0 0 1 = some f0 := by decide +kernel

/-- What x has, once its field's number is n. -/
def Got (gx b : Nat) (w : World) (n : Int) (w' : World) : Prop :=
  ∃ gs gv cs cv, w'.heap[gx]? = some (.cells #[.slice (some ⟨gs, 0, none⟩) 1 cs] 36 (0, 0)) ∧ w'.ownsRow b 48 3 (.slice (some ⟨gs, 0, none⟩) 1 cs) 1 [.int .i64 1, .slice none 0 0, .slice (some ⟨gv, 0, none⟩) 1 cv] ∧ w'.ownsRow b 51 3 (.slice (some ⟨gv, 0, none⟩) 1 cv) 1 [.int .i64 n, .string ⟨#[]⟩, .slice none 0 0] ∧ gs ≠ gv ∧ w.grownBy w' (some gx)

theorem grown_pre {w wx w' : World} {gx b : Nat} (hb : Below w.heap.size w wx) (h : wx.grownBy w' (some gx)) : w.grownBy w' (some gx) :=
  ⟨h.os.trans hb.os, h.tape.trans hb.tape, h.output.trans hb.output, Nat.le_trans hb.size h.size, fun k hk hk2 => (h.block k (Nat.lt_of_lt_of_le hk hb.size) hk2).trans (hb.block k hk)⟩
theorem field_first (vM vE vB : Value) (gx : Nat) (m : Int) (num : Nat) (frm upto deep : Int) (w : World) (X : w.heap[gx]? = some (.cells #[.slice none 0 0] 36 (0, 0))) (hn : num < 18446744073709551616) (ho : ofI 0 (num : Int) = (num : Int)) :
    Calls Tryz.prog 113 #[.agg #[vM, vE, vB], .pointer (some ⟨gx, 0, none⟩), .int .i64 m, .agg #[.int .i64 1, .string (txt [97]), .int .i64 0, .int .i64 0, .bool false, .int .i64 (-1), .int .i64 0], .agg #[.int .i64 1, .int .i64 0, .int .u64 num, .int .i64 frm, .int .i64 upto], .int .i64 deep] w fun e w' => e = .returned (.tuple #[]) ∧ Got gx w.heap.size w (num : Int) w' :=
  (field_only vM vE vB gx m f0 1 0 num frm upto deep w rfl rfl (fun wx w' => Got gx wx.heap.size wx (num : Int) w') (fun wx hx => (only_new vM vE vB gx m f0 1 0 num frm upto deep wx (box_on X hx) rfl rfl rfl hn).mono (by
    rintro e w' ⟨he, gs, gv, cs, cv, h1, h2, h3, h4, h5⟩
    exact ⟨he, gs, gv, cs, cv, h1, h2, by rw [← ho]; exact h3, h4, h5⟩))).mono (by
    rintro e w' ⟨he, wx, hx, gs, gv, cs, cv, h1, h2, h3, h4, h5⟩
    exact ⟨he, gs, gv, cs, cv, h1, own_less2 h2 hx.size, own_less2 h3 hx.size, h4, grown_pre (b := 0) hx h5⟩)
theorem field_next (vM vE vB : Value) (gx b : Nat) (m n0 : Int) (num : Nat) (frm upto deep : Int) (w0 w : World) (hgb : gx < b) (hb : w0.heap.size ≤ b) (H : Got gx b w0 n0 w) (hn : num < 18446744073709551616) (ho : ofI 0 (num : Int) = (num : Int)) :
    Calls Tryz.prog 113 #[.agg #[vM, vE, vB], .pointer (some ⟨gx, 0, none⟩), .int .i64 m, .agg #[.int .i64 1, .string (txt [97]), .int .i64 0, .int .i64 0, .bool false, .int .i64 (-1), .int .i64 0], .agg #[.int .i64 1, .int .i64 0, .int .u64 num, .int .i64 frm, .int .i64 upto], .int .i64 deep] w fun e w' => e = .returned (.tuple #[]) ∧ Got gx b w0 (num : Int) w' := by
  obtain ⟨gs, gv, cs, cv, h1, h2, h3, h4, h5⟩ := H
  refine (field_only vM vE vB gx m f0 1 0 num frm upto deep w rfl rfl (fun _ w' => Got gx b w0 (num : Int) w') (fun wx hx => (only_old vM vE vB gx gs gv cs cv b n0 m f0 1 0 num frm upto deep wx (box_on h1 hx) (own_hi h2 (hi_below b hx)) (own_hi h3 (hi_below b hx)) h4 hgb rfl rfl rfl hn).mono ?_)).mono ?_
  · rintro e w' ⟨he, k1, k2, k3, k4⟩
    have hgv : b ≤ gv := (own_blk h3 gv rfl).1
    refine ⟨he, gs, gv, cs, cv, k1, k2, by rw [← ho]; exact k3, h4, ?_⟩
    have hs : w0.heap.size ≤ w.heap.size := h5.size
    exact ⟨k4.os.trans (hx.os.trans h5.os), k4.tape.trans (hx.tape.trans h5.tape), k4.output.trans (hx.output.trans h5.output), Nat.le_trans hs (Nat.le_trans hx.size k4.size), fun k hk hk2 => (k4.block k (Nat.lt_of_lt_of_le hk (Nat.le_trans hs hx.size)) (by simp; omega)).trans ((hx.block k (Nat.lt_of_lt_of_le hk hs)).trans (h5.block k hk hk2))⟩
  · rintro e w' ⟨he, wx, hx, hq⟩
    exact ⟨he, hq⟩

theorem Got.on {gx b : Nat} {w0 w w' : World} {n : Int} (h : Got gx b w0 n w) (hb : Below w.heap.size w w') : Got gx b w0 n w' := by
  obtain ⟨gs, gv, cs, cv, h1, h2, h3, h4, h5⟩ := h
  exact ⟨gs, gv, cs, cv, box_on h1 hb, own_hi h2 (hi_below b hb), own_hi h3 (hi_below b hb), h4, ⟨hb.os.trans h5.os, hb.tape.trans h5.tape, hb.output.trans h5.output, Nat.le_trans h5.size hb.size, fun k hk hk2 => (hb.block k (Nat.lt_of_lt_of_le hk h5.size)).trans (h5.block k hk hk2)⟩⟩
theorem Got.grown {gx b : Nat} {w0 w : World} {n : Int} (h : Got gx b w0 n w) : w0.grownBy w (some gx) := by
  obtain ⟨gs, gv, cs, cv, h1, h2, h3, h4, h5⟩ := h
  exact h5
set_option maxRecDepth 1000000 in
set_option maxHeartbeats 8000000 in
theorem message_eg (B : Nat) (vM vE : Value) (A : Option Addr) (c gx : Nat) (deep : Int) (wo w : World) (hBo : Below wo.heap.size wo w) (hgo : wo.heap.size ≤ gx) (hB : B ≤ wo.heap.size) (hs : SAt B wo s0 vM vE) (hr : SlB wo A c [8, 5, 8, 7]) (T : Wires wo) (X : w.heap[gx]? = some (.cells #[.slice none 0 0] 36 (0, 0))) :
    Calls Tryz.prog 67 #[.agg #[vM, vE, .slice A 4 c], .pointer (some ⟨gx, 0, none⟩), .int .i64 0, .int .i64 0, .int .i64 4, .int .i64 deep] w fun e w' => e = .returned (.tuple #[]) ∧ Got gx w.heap.size w 7 w' := by
  have HN1 := Lib.hid (fun wx (h : Below wo.heap.size wo wx) => (next_any A c [8, 5, 8, 7] 0 4 (by decide) wx (hr.on h) (T.on h)).mono (show ∀ e w', _ → e = .returned (.tuple #[.agg #[.int .i64 1, .int .i64 0, .int .u64 5, .int .i64 1, .int .i64 2], .int .i64 2, .int .i64 0]) ∧ Below wx.heap.size wx w' from fun e w' h => ⟨h.1.trans (by rw [next_first]; rfl), h.2⟩))
  have HN2 := Lib.hid (fun wx (h : Below wo.heap.size wo wx) => (next_any A c [8, 5, 8, 7] 2 4 (by decide) wx (hr.on h) (T.on h)).mono (show ∀ e w', _ → e = .returned (.tuple #[.agg #[.int .i64 1, .int .i64 0, .int .u64 7, .int .i64 3, .int .i64 4], .int .i64 4, .int .i64 0]) ∧ Below wx.heap.size wx w' from fun e w' h => ⟨h.1.trans (by rw [next_second]; rfl), h.2⟩))
  have HBY := Lib.hid (fun wx (h : Below wo.heap.size wo wx) => (by_found (B := B) by_s0 wx (Nat.le_trans hB h.size) (SAt.lo hs h hB)).mono (show ∀ e w', _ → e = .returned (.tuple #[.agg #[.int .i64 1, .string (txt [97]), .int .i64 0, .int .i64 0, .bool false, .int .i64 (-1), .int .i64 0], .bool true]) ∧ Below wx.heap.size wx w' from fun e w' h => h))
  have LBD := below_new w (.cells #[vM, vE, .slice A 4 c] 119)
  have X0 := heap_alloc_new w (.cells #[vM, vE, .slice A 4 c] 119)
  have Xg := box_on X LBD
  have hgx := box_lt X
  have hsz : (w.alloc (.cells #[vM, vE, .slice A 4 c] 119)).heap.size = w.heap.size + 1 := by simp
  have hBo1 := below_then hBo LBD
  clear hs hr T X
  obtain ⟨W, hW⟩ : ∃ W, w.alloc (.cells #[vM, vE, .slice A 4 c] 119) = W := ⟨_, rfl⟩
  rw [hW] at LBD X0 Xg hsz hBo1
  have HH := Lib.hid (And.intro LBD (And.intro X0 (And.intro Xg (And.intro hBo1 hsz))))
  have HG := Lib.hid (And.intro hgx hgo)
  have HF1 := Lib.hid (fun wx (h : Below W.heap.size W wx) => (field_first vM vE (.slice A 4 c) gx 0 5 1 2 deep wx (box_on Xg h) (by decide) (by decide)).mono (show ∀ e w', _ → e = .returned (.tuple #[]) ∧ Got gx W.heap.size W 5 w' from fun e w' ⟨he, gs, gv, cs, cv, k1, k2, k3, k4, k5⟩ => ⟨he, gs, gv, cs, cv, k1, own_less2 k2 h.size, own_less2 k3 h.size, k4, grown_pre (b := 0) h k5⟩))
  have HF2 := Lib.hid (fun wx (h : Got gx W.heap.size W 5 wx) => (field_next vM vE (.slice A 4 c) gx W.heap.size 0 5 7 3 4 deep W wx (by omega) (Nat.le_refl _) h (by decide) (by decide)).mono (show ∀ e w', _ → e = .returned (.tuple #[]) ∧ Got gx W.heap.size W 7 w' from fun e w' h => h))
  clear LBD X0 Xg hBo1 hsz hgx hgo hBo
  go_enter Tryz.func67, Tryz.ntmps67
  go_wp2
  clear hW
  go_loopw [3] (fun i wr => (i = .int .i64 0 ∧ Below W.heap.size W wr) ∨ (i = .int .i64 2 ∧ Got gx W.heap.size W 5 wr) ∨ (i = .int .i64 4 ∧ Got gx W.heap.size W 7 wr)) (fun i _ => 4 - (intOf i).toNat)
  case atStart => exact .inl ⟨rfl, Below.refl _ _⟩
  case round =>
    rcases hrel with ⟨rfl, hb⟩ | ⟨rfl, hq⟩ | ⟨rfl, hq⟩
    · obtain ⟨LBD, X0, Xg, hBo1, hsz⟩ := HH.out
      have Y0 := box_on X0 hb
      have hbo := below_then hBo1 hb
      have HNX := Lib.hid (HN1.out wr hbo)
      have HBB := Lib.hid hb
      obtain ⟨y0, y1, y2⟩ := bx3 Y0
      have HYY := Lib.hid Y0
      have HOO := Lib.hid hbo
      clear LBD X0 Xg hBo1 hsz hb Y0 hbo
      go_wp2_with fail
      refine HNX.out.mono ?_
      rintro e w2 ⟨rfl, hb2⟩
      have N2 := below_new w2 (.cells #[.int .i64 1, .int .i64 0, .int .u64 5, .int .i64 1, .int .i64 2] 62)
      have Z2 := heap_alloc_new w2 (.cells #[.int .i64 1, .int .i64 0, .int .u64 5, .int .i64 1, .int .i64 2] 62)
      obtain ⟨y0', y1', y2'⟩ := bx3 (box_on (box_on HYY.out hb2) N2)
      obtain ⟨z0, z1, z2, z3, z4⟩ := heap_cells Z2
      have HB3 := Lib.hid (HBY.out _ (below_then (below_then HOO.out hb2) N2))
      clear y0 y1 y2 HNX
      go_wp2_with fail
      refine (fine_yes _).mono ?_
      rintro e w3 ⟨rfl, rfl⟩
      go_wp2_with fail
      refine HB3.out.mono ?_
      rintro e w3 ⟨rfl, hb3⟩
      have N3 := below_new w3 (.cells #[.int .i64 1, .string (txt [97]), .int .i64 0, .int .i64 0, .bool false, .int .i64 (-1), .int .i64 0] 53)
      have HFX := Lib.hid (HF1.out _ (below_then (below_then (below_then HBB.out hb2) N2) (below_then hb3 N3)))
      obtain ⟨y0, y1, y2⟩ := bx3 (box_on (box_on (box_on (box_on HYY.out hb2) N2) hb3) N3)
      obtain ⟨u0, u1, u2, u3, u4⟩ := heap_cells (box_on (box_on Z2 hb3) N3)
      obtain ⟨g0, g1, g2, g3, g4, g5, g6⟩ := dc_cells (f := f0) (heap_alloc_new w3 (.cells #[.int .i64 1, .string (txt [97]), .int .i64 0, .int .i64 0, .bool false, .int .i64 (-1), .int .i64 0] 53))
      clear y0' y1' y2' z0 z1 z2 z3 z4 HB3 N2 N3 Z2 hb2 hb3
      go_wp2_with fail
      refine HFX.out.mono ?_
      rintro e w4 ⟨rfl, hq⟩
      clear HFX y0 y1 y2 u0 u1 u2 u3 u4 g0 g1 g2 g3 g4 g5 g6
      go_wp2
      exact ⟨.inr (.inl ⟨rfl, hq⟩), by simp [intOf]⟩
    · obtain ⟨LBD, X0, Xg, hBo1, hsz⟩ := HH.out
      have hgr := hq.grown
      have Y0 := (hgr.block w.heap.size (by omega) (by have := HG.out.1; simp; omega)).trans X0
      have hbo := hBo1.trans (below_own hgr HG.out.2 hBo1.size)
      have HNX := Lib.hid (HN2.out wr hbo)
      have HBB := Lib.hid hq
      obtain ⟨y0, y1, y2⟩ := bx3 Y0
      have HYY := Lib.hid Y0
      have HOO := Lib.hid hbo
      clear LBD X0 Xg hBo1 hsz hq hgr Y0 hbo
      go_wp2_with fail
      refine HNX.out.mono ?_
      rintro e w2 ⟨rfl, hb2⟩
      have N2 := below_new w2 (.cells #[.int .i64 1, .int .i64 0, .int .u64 7, .int .i64 3, .int .i64 4] 62)
      have Z2 := heap_alloc_new w2 (.cells #[.int .i64 1, .int .i64 0, .int .u64 7, .int .i64 3, .int .i64 4] 62)
      obtain ⟨y0', y1', y2'⟩ := bx3 (box_on (box_on HYY.out hb2) N2)
      obtain ⟨z0, z1, z2, z3, z4⟩ := heap_cells Z2
      have HB3 := Lib.hid (HBY.out _ (below_then (below_then HOO.out hb2) N2))
      clear y0 y1 y2 HNX
      go_wp2_with fail
      refine (fine_yes _).mono ?_
      rintro e w3 ⟨rfl, rfl⟩
      go_wp2_with fail
      refine HB3.out.mono ?_
      rintro e w3 ⟨rfl, hb3⟩
      have N3 := below_new w3 (.cells #[.int .i64 1, .string (txt [97]), .int .i64 0, .int .i64 0, .bool false, .int .i64 (-1), .int .i64 0] 53)
      have HFX := Lib.hid (HF2.out _ (HBB.out.on (below_then (below_then hb2 N2) (below_then hb3 N3))))
      obtain ⟨y0, y1, y2⟩ := bx3 (box_on (box_on (box_on (box_on HYY.out hb2) N2) hb3) N3)
      obtain ⟨u0, u1, u2, u3, u4⟩ := heap_cells (box_on (box_on Z2 hb3) N3)
      obtain ⟨g0, g1, g2, g3, g4, g5, g6⟩ := dc_cells (f := f0) (heap_alloc_new w3 (.cells #[.int .i64 1, .string (txt [97]), .int .i64 0, .int .i64 0, .bool false, .int .i64 (-1), .int .i64 0] 53))
      clear y0' y1' y2' z0 z1 z2 z3 z4 HB3 N2 N3 Z2 hb2 hb3
      go_wp2_with fail
      refine HFX.out.mono ?_
      rintro e w4 ⟨rfl, hq⟩
      clear HFX y0 y1 y2 u0 u1 u2 u3 u4 g0 g1 g2 g3 g4 g5 g6
      go_wp2
      exact ⟨.inr (.inr ⟨rfl, hq⟩), by simp [intOf]⟩
    · go_wp2
      go_end0
      refine ⟨rfl, ?_⟩
      obtain ⟨gs, gv, cs, cv, k1, k2, k3, k4, k5⟩ := hq
      obtain ⟨LBD, X0, Xg, hBo1, hsz⟩ := HH.out
      exact ⟨gs, gv, cs, cv, k1, own_less2 k2 LBD.size, own_less2 k3 LBD.size, k4, grown_pre (b := 0) LBD k5⟩
end Go.Proofs.YtipaangiehdgkaaGreatDoor.T11
/-
  The chapter's example, whole.
-/
namespace Go.Proofs.YtipaangiehdgkaaGreatDoor.T11
set_option maxRecDepth 100000

open Go.RowKit

open Go.Proofs.YtipaangiehdgkaaGreatDoor.T9 Go.Proofs.YtipaangiehdgkaaGreatDoor.T4 Go.Proofs.YtipaangiehdgkaaGreatDoor.T12

theorem Got.mat {gx b : Nat} {w w' : World} (h : Got gx b w 7 w') : ∃ gs cs, w'.heap[gx]? = some (.cells #[.slice (some ⟨gs, 0, none⟩) 1 cs] 36 (0, 0)) ∧ T9.MAt (Ow b w') 2 x0 [.slice (some ⟨gs, 0, none⟩) 1 cs] := by
  obtain ⟨gs, gv, cs, cv, h1, h2, h3, h4, h5⟩ := h
  exact ⟨gs, cs, h1, _, rfl, _, ⟨h2, by decide⟩, T9.Rows.single ⟨.slice none 0 0, .slice (some ⟨gv, 0, none⟩) 1 cv, rfl, ⟨[], ⟨World.ownsRow_nil _ _ _ _, Nat.zero_le _⟩, rfl⟩, ⟨_, ⟨h3, by decide⟩, T9.Rows.single ⟨.slice none 0 0, rfl, [], ⟨World.ownsRow_nil _ _ _ _, Nat.zero_le _⟩, rfl⟩⟩⟩⟩
set_option maxRecDepth 1000000 in
set_option maxHeartbeats 8000000 in
theorem whole_eg (B : Nat) (vM vE : Value) (A : Option Addr) (c : Nat) (w : World) (hB : B ≤ w.heap.size) (hs : SAt B w s0 vM vE) (hr : SlB w A c [8, 5, 8, 7]) (TW : Wires w) (TT : Tabs w) :
    Calls Tryz.prog 38 #[.agg #[vM, vE], .int .i64 0, .slice A 4 c] w fun e w' => (∃ A n c, e = .returned (.agg #[.slice A n c]) ∧ T9.MAt (Ow w.heap.size w') 2 x0 [.slice A n c]) ∧ Below w.heap.size w w' := by
  obtain ⟨X1, X2, LBD⟩ := two_boxes w (.cells #[vM, vE] 33) (.cells #[.slice none 0 0] 36)
  have HMAY := Lib.hid (may_any B s0 vM vE _ (Nat.le_trans hB LBD.size) (SAt.lo hs LBD hB) in_s0 (TT.on LBD))
  have HST := Lib.hid (fun wx (h : Below w.heap.size w wx) => And.intro (SAt.lo hs h hB) (And.intro (hr.on h) (And.intro (TW.on h) (TT.on h))))
  obtain ⟨A1, q1, A2, q2, rfl, rfl⟩ := sat_shape hs
  change Calls _ _ #[.agg #[.slice A1 1 q1, .slice A2 0 q2], _, _] _ _
  obtain ⟨x1, x2⟩ := box2' X1
  have HX := Lib.hid (And.intro X1 (And.intro X2 LBD))
  change (World.cell? _ _ = some (.slice A1 1 q1)) at x1
  change (World.cell? _ _ = some (.slice A2 0 q2)) at x2
  clear hs hr TW TT X1 X2 LBD
  go_enter Tryz.func38, Tryz.ntmps38
  go_wp2_with fail
  refine HMAY.out.mono ?_
  rintro e w1 ⟨b, rfl, hb, hb1⟩
  obtain rfl := hb.2 may_s0
  clear hb
  have hw01 := below_then HX.out.2.2 hb1
  have hsz1 : w.heap.size + 2 ≤ w1.heap.size := by
    have h1 := hb1.size
    have h2 : ((w.alloc (.cells #[.slice A1 1 q1, .slice A2 0 q2] 33)).alloc (.cells #[.slice none 0 0] 36)).heap.size = w.heap.size + 2 := by simp
    exact h2 ▸ h1
  have X1' := box_on HX.out.1 hb1
  have X2' := box_on HX.out.2.1 hb1
  obtain ⟨x1, x2⟩ := box2' X1'
  change (World.cell? _ _ = some (.slice A1 1 q1)) at x1
  change (World.cell? _ _ = some (.slice A2 0 q2)) at x2
  have HW := Lib.hid (And.intro hw01 (And.intro X1' (And.intro X2' hsz1)))
  clear HMAY X1' X2' hb1 hw01 hsz1
  go_wp2_with fail
  refine (must_yes _ _).mono ?_
  rintro e w1' ⟨rfl, rfl⟩
  obtain ⟨hw01, X1', X2', hsz1⟩ := HW.out
  have N2 := below_new w1' (.cells #[.slice none 0 0] 36)
  have Z2 := heap_alloc_new w1' (.cells #[.slice none 0 0] 36)
  obtain ⟨k1, k2, k3, k4⟩ := HST.out _ hw01
  have HM := Lib.hid (message_eg B (.slice A1 1 q1) (.slice A2 0 q2) A c w1'.heap.size 1 w1' _ N2 (Nat.le_refl _) (Nat.le_trans hB hw01.size) k1 k2 k3 Z2)
  obtain ⟨y1, y2⟩ := box2' (box_on X1' N2)
  change (World.cell? _ _ = some (.slice A1 1 q1)) at y1
  change (World.cell? _ _ = some (.slice A2 0 q2)) at y2
  have HN := Lib.hid N2
  clear x1 x2 k1 k2 k3 k4 Z2 N2 X1' X2' hw01 hsz1
  go_wp2_with fail
  refine HM.out.mono ?_
  rintro e w2 ⟨rfl, hq⟩
  obtain ⟨hw01, X1', X2', hsz1⟩ := HW.out
  have hb12 := HN.out.trans (below_own hq.grown (Nat.le_refl _) HN.out.size)
  obtain ⟨gs, cs, hgx, hmat⟩ := hq.mat
  have hb02 := below_then hw01 hb12
  obtain ⟨k1, -, -, k4⟩ := HST.out _ hb02
  have HNO := tnormal_ow in_s0 w2.heap.size 2 _ _ 0 x0 _ w2 (Nat.le_refl _) (SAt.mono k1 (Nat.le_trans hB hb02.size)) (own_rd hmat) in_x0 (by decide +kernel) k4 may_x0
  rw [nor_x0] at HNO
  have HNO := Lib.hid HNO
  obtain ⟨y1, y2⟩ := box2' (box_on X1' hb12)
  change (World.cell? _ _ = some (.slice A1 1 q1)) at y1
  change (World.cell? _ _ = some (.slice A2 0 q2)) at y2
  have c3 := bx1 hgx
  have HW := Lib.hid (And.intro hb02 (And.intro (box_on X2' hb12) (And.intro hsz1 hb12)))
  clear hb12 hb02 k1 k4 hgx hmat hq hw01 X1' X2' hsz1 HN HM
  go_wp2_with fail
  refine HNO.out.mono ?_
  rintro e w3 ⟨An, nn, cn, rfl, hm3, hb3⟩
  obtain ⟨hb02, X2', hsz1, hb12⟩ := HW.out
  have N4 := below_new w3 (.cells #[.slice An nn cn] 36)
  have Z4 := heap_alloc_new w3 (.cells #[.slice An nn cn] 36)
  have z4 := bx1 Z4
  have Y2 := box_on (box_on X2' hb3) N4
  have c2 := bx1 Y2
  have f2 : (w3.alloc (.cells #[.slice An nn cn] 36)).frozen? ⟨w.heap.size + 1, 0, none⟩ = false := by simp [World.frozen?, Y2]
  obtain ⟨Z1, G1⟩ := cell1 Y2 (.slice An nn cn)
  have hb04 := below_then (below_then hb02 hb3) N4
  have hsw : w.heap.size + 1 < w2.heap.size := by have := hb12.size; omega
  have hbz := hb04.trans (below_own G1 (by omega) (by have := hb3.size; have := N4.size; omega))
  have hmz := T9.MAt.imp (Ow.hi' (hi_grown G1 (b := w2.heap.size + 3) (by omega)) (b' := w.heap.size) (by omega)) 2 x0 _ (T9.MAt.imp (Ow.hi (hi_below _ N4)) 2 x0 _ hm3)
  have HZ := Lib.hid (And.intro hbz hmz)
  clear hb02 X2' hsz1 hb12 N4 Z4 Y2 G1 hb04 hsw hbz hmz hm3 hb3 y1 y2 c3 HNO
  go_wp2
  refine bodyPost_ret (results_cell_row rfl _ _ (w.heap.size + 1) _ _ (0, 0) _ rfl Z1 Tryz.underlying36 rfl sz_msg) rfl ?_
  exact ⟨⟨An, nn, cn, rfl, HZ.out.2⟩, HZ.out.1⟩
end Go.Proofs.YtipaangiehdgkaaGreatDoor.T11
/-
  The statements' first call tells yes.
-/
namespace Go.Proofs.YtipaangiehdgkaaGreatDoor.T11
set_option maxRecDepth 100000

open Go.RowKit

open Go.Proofs.YtipaangiehdgkaaGreatDoor.T9 Go.Proofs.YtipaangiehdgkaaGreatDoor.T4 Go.Proofs.YtipaangiehdgkaaGreatDoor.T12

/-- Where the example's number lies. -/
theorem x0_reads {b : Nat} {w : World} {A : Option Addr} {n c : Nat} (h : T9.MAt (Ow b w) 2 x0 [.slice A n c]) : ∃ ad ad' c', A = some ad ∧ n = 1 ∧ w.cell? ⟨ad.block, ad.off + 2, none⟩ = some (.slice (some ad') 1 c') ∧ w.cell? ad' = some (.int .i64 7) := by
  obtain ⟨u, hu, hl⟩ := own_rd h
  obtain rfl : Value.slice A n c = u := by simpa using hu
  obtain ⟨A1, c1, xs, e1, hs1, -, hr1, -⟩ := hl.open_
  obtain ⟨ad, x, y, z, rfl, -, ⟨u1, u2, e2, -, hl2⟩, -, -, hz⟩ := row3 (k := 0) sAt.len hs1 hr1 (show x0.F[0]? = some t0 from rfl)
  injection e1 with e11 e12 e13
  subst e11 e13
  obtain ⟨rfl, rfl, rfl⟩ : x = .int .i64 1 ∧ y = u1 ∧ z = u2 := by simpa [t0] using e2
  obtain ⟨A2, c2, ys, rfl, hs2, -, hr2, -⟩ := hl2.open_
  obtain ⟨ad2, x2, y2, z2, rfl, -, ⟨u3, e3, -⟩, hx2, -, -⟩ := row3 (k := 0) vAt.len hs2 hr2 (show t0.V[0]? = some v0 from rfl)
  obtain ⟨rfl, -⟩ : x2 = .int .i64 7 ∧ _ := by simpa [v0] using e3
  simp only [Nat.zero_mul, add_nothing] at hz hx2
  exact ⟨ad, ad2, c2, rfl, e12, hz, hx2⟩
set_option maxRecDepth 1000000 in
set_option maxHeartbeats 4000000 in
theorem awake11_any (w : World) (T : Tabs w) (TW : Wires w) : Calls Tryz.prog 7 #[] w fun e w' => e = .returned (.bool true) ∧ Below w.heap.size w w' := by
  obtain ⟨h1, h2, h3, h4, L5⟩ := T9.four_new w (.cells #[.int .i64 1, .string ⟨#[97]⟩, .int .i64 0, .int .i64 0, .bool false, .int .i64 (-1), .int .i64 0] 53) (.cells #[.string ⟨#[65]⟩, .slice (some ⟨w.heap.size, 0, none⟩) 1 1] 66) (.cells #[.slice (some ⟨w.heap.size + 1, 0, none⟩) 1 1, .slice none 0 0] 33) (.cells #[.int .u8 8, .int .u8 5, .int .u8 8, .int .u8 7] 5)
  have hS := lit_reads (((w.alloc (.cells #[.int .i64 1, .string ⟨#[97]⟩, .int .i64 0, .int .i64 0, .bool false, .int .i64 (-1), .int .i64 0] 53)).alloc (.cells #[.string ⟨#[65]⟩, .slice (some ⟨w.heap.size, 0, none⟩) 1 1] 66)).alloc (.cells #[.slice (some ⟨w.heap.size + 1, 0, none⟩) 1 1, .slice none 0 0] 33)) [8, 5, 8, 7] (by decide)
  have hsz : (((w.alloc (.cells #[.int .i64 1, .string ⟨#[97]⟩, .int .i64 0, .int .i64 0, .bool false, .int .i64 (-1), .int .i64 0] 53)).alloc (.cells #[.string ⟨#[65]⟩, .slice (some ⟨w.heap.size, 0, none⟩) 1 1] 66)).alloc (.cells #[.slice (some ⟨w.heap.size + 1, 0, none⟩) 1 1, .slice none 0 0] 33)).heap.size = w.heap.size + 1 + 1 + 1 := by simp
  rw [hsz] at hS
  clear hsz
  change SlB ((((w.alloc (.cells #[.int .i64 1, .string ⟨#[97]⟩, .int .i64 0, .int .i64 0, .bool false, .int .i64 (-1), .int .i64 0] 53)).alloc (.cells #[.string ⟨#[65]⟩, .slice (some ⟨w.heap.size, 0, none⟩) 1 1] 66)).alloc (.cells #[.slice (some ⟨w.heap.size + 1, 0, none⟩) 1 1, .slice none 0 0] 33)).alloc (.cells #[.int .u8 8, .int .u8 5, .int .u8 8, .int .u8 7] 5)) _ 4 _ at hS
  have hT := T.on L5
  have hTW := TW.on L5
  clear T TW
  go_enter Tryz.func7, Tryz.ntmps7
  go_wp2_with fail
  generalize ((((w.alloc (.cells #[.int .i64 1, .string ⟨#[97]⟩, .int .i64 0, .int .i64 0, .bool false, .int .i64 (-1), .int .i64 0] 53)).alloc (.cells #[.string ⟨#[65]⟩, .slice (some ⟨w.heap.size, 0, none⟩) 1 1] 66)).alloc (.cells #[.slice (some ⟨w.heap.size + 1, 0, none⟩) 1 1, .slice none 0 0] 33)).alloc (.cells #[.int .u8 8, .int .u8 5, .int .u8 8, .int .u8 7] 5)) = W at *
  have hsat := sat0 (B := W.heap.size) h1 h2 (box_lt h1) (box_lt h2)
  have HD := Lib.hid (decode_ok _ _ 0 _ 4 4 (fun B v w' => T9.MAt (Ow B w') 2 x0 [v]) W (fun B v wa wb k hk h hg => T9.MAt.imp (Ow.hi (hi_grown hg hk)) 2 x0 _ h) (fun wx hx _ => whole_eg W.heap.size _ _ _ 4 wx hx.size (SAt.lo hsat hx (Nat.le_refl _)) (hS.on hx) (hTW.on hx) (hT.on hx)))
  clear h1 h2 h3 h4 hS hT hTW hsat
  refine HD.out.mono ?_
  rintro e w1 ⟨⟨A, n, c, rfl, B, -, hm⟩, hb1⟩
  obtain ⟨ad, ad', c', rfl, rfl, r1, r2⟩ := x0_reads hm
  have N1 := below_new w1 (.cells #[.slice (some ad) 1 c] 36)
  have s1 := cell_on N1 r1
  have s2 := cell_on N1 r2
  have hbz := below_then (below_then L5 hb1) N1
  clear HD hm r1 r2 N1
  go_wp2
  go_ret
  exact ⟨rfl, hbz⟩
end Go.Proofs.YtipaangiehdgkaaGreatDoor.T11
/-
  Two rows of numbers, held against each other: the contract of Ints.
-/
namespace Go.Proofs.YtipaangiehdgkaaGreatDoor.T11
set_option maxRecDepth 100000

open Go.RowKit

theorem ints_at {w : World} {A : Option Addr} {c : Nat} {l : List Int} (h : Sl w A l.length c 1 (ints l)) {k : Nat} (hk : k < l.length) : ∃ ad x, A = some ad ∧ l[k]? = some x ∧ w.cell? (ad.add k) = some (.int .i64 x) := by
  obtain ⟨ad, rfl, hb, hcell⟩ := Sl.there h (by omega)
  refine ⟨ad, l[k], rfl, List.getElem?_eq_getElem hk, hcell k _ ?_⟩
  unfold ints
  rw [List.getElem?_map, List.getElem?_eq_getElem hk]
  rfl
theorem itake_ne {l m : List Int} {k : Nat} {x y : Int} (hx : l[k]? = some x) (hy : m[k]? = some y) (hne : x ≠ y) : l ≠ m := by
  rintro rfl
  rw [hx] at hy
  exact hne (by injection hy)
theorem itake_next {l m : List Int} {k : Nat} {x : Int} (hx : l[k]? = some x) (hy : m[k]? = some x) (h : l.take k = m.take k) : l.take (k + 1) = m.take (k + 1) := by
  rw [List.take_add_one, List.take_add_one, h, hx, hy]
set_option maxRecDepth 1000000 in
set_option maxHeartbeats 2000000 in
theorem ints_any (A A' : Option Addr) (c c' : Nat) (l m : List Int) (w : World) (hl : l.length ≤ 1000000000) (hm : m.length ≤ 1000000000) (h1 : Sl w A l.length c 1 (ints l)) (h2 : Sl w A' m.length c' 1 (ints m)) :
    Calls Tryz.prog 9 #[.slice A l.length c, .slice A' m.length c'] w fun e w' => e = .returned (.bool (decide (l = m))) ∧ Below w.heap.size w w' := by
  by_cases hlen : l.length = m.length
  · have hb : ((l.length : Int) != (m.length : Int)) = false := by simp [hlen]
    go_enter Tryz.func9, Tryz.ntmps9
    have HL := Lib.hid hlen
    clear hlen
    go_wp2
    clear hb
    go_loopw [5] (fun i wr => ∃ k d : Nat, i = .int .i64 k ∧ k ≤ l.length ∧ l.take k = m.take k ∧ wr = w.drewN d) (fun i _ => l.length - (intOf i).toNat)
    case atStart => exact ⟨0, 0, rfl, by omega, rfl, rfl⟩
    case round =>
      obtain ⟨k, d, rfl, hk, ht, rfl⟩ := hrel
      have HT := Lib.hid ht
      clear ht
      by_cases hlt : k < l.length
      · obtain ⟨ad, x, rfl, hx0, p0⟩ := ints_at h1 hlt
        obtain ⟨ad', y, rfl, hy0, q0⟩ := ints_at h2 (k := k) (by have := HL.out; omega)
        have HX := Lib.hid hx0
        have HY := Lib.hid hy0
        have hlt' : k < m.length := by have := HL.out; omega
        clear hx0 hy0 h1 h2
        by_cases hxy : x = y
        · subst hxy
          go_wp2
          go_quiet (fail)
          go_wp2
          exact ⟨⟨k + 1, d + nq, by go_num, by omega, itake_next HX.out HY.out HT.out, rfl⟩, by simp [intOf]; omega⟩
        · have HF : Hid (decide (l = m) = false) := Lib.hid (decide_eq_false (itake_ne HX.out HY.out hxy))
          have d1 : (x == y) = false := by rw [beq_eq_false_iff_ne]; exact hxy
          clear HX HY
          go_wp2
          go_quiet (fail)
          go_wp2
          go_ret
          exact ⟨by rw [HF.out]; rfl, (by repeat (first | exact Below.refl _ _ | assumption | refine below_draws ?_ _ | refine Below.drew ?_))⟩
      · obtain rfl : k = l.length := by omega
        have HF : Hid (decide (l = m) = true) := Lib.hid (decide_eq_true (by
          have h := HT.out
          rw [List.take_length, HL.out, List.take_length] at h
          exact h))
        clear h1 h2 HT HL
        go_wp2
        go_ret
        exact ⟨by rw [HF.out]; rfl, (by repeat (first | exact Below.refl _ _ | assumption | refine below_draws ?_ _ | refine Below.drew ?_))⟩
  · have hb : ((l.length : Int) != (m.length : Int)) = true := by rw [bne_iff_ne]; omega
    have HF : Hid (decide (l = m) = false) := Lib.hid (decide_eq_false (by rintro rfl; exact hlen rfl))
    clear hlen
    go_enter Tryz.func9, Tryz.ntmps9
    go_wp2
    go_ret
    exact ⟨by rw [HF.out]; rfl, Below.refl _ _⟩
end Go.Proofs.YtipaangiehdgkaaGreatDoor.T11
/-
  Numbers of two parts are those of both: the walk of DecodeNumbers, given that the law's reference is awake.
-/
namespace Go.Proofs.YtipaangiehdgkaaGreatDoor.T11
set_option maxRecDepth 100000

open Go.ChangeShapes Go.WideShapes Go.ChangeAt Go.RowKit

theorem numsK_law (k : Int) (a b : List UInt8) :
    ((numsK k a).2 ≠ 0 → (numsK k a).1 = [] ∧ ((numsK k a).2 = 6 ∨ (numsK k (a ++ b)).2 = (numsK k a).2)) ∧
    ((numsK k a).2 = 0 → (numsK k b).2 ≠ 0 → (numsK k (a ++ b)).2 = (numsK k b).2 ∧ (numsK k (a ++ b)).1 = []) ∧
    ((numsK k a).2 = 0 → (numsK k b).2 = 0 → numsK k (a ++ b) = ((numsK k a).1 ++ (numsK k b).1, 0)) := by
  refine ⟨fun h => ⟨numsK_empty h, ?_⟩, fun h h2 => ?_, fun h h2 => ?_⟩
  · unfold numsK at *
    split
    · rename_i c
      rw [if_pos c] at h
      exact nums_bad b a.length a (Nat.le_refl _) h
    · exact .inr rfl
  · unfold numsK at *
    split
    · rename_i c
      rw [if_pos c] at h h2
      rw [nums_append b a.length a (Nat.le_refl _) h, if_neg h2]
      exact ⟨rfl, rfl⟩
    · rename_i c
      rw [if_neg c] at h
      exact absurd h (by simp)
  · unfold numsK at *
    split
    · rename_i c
      rw [if_pos c] at h h2
      rw [nums_append b a.length a (Nat.le_refl _) h, if_pos h2]
    · rename_i c
      rw [if_neg c] at h
      exact absurd h (by simp)
theorem numsK_len (k : Int) (a : List UInt8) : (numsK k a).1.length ≤ a.length := by
  unfold numsK
  split
  · exact nums_len a.length a (Nat.le_refl _)
  · simp
theorem ints_one (l : List Int) : ∀ u ∈ ints l, u.oneCell' = true := by
  intro u hu
  unfold ints at hu
  obtain ⟨x, _, rfl⟩ := List.mem_map.1 hu
  rfl
theorem ints_append (l m : List Int) : ints (l ++ m) = ints l ++ ints m := by simp [ints]
/-- All numbers of a slice. -/
theorem tellAll_any (kind : Int) (A : Option Addr) (c : Nat) (l : List UInt8) (hl : l.length ≤ 1000000000) (w : World) (h1 : SlB w A c l) :
    Calls Tryz.prog 8 #[.int .i64 kind, .slice A l.length c, .int .i64 0, .int .i64 l.length] w fun e w' =>
      ∃ A' c', e = .returned (.tuple #[.slice A' (numsK kind l).1.length c', .int .i64 ((numsK kind l).2 : Nat)]) ∧ Sl w' A' (numsK kind l).1.length c' 1 (ints (numsK kind l).1) ∧ Below w.heap.size w w' := by
  have h := tellNums_any kind A c l 0 l.length (Nat.zero_le _) (Nat.le_refl _) hl w h1
  rw [List.drop_zero, Nat.sub_zero, List.take_length] at h
  refine h.mono ?_
  rintro e w' ⟨v, rfl, hown, hb⟩
  obtain ⟨A', c', rfl, hs⟩ := Sl.of_own hown
  exact ⟨A', c', rfl, hs, hb⟩
set_option maxRecDepth 1000000 in
set_option maxHeartbeats 8000000 in
theorem walkN (w : World) (kind : Int) (A : Option Addr) (c : Nat) (l : List UInt8) (hr : SlB w A c l) (A' : Option Addr) (c' : Nat) (m : List UInt8) (hr' : SlB w A' c' m)
    (HW : Calls Tryz.prog 7 #[] w fun e w' => e = .returned (.bool true) ∧ Below w.heap.size w w') :
    Calls Tryz.prog 3 #[.int .i64 kind, .slice A l.length c, .slice A' m.length c'] w fun e w' => e = .returned (.bool true) ∧ Below w.heap.size w w' := by
  obtain ⟨i0, hi, hz0, hz1, hz2⟩ := info_parts info_u8
  obtain ⟨j0, hj, hy0, hy1, hy2⟩ := info_parts info_int64
  by_cases hbig : l.length ≤ 500
  · by_cases hbig' : m.length ≤ 500
    · obtain ⟨M1, M2, M3⟩ := numsK_law kind l m
      have L1 := numsK_len kind l
      have L2 := numsK_len kind m
      have L3 := numsK_len kind (l ++ m)
      have N1 := Lib.hid (fun (wx : World) (hx : Below w.heap.size w wx) => tellAll_any kind A c l (by omega) wx (hr.on hx))
      have N2 := Lib.hid (fun (wx : World) (hx : Below w.heap.size w wx) => tellAll_any kind A' c' m (by omega) wx (hr'.on hx))
      have N3 := Lib.hid (fun (Ax : Option Addr) (cx : Nat) (wx : World) => tellAll_any kind Ax cx (l ++ m) (by rw [List.length_append]; omega) wx)
      obtain ⟨R1, hR1⟩ : ∃ R, numsK kind l = R := ⟨_, rfl⟩
      obtain ⟨R2, hR2⟩ : ∃ R, numsK kind m = R := ⟨_, rfl⟩
      obtain ⟨R3, hR3⟩ : ∃ R, numsK kind (l ++ m) = R := ⟨_, rfl⟩
      rw [List.length_append] at L3
      rw [hR1, hR3] at M1
      rw [hR1, hR2, hR3] at M2 M3
      rw [hR1] at L1 N1
      rw [hR2] at L2 N2
      rw [hR3] at L3 N3
      clear hR1 hR2 hR3
      obtain ⟨X, e1⟩ := R1
      obtain ⟨Y, e2⟩ := R2
      obtain ⟨Z, e3⟩ := R3
      simp only at M1 M2 M3 L1 L2 L3 N1 N2 N3
      have HM1 := Lib.hid M1
      have HM2 := Lib.hid M2
      have HM3 := Lib.hid M3
      have HR := Lib.hid hr
      have HR' := Lib.hid hr'
      have E1 : Hid (0 + l.length + m.length = (l ++ m).length) := Lib.hid (by rw [List.length_append]; omega)
      have E2 : Hid ([] ++ bs l ++ bs m = bs (l ++ m)) := Lib.hid (by simp [bs])
      have E3 : Hid (((l ++ m).length : Int) = (l.length : Int) + (m.length : Int)) := Lib.hid (by rw [List.length_append]; omega)
      have d1 : decide ((500 : Int) < (l.length : Int)) = false := by simp; omega
      have d2 : decide ((500 : Int) < (m.length : Int)) = false := by simp; omega
      rw [E3.out, List.length_append] at N3
      clear M1 M2 M3 hr hr'
      go_enter Tryz.func3, Tryz.ntmps3
      go_wp2_with fail
      refine HW.mono ?_
      rintro e w1 ⟨rfl, hb1⟩
      go_wp2_with fail
      refine (N1.out _ hb1).mono ?_
      rintro e w2 ⟨A2, c2, rfl, hs2, hb2⟩
      have hb2 := below_then hb1 hb2
      go_wp2_with fail
      refine (N2.out _ hb2).mono ?_
      rintro e w3 ⟨A3, c3, rfl, hs3, hb3⟩
      have hs2 := hs2.on hb3
      have hb3 := below_then hb2 hb3
      have hra := HR.out.on hb3
      have hrb := HR'.out.on hb3
      clear hb1 hb2
      go_wp2_with (first
        | (at_builtin; refine wpList_app_sl rfl _ _ 22 rfl w3.heap.size 5 i0 (.int .u8 0) 1 1 Tryz.underlying22 hi hz0 hz1 hz2 rfl (by omega) (.slice none 0 0) 0 [] rfl (World.ownsRow_nil _ _ _ _) A l.length c (bs l) rfl hra (bs_one l) (by unfold maxLen; omega) (by omega) (Nat.le_refl _) ?_; intro v4 w4 hown4 hg4; have hb4 : Below w3.heap.size w3 w4 := (Below.refl _ _).grown hg4 (Nat.le_refl _) (by intro k hk; cases hk); have hrb4 := hrb.on hb4)
        | (at_builtin; refine wpList_app_sl rfl _ _ 22 rfl w3.heap.size 5 i0 (.int .u8 0) 1 1 Tryz.underlying22 hi hz0 hz1 hz2 rfl (by omega) v4 (0 + l.length) ([] ++ bs l) rfl hown4 A' m.length c' (bs m) rfl hrb4 (bs_one m) (by unfold maxLen; omega) (by omega) hb4.size ?_; intro v5 w5 hown5 hg5; have hb5 : Below w3.heap.size w3 w5 := hb4.grown hg5 hb4.size (own_ge hown4); rw [E1.out, E2.out] at hown5; clear hown4 hrb4 hg4 hg5; obtain ⟨A5, c5, rfl, hs5⟩ := SlB.of_own hown5; clear hown5))
      refine (N3.out A5 c5 w5 hs5).mono ?_
      rintro e w6 ⟨A6, c6, rfl, hs6, hb6⟩
      have hs2 := (hs2.on hb5).on hb6
      have hs3 := (hs3.on hb5).on hb6
      have hb6 := below_then (below_then hb3 hb5) hb6
      clear hb3 hb4 hb5 hra hrb hs5 N1 N2 N3 HR HR' E1 E2 E3
      by_cases h1 : e1 = 0
      · subst h1
        by_cases h2 : e2 = 0
        · subst h2
          have h3 := HM3.out rfl rfl
          simp only [Prod.mk.injEq] at h3
          obtain ⟨rfl, rfl⟩ := h3
          have F1 : Hid (0 + X.length + Y.length = (X ++ Y).length) := Lib.hid (by rw [List.length_append]; omega)
          have F2 : Hid ([] ++ ints X ++ ints Y = ints (X ++ Y)) := Lib.hid (by rw [ints_append]; rfl)
          clear HM1 HM2 HM3
          generalize X ++ Y = Z at *
          go_wp2_with (first
            | (at_builtin; refine wpList_app_sl_g rfl _ _ 24 rfl w6.heap.size 2 j0 _ 1 8 Tryz.underlying24 hj hy0 hy1 hy2 rfl (by omega) (.slice none 0 0) 0 [] rfl (World.ownsRow_nil _ _ _ _) A2 X.length c2 (ints X) rfl hs2 (ints_one X) (by unfold maxLen; omega) (by omega) (Nat.le_refl _) ?_; intro v7 w7 hown7 hg7; have hb7 : Below w6.heap.size w6 w7 := (Below.refl _ _).grown hg7 (Nat.le_refl _) (by intro k hk; cases hk); have hs3b := hs3.on hb7)
            | (at_builtin; refine wpList_app_sl_g rfl _ _ 24 rfl w6.heap.size 2 j0 _ 1 8 Tryz.underlying24 hj hy0 hy1 hy2 rfl (by omega) v7 (0 + X.length) ([] ++ ints X) rfl hown7 A3 Y.length c3 (ints Y) rfl hs3b (ints_one Y) (by unfold maxLen; omega) (by omega) hb7.size ?_; intro v8 w8 hown8 hg8; have hb8 : Below w6.heap.size w6 w8 := hb7.grown hg8 hb7.size (own_ge hown7); rw [F1.out, F2.out] at hown8; clear hown7 hs3b hg7 hg8; obtain ⟨A8, c8, rfl, hs8⟩ := Sl.of_own hown8; clear hown8))
          refine (ints_any A6 A8 c6 c8 Z Z _ (by omega) (by omega) (hs6.on hb8) hs8).mono ?_
          rintro e7 w9 ⟨rfl, hb9⟩
          rw [decide_eq_true rfl]
          go_wp2
          go_ret
          exact ⟨rfl, below_then (below_then hb6 hb8) hb9⟩
        · obtain ⟨rfl, rfl⟩ := HM2.out rfl h2
          have b2 : ((e3 : Int) != 0) = true := by simp; omega
          have b3 : ((e3 : Int) == 0) = false := by simp; omega
          clear HM1 HM2 HM3 h2
          go_wp2
          go_ret
          exact ⟨by simp, hb6⟩
      · obtain ⟨rfl, hh⟩ := HM1.out h1
        have b1 : ((e1 : Int) != 0) = true := by simp; omega
        clear HM1 HM2 HM3
        rcases hh with rfl | rfl
        · clear h1 b1
          go_wp2
          go_ret
          exact ⟨rfl, hb6⟩
        · have b6 : ((e3 : Int) == e3) = true := by simp
          clear h1
          by_cases h6 : e3 = 6
          · subst h6
            go_wp2
            go_ret
            exact ⟨rfl, hb6⟩
          · have b7 : ((e3 : Int) == 6) = false := by simp; omega
            clear h6
            go_wp2
            go_ret
            exact ⟨by simp, hb6⟩
    · have d1 : decide ((500 : Int) < (l.length : Int)) = false := by simp; omega
      have d2 : decide ((500 : Int) < (m.length : Int)) = true := by simp; omega
      go_enter Tryz.func3, Tryz.ntmps3
      go_wp2_with fail
      refine HW.mono ?_
      rintro e w1 ⟨rfl, hb1⟩
      go_wp2
      go_ret
      exact ⟨rfl, hb1⟩
  · have d1 : decide ((500 : Int) < (l.length : Int)) = true := by simp; omega
    go_enter Tryz.func3, Tryz.ntmps3
    go_wp2_with fail
    refine HW.mono ?_
    rintro e w1 ⟨rfl, hb1⟩
    go_wp2
    go_ret
    exact ⟨rfl, hb1⟩
end Go.Proofs.YtipaangiehdgkaaGreatDoor.T11
/-
  Numbers one behind the other: what the whole has is what the parts have; walked.
-/
namespace Go.Proofs.YtipaangiehdgkaaGreatDoor.T11
set_option maxRecDepth 100000

open Go.RowKit

open Go.Proofs.YtipaangiehdgkaaGreatDoor.T9

theorem laid11 {W : World} (h : laidMetH Tryz.prog [("truffle/tag.wires", Rows.laid_truffle_tag_wires), ("truffle/table.plains", Rows.laid_truffle_table_plains), ("truffle/table.stances", Rows.laid_truffle_table_stances)] W) : Tabs W ∧ Wires W :=
  T12.laid12 h
theorem walk (w : World) (T : Tabs w ∧ Wires w) (kind : Int) (_ : -9223372036854775808 ≤ kind) (_ : kind ≤ 9223372036854775807) (A : Option Addr) (c : Nat) (l : List UInt8) (hr : SlB w A c l) (A' : Option Addr) (c' : Nat) (m : List UInt8) (hr' : SlB w A' c' m) :
    Calls Tryz.prog 3 #[.int .i64 kind, .slice A l.length c, .slice A' m.length c'] w fun e w' => e = .returned (.bool true) ∧ Below w.heap.size w w' :=
  walkN w kind A c l hr A' c' m hr' (awake11_any w T.1 T.2)
end Go.Proofs.YtipaangiehdgkaaGreatDoor.T11
