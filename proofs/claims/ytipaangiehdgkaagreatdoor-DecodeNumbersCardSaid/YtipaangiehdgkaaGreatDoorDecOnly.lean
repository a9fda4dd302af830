/-
  A record's number into the only value of a field, where the message has no slot yet.
-/
import Derived.Test.YtipaangiehdgkaaGreatDoorDecSlot2
import Derived.Test.YtipaangiehdgkaaGreatDoorEncEnt
import Derived.Deep.AppendLies
import Derived.Deep.RegionHeldLaw
namespace Go.Proofs.YtipaangiehdgkaaGreatDoor.T11
set_option maxRecDepth 100000

open Go.RowKit

open Go.Proofs.YtipaangiehdgkaaGreatDoor.T9

theorem own_froz {w : World} {b e size n g cap : Nat} {xs : List Value} (h : w.ownsRow b e size (.slice (some ⟨g, 0, none⟩) n cap) n xs) (j : Nat) : w.frozen? ⟨g, j, none⟩ = false := by
  obtain ⟨g', cap', cur, e1, -, h2, -⟩ := h.2.resolve_left (fun h => by cases h.1)
  injection e1 with e11 e12 e13
  injection e11 with e11
  injection e11 with e11
  subst e11
  simp [World.frozen?, h2]
theorem s_on {w wx : World} {a : Nat} {vM vE vB : Value} {f : Df} {no' wire : Int} {num : Nat} {frm upto : Int} (h : (w.cell? ⟨a, 0, none⟩ = some vM ∧ w.cell? ⟨a, 1, none⟩ = some vE ∧ w.cell? ⟨a, 2, none⟩ = some vB) ∧ (w.cell? ⟨a + 1, 0, none⟩ = some (.int .i64 f.no) ∧ w.cell? ⟨a + 1, 1, none⟩ = some (.string (txt f.name)) ∧ w.cell? ⟨a + 1, 2, none⟩ = some (.int .i64 f.kind) ∧ w.cell? ⟨a + 1, 3, none⟩ = some (.int .i64 f.ref) ∧ w.cell? ⟨a + 1, 4, none⟩ = some (.bool f.rep) ∧ w.cell? ⟨a + 1, 5, none⟩ = some (.int .i64 f.key) ∧ w.cell? ⟨a + 1, 6, none⟩ = some (.int .i64 f.one)) ∧ (w.cell? ⟨a + 2, 0, none⟩ = some (.int .i64 no') ∧ w.cell? ⟨a + 2, 1, none⟩ = some (.int .i64 wire) ∧ w.cell? ⟨a + 2, 2, none⟩ = some (.int .u64 num) ∧ w.cell? ⟨a + 2, 3, none⟩ = some (.int .i64 frm) ∧ w.cell? ⟨a + 2, 4, none⟩ = some (.int .i64 upto))) (hb : Below w.heap.size w wx) : (wx.cell? ⟨a, 0, none⟩ = some vM ∧ wx.cell? ⟨a, 1, none⟩ = some vE ∧ wx.cell? ⟨a, 2, none⟩ = some vB) ∧ (wx.cell? ⟨a + 1, 0, none⟩ = some (.int .i64 f.no) ∧ wx.cell? ⟨a + 1, 1, none⟩ = some (.string (txt f.name)) ∧ wx.cell? ⟨a + 1, 2, none⟩ = some (.int .i64 f.kind) ∧ wx.cell? ⟨a + 1, 3, none⟩ = some (.int .i64 f.ref) ∧ wx.cell? ⟨a + 1, 4, none⟩ = some (.bool f.rep) ∧ wx.cell? ⟨a + 1, 5, none⟩ = some (.int .i64 f.key) ∧ wx.cell? ⟨a + 1, 6, none⟩ = some (.int .i64 f.one)) ∧ (wx.cell? ⟨a + 2, 0, none⟩ = some (.int .i64 no') ∧ wx.cell? ⟨a + 2, 1, none⟩ = some (.int .i64 wire) ∧ wx.cell? ⟨a + 2, 2, none⟩ = some (.int .u64 num) ∧ wx.cell? ⟨a + 2, 3, none⟩ = some (.int .i64 frm) ∧ wx.cell? ⟨a + 2, 4, none⟩ = some (.int .i64 upto)) := by
  obtain ⟨⟨a1, a2, a3⟩, ⟨b1, b2, b3, b4, b5, b6, b7⟩, c1, c2, c3, c4, c5⟩ := h
  exact ⟨⟨cell_on hb a1, cell_on hb a2, cell_on hb a3⟩, ⟨cell_on hb b1, cell_on hb b2, cell_on hb b3, cell_on hb b4, cell_on hb b5, cell_on hb b6, cell_on hb b7⟩, cell_on hb c1, cell_on hb c2, cell_on hb c3, cell_on hb c4, cell_on hb c5⟩
theorem heap_setCell_other' {w : World} {g j b : Nat} {x : Value} (h : b < g) : (w.setCell ⟨g, j, none⟩ x).heap[b]? = w.heap[b]? := by
  have hne : g ≠ b := by omega
  simp [World.setCell, Array.getElem?_modify, hne]
theorem s_far {w : World} {g : Nat} {x : Value} {a : Nat} {vM vE vB : Value} {f : Df} {no' wire : Int} {num : Nat} {frm upto : Int} (h : (w.cell? ⟨a, 0, none⟩ = some vM ∧ w.cell? ⟨a, 1, none⟩ = some vE ∧ w.cell? ⟨a, 2, none⟩ = some vB) ∧ (w.cell? ⟨a + 1, 0, none⟩ = some (.int .i64 f.no) ∧ w.cell? ⟨a + 1, 1, none⟩ = some (.string (txt f.name)) ∧ w.cell? ⟨a + 1, 2, none⟩ = some (.int .i64 f.kind) ∧ w.cell? ⟨a + 1, 3, none⟩ = some (.int .i64 f.ref) ∧ w.cell? ⟨a + 1, 4, none⟩ = some (.bool f.rep) ∧ w.cell? ⟨a + 1, 5, none⟩ = some (.int .i64 f.key) ∧ w.cell? ⟨a + 1, 6, none⟩ = some (.int .i64 f.one)) ∧ (w.cell? ⟨a + 2, 0, none⟩ = some (.int .i64 no') ∧ w.cell? ⟨a + 2, 1, none⟩ = some (.int .i64 wire) ∧ w.cell? ⟨a + 2, 2, none⟩ = some (.int .u64 num) ∧ w.cell? ⟨a + 2, 3, none⟩ = some (.int .i64 frm) ∧ w.cell? ⟨a + 2, 4, none⟩ = some (.int .i64 upto))) (hg : a + 3 ≤ g) : ((w.setCell ⟨g, 2, none⟩ x).cell? ⟨a, 0, none⟩ = some vM ∧ (w.setCell ⟨g, 2, none⟩ x).cell? ⟨a, 1, none⟩ = some vE ∧ (w.setCell ⟨g, 2, none⟩ x).cell? ⟨a, 2, none⟩ = some vB) ∧ ((w.setCell ⟨g, 2, none⟩ x).cell? ⟨a + 1, 0, none⟩ = some (.int .i64 f.no) ∧ (w.setCell ⟨g, 2, none⟩ x).cell? ⟨a + 1, 1, none⟩ = some (.string (txt f.name)) ∧ (w.setCell ⟨g, 2, none⟩ x).cell? ⟨a + 1, 2, none⟩ = some (.int .i64 f.kind) ∧ (w.setCell ⟨g, 2, none⟩ x).cell? ⟨a + 1, 3, none⟩ = some (.int .i64 f.ref) ∧ (w.setCell ⟨g, 2, none⟩ x).cell? ⟨a + 1, 4, none⟩ = some (.bool f.rep) ∧ (w.setCell ⟨g, 2, none⟩ x).cell? ⟨a + 1, 5, none⟩ = some (.int .i64 f.key) ∧ (w.setCell ⟨g, 2, none⟩ x).cell? ⟨a + 1, 6, none⟩ = some (.int .i64 f.one)) ∧ ((w.setCell ⟨g, 2, none⟩ x).cell? ⟨a + 2, 0, none⟩ = some (.int .i64 no') ∧ (w.setCell ⟨g, 2, none⟩ x).cell? ⟨a + 2, 1, none⟩ = some (.int .i64 wire) ∧ (w.setCell ⟨g, 2, none⟩ x).cell? ⟨a + 2, 2, none⟩ = some (.int .u64 num) ∧ (w.setCell ⟨g, 2, none⟩ x).cell? ⟨a + 2, 3, none⟩ = some (.int .i64 frm) ∧ (w.setCell ⟨g, 2, none⟩ x).cell? ⟨a + 2, 4, none⟩ = some (.int .i64 upto)) := by
  have k : ∀ b j v, b < g → w.cell? ⟨b, j, none⟩ = some v → (w.setCell ⟨g, 2, none⟩ x).cell? ⟨b, j, none⟩ = some v := fun b j v hb hc => by
    refine (World.cell?_of_block ?_).trans hc
    exact heap_setCell_other' (by omega)
  obtain ⟨⟨a1, a2, a3⟩, ⟨b1, b2, b3, b4, b5, b6, b7⟩, c1, c2, c3, c4, c5⟩ := h
  exact ⟨⟨k _ _ _ (by omega) a1, k _ _ _ (by omega) a2, k _ _ _ (by omega) a3⟩, ⟨k _ _ _ (by omega) b1, k _ _ _ (by omega) b2, k _ _ _ (by omega) b3, k _ _ _ (by omega) b4, k _ _ _ (by omega) b5, k _ _ _ (by omega) b6, k _ _ _ (by omega) b7⟩, k _ _ _ (by omega) c1, k _ _ _ (by omega) c2, k _ _ _ (by omega) c3, k _ _ _ (by omega) c4, k _ _ _ (by omega) c5⟩
theorem s6_far {w : World} {g gv : Nat} {x y : Value} {a : Nat} {vM vE vB : Value} {f : Df} {no' wire : Int} {num : Nat} {frm upto : Int} (h : ((w.cell? ⟨a, 0, none⟩ = some vM ∧ w.cell? ⟨a, 1, none⟩ = some vE ∧ w.cell? ⟨a, 2, none⟩ = some vB) ∧ (w.cell? ⟨a + 1, 0, none⟩ = some (.int .i64 f.no) ∧ w.cell? ⟨a + 1, 1, none⟩ = some (.string (txt f.name)) ∧ w.cell? ⟨a + 1, 2, none⟩ = some (.int .i64 f.kind) ∧ w.cell? ⟨a + 1, 3, none⟩ = some (.int .i64 f.ref) ∧ w.cell? ⟨a + 1, 4, none⟩ = some (.bool f.rep) ∧ w.cell? ⟨a + 1, 5, none⟩ = some (.int .i64 f.key) ∧ w.cell? ⟨a + 1, 6, none⟩ = some (.int .i64 f.one)) ∧ (w.cell? ⟨a + 2, 0, none⟩ = some (.int .i64 no') ∧ w.cell? ⟨a + 2, 1, none⟩ = some (.int .i64 wire) ∧ w.cell? ⟨a + 2, 2, none⟩ = some (.int .u64 num) ∧ w.cell? ⟨a + 2, 3, none⟩ = some (.int .i64 frm) ∧ w.cell? ⟨a + 2, 4, none⟩ = some (.int .i64 upto))) ∧ w.cell? ⟨g, 2, none⟩ = some y) (hg : a + 3 ≤ g) (hne : g ≠ gv) (hg2 : a + 3 ≤ gv) : (((w.setCell ⟨gv, 0, none⟩ x).cell? ⟨a, 0, none⟩ = some vM ∧ (w.setCell ⟨gv, 0, none⟩ x).cell? ⟨a, 1, none⟩ = some vE ∧ (w.setCell ⟨gv, 0, none⟩ x).cell? ⟨a, 2, none⟩ = some vB) ∧ ((w.setCell ⟨gv, 0, none⟩ x).cell? ⟨a + 1, 0, none⟩ = some (.int .i64 f.no) ∧ (w.setCell ⟨gv, 0, none⟩ x).cell? ⟨a + 1, 1, none⟩ = some (.string (txt f.name)) ∧ (w.setCell ⟨gv, 0, none⟩ x).cell? ⟨a + 1, 2, none⟩ = some (.int .i64 f.kind) ∧ (w.setCell ⟨gv, 0, none⟩ x).cell? ⟨a + 1, 3, none⟩ = some (.int .i64 f.ref) ∧ (w.setCell ⟨gv, 0, none⟩ x).cell? ⟨a + 1, 4, none⟩ = some (.bool f.rep) ∧ (w.setCell ⟨gv, 0, none⟩ x).cell? ⟨a + 1, 5, none⟩ = some (.int .i64 f.key) ∧ (w.setCell ⟨gv, 0, none⟩ x).cell? ⟨a + 1, 6, none⟩ = some (.int .i64 f.one)) ∧ ((w.setCell ⟨gv, 0, none⟩ x).cell? ⟨a + 2, 0, none⟩ = some (.int .i64 no') ∧ (w.setCell ⟨gv, 0, none⟩ x).cell? ⟨a + 2, 1, none⟩ = some (.int .i64 wire) ∧ (w.setCell ⟨gv, 0, none⟩ x).cell? ⟨a + 2, 2, none⟩ = some (.int .u64 num) ∧ (w.setCell ⟨gv, 0, none⟩ x).cell? ⟨a + 2, 3, none⟩ = some (.int .i64 frm) ∧ (w.setCell ⟨gv, 0, none⟩ x).cell? ⟨a + 2, 4, none⟩ = some (.int .i64 upto))) ∧ (w.setCell ⟨gv, 0, none⟩ x).cell? ⟨g, 2, none⟩ = some y := by
  have k : ∀ b j v, b ≠ gv → w.cell? ⟨b, j, none⟩ = some v → (w.setCell ⟨gv, 0, none⟩ x).cell? ⟨b, j, none⟩ = some v := fun b j v hb hc => by
    refine (World.cell?_of_block ?_).trans hc
    have hne : gv ≠ b := fun e => hb e.symm
    simp [World.setCell, Array.getElem?_modify, hne]
  obtain ⟨⟨⟨a1, a2, a3⟩, ⟨b1, b2, b3, b4, b5, b6, b7⟩, c1, c2, c3, c4, c5⟩, d1⟩ := h
  exact ⟨⟨⟨k _ _ _ (by omega) a1, k _ _ _ (by omega) a2, k _ _ _ (by omega) a3⟩, ⟨k _ _ _ (by omega) b1, k _ _ _ (by omega) b2, k _ _ _ (by omega) b3, k _ _ _ (by omega) b4, k _ _ _ (by omega) b5, k _ _ _ (by omega) b6, k _ _ _ (by omega) b7⟩, k _ _ _ (by omega) c1, k _ _ _ (by omega) c2, k _ _ _ (by omega) c3, k _ _ _ (by omega) c4, k _ _ _ (by omega) c5⟩, k _ _ _ hne d1⟩
set_option maxRecDepth 1000000 in
set_option maxHeartbeats 8000000 in
theorem only_new (vM vE vB : Value) (gx : Nat) (m : Int) (f : Df) (no' wire : Int) (num : Nat) (frm upto deep : Int) (w : World) (X : w.heap[gx]? = some (.cells #[.slice none 0 0] 36 (0, 0))) (hone : f.one = 0) (hk : cnt f.kind = true) (hw : wire = wireI f.kind) (hn : num < 18446744073709551616) :
    Calls Tryz.prog 160 #[.agg #[vM, vE, vB], .pointer (some ⟨gx, 0, none⟩), .int .i64 m, .agg #[.int .i64 f.no, .string (txt f.name), .int .i64 f.kind, .int .i64 f.ref, .bool f.rep, .int .i64 f.key, .int .i64 f.one], .agg #[.int .i64 no', .int .i64 wire, .int .u64 num, .int .i64 frm, .int .i64 upto], .int .i64 deep] w fun e w' => e = .returned (.tuple #[]) ∧ ∃ gs gv cs cv, w'.heap[gx]? = some (.cells #[.slice (some ⟨gs, 0, none⟩) 1 cs] 36 (0, 0)) ∧
      w'.ownsRow w.heap.size 48 3 (.slice (some ⟨gs, 0, none⟩) 1 cs) 1 [.int .i64 f.no, .slice none 0 0, .slice (some ⟨gv, 0, none⟩) 1 cv] ∧ w'.ownsRow w.heap.size 51 3 (.slice (some ⟨gv, 0, none⟩) 1 cv) 1 [.int .i64 (ofI f.kind (num : Int)), .string ⟨#[]⟩, .slice none 0 0] ∧ gs ≠ gv ∧ w.grownBy w' (some gx) := by
  obtain ⟨j0, hj, hy0, hy1, hy2⟩ := info_parts info_val
  obtain ⟨T1, T2, T3, L3⟩ := three_boxes w (.cells #[vM, vE, vB] 119) (dC f) (.cells #[.int .i64 no', .int .i64 wire, .int .u64 num, .int .i64 frm, .int .i64 upto] 62)
  have X3 := box_on X L3
  have hgx := box_lt X
  obtain ⟨g0, g1, g2, g3, g4, g5, g6⟩ := dc_cells T2
  obtain ⟨W3, hW3⟩ : ∃ W, W = (((w.alloc (.cells #[vM, vE, vB] 119)).alloc (dC f)).alloc (.cells #[.int .i64 no', .int .i64 wire, .int .u64 num, .int .i64 frm, .int .i64 upto] 62)) := ⟨_, rfl⟩
  have hs3 : W3.heap.size = w.heap.size + 3 := by rw [hW3]; simp
  have HSL := slotOf_new ⟨gx, 0, none⟩ f.no W3.heap.size (.slice none 0 0) [] [] W3 (Nat.le_refl _) (by rw [hW3]; exact bx1 X3) (by rw [hW3]; simp [World.frozen?, X3]) (by rw [hs3]; show gx < _; omega) (by simp [Value.ownBlock]) (World.ownsRow_nil _ _ _ _) (by decide) (by simp) (by simp)
  have HSL := Lib.hid HSL
  have HBL := Lib.hid (fun wx => blank_num f.kind (by intro e; rw [e] at hk; exact absurd hk (by decide)) wx)
  rw [← hW3] at T1 T2 T3 L3 X3
  have HTT := Lib.hid (And.intro T1 (And.intro T2 T3))
  have b1 : (f.one != 0) = false := by rw [hone]; rfl
  have HONE := Lib.hid hone
  have HWR := Lib.hid hw
  clear T1 T2 T3 hone hw
  go_enter Tryz.func160, Tryz.ntmps160
  go_wp2_with fail
  rw [← hW3]
  refine HSL.out.mono ?_
  rintro e V0 ⟨g, cap, w2, d, rfl, hV0, hown2, hgr2⟩
  have hgW : W3.heap.size ≤ g := (own_blk hown2 g rfl).1
  have hg2 := (own_blk hown2 g rfl).2
  have Y3 := (hgr2.block gx (by omega) (by simp [Value.ownBlock])).trans X3
  obtain ⟨Z1, G1⟩ := cell1 Y3 (.slice (some ⟨g, 0, none⟩) (0 + 1) cap)
  have hos0 : (w2.setCell ⟨gx, 0, none⟩ (.slice (some ⟨g, 0, none⟩) (0 + 1) cap)).ownsRow W3.heap.size 48 3 (.slice (some ⟨g, 0, none⟩) (0 + 1) cap) (0 + 1) [.int .i64 f.no, .slice none 0 0, .slice none 0 0] := own_hi hown2 (hi_grown G1 (by omega))
  have hgrV : W3.grownBy (w2.setCell ⟨gx, 0, none⟩ (.slice (some ⟨g, 0, none⟩) (0 + 1) cap)) (some gx) := ⟨G1.os.trans hgr2.os, G1.tape.trans hgr2.tape, G1.output.trans hgr2.output, Nat.le_trans hgr2.size G1.size, fun k hk hne => (G1.block k (Nat.lt_of_lt_of_le hk hgr2.size) hne).trans (hgr2.block k hk (by simp [Value.ownBlock]))⟩
  have hgrV0 : W3.grownBy V0 (some gx) := by rw [hV0]; exact ⟨hgrV.os, hgrV.tape, hgrV.output, hgrV.size, hgrV.block⟩
  have HOS : Hid (V0.ownsRow W3.heap.size 48 3 (.slice (some ⟨g, 0, none⟩) 1 cap) 1 [.int .i64 f.no, .slice none 0 0, .slice none 0 0]) := Lib.hid (by rw [hV0]; exact hos0)
  have HXV : Hid (V0.heap[gx]? = some (.cells #[.slice (some ⟨g, 0, none⟩) 1 cap] 36 (0, 0))) := Lib.hid (by rw [hV0]; exact Z1)
  have hVs : g < V0.heap.size := (own_blk HOS.out g rfl).2
  have C2 : Hid (V0.cell? ⟨g, 2, none⟩ = some (.slice none 0 0)) := Lib.hid (HOS.out.cells (g := g) rfl 2 _ rfl)
  have hgW2 : w.heap.size + 3 ≤ g := by omega
  have TB : ∀ wx, Below V0.heap.size V0 wx → ∀ k o, w.heap.size ≤ k → k < W3.heap.size → W3.heap[k]? = some o → wx.heap[k]? = some o := fun wx h k o h1 h2 h3 => (h.block k (Nat.lt_of_lt_of_le h2 hgrV0.size)).trans ((hgrV0.block k h2 (by simp; omega)).trans h3)
  have HSX : Hid (∀ wx, Below V0.heap.size V0 wx → (wx.cell? ⟨w.heap.size, 0, none⟩ = some vM ∧ wx.cell? ⟨w.heap.size, 1, none⟩ = some vE ∧ wx.cell? ⟨w.heap.size, 2, none⟩ = some vB) ∧ (wx.cell? ⟨w.heap.size + 1, 0, none⟩ = some (.int .i64 f.no) ∧ wx.cell? ⟨w.heap.size + 1, 1, none⟩ = some (.string (txt f.name)) ∧ wx.cell? ⟨w.heap.size + 1, 2, none⟩ = some (.int .i64 f.kind) ∧ wx.cell? ⟨w.heap.size + 1, 3, none⟩ = some (.int .i64 f.ref) ∧ wx.cell? ⟨w.heap.size + 1, 4, none⟩ = some (.bool f.rep) ∧ wx.cell? ⟨w.heap.size + 1, 5, none⟩ = some (.int .i64 f.key) ∧ wx.cell? ⟨w.heap.size + 1, 6, none⟩ = some (.int .i64 f.one)) ∧ (wx.cell? ⟨w.heap.size + 2, 0, none⟩ = some (.int .i64 no') ∧ wx.cell? ⟨w.heap.size + 2, 1, none⟩ = some (.int .i64 wire) ∧ wx.cell? ⟨w.heap.size + 2, 2, none⟩ = some (.int .u64 num) ∧ wx.cell? ⟨w.heap.size + 2, 3, none⟩ = some (.int .i64 frm) ∧ wx.cell? ⟨w.heap.size + 2, 4, none⟩ = some (.int .i64 upto))) := Lib.hid fun wx h => ⟨bx3 (TB wx h _ _ (by omega) (by omega) HTT.out.1), dc_cells (TB wx h _ _ (by omega) (by omega) HTT.out.2.1), heap_cells (TB wx h _ _ (by omega) (by omega) HTT.out.2.2)⟩
  have hDV : Below V0.heap.size V0 V0.drew := (Below.refl _ _).drew
  have c20 := C2.out
  have gk := HSX.out V0 (Below.refl _ _)
  clear hV0 hown2 hgr2 Y3 Z1 G1 hos0 hgrV TB
  simp only [List.length_nil, Nat.zero_mul, add_nothing]
  go_wp2_with fail
  refine wp_region_held_drew (S := (fun w' => (w'.cell? ⟨w.heap.size, 0, none⟩ = some vM ∧ w'.cell? ⟨w.heap.size, 1, none⟩ = some vE ∧ w'.cell? ⟨w.heap.size, 2, none⟩ = some vB) ∧ (w'.cell? ⟨w.heap.size + 1, 0, none⟩ = some (.int .i64 f.no) ∧ w'.cell? ⟨w.heap.size + 1, 1, none⟩ = some (.string (txt f.name)) ∧ w'.cell? ⟨w.heap.size + 1, 2, none⟩ = some (.int .i64 f.kind) ∧ w'.cell? ⟨w.heap.size + 1, 3, none⟩ = some (.int .i64 f.ref) ∧ w'.cell? ⟨w.heap.size + 1, 4, none⟩ = some (.bool f.rep) ∧ w'.cell? ⟨w.heap.size + 1, 5, none⟩ = some (.int .i64 f.key) ∧ w'.cell? ⟨w.heap.size + 1, 6, none⟩ = some (.int .i64 f.one)) ∧ (w'.cell? ⟨w.heap.size + 2, 0, none⟩ = some (.int .i64 no') ∧ w'.cell? ⟨w.heap.size + 2, 1, none⟩ = some (.int .i64 wire) ∧ w'.cell? ⟨w.heap.size + 2, 2, none⟩ = some (.int .u64 num) ∧ w'.cell? ⟨w.heap.size + 2, 3, none⟩ = some (.int .i64 frm) ∧ w'.cell? ⟨w.heap.size + 2, 4, none⟩ = some (.int .i64 upto)))) (by kernel_rfl) (HSX.out _ hDV) (fun hHeld => ?_)
  refine wpAnyH_take (i := 0) (oi := { dst := some 31, op := Go.Op.move (Go.Operand.tmp 12), type := 206, pos := "decode.go:158", after := #[], guard := none }) (v := ?_) rfl (by kernel_rfl) (by kernel_rfl) (by kernel_rfl) (fun _ _ _ h => h) (Or.inl ⟨by rfl, ?_⟩) hHeld ?_
  rotate_left
  · intro w hSw
    (try dsimp only at hSw)
    go_simp
    all_goals with_reducible rfl
  (try simp only [Act.put, List.setIfInBounds_toArray, List.set_cons_zero, List.set_cons_succ])
  refine wpAnyH_take (i := 1) (oi := { dst := some 32, op := Go.Op.move (Go.Operand.tmp 12), type := 206, pos := "decode.go:158", after := #[], guard := none }) (v := ?_) rfl (by kernel_rfl) (by kernel_rfl) (by kernel_rfl) (fun _ _ _ h => h) (Or.inl ⟨by rfl, ?_⟩) hHeld ?_
  rotate_left
  · intro w hSw
    (try dsimp only at hSw)
    go_simp
    all_goals with_reducible rfl
  (try simp only [Act.put, List.setIfInBounds_toArray, List.set_cons_zero, List.set_cons_succ])
  refine wpAnyH_take (i := 2) (oi := { dst := some 33, op := Go.Op.nilCheck (Go.Operand.tmp 32), type := 0, pos := "decode.go:158", after := #[{ on := 1, ground := Go.Ground.data }], guard := none }) (v := ?_) rfl (by kernel_rfl) (by kernel_rfl) (by kernel_rfl) (fun _ _ _ h => h) (Or.inl ⟨by rfl, ?_⟩) hHeld ?_
  rotate_left
  · intro w hSw
    (try dsimp only at hSw)
    go_simp
    all_goals with_reducible rfl
  (try simp only [Act.put, List.setIfInBounds_toArray, List.set_cons_zero, List.set_cons_succ])
  refine wpAnyH_take (i := 3) (oi := { dst := some 34, op := Go.Op.fieldAddr 48 (Go.Operand.tmp 33) 2, type := 0, pos := "decode.go:158", after := #[{ on := 2, ground := Go.Ground.data }], guard := none }) (v := ?_) rfl (by kernel_rfl) (by kernel_rfl) (by kernel_rfl) (fun _ _ _ h => h) (Or.inl ⟨by rfl, ?_⟩) hHeld ?_
  rotate_left
  · intro w hSw
    (try dsimp only at hSw)
    go_simp
    all_goals with_reducible rfl
  (try simp only [Act.put, List.setIfInBounds_toArray, List.set_cons_zero, List.set_cons_succ])
  refine wpAnyH_take (i := 5) (oi := { dst := some 36, op := Go.Op.fieldAddr 53 (Go.Operand.tmp 9) 2, type := 0, pos := "decode.go:158", after := #[], guard := none }) (v := ?_) rfl (by kernel_rfl) (by kernel_rfl) (by kernel_rfl) (fun _ _ _ h => h) (Or.inl ⟨by rfl, ?_⟩) hHeld ?_
  rotate_left
  · intro w hSw
    (try dsimp only at hSw)
    go_simp
    all_goals with_reducible rfl
  (try simp only [Act.put, List.setIfInBounds_toArray, List.set_cons_zero, List.set_cons_succ])
  refine wpAnyH_take (i := 6) (oi := { dst := some 37, op := Go.Op.load 3 (Go.Operand.tmp 36), type := 3, pos := "decode.go:158", after := #[{ on := 5, ground := Go.Ground.data }], guard := none }) (v := ?_) rfl (by kernel_rfl) (by kernel_rfl) (by kernel_rfl) (fun _ _ _ h => h) (Or.inl ⟨by rfl, ?_⟩) hHeld ?_
  rotate_left
  · intro w hSw
    (try dsimp only at hSw)
    go_simp
    all_goals with_reducible rfl
  (try simp only [Act.put, List.setIfInBounds_toArray, List.set_cons_zero, List.set_cons_succ])
  refine wpAnyH_ready (rs := [4, 7]) (by kernel_rfl) (by simp) ?_
  refine AllReadyH.cons (o := { dst := some 35, op := Go.Op.load 46 (Go.Operand.tmp 34), type := 46, pos := "decode.go:158", after := #[{ on := 3, ground := Go.Ground.data }], guard := none }) rfl (fun K hK => ?_) (AllReadyH.cons (o := { dst := some 38, op := Go.Op.call { callee := Go.Callee.value (Go.Operand.func 180), args := #[Go.Operand.tmp 37], argTypes := #[3] }, type := 51, pos := "decode.go:158", after := #[{ on := 6, ground := Go.Ground.data }], guard := none }) rfl (fun K hK => ?_) AllReadyH.nil)
  · go_simp
    refine hK.out _ _ (HSX.out _ hDV) (fun hHeld => ?_)
    clear hK K
    (try simp only [Act.put, List.setIfInBounds_toArray, List.set_cons_zero, List.set_cons_succ])
    refine wpAnyH_ready (rs := [7]) (by kernel_rfl) (by simp) ?_
    refine AllReadyH.cons (o := { dst := some 38, op := Go.Op.call { callee := Go.Callee.value (Go.Operand.func 180), args := #[Go.Operand.tmp 37], argTypes := #[3] }, type := 51, pos := "decode.go:158", after := #[{ on := 6, ground := Go.Ground.data }], guard := none }) rfl (fun K hK => ?_) AllReadyH.nil
    go_simp
    (go_at_call 180; refine (HBL.out _).mono ?_; rintro e w7 ⟨rfl, hb7⟩; have hb7d := Lib.hid (hDV.trans (hb7.mono hDV.size)); have c7 := cell_on hb7d.out C2.out; have hb8 := Lib.hid (below_then hb7d.out (below_new w7 (.cells #[.int .i64 0, .string ⟨#[]⟩, .slice none 0 0] 51))); have c7b := cell_on hb8.out C2.out; have hs7 : V0.heap.size ≤ w7.heap.size := hb7d.out.size)
    go_wp2_with fail
    refine hK.out _ _ (HSX.out _ (hb7d.out)) (fun hHeld => ?_)
    clear hK K
    (try simp only [Act.put, List.setIfInBounds_toArray, List.set_cons_zero, List.set_cons_succ])
    refine wpAnyH_ready (rs := [8]) (by kernel_rfl) (by simp) ?_
    refine AllReadyH.cons (o := { dst := some 39, op := Go.Op.buildSlice 46 1 #[(0, Go.Operand.tmp 38)], type := 46, pos := "decode.go:158", after := #[{ on := 7, ground := Go.Ground.data }], guard := none }) rfl (fun K hK => ?_) AllReadyH.nil
    go_simp
    refine hK.out _ _ (HSX.out _ (hb8.out)) (fun hHeld => ?_)
    clear hK K
    (try simp only [Act.put, List.setIfInBounds_toArray, List.set_cons_zero, List.set_cons_succ])
    refine wpAnyH_ready (rs := [9]) (by kernel_rfl) (by simp) ?_
    refine AllReadyH.cons (o := { dst := some 40, op := Go.Op.call { callee := Go.Callee.builtin Go.Builtin.append, args := #[Go.Operand.tmp 35, Go.Operand.tmp 39], argTypes := #[46, 46] }, type := 46, pos := "decode.go:158", after := #[{ on := 4, ground := Go.Ground.data }, { on := 8, ground := Go.Ground.data }, { on := 7, ground := Go.Ground.chain }], guard := none }) rfl (fun K hK => ?_) AllReadyH.nil
    (refine step_append_lies _ rfl _ _ 46 rfl W3.heap.size 51 j0 _ 3 48 Tryz.underlying46 hj hy0 hy1 hy2 rfl (by decide) (.slice none 0 0) 0 [] (by simp [Act.eval, Act.put]) (World.ownsRow_nil _ _ _ _) ⟨w7.heap.size, 0, none⟩ 1 1 [.int .i64 0, .string ⟨#[]⟩, .slice none 0 0] (by simp [Act.eval, Act.put]) rfl (World.news_of_block (heap_alloc_new _ _)) (by simp [Value.oneCell']) (by decide) (by unfold maxLen; omega) (by omega) (by simp; omega) w7.heap.size.succ (by simp) ?_; intro gv cv w8 hown8 hg8 hat8 hlt8; have hb9 := Lib.hid (below_then hb8.out (show Below (w7.alloc (.cells #[.int .i64 0, .string ⟨#[]⟩, .slice none 0 0] 51)).heap.size (w7.alloc (.cells #[.int .i64 0, .string ⟨#[]⟩, .slice none 0 0] 51)) w8 from ⟨hg8.os, hg8.tape, hg8.output, hg8.size, fun k hk => hg8.block k hk (by simp [Value.ownBlock])⟩)); have hos := own_hi HOS.out (hi_below W3.heap.size hb9.out); have c8 := cell_on hb9.out C2.out; have f8 : w8.frozen? ⟨g, 2, none⟩ = false := own_froz hos 2; have HGV := Lib.hid (show gv = w7.heap.size.succ by simpa [Value.ownBlock] using hat8); have hown8 : w8.ownsRow W3.heap.size 51 3 (.slice (some ⟨gv, 0, none⟩) 1 cv) 1 [.int .i64 0, .string ⟨#[]⟩, .slice none 0 0] := hown8; clear hat8)
    refine hK.out _ _ (HSX.out _ (hb9.out)) (fun hHeld => ?_)
    clear hK K
    (try simp only [Act.put, List.setIfInBounds_toArray, List.set_cons_zero, List.set_cons_succ])
    refine wpAnyH_take (i := 10) (oi := { dst := some 41, op := Go.Op.nilCheck (Go.Operand.tmp 31), type := 0, pos := "decode.go:158", after := #[{ on := 0, ground := Go.Ground.data }, { on := 0, ground := Go.Ground.phase }, { on := 1, ground := Go.Ground.phase }, { on := 2, ground := Go.Ground.phase }, { on := 3, ground := Go.Ground.phase }, { on := 4, ground := Go.Ground.phase }, { on := 5, ground := Go.Ground.phase }, { on := 6, ground := Go.Ground.phase }, { on := 7, ground := Go.Ground.phase }, { on := 8, ground := Go.Ground.phase }, { on := 9, ground := Go.Ground.phase }], guard := none }) (v := ?_) rfl (by kernel_rfl) (by kernel_rfl) (by kernel_rfl) (fun _ _ _ h => h) (Or.inl ⟨by rfl, ?_⟩) hHeld ?_
    rotate_left
    · intro w hSw
      (try dsimp only at hSw)
      go_simp
      all_goals with_reducible rfl
    (try simp only [Act.put, List.setIfInBounds_toArray, List.set_cons_zero, List.set_cons_succ])
    refine wpAnyH_take (i := 11) (oi := { dst := some 42, op := Go.Op.fieldAddr 48 (Go.Operand.tmp 41) 2, type := 0, pos := "decode.go:158", after := #[{ on := 10, ground := Go.Ground.data }, { on := 0, ground := Go.Ground.phase }, { on := 1, ground := Go.Ground.phase }, { on := 2, ground := Go.Ground.phase }, { on := 3, ground := Go.Ground.phase }, { on := 4, ground := Go.Ground.phase }, { on := 5, ground := Go.Ground.phase }, { on := 6, ground := Go.Ground.phase }, { on := 7, ground := Go.Ground.phase }, { on := 8, ground := Go.Ground.phase }, { on := 9, ground := Go.Ground.phase }], guard := none }) (v := ?_) rfl (by kernel_rfl) (by kernel_rfl) (by kernel_rfl) (fun _ _ _ h => h) (Or.inl ⟨by rfl, ?_⟩) hHeld ?_
    rotate_left
    · intro w hSw
      (try dsimp only at hSw)
      go_simp
      all_goals with_reducible rfl
    (try simp only [Act.put, List.setIfInBounds_toArray, List.set_cons_zero, List.set_cons_succ])
    refine wpAnyH_ready (rs := [12]) (by kernel_rfl) (by simp) ?_
    refine AllReadyH.cons (o := { dst := none, op := Go.Op.store 46 (Go.Operand.tmp 42) (Go.Operand.tmp 40), type := 0, pos := "decode.go:158", after := #[{ on := 11, ground := Go.Ground.data }, { on := 9, ground := Go.Ground.data }, { on := 9, ground := Go.Ground.chain }, { on := 0, ground := Go.Ground.phase }, { on := 1, ground := Go.Ground.phase }, { on := 2, ground := Go.Ground.phase }, { on := 3, ground := Go.Ground.phase }, { on := 4, ground := Go.Ground.phase }, { on := 5, ground := Go.Ground.phase }, { on := 6, ground := Go.Ground.phase }, { on := 7, ground := Go.Ground.phase }, { on := 8, ground := Go.Ground.phase }, { on := 9, ground := Go.Ground.phase }], guard := none }) rfl (fun K hK => ?_) AllReadyH.nil
    go_simp
    refine hK.out _ _ (s_far (HSX.out _ hb9.out) hgW2) (fun hHeld => ?_)
    clear hK K
    (try simp only [Act.put, List.setIfInBounds_toArray, List.set_cons_zero, List.set_cons_succ])
    refine wpAnyH_done (by kernel_rfl) ?_ _
    obtain ⟨hos2, hgs2⟩ := hos.stored 2 (.slice (some ⟨gv, 0, none⟩) 1 cv)
    have hgv := HGV.out
    have hgv3 : w.heap.size + 3 ≤ gv := by omega
    have hggv : g ≠ gv := by have := hg2; have := hVs; omega
    obtain ⟨W9, hW9⟩ : ∃ W, W = w8.setCell ⟨g, 2, none⟩ (.slice (some ⟨gv, 0, none⟩) 1 cv) := ⟨_, rfl⟩
    rw [← hW9] at hos2 hgs2 ⊢
    have HOV := Lib.hid (show W9.ownsRow W3.heap.size 51 3 (.slice (some ⟨gv, 0, none⟩) 1 cv) 1 [.int .i64 0, .string ⟨#[]⟩, .slice none 0 0] from T9.own_kept hown8 fun k hk hlt => hgs2.block k hlt (fun e => by injection e with e; have hk' : gv = k := (by simpa [Value.ownBlock] using hk); omega))
    have hD9 : Below W9.heap.size W9 W9.drew := (Below.refl _ _).drew
    have c9 : W9.cell? ⟨gv, 0, none⟩ = some (.int .i64 0) := HOV.out.cells (g := gv) rfl 0 _ rfl
    have HTK := Lib.hid (fun wx (h : Below W9.heap.size W9 wx) => take_num vM vE vB ⟨gv, 0, none⟩ f.kind f.ref no' wire num frm upto deep hk HWR.out hn wx (.int .i64 0) (Nat.lt_of_lt_of_le (own_blk HOV.out gv rfl).2 h.size) (cell_on h c9) (by have := own_froz (own_hi HOV.out (hi_below W3.heap.size h)) 0; exact this))
    have c92 : W9.cell? ⟨g, 2, none⟩ = some (.slice (some ⟨gv, 0, none⟩) 1 cv) := hos2.cells (g := g) rfl 2 _ rfl
    have hS9 := s_far (x := .slice (some ⟨gv, 0, none⟩) 1 cv) (HSX.out _ hb9.out) hgW2
    rw [← hW9] at hS9
    have HS6 : Hid (∀ wx, Below W9.heap.size W9 wx → ((wx.cell? ⟨w.heap.size, 0, none⟩ = some vM ∧ wx.cell? ⟨w.heap.size, 1, none⟩ = some vE ∧ wx.cell? ⟨w.heap.size, 2, none⟩ = some vB) ∧ (wx.cell? ⟨w.heap.size + 1, 0, none⟩ = some (.int .i64 f.no) ∧ wx.cell? ⟨w.heap.size + 1, 1, none⟩ = some (.string (txt f.name)) ∧ wx.cell? ⟨w.heap.size + 1, 2, none⟩ = some (.int .i64 f.kind) ∧ wx.cell? ⟨w.heap.size + 1, 3, none⟩ = some (.int .i64 f.ref) ∧ wx.cell? ⟨w.heap.size + 1, 4, none⟩ = some (.bool f.rep) ∧ wx.cell? ⟨w.heap.size + 1, 5, none⟩ = some (.int .i64 f.key) ∧ wx.cell? ⟨w.heap.size + 1, 6, none⟩ = some (.int .i64 f.one)) ∧ (wx.cell? ⟨w.heap.size + 2, 0, none⟩ = some (.int .i64 no') ∧ wx.cell? ⟨w.heap.size + 2, 1, none⟩ = some (.int .i64 wire) ∧ wx.cell? ⟨w.heap.size + 2, 2, none⟩ = some (.int .u64 num) ∧ wx.cell? ⟨w.heap.size + 2, 3, none⟩ = some (.int .i64 frm) ∧ wx.cell? ⟨w.heap.size + 2, 4, none⟩ = some (.int .i64 upto))) ∧ wx.cell? ⟨g, 2, none⟩ = some (.slice (some ⟨gv, 0, none⟩) 1 cv)) := Lib.hid fun wx h => ⟨s_on hS9 h, cell_on h c92⟩
    have HX9 : Hid (W9.heap[gx]? = some (.cells #[.slice (some ⟨g, 0, none⟩) 1 cap] 36 (0, 0))) := Lib.hid ((hgs2.block gx (by have := hb9.out.size; omega) (by simp; omega)).trans (box_on HXV.out hb9.out))
    have HG9 : Hid (w.grownBy W9 (some gx)) := Lib.hid ⟨hgs2.os.trans (hb9.out.os.trans (hgrV0.os.trans L3.os)), hgs2.tape.trans (hb9.out.tape.trans (hgrV0.tape.trans L3.tape)), hgs2.output.trans (hb9.out.output.trans (hgrV0.output.trans L3.output)), Nat.le_trans L3.size (Nat.le_trans hgrV0.size (Nat.le_trans hb9.out.size hgs2.size)), fun k hk hne => (hgs2.block k (by have := hb9.out.size; have := hgrV0.size; have := L3.size; omega) (by simp; omega)).trans ((hb9.out.block k (by have := hgrV0.size; have := L3.size; omega)).trans ((hgrV0.block k (by have := L3.size; omega) hne).trans (L3.block k hk)))⟩
    clear hW9 hgv hown8 hos c8 f8 c9 c92 hS9 hb9 hb8 hb7d c7 c7b hgs2 hg8
    go_wp2_with fail
    refine wp_region_held_drew (S := (fun w' => ((w'.cell? ⟨w.heap.size, 0, none⟩ = some vM ∧ w'.cell? ⟨w.heap.size, 1, none⟩ = some vE ∧ w'.cell? ⟨w.heap.size, 2, none⟩ = some vB) ∧ (w'.cell? ⟨w.heap.size + 1, 0, none⟩ = some (.int .i64 f.no) ∧ w'.cell? ⟨w.heap.size + 1, 1, none⟩ = some (.string (txt f.name)) ∧ w'.cell? ⟨w.heap.size + 1, 2, none⟩ = some (.int .i64 f.kind) ∧ w'.cell? ⟨w.heap.size + 1, 3, none⟩ = some (.int .i64 f.ref) ∧ w'.cell? ⟨w.heap.size + 1, 4, none⟩ = some (.bool f.rep) ∧ w'.cell? ⟨w.heap.size + 1, 5, none⟩ = some (.int .i64 f.key) ∧ w'.cell? ⟨w.heap.size + 1, 6, none⟩ = some (.int .i64 f.one)) ∧ (w'.cell? ⟨w.heap.size + 2, 0, none⟩ = some (.int .i64 no') ∧ w'.cell? ⟨w.heap.size + 2, 1, none⟩ = some (.int .i64 wire) ∧ w'.cell? ⟨w.heap.size + 2, 2, none⟩ = some (.int .u64 num) ∧ w'.cell? ⟨w.heap.size + 2, 3, none⟩ = some (.int .i64 frm) ∧ w'.cell? ⟨w.heap.size + 2, 4, none⟩ = some (.int .i64 upto))) ∧ w'.cell? ⟨g, 2, none⟩ = some (.slice (some ⟨gv, 0, none⟩) 1 cv))) (by kernel_rfl) (HS6.out _ hD9) (fun hHeld => ?_)
    refine wpAnyH_take (i := 0) (oi := { dst := some 43, op := Go.Op.load 119 (Go.Operand.tmp 6), type := 119, pos := "decode.go:160", after := #[], guard := none }) (v := ?_) rfl (by kernel_rfl) (by kernel_rfl) (by kernel_rfl) (fun _ _ _ h => h) (Or.inl ⟨by rfl, ?_⟩) hHeld ?_
    rotate_left
    · intro w hSw
      (try dsimp only at hSw)
      go_simp
      all_goals with_reducible rfl
    (try simp only [Act.put, List.setIfInBounds_toArray, List.set_cons_zero, List.set_cons_succ])
    refine wpAnyH_take (i := 1) (oi := { dst := some 44, op := Go.Op.move (Go.Operand.tmp 12), type := 206, pos := "decode.go:160", after := #[], guard := none }) (v := ?_) rfl (by kernel_rfl) (by kernel_rfl) (by kernel_rfl) (fun _ _ _ h => h) (Or.inl ⟨by rfl, ?_⟩) hHeld ?_
    rotate_left
    · intro w hSw
      (try dsimp only at hSw)
      go_simp
      all_goals with_reducible rfl
    (try simp only [Act.put, List.setIfInBounds_toArray, List.set_cons_zero, List.set_cons_succ])
    refine wpAnyH_take (i := 2) (oi := { dst := some 45, op := Go.Op.nilCheck (Go.Operand.tmp 44), type := 0, pos := "decode.go:160", after := #[{ on := 1, ground := Go.Ground.data }], guard := none }) (v := ?_) rfl (by kernel_rfl) (by kernel_rfl) (by kernel_rfl) (fun _ _ _ h => h) (Or.inl ⟨by rfl, ?_⟩) hHeld ?_
    rotate_left
    · intro w hSw
      (try dsimp only at hSw)
      go_simp
      all_goals with_reducible rfl
    (try simp only [Act.put, List.setIfInBounds_toArray, List.set_cons_zero, List.set_cons_succ])
    refine wpAnyH_take (i := 3) (oi := { dst := some 46, op := Go.Op.fieldAddr 48 (Go.Operand.tmp 45) 2, type := 0, pos := "decode.go:160", after := #[{ on := 2, ground := Go.Ground.data }], guard := none }) (v := ?_) rfl (by kernel_rfl) (by kernel_rfl) (by kernel_rfl) (fun _ _ _ h => h) (Or.inl ⟨by rfl, ?_⟩) hHeld ?_
    rotate_left
    · intro w hSw
      (try dsimp only at hSw)
      go_simp
      all_goals with_reducible rfl
    (try simp only [Act.put, List.setIfInBounds_toArray, List.set_cons_zero, List.set_cons_succ])
    refine wpAnyH_take (i := 4) (oi := { dst := some 47, op := Go.Op.load 46 (Go.Operand.tmp 46), type := 46, pos := "decode.go:160", after := #[{ on := 3, ground := Go.Ground.data }], guard := none }) (v := ?_) rfl (by kernel_rfl) (by kernel_rfl) (by kernel_rfl) (fun _ _ _ h => h) (Or.inl ⟨by rfl, ?_⟩) hHeld ?_
    rotate_left
    · intro w hSw
      (try dsimp only at hSw)
      go_simp
      all_goals with_reducible rfl
    (try simp only [Act.put, List.setIfInBounds_toArray, List.set_cons_zero, List.set_cons_succ])
    refine wpAnyH_take (i := 5) (oi := { dst := some 48, op := Go.Op.indexAddr 46 (Go.Operand.tmp 47) (Go.Operand.const (Go.Value.int Go.IntKind.i64 0)), type := 0, pos := "decode.go:160", after := #[{ on := 4, ground := Go.Ground.data }], guard := none }) (v := ?_) rfl (by kernel_rfl) (by kernel_rfl) (by kernel_rfl) (fun _ _ _ h => h) (Or.inl ⟨by rfl, ?_⟩) hHeld ?_
    rotate_left
    · intro w hSw
      (try dsimp only at hSw)
      go_simp
      all_goals with_reducible rfl
    (try simp only [Act.put, List.setIfInBounds_toArray, List.set_cons_zero, List.set_cons_succ])
    refine wpAnyH_take (i := 6) (oi := { dst := some 49, op := Go.Op.fieldAddr 53 (Go.Operand.tmp 9) 2, type := 0, pos := "decode.go:160", after := #[], guard := none }) (v := ?_) rfl (by kernel_rfl) (by kernel_rfl) (by kernel_rfl) (fun _ _ _ h => h) (Or.inl ⟨by rfl, ?_⟩) hHeld ?_
    rotate_left
    · intro w hSw
      (try dsimp only at hSw)
      go_simp
      all_goals with_reducible rfl
    (try simp only [Act.put, List.setIfInBounds_toArray, List.set_cons_zero, List.set_cons_succ])
    refine wpAnyH_take (i := 7) (oi := { dst := some 50, op := Go.Op.load 3 (Go.Operand.tmp 49), type := 3, pos := "decode.go:160", after := #[{ on := 6, ground := Go.Ground.data }], guard := none }) (v := ?_) rfl (by kernel_rfl) (by kernel_rfl) (by kernel_rfl) (fun _ _ _ h => h) (Or.inl ⟨by rfl, ?_⟩) hHeld ?_
    rotate_left
    · intro w hSw
      (try dsimp only at hSw)
      go_simp
      all_goals with_reducible rfl
    (try simp only [Act.put, List.setIfInBounds_toArray, List.set_cons_zero, List.set_cons_succ])
    refine wpAnyH_take (i := 8) (oi := { dst := some 51, op := Go.Op.fieldAddr 53 (Go.Operand.tmp 9) 3, type := 0, pos := "decode.go:160", after := #[], guard := none }) (v := ?_) rfl (by kernel_rfl) (by kernel_rfl) (by kernel_rfl) (fun _ _ _ h => h) (Or.inl ⟨by rfl, ?_⟩) hHeld ?_
    rotate_left
    · intro w hSw
      (try dsimp only at hSw)
      go_simp
      all_goals with_reducible rfl
    (try simp only [Act.put, List.setIfInBounds_toArray, List.set_cons_zero, List.set_cons_succ])
    refine wpAnyH_take (i := 9) (oi := { dst := some 52, op := Go.Op.load 3 (Go.Operand.tmp 51), type := 3, pos := "decode.go:160", after := #[{ on := 8, ground := Go.Ground.data }], guard := none }) (v := ?_) rfl (by kernel_rfl) (by kernel_rfl) (by kernel_rfl) (fun _ _ _ h => h) (Or.inl ⟨by rfl, ?_⟩) hHeld ?_
    rotate_left
    · intro w hSw
      (try dsimp only at hSw)
      go_simp
      all_goals with_reducible rfl
    (try simp only [Act.put, List.setIfInBounds_toArray, List.set_cons_zero, List.set_cons_succ])
    refine wpAnyH_take (i := 10) (oi := { dst := some 53, op := Go.Op.load 62 (Go.Operand.tmp 10), type := 62, pos := "decode.go:160", after := #[], guard := none }) (v := ?_) rfl (by kernel_rfl) (by kernel_rfl) (by kernel_rfl) (fun _ _ _ h => h) (Or.inl ⟨by rfl, ?_⟩) hHeld ?_
    rotate_left
    · intro w hSw
      (try dsimp only at hSw)
      go_simp
      all_goals with_reducible rfl
    (try simp only [Act.put, List.setIfInBounds_toArray, List.set_cons_zero, List.set_cons_succ])
    refine wpAnyH_take (i := 11) (oi := { dst := some 54, op := Go.Op.move (Go.Operand.tmp 5), type := 3, pos := "decode.go:160", after := #[], guard := none }) (v := ?_) rfl (by kernel_rfl) (by kernel_rfl) (by kernel_rfl) (fun _ _ _ h => h) (Or.inl ⟨by rfl, ?_⟩) hHeld ?_
    rotate_left
    · intro w hSw
      (try dsimp only at hSw)
      go_simp
      all_goals with_reducible rfl
    (try simp only [Act.put, List.setIfInBounds_toArray, List.set_cons_zero, List.set_cons_succ])
    refine wpAnyH_ready (rs := [12]) (by kernel_rfl) (by simp) ?_
    refine AllReadyH.cons (o := { dst := some 55, op := Go.Op.call { callee := Go.Callee.value (Go.Operand.func 181), args := #[Go.Operand.tmp 43, Go.Operand.tmp 48, Go.Operand.tmp 50, Go.Operand.tmp 52, Go.Operand.tmp 53, Go.Operand.tmp 54], argTypes := #[119, 229, 3, 3, 62, 3] }, type := 0, pos := "decode.go:160", after := #[{ on := 0, ground := Go.Ground.data }, { on := 5, ground := Go.Ground.data }, { on := 7, ground := Go.Ground.data }, { on := 9, ground := Go.Ground.data }, { on := 10, ground := Go.Ground.data }, { on := 11, ground := Go.Ground.data }], guard := none }) rfl (fun K hK => ?_) AllReadyH.nil
    go_simp
    (go_at_call 181; refine (HTK.out W9.drew hD9).mono ?_; rintro e wt2 ⟨rfl, wt, hbt, rfl⟩)
    have hbt9 := hD9.trans (hbt.mono hD9.size)
    go_wp2_with fail
    refine hK.out _ _ (s6_far (HS6.out _ hbt9) hgW2 hggv hgv3) (fun hHeld => ?_)
    clear hK K
    (try simp only [Act.put, List.setIfInBounds_toArray, List.set_cons_zero, List.set_cons_succ])
    refine wpAnyH_done (by kernel_rfl) ?_ _
    go_wp2
    go_end0
    have hgr9 : w.grownBy W9 (some gx) := HG9.out
    obtain ⟨r1, r2⟩ := (own_hi HOV.out (hi_below W3.heap.size hbt9)).stored 0 (.int .i64 (ofI f.kind (num : Int)))
    refine ⟨rfl, g, gv, cap, cv, ?_, own_less (T9.own_kept (own_hi hos2 (hi_below W3.heap.size hbt9)) fun k hk hlt => r2.block k hlt (by intro e; exact hggv (by simpa [Value.ownBlock] using hk.trans e))) L3.size, own_less r1 L3.size, hggv, ?_⟩
    · rw [r2.block gx (Nat.lt_of_lt_of_le (Nat.lt_of_lt_of_le hgx HG9.out.size) hbt9.size) (by simp; omega)]
      exact box_on HX9.out hbt9
    · exact ⟨r2.os.trans (hbt9.os.trans hgr9.os), r2.tape.trans (hbt9.tape.trans hgr9.tape), r2.output.trans (hbt9.output.trans hgr9.output), Nat.le_trans hgr9.size (Nat.le_trans hbt9.size r2.size), fun k hk hne => (r2.block k (by have := hgr9.size; have := hbt9.size; omega) (by simp; omega)).trans ((hbt9.block k (Nat.lt_of_lt_of_le hk hgr9.size)).trans (hgr9.block k hk hne))⟩
  · go_simp
    (go_at_call 180; refine (HBL.out _).mono ?_; rintro e w7 ⟨rfl, hb7⟩; have hb7d := Lib.hid (hDV.trans (hb7.mono hDV.size)); have c7 := cell_on hb7d.out C2.out; have hb8 := Lib.hid (below_then hb7d.out (below_new w7 (.cells #[.int .i64 0, .string ⟨#[]⟩, .slice none 0 0] 51))); have c7b := cell_on hb8.out C2.out; have hs7 : V0.heap.size ≤ w7.heap.size := hb7d.out.size)
    go_wp2_with fail
    refine hK.out _ _ (HSX.out _ (hb7d.out)) (fun hHeld => ?_)
    clear hK K
    (try simp only [Act.put, List.setIfInBounds_toArray, List.set_cons_zero, List.set_cons_succ])
    refine wpAnyH_ready (rs := [4, 8]) (by kernel_rfl) (by simp) ?_
    refine AllReadyH.cons (o := { dst := some 35, op := Go.Op.load 46 (Go.Operand.tmp 34), type := 46, pos := "decode.go:158", after := #[{ on := 3, ground := Go.Ground.data }], guard := none }) rfl (fun K hK => ?_) (AllReadyH.cons (o := { dst := some 39, op := Go.Op.buildSlice 46 1 #[(0, Go.Operand.tmp 38)], type := 46, pos := "decode.go:158", after := #[{ on := 7, ground := Go.Ground.data }], guard := none }) rfl (fun K hK => ?_) AllReadyH.nil)
    · go_simp
      refine hK.out _ _ (HSX.out _ (hb7d.out)) (fun hHeld => ?_)
      clear hK K
      (try simp only [Act.put, List.setIfInBounds_toArray, List.set_cons_zero, List.set_cons_succ])
      refine wpAnyH_ready (rs := [8]) (by kernel_rfl) (by simp) ?_
      refine AllReadyH.cons (o := { dst := some 39, op := Go.Op.buildSlice 46 1 #[(0, Go.Operand.tmp 38)], type := 46, pos := "decode.go:158", after := #[{ on := 7, ground := Go.Ground.data }], guard := none }) rfl (fun K hK => ?_) AllReadyH.nil
      go_simp
      refine hK.out _ _ (HSX.out _ (hb8.out)) (fun hHeld => ?_)
      clear hK K
      (try simp only [Act.put, List.setIfInBounds_toArray, List.set_cons_zero, List.set_cons_succ])
      refine wpAnyH_ready (rs := [9]) (by kernel_rfl) (by simp) ?_
      refine AllReadyH.cons (o := { dst := some 40, op := Go.Op.call { callee := Go.Callee.builtin Go.Builtin.append, args := #[Go.Operand.tmp 35, Go.Operand.tmp 39], argTypes := #[46, 46] }, type := 46, pos := "decode.go:158", after := #[{ on := 4, ground := Go.Ground.data }, { on := 8, ground := Go.Ground.data }, { on := 7, ground := Go.Ground.chain }], guard := none }) rfl (fun K hK => ?_) AllReadyH.nil
      (refine step_append_lies _ rfl _ _ 46 rfl W3.heap.size 51 j0 _ 3 48 Tryz.underlying46 hj hy0 hy1 hy2 rfl (by decide) (.slice none 0 0) 0 [] (by simp [Act.eval, Act.put]) (World.ownsRow_nil _ _ _ _) ⟨w7.heap.size, 0, none⟩ 1 1 [.int .i64 0, .string ⟨#[]⟩, .slice none 0 0] (by simp [Act.eval, Act.put]) rfl (World.news_of_block (heap_alloc_new _ _)) (by simp [Value.oneCell']) (by decide) (by unfold maxLen; omega) (by omega) (by simp; omega) w7.heap.size.succ (by simp) ?_; intro gv cv w8 hown8 hg8 hat8 hlt8; have hb9 := Lib.hid (below_then hb8.out (show Below (w7.alloc (.cells #[.int .i64 0, .string ⟨#[]⟩, .slice none 0 0] 51)).heap.size (w7.alloc (.cells #[.int .i64 0, .string ⟨#[]⟩, .slice none 0 0] 51)) w8 from ⟨hg8.os, hg8.tape, hg8.output, hg8.size, fun k hk => hg8.block k hk (by simp [Value.ownBlock])⟩)); have hos := own_hi HOS.out (hi_below W3.heap.size hb9.out); have c8 := cell_on hb9.out C2.out; have f8 : w8.frozen? ⟨g, 2, none⟩ = false := own_froz hos 2; have HGV := Lib.hid (show gv = w7.heap.size.succ by simpa [Value.ownBlock] using hat8); have hown8 : w8.ownsRow W3.heap.size 51 3 (.slice (some ⟨gv, 0, none⟩) 1 cv) 1 [.int .i64 0, .string ⟨#[]⟩, .slice none 0 0] := hown8; clear hat8)
      refine hK.out _ _ (HSX.out _ (hb9.out)) (fun hHeld => ?_)
      clear hK K
      (try simp only [Act.put, List.setIfInBounds_toArray, List.set_cons_zero, List.set_cons_succ])
      refine wpAnyH_take (i := 10) (oi := { dst := some 41, op := Go.Op.nilCheck (Go.Operand.tmp 31), type := 0, pos := "decode.go:158", after := #[{ on := 0, ground := Go.Ground.data }, { on := 0, ground := Go.Ground.phase }, { on := 1, ground := Go.Ground.phase }, { on := 2, ground := Go.Ground.phase }, { on := 3, ground := Go.Ground.phase }, { on := 4, ground := Go.Ground.phase }, { on := 5, ground := Go.Ground.phase }, { on := 6, ground := Go.Ground.phase }, { on := 7, ground := Go.Ground.phase }, { on := 8, ground := Go.Ground.phase }, { on := 9, ground := Go.Ground.phase }], guard := none }) (v := ?_) rfl (by kernel_rfl) (by kernel_rfl) (by kernel_rfl) (fun _ _ _ h => h) (Or.inl ⟨by rfl, ?_⟩) hHeld ?_
      rotate_left
      · intro w hSw
        (try dsimp only at hSw)
        go_simp
        all_goals with_reducible rfl
      (try simp only [Act.put, List.setIfInBounds_toArray, List.set_cons_zero, List.set_cons_succ])
      refine wpAnyH_take (i := 11) (oi := { dst := some 42, op := Go.Op.fieldAddr 48 (Go.Operand.tmp 41) 2, type := 0, pos := "decode.go:158", after := #[{ on := 10, ground := Go.Ground.data }, { on := 0, ground := Go.Ground.phase }, { on := 1, ground := Go.Ground.phase }, { on := 2, ground := Go.Ground.phase }, { on := 3, ground := Go.Ground.phase }, { on := 4, ground := Go.Ground.phase }, { on := 5, ground := Go.Ground.phase }, { on := 6, ground := Go.Ground.phase }, { on := 7, ground := Go.Ground.phase }, { on := 8, ground := Go.Ground.phase }, { on := 9, ground := Go.Ground.phase }], guard := none }) (v := ?_) rfl (by kernel_rfl) (by kernel_rfl) (by kernel_rfl) (fun _ _ _ h => h) (Or.inl ⟨by rfl, ?_⟩) hHeld ?_
      rotate_left
      · intro w hSw
        (try dsimp only at hSw)
        go_simp
        all_goals with_reducible rfl
      (try simp only [Act.put, List.setIfInBounds_toArray, List.set_cons_zero, List.set_cons_succ])
      refine wpAnyH_ready (rs := [12]) (by kernel_rfl) (by simp) ?_
      refine AllReadyH.cons (o := { dst := none, op := Go.Op.store 46 (Go.Operand.tmp 42) (Go.Operand.tmp 40), type := 0, pos := "decode.go:158", after := #[{ on := 11, ground := Go.Ground.data }, { on := 9, ground := Go.Ground.data }, { on := 9, ground := Go.Ground.chain }, { on := 0, ground := Go.Ground.phase }, { on := 1, ground := Go.Ground.phase }, { on := 2, ground := Go.Ground.phase }, { on := 3, ground := Go.Ground.phase }, { on := 4, ground := Go.Ground.phase }, { on := 5, ground := Go.Ground.phase }, { on := 6, ground := Go.Ground.phase }, { on := 7, ground := Go.Ground.phase }, { on := 8, ground := Go.Ground.phase }, { on := 9, ground := Go.Ground.phase }], guard := none }) rfl (fun K hK => ?_) AllReadyH.nil
      go_simp
      refine hK.out _ _ (s_far (HSX.out _ hb9.out) hgW2) (fun hHeld => ?_)
      clear hK K
      (try simp only [Act.put, List.setIfInBounds_toArray, List.set_cons_zero, List.set_cons_succ])
      refine wpAnyH_done (by kernel_rfl) ?_ _
      obtain ⟨hos2, hgs2⟩ := hos.stored 2 (.slice (some ⟨gv, 0, none⟩) 1 cv)
      have hgv := HGV.out
      have hgv3 : w.heap.size + 3 ≤ gv := by omega
      have hggv : g ≠ gv := by have := hg2; have := hVs; omega
      obtain ⟨W9, hW9⟩ : ∃ W, W = w8.setCell ⟨g, 2, none⟩ (.slice (some ⟨gv, 0, none⟩) 1 cv) := ⟨_, rfl⟩
      rw [← hW9] at hos2 hgs2 ⊢
      have HOV := Lib.hid (show W9.ownsRow W3.heap.size 51 3 (.slice (some ⟨gv, 0, none⟩) 1 cv) 1 [.int .i64 0, .string ⟨#[]⟩, .slice none 0 0] from T9.own_kept hown8 fun k hk hlt => hgs2.block k hlt (fun e => by injection e with e; have hk' : gv = k := (by simpa [Value.ownBlock] using hk); omega))
      have hD9 : Below W9.heap.size W9 W9.drew := (Below.refl _ _).drew
      have c9 : W9.cell? ⟨gv, 0, none⟩ = some (.int .i64 0) := HOV.out.cells (g := gv) rfl 0 _ rfl
      have HTK := Lib.hid (fun wx (h : Below W9.heap.size W9 wx) => take_num vM vE vB ⟨gv, 0, none⟩ f.kind f.ref no' wire num frm upto deep hk HWR.out hn wx (.int .i64 0) (Nat.lt_of_lt_of_le (own_blk HOV.out gv rfl).2 h.size) (cell_on h c9) (by have := own_froz (own_hi HOV.out (hi_below W3.heap.size h)) 0; exact this))
      have c92 : W9.cell? ⟨g, 2, none⟩ = some (.slice (some ⟨gv, 0, none⟩) 1 cv) := hos2.cells (g := g) rfl 2 _ rfl
      have hS9 := s_far (x := .slice (some ⟨gv, 0, none⟩) 1 cv) (HSX.out _ hb9.out) hgW2
      rw [← hW9] at hS9
      have HS6 : Hid (∀ wx, Below W9.heap.size W9 wx → ((wx.cell? ⟨w.heap.size, 0, none⟩ = some vM ∧ wx.cell? ⟨w.heap.size, 1, none⟩ = some vE ∧ wx.cell? ⟨w.heap.size, 2, none⟩ = some vB) ∧ (wx.cell? ⟨w.heap.size + 1, 0, none⟩ = some (.int .i64 f.no) ∧ wx.cell? ⟨w.heap.size + 1, 1, none⟩ = some (.string (txt f.name)) ∧ wx.cell? ⟨w.heap.size + 1, 2, none⟩ = some (.int .i64 f.kind) ∧ wx.cell? ⟨w.heap.size + 1, 3, none⟩ = some (.int .i64 f.ref) ∧ wx.cell? ⟨w.heap.size + 1, 4, none⟩ = some (.bool f.rep) ∧ wx.cell? ⟨w.heap.size + 1, 5, none⟩ = some (.int .i64 f.key) ∧ wx.cell? ⟨w.heap.size + 1, 6, none⟩ = some (.int .i64 f.one)) ∧ (wx.cell? ⟨w.heap.size + 2, 0, none⟩ = some (.int .i64 no') ∧ wx.cell? ⟨w.heap.size + 2, 1, none⟩ = some (.int .i64 wire) ∧ wx.cell? ⟨w.heap.size + 2, 2, none⟩ = some (.int .u64 num) ∧ wx.cell? ⟨w.heap.size + 2, 3, none⟩ = some (.int .i64 frm) ∧ wx.cell? ⟨w.heap.size + 2, 4, none⟩ = some (.int .i64 upto))) ∧ wx.cell? ⟨g, 2, none⟩ = some (.slice (some ⟨gv, 0, none⟩) 1 cv)) := Lib.hid fun wx h => ⟨s_on hS9 h, cell_on h c92⟩
      have HX9 : Hid (W9.heap[gx]? = some (.cells #[.slice (some ⟨g, 0, none⟩) 1 cap] 36 (0, 0))) := Lib.hid ((hgs2.block gx (by have := hb9.out.size; omega) (by simp; omega)).trans (box_on HXV.out hb9.out))
      have HG9 : Hid (w.grownBy W9 (some gx)) := Lib.hid ⟨hgs2.os.trans (hb9.out.os.trans (hgrV0.os.trans L3.os)), hgs2.tape.trans (hb9.out.tape.trans (hgrV0.tape.trans L3.tape)), hgs2.output.trans (hb9.out.output.trans (hgrV0.output.trans L3.output)), Nat.le_trans L3.size (Nat.le_trans hgrV0.size (Nat.le_trans hb9.out.size hgs2.size)), fun k hk hne => (hgs2.block k (by have := hb9.out.size; have := hgrV0.size; have := L3.size; omega) (by simp; omega)).trans ((hb9.out.block k (by have := hgrV0.size; have := L3.size; omega)).trans ((hgrV0.block k (by have := L3.size; omega) hne).trans (L3.block k hk)))⟩
      clear hW9 hgv hown8 hos c8 f8 c9 c92 hS9 hb9 hb8 hb7d c7 c7b hgs2 hg8
      go_wp2_with fail
      refine wp_region_held_drew (S := (fun w' => ((w'.cell? ⟨w.heap.size, 0, none⟩ = some vM ∧ w'.cell? ⟨w.heap.size, 1, none⟩ = some vE ∧ w'.cell? ⟨w.heap.size, 2, none⟩ = some vB) ∧ (w'.cell? ⟨w.heap.size + 1, 0, none⟩ = some (.int .i64 f.no) ∧ w'.cell? ⟨w.heap.size + 1, 1, none⟩ = some (.string (txt f.name)) ∧ w'.cell? ⟨w.heap.size + 1, 2, none⟩ = some (.int .i64 f.kind) ∧ w'.cell? ⟨w.heap.size + 1, 3, none⟩ = some (.int .i64 f.ref) ∧ w'.cell? ⟨w.heap.size + 1, 4, none⟩ = some (.bool f.rep) ∧ w'.cell? ⟨w.heap.size + 1, 5, none⟩ = some (.int .i64 f.key) ∧ w'.cell? ⟨w.heap.size + 1, 6, none⟩ = some (.int .i64 f.one)) ∧ (w'.cell? ⟨w.heap.size + 2, 0, none⟩ = some (.int .i64 no') ∧ w'.cell? ⟨w.heap.size + 2, 1, none⟩ = some (.int .i64 wire) ∧ w'.cell? ⟨w.heap.size + 2, 2, none⟩ = some (.int .u64 num) ∧ w'.cell? ⟨w.heap.size + 2, 3, none⟩ = some (.int .i64 frm) ∧ w'.cell? ⟨w.heap.size + 2, 4, none⟩ = some (.int .i64 upto))) ∧ w'.cell? ⟨g, 2, none⟩ = some (.slice (some ⟨gv, 0, none⟩) 1 cv))) (by kernel_rfl) (HS6.out _ hD9) (fun hHeld => ?_)
      refine wpAnyH_take (i := 0) (oi := { dst := some 43, op := Go.Op.load 119 (Go.Operand.tmp 6), type := 119, pos := "decode.go:160", after := #[], guard := none }) (v := ?_) rfl (by kernel_rfl) (by kernel_rfl) (by kernel_rfl) (fun _ _ _ h => h) (Or.inl ⟨by rfl, ?_⟩) hHeld ?_
      rotate_left
      · intro w hSw
        (try dsimp only at hSw)
        go_simp
        all_goals with_reducible rfl
      (try simp only [Act.put, List.setIfInBounds_toArray, List.set_cons_zero, List.set_cons_succ])
      refine wpAnyH_take (i := 1) (oi := { dst := some 44, op := Go.Op.move (Go.Operand.tmp 12), type := 206, pos := "decode.go:160", after := #[], guard := none }) (v := ?_) rfl (by kernel_rfl) (by kernel_rfl) (by kernel_rfl) (fun _ _ _ h => h) (Or.inl ⟨by rfl, ?_⟩) hHeld ?_
      rotate_left
      · intro w hSw
        (try dsimp only at hSw)
        go_simp
        all_goals with_reducible rfl
      (try simp only [Act.put, List.setIfInBounds_toArray, List.set_cons_zero, List.set_cons_succ])
      refine wpAnyH_take (i := 2) (oi := { dst := some 45, op := Go.Op.nilCheck (Go.Operand.tmp 44), type := 0, pos := "decode.go:160", after := #[{ on := 1, ground := Go.Ground.data }], guard := none }) (v := ?_) rfl (by kernel_rfl) (by kernel_rfl) (by kernel_rfl) (fun _ _ _ h => h) (Or.inl ⟨by rfl, ?_⟩) hHeld ?_
      rotate_left
      · intro w hSw
        (try dsimp only at hSw)
        go_simp
        all_goals with_reducible rfl
      (try simp only [Act.put, List.setIfInBounds_toArray, List.set_cons_zero, List.set_cons_succ])
      refine wpAnyH_take (i := 3) (oi := { dst := some 46, op := Go.Op.fieldAddr 48 (Go.Operand.tmp 45) 2, type := 0, pos := "decode.go:160", after := #[{ on := 2, ground := Go.Ground.data }], guard := none }) (v := ?_) rfl (by kernel_rfl) (by kernel_rfl) (by kernel_rfl) (fun _ _ _ h => h) (Or.inl ⟨by rfl, ?_⟩) hHeld ?_
      rotate_left
      · intro w hSw
        (try dsimp only at hSw)
        go_simp
        all_goals with_reducible rfl
      (try simp only [Act.put, List.setIfInBounds_toArray, List.set_cons_zero, List.set_cons_succ])
      refine wpAnyH_take (i := 4) (oi := { dst := some 47, op := Go.Op.load 46 (Go.Operand.tmp 46), type := 46, pos := "decode.go:160", after := #[{ on := 3, ground := Go.Ground.data }], guard := none }) (v := ?_) rfl (by kernel_rfl) (by kernel_rfl) (by kernel_rfl) (fun _ _ _ h => h) (Or.inl ⟨by rfl, ?_⟩) hHeld ?_
      rotate_left
      · intro w hSw
        (try dsimp only at hSw)
        go_simp
        all_goals with_reducible rfl
      (try simp only [Act.put, List.setIfInBounds_toArray, List.set_cons_zero, List.set_cons_succ])
      refine wpAnyH_take (i := 5) (oi := { dst := some 48, op := Go.Op.indexAddr 46 (Go.Operand.tmp 47) (Go.Operand.const (Go.Value.int Go.IntKind.i64 0)), type := 0, pos := "decode.go:160", after := #[{ on := 4, ground := Go.Ground.data }], guard := none }) (v := ?_) rfl (by kernel_rfl) (by kernel_rfl) (by kernel_rfl) (fun _ _ _ h => h) (Or.inl ⟨by rfl, ?_⟩) hHeld ?_
      rotate_left
      · intro w hSw
        (try dsimp only at hSw)
        go_simp
        all_goals with_reducible rfl
      (try simp only [Act.put, List.setIfInBounds_toArray, List.set_cons_zero, List.set_cons_succ])
      refine wpAnyH_take (i := 6) (oi := { dst := some 49, op := Go.Op.fieldAddr 53 (Go.Operand.tmp 9) 2, type := 0, pos := "decode.go:160", after := #[], guard := none }) (v := ?_) rfl (by kernel_rfl) (by kernel_rfl) (by kernel_rfl) (fun _ _ _ h => h) (Or.inl ⟨by rfl, ?_⟩) hHeld ?_
      rotate_left
      · intro w hSw
        (try dsimp only at hSw)
        go_simp
        all_goals with_reducible rfl
      (try simp only [Act.put, List.setIfInBounds_toArray, List.set_cons_zero, List.set_cons_succ])
      refine wpAnyH_take (i := 7) (oi := { dst := some 50, op := Go.Op.load 3 (Go.Operand.tmp 49), type := 3, pos := "decode.go:160", after := #[{ on := 6, ground := Go.Ground.data }], guard := none }) (v := ?_) rfl (by kernel_rfl) (by kernel_rfl) (by kernel_rfl) (fun _ _ _ h => h) (Or.inl ⟨by rfl, ?_⟩) hHeld ?_
      rotate_left
      · intro w hSw
        (try dsimp only at hSw)
        go_simp
        all_goals with_reducible rfl
      (try simp only [Act.put, List.setIfInBounds_toArray, List.set_cons_zero, List.set_cons_succ])
      refine wpAnyH_take (i := 8) (oi := { dst := some 51, op := Go.Op.fieldAddr 53 (Go.Operand.tmp 9) 3, type := 0, pos := "decode.go:160", after := #[], guard := none }) (v := ?_) rfl (by kernel_rfl) (by kernel_rfl) (by kernel_rfl) (fun _ _ _ h => h) (Or.inl ⟨by rfl, ?_⟩) hHeld ?_
      rotate_left
      · intro w hSw
        (try dsimp only at hSw)
        go_simp
        all_goals with_reducible rfl
      (try simp only [Act.put, List.setIfInBounds_toArray, List.set_cons_zero, List.set_cons_succ])
      refine wpAnyH_take (i := 9) (oi := { dst := some 52, op := Go.Op.load 3 (Go.Operand.tmp 51), type := 3, pos := "decode.go:160", after := #[{ on := 8, ground := Go.Ground.data }], guard := none }) (v := ?_) rfl (by kernel_rfl) (by kernel_rfl) (by kernel_rfl) (fun _ _ _ h => h) (Or.inl ⟨by rfl, ?_⟩) hHeld ?_
      rotate_left
      · intro w hSw
        (try dsimp only at hSw)
        go_simp
        all_goals with_reducible rfl
      (try simp only [Act.put, List.setIfInBounds_toArray, List.set_cons_zero, List.set_cons_succ])
      refine wpAnyH_take (i := 10) (oi := { dst := some 53, op := Go.Op.load 62 (Go.Operand.tmp 10), type := 62, pos := "decode.go:160", after := #[], guard := none }) (v := ?_) rfl (by kernel_rfl) (by kernel_rfl) (by kernel_rfl) (fun _ _ _ h => h) (Or.inl ⟨by rfl, ?_⟩) hHeld ?_
      rotate_left
      · intro w hSw
        (try dsimp only at hSw)
        go_simp
        all_goals with_reducible rfl
      (try simp only [Act.put, List.setIfInBounds_toArray, List.set_cons_zero, List.set_cons_succ])
      refine wpAnyH_take (i := 11) (oi := { dst := some 54, op := Go.Op.move (Go.Operand.tmp 5), type := 3, pos := "decode.go:160", after := #[], guard := none }) (v := ?_) rfl (by kernel_rfl) (by kernel_rfl) (by kernel_rfl) (fun _ _ _ h => h) (Or.inl ⟨by rfl, ?_⟩) hHeld ?_
      rotate_left
      · intro w hSw
        (try dsimp only at hSw)
        go_simp
        all_goals with_reducible rfl
      (try simp only [Act.put, List.setIfInBounds_toArray, List.set_cons_zero, List.set_cons_succ])
      refine wpAnyH_ready (rs := [12]) (by kernel_rfl) (by simp) ?_
      refine AllReadyH.cons (o := { dst := some 55, op := Go.Op.call { callee := Go.Callee.value (Go.Operand.func 181), args := #[Go.Operand.tmp 43, Go.Operand.tmp 48, Go.Operand.tmp 50, Go.Operand.tmp 52, Go.Operand.tmp 53, Go.Operand.tmp 54], argTypes := #[119, 229, 3, 3, 62, 3] }, type := 0, pos := "decode.go:160", after := #[{ on := 0, ground := Go.Ground.data }, { on := 5, ground := Go.Ground.data }, { on := 7, ground := Go.Ground.data }, { on := 9, ground := Go.Ground.data }, { on := 10, ground := Go.Ground.data }, { on := 11, ground := Go.Ground.data }], guard := none }) rfl (fun K hK => ?_) AllReadyH.nil
      go_simp
      (go_at_call 181; refine (HTK.out W9.drew hD9).mono ?_; rintro e wt2 ⟨rfl, wt, hbt, rfl⟩)
      have hbt9 := hD9.trans (hbt.mono hD9.size)
      go_wp2_with fail
      refine hK.out _ _ (s6_far (HS6.out _ hbt9) hgW2 hggv hgv3) (fun hHeld => ?_)
      clear hK K
      (try simp only [Act.put, List.setIfInBounds_toArray, List.set_cons_zero, List.set_cons_succ])
      refine wpAnyH_done (by kernel_rfl) ?_ _
      go_wp2
      go_end0
      have hgr9 : w.grownBy W9 (some gx) := HG9.out
      obtain ⟨r1, r2⟩ := (own_hi HOV.out (hi_below W3.heap.size hbt9)).stored 0 (.int .i64 (ofI f.kind (num : Int)))
      refine ⟨rfl, g, gv, cap, cv, ?_, own_less (T9.own_kept (own_hi hos2 (hi_below W3.heap.size hbt9)) fun k hk hlt => r2.block k hlt (by intro e; exact hggv (by simpa [Value.ownBlock] using hk.trans e))) L3.size, own_less r1 L3.size, hggv, ?_⟩
      · rw [r2.block gx (Nat.lt_of_lt_of_le (Nat.lt_of_lt_of_le hgx HG9.out.size) hbt9.size) (by simp; omega)]
        exact box_on HX9.out hbt9
      · exact ⟨r2.os.trans (hbt9.os.trans hgr9.os), r2.tape.trans (hbt9.tape.trans hgr9.tape), r2.output.trans (hbt9.output.trans hgr9.output), Nat.le_trans hgr9.size (Nat.le_trans hbt9.size r2.size), fun k hk hne => (r2.block k (by have := hgr9.size; have := hbt9.size; omega) (by simp; omega)).trans ((hbt9.block k (Nat.lt_of_lt_of_le hk hgr9.size)).trans (hgr9.block k hk hne))⟩
    · go_simp
      refine hK.out _ _ (HSX.out _ (hb8.out)) (fun hHeld => ?_)
      clear hK K
      (try simp only [Act.put, List.setIfInBounds_toArray, List.set_cons_zero, List.set_cons_succ])
      refine wpAnyH_ready (rs := [4]) (by kernel_rfl) (by simp) ?_
      refine AllReadyH.cons (o := { dst := some 35, op := Go.Op.load 46 (Go.Operand.tmp 34), type := 46, pos := "decode.go:158", after := #[{ on := 3, ground := Go.Ground.data }], guard := none }) rfl (fun K hK => ?_) AllReadyH.nil
      go_simp
      refine hK.out _ _ (HSX.out _ (hb8.out)) (fun hHeld => ?_)
      clear hK K
      (try simp only [Act.put, List.setIfInBounds_toArray, List.set_cons_zero, List.set_cons_succ])
      refine wpAnyH_ready (rs := [9]) (by kernel_rfl) (by simp) ?_
      refine AllReadyH.cons (o := { dst := some 40, op := Go.Op.call { callee := Go.Callee.builtin Go.Builtin.append, args := #[Go.Operand.tmp 35, Go.Operand.tmp 39], argTypes := #[46, 46] }, type := 46, pos := "decode.go:158", after := #[{ on := 4, ground := Go.Ground.data }, { on := 8, ground := Go.Ground.data }, { on := 7, ground := Go.Ground.chain }], guard := none }) rfl (fun K hK => ?_) AllReadyH.nil
      (refine step_append_lies _ rfl _ _ 46 rfl W3.heap.size 51 j0 _ 3 48 Tryz.underlying46 hj hy0 hy1 hy2 rfl (by decide) (.slice none 0 0) 0 [] (by simp [Act.eval, Act.put]) (World.ownsRow_nil _ _ _ _) ⟨w7.heap.size, 0, none⟩ 1 1 [.int .i64 0, .string ⟨#[]⟩, .slice none 0 0] (by simp [Act.eval, Act.put]) rfl (World.news_of_block (heap_alloc_new _ _)) (by simp [Value.oneCell']) (by decide) (by unfold maxLen; omega) (by omega) (by simp; omega) w7.heap.size.succ (by simp) ?_; intro gv cv w8 hown8 hg8 hat8 hlt8; have hb9 := Lib.hid (below_then hb8.out (show Below (w7.alloc (.cells #[.int .i64 0, .string ⟨#[]⟩, .slice none 0 0] 51)).heap.size (w7.alloc (.cells #[.int .i64 0, .string ⟨#[]⟩, .slice none 0 0] 51)) w8 from ⟨hg8.os, hg8.tape, hg8.output, hg8.size, fun k hk => hg8.block k hk (by simp [Value.ownBlock])⟩)); have hos := own_hi HOS.out (hi_below W3.heap.size hb9.out); have c8 := cell_on hb9.out C2.out; have f8 : w8.frozen? ⟨g, 2, none⟩ = false := own_froz hos 2; have HGV := Lib.hid (show gv = w7.heap.size.succ by simpa [Value.ownBlock] using hat8); have hown8 : w8.ownsRow W3.heap.size 51 3 (.slice (some ⟨gv, 0, none⟩) 1 cv) 1 [.int .i64 0, .string ⟨#[]⟩, .slice none 0 0] := hown8; clear hat8)
      refine hK.out _ _ (HSX.out _ (hb9.out)) (fun hHeld => ?_)
      clear hK K
      (try simp only [Act.put, List.setIfInBounds_toArray, List.set_cons_zero, List.set_cons_succ])
      refine wpAnyH_take (i := 10) (oi := { dst := some 41, op := Go.Op.nilCheck (Go.Operand.tmp 31), type := 0, pos := "decode.go:158", after := #[{ on := 0, ground := Go.Ground.data }, { on := 0, ground := Go.Ground.phase }, { on := 1, ground := Go.Ground.phase }, { on := 2, ground := Go.Ground.phase }, { on := 3, ground := Go.Ground.phase }, { on := 4, ground := Go.Ground.phase }, { on := 5, ground := Go.Ground.phase }, { on := 6, ground := Go.Ground.phase }, { on := 7, ground := Go.Ground.phase }, { on := 8, ground := Go.Ground.phase }, { on := 9, ground := Go.Ground.phase }], guard := none }) (v := ?_) rfl (by kernel_rfl) (by kernel_rfl) (by kernel_rfl) (fun _ _ _ h => h) (Or.inl ⟨by rfl, ?_⟩) hHeld ?_
      rotate_left
      · intro w hSw
        (try dsimp only at hSw)
        go_simp
        all_goals with_reducible rfl
      (try simp only [Act.put, List.setIfInBounds_toArray, List.set_cons_zero, List.set_cons_succ])
      refine wpAnyH_take (i := 11) (oi := { dst := some 42, op := Go.Op.fieldAddr 48 (Go.Operand.tmp 41) 2, type := 0, pos := "decode.go:158", after := #[{ on := 10, ground := Go.Ground.data }, { on := 0, ground := Go.Ground.phase }, { on := 1, ground := Go.Ground.phase }, { on := 2, ground := Go.Ground.phase }, { on := 3, ground := Go.Ground.phase }, { on := 4, ground := Go.Ground.phase }, { on := 5, ground := Go.Ground.phase }, { on := 6, ground := Go.Ground.phase }, { on := 7, ground := Go.Ground.phase }, { on := 8, ground := Go.Ground.phase }, { on := 9, ground := Go.Ground.phase }], guard := none }) (v := ?_) rfl (by kernel_rfl) (by kernel_rfl) (by kernel_rfl) (fun _ _ _ h => h) (Or.inl ⟨by rfl, ?_⟩) hHeld ?_
      rotate_left
      · intro w hSw
        (try dsimp only at hSw)
        go_simp
        all_goals with_reducible rfl
      (try simp only [Act.put, List.setIfInBounds_toArray, List.set_cons_zero, List.set_cons_succ])
      refine wpAnyH_ready (rs := [12]) (by kernel_rfl) (by simp) ?_
      refine AllReadyH.cons (o := { dst := none, op := Go.Op.store 46 (Go.Operand.tmp 42) (Go.Operand.tmp 40), type := 0, pos := "decode.go:158", after := #[{ on := 11, ground := Go.Ground.data }, { on := 9, ground := Go.Ground.data }, { on := 9, ground := Go.Ground.chain }, { on := 0, ground := Go.Ground.phase }, { on := 1, ground := Go.Ground.phase }, { on := 2, ground := Go.Ground.phase }, { on := 3, ground := Go.Ground.phase }, { on := 4, ground := Go.Ground.phase }, { on := 5, ground := Go.Ground.phase }, { on := 6, ground := Go.Ground.phase }, { on := 7, ground := Go.Ground.phase }, { on := 8, ground := Go.Ground.phase }, { on := 9, ground := Go.Ground.phase }], guard := none }) rfl (fun K hK => ?_) AllReadyH.nil
      go_simp
      refine hK.out _ _ (s_far (HSX.out _ hb9.out) hgW2) (fun hHeld => ?_)
      clear hK K
      (try simp only [Act.put, List.setIfInBounds_toArray, List.set_cons_zero, List.set_cons_succ])
      refine wpAnyH_done (by kernel_rfl) ?_ _
      obtain ⟨hos2, hgs2⟩ := hos.stored 2 (.slice (some ⟨gv, 0, none⟩) 1 cv)
      have hgv := HGV.out
      have hgv3 : w.heap.size + 3 ≤ gv := by omega
      have hggv : g ≠ gv := by have := hg2; have := hVs; omega
      obtain ⟨W9, hW9⟩ : ∃ W, W = w8.setCell ⟨g, 2, none⟩ (.slice (some ⟨gv, 0, none⟩) 1 cv) := ⟨_, rfl⟩
      rw [← hW9] at hos2 hgs2 ⊢
      have HOV := Lib.hid (show W9.ownsRow W3.heap.size 51 3 (.slice (some ⟨gv, 0, none⟩) 1 cv) 1 [.int .i64 0, .string ⟨#[]⟩, .slice none 0 0] from T9.own_kept hown8 fun k hk hlt => hgs2.block k hlt (fun e => by injection e with e; have hk' : gv = k := (by simpa [Value.ownBlock] using hk); omega))
      have hD9 : Below W9.heap.size W9 W9.drew := (Below.refl _ _).drew
      have c9 : W9.cell? ⟨gv, 0, none⟩ = some (.int .i64 0) := HOV.out.cells (g := gv) rfl 0 _ rfl
      have HTK := Lib.hid (fun wx (h : Below W9.heap.size W9 wx) => take_num vM vE vB ⟨gv, 0, none⟩ f.kind f.ref no' wire num frm upto deep hk HWR.out hn wx (.int .i64 0) (Nat.lt_of_lt_of_le (own_blk HOV.out gv rfl).2 h.size) (cell_on h c9) (by have := own_froz (own_hi HOV.out (hi_below W3.heap.size h)) 0; exact this))
      have c92 : W9.cell? ⟨g, 2, none⟩ = some (.slice (some ⟨gv, 0, none⟩) 1 cv) := hos2.cells (g := g) rfl 2 _ rfl
      have hS9 := s_far (x := .slice (some ⟨gv, 0, none⟩) 1 cv) (HSX.out _ hb9.out) hgW2
      rw [← hW9] at hS9
      have HS6 : Hid (∀ wx, Below W9.heap.size W9 wx → ((wx.cell? ⟨w.heap.size, 0, none⟩ = some vM ∧ wx.cell? ⟨w.heap.size, 1, none⟩ = some vE ∧ wx.cell? ⟨w.heap.size, 2, none⟩ = some vB) ∧ (wx.cell? ⟨w.heap.size + 1, 0, none⟩ = some (.int .i64 f.no) ∧ wx.cell? ⟨w.heap.size + 1, 1, none⟩ = some (.string (txt f.name)) ∧ wx.cell? ⟨w.heap.size + 1, 2, none⟩ = some (.int .i64 f.kind) ∧ wx.cell? ⟨w.heap.size + 1, 3, none⟩ = some (.int .i64 f.ref) ∧ wx.cell? ⟨w.heap.size + 1, 4, none⟩ = some (.bool f.rep) ∧ wx.cell? ⟨w.heap.size + 1, 5, none⟩ = some (.int .i64 f.key) ∧ wx.cell? ⟨w.heap.size + 1, 6, none⟩ = some (.int .i64 f.one)) ∧ (wx.cell? ⟨w.heap.size + 2, 0, none⟩ = some (.int .i64 no') ∧ wx.cell? ⟨w.heap.size + 2, 1, none⟩ = some (.int .i64 wire) ∧ wx.cell? ⟨w.heap.size + 2, 2, none⟩ = some (.int .u64 num) ∧ wx.cell? ⟨w.heap.size + 2, 3, none⟩ = some (.int .i64 frm) ∧ wx.cell? ⟨w.heap.size + 2, 4, none⟩ = some (.int .i64 upto))) ∧ wx.cell? ⟨g, 2, none⟩ = some (.slice (some ⟨gv, 0, none⟩) 1 cv)) := Lib.hid fun wx h => ⟨s_on hS9 h, cell_on h c92⟩
      have HX9 : Hid (W9.heap[gx]? = some (.cells #[.slice (some ⟨g, 0, none⟩) 1 cap] 36 (0, 0))) := Lib.hid ((hgs2.block gx (by have := hb9.out.size; omega) (by simp; omega)).trans (box_on HXV.out hb9.out))
      have HG9 : Hid (w.grownBy W9 (some gx)) := Lib.hid ⟨hgs2.os.trans (hb9.out.os.trans (hgrV0.os.trans L3.os)), hgs2.tape.trans (hb9.out.tape.trans (hgrV0.tape.trans L3.tape)), hgs2.output.trans (hb9.out.output.trans (hgrV0.output.trans L3.output)), Nat.le_trans L3.size (Nat.le_trans hgrV0.size (Nat.le_trans hb9.out.size hgs2.size)), fun k hk hne => (hgs2.block k (by have := hb9.out.size; have := hgrV0.size; have := L3.size; omega) (by simp; omega)).trans ((hb9.out.block k (by have := hgrV0.size; have := L3.size; omega)).trans ((hgrV0.block k (by have := L3.size; omega) hne).trans (L3.block k hk)))⟩
      clear hW9 hgv hown8 hos c8 f8 c9 c92 hS9 hb9 hb8 hb7d c7 c7b hgs2 hg8
      go_wp2_with fail
      refine wp_region_held_drew (S := (fun w' => ((w'.cell? ⟨w.heap.size, 0, none⟩ = some vM ∧ w'.cell? ⟨w.heap.size, 1, none⟩ = some vE ∧ w'.cell? ⟨w.heap.size, 2, none⟩ = some vB) ∧ (w'.cell? ⟨w.heap.size + 1, 0, none⟩ = some (.int .i64 f.no) ∧ w'.cell? ⟨w.heap.size + 1, 1, none⟩ = some (.string (txt f.name)) ∧ w'.cell? ⟨w.heap.size + 1, 2, none⟩ = some (.int .i64 f.kind) ∧ w'.cell? ⟨w.heap.size + 1, 3, none⟩ = some (.int .i64 f.ref) ∧ w'.cell? ⟨w.heap.size + 1, 4, none⟩ = some (.bool f.rep) ∧ w'.cell? ⟨w.heap.size + 1, 5, none⟩ = some (.int .i64 f.key) ∧ w'.cell? ⟨w.heap.size + 1, 6, none⟩ = some (.int .i64 f.one)) ∧ (w'.cell? ⟨w.heap.size + 2, 0, none⟩ = some (.int .i64 no') ∧ w'.cell? ⟨w.heap.size + 2, 1, none⟩ = some (.int .i64 wire) ∧ w'.cell? ⟨w.heap.size + 2, 2, none⟩ = some (.int .u64 num) ∧ w'.cell? ⟨w.heap.size + 2, 3, none⟩ = some (.int .i64 frm) ∧ w'.cell? ⟨w.heap.size + 2, 4, none⟩ = some (.int .i64 upto))) ∧ w'.cell? ⟨g, 2, none⟩ = some (.slice (some ⟨gv, 0, none⟩) 1 cv))) (by kernel_rfl) (HS6.out _ hD9) (fun hHeld => ?_)
      refine wpAnyH_take (i := 0) (oi := { dst := some 43, op := Go.Op.load 119 (Go.Operand.tmp 6), type := 119, pos := "decode.go:160", after := #[], guard := none }) (v := ?_) rfl (by kernel_rfl) (by kernel_rfl) (by kernel_rfl) (fun _ _ _ h => h) (Or.inl ⟨by rfl, ?_⟩) hHeld ?_
      rotate_left
      · intro w hSw
        (try dsimp only at hSw)
        go_simp
        all_goals with_reducible rfl
      (try simp only [Act.put, List.setIfInBounds_toArray, List.set_cons_zero, List.set_cons_succ])
      refine wpAnyH_take (i := 1) (oi := { dst := some 44, op := Go.Op.move (Go.Operand.tmp 12), type := 206, pos := "decode.go:160", after := #[], guard := none }) (v := ?_) rfl (by kernel_rfl) (by kernel_rfl) (by kernel_rfl) (fun _ _ _ h => h) (Or.inl ⟨by rfl, ?_⟩) hHeld ?_
      rotate_left
      · intro w hSw
        (try dsimp only at hSw)
        go_simp
        all_goals with_reducible rfl
      (try simp only [Act.put, List.setIfInBounds_toArray, List.set_cons_zero, List.set_cons_succ])
      refine wpAnyH_take (i := 2) (oi := { dst := some 45, op := Go.Op.nilCheck (Go.Operand.tmp 44), type := 0, pos := "decode.go:160", after := #[{ on := 1, ground := Go.Ground.data }], guard := none }) (v := ?_) rfl (by kernel_rfl) (by kernel_rfl) (by kernel_rfl) (fun _ _ _ h => h) (Or.inl ⟨by rfl, ?_⟩) hHeld ?_
      rotate_left
      · intro w hSw
        (try dsimp only at hSw)
        go_simp
        all_goals with_reducible rfl
      (try simp only [Act.put, List.setIfInBounds_toArray, List.set_cons_zero, List.set_cons_succ])
      refine wpAnyH_take (i := 3) (oi := { dst := some 46, op := Go.Op.fieldAddr 48 (Go.Operand.tmp 45) 2, type := 0, pos := "decode.go:160", after := #[{ on := 2, ground := Go.Ground.data }], guard := none }) (v := ?_) rfl (by kernel_rfl) (by kernel_rfl) (by kernel_rfl) (fun _ _ _ h => h) (Or.inl ⟨by rfl, ?_⟩) hHeld ?_
      rotate_left
      · intro w hSw
        (try dsimp only at hSw)
        go_simp
        all_goals with_reducible rfl
      (try simp only [Act.put, List.setIfInBounds_toArray, List.set_cons_zero, List.set_cons_succ])
      refine wpAnyH_take (i := 4) (oi := { dst := some 47, op := Go.Op.load 46 (Go.Operand.tmp 46), type := 46, pos := "decode.go:160", after := #[{ on := 3, ground := Go.Ground.data }], guard := none }) (v := ?_) rfl (by kernel_rfl) (by kernel_rfl) (by kernel_rfl) (fun _ _ _ h => h) (Or.inl ⟨by rfl, ?_⟩) hHeld ?_
      rotate_left
      · intro w hSw
        (try dsimp only at hSw)
        go_simp
        all_goals with_reducible rfl
      (try simp only [Act.put, List.setIfInBounds_toArray, List.set_cons_zero, List.set_cons_succ])
      refine wpAnyH_take (i := 5) (oi := { dst := some 48, op := Go.Op.indexAddr 46 (Go.Operand.tmp 47) (Go.Operand.const (Go.Value.int Go.IntKind.i64 0)), type := 0, pos := "decode.go:160", after := #[{ on := 4, ground := Go.Ground.data }], guard := none }) (v := ?_) rfl (by kernel_rfl) (by kernel_rfl) (by kernel_rfl) (fun _ _ _ h => h) (Or.inl ⟨by rfl, ?_⟩) hHeld ?_
      rotate_left
      · intro w hSw
        (try dsimp only at hSw)
        go_simp
        all_goals with_reducible rfl
      (try simp only [Act.put, List.setIfInBounds_toArray, List.set_cons_zero, List.set_cons_succ])
      refine wpAnyH_take (i := 6) (oi := { dst := some 49, op := Go.Op.fieldAddr 53 (Go.Operand.tmp 9) 2, type := 0, pos := "decode.go:160", after := #[], guard := none }) (v := ?_) rfl (by kernel_rfl) (by kernel_rfl) (by kernel_rfl) (fun _ _ _ h => h) (Or.inl ⟨by rfl, ?_⟩) hHeld ?_
      rotate_left
      · intro w hSw
        (try dsimp only at hSw)
        go_simp
        all_goals with_reducible rfl
      (try simp only [Act.put, List.setIfInBounds_toArray, List.set_cons_zero, List.set_cons_succ])
      refine wpAnyH_take (i := 7) (oi := { dst := some 50, op := Go.Op.load 3 (Go.Operand.tmp 49), type := 3, pos := "decode.go:160", after := #[{ on := 6, ground := Go.Ground.data }], guard := none }) (v := ?_) rfl (by kernel_rfl) (by kernel_rfl) (by kernel_rfl) (fun _ _ _ h => h) (Or.inl ⟨by rfl, ?_⟩) hHeld ?_
      rotate_left
      · intro w hSw
        (try dsimp only at hSw)
        go_simp
        all_goals with_reducible rfl
      (try simp only [Act.put, List.setIfInBounds_toArray, List.set_cons_zero, List.set_cons_succ])
      refine wpAnyH_take (i := 8) (oi := { dst := some 51, op := Go.Op.fieldAddr 53 (Go.Operand.tmp 9) 3, type := 0, pos := "decode.go:160", after := #[], guard := none }) (v := ?_) rfl (by kernel_rfl) (by kernel_rfl) (by kernel_rfl) (fun _ _ _ h => h) (Or.inl ⟨by rfl, ?_⟩) hHeld ?_
      rotate_left
      · intro w hSw
        (try dsimp only at hSw)
        go_simp
        all_goals with_reducible rfl
      (try simp only [Act.put, List.setIfInBounds_toArray, List.set_cons_zero, List.set_cons_succ])
      refine wpAnyH_take (i := 9) (oi := { dst := some 52, op := Go.Op.load 3 (Go.Operand.tmp 51), type := 3, pos := "decode.go:160", after := #[{ on := 8, ground := Go.Ground.data }], guard := none }) (v := ?_) rfl (by kernel_rfl) (by kernel_rfl) (by kernel_rfl) (fun _ _ _ h => h) (Or.inl ⟨by rfl, ?_⟩) hHeld ?_
      rotate_left
      · intro w hSw
        (try dsimp only at hSw)
        go_simp
        all_goals with_reducible rfl
      (try simp only [Act.put, List.setIfInBounds_toArray, List.set_cons_zero, List.set_cons_succ])
      refine wpAnyH_take (i := 10) (oi := { dst := some 53, op := Go.Op.load 62 (Go.Operand.tmp 10), type := 62, pos := "decode.go:160", after := #[], guard := none }) (v := ?_) rfl (by kernel_rfl) (by kernel_rfl) (by kernel_rfl) (fun _ _ _ h => h) (Or.inl ⟨by rfl, ?_⟩) hHeld ?_
      rotate_left
      · intro w hSw
        (try dsimp only at hSw)
        go_simp
        all_goals with_reducible rfl
      (try simp only [Act.put, List.setIfInBounds_toArray, List.set_cons_zero, List.set_cons_succ])
      refine wpAnyH_take (i := 11) (oi := { dst := some 54, op := Go.Op.move (Go.Operand.tmp 5), type := 3, pos := "decode.go:160", after := #[], guard := none }) (v := ?_) rfl (by kernel_rfl) (by kernel_rfl) (by kernel_rfl) (fun _ _ _ h => h) (Or.inl ⟨by rfl, ?_⟩) hHeld ?_
      rotate_left
      · intro w hSw
        (try dsimp only at hSw)
        go_simp
        all_goals with_reducible rfl
      (try simp only [Act.put, List.setIfInBounds_toArray, List.set_cons_zero, List.set_cons_succ])
      refine wpAnyH_ready (rs := [12]) (by kernel_rfl) (by simp) ?_
      refine AllReadyH.cons (o := { dst := some 55, op := Go.Op.call { callee := Go.Callee.value (Go.Operand.func 181), args := #[Go.Operand.tmp 43, Go.Operand.tmp 48, Go.Operand.tmp 50, Go.Operand.tmp 52, Go.Operand.tmp 53, Go.Operand.tmp 54], argTypes := #[119, 229, 3, 3, 62, 3] }, type := 0, pos := "decode.go:160", after := #[{ on := 0, ground := Go.Ground.data }, { on := 5, ground := Go.Ground.data }, { on := 7, ground := Go.Ground.data }, { on := 9, ground := Go.Ground.data }, { on := 10, ground := Go.Ground.data }, { on := 11, ground := Go.Ground.data }], guard := none }) rfl (fun K hK => ?_) AllReadyH.nil
      go_simp
      (go_at_call 181; refine (HTK.out W9.drew hD9).mono ?_; rintro e wt2 ⟨rfl, wt, hbt, rfl⟩)
      have hbt9 := hD9.trans (hbt.mono hD9.size)
      go_wp2_with fail
      refine hK.out _ _ (s6_far (HS6.out _ hbt9) hgW2 hggv hgv3) (fun hHeld => ?_)
      clear hK K
      (try simp only [Act.put, List.setIfInBounds_toArray, List.set_cons_zero, List.set_cons_succ])
      refine wpAnyH_done (by kernel_rfl) ?_ _
      go_wp2
      go_end0
      have hgr9 : w.grownBy W9 (some gx) := HG9.out
      obtain ⟨r1, r2⟩ := (own_hi HOV.out (hi_below W3.heap.size hbt9)).stored 0 (.int .i64 (ofI f.kind (num : Int)))
      refine ⟨rfl, g, gv, cap, cv, ?_, own_less (T9.own_kept (own_hi hos2 (hi_below W3.heap.size hbt9)) fun k hk hlt => r2.block k hlt (by intro e; exact hggv (by simpa [Value.ownBlock] using hk.trans e))) L3.size, own_less r1 L3.size, hggv, ?_⟩
      · rw [r2.block gx (Nat.lt_of_lt_of_le (Nat.lt_of_lt_of_le hgx HG9.out.size) hbt9.size) (by simp; omega)]
        exact box_on HX9.out hbt9
      · exact ⟨r2.os.trans (hbt9.os.trans hgr9.os), r2.tape.trans (hbt9.tape.trans hgr9.tape), r2.output.trans (hbt9.output.trans hgr9.output), Nat.le_trans hgr9.size (Nat.le_trans hbt9.size r2.size), fun k hk hne => (r2.block k (by have := hgr9.size; have := hbt9.size; omega) (by simp; omega)).trans ((hbt9.block k (Nat.lt_of_lt_of_le hk hgr9.size)).trans (hgr9.block k hk hne))⟩
end Go.Proofs.YtipaangiehdgkaaGreatDoor.T11
