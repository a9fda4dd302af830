/-
  The shape of a message of one's own: what stays while numbers in it, and messages in it, are written.
-/
import Derived.Test.YtjmcpfckcajnjaaTrRown
namespace Go.Proofs.Ytjmcpfckcajnjaa.T9
set_option maxRecDepth 100000

open Go.RowKit

/-- Block g is a row of so many cells, of elements of type t. -/
def Blk (w : World) (g : Nat) (t : TypeId) (sz : Nat) : Prop := ∃ cur : Array Value, w.heap[g]? = some (.cells cur t (0, 0)) ∧ cur.size = sz
theorem Blk.lt {w : World} {g sz : Nat} {t : TypeId} (h : Blk w g t sz) : g < w.heap.size := by
  obtain ⟨cur, h, _⟩ := h
  exact box_lt h
theorem Blk.cell {w : World} {g sz : Nat} {t : TypeId} (h : Blk w g t sz) {j : Nat} (hj : j < sz) : ∃ v, w.cell? ⟨g, j, none⟩ = some v := by
  obtain ⟨cur, h, rfl⟩ := h
  exact ⟨cur[j], by rw [box_cell h]; simp [hj]⟩
theorem Blk.free {w : World} {g sz : Nat} {t : TypeId} (h : Blk w g t sz) (j : Nat) : w.frozen? ⟨g, j, none⟩ = false := by
  obtain ⟨cur, h, rfl⟩ := h
  simp [World.frozen?, h]
/-- What is kept, of the blocks from b on, below c. -/
structure Step (b c : Nat) (w w' : World) : Prop where
  blk : ∀ g t sz, Blk w g t sz → Blk w' g t sz
  far : ∀ g t sz j v, Blk w g t sz → t ≠ 24 → j % 3 ≠ 0 → w.cell? ⟨g, j, none⟩ = some v → w'.cell? ⟨g, j, none⟩ = some v
  num : ∀ g t sz j, Blk w g t sz → t ≠ 24 → j % 3 = 0 → (∃ z, w.cell? ⟨g, j, none⟩ = some (.int .i64 z)) → ∃ z, w'.cell? ⟨g, j, none⟩ = some (.int .i64 z)
  low : Below b w w'
  box : c < w.heap.size → w'.heap[c]? = w.heap[c]?
theorem Step.trans {b c : Nat} {w w' w'' : World} (h : Step b c w w') (k : Step b c w' w'') : Step b c w w'' :=
  ⟨fun g t sz hb => k.blk g t sz (h.blk g t sz hb), fun g t sz j v hb ht hj hv => k.far g t sz j v (h.blk g t sz hb) ht hj (h.far g t sz j v hb ht hj hv), fun g t sz j hb ht hj hz => k.num g t sz j (h.blk g t sz hb) ht hj (h.num g t sz j hb ht hj hz), h.low.trans k.low, fun hc => (k.box (Nat.lt_of_lt_of_le hc h.low.size)).trans (h.box hc)⟩
theorem Step.below {b c : Nat} {w w' : World} (hb : Below w.heap.size w w') (hs : b ≤ w.heap.size) : Step b c w w' := by
  refine ⟨fun g t sz ⟨cur, h, hc⟩ => ⟨cur, (hb.block g (box_lt h)).trans h, hc⟩, fun g t sz j v h _ _ hv => ?_, fun g t sz j h _ _ hz => ?_, hb.mono hs, fun hc => hb.block c hc⟩
  · rw [hb.cell (p := ⟨g, j, none⟩) h.lt]; exact hv
  · rw [hb.cell (p := ⟨g, j, none⟩) h.lt]; exact hz
theorem Step.set {b c g j sz : Nat} {w : World} {t : TypeId} {x : Value} (hB : Blk w g t sz) (hb : b ≤ g) (hc : g < c) (hx : t = 24 ∨ (j % 3 = 0 ∧ ∃ z, x = .int .i64 z)) : Step b c w (w.setCell ⟨g, j, none⟩ x) := by
  have hsz : (w.setCell ⟨g, j, none⟩ x).heap.size = w.heap.size := by simp
  have hoth : ∀ k, k ≠ g → (w.setCell ⟨g, j, none⟩ x).heap[k]? = w.heap[k]? := fun k hk => heap_setCell_other _ ⟨g, j, none⟩ k x hk
  have hgr : w.grownBy (w.setCell ⟨g, j, none⟩ x) (some g) := ⟨rfl, rfl, rfl, by simp, fun k _ hk => hoth k fun e => hk (by rw [e])⟩
  obtain ⟨cur, hg, hs⟩ := hB
  have hsame := heap_setCell_same w g j cur t x hg
  refine ⟨fun g' t' sz' ⟨cur', h', hc'⟩ => ?_, fun g' t' sz' j' v ⟨cur', h', hc'⟩ ht hj hv => ?_, fun g' t' sz' j' ⟨cur', h', hc'⟩ ht hj ⟨z, hz⟩ => ?_, below_own hgr hb (Nat.le_trans hb (Nat.le_of_lt (box_lt hg))), fun _ => hoth c (by omega)⟩
  · by_cases e : g' = g
    · subst e
      rw [hg] at h'
      simp only [Option.some.injEq, Obj.cells.injEq] at h'
      obtain ⟨rfl, rfl, -⟩ := h'
      exact ⟨_, hsame, by simpa using hc'⟩
    · exact ⟨cur', (hoth g' e).trans h', hc'⟩
  · by_cases e : g' = g
    · subst e
      rw [hg] at h'
      simp only [Option.some.injEq, Obj.cells.injEq] at h'
      obtain ⟨rfl, rfl, -⟩ := h'
      rcases hx with hx | ⟨hx, -⟩
      · exact absurd hx ht
      · rw [box_cell hg] at hv
        rw [box_cell hsame, Array.getElem?_setIfInBounds_ne (by intro e; subst e; exact hj hx)]
        exact hv
    · rw [World.cell?_of_block (show (w.setCell ⟨g, j, none⟩ x).heap[(⟨g', j', none⟩ : Addr).block]? = w.heap[(⟨g', j', none⟩ : Addr).block]? from hoth g' e)]
      exact hv
  · by_cases e : g' = g
    · subst e
      rw [hg] at h'
      simp only [Option.some.injEq, Obj.cells.injEq] at h'
      obtain ⟨rfl, rfl, -⟩ := h'
      rcases hx with hx | ⟨hx, y, rfl⟩
      · exact absurd hx ht
      · rw [box_cell hg] at hz
        rw [box_cell hsame]
        by_cases e2 : j = j'
        · subst e2
          have hlt := (Array.getElem?_eq_some_iff.1 hz).1
          exact ⟨y, by simp [hlt]⟩
        · exact ⟨z, by rw [Array.getElem?_setIfInBounds_ne e2]; exact hz⟩
    · rw [World.cell?_of_block (show (w.setCell ⟨g, j, none⟩ x).heap[(⟨g', j', none⟩ : Addr).block]? = w.heap[(⟨g', j', none⟩ : Addr).block]? from hoth g' e)]
      exact ⟨z, hz⟩
/-- A slice of one's own, in a block from b on, below c. -/
def RowT (b c : Nat) (w : World) (t : TypeId) (size : Nat) (v : Value) (n : Nat) : Prop := (v = .slice none 0 0 ∧ n = 0) ∨ ∃ g cap, v = .slice (some ⟨g, 0, none⟩) n cap ∧ b ≤ g ∧ g < c ∧ n ≤ cap ∧ cap ≤ maxLen ∧ Blk w g t (cap * size)
theorem RowT.step {b c : Nat} {w w' : World} {t : TypeId} {size : Nat} {v : Value} {n : Nat} (h : RowT b c w t size v n) (k : Step b c w w') : RowT b c w' t size v n := by
  rcases h with h | ⟨g, cap, h1, h2, h3, h4, h5, h6⟩
  · exact .inl h
  · exact .inr ⟨g, cap, h1, h2, h3, h4, h5, k.blk _ _ _ h6⟩
theorem RowT.form {b c : Nat} {w : World} {t : TypeId} {size : Nat} {v : Value} {n : Nat} (h : RowT b c w t size v n) : ∃ A cp, v = .slice A n cp := by
  rcases h with ⟨rfl, rfl⟩ | ⟨g, cap, rfl, _⟩
  · exact ⟨_, _, rfl⟩
  · exact ⟨_, _, rfl⟩
theorem RowT.pos {b c : Nat} {w : World} {t : TypeId} {size : Nat} {v : Value} {n : Nat} (h : RowT b c w t size v n) (hn : 0 < n) : ∃ g cap, v = .slice (some ⟨g, 0, none⟩) n cap ∧ b ≤ g ∧ g < c ∧ n ≤ cap ∧ Blk w g t (cap * size) := by
  rcases h with ⟨rfl, rfl⟩ | ⟨g, cap, rfl, h2, h3, h4, h5, h6⟩
  · omega
  · exact ⟨g, cap, rfl, h2, h3, h4, h6⟩
def ShV (b c : Nat) (w : World) (g k : Nat) : Prop := (∃ z, w.cell? ⟨g, k * 3, none⟩ = some (.int .i64 z)) ∧ ∃ u n, w.cell? ⟨g, k * 3 + 2, none⟩ = some u ∧ RowT b c w 24 1 u n ∧ n ≤ 10000000000000
def ShL (b c : Nat) (w : World) (u : Value) (n : Nat) : Prop := RowT b c w 30 3 u n ∧ n ≤ 10000000000000 ∧ ∀ g cap, u = .slice (some ⟨g, 0, none⟩) n cap → ∀ k, k < n → ShV b c w g k
def ShS (b c : Nat) (w : World) (g k : Nat) : Prop := (∃ z, w.cell? ⟨g, k * 3, none⟩ = some (.int .i64 z)) ∧ ∃ u n, w.cell? ⟨g, k * 3 + 2, none⟩ = some u ∧ ShL b c w u n
def ShF (b c : Nat) (w : World) (u : Value) (n : Nat) : Prop := RowT b c w 27 3 u n ∧ n ≤ 10000000000000 ∧ ∀ g cap, u = .slice (some ⟨g, 0, none⟩) n cap → ∀ k, k < n → ShS b c w g k
theorem val_msg : 30 ≠ 24 := by decide
theorem slot_msg : 27 ≠ 24 := by decide
theorem ShV.step {b c : Nat} {w w' : World} {g k sz : Nat} (h : ShV b c w g k) (hB : Blk w g 30 sz) (s : Step b c w w') : ShV b c w' g k := by
  obtain ⟨h1, u, n, h2, h3, h4⟩ := h
  exact ⟨s.num g _ sz _ hB val_msg (by omega) h1, u, n, s.far g _ sz _ _ hB val_msg (by omega) h2, h3.step s, h4⟩
theorem ShL.step {b c : Nat} {w w' : World} {u : Value} {n : Nat} (h : ShL b c w u n) (s : Step b c w w') : ShL b c w' u n := by
  obtain ⟨h1, h2, h3⟩ := h
  refine ⟨h1.step s, h2, fun g cap hu k hk => ?_⟩
  obtain ⟨g', cap', hu', -, -, -, hB⟩ := h1.pos (by omega)
  obtain ⟨rfl, rfl⟩ : g' = g ∧ cap' = cap := by rw [hu] at hu'; simp at hu'; exact ⟨hu'.1.symm, hu'.2.symm⟩
  exact (h3 g' cap' hu k hk).step hB s
theorem ShS.step {b c : Nat} {w w' : World} {g k sz : Nat} (h : ShS b c w g k) (hB : Blk w g 27 sz) (s : Step b c w w') : ShS b c w' g k := by
  obtain ⟨h1, u, n, h2, h3⟩ := h
  exact ⟨s.num g _ sz _ hB slot_msg (by omega) h1, u, n, s.far g _ sz _ _ hB slot_msg (by omega) h2, h3.step s⟩
theorem ShF.step {b c : Nat} {w w' : World} {u : Value} {n : Nat} (h : ShF b c w u n) (s : Step b c w w') : ShF b c w' u n := by
  obtain ⟨h1, h2, h3⟩ := h
  refine ⟨h1.step s, h2, fun g cap hu k hk => ?_⟩
  obtain ⟨g', cap', hu', -, -, -, hB⟩ := h1.pos (by omega)
  obtain ⟨rfl, rfl⟩ : g' = g ∧ cap' = cap := by rw [hu] at hu'; simp at hu'; exact ⟨hu'.1.symm, hu'.2.symm⟩
  exact (h3 g' cap' hu k hk).step hB s
/-! ### The shape of what is one's own -/

theorem row_of {b : Nat} {w : World} {e : TypeId} {size : Nat} {v : Value} {n : Nat} {xs : List Value} (h : w.ownsRow b e size v n xs) : RowT b w.heap.size w e size v n ∧ ∀ g cap, v = .slice (some ⟨g, 0, none⟩) n cap → ∀ k u, xs[k]? = some u → w.cell? ⟨g, k, none⟩ = some u := by
  have h0 := h
  rcases h with ⟨hl, ⟨rfl, rfl⟩ | ⟨g, cap, cur, rfl, h1, h2, h3, h4, h5, h6⟩⟩
  · exact ⟨.inl ⟨rfl, rfl⟩, fun g cap hu => by simp at hu⟩
  · refine ⟨.inr ⟨g, cap, rfl, h1, box_lt h2, h3, h4, cur, h2, h5⟩, fun g' cap' hu k u hk => ?_⟩
    obtain ⟨rfl, rfl⟩ : g = g' ∧ cap = cap' := by simpa using hu
    have := h0.cells (g := g) rfl k u hk
    rwa [Addr.add_lit, Nat.zero_add] at this
theorem ls_of {α : Type} {b : Nat} {w : World} {e : TypeId} {C : α → List Value → Prop} {l : List α} {u : Value} (hC : ∀ a cs, C a cs → cs.length = 3) (h : LsAt (Ow b w) e 3 C l u) : RowT b w.heap.size w e 3 u l.length ∧ l.length ≤ 10000000000000 ∧
    ∀ g cap, u = .slice (some ⟨g, 0, none⟩) l.length cap → ∀ k, k < l.length → ∃ a x y z, l[k]? = some a ∧ C a [x, y, z] ∧ w.cell? ⟨g, k * 3, none⟩ = some x ∧ w.cell? ⟨g, k * 3 + 1, none⟩ = some y ∧ w.cell? ⟨g, k * 3 + 2, none⟩ = some z := by
  obtain ⟨xs, ⟨h1, h2⟩, h3⟩ := h
  obtain ⟨r1, r2⟩ := row_of h1
  refine ⟨r1, h2, fun g cap hu k hk => ?_⟩
  obtain ⟨cs, hcs, hlen, hx⟩ := h3.get hC (List.getElem?_eq_getElem hk)
  match cs, hlen with
  | [x, y, z], _ =>
    refine ⟨l[k], x, y, z, List.getElem?_eq_getElem hk, hcs, r2 g cap hu _ _ ?_, r2 g cap hu _ _ ?_, r2 g cap hu _ _ ?_⟩
    · have := hx 0 (by omega); rw [Nat.add_zero] at this; rw [this]; rfl
    · rw [hx 1 (by omega)]; rfl
    · rw [hx 2 (by omega)]; rfl
theorem shape_of {b d : Nat} {w : World} {m : Mg} {u : Value} (h : MAt (Ow b w) (d + 1) m [u]) : ShF b w.heap.size w u m.F.length := by
  obtain ⟨u', hu, hl⟩ := h
  obtain rfl : u = u' := by simpa using hu
  obtain ⟨r1, r2, r3⟩ := ls_of sAt.len hl
  refine ⟨r1, r2, fun g cap hu k hk => ?_⟩
  obtain ⟨a, x, y, z, -, ⟨u1, u2, hu', hK, hV⟩, c0, c1, c2⟩ := r3 g cap hu k hk
  simp only [List.cons.injEq, and_true] at hu'
  obtain ⟨rfl, rfl, rfl⟩ := hu'
  obtain ⟨q1, q2, q3⟩ := ls_of vAt.len hV
  refine ⟨⟨_, c0⟩, _, _, c2, q1, q2, fun g cap hu k hk => ?_⟩
  obtain ⟨v, x, y, z, -, ⟨u3, hu'', xsM, ⟨hM, hMn⟩, -⟩, e0, e1, e2⟩ := q3 g cap hu k hk
  simp only [List.cons.injEq, and_true] at hu''
  obtain ⟨rfl, rfl, rfl⟩ := hu''
  exact ⟨⟨_, e0⟩, _, _, e2, (row_of hM).1, hMn⟩
end Go.Proofs.Ytjmcpfckcajnjaa.T9
