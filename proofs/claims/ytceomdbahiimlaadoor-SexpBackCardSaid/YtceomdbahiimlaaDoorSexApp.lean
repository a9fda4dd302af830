/-
  The reader that makes a node of tokens: how it lies; an element appended to a row behind a cell.
-/
import Derived.Test.YtceomdbahiimlaaDoorSexRows
import Derived.Deep.RegionLaw
import Derived.Deep.RegionHeld3
import Derived.Deep.RegionHeldLaw
import Derived.Deep.MidRow
import Derived.Deep.AppendLies
namespace Go.Proofs.YtceomdbahiimlaaDoor.T14
set_option maxRecDepth 100000

open Go.RowKit

theorem once {P G : Prop} (f : Hid P → G) (h : P) : G := f (Lib.hid h)
theorem info_node : (Tryd.prog.info? 24).map (fun i => (i.zero, i.size, i.bytes)) = some (some (.agg #[.int .i64 0, .string ⟨#[]⟩, .int .i64 0, .int .i64 0, .slice none 0 0]), 5, 64) := by kernel_rfl
theorem sz_node : (Tryd.prog.info? 24).map (·.size) = some 5 := by kernel_rfl
def stN (o : List LN) (wh : Option LN) : Int := if wh.isSome then 2 else if o.isEmpty then 0 else 1
/-- A reader's box: its state, the lists that are open, the node behind them. -/
def RBox (w : World) (g : Nat) (st : Int) (vo : Value) (z : LN) : Prop := w.heap[g]? = some (.cells #[.int .i64 st, vo, .int .i64 z.kind, .string (tx z.text), .int .i64 z.num, .int .i64 z.at_, z.g] 43 (0, 0))
def rwO (vo : Value) (o : List LN) : Rw := ⟨24, 5, vo, o.length, o.reverse.flatMap LN.cells⟩
def rowsP (vo : Value) (o : List LN) (z : List LN) : List Rw := rwO vo o :: (rowsL o ++ rowsL z)
/-- A reader, with all that it holds its own. -/
structure RSt (b K : Nat) (w : World) (g : Nat) (o : List LN) (wh : Option LN) : Prop where
  lay : ∃ vo, RBox w g (stN o wh) vo (wh.getD LN.zero) ∧ Lies b K w (rowsP vo o wh.toList) ∧ g ∉ blocks (rowsP vo o wh.toList)
  low : b ≤ g
theorem seven_cells {w : World} {g : Nat} {a0 a1 a2 a3 a4 a5 a6 : Value} {t : TypeId} (h : w.heap[g]? = some (.cells #[a0, a1, a2, a3, a4, a5, a6] t (0, 0))) : w.cell? ⟨g, 0, none⟩ = some a0 ∧ w.cell? ⟨g, 1, none⟩ = some a1 ∧ w.cell? ⟨g, 2, none⟩ = some a2 ∧ w.cell? ⟨g, 3, none⟩ = some a3 ∧ w.cell? ⟨g, 4, none⟩ = some a4 ∧ w.cell? ⟨g, 5, none⟩ = some a5 ∧ w.cell? ⟨g, 6, none⟩ = some a6 :=
  ⟨box_cell h 0, box_cell h 1, box_cell h 2, box_cell h 3, box_cell h 4, box_cell h 5, box_cell h 6⟩
theorem five_cells {w : World} {g : Nat} {a0 a1 a2 a3 a4 : Value} {t : TypeId} (h : w.heap[g]? = some (.cells #[a0, a1, a2, a3, a4] t (0, 0))) : w.cell? ⟨g, 0, none⟩ = some a0 ∧ w.cell? ⟨g, 1, none⟩ = some a1 ∧ w.cell? ⟨g, 2, none⟩ = some a2 ∧ w.cell? ⟨g, 3, none⟩ = some a3 ∧ w.cell? ⟨g, 4, none⟩ = some a4 :=
  ⟨box_cell h 0, box_cell h 1, box_cell h 2, box_cell h 3, box_cell h 4⟩
theorem box_froz {w : World} {g : Nat} {cs : Array Value} {t : TypeId} (h : w.heap[g]? = some (.cells cs t (0, 0))) (j : Nat) : w.frozen? ⟨g, j, none⟩ = false := by simp [World.frozen?, h]
theorem box_lt_cell {w : World} {a : Addr} {v : Value} (h : w.cell? a = some v) : a.block < w.heap.size := World.block_lt_of_cell? w a h
theorem box_there {w : World} {g : Nat} {cs : Array Value} {t : TypeId} (h : w.heap[g]? = some (.cells cs t (0, 0))) {o m : Nat} (hm : o + m ≤ cs.size) : w.there g o m := fun j hj => by
  refine ⟨?_, box_froz h _⟩
  rw [box_cell h, Array.getElem?_eq_getElem (by omega)]
  rfl
theorem cells_len (l : List LN) : (l.flatMap LN.cells).length = l.length * 5 := by
  induction l with
  | nil => rfl
  | cons x l ih => rw [List.flatMap_cons, List.length_append, ih, List.length_cons, Nat.succ_mul]; show 5 + _ = _; omega
theorem ln_one {b K : Nat} {w : World} {n : LN} {l : List Rw} (h : Lies b K w l) (hn : rwN n ∈ l) : ∀ v ∈ n.cells, v.oneCell' = true := by
  obtain ⟨A, c, e, -⟩ := Sl.of_own (h.own _ hn).1
  have e : n.g = .slice A n.l.length c := e
  intro v hv
  simp only [LN.cells, List.mem_cons, List.not_mem_nil, or_false] at hv
  rcases hv with rfl | rfl | rfl | rfl | rfl
  · rfl
  · rfl
  · rfl
  · rfl
  · rw [e]; rfl

/-! ### An element appended to a row whose slice lies in a cell -/

structure App (b : Nat) (w1 x : World) (v0 : Value) (n : Nat) (xs : List Value) (gv off g8 c8 : Nat) (tail : List Value) (done : Bool) : Prop where
  os : x.os = w1.os
  tape : x.tape = w1.tape
  output : x.output = w1.output
  size : w1.heap.size ≤ x.heap.size
  far : ∀ k, k < w1.heap.size → some k ≠ v0.ownBlock → k ≠ gv → x.heap[k]? = w1.heap[k]?
  row : x.ownsRow b 24 5 (.slice (some ⟨g8, 0, none⟩) (n + 1) c8) (n + 1) (xs ++ tail)
  at8 : v0.ownBlock = some g8 ∨ w1.heap.size ≤ g8
  top : x.heap[gv]? = (if done then (w1.setCell ⟨gv, off, none⟩ (.slice (some ⟨g8, 0, none⟩) (n + 1) c8)).heap[gv]? else w1.heap[gv]?)
section

variable {b : Nat} {w1 x x' : World} {v0 : Value} {n : Nat} {xs : List Value} {gv off g8 c8 : Nat} {tail : List Value} {done : Bool}

theorem App.made (hB : Below w1.heap.size w1 x) (hown : x'.ownsRow b 24 5 (.slice (some ⟨g8, 0, none⟩) (n + 1) c8) (n + 1) (xs ++ tail)) (hg : x.grownBy x' v0.ownBlock) (hat : v0.ownBlock = some g8 ∨ g8 = x.heap.size) (hgv : gv < w1.heap.size) (hne : some gv ≠ v0.ownBlock) : App b w1 x' v0 n xs gv off g8 c8 tail false :=
  ⟨hg.os.trans hB.os, hg.tape.trans hB.tape, hg.output.trans hB.output, Nat.le_trans hB.size hg.size, fun k hk h1 _ => (hg.block k (Nat.lt_of_lt_of_le hk hB.size) h1).trans (hB.block k hk), hown, hat.imp id (fun h => by rw [h]; exact hB.size),
    (hg.block gv (Nat.lt_of_lt_of_le hgv hB.size) hne).trans (hB.block gv hgv)⟩
theorem App.ne (h : App b w1 x v0 n xs gv off g8 c8 tail done) (hgv : gv < w1.heap.size) (hne : some gv ≠ v0.ownBlock) : g8 ≠ gv := fun e => by
  rcases h.at8 with h1 | h1
  · rw [h1, e] at hne; exact hne rfl
  · omega
theorem own_there {w : World} {base : Nat} {e : TypeId} {size g n cap : Nat} {xs : List Value} (h : w.ownsRow base e size (.slice (some ⟨g, 0, none⟩) n cap) n xs) {o m : Nat} (hm : o + m ≤ n * size) : w.there g o m := fun j hj => by
  refine ⟨?_, h.frozenAt _⟩
  rw [h.cellAt (o + j) (by omega), List.getElem?_eq_getElem (by rw [h.1]; omega)]
  rfl
theorem App.elem (h : App b w1 x v0 n xs gv off g8 c8 tail done) (hgv : gv < w1.heap.size) (hne : some gv ≠ v0.ownBlock) {vs : List Value} (ht : tail.length = vs.length) (hx : xs.length = n * 5) : App b w1 (x.setCells g8 (n * 5) vs) v0 n xs gv off g8 c8 vs done := by
  obtain ⟨h1, h2⟩ := own_setCells vs (n * 5) _ _ h.row
  rw [← hx, show xs ++ tail = xs ++ (tail ++ []) by simp, setL_mid vs tail xs [] ht, List.append_nil, hx] at h1
  have h8 := h.ne hgv hne
  refine ⟨h2.os.trans h.os, h2.tape.trans h.tape, h2.output.trans h.output, Nat.le_trans h.size h2.size, fun k hk k1 k2 => (h2.block k (Nat.lt_of_lt_of_le hk h.size) (fun e => ?_)).trans (h.far k hk k1 k2), h1, h.at8, (h2.block gv (Nat.lt_of_lt_of_le hgv h.size) (fun e => h8 (Option.some.inj e).symm)).trans h.top⟩
  obtain rfl := Option.some.inj e
  rcases h.at8 with h9 | h9
  · exact k1 h9.symm
  · omega
theorem App.slot (h : App b w1 x v0 n xs gv off g8 c8 tail false) (hgv : gv < w1.heap.size) (hne : some gv ≠ v0.ownBlock) : App b w1 (x.setCell ⟨gv, off, none⟩ (.slice (some ⟨g8, 0, none⟩) (n + 1) c8)) v0 n xs gv off g8 c8 tail true := by
  have h8 := h.ne hgv hne
  refine ⟨h.os, h.tape, h.output, Nat.le_trans h.size (by simp), fun k hk k1 k2 => (set_far (fun e => k2 e.symm)).trans (h.far k hk k1 k2), own_kept h.row fun k hk _ => set_far (fun e => h8 ?_), h.at8, ?_⟩
  · have hk : g8 = k := by simpa [Value.ownBlock] using hk
    rw [hk, e]
  · rw [if_pos rfl]
    have ht := h.top
    rw [if_neg (by decide)] at ht
    exact setCell_same ht _ _
end

end Go.Proofs.YtceomdbahiimlaaDoor.T14
