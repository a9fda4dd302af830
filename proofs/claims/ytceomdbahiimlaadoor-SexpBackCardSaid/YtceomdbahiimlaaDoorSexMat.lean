/-
  A node of one's own, as what is read.
-/
import Derived.Test.YtceomdbahiimlaaDoorSexRows
namespace Go.Proofs.YtceomdbahiimlaaDoor.T14
set_option maxRecDepth 100000

open Go.RowKit

theorem rows_flat14 {α β : Type} {C : β → List Value → Prop} (f : α → β) (g : α → List Value) : ∀ (l : List α), (∀ a ∈ l, C (f a) (g a)) → Rows C (l.map f) (l.flatMap g)
  | [], _ => rfl
  | a :: l, h => ⟨g a, l.flatMap g, rfl, h a (List.mem_cons_self ..), rows_flat14 f g l fun b hb => h b (List.mem_cons_of_mem _ hb)⟩
theorem LN.rows_pos (x : LN) : 0 < x.rows.length := by rw [LN.rows_eq]; simp
theorem LN.rows_sub {x y : LN} (h : y ∈ x.l) : y.rows.length < x.rows.length ∧ ∀ r ∈ y.rows, r ∈ x.rows := by
  rw [LN.rows_eq x]
  refine ⟨?_, fun r hr => List.mem_cons_of_mem _ (List.mem_flatten.2 ⟨y.rows, List.mem_map_of_mem h, hr⟩)⟩
  obtain ⟨a, b, e⟩ := List.append_of_mem h
  rw [e, rowsL_append, rowsL_cons]
  simp only [List.length_cons, List.length_append]
  omega
/-- A node of one's own, as what is read. -/
theorem LN.nat {b K : Nat} {w : World} (hK : K ≤ 10000000000000) : ∀ (D : Nat) (x : LN), x.rows.length ≤ D → (∀ r ∈ x.rows, w.ownsRow b r.e r.size r.v r.n r.xs ∧ r.n ≤ K) → NAt (Ow b w) D x.bare x.cells
  | 0, x, hd, _ => by have := x.rows_pos; omega
  | D + 1, x, hd, h => by
    obtain ⟨h1, h2⟩ := h (rwN x) (by rw [LN.rows_eq]; exact List.mem_cons_self ..)
    rw [LN.bare_eq]
    refine ⟨x.g, rfl, x.l.flatMap LN.cells, ⟨?_, Nat.le_trans (show (x.l.map LN.bare).length ≤ K by rw [List.length_map]; exact h2) hK⟩, rows_flat14 LN.bare LN.cells x.l fun y hy => ?_⟩
    · show w.ownsRow b _ 5 x.g (x.l.map LN.bare).length _
      rw [List.length_map]
      exact h1
    · obtain ⟨h3, h4⟩ := LN.rows_sub hy
      exact LN.nat hK D y (by omega) fun r hr => h r (h4 r hr)
/-- Read, at any place. -/
theorem LN.natR {b K : Nat} {w : World} (hK : K ≤ 10000000000000) (x : LN) (h : Lies b K w x.rows) : NAt (Rd w.heap.size w) x.rows.length x.bare x.cells :=
  NAt.imp (fun e size v n xs h => Rd.of_own e size v n xs h) _ _ _ (LN.nat hK _ x (Nat.le_refl _) h.own)
/-- As many rows as there are nodes. -/
theorem LN.rows_pre : ∀ x : LN, ∀ i, (x.bare.pre i).length = x.rows.length := by
  refine LN.ind fun x ih i => ?_
  rw [LN.rows_eq, Nd.pre_eq, x.bare_eq, List.length_cons, List.length_cons, rowsL, List.length_flatten, List.length_flatten]
  congr 2
  show List.map _ (List.map _ (x.l.map LN.bare)) = _
  simp only [List.map_map]
  exact List.map_congr_left fun y hy => ih y hy (i + 1)
end Go.Proofs.YtceomdbahiimlaaDoor.T14
