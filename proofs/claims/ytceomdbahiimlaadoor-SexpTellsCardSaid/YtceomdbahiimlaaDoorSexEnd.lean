/-
  The reader that makes a node of tokens: the innermost list ends.
-/
import Derived.Test.YtceomdbahiimlaaDoorSexBegin
namespace Go.Proofs.YtceomdbahiimlaaDoor.T14
set_option maxRecDepth 100000

open Go.RowKit

/-- A row without its last element. -/
theorem own_short {w : World} {b : Nat} {e : TypeId} {size g n c : Nat} {xs cs : List Value} (h : w.ownsRow b e size (.slice (some ⟨g, 0, none⟩) (n + 1) c) (n + 1) (xs ++ cs)) (hx : xs.length = n * size) : w.ownsRow b e size (.slice (some ⟨g, 0, none⟩) n c) n xs := by
  rcases h with ⟨hl, ⟨h1, _⟩ | ⟨g', cap, cur, h1, h2, h3, h4, h5, h6, h7⟩⟩
  · simp at h1
  · simp only [Value.slice.injEq, Option.some.injEq, Addr.mk.injEq, and_true, true_and] at h1
    obtain ⟨rfl, rfl⟩ := h1
    refine ⟨hx, .inr ⟨g, c, cur, rfl, h2, h3, by omega, h5, h6, ?_⟩⟩
    have h8 := congrArg (List.take (n * size)) h7
    rw [List.take_take, Nat.min_eq_left (by rw [Nat.succ_mul]; omega), List.take_append_of_le_length (by omega), ← hx, List.take_length, hx] at h8
    exact h8
/-- What a put makes of the lists that are open. -/
def PutTo (o : List LN) (n : LN) (o' : List LN) (wh' : Option LN) : Prop := (⟨o'.map LN.bare, wh'.map LN.bare⟩ : Ps) = putP (o.map LN.bare) n.bare
theorem put_any (b K : Nat) (g : Nat) (vo : Value) (n : LN) (o : List LN) (w : World) (hb : b ≤ w.heap.size) (hbg : b ≤ g) (hK : K ≤ 1000000) (st : Int) (hst : o ≠ [] → st = 1) (hX : RBox w g st vo LN.zero) (hL : Lies b K w (rowsP vo o [n])) (hg : g ∉ blocks (rowsP vo o [n])) :
    Calls Tryd.prog 33 #[.pointer (some ⟨g, 0, none⟩), n.val] w fun e w' => e = .returned (.tuple #[]) ∧ (∃ o' wh', RSt b (K + 1) w' g o' wh' ∧ PutTo o n o' wh') ∧ Below b w w' := by
  cases o with
  | nil =>
    refine (put_one b K g st vo LN.zero n w hb hbg hX hL hg).mono ?_
    rintro e w' ⟨he, h1, h2⟩
    exact ⟨he, ⟨[], some n, h1.more (Nat.le_succ K), rfl⟩, h2⟩
  | cons q r =>
    refine (put_in b K g st vo LN.zero n q r w hb hbg hK hX hL hg).mono ?_
    rintro e w' ⟨he, ⟨v8, h1, h2, h3⟩, h4⟩
    refine ⟨he, ⟨q.add v8 n :: r, none, ⟨⟨vo, ?_, h2, h3⟩, hbg⟩, ?_⟩, h4⟩
    · rw [hst (by simp)] at h1
      exact h1
    · unfold PutTo
      simp [putP, LN.add_bare]
set_option maxRecDepth 1000000 in
set_option maxHeartbeats 4000000 in
theorem end_any (b K g : Nat) (q : LN) (r : List LN) (w : World) (hb : b ≤ w.heap.size) (hK : K ≤ 1000000) (h : RSt b K w g (q :: r) none) :
    Calls Tryd.prog 35 #[.pointer (some ⟨g, 0, none⟩)] w fun e w' => e = .returned (.tuple #[]) ∧ (∃ o' wh', RSt b (K + 1) w' g o' wh' ∧ PutTo r q o' wh') ∧ Below b w w' := by
  obtain ⟨⟨vo, hX, hL, hg⟩, hbg⟩ := h
  have hgw := box_lt hX
  obtain ⟨gv, c, hv⟩ : ∃ gv c, vo = .slice (some ⟨gv, 0, none⟩) (r.length + 1) c := by
    obtain ⟨gv, c, e, _⟩ := World.ownsRow.form (hL.own (rwO vo (q :: r)) (List.mem_cons_self ..)).1 (by show 0 < r.length + 1; omega)
    exact ⟨gv, c, e⟩
  obtain ⟨Aq, cq, hqg, -⟩ := Sl.of_own (hL.own (rwN q) (by unfold rowsP; rw [rowsL_cons, LN.rows_eq]; simp)).1
  have hqg : q.g = .slice Aq q.l.length cq := hqg
  have hor : w.ownsRow b 24 5 vo (r.length + 1) ((q :: r).reverse.flatMap LN.cells) := (hL.own (rwO vo (q :: r)) (List.mem_cons_self ..)).1
  rw [hv, List.reverse_cons, List.flatMap_append, List.flatMap_cons, List.flatMap_nil, List.append_nil] at hor
  have hrk : r.length ≤ 1000000 := by have h1 : (q :: r).length ≤ K := (hL.own (rwO vo (q :: r)) (List.mem_cons_self ..)).2; simp only [List.length_cons] at h1; omega
  have hgvw : gv < w.heap.size := (own_blk hor gv rfl).2
  have hrc : r.length ≤ c := by
    rcases hor with ⟨_, ⟨h1, _⟩ | ⟨g', cap, cur, h1, _, _, h4, _⟩⟩
    · simp at h1
    · simp only [Value.slice.injEq] at h1; omega
  have hcell : ∀ j, j < 5 → w.cell? ⟨gv, r.length * 5 + j, none⟩ = q.cells[j]? := fun j hj => by
    rw [hor.cellAt _ (by omega), List.getElem?_append_right (by rw [cells_len, List.length_reverse]; omega), cells_len, List.length_reverse, show r.length * 5 + j - r.length * 5 = j by omega]
  have k0 := hcell 0 (by decide)
  have k1 := hcell 1 (by decide)
  have k2 := hcell 2 (by decide)
  have k3 := hcell 3 (by decide)
  have k4 := hcell 4 (by decide)
  simp only [LN.cells, List.getElem?_cons_zero, List.getElem?_cons_succ, Nat.add_zero, hqg] at k0 k1 k2 k3 k4
  obtain ⟨rl, hrl⟩ : ∃ rl, r.length = rl := ⟨_, rfl⟩
  obtain ⟨ql, hql⟩ : ∃ ql, q.l.length = ql := ⟨_, rfl⟩
  obtain ⟨a0, a1, a2, a3, a4, a5, a6⟩ := seven_cells hX
  have f := box_froz hX
  rw [hv, hrl] at a1
  rw [hrl] at k0 k1 k2 k3 k4 hrk hrc
  rw [hql] at k4
  have HALL := Lib.hid (And.intro hX (And.intro hL (And.intro hg (And.intro hv (And.intro hqg (And.intro hor (And.intro hrl hql)))))))
  have hwr : IntKind.i64.wrap (rl : Int) = (rl : Int) := by simp [IntKind.wrap, IntKind.signed, IntKind.bits]; split <;> omega
  have hlt : (rl : Int) < (rl : Int) + 1 := by omega
  have hle : (rl : Int) ≤ (rl : Int) + 1 := by omega
  clear hX hL hg hv hqg hor hrl hql hcell
  go_enter Tryd.func35, Tryd.ntmps35
  go_wp2_with fail
  obtain ⟨hX, hL, hg, hv, hqg, hor, hrl, hql⟩ := HALL.out
  rw [hrl] at hor
  have hxl : (r.reverse.flatMap LN.cells).length = rl * 5 := by rw [cells_len, List.length_reverse, hrl]
  have hor2 := own_short hor hxl
  obtain ⟨w1, hw1⟩ : ∃ x, x = w.setCell ⟨g, 1, none⟩ (.slice (some ⟨gv, 0, none⟩) rl c) := ⟨_, rfl⟩
  obtain ⟨w2, hw2⟩ : ∃ x, x = w1.alloc (.cells #[.int .i64 q.kind, .string (tx q.text), .int .i64 q.num, .int .i64 q.at_, .slice Aq ql cq] 24) := ⟨_, rfl⟩
  rw [← hw1, ← hw2]
  have hgvb : vo.ownBlock = some gv := by rw [hv]; rfl
  have hggv : g ≠ gv := fun e => hg (mem_blocks (r := rwO vo (q :: r)) (List.mem_cons_self ..) (by rw [e]; exact hgvb))
  have hfar : ∀ k, k ≠ g → w1.heap[k]? = w.heap[k]? := fun k hk => by rw [hw1]; exact set_far (fun e => hk e.symm)
  have hX1 : RBox w1 g 1 (.slice (some ⟨gv, 0, none⟩) rl c) LN.zero := by
    unfold RBox at hX ⊢
    have h2 := heap_setCell_same w g 1 #[.int .i64 (stN (q :: r) none), vo, .int .i64 LN.zero.kind, .string (tx LN.zero.text), .int .i64 LN.zero.num, .int .i64 LN.zero.at_, LN.zero.g] 43 (.slice (some ⟨gv, 0, none⟩) rl c) hX
    rw [hw1, h2]
    rfl
  obtain ⟨n1, l1⟩ := hL.head
  have hq : rowsL (q :: r) ++ rowsL [] = q.rows ++ rowsL r := by rw [rowsL_cons]; simp [rowsL]
  have l1 : Lies b K w (q.rows ++ rowsL r) := hq ▸ l1
  have n1 : ∀ k, vo.ownBlock = some k → k ∉ blocks (q.rows ++ rowsL r) := hq ▸ n1
  have hgr : g ∉ blocks (q.rows ++ rowsL r) := fun h => hg (blocks_cons_le (by show g ∈ blocks (rowsL (q :: r) ++ rowsL []); rw [hq]; exact h))
  have l2 : Lies b K w1 (rowsL r ++ rowsL [q]) := by
    refine (l1.kept fun k hk => hfar k (fun e => hgr (e ▸ hk))).perm ?_
    rw [show rowsL [q] = q.rows by simp [rowsL]]
    exact List.perm_append_comm
  have hmem : ∀ k, k ∈ blocks (rowsL r ++ rowsL [q]) → k ∈ blocks (q.rows ++ rowsL r) := fun k hk => by
    rw [show rowsL [q] = q.rows by simp [rowsL], blocks_append] at hk
    rw [blocks_append]
    exact List.mem_append.2 (List.mem_append.1 hk).symm
  have hL1 : Lies b K w1 (rowsP (.slice (some ⟨gv, 0, none⟩) rl c) r [q]) := by
    refine l2.cons (r := rwO (.slice (some ⟨gv, 0, none⟩) rl c) r) ?_ ?_ (fun k hk hm => ?_)
    · show w1.ownsRow b _ 5 _ r.length _
      rw [hrl]
      exact own_kept hor2 fun k hk _ => hfar k (fun e => hggv (by
        have : gv = k := Option.some.inj (show some gv = some k from hk)
        rw [this, e]))
    · have h1 : (q :: r).length ≤ K := (hL.own (rwO vo (q :: r)) (List.mem_cons_self ..)).2
      exact Nat.le_of_succ_le h1
    · obtain rfl : gv = k := Option.some.inj (show some gv = some k from hk)
      exact n1 gv hgvb (hmem _ hm)
  have hg1 : g ∉ blocks (rowsP (.slice (some ⟨gv, 0, none⟩) rl c) r [q]) := fun hm => by
    rcases List.mem_filterMap.1 hm with ⟨y, hy, hyk⟩
    rcases List.mem_cons.1 hy with rfl | hy
    · exact hggv (by simpa [rwO, Value.ownBlock] using hyk.symm)
    · exact hgr (hmem _ (mem_blocks hy hyk))
  have hB2 : Below w1.heap.size w1 w2 := by rw [hw2]; exact below_new _ _
  have hsz1 : w1.heap.size = w.heap.size := by rw [hw1]; simp
  have hB : Below b w w2 := ⟨by rw [hw2, hw1]; rfl, by rw [hw2, hw1]; rfl, by rw [hw2, hw1]; rfl, by have := hB2.size; omega, fun k hk => (hB2.block k (by omega)).trans (hfar k (by omega))⟩
  have hp := put_any b K g (.slice (some ⟨gv, 0, none⟩) rl c) q r w2 (by have := hB2.size; omega) hbg hK 1 (fun _ => rfl) ((hB2.block g (by omega)).trans hX1) (hL1.on hB2) hg1
  have hqv : q.val = .agg #[.int .i64 q.kind, .string (tx q.text), .int .i64 q.num, .int .i64 q.at_, .slice Aq ql cq] := by unfold LN.val; rw [hqg, hql]
  rw [hqv] at hp
  clear hX hL hg hv hqg hor hrl hql hor2 hxl hw1 hw2 hX1 hfar l1 n1 l2 hL1 hg1 hB2 hq hgr hmem hqv k0 k1 k2 k3 k4 a0 a1 a2 a3 a4 a5 a6 f hsz1
  refine hp.mono ?_
  rintro e w3 ⟨rfl, h1, h2⟩
  go_wp2
  go_end0
  exact ⟨rfl, h1, hB.trans h2⟩
end Go.Proofs.YtceomdbahiimlaaDoor.T14
