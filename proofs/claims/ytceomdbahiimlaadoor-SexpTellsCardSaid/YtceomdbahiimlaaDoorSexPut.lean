/-
  The reader that makes a node of tokens: a node that has ended is put where it belongs.
-/
import Derived.Test.YtceomdbahiimlaaDoorSexApp
namespace Go.Proofs.YtceomdbahiimlaaDoor.T14
set_option maxRecDepth 100000

open Go.RowKit

theorem box_filled {w : World} {g : Nat} {st : Int} {vo : Value} {z : LN} (h : RBox w g st vo z) (s a b c d e : Value) :
    ((((((w.setCell ⟨g, 2, none⟩ a).setCell ⟨g, 3, none⟩ b).setCell ⟨g, 4, none⟩ c).setCell ⟨g, 5, none⟩ d).setCell ⟨g, 6, none⟩ e).setCell ⟨g, 0, none⟩ s).heap[g]? = some (.cells #[s, vo, a, b, c, d, e] 43 (0, 0)) ∧
    w.grownBy ((((((w.setCell ⟨g, 2, none⟩ a).setCell ⟨g, 3, none⟩ b).setCell ⟨g, 4, none⟩ c).setCell ⟨g, 5, none⟩ d).setCell ⟨g, 6, none⟩ e).setCell ⟨g, 0, none⟩ s) (some g) := by
  unfold RBox at h
  have h1 := heap_setCell_same w g 2 #[.int .i64 st, vo, .int .i64 z.kind, .string (tx z.text), .int .i64 z.num, .int .i64 z.at_, z.g] 43 a h
  have h2 := heap_setCell_same _ g 3 _ 43 b h1
  have h3 := heap_setCell_same _ g 4 _ 43 c h2
  have h4 := heap_setCell_same _ g 5 _ 43 d h3
  have h5 := heap_setCell_same _ g 6 _ 43 e h4
  have h6 := heap_setCell_same _ g 0 _ 43 s h5
  simp only [List.setIfInBounds_toArray, List.set_cons_succ, List.set_cons_zero] at h6
  refine ⟨h6, ⟨by simp only [World.setCell], by simp only [World.setCell], by simp only [World.setCell], by simp, fun k _ hk => ?_⟩⟩
  have hne : g ≠ k := fun e => hk (by rw [e])
  rw [set_far hne, set_far hne, set_far hne, set_far hne, set_far hne, set_far hne]

set_option maxRecDepth 1000000 in
set_option maxHeartbeats 4000000 in
theorem put_one (b K : Nat) (g : Nat) (st : Int) (vo : Value) (z n : LN) (w : World) (hb : b ≤ w.heap.size) (hbg : b ≤ g) (hX : RBox w g st vo z) (hL : Lies b K w (rowsP vo [] [n])) (hg : g ∉ blocks (rowsP vo [] [n])) :
    Calls Tryd.prog 33 #[.pointer (some ⟨g, 0, none⟩), n.val] w fun e w' => e = .returned (.tuple #[]) ∧ RSt b K w' g [] (some n) ∧ Below b w w' := by
  obtain ⟨A, c, hv, -⟩ := Sl.of_own (hL.own (rwO vo []) (List.mem_cons_self ..)).1
  have hv : vo = .slice A 0 c := hv
  obtain ⟨An, cn, hng, -⟩ := Sl.of_own (hL.own (rwN n) (by unfold rowsP; rw [rowsL_cons, LN.rows_eq]; simp)).1
  have hng : n.g = .slice An n.l.length cn := hng
  have hgw := box_lt hX
  have hN1 := heap_alloc_new w (.cells #[.int .i64 n.kind, .string (tx n.text), .int .i64 n.num, .int .i64 n.at_, n.g] 24)
  obtain ⟨a0, a1, a2, a3, a4, a5, a6⟩ := seven_cells hX
  obtain ⟨n0, n1, n2, n3, n4⟩ := five_cells hN1
  have f := box_froz hX
  have HL := Lib.hid (And.intro hL (And.intro hg (And.intro hX hng)))
  have hne : w.heap.size ≠ g := by omega
  unfold LN.val
  rw [hng] at n0 n1 n2 n3 n4 ⊢
  clear hL hg hX hN1 hng
  rw [hv] at a1
  go_enter Tryd.func33, Tryd.ntmps33
  go_wp2
  refine bodyPost_ret (results_none rfl _ _ _) rfl ?_
  obtain ⟨hL, hg, hX, hng⟩ := HL.out
  obtain ⟨h1, h2⟩ := box_filled hX (.int .i64 2) (.int .i64 n.kind) (.string (tx n.text)) (.int .i64 n.num) (.int .i64 n.at_) (.slice An n.l.length cn)
  refine ⟨rfl, ⟨⟨vo, (heap_alloc_old _ _ (box_lt h1)).trans (by rw [h1]; unfold stN; rw [← hng]; rfl), ?_, hg⟩, hbg⟩, ?_⟩
  · exact (hL.kept fun k hk => h2.block k (hL.old hk).2 (fun e => hg (Option.some.inj e ▸ hk))).on (below_new _ _)
  · exact (below_own h2 hbg hb).trans ((below_new _ _).mono (Nat.le_trans hb h2.size))

theorem put_post {b K g : Nat} {st : Int} {vo : Value} {z n q : LN} {r : List LN} {w w1 x : World} {gv o c cq ql g8 c8 : Nat} {Aq : Option Addr} (hb : b ≤ w.heap.size) (hLp : Lies b K w (rwO vo (q :: r) :: rwN q :: (rowsL q.l ++ (n.rows ++ rowsL r)))) (hg : g ∉ blocks (rowsP vo (q :: r) [n])) (hX : RBox w g st vo z)
    (hqg : q.g = .slice Aq q.l.length cq) (hv : vo = .slice (some ⟨gv, 0, none⟩) (r.length + 1) c) (hgvb : vo.ownBlock = some gv) (hB1 : Below w.heap.size w w1) (hql : q.l.length = ql) (ho : r.length * 5 + 4 = o)
    (HA : App b w1 x (.slice Aq ql cq) ql (q.l.flatMap LN.cells) gv o g8 c8 [.int .i64 n.kind, .string (tx n.text), .int .i64 n.num, .int .i64 n.at_, n.g] true) :
    RBox x g st vo z ∧ Lies b (K + 1) x (rowsP vo (q.add (.slice (some ⟨g8, 0, none⟩) (ql + 1) c8) n :: r) []) ∧ g ∉ blocks (rowsP vo (q.add (.slice (some ⟨g8, 0, none⟩) (ql + 1) c8) n :: r) []) ∧ Below b w x := by
  obtain ⟨n1, l1⟩ := hLp.head
  obtain ⟨n2, l2⟩ := l1.head
  have hqo : (Value.slice Aq ql cq).ownBlock = q.g.ownBlock := by rw [hqg, hql]
  have hgvm : gv ∈ blocks (rwO vo (q :: r) :: rwN q :: (rowsL q.l ++ (n.rows ++ rowsL r))) := mem_blocks (List.mem_cons_self ..) hgvb
  have hgvo := hLp.old hgvm
  have hgvn : some gv ≠ (Value.slice Aq ql cq).ownBlock := fun e => n1 gv hgvb (mem_blocks (r := rwN q) (List.mem_cons_self ..) (show q.g.ownBlock = some gv from by rw [← hqo]; exact e.symm))
  have hqb : ∀ k, q.g.ownBlock = some k → b ≤ k ∧ k < w.heap.size := fun k hk => own_blk (hLp.own (rwN q) (by simp)).1 k hk
  have hgv1 : gv < w1.heap.size := Nat.lt_of_lt_of_le hgvo.2 hB1.size
  have hne := HA.ne hgv1 hgvn
  have hold : ∀ k, k < w.heap.size → some k ≠ q.g.ownBlock → k ≠ gv → x.heap[k]? = w.heap[k]? := fun k hk k1 k2 => (HA.far k (Nat.lt_of_lt_of_le hk hB1.size) (by rw [hqo]; exact k1) k2).trans (hB1.block k hk)
  have hsub : ∀ {k}, k ∈ blocks (rwO vo (q :: r) :: rwN q :: (rowsL q.l ++ (n.rows ++ rowsL r))) → k ∈ blocks (rowsP vo (q :: r) [n]) := fun {k} hk => by
    refine (blocks_perm ?_).2 hk
    unfold rowsP
    rw [rowsL_cons, rowsL_cons, LN.rows_eq q, show rowsL ([] : List LN) = [] from rfl, List.append_nil]
    simp only [List.cons_append, List.append_assoc]
    exact ((((List.perm_append_comm (l₁ := rowsL r) (l₂ := n.rows))).append_left _).cons _).cons _
  have hgw := box_lt hX
  have hggv : g ≠ gv := fun e => hg (e ▸ hsub hgvm)
  have hgq : some g ≠ q.g.ownBlock := fun e => hg (hsub (blocks_cons_le (mem_blocks (r := rwN q) (List.mem_cons_self ..) e.symm)))
  have hg8 : ∀ k, k ∈ blocks (rowsL q.l ++ (n.rows ++ rowsL r)) → g8 ≠ k := fun k hk e => by
    rcases HA.at8 with h | h
    · rw [hqo, e] at h
      exact n2 k h hk
    · have := (l2.old hk).2
      have := hB1.size
      omega
  have hgg8 : g ≠ g8 := fun e => by
    rcases HA.at8 with h | h
    · rw [hqo, ← e] at h
      exact hgq h.symm
    · have := hB1.size
      omega
  have hrest : Lies b K x (rowsL q.l ++ (n.rows ++ rowsL r)) := l2.kept fun k hk => hold k (l2.old hk).2 (fun e => n2 k e.symm hk) (fun e => n1 gv hgvb (blocks_cons_le (e ▸ hk)))
  have hqr := HA.row
  have hqx : x.ownsRow b 24 5 (.slice (some ⟨g8, 0, none⟩) (ql + 1) c8) (q.l ++ [n]).length ((q.l ++ [n]).flatMap LN.cells) := by
    rw [List.length_append, hql, List.flatMap_append]
    simpa [LN.cells] using hqr
  have hor : w.ownsRow b 24 5 vo (r.length + 1) ((q :: r).reverse.flatMap LN.cells) := (hLp.own (rwO vo (q :: r)) (List.mem_cons_self ..)).1
  have hor1 : w1.ownsRow b 24 5 vo (r.length + 1) ((q :: r).reverse.flatMap LN.cells) := own_kept hor fun k _ hk => hB1.block k hk
  have hox : x.ownsRow b 24 5 vo (r.length + 1) ((q.add (.slice (some ⟨g8, 0, none⟩) (ql + 1) c8) n :: r).reverse.flatMap LN.cells) := by
    rw [hv] at hor1
    obtain ⟨s1, s2⟩ := hor1.stored o (.slice (some ⟨g8, 0, none⟩) (ql + 1) c8)
    have e : ((q :: r).reverse.flatMap LN.cells).set o (.slice (some ⟨g8, 0, none⟩) (ql + 1) c8) = ((q.add (.slice (some ⟨g8, 0, none⟩) (ql + 1) c8) n :: r).reverse.flatMap LN.cells) := by
      rw [List.reverse_cons, List.reverse_cons, List.flatMap_append, List.flatMap_append, List.set_append_right _ _ (by rw [cells_len, List.length_reverse]; omega), cells_len, List.length_reverse, show o - r.length * 5 = 4 by omega]
      rfl
    rw [e] at s1
    rw [hv]
    refine own_kept s1 fun k hk _ => ?_
    obtain rfl : gv = k := by simpa [Value.ownBlock] using hk
    have := HA.top
    rwa [if_pos rfl] at this
  have hnk : ql ≤ K ∧ r.length + 1 ≤ K := ⟨hql ▸ (hLp.own (rwN q) (by simp)).2, (hLp.own (rwO vo (q :: r)) (List.mem_cons_self ..)).2⟩
  have hL1 := (hrest.more (Nat.le_succ K)).cons (r := rwN (q.add (.slice (some ⟨g8, 0, none⟩) (ql + 1) c8) n)) hqx (by show (q.l ++ [n]).length ≤ _; rw [List.length_append, hql]; exact Nat.succ_le_succ hnk.1) (fun k hk hm => hg8 k hm (by simpa [rwN, LN.add, LN.g, Value.ownBlock] using hk))
  have hL2 := hL1.cons (r := rwO vo (q.add (.slice (some ⟨g8, 0, none⟩) (ql + 1) c8) n :: r)) hox (Nat.le_succ_of_le hnk.2) (fun k hk hm => by
    obtain rfl : gv = k := Option.some.inj (hgvb.symm.trans hk)
    rcases List.mem_filterMap.1 hm with ⟨y, hy, hyk⟩
    rcases List.mem_cons.1 hy with rfl | hy
    · exact hne (by simpa [rwN, LN.add, LN.g, Value.ownBlock] using hyk)
    · exact n1 gv hgvb (blocks_cons_le (mem_blocks hy hyk)))
  have hpm : (rowsP vo (q.add (.slice (some ⟨g8, 0, none⟩) (ql + 1) c8) n :: r) []) = rwO vo (q.add (.slice (some ⟨g8, 0, none⟩) (ql + 1) c8) n :: r) :: rwN (q.add (.slice (some ⟨g8, 0, none⟩) (ql + 1) c8) n) :: (rowsL q.l ++ (n.rows ++ rowsL r)) := by
    unfold rowsP
    rw [rowsL_cons, LN.rows_eq, show rowsL ([] : List LN) = [] from rfl, List.append_nil]
    show _ :: _ :: (rowsL (q.l ++ [n]) ++ rowsL r) = _
    rw [rowsL_append, rowsL_cons, show rowsL ([] : List LN) = [] from rfl, List.append_nil, List.append_assoc]
  refine ⟨(hold g hgw hgq hggv).trans hX, hpm ▸ hL2, fun hm => ?_, ⟨HA.os.trans hB1.os, HA.tape.trans hB1.tape, HA.output.trans hB1.output, Nat.le_trans hB1.size HA.size, fun k hk => hold k (by omega) (fun e => by have := (hqb k e.symm).1; omega) (by have := hgvo.1; omega)⟩⟩
  rw [hpm] at hm
  rcases List.mem_filterMap.1 hm with ⟨y, hy, hyk⟩
  rcases List.mem_cons.1 hy with rfl | hy
  · exact hggv (Option.some.inj (hgvb.symm.trans hyk)).symm
  · rcases List.mem_cons.1 hy with rfl | hy
    · exact hgg8 (by simpa [rwN, LN.add, LN.g, Value.ownBlock] using hyk.symm)
    · exact hg (hsub (blocks_cons_le (blocks_cons_le (mem_blocks hy hyk))))
set_option maxRecDepth 1000000 in
set_option maxHeartbeats 4000000 in
theorem put_in (b K : Nat) (g : Nat) (st : Int) (vo : Value) (z n q : LN) (r : List LN) (w : World) (hb : b ≤ w.heap.size) (hbg : b ≤ g) (hK : K ≤ 1000000) (hX : RBox w g st vo z) (hL : Lies b K w (rowsP vo (q :: r) [n])) (hg : g ∉ blocks (rowsP vo (q :: r) [n])) :
    Calls Tryd.prog 33 #[.pointer (some ⟨g, 0, none⟩), n.val] w fun e w' => e = .returned (.tuple #[]) ∧ (∃ v8, RBox w' g st vo z ∧ Lies b (K + 1) w' (rowsP vo (q.add v8 n :: r) []) ∧ g ∉ blocks (rowsP vo (q.add v8 n :: r) [])) ∧ Below b w w' := by
  obtain ⟨j0, hj, hz0, hz1, hz2⟩ := info_parts info_node
  have hgw := box_lt hX
  obtain ⟨gv, c, hv, hgvb⟩ : ∃ gv c, vo = .slice (some ⟨gv, 0, none⟩) (r.length + 1) c ∧ vo.ownBlock = some gv := by
    obtain ⟨gv, c, e, _⟩ := World.ownsRow.form (hL.own (rwO vo (q :: r)) (List.mem_cons_self ..)).1 (by show 0 < r.length + 1; omega)
    have e : vo = .slice (some ⟨gv, 0, none⟩) (r.length + 1) c := e
    exact ⟨gv, c, e, by rw [e]; rfl⟩
  obtain ⟨Aq, cq, hqg, -⟩ := Sl.of_own (hL.own (rwN q) (by unfold rowsP; rw [rowsL_cons, LN.rows_eq]; simp)).1
  have hqg : q.g = .slice Aq q.l.length cq := hqg
  obtain ⟨An, cn, hng, -⟩ := Sl.of_own (hL.own (rwN n) (by unfold rowsP; rw [rowsL_cons n, n.rows_eq]; simp)).1
  have hng : n.g = .slice An n.l.length cn := hng
  have hN1 := heap_alloc_new w (.cells #[.int .i64 n.kind, .string (tx n.text), .int .i64 n.num, .int .i64 n.at_, n.g] 24)
  obtain ⟨a0, a1, a2, a3, a4, a5, a6⟩ := seven_cells hX
  obtain ⟨n0, n1, n2, n3, n4⟩ := five_cells hN1
  have f := box_froz hX
  have HL := Lib.hid (And.intro hL (And.intro hg (And.intro hX (And.intro hng (And.intro hqg (And.intro hv hgvb))))))
  have hne : w.heap.size ≠ g := by omega
  obtain ⟨rl, hrl⟩ : ∃ rl, r.length = rl := ⟨_, rfl⟩
  have HRL := Lib.hid hrl
  have hrk : rl ≤ 1000000 := by have h1 : (q :: r).length ≤ K := (hL.own (rwO vo (q :: r)) (List.mem_cons_self ..)).2; simp only [List.length_cons] at h1; omega
  unfold LN.val
  rw [hng] at n0 n1 n2 n3 n4 ⊢
  rw [hv, hrl] at a1
  clear hL hg hX hN1 hng hqg hv hgvb hrl
  have hwr : IntKind.i64.wrap (rl : Int) = (rl : Int) := by simp [IntKind.wrap, IntKind.signed, IntKind.bits]; split <;> omega
  have hlt : (rl : Int) < (rl : Int) + 1 := by omega
  have d0 : ((rl : Int) + 1 == 0) = false := beq_eq_false_iff_ne.2 (by omega)
  go_enter Tryd.func33, Tryd.ntmps33
  go_wp2_with fail
  obtain ⟨w0, hw0⟩ : ∃ x, x = w.alloc (.cells #[.int .i64 n.kind, .string (tx n.text), .int .i64 n.num, .int .i64 n.at_, .slice An n.l.length cn] 24) := ⟨_, rfl⟩
  rw [← hw0]
  have a1w : w0.cell? ⟨g, 1, none⟩ = some (.slice (some ⟨gv, 0, none⟩) (rl + 1) c) := by rw [hw0]; exact ((below_new w _).cell hgw).trans a1
  refine wp_region_held_drew (S := fun wx => wx.cell? ⟨g, 1, none⟩ = some (.slice (some ⟨gv, 0, none⟩) (rl + 1) c)) (by kernel_rfl) (((Below.refl _ _).drew.cell (box_lt_cell a1w)).trans a1w) (fun hHeld => ?_)
  refine wpAnyH_take (i := 0) (oi := { dst := some 18, op := Go.Op.move (Go.Operand.tmp 0), type := 64, pos := "sexp.go:116", after := #[], guard := none }) (v := ?_) rfl (by kernel_rfl) (by kernel_rfl) (by kernel_rfl) (fun _ _ _ h => h) (Or.inl ⟨by rfl, ?_⟩) hHeld ?_
  rotate_left
  · intro w hSw
    (try dsimp only at hSw)
    go_simp
    all_goals with_reducible rfl
  (try simp only [Act.put, List.setIfInBounds_toArray, List.set_cons_zero, List.set_cons_succ])
  refine wpAnyH_take (i := 1) (oi := { dst := some 19, op := Go.Op.nilCheck (Go.Operand.tmp 18), type := 0, pos := "sexp.go:116", after := #[{ on := 0, ground := Go.Ground.data }], guard := none }) (v := ?_) rfl (by kernel_rfl) (by kernel_rfl) (by kernel_rfl) (fun _ _ _ h => h) (Or.inl ⟨by rfl, ?_⟩) hHeld ?_
  rotate_left
  · intro w hSw
    (try dsimp only at hSw)
    go_simp
    all_goals with_reducible rfl
  (try simp only [Act.put, List.setIfInBounds_toArray, List.set_cons_zero, List.set_cons_succ])
  refine wpAnyH_take (i := 2) (oi := { dst := some 20, op := Go.Op.fieldAddr 43 (Go.Operand.tmp 19) 1, type := 0, pos := "sexp.go:116", after := #[{ on := 1, ground := Go.Ground.data }], guard := none }) (v := ?_) rfl (by kernel_rfl) (by kernel_rfl) (by kernel_rfl) (fun _ _ _ h => h) (Or.inl ⟨by rfl, ?_⟩) hHeld ?_
  rotate_left
  · intro w hSw
    (try dsimp only at hSw)
    go_simp
    all_goals with_reducible rfl
  (try simp only [Act.put, List.setIfInBounds_toArray, List.set_cons_zero, List.set_cons_succ])
  refine wpAnyH_take (i := 3) (oi := { dst := some 21, op := Go.Op.load 22 (Go.Operand.tmp 20), type := 22, pos := "sexp.go:116", after := #[{ on := 2, ground := Go.Ground.data }], guard := none }) (v := ?_) rfl (by kernel_rfl) (by kernel_rfl) (by kernel_rfl) (fun _ _ _ h => h) (Or.inl ⟨by rfl, ?_⟩) hHeld ?_
  rotate_left
  · intro w hSw
    (try dsimp only at hSw)
    go_simp
    all_goals with_reducible rfl
  (try simp only [Act.put, List.setIfInBounds_toArray, List.set_cons_zero, List.set_cons_succ])
  refine wpAnyH_take (i := 4) (oi := { dst := some 22, op := Go.Op.move (Go.Operand.tmp 0), type := 64, pos := "sexp.go:116", after := #[], guard := none }) (v := ?_) rfl (by kernel_rfl) (by kernel_rfl) (by kernel_rfl) (fun _ _ _ h => h) (Or.inl ⟨by rfl, ?_⟩) hHeld ?_
  rotate_left
  · intro w hSw
    (try dsimp only at hSw)
    go_simp
    all_goals with_reducible rfl
  (try simp only [Act.put, List.setIfInBounds_toArray, List.set_cons_zero, List.set_cons_succ])
  refine wpAnyH_take (i := 5) (oi := { dst := some 23, op := Go.Op.nilCheck (Go.Operand.tmp 22), type := 0, pos := "sexp.go:116", after := #[{ on := 4, ground := Go.Ground.data }], guard := none }) (v := ?_) rfl (by kernel_rfl) (by kernel_rfl) (by kernel_rfl) (fun _ _ _ h => h) (Or.inl ⟨by rfl, ?_⟩) hHeld ?_
  rotate_left
  · intro w hSw
    (try dsimp only at hSw)
    go_simp
    all_goals with_reducible rfl
  (try simp only [Act.put, List.setIfInBounds_toArray, List.set_cons_zero, List.set_cons_succ])
  refine wpAnyH_take (i := 6) (oi := { dst := some 24, op := Go.Op.fieldAddr 43 (Go.Operand.tmp 23) 1, type := 0, pos := "sexp.go:116", after := #[{ on := 5, ground := Go.Ground.data }], guard := none }) (v := ?_) rfl (by kernel_rfl) (by kernel_rfl) (by kernel_rfl) (fun _ _ _ h => h) (Or.inl ⟨by rfl, ?_⟩) hHeld ?_
  rotate_left
  · intro w hSw
    (try dsimp only at hSw)
    go_simp
    all_goals with_reducible rfl
  (try simp only [Act.put, List.setIfInBounds_toArray, List.set_cons_zero, List.set_cons_succ])
  refine wpAnyH_take (i := 7) (oi := { dst := some 25, op := Go.Op.load 22 (Go.Operand.tmp 24), type := 22, pos := "sexp.go:116", after := #[{ on := 6, ground := Go.Ground.data }], guard := none }) (v := ?_) rfl (by kernel_rfl) (by kernel_rfl) (by kernel_rfl) (fun _ _ _ h => h) (Or.inl ⟨by rfl, ?_⟩) hHeld ?_
  rotate_left
  · intro w hSw
    (try dsimp only at hSw)
    go_simp
    all_goals with_reducible rfl
  (try simp only [Act.put, List.setIfInBounds_toArray, List.set_cons_zero, List.set_cons_succ])
  refine wpAnyH_take (i := 8) (oi := { dst := some 26, op := Go.Op.call { callee := Go.Callee.builtin Go.Builtin.len, args := #[Go.Operand.tmp 25], argTypes := #[22] }, type := 3, pos := "sexp.go:116", after := #[{ on := 7, ground := Go.Ground.data }], guard := none }) (v := ?_) rfl (by kernel_rfl) (by kernel_rfl) (by kernel_rfl) (fun _ _ _ h => h) (Or.inl ⟨by rfl, ?_⟩) hHeld ?_
  rotate_left
  · intro w hSw
    (try dsimp only at hSw)
    go_simp
    all_goals with_reducible rfl
  (try simp only [Act.put, List.setIfInBounds_toArray, List.set_cons_zero, List.set_cons_succ])
  refine wpAnyH_take (i := 9) (oi := { dst := some 27, op := Go.Op.binOp Go.BinOp.sub 3 (Go.Operand.tmp 26) (Go.Operand.const (Go.Value.int Go.IntKind.i64 1)) 3, type := 3, pos := "sexp.go:116", after := #[{ on := 8, ground := Go.Ground.data }], guard := none }) (v := ?_) rfl (by kernel_rfl) (by kernel_rfl) (by kernel_rfl) (fun _ _ _ h => h) (Or.inl ⟨by rfl, ?_⟩) hHeld ?_
  rotate_left
  · intro w hSw
    (try dsimp only at hSw)
    go_simp
    all_goals with_reducible rfl
  (try simp only [Act.put, List.setIfInBounds_toArray, List.set_cons_zero, List.set_cons_succ])
  refine wpAnyH_take (i := 10) (oi := { dst := some 28, op := Go.Op.indexAddr 22 (Go.Operand.tmp 21) (Go.Operand.tmp 27), type := 0, pos := "sexp.go:116", after := #[{ on := 3, ground := Go.Ground.data }, { on := 9, ground := Go.Ground.data }], guard := none }) (v := ?_) rfl (by kernel_rfl) (by kernel_rfl) (by kernel_rfl) (fun _ _ _ h => h) (Or.inl ⟨by rfl, ?_⟩) hHeld ?_
  rotate_left
  · intro w hSw
    (try dsimp only at hSw)
    go_simp
    all_goals with_reducible rfl
  (try simp only [Act.put, List.setIfInBounds_toArray, List.set_cons_zero, List.set_cons_succ])
  refine wpAnyH_take (i := 11) (oi := { dst := some 4, op := Go.Op.assign (Go.Operand.tmp 28), type := 78, pos := "sexp.go:116", after := #[{ on := 10, ground := Go.Ground.data }, { on := 0, ground := Go.Ground.phase }, { on := 1, ground := Go.Ground.phase }, { on := 2, ground := Go.Ground.phase }, { on := 3, ground := Go.Ground.phase }, { on := 4, ground := Go.Ground.phase }, { on := 5, ground := Go.Ground.phase }, { on := 6, ground := Go.Ground.phase }, { on := 7, ground := Go.Ground.phase }, { on := 8, ground := Go.Ground.phase }, { on := 9, ground := Go.Ground.phase }, { on := 10, ground := Go.Ground.phase }], guard := none }) (v := ?_) rfl (by kernel_rfl) (by kernel_rfl) (by kernel_rfl) (fun _ _ _ h => h) (Or.inl ⟨by rfl, ?_⟩) hHeld ?_
  rotate_left
  · intro w hSw
    (try dsimp only at hSw)
    go_simp
    all_goals with_reducible rfl
  (try simp only [Act.put, List.setIfInBounds_toArray, List.set_cons_zero, List.set_cons_succ])
  refine wpAnyH_done (by kernel_rfl) ?_ _
  go_wp2_with fail
  obtain ⟨hL, hg, hX, hng, hqg, hv, hgvb⟩ := HL.out
  have hB1 : Below w.heap.size w w0.drew := by rw [hw0]; exact (below_new w _).drew
  clear hHeld
  obtain ⟨w1, hw1⟩ : ∃ x, x = w0.drew := ⟨_, rfl⟩
  rw [← hw1] at hB1 ⊢
  have hgvm : gv ∈ blocks (rowsP vo (q :: r) [n]) := mem_blocks (List.mem_cons_self ..) hgvb
  have hgvo := (hL.old hgvm).2
  have hgvw : gv < w1.heap.size := Nat.lt_of_lt_of_le hgvo hB1.size
  have hpm : (rowsP vo (q :: r) [n]).Perm (rwO vo (q :: r) :: rwN q :: (rowsL q.l ++ (n.rows ++ rowsL r))) := by
    unfold rowsP
    rw [rowsL_cons, rowsL_cons, LN.rows_eq q, show rowsL ([] : List LN) = [] from rfl, List.append_nil]
    simp only [List.cons_append, List.append_assoc]
    exact ((((List.perm_append_comm (l₁ := rowsL r) (l₂ := n.rows))).append_left _).cons _).cons _
  have hLp := hL.perm hpm
  have hgvn : some gv ≠ (Value.slice Aq q.l.length cq).ownBlock := fun e => by
    have h1 := (hLp.head.1 gv hgvb)
    exact h1 (mem_blocks (r := rwN q) (List.mem_cons_self ..) (by show q.g.ownBlock = some gv; rw [hqg, ← e]))
  obtain ⟨ql, hql⟩ : ∃ ql, q.l.length = ql := ⟨_, rfl⟩
  have hqk : ql ≤ 1000000 := by have h1 : q.l.length ≤ K := (hLp.own (rwN q) (by simp)).2; omega
  have hL1 := hLp.on hB1
  have HOWN : Hid (∀ x, Below w1.heap.size w1 x → x.ownsRow b 24 5 (.slice Aq ql cq) ql (q.l.flatMap LN.cells)) := Lib.hid fun x hx => by
    have h1 := ((hL1.on hx).own (rwN q) (by simp)).1
    have h1 : x.ownsRow b 24 5 q.g q.l.length (q.l.flatMap LN.cells) := h1
    rw [hqg, hql] at h1
    exact h1
  have hx5 : (q.l.flatMap LN.cells).length = ql * 5 := (HOWN.out _ (Below.refl _ _)).1
  have h5 : ∀ v ∈ [(.int .i64 n.kind : Value), .string (tx n.text), .int .i64 n.num, .int .i64 n.at_, .slice An n.l.length cn], v.oneCell' = true := by
    rw [← hng]
    exact ln_one (n := n) hL (by unfold rowsP; rw [rowsL_cons n, n.rows_eq]; simp)
  obtain ⟨o, ho⟩ : ∃ o, rl * 5 + 4 = o := ⟨_, rfl⟩
  have hcq : w.cell? ⟨gv, o, none⟩ = some (.slice Aq ql cq) := by
    have h1 := (hL.own (rwO vo (q :: r)) (List.mem_cons_self ..)).1
    have h1 : w.ownsRow b 24 5 vo (r.length + 1) ((q :: r).reverse.flatMap LN.cells) := h1
    rw [hv] at h1
    rw [h1.cellAt o (by have := HRL.out; omega), List.reverse_cons, List.flatMap_append, List.getElem?_append_right (by rw [cells_len, List.length_reverse, HRL.out]; omega), cells_len, List.length_reverse, HRL.out]
    rw [show o - rl * 5 = 4 by omega]
    simp only [List.flatMap_cons, List.flatMap_nil, List.append_nil]
    show q.cells[4]? = _
    rw [← hql, ← hqg]
    rfl
  have HC : Hid (∀ x, Below w1.heap.size w1 x → x.cell? ⟨gv, o, none⟩ = some (.slice Aq ql cq)) := Lib.hid fun x hx => (hx.cell hgvw).trans ((hB1.cell hgvo).trans hcq)
  have hfz : w1.frozen? ⟨gv, o, none⟩ = false := (hB1.frozen hgvo).trans (by
    have h1 := (hL.own (rwO vo (q :: r)) (List.mem_cons_self ..)).1
    have h1 : w.ownsRow b 24 5 vo (r.length + 1) ((q :: r).reverse.flatMap LN.cells) := h1
    rw [hv] at h1
    exact h1.frozenAt o)
  have hcq1 := HC.out _ (Below.refl _ _)
  have HCT : Hid (∀ x g8 c8 tail, App b w1 x (.slice Aq ql cq) ql (q.l.flatMap LN.cells) gv o g8 c8 tail false → x.cell? ⟨gv, o, none⟩ = some (.slice Aq ql cq) ∧ x.frozen? ⟨gv, o, none⟩ = false) := Lib.hid fun x g8 c8 tail h => by
    have h1 : x.heap[gv]? = w1.heap[gv]? := by have := h.top; rwa [if_neg (by decide)] at this
    exact ⟨(World.cell?_of_block (a := ⟨gv, o, none⟩) h1).trans hcq1, (World.frozen?_of_block (a := ⟨gv, o, none⟩) h1).trans hfz⟩
  have hsz1 : w.heap.size < w1.heap.size := by rw [hw1, hw0]; show w.heap.size < (w.alloc _).heap.size; simp
  have hNx : w1.heap[w.heap.size]? = some (.cells #[.int .i64 n.kind, .string (tx n.text), .int .i64 n.num, .int .i64 n.at_, .slice An n.l.length cn] 24 (0, 0)) := by rw [hw1, hw0]; exact heap_alloc_new w _
  have HSX : Hid (∀ x, Below w1.heap.size w1 x → x.cell? ⟨w.heap.size, 0, none⟩ = some (.int .i64 n.kind) ∧ x.cell? ⟨w.heap.size, 1, none⟩ = some (.string (tx n.text)) ∧ x.cell? ⟨w.heap.size, 2, none⟩ = some (.int .i64 n.num) ∧ x.cell? ⟨w.heap.size, 3, none⟩ = some (.int .i64 n.at_) ∧ x.cell? ⟨w.heap.size, 4, none⟩ = some (.slice An n.l.length cn)) := Lib.hid fun x hx => five_cells ((hx.block _ hsz1).trans hNx)
  have hqo : ∀ k, (Value.slice Aq ql cq).ownBlock = some k → k < w.heap.size := fun k hk => by
    have h1 := (own_blk (hLp.own (rwN q) (by simp)).1 k (by show q.g.ownBlock = some k; rw [hqg, hql]; exact hk)).2
    exact h1
  have HSA : Hid (∀ x g8 c8 tail d, App b w1 x (.slice Aq ql cq) ql (q.l.flatMap LN.cells) gv o g8 c8 tail d → x.cell? ⟨w.heap.size, 0, none⟩ = some (.int .i64 n.kind) ∧ x.cell? ⟨w.heap.size, 1, none⟩ = some (.string (tx n.text)) ∧ x.cell? ⟨w.heap.size, 2, none⟩ = some (.int .i64 n.num) ∧ x.cell? ⟨w.heap.size, 3, none⟩ = some (.int .i64 n.at_) ∧ x.cell? ⟨w.heap.size, 4, none⟩ = some (.slice An n.l.length cn)) := Lib.hid fun x g8 c8 tail d h => five_cells ((h.far _ hsz1 (fun e => by have := hqo _ e.symm; omega) (by omega)).trans hNx)
  have hb1 : b ≤ w1.heap.size := Nat.le_trans hb hB1.size
  rw [hql] at hgvn
  have HALL := Lib.hid (And.intro hLp (And.intro hg (And.intro hX (And.intro hng (And.intro hqg (And.intro hv (And.intro hgvb (And.intro hB1 (And.intro hql ho)))))))))
  clear hL hg hX hng hqg hv hgvb hpm hLp hL1 hgvm hgvo hcq hcq1 hfz hNx hqo hB1 HL n0 n1 n2 n3 n4 a0 a1 a2 a3 a4 a5 a6 a1w hw0 hw1 f hrk
  have e9 : rl * 5 + 4 = o := HALL.out.2.2.2.2.2.2.2.2.2
  have hltq : (ql : Int) < (ql : Int) + 1 := by omega
  apply once
  · intro HGO
    apply once
    · intro HGabls
      apply once
      · intro HGablt
        apply once
        · intro HGabl
          apply once
          · intro HGbl
            apply once
            · intro HGl
              apply once
              · intro HGb
                refine wp_region_held_drew (S := (fun wx => wx.cell? ⟨w.heap.size, 0, none⟩ = some (.int .i64 n.kind) ∧ wx.cell? ⟨w.heap.size, 1, none⟩ = some (.string (tx n.text)) ∧ wx.cell? ⟨w.heap.size, 2, none⟩ = some (.int .i64 n.num) ∧ wx.cell? ⟨w.heap.size, 3, none⟩ = some (.int .i64 n.at_) ∧ wx.cell? ⟨w.heap.size, 4, none⟩ = some (.slice An n.l.length cn))) (by kernel_rfl) (HSX.out _ (Below.refl _ _).drew) (fun hHeld => ?_)
                refine wpAnyH_take (i := 0) (oi := { dst := some 29, op := Go.Op.move (Go.Operand.tmp 4), type := 78, pos := "sexp.go:117", after := #[], guard := none }) (v := ?_) rfl (by kernel_rfl) (by kernel_rfl) (by kernel_rfl) (fun _ _ _ h => h) (Or.inl ⟨by rfl, ?_⟩) hHeld ?_
                rotate_left
                · intro w hSw
                  (try dsimp only at hSw)
                  go_simp
                  all_goals with_reducible rfl
                (try simp only [Act.put, List.setIfInBounds_toArray, List.set_cons_zero, List.set_cons_succ])
                refine wpAnyH_take (i := 1) (oi := { dst := some 30, op := Go.Op.nilCheck (Go.Operand.tmp 29), type := 0, pos := "sexp.go:117", after := #[{ on := 0, ground := Go.Ground.data }], guard := none }) (v := ?_) rfl (by kernel_rfl) (by kernel_rfl) (by kernel_rfl) (fun _ _ _ h => h) (Or.inl ⟨by rfl, ?_⟩) hHeld ?_
                rotate_left
                · intro w hSw
                  (try dsimp only at hSw)
                  go_simp
                  all_goals with_reducible rfl
                (try simp only [Act.put, List.setIfInBounds_toArray, List.set_cons_zero, List.set_cons_succ])
                refine wpAnyH_take (i := 2) (oi := { dst := some 31, op := Go.Op.fieldAddr 24 (Go.Operand.tmp 30) 4, type := 0, pos := "sexp.go:117", after := #[{ on := 1, ground := Go.Ground.data }], guard := none }) (v := ?_) rfl (by kernel_rfl) (by kernel_rfl) (by kernel_rfl) (fun _ _ _ h => h) (Or.inl ⟨by rfl, ?_⟩) hHeld ?_
                rotate_left
                · intro w hSw
                  (try dsimp only at hSw)
                  go_simp
                  all_goals with_reducible rfl
                (try simp only [Act.put, List.setIfInBounds_toArray, List.set_cons_zero, List.set_cons_succ])
                refine wpAnyH_take (i := 4) (oi := { dst := some 33, op := Go.Op.load 24 (Go.Operand.tmp 3), type := 24, pos := "sexp.go:117", after := #[], guard := none }) (v := ?_) rfl (by kernel_rfl) (by kernel_rfl) (by kernel_rfl) (fun _ _ _ h => h) (Or.inl ⟨by rfl, ?_⟩) hHeld ?_
                rotate_left
                · intro w hSw
                  (try dsimp only at hSw)
                  go_simp
                  all_goals with_reducible rfl
                (try simp only [Act.put, List.setIfInBounds_toArray, List.set_cons_zero, List.set_cons_succ])
                obtain ⟨x0, hx0⟩ : ∃ x, x = w1.drew := ⟨_, rfl⟩
                rw [← hx0]
                have HB : Hid (Below w1.heap.size w1 x0) := Lib.hid (by rw [hx0]; exact (Below.refl _ _).drew)
                clear hx0
                refine wpAnyH_ready (rs := [3, 6]) (by kernel_rfl) (by simp) ?_
                refine AllReadyH.cons (o := { dst := some 32, op := Go.Op.load 22 (Go.Operand.tmp 31), type := 22, pos := "sexp.go:117", after := #[{ on := 2, ground := Go.Ground.data }], guard := none }) rfl (fun K hK => ?_) (AllReadyH.cons (o := { dst := some 35, op := Go.Op.buildSlice 22 1 #[(0, Go.Operand.const (Go.Value.agg #[Go.Value.int Go.IntKind.i64 0, Go.Value.string { data := #[] }, Go.Value.int Go.IntKind.i64 0, Go.Value.int Go.IntKind.i64 0, Go.Value.slice none 0 0]))], type := 22, pos := "sexp.go:117", after := #[], guard := none }) rfl (fun K hK => ?_) AllReadyH.nil)
                · have c4 := HC.out _ HB.out
                  go_simp
                  clear hHeld
                  refine hK.out _ _ (HSX.out _ HB.out) (fun hHeld => ?_)
                  clear hK K
                  (try simp only [Act.put, List.setIfInBounds_toArray, List.set_cons_zero, List.set_cons_succ])
                  clear c4
                  refine wpAnyH_take (i := 5) (oi := { dst := some 34, op := Go.Op.call { callee := Go.Callee.builtin Go.Builtin.len, args := #[Go.Operand.tmp 32], argTypes := #[22] }, type := 3, pos := "sexp.go:117", after := #[{ on := 3, ground := Go.Ground.data }], guard := none }) (v := ?_) rfl (by kernel_rfl) (by kernel_rfl) (by kernel_rfl) (fun _ _ _ h => h) (Or.inl ⟨by rfl, ?_⟩) hHeld ?_
                  rotate_left
                  · intro w hSw
                    (try dsimp only at hSw)
                    go_simp
                    all_goals with_reducible rfl
                  (try simp only [Act.put, List.setIfInBounds_toArray, List.set_cons_zero, List.set_cons_succ])
                  clear hHeld
                  revert HB; revert x0
                  exact HGl.out
                · go_simp
                  have hBa := below_new x0 (.cells #[.int .i64 0, .string ⟨#[]⟩, .int .i64 0, .int .i64 0, .slice none 0 0] 24)
                  clear hHeld
                  refine hK.out _ _ (HSX.out _ (HB.out.trans (hBa.mono HB.out.size))) (fun hHeld => ?_)
                  clear hK K
                  (try simp only [Act.put, List.setIfInBounds_toArray, List.set_cons_zero, List.set_cons_succ])
                  obtain ⟨g6, hg6⟩ : ∃ q, q = x0.heap.size := ⟨_, rfl⟩
                  obtain ⟨x1, hx1⟩ : ∃ q, q = x0.alloc (.cells #[.int .i64 0, .string ⟨#[]⟩, .int .i64 0, .int .i64 0, .slice none 0 0] 24) := ⟨_, rfl⟩
                  rw [← hg6, ← hx1]
                  rw [← hx1] at hBa hHeld
                  have HBn := Lib.hid (HB.out.trans (hBa.mono HB.out.size))
                  have HX6 : Hid (x1.heap[g6]? = some (.cells #[.int .i64 0, .string ⟨#[]⟩, .int .i64 0, .int .i64 0, .slice none 0 0] 24)) := Lib.hid (by rw [hx1, hg6]; exact heap_alloc_new _ _)
                  clear HB hBa hg6 hx1
                  have HB := HBn
                  clear HBn
                  clear hHeld
                  revert HX6; revert HB; revert x1; revert g6
                  exact HGb.out
              · intro g6 x0 HB HX6
                have hHeld := HSX.out _ HB.out
                refine wpAnyH_ready (rs := [3]) (by kernel_rfl) (by simp) ?_
                refine AllReadyH.cons (o := { dst := some 32, op := Go.Op.load 22 (Go.Operand.tmp 31), type := 22, pos := "sexp.go:117", after := #[{ on := 2, ground := Go.Ground.data }], guard := none }) rfl (fun K hK => ?_) AllReadyH.nil
                have c4 := HC.out _ HB.out
                go_simp
                clear hHeld
                refine hK.out _ _ (HSX.out _ HB.out) (fun hHeld => ?_)
                clear hK K
                (try simp only [Act.put, List.setIfInBounds_toArray, List.set_cons_zero, List.set_cons_succ])
                clear c4
                refine wpAnyH_take (i := 5) (oi := { dst := some 34, op := Go.Op.call { callee := Go.Callee.builtin Go.Builtin.len, args := #[Go.Operand.tmp 32], argTypes := #[22] }, type := 3, pos := "sexp.go:117", after := #[{ on := 3, ground := Go.Ground.data }], guard := none }) (v := ?_) rfl (by kernel_rfl) (by kernel_rfl) (by kernel_rfl) (fun _ _ _ h => h) (Or.inl ⟨by rfl, ?_⟩) hHeld ?_
                rotate_left
                · intro w hSw
                  (try dsimp only at hSw)
                  go_simp
                  all_goals with_reducible rfl
                (try simp only [Act.put, List.setIfInBounds_toArray, List.set_cons_zero, List.set_cons_succ])
                clear hHeld
                revert HX6; revert HB; revert x0; revert g6
                exact HGbl.out
            · intro x0 HB
              have hHeld := HSX.out _ HB.out
              refine wpAnyH_ready (rs := [6]) (by kernel_rfl) (by simp) ?_
              refine AllReadyH.cons (o := { dst := some 35, op := Go.Op.buildSlice 22 1 #[(0, Go.Operand.const (Go.Value.agg #[Go.Value.int Go.IntKind.i64 0, Go.Value.string { data := #[] }, Go.Value.int Go.IntKind.i64 0, Go.Value.int Go.IntKind.i64 0, Go.Value.slice none 0 0]))], type := 22, pos := "sexp.go:117", after := #[], guard := none }) rfl (fun K hK => ?_) AllReadyH.nil
              go_simp
              have hBa := below_new x0 (.cells #[.int .i64 0, .string ⟨#[]⟩, .int .i64 0, .int .i64 0, .slice none 0 0] 24)
              clear hHeld
              refine hK.out _ _ (HSX.out _ (HB.out.trans (hBa.mono HB.out.size))) (fun hHeld => ?_)
              clear hK K
              (try simp only [Act.put, List.setIfInBounds_toArray, List.set_cons_zero, List.set_cons_succ])
              obtain ⟨g6, hg6⟩ : ∃ q, q = x0.heap.size := ⟨_, rfl⟩
              obtain ⟨x1, hx1⟩ : ∃ q, q = x0.alloc (.cells #[.int .i64 0, .string ⟨#[]⟩, .int .i64 0, .int .i64 0, .slice none 0 0] 24) := ⟨_, rfl⟩
              rw [← hg6, ← hx1]
              rw [← hx1] at hBa hHeld
              have HBn := Lib.hid (HB.out.trans (hBa.mono HB.out.size))
              have HX6 : Hid (x1.heap[g6]? = some (.cells #[.int .i64 0, .string ⟨#[]⟩, .int .i64 0, .int .i64 0, .slice none 0 0] 24)) := Lib.hid (by rw [hx1, hg6]; exact heap_alloc_new _ _)
              clear HB hBa hg6 hx1
              have HB := HBn
              clear HBn
              clear hHeld
              exact HGbl.out g6 x1 HB HX6
          · intro g6 x0 HB HX6
            have hHeld := HSX.out _ HB.out
            refine wpAnyH_ready (rs := [7]) (by kernel_rfl) (by simp) ?_
            refine AllReadyH.cons (o := { dst := some 36, op := Go.Op.call { callee := Go.Callee.builtin Go.Builtin.append, args := #[Go.Operand.tmp 32, Go.Operand.tmp 35], argTypes := #[22, 22] }, type := 22, pos := "sexp.go:117", after := #[{ on := 3, ground := Go.Ground.data }, { on := 6, ground := Go.Ground.data }, { on := 0, ground := Go.Ground.phase }, { on := 1, ground := Go.Ground.phase }, { on := 2, ground := Go.Ground.phase }, { on := 3, ground := Go.Ground.phase }, { on := 4, ground := Go.Ground.phase }, { on := 5, ground := Go.Ground.phase }, { on := 6, ground := Go.Ground.phase }], guard := none }) rfl (fun K hK => ?_) AllReadyH.nil
            (refine step_append_lies _ rfl _ _ 22 rfl b 24 j0 _ 5 64 Tryd.underlying22 hj hz0 hz1 hz2 rfl (by decide) (.slice Aq ql cq) (ql) (q.l.flatMap LN.cells) (by simp [Act.eval, Act.put]) (HOWN.out _ HB.out) ⟨g6, 0, none⟩ 1 1 [.int .i64 0, .string ⟨#[]⟩, .int .i64 0, .int .i64 0, .slice none 0 0] (by simp [Act.eval, Act.put]) rfl (World.news_of_block HX6.out) (by simp [Value.oneCell']) (by decide) (by unfold maxLen; omega) (by omega) (by have := HB.out.size; omega) x0.heap.size rfl ?_; intro g8 c8 x1 hown8 hg8 hat8 hlt8)
            have HA := Lib.hid (App.made (gv := gv) (off := o) HB.out hown8 hg8 hat8 hgvw hgvn)
            clear hHeld
            refine hK.out _ _ (HSA.out _ _ _ _ _ HA.out) (fun hHeld => ?_)
            clear hK K
            (try simp only [Act.put, List.setIfInBounds_toArray, List.set_cons_zero, List.set_cons_succ])
            clear HB HX6 hown8 hg8 hat8 hlt8
            refine wpAnyH_take (i := 8) (oi := { dst := some 37, op := Go.Op.indexAddr 22 (Go.Operand.tmp 36) (Go.Operand.tmp 34), type := 0, pos := "sexp.go:117", after := #[{ on := 7, ground := Go.Ground.data }, { on := 5, ground := Go.Ground.data }, { on := 0, ground := Go.Ground.phase }, { on := 1, ground := Go.Ground.phase }, { on := 2, ground := Go.Ground.phase }, { on := 3, ground := Go.Ground.phase }, { on := 4, ground := Go.Ground.phase }, { on := 5, ground := Go.Ground.phase }, { on := 6, ground := Go.Ground.phase }, { on := 7, ground := Go.Ground.phase }, { on := 12, ground := Go.Ground.gcOnly Go.Departure.appendInPlace }], guard := none }) (v := ?_) rfl (by kernel_rfl) (by kernel_rfl) (by kernel_rfl) (fun _ _ _ h => h) (Or.inl ⟨by rfl, ?_⟩) hHeld ?_
            rotate_left
            · intro w hSw
              (try dsimp only at hSw)
              go_simp
              all_goals with_reducible rfl
            (try simp only [Act.put, List.setIfInBounds_toArray, List.set_cons_zero, List.set_cons_succ])
            refine wpAnyH_take (i := 10) (oi := { dst := some 38, op := Go.Op.nilCheck (Go.Operand.tmp 29), type := 0, pos := "sexp.go:117", after := #[{ on := 0, ground := Go.Ground.data }, { on := 0, ground := Go.Ground.phase }, { on := 1, ground := Go.Ground.phase }, { on := 2, ground := Go.Ground.phase }, { on := 3, ground := Go.Ground.phase }, { on := 4, ground := Go.Ground.phase }, { on := 5, ground := Go.Ground.phase }, { on := 6, ground := Go.Ground.phase }, { on := 7, ground := Go.Ground.phase }, { on := 8, ground := Go.Ground.textOnly Go.Departure.appendInPlace }, { on := 9, ground := Go.Ground.textOnly Go.Departure.appendInPlace }], guard := none }) (v := ?_) rfl (by kernel_rfl) (by kernel_rfl) (by kernel_rfl) (fun _ _ _ h => h) (Or.inl ⟨by rfl, ?_⟩) hHeld ?_
            rotate_left
            · intro w hSw
              (try dsimp only at hSw)
              go_simp
              all_goals with_reducible rfl
            (try simp only [Act.put, List.setIfInBounds_toArray, List.set_cons_zero, List.set_cons_succ])
            refine wpAnyH_take (i := 11) (oi := { dst := some 39, op := Go.Op.fieldAddr 24 (Go.Operand.tmp 38) 4, type := 0, pos := "sexp.go:117", after := #[{ on := 10, ground := Go.Ground.data }, { on := 0, ground := Go.Ground.phase }, { on := 1, ground := Go.Ground.phase }, { on := 2, ground := Go.Ground.phase }, { on := 3, ground := Go.Ground.phase }, { on := 4, ground := Go.Ground.phase }, { on := 5, ground := Go.Ground.phase }, { on := 6, ground := Go.Ground.phase }, { on := 7, ground := Go.Ground.phase }, { on := 8, ground := Go.Ground.textOnly Go.Departure.appendInPlace }, { on := 9, ground := Go.Ground.textOnly Go.Departure.appendInPlace }], guard := none }) (v := ?_) rfl (by kernel_rfl) (by kernel_rfl) (by kernel_rfl) (fun _ _ _ h => h) (Or.inl ⟨by rfl, ?_⟩) hHeld ?_
            rotate_left
            · intro w hSw
              (try dsimp only at hSw)
              go_simp
              all_goals with_reducible rfl
            (try simp only [Act.put, List.setIfInBounds_toArray, List.set_cons_zero, List.set_cons_succ])
            clear hHeld
            revert HA; revert x1; revert c8; revert g8; revert g6
            exact HGabl.out
        · intro g6 g8 c8 x0 HA
          have hHeld := HSA.out _ _ _ _ _ HA.out
          refine wpAnyH_ready (rs := [9, 12]) (by kernel_rfl) (by simp) ?_
          refine AllReadyH.cons (o := { dst := none, op := Go.Op.store 24 (Go.Operand.tmp 37) (Go.Operand.tmp 33), type := 0, pos := "sexp.go:117", after := #[{ on := 8, ground := Go.Ground.data }, { on := 4, ground := Go.Ground.data }, { on := 7, ground := Go.Ground.chain }, { on := 0, ground := Go.Ground.phase }, { on := 1, ground := Go.Ground.phase }, { on := 2, ground := Go.Ground.phase }, { on := 3, ground := Go.Ground.phase }, { on := 4, ground := Go.Ground.phase }, { on := 5, ground := Go.Ground.phase }, { on := 6, ground := Go.Ground.phase }, { on := 7, ground := Go.Ground.phase }, { on := 12, ground := Go.Ground.gcOnly Go.Departure.appendInPlace }], guard := none }) rfl (fun K hK => ?_) (AllReadyH.cons (o := { dst := none, op := Go.Op.store 22 (Go.Operand.tmp 39) (Go.Operand.tmp 36), type := 0, pos := "sexp.go:117", after := #[{ on := 11, ground := Go.Ground.data }, { on := 7, ground := Go.Ground.data }, { on := 7, ground := Go.Ground.chain }, { on := 9, ground := Go.Ground.textOnly Go.Departure.appendInPlace }, { on := 0, ground := Go.Ground.phase }, { on := 1, ground := Go.Ground.phase }, { on := 2, ground := Go.Ground.phase }, { on := 3, ground := Go.Ground.phase }, { on := 4, ground := Go.Ground.phase }, { on := 5, ground := Go.Ground.phase }, { on := 6, ground := Go.Ground.phase }, { on := 7, ground := Go.Ground.phase }, { on := 8, ground := Go.Ground.textOnly Go.Departure.appendInPlace }, { on := 9, ground := Go.Ground.textOnly Go.Departure.appendInPlace }], guard := none }) rfl (fun K hK => ?_) AllReadyH.nil)
          · rw [if_pos (by rfl)]
            refine wp_store_mid _ _ _ rfl g8 (ql * 5) #[.int .i64 n.kind, .string (tx n.text), .int .i64 n.num, .int .i64 n.at_, .slice An n.l.length cn] rfl rfl (own_there HA.out.row (show ql * 5 + 5 ≤ (ql + 1) * 5 by omega)) sz_node (all_oneCell_toArray (cs := [.int .i64 n.kind, .string (tx n.text), .int .i64 n.num, .int .i64 n.at_, .slice An n.l.length cn]) h5) ?_
            have HAn := Lib.hid (HA.out.elem hgvw hgvn (vs := [.int .i64 n.kind, .string (tx n.text), .int .i64 n.num, .int .i64 n.at_, .slice An n.l.length cn]) rfl hx5)
            clear hHeld
            refine hK.out _ _ (HSA.out _ _ _ _ _ HAn.out) (fun hHeld => ?_)
            clear hK K
            (try simp only [Act.put, List.setIfInBounds_toArray, List.set_cons_zero, List.set_cons_succ])
            obtain ⟨x1, hx1⟩ : ∃ q, q = x0.setCells g8 (ql * 5) [.int .i64 n.kind, .string (tx n.text), .int .i64 n.num, .int .i64 n.at_, .slice An n.l.length cn] := ⟨_, rfl⟩
            (try rw [show (#[.int .i64 n.kind, .string (tx n.text), .int .i64 n.num, .int .i64 n.at_, .slice An n.l.length cn] : Array Value).toList = [.int .i64 n.kind, .string (tx n.text), .int .i64 n.num, .int .i64 n.at_, .slice An n.l.length cn] from rfl])
            rw [← hx1]
            rw [← hx1] at HAn hHeld
            clear HA hx1
            have HA := HAn
            clear HAn
            clear hHeld
            revert HA; revert x1; revert c8; revert g8; revert g6
            exact HGabls.out
          · obtain ⟨ct, ft⟩ := HCT.out _ _ _ _ HA.out
            go_simp
            have HAn := Lib.hid (HA.out.slot hgvw hgvn)
            clear hHeld
            refine hK.out _ _ (HSA.out _ _ _ _ _ HAn.out) (fun hHeld => ?_)
            clear hK K
            (try simp only [Act.put, List.setIfInBounds_toArray, List.set_cons_zero, List.set_cons_succ])
            obtain ⟨x1, hx1⟩ : ∃ q, q = x0.setCell ⟨gv, o, none⟩ (.slice (some ⟨g8, 0, none⟩) (ql + 1) c8) := ⟨_, rfl⟩
            rw [← hx1]
            rw [← hx1] at HAn hHeld
            clear HA hx1 ct ft
            have HA := HAn
            clear HAn
            clear hHeld
            revert HA; revert x1; revert c8; revert g8; revert g6
            exact HGablt.out
      · intro g6 g8 c8 x0 HA
        have hHeld := HSA.out _ _ _ _ _ HA.out
        refine wpAnyH_ready (rs := [9]) (by kernel_rfl) (by simp) ?_
        refine AllReadyH.cons (o := { dst := none, op := Go.Op.store 24 (Go.Operand.tmp 37) (Go.Operand.tmp 33), type := 0, pos := "sexp.go:117", after := #[{ on := 8, ground := Go.Ground.data }, { on := 4, ground := Go.Ground.data }, { on := 7, ground := Go.Ground.chain }, { on := 0, ground := Go.Ground.phase }, { on := 1, ground := Go.Ground.phase }, { on := 2, ground := Go.Ground.phase }, { on := 3, ground := Go.Ground.phase }, { on := 4, ground := Go.Ground.phase }, { on := 5, ground := Go.Ground.phase }, { on := 6, ground := Go.Ground.phase }, { on := 7, ground := Go.Ground.phase }, { on := 12, ground := Go.Ground.gcOnly Go.Departure.appendInPlace }], guard := none }) rfl (fun K hK => ?_) AllReadyH.nil
        rw [if_pos (by rfl)]
        refine wp_store_mid _ _ _ rfl g8 (ql * 5) #[.int .i64 n.kind, .string (tx n.text), .int .i64 n.num, .int .i64 n.at_, .slice An n.l.length cn] rfl rfl (own_there HA.out.row (show ql * 5 + 5 ≤ (ql + 1) * 5 by omega)) sz_node (all_oneCell_toArray (cs := [.int .i64 n.kind, .string (tx n.text), .int .i64 n.num, .int .i64 n.at_, .slice An n.l.length cn]) h5) ?_
        have HAn := Lib.hid (HA.out.elem hgvw hgvn (vs := [.int .i64 n.kind, .string (tx n.text), .int .i64 n.num, .int .i64 n.at_, .slice An n.l.length cn]) rfl hx5)
        clear hHeld
        refine hK.out _ _ (HSA.out _ _ _ _ _ HAn.out) (fun hHeld => ?_)
        clear hK K
        (try simp only [Act.put, List.setIfInBounds_toArray, List.set_cons_zero, List.set_cons_succ])
        obtain ⟨x1, hx1⟩ : ∃ q, q = x0.setCells g8 (ql * 5) [.int .i64 n.kind, .string (tx n.text), .int .i64 n.num, .int .i64 n.at_, .slice An n.l.length cn] := ⟨_, rfl⟩
        (try rw [show (#[.int .i64 n.kind, .string (tx n.text), .int .i64 n.num, .int .i64 n.at_, .slice An n.l.length cn] : Array Value).toList = [.int .i64 n.kind, .string (tx n.text), .int .i64 n.num, .int .i64 n.at_, .slice An n.l.length cn] from rfl])
        rw [← hx1]
        rw [← hx1] at HAn hHeld
        clear HA hx1
        have HA := HAn
        clear HAn
        clear hHeld
        revert HA; revert x1; revert c8; revert g8; revert g6
        exact HGO.out
    · intro g6 g8 c8 x0 HA
      have hHeld := HSA.out _ _ _ _ _ HA.out
      refine wpAnyH_ready (rs := [12]) (by kernel_rfl) (by simp) ?_
      refine AllReadyH.cons (o := { dst := none, op := Go.Op.store 22 (Go.Operand.tmp 39) (Go.Operand.tmp 36), type := 0, pos := "sexp.go:117", after := #[{ on := 11, ground := Go.Ground.data }, { on := 7, ground := Go.Ground.data }, { on := 7, ground := Go.Ground.chain }, { on := 9, ground := Go.Ground.textOnly Go.Departure.appendInPlace }, { on := 0, ground := Go.Ground.phase }, { on := 1, ground := Go.Ground.phase }, { on := 2, ground := Go.Ground.phase }, { on := 3, ground := Go.Ground.phase }, { on := 4, ground := Go.Ground.phase }, { on := 5, ground := Go.Ground.phase }, { on := 6, ground := Go.Ground.phase }, { on := 7, ground := Go.Ground.phase }, { on := 8, ground := Go.Ground.textOnly Go.Departure.appendInPlace }, { on := 9, ground := Go.Ground.textOnly Go.Departure.appendInPlace }], guard := none }) rfl (fun K hK => ?_) AllReadyH.nil
      obtain ⟨ct, ft⟩ := HCT.out _ _ _ _ HA.out
      go_simp
      have HAn := Lib.hid (HA.out.slot hgvw hgvn)
      clear hHeld
      refine hK.out _ _ (HSA.out _ _ _ _ _ HAn.out) (fun hHeld => ?_)
      clear hK K
      (try simp only [Act.put, List.setIfInBounds_toArray, List.set_cons_zero, List.set_cons_succ])
      obtain ⟨x1, hx1⟩ : ∃ q, q = x0.setCell ⟨gv, o, none⟩ (.slice (some ⟨g8, 0, none⟩) (ql + 1) c8) := ⟨_, rfl⟩
      rw [← hx1]
      rw [← hx1] at HAn hHeld
      clear HA hx1 ct ft
      have HA := HAn
      clear HAn
      clear hHeld
      exact HGO.out g6 g8 c8 x1 HA
  intro g6 g8 c8 x0 HA
  have hHeld := HSA.out _ _ _ _ _ HA.out
  refine wpAnyH_done (by kernel_rfl) ?_ _
  go_wp2
  go_end0
  obtain ⟨hLp, hg, hX, hng, hqg, hv, hgvb, hB1, hql, ho⟩ := HALL.out
  rw [← hng] at HA
  obtain ⟨p1, p2, p3, p4⟩ := put_post (n := n) hb hLp hg hX hqg hv hgvb hB1 hql (by rw [HRL.out]; exact ho) HA.out
  exact ⟨rfl, ⟨_, p1, p2, p3⟩, p4⟩
end Go.Proofs.YtceomdbahiimlaaDoor.T14
