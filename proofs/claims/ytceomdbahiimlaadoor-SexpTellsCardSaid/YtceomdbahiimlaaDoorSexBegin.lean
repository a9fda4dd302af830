/-
  The reader that makes a node of tokens: a list begins.
-/
import Derived.Test.YtceomdbahiimlaaDoorSexPut
namespace Go.Proofs.YtceomdbahiimlaaDoor.T14
set_option maxRecDepth 100000

open Go.RowKit

def newL (a : Int) : LN := .mk 4 [] 0 a (.slice none 0 0) []
theorem RSt.more {b K K' : Nat} {w : World} {g : Nat} {o : List LN} {wh : Option LN} (h : RSt b K w g o wh) (hK : K ≤ K') : RSt b K' w g o wh := by
  obtain ⟨⟨vo, h1, h2, h3⟩, h4⟩ := h
  exact ⟨⟨vo, h1, h2.more hK, h3⟩, h4⟩
theorem begin_full (b K g : Nat) (o : List LN) (a : Int) (w : World) (h : RSt b K w g o none) (hl : o.length = 16) :
    Calls Tryd.prog 34 #[.pointer (some ⟨g, 0, none⟩), .int .i64 a] w fun e w' => e = .returned (.int .i64 2) ∧ w' = w := by
  obtain ⟨⟨vo, hX, hL, hg⟩, hbg⟩ := h
  obtain ⟨A, c, hv, -⟩ := Sl.of_own (hL.own (rwO vo o) (List.mem_cons_self ..)).1
  have hv : vo = .slice A o.length c := hv
  rw [hl] at hv
  obtain ⟨a0, a1, a2, a3, a4, a5, a6⟩ := seven_cells hX
  rw [hv] at a1
  clear hX hL hg hv hl
  go_enter Tryd.func34, Tryd.ntmps34
  go_wp2
  go_ret
  exact ⟨rfl, rfl⟩
theorem begin_post {b K g ol c0 g8 c8 : Nat} {o : List LN} {a : Int} {vo : Value} {A0 : Option Addr} {w x : World} (hb : b ≤ w.heap.size) (hbg : b ≤ g) (hX : RBox w g (stN o none) vo LN.zero) (hL : Lies b K w (rowsP vo o [])) (hg : g ∉ blocks (rowsP vo o [])) (hv : vo = .slice A0 ol c0) (hol : o.length = ol)
    (HA : App b w x (.slice A0 ol c0) ol (o.reverse.flatMap LN.cells) g 1 g8 c8 [.int .i64 4, .string ⟨#[]⟩, .int .i64 0, .int .i64 a, .slice none 0 0] true) :
    x.heap[g]? = some (.cells #[.int .i64 (stN o none), .slice (some ⟨g8, 0, none⟩) (ol + 1) c8, .int .i64 0, .string ⟨#[]⟩, .int .i64 0, .int .i64 0, .slice none 0 0] 43 (0, 0)) ∧ RSt b (K + 1) (x.setCell ⟨g, 0, none⟩ (.int .i64 1)) g (newL a :: o) none ∧ Below b w (x.setCell ⟨g, 0, none⟩ (.int .i64 1)) := by
  have hgw := box_lt hX
  have hvb : (Value.slice A0 ol c0).ownBlock = vo.ownBlock := by rw [hv]
  obtain ⟨n1, l1⟩ := hL.head
  have hgn : some g ≠ (Value.slice A0 ol c0).ownBlock := fun e => hg (mem_blocks (r := rwO vo o) (List.mem_cons_self ..) (show vo.ownBlock = some g from by rw [← hvb]; exact e.symm))
  have hvo : ∀ k, vo.ownBlock = some k → b ≤ k ∧ k < w.heap.size := fun k hk => own_blk (hL.own (rwO vo o) (List.mem_cons_self ..)).1 k hk
  have h8 := HA.ne hgw hgn
  have hXx : x.heap[g]? = some (.cells #[.int .i64 (stN o none), .slice (some ⟨g8, 0, none⟩) (ol + 1) c8, .int .i64 0, .string ⟨#[]⟩, .int .i64 0, .int .i64 0, .slice none 0 0] 43 (0, 0)) := by
    have h1 := HA.top
    rw [if_pos rfl] at h1
    unfold RBox at hX
    have h2 := heap_setCell_same w g 1 #[.int .i64 (stN o none), vo, .int .i64 LN.zero.kind, .string (tx LN.zero.text), .int .i64 LN.zero.num, .int .i64 LN.zero.at_, LN.zero.g] 43 (.slice (some ⟨g8, 0, none⟩) (ol + 1) c8) hX
    rw [h1, h2]
    rfl
  have hold : ∀ k, k < w.heap.size → some k ≠ vo.ownBlock → k ≠ g → x.heap[k]? = w.heap[k]? := fun k hk k1 k2 => HA.far k hk (by rw [hvb]; exact k1) k2
  have hset := heap_setCell_same x g 0 _ _ (.int .i64 1) hXx
  have hfarg : ∀ k, k ≠ g → (x.setCell ⟨g, 0, none⟩ (.int .i64 1)).heap[k]? = x.heap[k]? := fun k hk => set_far (fun e => hk e.symm)
  have hrest : Lies b K (x.setCell ⟨g, 0, none⟩ (.int .i64 1)) (rowsL o) := by
    have h0 : Lies b K w (rowsL o) := by simpa [rowsL] using l1
    refine h0.kept fun k hk => ?_
    have hk2 : k ∈ blocks (rowsL o ++ rowsL []) := by simpa [rowsL] using hk
    have hkg : k ≠ g := fun e => hg (blocks_cons_le (e ▸ hk2))
    exact (hfarg k hkg).trans (hold k (h0.old hk).2 (fun e => n1 k e.symm hk2) hkg)
  have hrow : (x.setCell ⟨g, 0, none⟩ (.int .i64 1)).ownsRow b 24 5 (.slice (some ⟨g8, 0, none⟩) (ol + 1) c8) (ol + 1) (o.reverse.flatMap LN.cells ++ (newL a).cells) := own_kept HA.row fun k hk _ => hfarg k (fun e => h8 (by
    have : g8 = k := by simpa [Value.ownBlock] using hk
    rw [this, e]))
  have hnk : ol ≤ K := hol ▸ (hL.own (rwO vo o) (List.mem_cons_self ..)).2
  have hnil : rowsP (.slice (some ⟨g8, 0, none⟩) (ol + 1) c8) (newL a :: o) [] = rwO (.slice (some ⟨g8, 0, none⟩) (ol + 1) c8) (newL a :: o) :: rwN (newL a) :: rowsL o := by
    unfold rowsP
    rw [rowsL_cons, LN.rows_eq]
    simp [rowsL, newL, LN.l]
  have h8o : g8 ∉ blocks (rowsL o) := fun hk => by
    have hk2 : g8 ∈ blocks (rowsL o ++ rowsL []) := by simpa [rowsL] using hk
    rcases HA.at8 with h | h
    · rw [hvb] at h; exact n1 g8 h hk2
    · have h0 : Lies b K w (rowsL o) := by simpa [rowsL] using l1
      have := (h0.old hk).2
      omega
  have hL1 := (hrest.more (Nat.le_succ K)).cons (r := rwN (newL a)) (World.ownsRow_nil _ _ _ _) (Nat.zero_le _) (fun k hk _ => by simp [rwN, newL, LN.g, Value.ownBlock] at hk)
  have hL2 := hL1.cons (r := rwO (.slice (some ⟨g8, 0, none⟩) (ol + 1) c8) (newL a :: o)) (by
    show World.ownsRow _ _ _ 5 _ (newL a :: o).length ((newL a :: o).reverse.flatMap LN.cells)
    rw [List.length_cons, hol, List.reverse_cons, List.flatMap_append, List.flatMap_cons, List.flatMap_nil, List.append_nil]
    exact hrow) (by show (newL a :: o).length ≤ _; simp [hol]; exact hnk) (fun k hk hm => by
    obtain rfl : g8 = k := by simpa [rwO, Value.ownBlock] using hk
    rcases List.mem_filterMap.1 hm with ⟨y, hy, hyk⟩
    rcases List.mem_cons.1 hy with rfl | hy
    · simp [rwN, newL, LN.g, Value.ownBlock] at hyk
    · exact h8o (mem_blocks hy hyk))
  have hBb : Below b w (x.setCell ⟨g, 0, none⟩ (.int .i64 1)) := ⟨HA.os, HA.tape, HA.output, Nat.le_trans HA.size (by simp), fun k hk => (hfarg k (by omega)).trans (hold k (by omega) (fun e => by have := (hvo k e.symm).1; omega) (by omega))⟩
  refine ⟨hXx, ⟨⟨_, ?_, hnil ▸ hL2, fun hm => ?_⟩, hbg⟩, hBb⟩
  · rw [List.setIfInBounds_toArray, List.set_cons_zero] at hset
    exact hset
  · rw [show (none : Option LN).toList = [] from rfl, hnil] at hm
    rcases List.mem_filterMap.1 hm with ⟨y, hy, hyk⟩
    rcases List.mem_cons.1 hy with rfl | hy
    · exact h8 (by simpa [rwO, Value.ownBlock] using hyk)
    · rcases List.mem_cons.1 hy with rfl | hy
      · simp [rwN, newL, LN.g, Value.ownBlock] at hyk
      · exact hg (blocks_cons_le (by have := mem_blocks hy hyk; simpa [rowsL] using this))
set_option maxRecDepth 1000000 in
set_option maxHeartbeats 4000000 in
theorem begin_ok (b K g : Nat) (o : List LN) (a : Int) (w : World) (hb : b ≤ w.heap.size) (hK : K ≤ 1000000) (h : RSt b K w g o none) (hl : o.length ≠ 16) :
    Calls Tryd.prog 34 #[.pointer (some ⟨g, 0, none⟩), .int .i64 a] w fun e w' => e = .returned (.int .i64 0) ∧ RSt b (K + 1) w' g (newL a :: o) none ∧ Below b w w' := by
  obtain ⟨j0, hj, hz0, hz1, hz2⟩ := info_parts info_node
  obtain ⟨⟨vo, hX, hL, hg⟩, hbg⟩ := h
  have hgw := box_lt hX
  obtain ⟨A0, c0, hv, -⟩ := Sl.of_own (hL.own (rwO vo o) (List.mem_cons_self ..)).1
  have hv : vo = .slice A0 o.length c0 := hv
  obtain ⟨ol, hol⟩ : ∃ ol, o.length = ol := ⟨_, rfl⟩
  rw [hol] at hv hl
  have hok : ol ≤ 1000000 := by have h1 : o.length ≤ K := (hL.own (rwO vo o) (List.mem_cons_self ..)).2; omega
  obtain ⟨a0, a1, a2, a3, a4, a5, a6⟩ := seven_cells hX
  have f := box_froz hX
  rw [hv] at a1
  have HALL := Lib.hid (And.intro hX (And.intro hL (And.intro hg (And.intro hv hol))))
  have d0 : ((ol : Int) == 16) = false := beq_eq_false_iff_ne.2 (by omega)
  clear hX hL hg hv hol hl
  go_enter Tryd.func34, Tryd.ntmps34
  go_wp2_with fail
  obtain ⟨hX, hL, hg, hv, hol⟩ := HALL.out
  obtain ⟨w1, hw1⟩ : ∃ x, x = w := ⟨_, rfl⟩
  have hgvw : g < w1.heap.size := by rw [hw1]; exact hgw
  have hgvn : some g ≠ (Value.slice A0 ol c0).ownBlock := fun e => hg (mem_blocks (r := rwO vo o) (List.mem_cons_self ..) (show vo.ownBlock = some g from by rw [hv]; exact e.symm))
  have HOWN : Hid (∀ x, Below w1.heap.size w1 x → x.ownsRow b 24 5 (.slice A0 ol c0) ol (o.reverse.flatMap LN.cells)) := Lib.hid fun x hx => by
    have h1 : w.ownsRow b 24 5 vo o.length (o.reverse.flatMap LN.cells) := (hL.own (rwO vo o) (List.mem_cons_self ..)).1
    rw [hv, hol, ← hw1] at h1
    exact own_kept h1 fun k _ hk => hx.block k hk
  have hx5 : (o.reverse.flatMap LN.cells).length = ol * 5 := (HOWN.out _ (Below.refl _ _)).1
  have HC : Hid (∀ x, Below w1.heap.size w1 x → x.cell? ⟨g, 1, none⟩ = some (.slice A0 ol c0)) := Lib.hid fun x hx => (hx.cell hgvw).trans (by rw [hw1]; exact a1)
  have HCT : Hid (∀ x g8 c8 tail, App b w1 x (.slice A0 ol c0) ol (o.reverse.flatMap LN.cells) g 1 g8 c8 tail false → x.cell? ⟨g, 1, none⟩ = some (.slice A0 ol c0) ∧ x.frozen? ⟨g, 1, none⟩ = false) := Lib.hid fun x g8 c8 tail h => by
    have h1 : x.heap[g]? = w1.heap[g]? := by have := h.top; rwa [if_neg (by decide)] at this
    rw [hw1] at h1
    exact ⟨(World.cell?_of_block (a := ⟨g, 1, none⟩) h1).trans a1, (World.frozen?_of_block (a := ⟨g, 1, none⟩) h1).trans (f 1)⟩
  have HSX : Hid (∀ x, Below w1.heap.size w1 x → 0 ≤ x.heap.size) := Lib.hid fun _ _ => Nat.zero_le _
  have HSA : Hid (∀ x g8 c8 tail d, App b w1 x (.slice A0 ol c0) ol (o.reverse.flatMap LN.cells) g 1 g8 c8 tail d → 0 ≤ x.heap.size) := Lib.hid fun _ _ _ _ _ _ => Nat.zero_le _
  have hb1 : b ≤ w1.heap.size := by rw [hw1]; exact hb
  have h5 : ∀ v ∈ [(.int .i64 4 : Value), .string ⟨#[]⟩, .int .i64 0, .int .i64 a, .slice none 0 0], v.oneCell' = true := by simp [Value.oneCell']
  have hltq : (ol : Int) < (ol : Int) + 1 := by omega
  have HW := Lib.hid hw1
  rw [← hw1]
  clear hX hL hg hv hol a0 a1 a2 a3 a4 a5 a6 f hw1
  apply once
  · intro HGO
    apply once
    · intro HGabls
      apply once
      · intro HGablt
        apply once
        · intro HGabl
          apply once
          · intro HGbl
            apply once
            · intro HGl
              apply once
              · intro HGb
                refine wp_region_held_drew (S := (fun wx => 0 ≤ wx.heap.size)) (by kernel_rfl) (HSX.out _ (Below.refl _ _).drew) (fun hHeld => ?_)
                refine wpAnyH_take (i := 0) (oi := { dst := some 11, op := Go.Op.move (Go.Operand.tmp 0), type := 64, pos := "sexp.go:97", after := #[], guard := none }) (v := ?_) rfl (by kernel_rfl) (by kernel_rfl) (by kernel_rfl) (fun _ _ _ h => h) (Or.inl ⟨by rfl, ?_⟩) hHeld ?_
                rotate_left
                · intro w hSw
                  (try dsimp only at hSw)
                  go_simp
                  all_goals with_reducible rfl
                (try simp only [Act.put, List.setIfInBounds_toArray, List.set_cons_zero, List.set_cons_succ])
                refine wpAnyH_take (i := 1) (oi := { dst := some 12, op := Go.Op.nilCheck (Go.Operand.tmp 11), type := 0, pos := "sexp.go:97", after := #[{ on := 0, ground := Go.Ground.data }], guard := none }) (v := ?_) rfl (by kernel_rfl) (by kernel_rfl) (by kernel_rfl) (fun _ _ _ h => h) (Or.inl ⟨by rfl, ?_⟩) hHeld ?_
                rotate_left
                · intro w hSw
                  (try dsimp only at hSw)
                  go_simp
                  all_goals with_reducible rfl
                (try simp only [Act.put, List.setIfInBounds_toArray, List.set_cons_zero, List.set_cons_succ])
                refine wpAnyH_take (i := 2) (oi := { dst := some 13, op := Go.Op.fieldAddr 43 (Go.Operand.tmp 12) 1, type := 0, pos := "sexp.go:97", after := #[{ on := 1, ground := Go.Ground.data }], guard := none }) (v := ?_) rfl (by kernel_rfl) (by kernel_rfl) (by kernel_rfl) (fun _ _ _ h => h) (Or.inl ⟨by rfl, ?_⟩) hHeld ?_
                rotate_left
                · intro w hSw
                  (try dsimp only at hSw)
                  go_simp
                  all_goals with_reducible rfl
                (try simp only [Act.put, List.setIfInBounds_toArray, List.set_cons_zero, List.set_cons_succ])
                refine wpAnyH_take (i := 4) (oi := { dst := some 15, op := Go.Op.move (Go.Operand.tmp 1), type := 3, pos := "sexp.go:97", after := #[], guard := none }) (v := ?_) rfl (by kernel_rfl) (by kernel_rfl) (by kernel_rfl) (fun _ _ _ h => h) (Or.inl ⟨by rfl, ?_⟩) hHeld ?_
                rotate_left
                · intro w hSw
                  (try dsimp only at hSw)
                  go_simp
                  all_goals with_reducible rfl
                (try simp only [Act.put, List.setIfInBounds_toArray, List.set_cons_zero, List.set_cons_succ])
                refine wpAnyH_take (i := 5) (oi := { dst := some 16, op := Go.Op.build 24 #[(0, Go.Operand.const (Go.Value.int Go.IntKind.i64 4)), (3, Go.Operand.tmp 15)], type := 24, pos := "sexp.go:97", after := #[{ on := 4, ground := Go.Ground.data }], guard := none }) (v := ?_) rfl (by kernel_rfl) (by kernel_rfl) (by kernel_rfl) (fun _ _ _ h => h) (Or.inl ⟨by rfl, ?_⟩) hHeld ?_
                rotate_left
                · intro w hSw
                  (try dsimp only at hSw)
                  go_simp
                  all_goals with_reducible rfl
                (try simp only [Act.put, List.setIfInBounds_toArray, List.set_cons_zero, List.set_cons_succ])
                obtain ⟨x0, hx0⟩ : ∃ x, x = w1.drew := ⟨_, rfl⟩
                rw [← hx0]
                have HB : Hid (Below w1.heap.size w1 x0) := Lib.hid (by rw [hx0]; exact (Below.refl _ _).drew)
                clear hx0
                refine wpAnyH_ready (rs := [3, 7]) (by kernel_rfl) (by simp) ?_
                refine AllReadyH.cons (o := { dst := some 14, op := Go.Op.load 22 (Go.Operand.tmp 13), type := 22, pos := "sexp.go:97", after := #[{ on := 2, ground := Go.Ground.data }], guard := none }) rfl (fun K hK => ?_) (AllReadyH.cons (o := { dst := some 18, op := Go.Op.buildSlice 22 1 #[(0, Go.Operand.const (Go.Value.agg #[Go.Value.int Go.IntKind.i64 0, Go.Value.string { data := #[] }, Go.Value.int Go.IntKind.i64 0, Go.Value.int Go.IntKind.i64 0, Go.Value.slice none 0 0]))], type := 22, pos := "sexp.go:97", after := #[], guard := none }) rfl (fun K hK => ?_) AllReadyH.nil)
                · have c4 := HC.out _ HB.out
                  go_simp
                  clear hHeld
                  refine hK.out _ _ (HSX.out _ HB.out) (fun hHeld => ?_)
                  clear hK K
                  (try simp only [Act.put, List.setIfInBounds_toArray, List.set_cons_zero, List.set_cons_succ])
                  clear c4
                  refine wpAnyH_take (i := 6) (oi := { dst := some 17, op := Go.Op.call { callee := Go.Callee.builtin Go.Builtin.len, args := #[Go.Operand.tmp 14], argTypes := #[22] }, type := 3, pos := "sexp.go:97", after := #[{ on := 3, ground := Go.Ground.data }], guard := none }) (v := ?_) rfl (by kernel_rfl) (by kernel_rfl) (by kernel_rfl) (fun _ _ _ h => h) (Or.inl ⟨by rfl, ?_⟩) hHeld ?_
                  rotate_left
                  · intro w hSw
                    (try dsimp only at hSw)
                    go_simp
                    all_goals with_reducible rfl
                  (try simp only [Act.put, List.setIfInBounds_toArray, List.set_cons_zero, List.set_cons_succ])
                  clear hHeld
                  revert HB; revert x0
                  exact HGl.out
                · go_simp
                  have hBa := below_new x0 (.cells #[.int .i64 0, .string ⟨#[]⟩, .int .i64 0, .int .i64 0, .slice none 0 0] 24)
                  clear hHeld
                  refine hK.out _ _ (HSX.out _ (HB.out.trans (hBa.mono HB.out.size))) (fun hHeld => ?_)
                  clear hK K
                  (try simp only [Act.put, List.setIfInBounds_toArray, List.set_cons_zero, List.set_cons_succ])
                  obtain ⟨g6, hg6⟩ : ∃ q, q = x0.heap.size := ⟨_, rfl⟩
                  obtain ⟨x1, hx1⟩ : ∃ q, q = x0.alloc (.cells #[.int .i64 0, .string ⟨#[]⟩, .int .i64 0, .int .i64 0, .slice none 0 0] 24) := ⟨_, rfl⟩
                  rw [← hg6, ← hx1]
                  rw [← hx1] at hBa hHeld
                  have HBn := Lib.hid (HB.out.trans (hBa.mono HB.out.size))
                  have HX6 : Hid (x1.heap[g6]? = some (.cells #[.int .i64 0, .string ⟨#[]⟩, .int .i64 0, .int .i64 0, .slice none 0 0] 24)) := Lib.hid (by rw [hx1, hg6]; exact heap_alloc_new _ _)
                  clear HB hBa hg6 hx1
                  have HB := HBn
                  clear HBn
                  clear hHeld
                  revert HX6; revert HB; revert x1; revert g6
                  exact HGb.out
              · intro g6 x0 HB HX6
                have hHeld := HSX.out _ HB.out
                refine wpAnyH_ready (rs := [3]) (by kernel_rfl) (by simp) ?_
                refine AllReadyH.cons (o := { dst := some 14, op := Go.Op.load 22 (Go.Operand.tmp 13), type := 22, pos := "sexp.go:97", after := #[{ on := 2, ground := Go.Ground.data }], guard := none }) rfl (fun K hK => ?_) AllReadyH.nil
                have c4 := HC.out _ HB.out
                go_simp
                clear hHeld
                refine hK.out _ _ (HSX.out _ HB.out) (fun hHeld => ?_)
                clear hK K
                (try simp only [Act.put, List.setIfInBounds_toArray, List.set_cons_zero, List.set_cons_succ])
                clear c4
                refine wpAnyH_take (i := 6) (oi := { dst := some 17, op := Go.Op.call { callee := Go.Callee.builtin Go.Builtin.len, args := #[Go.Operand.tmp 14], argTypes := #[22] }, type := 3, pos := "sexp.go:97", after := #[{ on := 3, ground := Go.Ground.data }], guard := none }) (v := ?_) rfl (by kernel_rfl) (by kernel_rfl) (by kernel_rfl) (fun _ _ _ h => h) (Or.inl ⟨by rfl, ?_⟩) hHeld ?_
                rotate_left
                · intro w hSw
                  (try dsimp only at hSw)
                  go_simp
                  all_goals with_reducible rfl
                (try simp only [Act.put, List.setIfInBounds_toArray, List.set_cons_zero, List.set_cons_succ])
                clear hHeld
                revert HX6; revert HB; revert x0; revert g6
                exact HGbl.out
            · intro x0 HB
              have hHeld := HSX.out _ HB.out
              refine wpAnyH_ready (rs := [7]) (by kernel_rfl) (by simp) ?_
              refine AllReadyH.cons (o := { dst := some 18, op := Go.Op.buildSlice 22 1 #[(0, Go.Operand.const (Go.Value.agg #[Go.Value.int Go.IntKind.i64 0, Go.Value.string { data := #[] }, Go.Value.int Go.IntKind.i64 0, Go.Value.int Go.IntKind.i64 0, Go.Value.slice none 0 0]))], type := 22, pos := "sexp.go:97", after := #[], guard := none }) rfl (fun K hK => ?_) AllReadyH.nil
              go_simp
              have hBa := below_new x0 (.cells #[.int .i64 0, .string ⟨#[]⟩, .int .i64 0, .int .i64 0, .slice none 0 0] 24)
              clear hHeld
              refine hK.out _ _ (HSX.out _ (HB.out.trans (hBa.mono HB.out.size))) (fun hHeld => ?_)
              clear hK K
              (try simp only [Act.put, List.setIfInBounds_toArray, List.set_cons_zero, List.set_cons_succ])
              obtain ⟨g6, hg6⟩ : ∃ q, q = x0.heap.size := ⟨_, rfl⟩
              obtain ⟨x1, hx1⟩ : ∃ q, q = x0.alloc (.cells #[.int .i64 0, .string ⟨#[]⟩, .int .i64 0, .int .i64 0, .slice none 0 0] 24) := ⟨_, rfl⟩
              rw [← hg6, ← hx1]
              rw [← hx1] at hBa hHeld
              have HBn := Lib.hid (HB.out.trans (hBa.mono HB.out.size))
              have HX6 : Hid (x1.heap[g6]? = some (.cells #[.int .i64 0, .string ⟨#[]⟩, .int .i64 0, .int .i64 0, .slice none 0 0] 24)) := Lib.hid (by rw [hx1, hg6]; exact heap_alloc_new _ _)
              clear HB hBa hg6 hx1
              have HB := HBn
              clear HBn
              clear hHeld
              exact HGbl.out g6 x1 HB HX6
          · intro g6 x0 HB HX6
            have hHeld := HSX.out _ HB.out
            refine wpAnyH_ready (rs := [8]) (by kernel_rfl) (by simp) ?_
            refine AllReadyH.cons (o := { dst := some 19, op := Go.Op.call { callee := Go.Callee.builtin Go.Builtin.append, args := #[Go.Operand.tmp 14, Go.Operand.tmp 18], argTypes := #[22, 22] }, type := 22, pos := "sexp.go:97", after := #[{ on := 3, ground := Go.Ground.data }, { on := 7, ground := Go.Ground.data }, { on := 0, ground := Go.Ground.phase }, { on := 1, ground := Go.Ground.phase }, { on := 2, ground := Go.Ground.phase }, { on := 3, ground := Go.Ground.phase }, { on := 4, ground := Go.Ground.phase }, { on := 5, ground := Go.Ground.phase }, { on := 6, ground := Go.Ground.phase }, { on := 7, ground := Go.Ground.phase }], guard := none }) rfl (fun K hK => ?_) AllReadyH.nil
            (refine step_append_lies _ rfl _ _ 22 rfl b 24 j0 _ 5 64 Tryd.underlying22 hj hz0 hz1 hz2 rfl (by decide) (.slice A0 ol c0) (ol) (o.reverse.flatMap LN.cells) (by simp [Act.eval, Act.put]) (HOWN.out _ HB.out) ⟨g6, 0, none⟩ 1 1 [.int .i64 0, .string ⟨#[]⟩, .int .i64 0, .int .i64 0, .slice none 0 0] (by simp [Act.eval, Act.put]) rfl (World.news_of_block HX6.out) (by simp [Value.oneCell']) (by decide) (by unfold maxLen; omega) (by omega) (by have := HB.out.size; omega) x0.heap.size rfl ?_; intro g8 c8 x1 hown8 hg8 hat8 hlt8)
            have HA := Lib.hid (App.made (gv := g) (off := 1) HB.out hown8 hg8 hat8 hgvw hgvn)
            clear hHeld
            refine hK.out _ _ (HSA.out _ _ _ _ _ HA.out) (fun hHeld => ?_)
            clear hK K
            (try simp only [Act.put, List.setIfInBounds_toArray, List.set_cons_zero, List.set_cons_succ])
            clear HB HX6 hown8 hg8 hat8 hlt8
            refine wpAnyH_take (i := 9) (oi := { dst := some 20, op := Go.Op.indexAddr 22 (Go.Operand.tmp 19) (Go.Operand.tmp 17), type := 0, pos := "sexp.go:97", after := #[{ on := 8, ground := Go.Ground.data }, { on := 6, ground := Go.Ground.data }, { on := 0, ground := Go.Ground.phase }, { on := 1, ground := Go.Ground.phase }, { on := 2, ground := Go.Ground.phase }, { on := 3, ground := Go.Ground.phase }, { on := 4, ground := Go.Ground.phase }, { on := 5, ground := Go.Ground.phase }, { on := 6, ground := Go.Ground.phase }, { on := 7, ground := Go.Ground.phase }, { on := 8, ground := Go.Ground.phase }, { on := 13, ground := Go.Ground.gcOnly Go.Departure.appendInPlace }], guard := none }) (v := ?_) rfl (by kernel_rfl) (by kernel_rfl) (by kernel_rfl) (fun _ _ _ h => h) (Or.inl ⟨by rfl, ?_⟩) hHeld ?_
            rotate_left
            · intro w hSw
              (try dsimp only at hSw)
              go_simp
              all_goals with_reducible rfl
            (try simp only [Act.put, List.setIfInBounds_toArray, List.set_cons_zero, List.set_cons_succ])
            refine wpAnyH_take (i := 11) (oi := { dst := some 21, op := Go.Op.nilCheck (Go.Operand.tmp 11), type := 0, pos := "sexp.go:97", after := #[{ on := 0, ground := Go.Ground.data }, { on := 0, ground := Go.Ground.phase }, { on := 1, ground := Go.Ground.phase }, { on := 2, ground := Go.Ground.phase }, { on := 3, ground := Go.Ground.phase }, { on := 4, ground := Go.Ground.phase }, { on := 5, ground := Go.Ground.phase }, { on := 6, ground := Go.Ground.phase }, { on := 7, ground := Go.Ground.phase }, { on := 8, ground := Go.Ground.phase }, { on := 9, ground := Go.Ground.textOnly Go.Departure.appendInPlace }, { on := 10, ground := Go.Ground.textOnly Go.Departure.appendInPlace }], guard := none }) (v := ?_) rfl (by kernel_rfl) (by kernel_rfl) (by kernel_rfl) (fun _ _ _ h => h) (Or.inl ⟨by rfl, ?_⟩) hHeld ?_
            rotate_left
            · intro w hSw
              (try dsimp only at hSw)
              go_simp
              all_goals with_reducible rfl
            (try simp only [Act.put, List.setIfInBounds_toArray, List.set_cons_zero, List.set_cons_succ])
            refine wpAnyH_take (i := 12) (oi := { dst := some 22, op := Go.Op.fieldAddr 43 (Go.Operand.tmp 21) 1, type := 0, pos := "sexp.go:97", after := #[{ on := 11, ground := Go.Ground.data }, { on := 0, ground := Go.Ground.phase }, { on := 1, ground := Go.Ground.phase }, { on := 2, ground := Go.Ground.phase }, { on := 3, ground := Go.Ground.phase }, { on := 4, ground := Go.Ground.phase }, { on := 5, ground := Go.Ground.phase }, { on := 6, ground := Go.Ground.phase }, { on := 7, ground := Go.Ground.phase }, { on := 8, ground := Go.Ground.phase }, { on := 9, ground := Go.Ground.textOnly Go.Departure.appendInPlace }, { on := 10, ground := Go.Ground.textOnly Go.Departure.appendInPlace }], guard := none }) (v := ?_) rfl (by kernel_rfl) (by kernel_rfl) (by kernel_rfl) (fun _ _ _ h => h) (Or.inl ⟨by rfl, ?_⟩) hHeld ?_
            rotate_left
            · intro w hSw
              (try dsimp only at hSw)
              go_simp
              all_goals with_reducible rfl
            (try simp only [Act.put, List.setIfInBounds_toArray, List.set_cons_zero, List.set_cons_succ])
            clear hHeld
            revert HA; revert x1; revert c8; revert g8; revert g6
            exact HGabl.out
        · intro g6 g8 c8 x0 HA
          have hHeld := HSA.out _ _ _ _ _ HA.out
          refine wpAnyH_ready (rs := [10, 13]) (by kernel_rfl) (by simp) ?_
          refine AllReadyH.cons (o := { dst := none, op := Go.Op.store 24 (Go.Operand.tmp 20) (Go.Operand.tmp 16), type := 0, pos := "sexp.go:97", after := #[{ on := 9, ground := Go.Ground.data }, { on := 5, ground := Go.Ground.data }, { on := 8, ground := Go.Ground.chain }, { on := 0, ground := Go.Ground.phase }, { on := 1, ground := Go.Ground.phase }, { on := 2, ground := Go.Ground.phase }, { on := 3, ground := Go.Ground.phase }, { on := 4, ground := Go.Ground.phase }, { on := 5, ground := Go.Ground.phase }, { on := 6, ground := Go.Ground.phase }, { on := 7, ground := Go.Ground.phase }, { on := 8, ground := Go.Ground.phase }, { on := 13, ground := Go.Ground.gcOnly Go.Departure.appendInPlace }], guard := none }) rfl (fun K hK => ?_) (AllReadyH.cons (o := { dst := none, op := Go.Op.store 22 (Go.Operand.tmp 22) (Go.Operand.tmp 19), type := 0, pos := "sexp.go:97", after := #[{ on := 12, ground := Go.Ground.data }, { on := 8, ground := Go.Ground.data }, { on := 8, ground := Go.Ground.chain }, { on := 10, ground := Go.Ground.textOnly Go.Departure.appendInPlace }, { on := 0, ground := Go.Ground.phase }, { on := 1, ground := Go.Ground.phase }, { on := 2, ground := Go.Ground.phase }, { on := 3, ground := Go.Ground.phase }, { on := 4, ground := Go.Ground.phase }, { on := 5, ground := Go.Ground.phase }, { on := 6, ground := Go.Ground.phase }, { on := 7, ground := Go.Ground.phase }, { on := 8, ground := Go.Ground.phase }, { on := 9, ground := Go.Ground.textOnly Go.Departure.appendInPlace }, { on := 10, ground := Go.Ground.textOnly Go.Departure.appendInPlace }], guard := none }) rfl (fun K hK => ?_) AllReadyH.nil)
          · rw [if_pos (by rfl)]
            refine wp_store_mid _ _ _ rfl g8 (ol * 5) #[.int .i64 4, .string ⟨#[]⟩, .int .i64 0, .int .i64 a, .slice none 0 0] rfl rfl (own_there HA.out.row (show ol * 5 + 5 ≤ (ol + 1) * 5 by omega)) sz_node (all_oneCell_toArray (cs := [.int .i64 4, .string ⟨#[]⟩, .int .i64 0, .int .i64 a, .slice none 0 0]) h5) ?_
            have HAn := Lib.hid (HA.out.elem hgvw hgvn (vs := [.int .i64 4, .string ⟨#[]⟩, .int .i64 0, .int .i64 a, .slice none 0 0]) rfl hx5)
            clear hHeld
            refine hK.out _ _ (HSA.out _ _ _ _ _ HAn.out) (fun hHeld => ?_)
            clear hK K
            (try simp only [Act.put, List.setIfInBounds_toArray, List.set_cons_zero, List.set_cons_succ])
            obtain ⟨x1, hx1⟩ : ∃ q, q = x0.setCells g8 (ol * 5) [.int .i64 4, .string ⟨#[]⟩, .int .i64 0, .int .i64 a, .slice none 0 0] := ⟨_, rfl⟩
            (try rw [show (#[.int .i64 4, .string ⟨#[]⟩, .int .i64 0, .int .i64 a, .slice none 0 0] : Array Value).toList = [.int .i64 4, .string ⟨#[]⟩, .int .i64 0, .int .i64 a, .slice none 0 0] from rfl])
            rw [← hx1]
            rw [← hx1] at HAn hHeld
            clear HA hx1
            have HA := HAn
            clear HAn
            clear hHeld
            revert HA; revert x1; revert c8; revert g8; revert g6
            exact HGabls.out
          · obtain ⟨ct, ft⟩ := HCT.out _ _ _ _ HA.out
            go_simp
            have HAn := Lib.hid (HA.out.slot hgvw hgvn)
            clear hHeld
            refine hK.out _ _ (HSA.out _ _ _ _ _ HAn.out) (fun hHeld => ?_)
            clear hK K
            (try simp only [Act.put, List.setIfInBounds_toArray, List.set_cons_zero, List.set_cons_succ])
            obtain ⟨x1, hx1⟩ : ∃ q, q = x0.setCell ⟨g, 1, none⟩ (.slice (some ⟨g8, 0, none⟩) (ol + 1) c8) := ⟨_, rfl⟩
            rw [← hx1]
            rw [← hx1] at HAn hHeld
            clear HA hx1 ct ft
            have HA := HAn
            clear HAn
            clear hHeld
            revert HA; revert x1; revert c8; revert g8; revert g6
            exact HGablt.out
      · intro g6 g8 c8 x0 HA
        have hHeld := HSA.out _ _ _ _ _ HA.out
        refine wpAnyH_ready (rs := [10]) (by kernel_rfl) (by simp) ?_
        refine AllReadyH.cons (o := { dst := none, op := Go.Op.store 24 (Go.Operand.tmp 20) (Go.Operand.tmp 16), type := 0, pos := "sexp.go:97", after := #[{ on := 9, ground := Go.Ground.data }, { on := 5, ground := Go.Ground.data }, { on := 8, ground := Go.Ground.chain }, { on := 0, ground := Go.Ground.phase }, { on := 1, ground := Go.Ground.phase }, { on := 2, ground := Go.Ground.phase }, { on := 3, ground := Go.Ground.phase }, { on := 4, ground := Go.Ground.phase }, { on := 5, ground := Go.Ground.phase }, { on := 6, ground := Go.Ground.phase }, { on := 7, ground := Go.Ground.phase }, { on := 8, ground := Go.Ground.phase }, { on := 13, ground := Go.Ground.gcOnly Go.Departure.appendInPlace }], guard := none }) rfl (fun K hK => ?_) AllReadyH.nil
        rw [if_pos (by rfl)]
        refine wp_store_mid _ _ _ rfl g8 (ol * 5) #[.int .i64 4, .string ⟨#[]⟩, .int .i64 0, .int .i64 a, .slice none 0 0] rfl rfl (own_there HA.out.row (show ol * 5 + 5 ≤ (ol + 1) * 5 by omega)) sz_node (all_oneCell_toArray (cs := [.int .i64 4, .string ⟨#[]⟩, .int .i64 0, .int .i64 a, .slice none 0 0]) h5) ?_
        have HAn := Lib.hid (HA.out.elem hgvw hgvn (vs := [.int .i64 4, .string ⟨#[]⟩, .int .i64 0, .int .i64 a, .slice none 0 0]) rfl hx5)
        clear hHeld
        refine hK.out _ _ (HSA.out _ _ _ _ _ HAn.out) (fun hHeld => ?_)
        clear hK K
        (try simp only [Act.put, List.setIfInBounds_toArray, List.set_cons_zero, List.set_cons_succ])
        obtain ⟨x1, hx1⟩ : ∃ q, q = x0.setCells g8 (ol * 5) [.int .i64 4, .string ⟨#[]⟩, .int .i64 0, .int .i64 a, .slice none 0 0] := ⟨_, rfl⟩
        (try rw [show (#[.int .i64 4, .string ⟨#[]⟩, .int .i64 0, .int .i64 a, .slice none 0 0] : Array Value).toList = [.int .i64 4, .string ⟨#[]⟩, .int .i64 0, .int .i64 a, .slice none 0 0] from rfl])
        rw [← hx1]
        rw [← hx1] at HAn hHeld
        clear HA hx1
        have HA := HAn
        clear HAn
        clear hHeld
        revert HA; revert x1; revert c8; revert g8; revert g6
        exact HGO.out
    · intro g6 g8 c8 x0 HA
      have hHeld := HSA.out _ _ _ _ _ HA.out
      refine wpAnyH_ready (rs := [13]) (by kernel_rfl) (by simp) ?_
      refine AllReadyH.cons (o := { dst := none, op := Go.Op.store 22 (Go.Operand.tmp 22) (Go.Operand.tmp 19), type := 0, pos := "sexp.go:97", after := #[{ on := 12, ground := Go.Ground.data }, { on := 8, ground := Go.Ground.data }, { on := 8, ground := Go.Ground.chain }, { on := 10, ground := Go.Ground.textOnly Go.Departure.appendInPlace }, { on := 0, ground := Go.Ground.phase }, { on := 1, ground := Go.Ground.phase }, { on := 2, ground := Go.Ground.phase }, { on := 3, ground := Go.Ground.phase }, { on := 4, ground := Go.Ground.phase }, { on := 5, ground := Go.Ground.phase }, { on := 6, ground := Go.Ground.phase }, { on := 7, ground := Go.Ground.phase }, { on := 8, ground := Go.Ground.phase }, { on := 9, ground := Go.Ground.textOnly Go.Departure.appendInPlace }, { on := 10, ground := Go.Ground.textOnly Go.Departure.appendInPlace }], guard := none }) rfl (fun K hK => ?_) AllReadyH.nil
      obtain ⟨ct, ft⟩ := HCT.out _ _ _ _ HA.out
      go_simp
      have HAn := Lib.hid (HA.out.slot hgvw hgvn)
      clear hHeld
      refine hK.out _ _ (HSA.out _ _ _ _ _ HAn.out) (fun hHeld => ?_)
      clear hK K
      (try simp only [Act.put, List.setIfInBounds_toArray, List.set_cons_zero, List.set_cons_succ])
      obtain ⟨x1, hx1⟩ : ∃ q, q = x0.setCell ⟨g, 1, none⟩ (.slice (some ⟨g8, 0, none⟩) (ol + 1) c8) := ⟨_, rfl⟩
      rw [← hx1]
      rw [← hx1] at HAn hHeld
      clear HA hx1 ct ft
      have HA := HAn
      clear HAn
      clear hHeld
      exact HGO.out g6 g8 c8 x1 HA
  intro g6 g8 c8 x0 HA
  have hHeld := HSA.out _ _ _ _ _ HA.out
  refine wpAnyH_done (by kernel_rfl) ?_ _
  obtain ⟨hX, hL, hg, hv, hol⟩ := HALL.out
  rw [HW.out] at HA
  obtain ⟨p1, p2, p3⟩ := begin_post hb hbg hX hL hg hv hol HA.out
  have q0 := box_cell p1 0
  have qf := box_froz p1
  clear hX hL hg hv hol hHeld p1
  go_wp2
  go_ret
  exact ⟨rfl, p2, p3⟩
end Go.Proofs.YtceomdbahiimlaaDoor.T14
