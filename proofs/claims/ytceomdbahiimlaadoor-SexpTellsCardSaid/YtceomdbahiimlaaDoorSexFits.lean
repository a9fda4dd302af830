/-
  Whether a node's text is the one token that the node is; whether a node fits where it stands.
-/
import Derived.Test.YtceomdbahiimlaaDoorSexParse
namespace Go.Proofs.YtceomdbahiimlaaDoor.T14
set_option maxRecDepth 100000

open Go.RowKit

set_option maxRecDepth 1000000 in
set_option maxHeartbeats 4000000 in
theorem isToken_any (x : Nd) (u : Value) (w : World) (hs : x.text.length ≤ 1000000) (LV : Laid w) :
    Calls Tryd.prog 41 #[.agg #[.int .i64 x.kind, .string (tx x.text), .int .i64 x.num, .int .i64 x.at_, u]] w fun e w' => e = .returned (.bool (tokB Lib.itoa x)) ∧ Below w.heap.size w w' := by
  have hN1 := heap_alloc_new w (.cells #[.int .i64 x.kind, .string (tx x.text), .int .i64 x.num, .int .i64 x.at_, u] 24)
  obtain ⟨w1, hw1⟩ : ∃ y, y = w.alloc (.cells #[.int .i64 x.kind, .string (tx x.text), .int .i64 x.num, .int .i64 x.at_, u] 24) := ⟨_, rfl⟩
  have hB1 : Below w.heap.size w w1 := by rw [hw1]; exact below_new _ _
  have HA := Lib.hid (all_any (tx x.text) (by simpa [tx, ByteArray.size] using hs) w1 (LV.on hB1))
  obtain ⟨n0, n1, n2, n3, n4⟩ := five_cells hN1
  have HN := Lib.hid hN1
  have hsl : (tx x.text).data.toList = x.text := tx_list _
  rw [hsl] at HA
  have HT : Hid (tokB Lib.itoa x = match allT Lib.itoa x.text with | [t] => decide ((t.kind : Int) = x.kind) && decide (t.text = x.text) && decide (t.num = x.num) && decide (t.at_ = 0) | _ => false) := Lib.hid rfl
  generalize tokB Lib.itoa x = TB at *
  generalize allT Lib.itoa x.text = TT at *
  generalize allAt Lib.itoa x.text = AA at *
  generalize allE Lib.itoa x.text = EE at *
  clear hN1 hsl
  go_enter Tryd.func41, Tryd.ntmps41
  go_wp2_with fail
  rw [← hw1]
  refine HA.out.mono ?_
  rintro e w2 ⟨v, rfl, hown, hB2⟩
  obtain ⟨A, c, rfl, hTl⟩ := SlT.of_own hown
  have hX1 : w1.heap[w.heap.size]? = some (.cells #[.int .i64 x.kind, .string (tx x.text), .int .i64 x.num, .int .i64 x.at_, u] 24 (0, 0)) := by rw [hw1]; exact HN.out
  have hX := (hB2.block _ (box_lt hX1)).trans hX1
  obtain ⟨m0, m1, m2, m3, m4⟩ := five_cells hX
  have hB3 := hB1.trans (hB2.mono hB1.size)
  by_cases hl : TT.length = 1
  · obtain ⟨t, rfl⟩ : ∃ t, TT = [t] := List.length_eq_one_iff.1 hl
    obtain ⟨ad, r, rfl, hadb, hr, t0, t1, t2, t3⟩ := SlT.at_ hTl (k := 0) (by simp)
    obtain rfl : t = r := by simpa using hr
    clear hr hown hTl hX n0 n1 n2 n3 n4 hw1 hl
    have hTB : TB = (decide ((t.kind : Int) = x.kind) && decide ((txt t.text).toList = (tx x.text).toList) && decide (t.num = x.num) && decide (t.at_ = 0)) := by
      rw [HT.out, txt_toList, show (tx x.text).toList = x.text from txt_toList _]
    go_wp2_with fail
    refine wp_region_held_drew (S := fun wx => wx.cell? ⟨w.heap.size, 0, none⟩ = some (.int .i64 x.kind) ∧ wx.cell? ⟨w.heap.size, 1, none⟩ = some (.string (tx x.text)) ∧ wx.cell? ⟨w.heap.size, 2, none⟩ = some (.int .i64 x.num) ∧ wx.cell? ad = some (.int .i64 t.kind) ∧ wx.cell? ⟨ad.block, ad.off + 1, none⟩ = some (.string (txt t.text)) ∧ wx.cell? ⟨ad.block, ad.off + 2, none⟩ = some (.int .i64 t.num) ∧ wx.cell? ⟨ad.block, ad.off + 3, none⟩ = some (.int .i64 t.at_)) (by kernel_rfl) ⟨m0, m1, m2, t0, t1, t2, t3⟩ (fun hHeld => ?_)
    refine wpAnyH_take (i := 0) (oi := { dst := some 13, op := Go.Op.move (Go.Operand.tmp 3), type := 39, pos := "sexp.go:162", after := #[], guard := none }) (v := ?_) rfl (by kernel_rfl) (by kernel_rfl) (by kernel_rfl) (fun _ _ _ h => h) (Or.inl ⟨by rfl, ?_⟩) hHeld ?_
    rotate_left
    · intro w hSw
      (try dsimp only at hSw)
      go_simp
      all_goals with_reducible rfl
    (try simp only [Act.put, List.setIfInBounds_toArray, List.set_cons_zero, List.set_cons_succ])
    refine wpAnyH_take (i := 1) (oi := { dst := some 14, op := Go.Op.call { callee := Go.Callee.builtin Go.Builtin.len, args := #[Go.Operand.tmp 13], argTypes := #[39] }, type := 3, pos := "sexp.go:162", after := #[{ on := 0, ground := Go.Ground.data }], guard := none }) (v := ?_) rfl (by kernel_rfl) (by kernel_rfl) (by kernel_rfl) (fun _ _ _ h => h) (Or.inl ⟨by rfl, ?_⟩) hHeld ?_
    rotate_left
    · intro w hSw
      (try dsimp only at hSw)
      go_simp
      all_goals with_reducible rfl
    (try simp only [Act.put, List.setIfInBounds_toArray, List.set_cons_zero, List.set_cons_succ])
    refine wpAnyH_take (i := 2) (oi := { dst := some 15, op := Go.Op.binOp Go.BinOp.eql 3 (Go.Operand.tmp 14) (Go.Operand.const (Go.Value.int Go.IntKind.i64 1)) 3, type := 4, pos := "sexp.go:162", after := #[{ on := 1, ground := Go.Ground.data }], guard := none }) (v := ?_) rfl (by kernel_rfl) (by kernel_rfl) (by kernel_rfl) (fun _ _ _ h => h) (Or.inl ⟨by rfl, ?_⟩) hHeld ?_
    rotate_left
    · intro w hSw
      (try dsimp only at hSw)
      go_simp
      all_goals with_reducible rfl
    (try simp only [Act.put, List.setIfInBounds_toArray, List.set_cons_zero, List.set_cons_succ])
    refine wpAnyH_take (i := 3) (oi := { dst := some 16, op := Go.Op.move (Go.Operand.tmp 15), type := 4, pos := "sexp.go:162", after := #[{ on := 2, ground := Go.Ground.data }], guard := none }) (v := ?_) rfl (by kernel_rfl) (by kernel_rfl) (by kernel_rfl) (fun _ _ _ h => h) (Or.inl ⟨by rfl, ?_⟩) hHeld ?_
    rotate_left
    · intro w hSw
      (try dsimp only at hSw)
      go_simp
      all_goals with_reducible rfl
    (try simp only [Act.put, List.setIfInBounds_toArray, List.set_cons_zero, List.set_cons_succ])
    refine wpAnyH_take (i := 4) (oi := { dst := some 17, op := Go.Op.move (Go.Operand.tmp 3), type := 39, pos := "sexp.go:162", after := #[{ on := 3, ground := Go.Ground.guard }], guard := some (3, true) }) (v := ?_) rfl (by kernel_rfl) (by kernel_rfl) (by kernel_rfl) (fun _ _ _ h => h) (Or.inl ⟨by rfl, ?_⟩) hHeld ?_
    rotate_left
    · intro w hSw
      (try dsimp only at hSw)
      go_simp
      all_goals with_reducible rfl
    (try simp only [Act.put, List.setIfInBounds_toArray, List.set_cons_zero, List.set_cons_succ])
    refine wpAnyH_take (i := 5) (oi := { dst := some 18, op := Go.Op.indexAddr 39 (Go.Operand.tmp 17) (Go.Operand.const (Go.Value.int Go.IntKind.i64 0)), type := 0, pos := "sexp.go:162", after := #[{ on := 4, ground := Go.Ground.data }, { on := 3, ground := Go.Ground.guard }], guard := some (3, true) }) (v := ?_) rfl (by kernel_rfl) (by kernel_rfl) (by kernel_rfl) (fun _ _ _ h => h) (Or.inl ⟨by rfl, ?_⟩) hHeld ?_
    rotate_left
    · intro w hSw
      (try dsimp only at hSw)
      go_simp
      all_goals with_reducible rfl
    (try simp only [Act.put, List.setIfInBounds_toArray, List.set_cons_zero, List.set_cons_succ])
    refine wpAnyH_take (i := 6) (oi := { dst := some 19, op := Go.Op.load 45 (Go.Operand.tmp 18), type := 45, pos := "sexp.go:162", after := #[{ on := 5, ground := Go.Ground.data }, { on := 3, ground := Go.Ground.guard }], guard := some (3, true) }) (v := ?_) rfl (by kernel_rfl) (by kernel_rfl) (by kernel_rfl) (fun _ _ _ h => h) (Or.inl ⟨by rfl, ?_⟩) hHeld ?_
    rotate_left
    · intro w hSw
      (try dsimp only at hSw)
      go_simp
      all_goals with_reducible rfl
    (try simp only [Act.put, List.setIfInBounds_toArray, List.set_cons_zero, List.set_cons_succ])
    refine wpAnyH_take (i := 7) (oi := { dst := some 20, op := Go.Op.fieldAddr 24 (Go.Operand.tmp 1) 0, type := 0, pos := "sexp.go:162", after := #[{ on := 3, ground := Go.Ground.guard }], guard := some (3, true) }) (v := ?_) rfl (by kernel_rfl) (by kernel_rfl) (by kernel_rfl) (fun _ _ _ h => h) (Or.inl ⟨by rfl, ?_⟩) hHeld ?_
    rotate_left
    · intro w hSw
      (try dsimp only at hSw)
      go_simp
      all_goals with_reducible rfl
    (try simp only [Act.put, List.setIfInBounds_toArray, List.set_cons_zero, List.set_cons_succ])
    refine wpAnyH_take (i := 8) (oi := { dst := some 21, op := Go.Op.load 3 (Go.Operand.tmp 20), type := 3, pos := "sexp.go:162", after := #[{ on := 7, ground := Go.Ground.data }, { on := 3, ground := Go.Ground.guard }], guard := some (3, true) }) (v := ?_) rfl (by kernel_rfl) (by kernel_rfl) (by kernel_rfl) (fun _ _ _ h => h) (Or.inl ⟨by rfl, ?_⟩) hHeld ?_
    rotate_left
    · intro w hSw
      (try dsimp only at hSw)
      go_simp
      all_goals with_reducible rfl
    (try simp only [Act.put, List.setIfInBounds_toArray, List.set_cons_zero, List.set_cons_succ])
    refine wpAnyH_take (i := 9) (oi := { dst := some 22, op := Go.Op.fieldAddr 24 (Go.Operand.tmp 1) 1, type := 0, pos := "sexp.go:162", after := #[{ on := 3, ground := Go.Ground.guard }], guard := some (3, true) }) (v := ?_) rfl (by kernel_rfl) (by kernel_rfl) (by kernel_rfl) (fun _ _ _ h => h) (Or.inl ⟨by rfl, ?_⟩) hHeld ?_
    rotate_left
    · intro w hSw
      (try dsimp only at hSw)
      go_simp
      all_goals with_reducible rfl
    (try simp only [Act.put, List.setIfInBounds_toArray, List.set_cons_zero, List.set_cons_succ])
    refine wpAnyH_take (i := 10) (oi := { dst := some 23, op := Go.Op.load 9 (Go.Operand.tmp 22), type := 9, pos := "sexp.go:162", after := #[{ on := 9, ground := Go.Ground.data }, { on := 3, ground := Go.Ground.guard }], guard := some (3, true) }) (v := ?_) rfl (by kernel_rfl) (by kernel_rfl) (by kernel_rfl) (fun _ _ _ h => h) (Or.inl ⟨by rfl, ?_⟩) hHeld ?_
    rotate_left
    · intro w hSw
      (try dsimp only at hSw)
      go_simp
      all_goals with_reducible rfl
    (try simp only [Act.put, List.setIfInBounds_toArray, List.set_cons_zero, List.set_cons_succ])
    refine wpAnyH_take (i := 11) (oi := { dst := some 24, op := Go.Op.fieldAddr 24 (Go.Operand.tmp 1) 2, type := 0, pos := "sexp.go:162", after := #[{ on := 3, ground := Go.Ground.guard }], guard := some (3, true) }) (v := ?_) rfl (by kernel_rfl) (by kernel_rfl) (by kernel_rfl) (fun _ _ _ h => h) (Or.inl ⟨by rfl, ?_⟩) hHeld ?_
    rotate_left
    · intro w hSw
      (try dsimp only at hSw)
      go_simp
      all_goals with_reducible rfl
    (try simp only [Act.put, List.setIfInBounds_toArray, List.set_cons_zero, List.set_cons_succ])
    refine wpAnyH_take (i := 12) (oi := { dst := some 25, op := Go.Op.load 2 (Go.Operand.tmp 24), type := 2, pos := "sexp.go:162", after := #[{ on := 11, ground := Go.Ground.data }, { on := 3, ground := Go.Ground.guard }], guard := some (3, true) }) (v := ?_) rfl (by kernel_rfl) (by kernel_rfl) (by kernel_rfl) (fun _ _ _ h => h) (Or.inl ⟨by rfl, ?_⟩) hHeld ?_
    rotate_left
    · intro w hSw
      (try dsimp only at hSw)
      go_simp
      all_goals with_reducible rfl
    (try simp only [Act.put, List.setIfInBounds_toArray, List.set_cons_zero, List.set_cons_succ])
    refine wpAnyH_take (i := 13) (oi := { dst := some 26, op := Go.Op.build 45 #[(0, Go.Operand.tmp 21), (1, Go.Operand.tmp 23), (2, Go.Operand.tmp 25)], type := 45, pos := "sexp.go:162", after := #[{ on := 8, ground := Go.Ground.data }, { on := 10, ground := Go.Ground.data }, { on := 12, ground := Go.Ground.data }, { on := 3, ground := Go.Ground.guard }], guard := some (3, true) }) (v := ?_) rfl (by kernel_rfl) (by kernel_rfl) (by kernel_rfl) (fun _ _ _ h => h) (Or.inl ⟨by rfl, ?_⟩) hHeld ?_
    rotate_left
    · intro w hSw
      (try dsimp only at hSw)
      go_simp
      all_goals with_reducible rfl
    (try simp only [Act.put, List.setIfInBounds_toArray, List.set_cons_zero, List.set_cons_succ])
    refine wpAnyH_take (i := 14) (oi := { dst := some 27, op := Go.Op.binOp Go.BinOp.eql 45 (Go.Operand.tmp 19) (Go.Operand.tmp 26) 45, type := 4, pos := "sexp.go:162", after := #[{ on := 6, ground := Go.Ground.data }, { on := 13, ground := Go.Ground.data }, { on := 3, ground := Go.Ground.guard }], guard := some (3, true) }) (v := .bool TB) rfl (by kernel_rfl) (by kernel_rfl) (by kernel_rfl) (fun _ _ _ h => h) (Or.inl ⟨by rfl, ?_⟩) hHeld ?_
    · intro w hSw
      (try dsimp only at hSw)
      go_simp
      by_cases c1 : (t.kind : Int) = x.kind <;> by_cases c2 : (txt t.text).toList = (tx x.text).toList <;> by_cases c3 : t.num = x.num <;> by_cases c4 : t.at_ = 0 <;> simp [hTB, c1, c2, c3, c4]
    (try simp only [Act.put, List.setIfInBounds_toArray, List.set_cons_zero, List.set_cons_succ])
    refine wpAnyH_take (i := 15) (oi := { dst := some 28, op := Go.Op.pick (Go.Operand.tmp 16) (Go.Operand.tmp 27) (Go.Operand.const (Go.Value.bool false)), type := 4, pos := "sexp.go:162", after := #[{ on := 3, ground := Go.Ground.data }, { on := 14, ground := Go.Ground.data }], guard := none }) (v := ?_) rfl (by kernel_rfl) (by kernel_rfl) (by kernel_rfl) (fun _ _ _ h => h) (Or.inl ⟨by rfl, ?_⟩) hHeld ?_
    rotate_left
    · intro w hSw
      (try dsimp only at hSw)
      go_simp
      all_goals with_reducible rfl
    (try simp only [Act.put, List.setIfInBounds_toArray, List.set_cons_zero, List.set_cons_succ])
    refine wpAnyH_take (i := 16) (oi := { dst := some 2, op := Go.Op.assign (Go.Operand.tmp 28), type := 4, pos := "sexp.go:162", after := #[{ on := 15, ground := Go.Ground.data }, { on := 3, ground := Go.Ground.chain }, { on := 0, ground := Go.Ground.phase }, { on := 1, ground := Go.Ground.phase }, { on := 2, ground := Go.Ground.phase }, { on := 3, ground := Go.Ground.phase }, { on := 4, ground := Go.Ground.phase }, { on := 5, ground := Go.Ground.phase }, { on := 6, ground := Go.Ground.phase }, { on := 7, ground := Go.Ground.phase }, { on := 8, ground := Go.Ground.phase }, { on := 9, ground := Go.Ground.phase }, { on := 10, ground := Go.Ground.phase }, { on := 11, ground := Go.Ground.phase }, { on := 12, ground := Go.Ground.phase }, { on := 13, ground := Go.Ground.phase }, { on := 14, ground := Go.Ground.phase }, { on := 15, ground := Go.Ground.phase }], guard := none }) (v := ?_) rfl (by kernel_rfl) (by kernel_rfl) (by kernel_rfl) (fun _ _ _ h => h) (Or.inl ⟨by rfl, ?_⟩) hHeld ?_
    rotate_left
    · intro w hSw
      (try dsimp only at hSw)
      go_simp
      all_goals with_reducible rfl
    (try simp only [Act.put, List.setIfInBounds_toArray, List.set_cons_zero, List.set_cons_succ])
    refine wpAnyH_done (by kernel_rfl) ?_ _
    go_wp2
    go_ret
    exact ⟨by rw [hTB]; rfl, hB3.drew⟩
  · have e1 : ((TT.length : Int) == 1) = false := beq_eq_false_iff_ne.2 (by omega)
    have hf : TB = false := by
      rw [HT.out]
      match TT, hl with
      | [], _ => rfl
      | [_], h => exact absurd rfl h
      | _ :: _ :: _, _ => rfl
    go_wp2_with fail
    refine wp_region_held_drew (S := fun wx => wx.cell? ⟨w.heap.size, 0, none⟩ = some (.int .i64 x.kind) ∧ wx.cell? ⟨w.heap.size, 1, none⟩ = some (.string (tx x.text)) ∧ wx.cell? ⟨w.heap.size, 2, none⟩ = some (.int .i64 x.num)) (by kernel_rfl) ⟨m0, m1, m2⟩ (fun hHeld => ?_)
    refine wpAnyH_take (i := 0) (oi := { dst := some 13, op := Go.Op.move (Go.Operand.tmp 3), type := 39, pos := "sexp.go:162", after := #[], guard := none }) (v := ?_) rfl (by kernel_rfl) (by kernel_rfl) (by kernel_rfl) (fun _ _ _ h => h) (Or.inl ⟨by rfl, ?_⟩) hHeld ?_
    rotate_left
    · intro w hSw
      (try dsimp only at hSw)
      go_simp
      all_goals with_reducible rfl
    (try simp only [Act.put, List.setIfInBounds_toArray, List.set_cons_zero, List.set_cons_succ])
    refine wpAnyH_take (i := 1) (oi := { dst := some 14, op := Go.Op.call { callee := Go.Callee.builtin Go.Builtin.len, args := #[Go.Operand.tmp 13], argTypes := #[39] }, type := 3, pos := "sexp.go:162", after := #[{ on := 0, ground := Go.Ground.data }], guard := none }) (v := ?_) rfl (by kernel_rfl) (by kernel_rfl) (by kernel_rfl) (fun _ _ _ h => h) (Or.inl ⟨by rfl, ?_⟩) hHeld ?_
    rotate_left
    · intro w hSw
      (try dsimp only at hSw)
      go_simp
      all_goals with_reducible rfl
    (try simp only [Act.put, List.setIfInBounds_toArray, List.set_cons_zero, List.set_cons_succ])
    refine wpAnyH_take (i := 2) (oi := { dst := some 15, op := Go.Op.binOp Go.BinOp.eql 3 (Go.Operand.tmp 14) (Go.Operand.const (Go.Value.int Go.IntKind.i64 1)) 3, type := 4, pos := "sexp.go:162", after := #[{ on := 1, ground := Go.Ground.data }], guard := none }) (v := ?_) rfl (by kernel_rfl) (by kernel_rfl) (by kernel_rfl) (fun _ _ _ h => h) (Or.inl ⟨by rfl, ?_⟩) hHeld ?_
    rotate_left
    · intro w hSw
      (try dsimp only at hSw)
      go_simp
      all_goals with_reducible rfl
    (try simp only [Act.put, List.setIfInBounds_toArray, List.set_cons_zero, List.set_cons_succ])
    refine wpAnyH_take (i := 3) (oi := { dst := some 16, op := Go.Op.move (Go.Operand.tmp 15), type := 4, pos := "sexp.go:162", after := #[{ on := 2, ground := Go.Ground.data }], guard := none }) (v := ?_) rfl (by kernel_rfl) (by kernel_rfl) (by kernel_rfl) (fun _ _ _ h => h) (Or.inl ⟨by rfl, ?_⟩) hHeld ?_
    rotate_left
    · intro w hSw
      (try dsimp only at hSw)
      go_simp
      all_goals with_reducible rfl
    (try simp only [Act.put, List.setIfInBounds_toArray, List.set_cons_zero, List.set_cons_succ])
    refine wpAnyH_take (i := 4) (oi := { dst := some 17, op := Go.Op.move (Go.Operand.tmp 3), type := 39, pos := "sexp.go:162", after := #[{ on := 3, ground := Go.Ground.guard }], guard := some (3, true) }) (v := undef) rfl (by kernel_rfl) (by kernel_rfl) (by kernel_rfl) (fun _ _ _ h => h) (Or.inr ⟨by rfl, rfl⟩) hHeld ?_
    (try simp only [Act.put, List.setIfInBounds_toArray, List.set_cons_zero, List.set_cons_succ])
    refine wpAnyH_take (i := 5) (oi := { dst := some 18, op := Go.Op.indexAddr 39 (Go.Operand.tmp 17) (Go.Operand.const (Go.Value.int Go.IntKind.i64 0)), type := 0, pos := "sexp.go:162", after := #[{ on := 4, ground := Go.Ground.data }, { on := 3, ground := Go.Ground.guard }], guard := some (3, true) }) (v := undef) rfl (by kernel_rfl) (by kernel_rfl) (by kernel_rfl) (fun _ _ _ h => h) (Or.inr ⟨by rfl, rfl⟩) hHeld ?_
    (try simp only [Act.put, List.setIfInBounds_toArray, List.set_cons_zero, List.set_cons_succ])
    refine wpAnyH_take (i := 6) (oi := { dst := some 19, op := Go.Op.load 45 (Go.Operand.tmp 18), type := 45, pos := "sexp.go:162", after := #[{ on := 5, ground := Go.Ground.data }, { on := 3, ground := Go.Ground.guard }], guard := some (3, true) }) (v := undef) rfl (by kernel_rfl) (by kernel_rfl) (by kernel_rfl) (fun _ _ _ h => h) (Or.inr ⟨by rfl, rfl⟩) hHeld ?_
    (try simp only [Act.put, List.setIfInBounds_toArray, List.set_cons_zero, List.set_cons_succ])
    refine wpAnyH_take (i := 7) (oi := { dst := some 20, op := Go.Op.fieldAddr 24 (Go.Operand.tmp 1) 0, type := 0, pos := "sexp.go:162", after := #[{ on := 3, ground := Go.Ground.guard }], guard := some (3, true) }) (v := undef) rfl (by kernel_rfl) (by kernel_rfl) (by kernel_rfl) (fun _ _ _ h => h) (Or.inr ⟨by rfl, rfl⟩) hHeld ?_
    (try simp only [Act.put, List.setIfInBounds_toArray, List.set_cons_zero, List.set_cons_succ])
    refine wpAnyH_take (i := 8) (oi := { dst := some 21, op := Go.Op.load 3 (Go.Operand.tmp 20), type := 3, pos := "sexp.go:162", after := #[{ on := 7, ground := Go.Ground.data }, { on := 3, ground := Go.Ground.guard }], guard := some (3, true) }) (v := undef) rfl (by kernel_rfl) (by kernel_rfl) (by kernel_rfl) (fun _ _ _ h => h) (Or.inr ⟨by rfl, rfl⟩) hHeld ?_
    (try simp only [Act.put, List.setIfInBounds_toArray, List.set_cons_zero, List.set_cons_succ])
    refine wpAnyH_take (i := 9) (oi := { dst := some 22, op := Go.Op.fieldAddr 24 (Go.Operand.tmp 1) 1, type := 0, pos := "sexp.go:162", after := #[{ on := 3, ground := Go.Ground.guard }], guard := some (3, true) }) (v := undef) rfl (by kernel_rfl) (by kernel_rfl) (by kernel_rfl) (fun _ _ _ h => h) (Or.inr ⟨by rfl, rfl⟩) hHeld ?_
    (try simp only [Act.put, List.setIfInBounds_toArray, List.set_cons_zero, List.set_cons_succ])
    refine wpAnyH_take (i := 10) (oi := { dst := some 23, op := Go.Op.load 9 (Go.Operand.tmp 22), type := 9, pos := "sexp.go:162", after := #[{ on := 9, ground := Go.Ground.data }, { on := 3, ground := Go.Ground.guard }], guard := some (3, true) }) (v := undef) rfl (by kernel_rfl) (by kernel_rfl) (by kernel_rfl) (fun _ _ _ h => h) (Or.inr ⟨by rfl, rfl⟩) hHeld ?_
    (try simp only [Act.put, List.setIfInBounds_toArray, List.set_cons_zero, List.set_cons_succ])
    refine wpAnyH_take (i := 11) (oi := { dst := some 24, op := Go.Op.fieldAddr 24 (Go.Operand.tmp 1) 2, type := 0, pos := "sexp.go:162", after := #[{ on := 3, ground := Go.Ground.guard }], guard := some (3, true) }) (v := undef) rfl (by kernel_rfl) (by kernel_rfl) (by kernel_rfl) (fun _ _ _ h => h) (Or.inr ⟨by rfl, rfl⟩) hHeld ?_
    (try simp only [Act.put, List.setIfInBounds_toArray, List.set_cons_zero, List.set_cons_succ])
    refine wpAnyH_take (i := 12) (oi := { dst := some 25, op := Go.Op.load 2 (Go.Operand.tmp 24), type := 2, pos := "sexp.go:162", after := #[{ on := 11, ground := Go.Ground.data }, { on := 3, ground := Go.Ground.guard }], guard := some (3, true) }) (v := undef) rfl (by kernel_rfl) (by kernel_rfl) (by kernel_rfl) (fun _ _ _ h => h) (Or.inr ⟨by rfl, rfl⟩) hHeld ?_
    (try simp only [Act.put, List.setIfInBounds_toArray, List.set_cons_zero, List.set_cons_succ])
    refine wpAnyH_take (i := 13) (oi := { dst := some 26, op := Go.Op.build 45 #[(0, Go.Operand.tmp 21), (1, Go.Operand.tmp 23), (2, Go.Operand.tmp 25)], type := 45, pos := "sexp.go:162", after := #[{ on := 8, ground := Go.Ground.data }, { on := 10, ground := Go.Ground.data }, { on := 12, ground := Go.Ground.data }, { on := 3, ground := Go.Ground.guard }], guard := some (3, true) }) (v := undef) rfl (by kernel_rfl) (by kernel_rfl) (by kernel_rfl) (fun _ _ _ h => h) (Or.inr ⟨by rfl, rfl⟩) hHeld ?_
    (try simp only [Act.put, List.setIfInBounds_toArray, List.set_cons_zero, List.set_cons_succ])
    refine wpAnyH_take (i := 14) (oi := { dst := some 27, op := Go.Op.binOp Go.BinOp.eql 45 (Go.Operand.tmp 19) (Go.Operand.tmp 26) 45, type := 4, pos := "sexp.go:162", after := #[{ on := 6, ground := Go.Ground.data }, { on := 13, ground := Go.Ground.data }, { on := 3, ground := Go.Ground.guard }], guard := some (3, true) }) (v := undef) rfl (by kernel_rfl) (by kernel_rfl) (by kernel_rfl) (fun _ _ _ h => h) (Or.inr ⟨by rfl, rfl⟩) hHeld ?_
    (try simp only [Act.put, List.setIfInBounds_toArray, List.set_cons_zero, List.set_cons_succ])
    refine wpAnyH_take (i := 15) (oi := { dst := some 28, op := Go.Op.pick (Go.Operand.tmp 16) (Go.Operand.tmp 27) (Go.Operand.const (Go.Value.bool false)), type := 4, pos := "sexp.go:162", after := #[{ on := 3, ground := Go.Ground.data }, { on := 14, ground := Go.Ground.data }], guard := none }) (v := ?_) rfl (by kernel_rfl) (by kernel_rfl) (by kernel_rfl) (fun _ _ _ h => h) (Or.inl ⟨by rfl, ?_⟩) hHeld ?_
    rotate_left
    · intro w hSw
      (try dsimp only at hSw)
      go_simp
      all_goals with_reducible rfl
    (try simp only [Act.put, List.setIfInBounds_toArray, List.set_cons_zero, List.set_cons_succ])
    refine wpAnyH_take (i := 16) (oi := { dst := some 2, op := Go.Op.assign (Go.Operand.tmp 28), type := 4, pos := "sexp.go:162", after := #[{ on := 15, ground := Go.Ground.data }, { on := 3, ground := Go.Ground.chain }, { on := 0, ground := Go.Ground.phase }, { on := 1, ground := Go.Ground.phase }, { on := 2, ground := Go.Ground.phase }, { on := 3, ground := Go.Ground.phase }, { on := 4, ground := Go.Ground.phase }, { on := 5, ground := Go.Ground.phase }, { on := 6, ground := Go.Ground.phase }, { on := 7, ground := Go.Ground.phase }, { on := 8, ground := Go.Ground.phase }, { on := 9, ground := Go.Ground.phase }, { on := 10, ground := Go.Ground.phase }, { on := 11, ground := Go.Ground.phase }, { on := 12, ground := Go.Ground.phase }, { on := 13, ground := Go.Ground.phase }, { on := 14, ground := Go.Ground.phase }, { on := 15, ground := Go.Ground.phase }], guard := none }) (v := ?_) rfl (by kernel_rfl) (by kernel_rfl) (by kernel_rfl) (fun _ _ _ h => h) (Or.inl ⟨by rfl, ?_⟩) hHeld ?_
    rotate_left
    · intro w hSw
      (try dsimp only at hSw)
      go_simp
      all_goals with_reducible rfl
    (try simp only [Act.put, List.setIfInBounds_toArray, List.set_cons_zero, List.set_cons_succ])
    refine wpAnyH_done (by kernel_rfl) ?_ _
    go_wp2
    go_ret
    exact ⟨by rw [hf]; rfl, hB3.drew⟩
end Go.Proofs.YtceomdbahiimlaaDoor.T14
/-
  Whether a node fits where it stands.
-/
namespace Go.Proofs.YtceomdbahiimlaaDoor.T14
set_option maxRecDepth 100000

open Go.RowKit

set_option maxRecDepth 1000000 in
set_option maxHeartbeats 4000000 in
theorem fits_any (d : Nat) (x : Nd) (u : Value) (i : Nat) (B : Nat) (w : World) (hx : NAt (Rd B w) d x [.int .i64 x.kind, .string (tx x.text), .int .i64 x.num, .int .i64 x.at_, u]) (hs : x.text.length ≤ 1000000) (LV : Laid w) :
    Calls Tryd.prog 26 #[.agg #[.int .i64 x.kind, .string (tx x.text), .int .i64 x.num, .int .i64 x.at_, u], .int .i64 i] w fun e w' => e = .returned (.bool (fitB Lib.itoa x i)) ∧ Below w.heap.size w w' := by
  obtain ⟨A, c, hu⟩ : ∃ A c, u = .slice A x.l.length c := by
    cases d with
    | zero => exact hx.elim
    | succ d =>
      obtain ⟨u', e, hl⟩ := hx
      obtain ⟨A, c, xs, h1, -⟩ := hl.open_
      simp only [List.cons.injEq, and_true, true_and] at e
      exact ⟨A, c, e.trans h1⟩
  subst hu
  clear hx
  have hN1 := heap_alloc_new w (.cells #[.int .i64 x.kind, .string (tx x.text), .int .i64 x.num, .int .i64 x.at_, .slice A x.l.length c] 24)
  obtain ⟨n0, n1, n2, n3, n4⟩ := five_cells hN1
  have hB1 := below_new w (.cells #[.int .i64 x.kind, .string (tx x.text), .int .i64 x.num, .int .i64 x.at_, .slice A x.l.length c] 24)
  have HT := Lib.hid (isToken_any x (.slice A x.l.length c) _ hs (LV.on hB1))
  have HB1 := Lib.hid hB1
  have htl : (tx x.text).toList = x.text := txt_toList _
  obtain ⟨xl, hxl⟩ : ∃ xl, x.l.length = xl := ⟨_, rfl⟩
  have hle : x.l.isEmpty = decide (xl = 0) := by rw [← hxl]; cases x.l <;> simp
  rw [hxl] at n0 n1 n2 n3 n4 HT HB1 ⊢
  have HF : Hid (fitB Lib.itoa x i = if x.kind = 4 then decide (x.text = []) && decide (x.num = 0) && decide (i < 16) else decide (xl = 0) && (if x.kind = 0 ∨ x.kind = 1 then tokB Lib.itoa x else if x.kind = 2 then decide (x.num = 0) else if x.kind = 3 then decide (x.text = [46]) && decide (x.num = 0) else false)) := Lib.hid (by unfold fitB leafB; rw [hle])
  generalize fitB Lib.itoa x i = RB at *
  rw [← htl] at HF
  generalize tokB Lib.itoa x = TB at *
  clear hB1 hN1 hle hxl htl hs LV
  generalize x.kind = ks at *
  generalize x.num = ns at *
  generalize tx x.text = ts at *
  by_cases k4 : ks = 4
  · subst k4
    by_cases ht : ts.toList = []
    · have et : ts.toList.isEmpty = true := by rw [ht]; rfl
      have et2 : ts.toList = [] := ht
      by_cases hn : ns = 0
      · subst hn
        by_cases hi : i < 16
        · have ei : decide ((i : Int) < 16) = true := decide_eq_true (by omega)
          have ei2 : (i : Int) < 16 := by omega
          have hRB : Hid (RB = true) := Lib.hid (by rw [HF.out]; rw [if_pos rfl]; simp [ht, hi])
          clear HF
          go_enter Tryd.func26, Tryd.ntmps26
          go_wp2_with fail
          go_ret
          exact ⟨by rw [hRB.out]; rfl, HB1.out⟩
        · have ei : decide ((i : Int) < 16) = false := decide_eq_false (by omega)
          have ei2 : ¬ (i : Int) < 16 := by omega
          have hRB : Hid (RB = false) := Lib.hid (by rw [HF.out]; rw [if_pos rfl]; simp [hi])
          clear HF
          go_enter Tryd.func26, Tryd.ntmps26
          go_wp2_with fail
          go_ret
          exact ⟨by rw [hRB.out]; rfl, HB1.out⟩
      · have en : (ns == 0) = false := beq_eq_false_iff_ne.2 hn
        have hRB : Hid (RB = false) := Lib.hid (by rw [HF.out]; rw [if_pos rfl]; simp [hn])
        clear HF
        go_enter Tryd.func26, Tryd.ntmps26
        go_wp2_with fail
        go_ret
        exact ⟨by rw [hRB.out]; rfl, HB1.out⟩
    · have et : ts.toList.isEmpty = false := by simpa using ht
      have et2 : ¬ ts.toList = [] := ht
      have hRB : Hid (RB = false) := Lib.hid (by rw [HF.out]; rw [if_pos rfl]; simp [ht])
      clear HF
      go_enter Tryd.func26, Tryd.ntmps26
      go_wp2_with fail
      go_ret
      exact ⟨by rw [hRB.out]; rfl, HB1.out⟩
  · have e4 : (ks == 4) = false := beq_eq_false_iff_ne.2 k4
    by_cases h0 : xl = 0
    · subst h0
      by_cases k0 : ks = 0
      · subst k0
        have hRB : Hid (RB = TB) := Lib.hid (by rw [HF.out]; rw [if_neg (by omega), if_pos (.inl rfl)]; simp)
        clear HF
        go_enter Tryd.func26, Tryd.ntmps26
        go_wp2_with fail
        refine HT.out.mono ?_
        rintro e w2 ⟨rfl, hb2⟩
        go_wp2
        go_ret
        exact ⟨by rw [hRB.out]; rfl, HB1.out.trans (hb2.mono HB1.out.size)⟩
      · have e0 : (ks == 0) = false := beq_eq_false_iff_ne.2 k0
        by_cases k1 : ks = 1
        · subst k1
          have hRB : Hid (RB = TB) := Lib.hid (by rw [HF.out]; rw [if_neg (by omega), if_pos (.inr rfl)]; simp)
          clear HF
          go_enter Tryd.func26, Tryd.ntmps26
          go_wp2_with fail
          refine HT.out.mono ?_
          rintro e w2 ⟨rfl, hb2⟩
          go_wp2
          go_ret
          exact ⟨by rw [hRB.out]; rfl, HB1.out.trans (hb2.mono HB1.out.size)⟩
        · have e1 : (ks == 1) = false := beq_eq_false_iff_ne.2 k1
          by_cases k2 : ks = 2
          · subst k2
            by_cases hn : ns = 0
            · subst hn
              have hRB : Hid (RB = true) := Lib.hid (by rw [HF.out]; rw [if_neg (by omega), if_neg (by omega), if_pos rfl]; simp)
              clear HF
              go_enter Tryd.func26, Tryd.ntmps26
              go_wp2_with fail
              go_ret
              exact ⟨by rw [hRB.out]; rfl, HB1.out⟩
            · have en : (ns == 0) = false := beq_eq_false_iff_ne.2 hn
              have hRB : Hid (RB = false) := Lib.hid (by rw [HF.out]; rw [if_neg (by omega), if_neg (by omega), if_pos rfl]; simp [hn])
              clear HF
              go_enter Tryd.func26, Tryd.ntmps26
              go_wp2_with fail
              go_ret
              exact ⟨by rw [hRB.out]; rfl, HB1.out⟩
          · have e2 : (ks == 2) = false := beq_eq_false_iff_ne.2 k2
            by_cases k3 : ks = 3
            · subst k3
              by_cases ht : ts.toList = [46]
              · have et : (ts.toList == [46]) = true := by rw [ht]; rfl
                have et2 : ts.toList = [46] := ht
                by_cases hn : ns = 0
                · subst hn
                  have hRB : Hid (RB = true) := Lib.hid (by rw [HF.out]; rw [if_neg (by omega), if_neg (by omega), if_neg (by omega), if_pos rfl]; simp [ht])
                  clear HF
                  go_enter Tryd.func26, Tryd.ntmps26
                  go_wp2_with fail
                  go_ret
                  exact ⟨by rw [hRB.out]; rfl, HB1.out⟩
                · have en : (ns == 0) = false := beq_eq_false_iff_ne.2 hn
                  have hRB : Hid (RB = false) := Lib.hid (by rw [HF.out]; rw [if_neg (by omega), if_neg (by omega), if_neg (by omega), if_pos rfl]; simp [hn])
                  clear HF
                  go_enter Tryd.func26, Tryd.ntmps26
                  go_wp2_with fail
                  go_ret
                  exact ⟨by rw [hRB.out]; rfl, HB1.out⟩
              · have et : (ts.toList == [46]) = false := by simpa using ht
                have et2 : ¬ ts.toList = [46] := ht
                have hRB : Hid (RB = false) := Lib.hid (by rw [HF.out]; rw [if_neg (by omega), if_neg (by omega), if_neg (by omega), if_pos rfl]; simp [ht])
                clear HF
                go_enter Tryd.func26, Tryd.ntmps26
                go_wp2_with fail
                go_ret
                exact ⟨by rw [hRB.out]; rfl, HB1.out⟩
            · have e3 : (ks == 3) = false := beq_eq_false_iff_ne.2 k3
              have hRB : Hid (RB = false) := Lib.hid (by rw [HF.out]; rw [if_neg (by omega), if_neg (by omega), if_neg (by omega), if_neg (by omega)]; simp)
              clear HF
              go_enter Tryd.func26, Tryd.ntmps26
              go_wp2_with fail
              go_ret
              exact ⟨by rw [hRB.out]; rfl, HB1.out⟩
    · have el : decide ((0 : Int) < (xl : Int)) = true := decide_eq_true (by omega)
      have el2 : 0 < xl := by omega
      have hRB : Hid (RB = false) := Lib.hid (by rw [HF.out]; rw [if_neg (by omega)]; simp [h0])
      clear HF
      go_enter Tryd.func26, Tryd.ntmps26
      go_wp2_with fail
      go_ret
      exact ⟨by rw [hRB.out]; rfl, HB1.out⟩
end Go.Proofs.YtceomdbahiimlaaDoor.T14
