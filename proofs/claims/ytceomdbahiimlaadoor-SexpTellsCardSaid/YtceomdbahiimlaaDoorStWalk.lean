/-
  The statement SexpTells' own body, for every text and node.
-/
import Derived.Test.YtceomdbahiimlaaDoorSexAw
import Derived.Test.YtceomdbahiimlaaDoorSexRtext
import Derived.Deep.RegionHeld3
namespace Go.Proofs.YtceomdbahiimlaaDoor.T14
set_option maxRecDepth 100000

open Go.RowKit

/-- The document's own Parse, as what is read. -/
theorem rparse14_rd (s : ByteArray) (hs : s.size ≤ 1000000) (w : World) :
    Calls Tryd.prog 12 #[.string s] w fun e w' => ∃ g, e = .returned (.tuple #[.agg #[.int .i64 (parR Lib.itoa s.data.toList).1.kind, .string (tx (parR Lib.itoa s.data.toList).1.text), .int .i64 (parR Lib.itoa s.data.toList).1.num, .int .i64 (parR Lib.itoa s.data.toList).1.at_, g], .int .i64 (parR Lib.itoa s.data.toList).2.1, .int .i64 (parR Lib.itoa s.data.toList).2.2]) ∧
      NAt (Rd w'.heap.size w') 17 (parR Lib.itoa s.data.toList).1 [.int .i64 (parR Lib.itoa s.data.toList).1.kind, .string (tx (parR Lib.itoa s.data.toList).1.text), .int .i64 (parR Lib.itoa s.data.toList).1.num, .int .i64 (parR Lib.itoa s.data.toList).1.at_, g] ∧ Below w.heap.size w w' := by
  refine (rparse14_any s hs w).mono ?_
  rintro e w' ⟨X, rfl, hX, hl, hb⟩
  have hn := LN.natR (by decide) X hl
  rw [hX] at hn
  have hn := nat_par hn
  have e1 : X.kind = (parR Lib.itoa s.data.toList).1.kind := by rw [← hX, LN.bare_eq]; rfl
  have e2 : X.text = (parR Lib.itoa s.data.toList).1.text := by rw [← hX, LN.bare_eq]; rfl
  have e3 : X.num = (parR Lib.itoa s.data.toList).1.num := by rw [← hX, LN.bare_eq]; rfl
  have e4 : X.at_ = (parR Lib.itoa s.data.toList).1.at_ := by rw [← hX, LN.bare_eq]; rfl
  refine ⟨X.g, ?_, ?_, hb⟩
  · rw [LN.val, e1, e2, e3, e4]
  · rw [LN.cells, e1, e2, e3, e4] at hn
    exact hn
/-- The cells of three boxes of nodes. -/
def Q15 (R P Q : Nat) (x y : Nd) (u v z : Value) (w : World) : Prop :=
  w.cell? ⟨R, 0, none⟩ = some (.int .i64 x.kind) ∧ w.cell? ⟨R, 1, none⟩ = some (.string (tx x.text)) ∧ w.cell? ⟨R, 2, none⟩ = some (.int .i64 x.num) ∧ w.cell? ⟨R, 3, none⟩ = some (.int .i64 x.at_) ∧ w.cell? ⟨R, 4, none⟩ = some u ∧ w.cell? ⟨P, 0, none⟩ = some (.int .i64 y.kind) ∧ w.cell? ⟨P, 1, none⟩ = some (.string (tx y.text)) ∧ w.cell? ⟨P, 2, none⟩ = some (.int .i64 y.num) ∧ w.cell? ⟨P, 3, none⟩ = some (.int .i64 y.at_) ∧ w.cell? ⟨P, 4, none⟩ = some v ∧ w.cell? ⟨Q, 0, none⟩ = some (.int .i64 y.kind) ∧ w.cell? ⟨Q, 1, none⟩ = some (.string (tx y.text)) ∧ w.cell? ⟨Q, 2, none⟩ = some (.int .i64 y.num) ∧ w.cell? ⟨Q, 3, none⟩ = some (.int .i64 y.at_) ∧ w.cell? ⟨Q, 4, none⟩ = some z
theorem Q15.on {R P Q : Nat} {x y : Nd} {u v z : Value} {w w' : World} (h : Q15 R P Q x y u v z w) (hb : Below w.heap.size w w') : Q15 R P Q x y u v z w' := by
  obtain ⟨a0, a1, a2, a3, a4, b0, b1, b2, b3, b4, c0, c1, c2, c3, c4⟩ := h
  exact ⟨cell_kept a0 hb, cell_kept a1 hb, cell_kept a2 hb, cell_kept a3 hb, cell_kept a4 hb, cell_kept b0 hb, cell_kept b1 hb, cell_kept b2 hb, cell_kept b3 hb, cell_kept b4 hb, cell_kept c0 hb, cell_kept c1 hb, cell_kept c2 hb, cell_kept c3 hb, cell_kept c4 hb⟩
set_option maxRecDepth 1000000 in
set_option maxHeartbeats 8000000 in
theorem stWalk (w : World) (LV : Laid w) (s : ByteArray) (hs0 : s.size ≤ maxLen) (x : Nd) (u : Value) (D : Nat) (hx : NAt (Rd w.heap.size w) D x [.int .i64 x.kind, .string (tx x.text), .int .i64 x.num, .int .i64 x.at_, u]) (hsm : Sm maxLen x) :
    Calls Tryd.prog 3 #[.string s, .agg #[.int .i64 x.kind, .string (tx x.text), .int .i64 x.num, .int .i64 x.at_, u]] w fun e w' => e = .returned (.bool true) ∧ Below w.heap.size w w' := by
  obtain ⟨A, c, rfl⟩ := NAt.shape hx
  have hb0 := below_new w (.cells #[.int .i64 x.kind, .string (tx x.text), .int .i64 x.num, .int .i64 x.at_, .slice A x.l.length c] 24)
  have HBX := Lib.hid (heap_alloc_new w (.cells #[.int .i64 x.kind, .string (tx x.text), .int .i64 x.num, .int .i64 x.at_, .slice A x.l.length c] 24))
  have HF := Lib.hid (fun W (h : Below w.heap.size w W) => few14_any D x _ W (NRd.mono h.size (NRd.low (Lo.below h (Nat.le_refl _)) hx)) hsm)
  have HAW := Lib.hid (awake14_any _ (LV.on hb0))
  have HX := Lib.hid hx
  have HB0 := Lib.hid hb0
  have d6 : ∃ b, decide ((6000 : Int) < (s.size : Int)) = b := ⟨_, rfl⟩
  obtain ⟨lb, d6⟩ := d6
  have HD6 := Lib.hid d6
  clear hx hsm hb0
  go_enter Tryd.func3, Tryd.ntmps3
  go_wp2_with fail
  refine HAW.out.mono ?_
  rintro e w1 ⟨rfl, hb1⟩
  have hb2 := below_then HB0.out hb1
  obtain ⟨n0, n1, n2, n3, n4⟩ := five_cells ((hb1.block _ (box_lt HBX.out)).trans HBX.out)
  have HB2 := Lib.hid (And.intro hb2 hb1)
  clear hb1 hb2
  go_wp2_with fail
  refine (HF.out _ HB2.out.1).mono ?_
  rintro e w2 ⟨b, rfl, hb, hb3⟩
  have hb4 := below_then HB2.out.1 hb3
  cases b with
  | false =>
    go_wp2
    go_ret
    exact ⟨rfl, hb4⟩
  | true =>
    cases lb with
    | true =>
      go_wp2
      go_ret
      exact ⟨rfl, hb4⟩
    | false =>
      obtain ⟨hw, hd⟩ := hb rfl
      have hx40 := nat_dp 40 D x _ hd HX.out
      have hsx := wt_sm (by decide) x hw
      have hst := str_wt x
      have hst1 : x.str.length ≤ 1000000000 := by omega
      have hss : s.size ≤ 6000 := by have := HD6.out; rw [decide_eq_false_iff_not] at this; omega
      have hB5 := below_then HB2.out.2 hb3
      have HP := Lib.hid (fun W (h : Below w.heap.size w W) => parse14_rd s (by omega) W (LV.on h))
      have HRP := Lib.hid (fun W => rparse14_rd s (by omega) W)
      have H4 := Lib.hid (And.intro hb4 hB5)
      have HN := Lib.hid (And.intro hx40 (And.intro hsx hst1))
      generalize (parR Lib.itoa s.data.toList).1 = y at *
      generalize (parR Lib.itoa s.data.toList).2.1 = pl at *
      generalize (parR Lib.itoa s.data.toList).2.2 = er at *
      clear n0 n1 n2 n3 n4 hb hw hd hx40 hsx hst hst1 hB5 hb4 hb3
      go_wp2_with fail
      refine (HP.out _ H4.out.1).mono ?_
      rintro e w3 ⟨g1, rfl, hy1, hb5⟩
      obtain ⟨A1, c1, rfl⟩ := NAt.shape hy1
      have HY1 := Lib.hid hy1
      have HBY := Lib.hid (heap_alloc_new w3 (.cells #[.int .i64 y.kind, .string (tx y.text), .int .i64 y.num, .int .i64 y.at_, .slice A1 y.l.length c1] 24))
      have hb6 := below_then hb5 (below_new w3 (.cells #[.int .i64 y.kind, .string (tx y.text), .int .i64 y.num, .int .i64 y.at_, .slice A1 y.l.length c1] 24))
      have H6 := Lib.hid (And.intro (below_then H4.out.1 hb6) (And.intro (below_then H4.out.2 hb6) (below_new w3 (.cells #[.int .i64 y.kind, .string (tx y.text), .int .i64 y.num, .int .i64 y.at_, .slice A1 y.l.length c1] 24))))
      clear hy1 hb5 hb6
      go_wp2_with fail
      refine (HRP.out _).mono ?_
      rintro e w5 ⟨g2, rfl, hy2, hb7⟩
      obtain ⟨A2, c2, rfl⟩ := NAt.shape hy2
      have HY2 := Lib.hid hy2
      have hbz := below_new w5 (.cells #[.int .i64 y.kind, .string (tx y.text), .int .i64 y.num, .int .i64 y.at_, .slice A2 y.l.length c2] 24)
      have hb8 := below_then hb7 hbz
      obtain ⟨a0, a1, a2, a3, a4⟩ := five_cells (((below_then H6.out.2.1 hb8).block _ (box_lt HBX.out)).trans HBX.out)
      obtain ⟨b0, b1, b2, b3, b4⟩ := five_cells ((hb8.block _ (box_lt HBY.out)).trans HBY.out)
      obtain ⟨e0, e1, e2, e3, e4⟩ := five_cells (heap_alloc_new w5 (.cells #[.int .i64 y.kind, .string (tx y.text), .int .i64 y.num, .int .i64 y.at_, .slice A2 y.l.length c2] 24))
      have H8 := Lib.hid (And.intro (below_then H6.out.1 hb8) (And.intro (below_then H6.out.2.2 hb8) hbz))
      have C1 := fun (W : World) (h : Below (w5.alloc (.cells #[.int .i64 y.kind, .string (tx y.text), .int .i64 y.num, .int .i64 y.at_, .slice A2 y.l.length c2] 24)).heap.size (w5.alloc (.cells #[.int .i64 y.kind, .string (tx y.text), .int .i64 y.num, .int .i64 y.at_, .slice A2 y.l.length c2] 24)) W) => rsame_any W.heap.size 17 true y y _ _ W (Nat.le_refl _) (NRd.mono (below_then H8.out.2.1 h).size (NRd.low (Lo.below (below_then H8.out.2.1 h) (Nat.le_refl _)) HY1.out)) (NRd.mono (below_then H8.out.2.2 h).size (NRd.low (Lo.below (below_then H8.out.2.2 h) (Nat.le_refl _)) HY2.out))
      rw [eqC_yes (rfl : keyN true y = keyN true y)] at C1
      have C2 := fun (W : World) (h : Below (w5.alloc (.cells #[.int .i64 y.kind, .string (tx y.text), .int .i64 y.num, .int .i64 y.at_, .slice A2 y.l.length c2] 24)).heap.size (w5.alloc (.cells #[.int .i64 y.kind, .string (tx y.text), .int .i64 y.num, .int .i64 y.at_, .slice A2 y.l.length c2] 24)) W) => may14_any 40 x _ W (by decide) (NRd.mono (below_then H8.out.1 h).size (NRd.low (Lo.below (below_then H8.out.1 h) (Nat.le_refl _)) HN.out.1)) HN.out.2.1 (LV.on (below_then H8.out.1 h))
      have C3 := fun (W : World) (h : Below (w5.alloc (.cells #[.int .i64 y.kind, .string (tx y.text), .int .i64 y.num, .int .i64 y.at_, .slice A2 y.l.length c2] 24)).heap.size (w5.alloc (.cells #[.int .i64 y.kind, .string (tx y.text), .int .i64 y.num, .int .i64 y.at_, .slice A2 y.l.length c2] 24)) W) => rmay_any 40 x _ W (NRd.mono (below_then H8.out.1 h).size (NRd.low (Lo.below (below_then H8.out.1 h) (Nat.le_refl _)) HN.out.1)) HN.out.2.1
      have C4 := fun (W : World) (h : Below (w5.alloc (.cells #[.int .i64 y.kind, .string (tx y.text), .int .i64 y.num, .int .i64 y.at_, .slice A2 y.l.length c2] 24)).heap.size (w5.alloc (.cells #[.int .i64 y.kind, .string (tx y.text), .int .i64 y.num, .int .i64 y.at_, .slice A2 y.l.length c2] 24)) W) => print14_any 40 x _ W (by decide) (NRd.mono (below_then H8.out.1 h).size (NRd.low (Lo.below (below_then H8.out.1 h) (Nat.le_refl _)) HN.out.1)) HN.out.2.1 (Nat.le_trans HN.out.2.2 (by decide)) (LV.on (below_then H8.out.1 h))
      have C5 := fun (W : World) (h : Below (w5.alloc (.cells #[.int .i64 y.kind, .string (tx y.text), .int .i64 y.num, .int .i64 y.at_, .slice A2 y.l.length c2] 24)).heap.size (w5.alloc (.cells #[.int .i64 y.kind, .string (tx y.text), .int .i64 y.num, .int .i64 y.at_, .slice A2 y.l.length c2] 24)) W) => rprint_any 40 x _ W (NRd.mono (below_then H8.out.1 h).size (NRd.low (Lo.below (below_then H8.out.1 h) (Nat.le_refl _)) HN.out.1)) HN.out.2.1 HN.out.2.2
      have C6 := fun (W : World) (h : Below (w5.alloc (.cells #[.int .i64 y.kind, .string (tx y.text), .int .i64 y.num, .int .i64 y.at_, .slice A2 y.l.length c2] 24)).heap.size (w5.alloc (.cells #[.int .i64 y.kind, .string (tx y.text), .int .i64 y.num, .int .i64 y.at_, .slice A2 y.l.length c2] 24)) W) => same14_any W.heap.size 40 x y _ _ W (Nat.le_refl _) (NRd.mono (below_then H8.out.1 h).size (NRd.low (Lo.below (below_then H8.out.1 h) (Nat.le_refl _)) HN.out.1)) (NAt.more (by decide) _ _ (NRd.mono (below_then H8.out.2.1 h).size (NRd.low (Lo.below (below_then H8.out.2.1 h) (Nat.le_refl _)) HY1.out)))
      have C7 := fun (W : World) (h : Below (w5.alloc (.cells #[.int .i64 y.kind, .string (tx y.text), .int .i64 y.num, .int .i64 y.at_, .slice A2 y.l.length c2] 24)).heap.size (w5.alloc (.cells #[.int .i64 y.kind, .string (tx y.text), .int .i64 y.num, .int .i64 y.at_, .slice A2 y.l.length c2] 24)) W) => rsame_any W.heap.size 40 false x y _ _ W (Nat.le_refl _) (NRd.mono (below_then H8.out.1 h).size (NRd.low (Lo.below (below_then H8.out.1 h) (Nat.le_refl _)) HN.out.1)) (NAt.more (by decide) _ _ (NRd.mono (below_then H8.out.2.1 h).size (NRd.low (Lo.below (below_then H8.out.2.1 h) (Nat.le_refl _)) HY1.out)))
      have C8 := fun (W : World) (h : Below (w5.alloc (.cells #[.int .i64 y.kind, .string (tx y.text), .int .i64 y.num, .int .i64 y.at_, .slice A2 y.l.length c2] 24)).heap.size (w5.alloc (.cells #[.int .i64 y.kind, .string (tx y.text), .int .i64 y.num, .int .i64 y.at_, .slice A2 y.l.length c2] 24)) W) => same14_any W.heap.size 40 x x _ _ W (Nat.le_refl _) (NRd.mono (below_then H8.out.1 h).size (NRd.low (Lo.below (below_then H8.out.1 h) (Nat.le_refl _)) HN.out.1)) (NRd.mono (below_then H8.out.1 h).size (NRd.low (Lo.below (below_then H8.out.1 h) (Nat.le_refl _)) HN.out.1))
      rw [eqC_yes (rfl : x.un = x.un)] at C8
      rw [show keyN false x = x.un from rfl, show keyN false y = y.un from rfl] at C7
      generalize mayB Lib.itoa x = mb at *
      generalize printB Lib.itoa x = pb at *
      generalize eqC x.un y.un = sb at *
      have C1 := Lib.hid C1
      have C2 := Lib.hid C2
      have C3 := Lib.hid C3
      have C4 := Lib.hid C4
      have C5 := Lib.hid C5
      have C6 := Lib.hid C6
      have C7 := Lib.hid C7
      have C8 := Lib.hid C8
      have hS0 : Q15 w.heap.size w3.heap.size w5.heap.size x y (.slice A x.l.length c) (.slice A1 y.l.length c1) (.slice A2 y.l.length c2) (w5.alloc (.cells #[.int .i64 y.kind, .string (tx y.text), .int .i64 y.num, .int .i64 y.at_, .slice A2 y.l.length c2] 24)) := ⟨a0, a1, a2, a3, a4, b0, b1, b2, b3, b4, e0, e1, e2, e3, e4⟩
      have HSX := Lib.hid (fun wx (h : Below (w5.alloc (.cells #[.int .i64 y.kind, .string (tx y.text), .int .i64 y.num, .int .i64 y.at_, .slice A2 y.l.length c2] 24)).heap.size (w5.alloc (.cells #[.int .i64 y.kind, .string (tx y.text), .int .i64 y.num, .int .i64 y.at_, .slice A2 y.l.length c2] 24)) wx) => hS0.on h)
      have hD : Below (w5.alloc (.cells #[.int .i64 y.kind, .string (tx y.text), .int .i64 y.num, .int .i64 y.at_, .slice A2 y.l.length c2] 24)).heap.size (w5.alloc (.cells #[.int .i64 y.kind, .string (tx y.text), .int .i64 y.num, .int .i64 y.at_, .slice A2 y.l.length c2] 24)) (w5.alloc (.cells #[.int .i64 y.kind, .string (tx y.text), .int .i64 y.num, .int .i64 y.at_, .slice A2 y.l.length c2] 24)).drew := (Below.refl _ _).drew
      clear hy2 hb7 hbz hb8 hS0 a0 a1 a2 a3 a4 b0 b1 b2 b3 b4 e0 e1 e2 e3 e4
      go_wp2_with fail
      refine wp_region_held_drew (S := (fun w' => w'.cell? ⟨w.heap.size, 0, none⟩ = some (.int .i64 x.kind) ∧ w'.cell? ⟨w.heap.size, 1, none⟩ = some (.string (tx x.text)) ∧ w'.cell? ⟨w.heap.size, 2, none⟩ = some (.int .i64 x.num) ∧ w'.cell? ⟨w.heap.size, 3, none⟩ = some (.int .i64 x.at_) ∧ w'.cell? ⟨w.heap.size, 4, none⟩ = some (.slice A x.l.length c) ∧ w'.cell? ⟨w3.heap.size, 0, none⟩ = some (.int .i64 y.kind) ∧ w'.cell? ⟨w3.heap.size, 1, none⟩ = some (.string (tx y.text)) ∧ w'.cell? ⟨w3.heap.size, 2, none⟩ = some (.int .i64 y.num) ∧ w'.cell? ⟨w3.heap.size, 3, none⟩ = some (.int .i64 y.at_) ∧ w'.cell? ⟨w3.heap.size, 4, none⟩ = some (.slice A1 y.l.length c1) ∧ w'.cell? ⟨w5.heap.size, 0, none⟩ = some (.int .i64 y.kind) ∧ w'.cell? ⟨w5.heap.size, 1, none⟩ = some (.string (tx y.text)) ∧ w'.cell? ⟨w5.heap.size, 2, none⟩ = some (.int .i64 y.num) ∧ w'.cell? ⟨w5.heap.size, 3, none⟩ = some (.int .i64 y.at_) ∧ w'.cell? ⟨w5.heap.size, 4, none⟩ = some (.slice A2 y.l.length c2))) (by kernel_rfl) (HSX.out _ hD) (fun hHeld => ?_)
      refine wpAnyH_take (i := 0) (oi := { dst := some 38, op := Go.Op.load 24 (Go.Operand.tmp 6), type := 24, pos := "law.go:24", after := #[], guard := none }) (v := ?_) rfl (by kernel_rfl) (by kernel_rfl) (by kernel_rfl) (fun _ _ _ h => h) (Or.inl ⟨by rfl, ?_⟩) hHeld ?_
      rotate_left
      · intro w hSw
        (try dsimp only at hSw)
        go_simp
        all_goals with_reducible rfl
      (try simp only [Act.put, List.setIfInBounds_toArray, List.set_cons_zero, List.set_cons_succ])
      refine wpAnyH_take (i := 1) (oi := { dst := some 39, op := Go.Op.load 24 (Go.Operand.tmp 9), type := 24, pos := "law.go:24", after := #[], guard := none }) (v := ?_) rfl (by kernel_rfl) (by kernel_rfl) (by kernel_rfl) (fun _ _ _ h => h) (Or.inl ⟨by rfl, ?_⟩) hHeld ?_
      rotate_left
      · intro w hSw
        (try dsimp only at hSw)
        go_simp
        all_goals with_reducible rfl
      (try simp only [Act.put, List.setIfInBounds_toArray, List.set_cons_zero, List.set_cons_succ])
      refine wpAnyH_ready (rs := [2]) (by kernel_rfl) (by simp) ?_
      refine AllReadyH.cons (o := { dst := some 40, op := Go.Op.call { callee := Go.Callee.value (Go.Operand.func 13), args := #[Go.Operand.tmp 38, Go.Operand.tmp 39, Go.Operand.const (Go.Value.bool true)], argTypes := #[24, 24, 4] }, type := 4, pos := "law.go:24", after := #[{ on := 0, ground := Go.Ground.data }, { on := 1, ground := Go.Ground.data }], guard := none }) rfl (fun K hK => ?_) AllReadyH.nil
      go_simp
      (go_at_call 13; (with_reducible refine (C1.out _ hD).mono ?_); rintro e v1 ⟨rfl, h1⟩; have L1 := below_then hD h1)
      go_wp2_with fail
      refine hK.out _ _ (HSX.out _ L1) (fun hHeld => ?_)
      clear hK K
      (try simp only [Act.put, List.setIfInBounds_toArray, List.set_cons_zero, List.set_cons_succ])
      refine wpAnyH_take (i := 3) (oi := { dst := some 41, op := Go.Op.move (Go.Operand.tmp 40), type := 4, pos := "law.go:24", after := #[{ on := 2, ground := Go.Ground.data }, { on := 2, ground := Go.Ground.chain }], guard := none }) (v := ?_) rfl (by kernel_rfl) (by kernel_rfl) (by kernel_rfl) (fun _ _ _ h => h) (Or.inl ⟨by rfl, ?_⟩) hHeld ?_
      rotate_left
      · intro w hSw
        (try dsimp only at hSw)
        go_simp
        all_goals with_reducible rfl
      (try simp only [Act.put, List.setIfInBounds_toArray, List.set_cons_zero, List.set_cons_succ])
      refine wpAnyH_take (i := 4) (oi := { dst := some 42, op := Go.Op.move (Go.Operand.tmp 7), type := 3, pos := "law.go:24", after := #[{ on := 3, ground := Go.Ground.guard }], guard := some (3, true) }) (v := ?_) rfl (by kernel_rfl) (by kernel_rfl) (by kernel_rfl) (fun _ _ _ h => h) (Or.inl ⟨by rfl, ?_⟩) hHeld ?_
      rotate_left
      · intro w hSw
        (try dsimp only at hSw)
        go_simp
        all_goals with_reducible rfl
      (try simp only [Act.put, List.setIfInBounds_toArray, List.set_cons_zero, List.set_cons_succ])
      refine wpAnyH_take (i := 5) (oi := { dst := some 43, op := Go.Op.move (Go.Operand.tmp 10), type := 3, pos := "law.go:24", after := #[{ on := 3, ground := Go.Ground.guard }], guard := some (3, true) }) (v := ?_) rfl (by kernel_rfl) (by kernel_rfl) (by kernel_rfl) (fun _ _ _ h => h) (Or.inl ⟨by rfl, ?_⟩) hHeld ?_
      rotate_left
      · intro w hSw
        (try dsimp only at hSw)
        go_simp
        all_goals with_reducible rfl
      (try simp only [Act.put, List.setIfInBounds_toArray, List.set_cons_zero, List.set_cons_succ])
      refine wpAnyH_take (i := 6) (oi := { dst := some 44, op := Go.Op.binOp Go.BinOp.eql 3 (Go.Operand.tmp 42) (Go.Operand.tmp 43) 3, type := 4, pos := "law.go:24", after := #[{ on := 4, ground := Go.Ground.data }, { on := 5, ground := Go.Ground.data }, { on := 3, ground := Go.Ground.guard }], guard := some (3, true) }) (v := ?_) rfl (by kernel_rfl) (by kernel_rfl) (by kernel_rfl) (fun _ _ _ h => h) (Or.inl ⟨by rfl, ?_⟩) hHeld ?_
      rotate_left
      · intro w hSw
        (try dsimp only at hSw)
        go_simp
        all_goals with_reducible rfl
      (try simp only [Act.put, List.setIfInBounds_toArray, List.set_cons_zero, List.set_cons_succ])
      refine wpAnyH_take (i := 7) (oi := { dst := some 45, op := Go.Op.pick (Go.Operand.tmp 41) (Go.Operand.tmp 44) (Go.Operand.const (Go.Value.bool false)), type := 4, pos := "law.go:24", after := #[{ on := 3, ground := Go.Ground.data }, { on := 6, ground := Go.Ground.data }], guard := none }) (v := ?_) rfl (by kernel_rfl) (by kernel_rfl) (by kernel_rfl) (fun _ _ _ h => h) (Or.inl ⟨by rfl, ?_⟩) hHeld ?_
      rotate_left
      · intro w hSw
        (try dsimp only at hSw)
        go_simp
        all_goals with_reducible rfl
      (try simp only [Act.put, List.setIfInBounds_toArray, List.set_cons_zero, List.set_cons_succ])
      refine wpAnyH_take (i := 8) (oi := { dst := some 46, op := Go.Op.move (Go.Operand.tmp 45), type := 4, pos := "law.go:24", after := #[{ on := 7, ground := Go.Ground.data }, { on := 3, ground := Go.Ground.chain }], guard := none }) (v := ?_) rfl (by kernel_rfl) (by kernel_rfl) (by kernel_rfl) (fun _ _ _ h => h) (Or.inl ⟨by rfl, ?_⟩) hHeld ?_
      rotate_left
      · intro w hSw
        (try dsimp only at hSw)
        go_simp
        all_goals with_reducible rfl
      (try simp only [Act.put, List.setIfInBounds_toArray, List.set_cons_zero, List.set_cons_succ])
      refine wpAnyH_take (i := 9) (oi := { dst := some 47, op := Go.Op.move (Go.Operand.tmp 8), type := 27, pos := "law.go:24", after := #[{ on := 8, ground := Go.Ground.guard }], guard := some (8, true) }) (v := ?_) rfl (by kernel_rfl) (by kernel_rfl) (by kernel_rfl) (fun _ _ _ h => h) (Or.inl ⟨by rfl, ?_⟩) hHeld ?_
      rotate_left
      · intro w hSw
        (try dsimp only at hSw)
        go_simp
        all_goals with_reducible rfl
      (try simp only [Act.put, List.setIfInBounds_toArray, List.set_cons_zero, List.set_cons_succ])
      refine wpAnyH_take (i := 10) (oi := { dst := some 48, op := Go.Op.move (Go.Operand.tmp 11), type := 27, pos := "law.go:24", after := #[{ on := 8, ground := Go.Ground.guard }], guard := some (8, true) }) (v := ?_) rfl (by kernel_rfl) (by kernel_rfl) (by kernel_rfl) (fun _ _ _ h => h) (Or.inl ⟨by rfl, ?_⟩) hHeld ?_
      rotate_left
      · intro w hSw
        (try dsimp only at hSw)
        go_simp
        all_goals with_reducible rfl
      (try simp only [Act.put, List.setIfInBounds_toArray, List.set_cons_zero, List.set_cons_succ])
      refine wpAnyH_take (i := 11) (oi := { dst := some 49, op := Go.Op.binOp Go.BinOp.eql 27 (Go.Operand.tmp 47) (Go.Operand.tmp 48) 27, type := 4, pos := "law.go:24", after := #[{ on := 9, ground := Go.Ground.data }, { on := 10, ground := Go.Ground.data }, { on := 8, ground := Go.Ground.guard }], guard := some (8, true) }) (v := ?_) rfl (by kernel_rfl) (by kernel_rfl) (by kernel_rfl) (fun _ _ _ h => h) (Or.inl ⟨by rfl, ?_⟩) hHeld ?_
      rotate_left
      · intro w hSw
        (try dsimp only at hSw)
        go_simp
        all_goals with_reducible rfl
      (try simp only [Act.put, List.setIfInBounds_toArray, List.set_cons_zero, List.set_cons_succ])
      refine wpAnyH_take (i := 12) (oi := { dst := some 50, op := Go.Op.pick (Go.Operand.tmp 46) (Go.Operand.tmp 49) (Go.Operand.const (Go.Value.bool false)), type := 4, pos := "law.go:24", after := #[{ on := 8, ground := Go.Ground.data }, { on := 11, ground := Go.Ground.data }], guard := none }) (v := ?_) rfl (by kernel_rfl) (by kernel_rfl) (by kernel_rfl) (fun _ _ _ h => h) (Or.inl ⟨by rfl, ?_⟩) hHeld ?_
      rotate_left
      · intro w hSw
        (try dsimp only at hSw)
        go_simp
        all_goals with_reducible rfl
      (try simp only [Act.put, List.setIfInBounds_toArray, List.set_cons_zero, List.set_cons_succ])
      refine wpAnyH_take (i := 13) (oi := { dst := some 51, op := Go.Op.move (Go.Operand.tmp 50), type := 4, pos := "law.go:24", after := #[{ on := 12, ground := Go.Ground.data }, { on := 8, ground := Go.Ground.chain }], guard := none }) (v := ?_) rfl (by kernel_rfl) (by kernel_rfl) (by kernel_rfl) (fun _ _ _ h => h) (Or.inl ⟨by rfl, ?_⟩) hHeld ?_
      rotate_left
      · intro w hSw
        (try dsimp only at hSw)
        go_simp
        all_goals with_reducible rfl
      (try simp only [Act.put, List.setIfInBounds_toArray, List.set_cons_zero, List.set_cons_succ])
      refine wpAnyH_take (i := 14) (oi := { dst := some 52, op := Go.Op.load 24 (Go.Operand.tmp 3), type := 24, pos := "law.go:24", after := #[{ on := 13, ground := Go.Ground.guard }], guard := some (13, true) }) (v := ?_) rfl (by kernel_rfl) (by kernel_rfl) (by kernel_rfl) (fun _ _ _ h => h) (Or.inl ⟨by rfl, ?_⟩) hHeld ?_
      rotate_left
      · intro w hSw
        (try dsimp only at hSw)
        go_simp
        all_goals with_reducible rfl
      (try simp only [Act.put, List.setIfInBounds_toArray, List.set_cons_zero, List.set_cons_succ])
      refine wpAnyH_take (i := 16) (oi := { dst := some 54, op := Go.Op.load 24 (Go.Operand.tmp 3), type := 24, pos := "law.go:24", after := #[{ on := 13, ground := Go.Ground.guard }], guard := some (13, true) }) (v := ?_) rfl (by kernel_rfl) (by kernel_rfl) (by kernel_rfl) (fun _ _ _ h => h) (Or.inl ⟨by rfl, ?_⟩) hHeld ?_
      rotate_left
      · intro w hSw
        (try dsimp only at hSw)
        go_simp
        all_goals with_reducible rfl
      (try simp only [Act.put, List.setIfInBounds_toArray, List.set_cons_zero, List.set_cons_succ])
      refine wpAnyH_ready (rs := [15]) (by kernel_rfl) (by simp) ?_
      refine AllReadyH.cons (o := { dst := some 53, op := Go.Op.call { callee := Go.Callee.value (Go.Operand.func 14), args := #[Go.Operand.tmp 52], argTypes := #[24] }, type := 4, pos := "law.go:24", after := #[{ on := 14, ground := Go.Ground.data }, { on := 13, ground := Go.Ground.chain }, { on := 13, ground := Go.Ground.guard }], guard := some (13, true) }) rfl (fun K hK => ?_) AllReadyH.nil
      go_simp
      (go_at_call 14; (with_reducible refine (C2.out _ L1).mono ?_); rintro e v2 ⟨rfl, h2⟩; have L2 := below_then L1 h2)
      go_wp2_with fail
      refine hK.out _ _ (HSX.out _ L2) (fun hHeld => ?_)
      clear hK K
      (try simp only [Act.put, List.setIfInBounds_toArray, List.set_cons_zero, List.set_cons_succ])
      refine wpAnyH_ready (rs := [17]) (by kernel_rfl) (by simp) ?_
      refine AllReadyH.cons (o := { dst := some 55, op := Go.Op.call { callee := Go.Callee.value (Go.Operand.func 15), args := #[Go.Operand.tmp 54], argTypes := #[24] }, type := 4, pos := "law.go:24", after := #[{ on := 16, ground := Go.Ground.data }, { on := 15, ground := Go.Ground.chain }, { on := 13, ground := Go.Ground.guard }], guard := some (13, true) }) rfl (fun K hK => ?_) AllReadyH.nil
      go_simp
      (go_at_call 15; (with_reducible refine (C3.out _ L2).mono ?_); rintro e v3 ⟨rfl, h3⟩; have L3 := below_then L2 h3)
      go_wp2_with fail
      refine hK.out _ _ (HSX.out _ L3) (fun hHeld => ?_)
      clear hK K
      (try simp only [Act.put, List.setIfInBounds_toArray, List.set_cons_zero, List.set_cons_succ])
      refine wpAnyH_take (i := 18) (oi := { dst := some 56, op := Go.Op.binOp Go.BinOp.eql 4 (Go.Operand.tmp 53) (Go.Operand.tmp 55) 4, type := 4, pos := "law.go:24", after := #[{ on := 15, ground := Go.Ground.data }, { on := 17, ground := Go.Ground.data }, { on := 13, ground := Go.Ground.guard }], guard := some (13, true) }) (v := ?_) rfl (by kernel_rfl) (by kernel_rfl) (by kernel_rfl) (fun _ _ _ h => h) (Or.inl ⟨by rfl, ?_⟩) hHeld ?_
      rotate_left
      · intro w hSw
        (try dsimp only at hSw)
        go_simp
        all_goals with_reducible rfl
      (try simp only [Act.put, List.setIfInBounds_toArray, List.set_cons_zero, List.set_cons_succ])
      refine wpAnyH_take (i := 19) (oi := { dst := some 57, op := Go.Op.pick (Go.Operand.tmp 51) (Go.Operand.tmp 56) (Go.Operand.const (Go.Value.bool false)), type := 4, pos := "law.go:24", after := #[{ on := 13, ground := Go.Ground.data }, { on := 18, ground := Go.Ground.data }], guard := none }) (v := ?_) rfl (by kernel_rfl) (by kernel_rfl) (by kernel_rfl) (fun _ _ _ h => h) (Or.inl ⟨by rfl, ?_⟩) hHeld ?_
      rotate_left
      · intro w hSw
        (try dsimp only at hSw)
        go_simp
        all_goals with_reducible rfl
      (try simp only [Act.put, List.setIfInBounds_toArray, List.set_cons_zero, List.set_cons_succ])
      refine wpAnyH_take (i := 20) (oi := { dst := some 58, op := Go.Op.move (Go.Operand.tmp 57), type := 4, pos := "law.go:24", after := #[{ on := 19, ground := Go.Ground.data }, { on := 17, ground := Go.Ground.chain }], guard := none }) (v := ?_) rfl (by kernel_rfl) (by kernel_rfl) (by kernel_rfl) (fun _ _ _ h => h) (Or.inl ⟨by rfl, ?_⟩) hHeld ?_
      rotate_left
      · intro w hSw
        (try dsimp only at hSw)
        go_simp
        all_goals with_reducible rfl
      (try simp only [Act.put, List.setIfInBounds_toArray, List.set_cons_zero, List.set_cons_succ])
      refine wpAnyH_take (i := 21) (oi := { dst := some 59, op := Go.Op.load 24 (Go.Operand.tmp 3), type := 24, pos := "law.go:24", after := #[{ on := 20, ground := Go.Ground.guard }], guard := some (20, true) }) (v := ?_) rfl (by kernel_rfl) (by kernel_rfl) (by kernel_rfl) (fun _ _ _ h => h) (Or.inl ⟨by rfl, ?_⟩) hHeld ?_
      rotate_left
      · intro w hSw
        (try dsimp only at hSw)
        go_simp
        all_goals with_reducible rfl
      (try simp only [Act.put, List.setIfInBounds_toArray, List.set_cons_zero, List.set_cons_succ])
      refine wpAnyH_take (i := 23) (oi := { dst := some 61, op := Go.Op.load 24 (Go.Operand.tmp 3), type := 24, pos := "law.go:24", after := #[{ on := 20, ground := Go.Ground.guard }], guard := some (20, true) }) (v := ?_) rfl (by kernel_rfl) (by kernel_rfl) (by kernel_rfl) (fun _ _ _ h => h) (Or.inl ⟨by rfl, ?_⟩) hHeld ?_
      rotate_left
      · intro w hSw
        (try dsimp only at hSw)
        go_simp
        all_goals with_reducible rfl
      (try simp only [Act.put, List.setIfInBounds_toArray, List.set_cons_zero, List.set_cons_succ])
      refine wpAnyH_ready (rs := [22]) (by kernel_rfl) (by simp) ?_
      refine AllReadyH.cons (o := { dst := some 60, op := Go.Op.call { callee := Go.Callee.value (Go.Operand.func 16), args := #[Go.Operand.tmp 59], argTypes := #[24] }, type := 9, pos := "law.go:24", after := #[{ on := 21, ground := Go.Ground.data }, { on := 20, ground := Go.Ground.chain }, { on := 20, ground := Go.Ground.guard }], guard := some (20, true) }) rfl (fun K hK => ?_) AllReadyH.nil
      go_simp
      (go_at_call 16; (with_reducible refine (C4.out _ L3).mono ?_); rintro e v4 ⟨rfl, h4⟩; have L4 := below_then L3 h4)
      go_wp2_with fail
      refine hK.out _ _ (HSX.out _ L4) (fun hHeld => ?_)
      clear hK K
      (try simp only [Act.put, List.setIfInBounds_toArray, List.set_cons_zero, List.set_cons_succ])
      refine wpAnyH_ready (rs := [24]) (by kernel_rfl) (by simp) ?_
      refine AllReadyH.cons (o := { dst := some 62, op := Go.Op.call { callee := Go.Callee.value (Go.Operand.func 17), args := #[Go.Operand.tmp 61], argTypes := #[24] }, type := 9, pos := "law.go:24", after := #[{ on := 23, ground := Go.Ground.data }, { on := 22, ground := Go.Ground.chain }, { on := 20, ground := Go.Ground.guard }], guard := some (20, true) }) rfl (fun K hK => ?_) AllReadyH.nil
      go_simp
      (go_at_call 17; (with_reducible refine (C5.out _ L4).mono ?_); rintro e v5 ⟨rfl, h5⟩; have L5 := below_then L4 h5)
      go_wp2_with fail
      refine hK.out _ _ (HSX.out _ L5) (fun hHeld => ?_)
      clear hK K
      (try simp only [Act.put, List.setIfInBounds_toArray, List.set_cons_zero, List.set_cons_succ])
      refine wpAnyH_take (i := 25) (oi := { dst := some 63, op := Go.Op.binOp Go.BinOp.eql 9 (Go.Operand.tmp 60) (Go.Operand.tmp 62) 9, type := 4, pos := "law.go:24", after := #[{ on := 22, ground := Go.Ground.data }, { on := 24, ground := Go.Ground.data }, { on := 20, ground := Go.Ground.guard }], guard := some (20, true) }) (v := ?_) rfl (by kernel_rfl) (by kernel_rfl) (by kernel_rfl) (fun _ _ _ h => h) (Or.inl ⟨by rfl, ?_⟩) hHeld ?_
      rotate_left
      · intro w hSw
        (try dsimp only at hSw)
        go_simp
        all_goals with_reducible rfl
      (try simp only [Act.put, List.setIfInBounds_toArray, List.set_cons_zero, List.set_cons_succ])
      refine wpAnyH_take (i := 26) (oi := { dst := some 64, op := Go.Op.pick (Go.Operand.tmp 58) (Go.Operand.tmp 63) (Go.Operand.const (Go.Value.bool false)), type := 4, pos := "law.go:24", after := #[{ on := 20, ground := Go.Ground.data }, { on := 25, ground := Go.Ground.data }], guard := none }) (v := ?_) rfl (by kernel_rfl) (by kernel_rfl) (by kernel_rfl) (fun _ _ _ h => h) (Or.inl ⟨by rfl, ?_⟩) hHeld ?_
      rotate_left
      · intro w hSw
        (try dsimp only at hSw)
        go_simp
        all_goals with_reducible rfl
      (try simp only [Act.put, List.setIfInBounds_toArray, List.set_cons_zero, List.set_cons_succ])
      refine wpAnyH_take (i := 27) (oi := { dst := some 65, op := Go.Op.move (Go.Operand.tmp 64), type := 4, pos := "law.go:24", after := #[{ on := 26, ground := Go.Ground.data }, { on := 24, ground := Go.Ground.chain }], guard := none }) (v := ?_) rfl (by kernel_rfl) (by kernel_rfl) (by kernel_rfl) (fun _ _ _ h => h) (Or.inl ⟨by rfl, ?_⟩) hHeld ?_
      rotate_left
      · intro w hSw
        (try dsimp only at hSw)
        go_simp
        all_goals with_reducible rfl
      (try simp only [Act.put, List.setIfInBounds_toArray, List.set_cons_zero, List.set_cons_succ])
      refine wpAnyH_take (i := 28) (oi := { dst := some 66, op := Go.Op.load 24 (Go.Operand.tmp 3), type := 24, pos := "law.go:24", after := #[{ on := 27, ground := Go.Ground.guard }], guard := some (27, true) }) (v := ?_) rfl (by kernel_rfl) (by kernel_rfl) (by kernel_rfl) (fun _ _ _ h => h) (Or.inl ⟨by rfl, ?_⟩) hHeld ?_
      rotate_left
      · intro w hSw
        (try dsimp only at hSw)
        go_simp
        all_goals with_reducible rfl
      (try simp only [Act.put, List.setIfInBounds_toArray, List.set_cons_zero, List.set_cons_succ])
      refine wpAnyH_take (i := 29) (oi := { dst := some 67, op := Go.Op.load 24 (Go.Operand.tmp 6), type := 24, pos := "law.go:24", after := #[{ on := 27, ground := Go.Ground.guard }], guard := some (27, true) }) (v := ?_) rfl (by kernel_rfl) (by kernel_rfl) (by kernel_rfl) (fun _ _ _ h => h) (Or.inl ⟨by rfl, ?_⟩) hHeld ?_
      rotate_left
      · intro w hSw
        (try dsimp only at hSw)
        go_simp
        all_goals with_reducible rfl
      (try simp only [Act.put, List.setIfInBounds_toArray, List.set_cons_zero, List.set_cons_succ])
      refine wpAnyH_take (i := 31) (oi := { dst := some 69, op := Go.Op.load 24 (Go.Operand.tmp 3), type := 24, pos := "law.go:24", after := #[{ on := 27, ground := Go.Ground.guard }], guard := some (27, true) }) (v := ?_) rfl (by kernel_rfl) (by kernel_rfl) (by kernel_rfl) (fun _ _ _ h => h) (Or.inl ⟨by rfl, ?_⟩) hHeld ?_
      rotate_left
      · intro w hSw
        (try dsimp only at hSw)
        go_simp
        all_goals with_reducible rfl
      (try simp only [Act.put, List.setIfInBounds_toArray, List.set_cons_zero, List.set_cons_succ])
      refine wpAnyH_take (i := 32) (oi := { dst := some 70, op := Go.Op.load 24 (Go.Operand.tmp 6), type := 24, pos := "law.go:24", after := #[{ on := 27, ground := Go.Ground.guard }], guard := some (27, true) }) (v := ?_) rfl (by kernel_rfl) (by kernel_rfl) (by kernel_rfl) (fun _ _ _ h => h) (Or.inl ⟨by rfl, ?_⟩) hHeld ?_
      rotate_left
      · intro w hSw
        (try dsimp only at hSw)
        go_simp
        all_goals with_reducible rfl
      (try simp only [Act.put, List.setIfInBounds_toArray, List.set_cons_zero, List.set_cons_succ])
      refine wpAnyH_ready (rs := [30]) (by kernel_rfl) (by simp) ?_
      refine AllReadyH.cons (o := { dst := some 68, op := Go.Op.call { callee := Go.Callee.value (Go.Operand.func 18), args := #[Go.Operand.tmp 66, Go.Operand.tmp 67], argTypes := #[24, 24] }, type := 4, pos := "law.go:24", after := #[{ on := 28, ground := Go.Ground.data }, { on := 29, ground := Go.Ground.data }, { on := 27, ground := Go.Ground.chain }, { on := 27, ground := Go.Ground.guard }], guard := some (27, true) }) rfl (fun K hK => ?_) AllReadyH.nil
      go_simp
      (go_at_call 18; (with_reducible refine (C6.out _ L5).mono ?_); rintro e v6 ⟨rfl, h6⟩; have L6 := below_then L5 h6)
      go_wp2_with fail
      refine hK.out _ _ (HSX.out _ L6) (fun hHeld => ?_)
      clear hK K
      (try simp only [Act.put, List.setIfInBounds_toArray, List.set_cons_zero, List.set_cons_succ])
      refine wpAnyH_ready (rs := [33]) (by kernel_rfl) (by simp) ?_
      refine AllReadyH.cons (o := { dst := some 71, op := Go.Op.call { callee := Go.Callee.value (Go.Operand.func 13), args := #[Go.Operand.tmp 69, Go.Operand.tmp 70, Go.Operand.const (Go.Value.bool false)], argTypes := #[24, 24, 4] }, type := 4, pos := "law.go:24", after := #[{ on := 31, ground := Go.Ground.data }, { on := 32, ground := Go.Ground.data }, { on := 30, ground := Go.Ground.chain }, { on := 27, ground := Go.Ground.guard }], guard := some (27, true) }) rfl (fun K hK => ?_) AllReadyH.nil
      go_simp
      (go_at_call 13; (with_reducible refine (C7.out _ L6).mono ?_); rintro e v7 ⟨rfl, h7⟩; have L7 := below_then L6 h7)
      go_wp2_with fail
      refine hK.out _ _ (HSX.out _ L7) (fun hHeld => ?_)
      clear hK K
      (try simp only [Act.put, List.setIfInBounds_toArray, List.set_cons_zero, List.set_cons_succ])
      refine wpAnyH_take (i := 34) (oi := { dst := some 72, op := Go.Op.binOp Go.BinOp.eql 4 (Go.Operand.tmp 68) (Go.Operand.tmp 71) 4, type := 4, pos := "law.go:24", after := #[{ on := 30, ground := Go.Ground.data }, { on := 33, ground := Go.Ground.data }, { on := 27, ground := Go.Ground.guard }], guard := some (27, true) }) (v := ?_) rfl (by kernel_rfl) (by kernel_rfl) (by kernel_rfl) (fun _ _ _ h => h) (Or.inl ⟨by rfl, ?_⟩) hHeld ?_
      rotate_left
      · intro w hSw
        (try dsimp only at hSw)
        go_simp
        all_goals with_reducible rfl
      (try simp only [Act.put, List.setIfInBounds_toArray, List.set_cons_zero, List.set_cons_succ])
      refine wpAnyH_take (i := 35) (oi := { dst := some 73, op := Go.Op.pick (Go.Operand.tmp 65) (Go.Operand.tmp 72) (Go.Operand.const (Go.Value.bool false)), type := 4, pos := "law.go:24", after := #[{ on := 27, ground := Go.Ground.data }, { on := 34, ground := Go.Ground.data }], guard := none }) (v := ?_) rfl (by kernel_rfl) (by kernel_rfl) (by kernel_rfl) (fun _ _ _ h => h) (Or.inl ⟨by rfl, ?_⟩) hHeld ?_
      rotate_left
      · intro w hSw
        (try dsimp only at hSw)
        go_simp
        all_goals with_reducible rfl
      (try simp only [Act.put, List.setIfInBounds_toArray, List.set_cons_zero, List.set_cons_succ])
      refine wpAnyH_take (i := 36) (oi := { dst := some 74, op := Go.Op.move (Go.Operand.tmp 73), type := 4, pos := "law.go:24", after := #[{ on := 35, ground := Go.Ground.data }, { on := 33, ground := Go.Ground.chain }], guard := none }) (v := ?_) rfl (by kernel_rfl) (by kernel_rfl) (by kernel_rfl) (fun _ _ _ h => h) (Or.inl ⟨by rfl, ?_⟩) hHeld ?_
      rotate_left
      · intro w hSw
        (try dsimp only at hSw)
        go_simp
        all_goals with_reducible rfl
      (try simp only [Act.put, List.setIfInBounds_toArray, List.set_cons_zero, List.set_cons_succ])
      refine wpAnyH_take (i := 37) (oi := { dst := some 75, op := Go.Op.load 24 (Go.Operand.tmp 3), type := 24, pos := "law.go:24", after := #[{ on := 36, ground := Go.Ground.guard }], guard := some (36, true) }) (v := ?_) rfl (by kernel_rfl) (by kernel_rfl) (by kernel_rfl) (fun _ _ _ h => h) (Or.inl ⟨by rfl, ?_⟩) hHeld ?_
      rotate_left
      · intro w hSw
        (try dsimp only at hSw)
        go_simp
        all_goals with_reducible rfl
      (try simp only [Act.put, List.setIfInBounds_toArray, List.set_cons_zero, List.set_cons_succ])
      refine wpAnyH_take (i := 38) (oi := { dst := some 76, op := Go.Op.load 24 (Go.Operand.tmp 3), type := 24, pos := "law.go:24", after := #[{ on := 36, ground := Go.Ground.guard }], guard := some (36, true) }) (v := ?_) rfl (by kernel_rfl) (by kernel_rfl) (by kernel_rfl) (fun _ _ _ h => h) (Or.inl ⟨by rfl, ?_⟩) hHeld ?_
      rotate_left
      · intro w hSw
        (try dsimp only at hSw)
        go_simp
        all_goals with_reducible rfl
      (try simp only [Act.put, List.setIfInBounds_toArray, List.set_cons_zero, List.set_cons_succ])
      refine wpAnyH_ready (rs := [39]) (by kernel_rfl) (by simp) ?_
      refine AllReadyH.cons (o := { dst := some 77, op := Go.Op.call { callee := Go.Callee.value (Go.Operand.func 18), args := #[Go.Operand.tmp 75, Go.Operand.tmp 76], argTypes := #[24, 24] }, type := 4, pos := "law.go:24", after := #[{ on := 37, ground := Go.Ground.data }, { on := 38, ground := Go.Ground.data }, { on := 36, ground := Go.Ground.chain }, { on := 36, ground := Go.Ground.guard }], guard := some (36, true) }) rfl (fun K hK => ?_) AllReadyH.nil
      go_simp
      (go_at_call 18; (with_reducible refine (C8.out _ L7).mono ?_); rintro e v8 ⟨rfl, h8⟩; have L8 := below_then L7 h8)
      go_wp2_with fail
      refine hK.out _ _ (HSX.out _ L8) (fun hHeld => ?_)
      clear hK K
      (try simp only [Act.put, List.setIfInBounds_toArray, List.set_cons_zero, List.set_cons_succ])
      refine wpAnyH_take (i := 40) (oi := { dst := some 78, op := Go.Op.pick (Go.Operand.tmp 74) (Go.Operand.tmp 77) (Go.Operand.const (Go.Value.bool false)), type := 4, pos := "law.go:24", after := #[{ on := 36, ground := Go.Ground.data }, { on := 39, ground := Go.Ground.data }], guard := none }) (v := ?_) rfl (by kernel_rfl) (by kernel_rfl) (by kernel_rfl) (fun _ _ _ h => h) (Or.inl ⟨by rfl, ?_⟩) hHeld ?_
      rotate_left
      · intro w hSw
        (try dsimp only at hSw)
        go_simp
        all_goals with_reducible rfl
      (try simp only [Act.put, List.setIfInBounds_toArray, List.set_cons_zero, List.set_cons_succ])
      refine wpAnyH_take (i := 41) (oi := { dst := some 4, op := Go.Op.assign (Go.Operand.tmp 78), type := 4, pos := "law.go:24", after := #[{ on := 40, ground := Go.Ground.data }, { on := 39, ground := Go.Ground.chain }, { on := 0, ground := Go.Ground.phase }, { on := 1, ground := Go.Ground.phase }, { on := 2, ground := Go.Ground.phase }, { on := 3, ground := Go.Ground.phase }, { on := 4, ground := Go.Ground.phase }, { on := 5, ground := Go.Ground.phase }, { on := 6, ground := Go.Ground.phase }, { on := 7, ground := Go.Ground.phase }, { on := 8, ground := Go.Ground.phase }, { on := 9, ground := Go.Ground.phase }, { on := 10, ground := Go.Ground.phase }, { on := 11, ground := Go.Ground.phase }, { on := 12, ground := Go.Ground.phase }, { on := 13, ground := Go.Ground.phase }, { on := 14, ground := Go.Ground.phase }, { on := 15, ground := Go.Ground.phase }, { on := 16, ground := Go.Ground.phase }, { on := 17, ground := Go.Ground.phase }, { on := 18, ground := Go.Ground.phase }, { on := 19, ground := Go.Ground.phase }, { on := 20, ground := Go.Ground.phase }, { on := 21, ground := Go.Ground.phase }, { on := 22, ground := Go.Ground.phase }, { on := 23, ground := Go.Ground.phase }, { on := 24, ground := Go.Ground.phase }, { on := 25, ground := Go.Ground.phase }, { on := 26, ground := Go.Ground.phase }, { on := 27, ground := Go.Ground.phase }, { on := 28, ground := Go.Ground.phase }, { on := 29, ground := Go.Ground.phase }, { on := 30, ground := Go.Ground.phase }, { on := 31, ground := Go.Ground.phase }, { on := 32, ground := Go.Ground.phase }, { on := 33, ground := Go.Ground.phase }, { on := 34, ground := Go.Ground.phase }, { on := 35, ground := Go.Ground.phase }, { on := 36, ground := Go.Ground.phase }, { on := 37, ground := Go.Ground.phase }, { on := 38, ground := Go.Ground.phase }, { on := 39, ground := Go.Ground.phase }, { on := 40, ground := Go.Ground.phase }], guard := none }) (v := ?_) rfl (by kernel_rfl) (by kernel_rfl) (by kernel_rfl) (fun _ _ _ h => h) (Or.inl ⟨by rfl, ?_⟩) hHeld ?_
      rotate_left
      · intro w hSw
        (try dsimp only at hSw)
        go_simp
        all_goals with_reducible rfl
      (try simp only [Act.put, List.setIfInBounds_toArray, List.set_cons_zero, List.set_cons_succ])
      refine wpAnyH_done (by kernel_rfl) ?_ _
      go_wp2
      go_ret
      exact ⟨rfl, below_then H8.out.1 L8⟩
end Go.Proofs.YtceomdbahiimlaaDoor.T14
