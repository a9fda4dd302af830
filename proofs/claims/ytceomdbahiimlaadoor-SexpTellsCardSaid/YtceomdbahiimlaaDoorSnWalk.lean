/-
  The statement SexpNest's own body, for every number.
-/
import Derived.Test.YtceomdbahiimlaaDoorSexAw
import Derived.Test.YtceomdbahiimlaaDoorSexNest
import Derived.Test.YtceomdbahiimlaaDoorSexSame
import Derived.Test.YtceomdbahiimlaaDoorSexParse
namespace Go.Proofs.YtceomdbahiimlaaDoor.T14
set_option maxRecDepth 100000

open Go.RowKit

theorem nest_txt (k : Nat) : (⟨#[40]⟩ : ByteArray) ++ tx (nestB k) ++ ⟨#[41]⟩ = tx (nestB (k + 1)) := by
  rw [nestB_succ, show (⟨#[40]⟩ : ByteArray) = txt [40] from rfl, show (⟨#[41]⟩ : ByteArray) = txt [41] from rfl, tx_txt, txt_app, txt_app]
  rfl
theorem nest_nat {R : RP} : ∀ (N D : Nat) (cs : List Value), NAt R D (nest N) cs → NAt R (N + 1) (nest N) cs
  | _, 0, _, h => h.elim
  | 0, D + 1, cs, ⟨u, h1, xs, h2, h3⟩ => ⟨u, h1, xs, h2, h3.imp_mem fun y hy => by cases hy⟩
  | N + 1, D + 1, cs, ⟨u, h1, xs, h2, h3⟩ => ⟨u, h1, xs, h2, h3.imp_mem fun y hy cs hc => by
      obtain rfl := List.mem_singleton.1 (show y ∈ [nest N] from hy)
      exact nest_nat N D cs hc⟩
theorem nest_sm : ∀ N, Sm 1000000 (nest N)
  | 0 => Sm.intro (by decide) (fun y hy => by cases hy)
  | N + 1 => Sm.intro (Nat.zero_le _) (fun y hy => by obtain rfl := List.mem_singleton.1 (show y ∈ [nest N] from hy); exact nest_sm N)
/-- One more list around a node of one's own. -/
theorem lies_around {b K : Nat} {w w' : World} {X : LN} (h : Lies b K w X.rows) (hK : 1 ≤ K) {g : Nat} (hg : b ≤ g) (hgw : w.heap.size ≤ g) (hn : w'.heap[g]? = some (.cells X.cells.toArray 24 (0, 0))) (hkeep : ∀ k, b ≤ k → k < w.heap.size → w'.heap[k]? = w.heap[k]?) :
    Lies b K w' (LN.mk 4 [] 0 0 (.slice (some ⟨g, 0, none⟩) 1 1) [X]).rows := by
  rw [LN.rows_eq]
  have e : rowsL (LN.mk 4 [] 0 0 (.slice (some ⟨g, 0, none⟩) 1 1) [X]).l = X.rows := by show rowsL [X] = _; simp [rowsL]
  rw [e]
  refine Lies.cons (h.kept fun k hk => hkeep k (h.old hk).1 (h.old hk).2) ?_ hK (fun k hk hm => ?_)
  · refine ⟨by simp [rwN, LN.l, LN.cells], .inr ⟨g, 1, X.cells.toArray, rfl, hg, hn, Nat.le_refl _, by decide, by simp [rwN, LN.cells], ?_⟩⟩
    simp [rwN, LN.l, LN.cells]
  · have := (h.old hm).2
    simp only [rwN, LN.g, Value.ownBlock, Option.some.injEq] at hk
    omega
/-- A node is stored where one lies. -/
theorem wpList_store_nd {ops : Array Oper} {rest : List Oper} {o : Oper} {a : Act} {w : World} {Q : Exit → Act → World → Prop} (hgd : o.guard = none) (x y : Operand) (ho : o.op = .store 24 x y)
    (hd : o.dst = none) (g : Nat) (k n p : Int) (s : ByteArray) (A : Option Addr) (m c : Nat) (hx : a.eval x = .pointer (some ⟨g, 0, none⟩)) (hy : a.eval y = .agg #[.int .i64 k, .string s, .int .i64 n, .int .i64 p, .slice A m c])
    (t : TypeId) (v0 v1 v2 v3 v4 : Value) (hg : w.heap[g]? = some (.cells #[v0, v1, v2, v3, v4] t (0, 0)))
    (h : wpList Tryd.prog ops Q rest a (w.setRow g #[.int .i64 k, .string s, .int .i64 n, .int .i64 p, .slice A m c])) : wpList Tryd.prog ops Q (o :: rest) a w :=
  wpList_store_rowTo hgd 24 x y ho hd g _ hx hy t _ hg sz_node rfl (by simp [Value.oneCell']) h
set_option maxRecDepth 1000000 in
set_option maxHeartbeats 4000000 in
theorem snWalk (w : World) (LV : Laid w) (n : Int) (n0 : -9223372036854775808 ≤ n) (n1 : n ≤ 9223372036854775807) :
    Calls Tryd.prog 6 #[.int .i64 n] w fun e w' => e = .returned (.bool true) ∧ Below w.heap.size w w' := by
  by_cases h1 : n < 0
  · have d1 : decide (n < 0) = true := by rw [decide_eq_true_eq]; omega
    go_enter Tryd.func6, Tryd.ntmps6
    go_wp2_with fail
    refine (awake14_any _ LV).mono ?_
    rintro e w1 ⟨rfl, hb1⟩
    go_wp2
    go_ret
    exact ⟨rfl, hb1⟩
  · have d1 : decide (n < 0) = false := by rw [decide_eq_false_iff_not]; omega
    by_cases h2 : 100 < n
    · have d2 : decide (100 < n) = true := by rw [decide_eq_true_eq]; omega
      go_enter Tryd.func6, Tryd.ntmps6
      go_wp2_with fail
      refine (awake14_any _ LV).mono ?_
      rintro e w1 ⟨rfl, hb1⟩
      go_wp2
      go_ret
      exact ⟨rfl, hb1⟩
    · have d2 : decide (100 < n) = false := by rw [decide_eq_false_iff_not]; omega
      obtain ⟨N, rfl⟩ : ∃ N : Nat, n = N := ⟨n.toNat, by omega⟩
      have hN : N ≤ 100 := by omega
      clear h1 h2 n0 n1
      go_enter Tryd.func6, Tryd.ntmps6
      go_wp2_with fail
      refine (awake14_any _ LV).mono ?_
      rintro e w1 ⟨rfl, hb1⟩
      go_wp2
      obtain ⟨W1, hW1⟩ : ∃ W, W = w1.alloc (.cells #[.int .i64 0, .string ⟨#[97]⟩, .int .i64 0, .int .i64 0, .slice none 0 0] 24) := ⟨_, rfl⟩
      have x1 : W1.heap[w1.heap.size]? = some (.cells #[.int .i64 0, .string ⟨#[97]⟩, .int .i64 0, .int .i64 0, .slice none 0 0] 24 (0, 0)) := by rw [hW1]; exact heap_alloc_new w1 _
      have hbW : Below w1.heap.size w1 W1 := by rw [hW1]; exact below_new _ _
      rw [← hW1]
      have HB1 := Lib.hid (below_then hb1 hbW)
      have hG := hb1.size
      generalize w1.heap.size = G at *
      clear hW1 hbW hb1
      go_loopw [4, 6] (fun sv i wr => ∃ k : Nat, i = .int .i64 k ∧ k ≤ N ∧ sv = .string (tx (nestB k)) ∧ ∃ X : LN, X.bare = nest k ∧ wr.heap[G]? = some (.cells #[.int .i64 X.kind, .string (tx X.text), .int .i64 X.num, .int .i64 X.at_, X.g] 24 (0, 0)) ∧ Lies (G + 1) 5 wr X.rows ∧ Below w.heap.size w wr) (fun _ i _ => N - (intOf i).toNat)
      case atStart => exact ⟨0, rfl, Nat.zero_le _, rfl, .mk 0 [97] 0 0 (.slice none 0 0) [], by rw [LN.bare_eq]; rfl, x1, ⟨fun r hr => by rw [LN.rows_eq] at hr; obtain rfl := List.mem_singleton.1 (show r ∈ [rwN _] from hr); exact ⟨World.ownsRow_nil _ _ _ _, Nat.zero_le _⟩, by rw [LN.rows_eq]; simp [rowsL, LN.l, blocks, rwN, LN.g, Value.ownBlock]⟩, HB1.out⟩
      case round =>
        obtain ⟨k, rfl, hk, rfl, X, hX, hbox, hlies, hbw⟩ := hrel
        have HX := Lib.hid hX
        have HL := Lib.hid hlies
        have HBX := Lib.hid hbox
        have HBW := Lib.hid hbw
        by_cases hlt : k < N
        · obtain ⟨n0, n1, n2, n3, n4⟩ := five_cells hbox
          obtain ⟨A, c, hg⟩ : ∃ A c, X.g = .slice A X.l.length c := by
            obtain ⟨A, c, e, -⟩ := Sl.of_own (hlies.own (rwN X) (by rw [LN.rows_eq]; exact List.mem_cons_self ..)).1
            exact ⟨A, c, e⟩
          have HT := Lib.hid (nest_txt k)
          have hts : (tx (nestB k)).size ≤ 201 := by rw [size_tx, nestB_len]; omega
          rw [hg] at n4
          have y := ((below_new wr (.cells #[.int .i64 X.kind, .string (tx X.text), .int .i64 X.num, .int .i64 X.at_, .slice A X.l.length c] 24)).block G (box_lt hbox)).trans hbox
          rw [hg] at y
          clear hX hlies hbw hbox
          go_wp2_with (refine wpList_store_nd rfl _ _ rfl rfl G _ _ _ _ _ _ _ rfl rfl _ _ _ _ _ _ y ?_)
          have hGr := box_lt HBX.out
          refine ⟨⟨k + 1, ?_, by omega, by rw [HT.out], .mk 4 [] 0 0 (.slice (some ⟨wr.heap.size, 0, none⟩) 1 1) [X], ?_, setRow_heap _ _ _ _ _ _ y, ?_, below_setRow (below_lit HBW.out _) hG _⟩, by simp [intOf]; omega⟩
          · go_num
          · rw [LN.bare_eq]
            show Nd.mk 4 [] 0 0 [X.bare] = _
            rw [HX.out]
            rfl
          · refine lies_around HL.out (by decide) (by omega) (Nat.le_refl _) ?_ fun k hk1 hk2 => ?_
            · rw [setRow_other _ _ _ _ (by omega), LN.cells, hg]
              exact heap_alloc_new wr _
            · rw [setRow_other _ _ _ _ (by omega)]
              exact (below_new wr _).block k hk2
        · obtain rfl : k = N := by omega
          have hn0 := LN.natR (by decide) X hlies
          rw [hX] at hn0
          have hn := nest_nat k _ _ hn0
          have e1 : X.kind = (nest k).kind := by rw [← hX, LN.bare_eq]; rfl
          have e2 : X.text = (nest k).text := by rw [← hX, LN.bare_eq]; rfl
          have e3 : X.num = (nest k).num := by rw [← hX, LN.bare_eq]; rfl
          have e4 : X.at_ = (nest k).at_ := by rw [← hX, LN.bare_eq]; rfl
          rw [LN.cells, e1, e2, e3, e4] at hn
          rw [e1, e2, e3, e4] at hbox
          obtain ⟨A, c, hg⟩ := NAt.shape hn
          rw [hg] at hn hbox
          have h14 := nest14 (it := Lib.itoa) k hN
          have hsm := nest_sm k
          have hstr := nest_str k
          have hpr : printB Lib.itoa (nest k) = if mayB Lib.itoa (nest k) = true then nestB k else [] := by rw [printB, hstr]
          have hpar := fun W L => parse14_rd (tx (nestB k)) (by rw [size_tx, nestB_len]; omega) W L
          have hstl : (nest k).str.length ≤ 100000000000 := by rw [hstr, nestB_len]; omega
          rw [tx_list] at hpar
          have hts : (tx (nestB k)).size ≤ 201 := by rw [size_tx, nestB_len]; omega
          generalize nest k = x at *
          generalize nestB k = S at *
          have hB1 := HB1
          by_cases h16 : 16 < k
          · rw [if_pos h16] at h14
            have d3 : decide ((16 : Int) < (k : Int)) = true := by rw [decide_eq_true_eq]; omega
            have d4 : decide (16 < k) = true := by rw [decide_eq_true_eq]; omega
            have hm := h14.2.2
            rw [h14.1, h14.2.1] at hpar
            generalize (parR Lib.itoa S).1 = y at *
            have HP := Lib.hid (hpar wr (LV.on HBW.out))
            have HN := Lib.hid hn
            have HSM := Lib.hid hsm
            have HM := Lib.hid (fun W (h : Below wr.heap.size wr W) => may14_any _ x _ W (by omega) (NRd.mono h.size (NRd.low (Lo.below h (Nat.le_refl _)) hn)) hsm (LV.on (below_then HBW.out h)))
            rw [hm] at HM
            have HBX2 := Lib.hid hbox
            clear hpar hn hsm hm h14 hn0 hX hlies hbw hbox e1 e2 e3 e4 hpr hstl hstr hg
            go_wp2_with fail
            refine HP.out.mono ?_
            rintro e w5 ⟨g, rfl, hy, hb5⟩
            obtain ⟨A2, c2, rfl⟩ := NAt.shape hy
            have hb6 := below_then hb5 (below_new w5 (.cells #[.int .i64 y.kind, .string (tx y.text), .int .i64 y.num, .int .i64 y.at_, .slice A2 y.l.length c2] 24))
            obtain ⟨m0, m1, m2, m3, m4⟩ := five_cells ((hb6.block _ (box_lt HBX2.out)).trans HBX2.out)
            have HB6 := Lib.hid hb6
            clear hb5 hb6 hy
            go_wp2_with (go_at_call 14; refine (HM.out _ HB6.out).mono ?_; rintro e w7 ⟨rfl, hb7⟩)
            go_ret
            exact ⟨rfl, below_then HBW.out (below_then HB6.out hb7)⟩
          · rw [if_neg h16] at h14
            have d3 : decide ((16 : Int) < (k : Int)) = false := by rw [decide_eq_false_iff_not]; omega
            have d4 : decide (16 < k) = false := by rw [decide_eq_false_iff_not]; omega
            have hm := h14.2.2
            have hun := h14.2.1
            rw [h14.1] at hpar
            rw [if_pos hm] at hpr
            generalize (parR Lib.itoa S).1 = y at *
            generalize (parR Lib.itoa S).2.1 = pl at *
            have HP := Lib.hid (hpar wr (LV.on HBW.out))
            have HM := Lib.hid (fun W (h : Below wr.heap.size wr W) => may14_any _ x _ W (by omega) (NRd.mono h.size (NRd.low (Lo.below h (Nat.le_refl _)) hn)) hsm (LV.on (below_then HBW.out h)))
            have HPR := Lib.hid (fun W (h : Below wr.heap.size wr W) => print14_any _ x _ W (by omega) (NRd.mono h.size (NRd.low (Lo.below h (Nat.le_refl _)) hn)) hsm hstl (LV.on (below_then HBW.out h)))
            rw [hm] at HM
            rw [hpr] at HPR
            have HS := Lib.hid (fun (g : Value) (w5 W : World) (h : Below wr.heap.size wr W) (h5 : Below w5.heap.size w5 W) (hy : NAt (Rd w5.heap.size w5) 17 y [.int .i64 y.kind, .string (tx y.text), .int .i64 y.num, .int .i64 y.at_, g]) => same14_any W.heap.size 101 x y _ g W (Nat.le_refl _) (NAt.more (by omega) _ _ (NRd.mono h.size (NRd.low (Lo.below h (Nat.le_refl _)) hn))) (NAt.more (by decide) _ _ (NRd.mono h5.size (NRd.low (Lo.below h5 (Nat.le_refl _)) hy))))
            rw [eqC_yes hun.symm] at HS
            have HBX2 := Lib.hid hbox
            clear hpar hn hsm hm h14 hn0 hX hlies hbw hbox e1 e2 e3 e4 hpr hstl hstr hg hun
            go_wp2_with fail
            refine HP.out.mono ?_
            rintro e w5 ⟨g, rfl, hy, hb5⟩
            obtain ⟨A2, c2, rfl⟩ := NAt.shape hy
            have hb55 := below_new w5 (.cells #[.int .i64 y.kind, .string (tx y.text), .int .i64 y.num, .int .i64 y.at_, .slice A2 y.l.length c2] 24)
            have hb6 := below_then hb5 hb55
            obtain ⟨m0, m1, m2, m3, m4⟩ := five_cells ((hb6.block _ (box_lt HBX2.out)).trans HBX2.out)
            obtain ⟨q0, q1, q2, q3, q4⟩ := five_cells (heap_alloc_new w5 (.cells #[.int .i64 y.kind, .string (tx y.text), .int .i64 y.num, .int .i64 y.at_, .slice A2 y.l.length c2] 24))
            have HB6 := Lib.hid hb6
            have HS5 := Lib.hid (HS.out _ w5 _ hb6 hb55 hy)
            clear hb5 hb6 hy hb55 HS
            go_wp2_with (first
              | (go_at_call 18; refine HS5.out.mono ?_; rintro e w7 ⟨rfl, hb7⟩; have hb8 := below_then HB6.out hb7; obtain ⟨r0, r1, r2, r3, r4⟩ := five_cells ((hb8.block _ (box_lt HBX2.out)).trans HBX2.out))
              | (go_at_call 14; refine (HM.out _ hb8).mono ?_; rintro e w9 ⟨rfl, hb9⟩; have hb10 := below_then hb8 hb9; obtain ⟨s0, s1, s2, s3, s4⟩ := five_cells ((hb10.block _ (box_lt HBX2.out)).trans HBX2.out))
              | (go_at_call 16; refine (HPR.out _ hb10).mono ?_; rintro e w11 ⟨rfl, hb11⟩))
            go_ret
            exact ⟨rfl, below_then HBW.out (below_then hb10 hb11)⟩
end Go.Proofs.YtceomdbahiimlaaDoor.T14
