/-
  A slot that is set is got, all others are as they were, set again it is the same, without values it is gone: the statement ValueSets, for every message, slot and number.
-/
import Derived.Test.YtaepmccfiliiiaaTrLaw
import Derived.Deep.DeepHandedRow
import Derived.MakeChecks
import Derived.Lay
import Derived.BigQuiet
import Derived.Deep.DeepCutAuto
import Derived.Test.YtaepmccfiliiiaaTrRsame
import Derived.Deep.RegionHeld3
import Derived.Deep.QuietTactic
namespace Go.Proofs.Ytaepmccfiliiiaa.lawValueSets
set_option maxRecDepth 100000

open Go.ChangeShapes Go.WideShapes Go.ChangeAt Go.RowKit

/-- What is in three boxes. -/
def C8 (g4 g9 g10 : Nat) (a b c d e f h : Value) (w : World) : Prop := (w.cell? ⟨g4, 0, none⟩ = some a ∧ w.cell? ⟨g4, 1, none⟩ = some b ∧ w.cell? ⟨g4, 2, none⟩ = some c) ∧ w.cell? ⟨g9, 0, none⟩ = some d ∧ w.cell? ⟨g10, 0, none⟩ = some e ∧ w.cell? ⟨g10, 1, none⟩ = some f ∧ w.cell? ⟨g10, 2, none⟩ = some h
/-- Two messages of one slot each that are written out, the slots one: they are the same, whichever was written out first. -/
theorem same_lits {D : Nat} {t : So} {W : World} {x y z x' y' z' : Value} (h1 : ∀ wx, Below W.heap.size W wx → SAt' (Rd wx.heap.size wx) D t [x, y, z]) (h2 : ∀ wx, Below W.heap.size W wx → SAt' (Rd wx.heap.size wx) D t [x', y', z']) :
    Calls Try.prog 15 #[.agg #[.slice (some ⟨W.heap.size, 0, none⟩) 1 1], .agg #[.slice (some ⟨W.heap.size + 1, 0, none⟩) 1 1]] ((W.alloc (.cells #[x, y, z] 27)).alloc (.cells #[x', y', z'] 27)).drew (fun e w' => e = .returned (.bool true) ∧ Below W.heap.size W w') ∧
    Calls Try.prog 15 #[.agg #[.slice (some ⟨W.heap.size + 1, 0, none⟩) 1 1], .agg #[.slice (some ⟨W.heap.size, 0, none⟩) 1 1]] ((W.alloc (.cells #[x', y', z'] 27)).alloc (.cells #[x, y, z] 27)).drew (fun e w' => e = .returned (.bool true) ∧ Below W.heap.size W w') := by
  constructor
  · obtain ⟨T1, T2, L⟩ := two_boxesD W (.cells #[x, y, z] 27) (.cells #[x', y', z'] 27)
    refine (rsame_any9 _ (D + 1) (.mk [t]) (.mk [t]) _ _ _ (Nat.le_refl _) (one_rd (h1 _ L) T1) (one_rd (h2 _ L) T2)).mono ?_
    rintro e w' ⟨rfl, hb⟩
    exact ⟨by rw [eqB_yes rfl], below_then L hb⟩
  · obtain ⟨T1, T2, L⟩ := two_boxesD W (.cells #[x', y', z'] 27) (.cells #[x, y, z] 27)
    refine (rsame_any9 _ (D + 1) (.mk [t]) (.mk [t]) _ _ _ (Nat.le_refl _) (one_rd (h1 _ L) T2) (one_rd (h2 _ L) T1)).mono ?_
    rintro e w' ⟨rfl, hb⟩
    exact ⟨by rw [eqB_yes rfl], below_then L hb⟩
theorem froz {w : World} {g : Nat} {cs : Array Value} {t : TypeId} (h : w.heap[g]? = some (.cells cs t (0, 0))) (j : Nat) : w.frozen? ⟨g, j, none⟩ = false := by simp [World.frozen?, h]
/-- The same, where nothing is drawn, and the first place is named. -/
theorem same_lits0 {D G : Nat} {t : So} {W : World} {x y z x' y' z' : Value} (hG : W.heap.size = G) (h1 : ∀ wx, Below W.heap.size W wx → SAt' (Rd wx.heap.size wx) D t [x, y, z]) (h2 : ∀ wx, Below W.heap.size W wx → SAt' (Rd wx.heap.size wx) D t [x', y', z']) :
    Calls Try.prog 15 #[.agg #[.slice (some ⟨G, 0, none⟩) 1 1], .agg #[.slice (some ⟨G + 1, 0, none⟩) 1 1]] ((W.alloc (.cells #[x, y, z] 27)).alloc (.cells #[x', y', z'] 27)) (fun e w' => e = .returned (.bool true) ∧ Below W.heap.size W w') := by
  subst hG
  obtain ⟨T1, T2, L⟩ := two_boxes W (.cells #[x, y, z] 27) (.cells #[x', y', z'] 27)
  refine (rsame_any9 _ (D + 1) (.mk [t]) (.mk [t]) _ _ _ (Nat.le_refl _) (one_rd (h1 _ L) T1) (one_rd (h2 _ L) T2)).mono ?_
  rintro e w' ⟨rfl, hb⟩
  exact ⟨by rw [eqB_yes rfl], below_then L hb⟩
set_option maxRecDepth 1000000 in
set_option maxHeartbeats 8000000 in
theorem walk (w : World) (m : Mg) (u : Value) (k : Nat) (hm : MRd w.heap.size w k m u) (s : So) (u1 u2 : Value) (k' : Nat) (hs : SAt' (Rd w.heap.size w) k' s [.int .i64 s.no, u1, u2]) (no : Int) (_ : -9223372036854775808 ≤ no) (_ : no ≤ 9223372036854775807) :
    Calls Try.prog 4 #[.agg #[u], .agg #[.int .i64 s.no, u1, u2], .int .i64 no] w fun e w' => e = .returned (.bool true) ∧ Below w.heap.size w w' := by
  obtain ⟨D, hD⟩ : ∃ D, D = max k k' := ⟨_, rfl⟩
  have hm0 : MRd w.heap.size w (D + 1) m u := MAt.more (by omega) _ _ hm
  have hs0 : SAt' (Rd w.heap.size w) D s [.int .i64 s.no, u1, u2] := slot_more (by omega) hs
  clear hm hs hD
  obtain ⟨Am, cm, rfl⟩ := rd_shape hm0
  obtain ⟨A1, c1, A2, c2, -, rfl, rfl⟩ := slot_shape hs0
  obtain ⟨X1, X2, LBD⟩ := two_boxes w (.cells #[.slice Am m.F.length cm] 24) (.cells #[.int .i64 s.no, .slice A1 s.K.length c1, .slice A2 s.V.length c2] 27)
  have HM := Lib.hid (fun wx (hx : Below w.heap.size w wx) => rd_up hx hm0)
  have HS := Lib.hid (fun wx (hx : Below w.heap.size w wx) => srd_up hx hs0)
  clear hm0 hs0
  go_enter Try.func4, Try.ntmps4
  go_wp2_with fail
  refine (awake9_any _).mono ?_
  rintro e w1 ⟨rfl, hb1⟩
  have hb01 := below_then LBD hb1
  have Y1 := box_on X1 hb1
  have Y2 := box_on X2 hb1
  clear X1 X2 LBD hb1
  have y1 := bx1 Y1
  obtain ⟨p0, p1, p2⟩ := bx3 Y2
  have L1 := below_lit (below_new w1 (.cells #[.int .i64 s.no, .slice A1 s.K.length c1, .slice A2 s.V.length c2] 27)) (.cells #[.slice Am m.F.length cm, .slice (some ⟨w1.heap.size, 0, none⟩) 1 1] 24)
  have HF := Lib.hid (few_all _ (D + 1) [m, .mk [s]] _ _ (Nat.le_refl _) (msgs2_rd (HM.out _ (below_then hb01 L1)) (one_rd (HS.out _ (below_then hb01 L1)) (two_boxes w1 (.cells #[.int .i64 s.no, .slice A1 s.K.length c1, .slice A2 s.V.length c2] 27) (.cells #[.slice Am m.F.length cm, .slice (some ⟨w1.heap.size, 0, none⟩) 1 1] 24)).1) (two_boxes w1 (.cells #[.int .i64 s.no, .slice A1 s.K.length c1, .slice A2 s.V.length c2] 27) (.cells #[.slice Am m.F.length cm, .slice (some ⟨w1.heap.size, 0, none⟩) 1 1] 24)).2.1))
  go_wp2_with fail
  refine HF.out.mono ?_
  rintro e w2 ⟨r, rfl, hfit, hb2⟩
  have hb02 := below_then (below_then hb01 L1) hb2
  have Z1 := box_on Y1 (below_then L1 hb2)
  have Z2 := box_on Y2 (below_then L1 hb2)
  clear y1 p0 p1 p2 Y1 Y2 L1 hb2 hb01 HF
  obtain ⟨p0, p1, p2⟩ := bx3 Z2
  have y1 := bx1 Z1
  cases r with
  | false =>
    go_wp2
    go_ret
    exact ⟨rfl, hb02⟩
  | true =>
    have hfm := (hfit rfl m (by simp)).cnt
    have hfs := (hfit rfl (.mk [s]) (by simp)).cnt
    rw [cnt_one] at hfs
    clear hfit
    have hca := cnt_set m s
    have hcb := cnt_set m (bare9 s.no)
    have hcc := cnt_set (setM m s) s
    have hcd := cnt_set (setM m s) (bare9 s.no)
    rw [bare9_c] at hcb hcd
    have B1 : Hid (m.cnt ≤ 3000 ∧ cS s ≤ 3000 ∧ (setM m s).cnt ≤ 6000 ∧ (setM (setM m s) s).cnt ≤ 9000 ∧ (setM (setM m s) (bare9 s.no)).cnt ≤ 6001) := Lib.hid (by omega)
    clear hfm hfs hca hcb hcc hcd
    have HC1 := Lib.hid (fun wx (hx : Below w2.heap.size w2 wx) => set_rd D m s _ _ _ wx (HM.out _ (below_then hb02 hx)) (HS.out _ (below_then hb02 hx)) (by have := B1.out; omega) (by have := B1.out; omega))
    have L2 : Below w2.heap.size w2 w2 := Below.refl _ _
    go_wp2_with (first
      | (go_at_call 16; (with_reducible refine (HC1.out _ L2).mono ?_); rintro e w3 ⟨Aa, ca, rfl, ha, h3⟩
         have N3 := below_new w3 (.cells #[.slice Aa (setM m s).F.length ca] 24)
         have hb03 := below_then (below_then hb02 h3) N3
         have Ya := heap_alloc_new w3 (.cells #[.slice Aa (setM m s).F.length ca] 24)
         have Y1 := box_on Z1 (below_then h3 N3)
         have Y2 := box_on Z2 (below_then h3 N3)
         have ha3 := rd_up N3 ha
         have q1 := bx1 Y1
         obtain ⟨r0, r1, r2⟩ := bx3 Y2
         have HG := Lib.hid (get_rd D (setM m s) _ s.no (w3.alloc (.cells #[.slice Aa (setM m s).F.length ca] 24)) ha3 (by have := B1.out; omega)))
      | (go_at_call 13; (with_reducible refine HG.out.mono ?_); rintro e w4 ⟨G1, d1, G2, d2, rfl, hg, h4⟩)
      | fail)
    obtain ⟨g0, hg0⟩ : ∃ g0, g0 = getM (setM m s) s.no := ⟨_, rfl⟩
    rw [← hg0] at hg
    rw [← hg0]
    clear HG HC1
    have N5 := below_new w4 (.cells #[.int .i64 (g0.getD so0).no, .slice G1 (g0.getD so0).K.length d1, .slice G2 (g0.getD so0).V.length d2] 27)
    have Xg := heap_alloc_new w4 (.cells #[.int .i64 (g0.getD so0).no, .slice G1 (g0.getD so0).K.length d1, .slice G2 (g0.getD so0).V.length d2] 27)
    have hb05 := below_then (below_then hb03 h4) N5
    have Xa := box_on Ya (below_then h4 N5)
    have Xm := box_on Y1 (below_then h4 N5)
    have Xs := box_on Y2 (below_then h4 N5)
    have hg5 := srd_up N5 hg
    have ha5 := rd_up (below_then h4 N5) ha3
    clear q1 r0 r1 r2 Y1 Y2 Ya ha3 ha hg N5 h4 hb03 N3 h3 L2 hb02 y1 p0 p1 p2 Z1 Z2
    obtain ⟨W5, hW5⟩ : ∃ W, W = w4.alloc (.cells #[.int .i64 (g0.getD so0).no, .slice G1 (g0.getD so0).K.length d1, .slice G2 (g0.getD so0).V.length d2] 27) := ⟨_, rfl⟩
    rw [← hW5] at hb05 Xa Xm Xs Xg hg5 ha5 ⊢
    clear hW5
    obtain ⟨g9, hg9⟩ : ∃ g, g = w3.heap.size := ⟨_, rfl⟩
    obtain ⟨g10, hg10⟩ : ∃ g, g = w4.heap.size := ⟨_, rfl⟩
    rw [← hg9] at Xa ⊢
    rw [← hg10] at Xg ⊢
    clear hg9 hg10
    have HGR := Lib.hid (fun wx (hx : Below W5.heap.size W5 wx) => srd_up hx hg5)
    have HAR := Lib.hid (fun wx (hx : Below W5.heap.size W5 wx) => rd_up hx ha5)
    clear hg5 ha5
    go_cut [68] (fun v wx => v = .bool false ∧ Below W5.heap.size W5 wx)
    case first =>
      obtain ⟨s1, s2, s3⟩ := bx3 Xs
      obtain ⟨e1, e2, e3⟩ := bx3 Xg
      have a1 := bx1 Xa
      have LD : Below W5.heap.size W5 W5.drew := (Below.refl _ _).drew
      have HSX := Lib.hid (fun c (hc : Below W5.heap.size W5 c) => show C8 (w.heap.size + 1) g9 g10 _ _ _ _ _ _ _ c from ⟨⟨cell_on hc s1, cell_on hc s2, cell_on hc s3⟩, cell_on hc a1, cell_on hc e1, cell_on hc e2, cell_on hc e3⟩)
      have HC2 := Lib.hid (fun wx (hx : Below W5.heap.size W5 wx) => set_rd D (setM m s) s _ _ _ wx (HAR.out _ hx) (HS.out _ (below_then hb05 hx)) (by have := B1.out; omega) (by have := B1.out; omega))
      rw [set_set m s s rfl] at HC2
      have HVS := Lib.hid (fun A c wx (hx : Below W5.heap.size W5 wx) (hq : MRd wx.heap.size wx (D + 1) (setM m s) (.slice A (setM m s).F.length c)) => same_any9 wx.heap.size (D + 1) (setM m s) (setM m s) _ _ wx (Nat.le_refl _) hq (HAR.out _ hx))
      rw [eqB_yes rfl] at HVS
      by_cases hV : s.V = []
      · have hv1 : (decide ((0 : Int) < (s.V.length : Int))) = false := by rw [hV]; rfl
        have hv2 : (decide (0 < s.V.length)) = false := by rw [hV]; rfl
        obtain rfl : g0 = none := by rw [hg0, get_set, if_pos hV]
        simp only [Option.getD_none, Option.isSome_none] at HGR HSX Xg e1 e2 e3 ⊢
        clear hV hg0 Xs Xg Xa Xm s1 s2 s3 e1 e2 e3 a1
        refine wp_region_held_drew (S := (fun w' => (w'.cell? ⟨w.heap.size + 1, 0, none⟩ = some (.int .i64 s.no) ∧ w'.cell? ⟨w.heap.size + 1, 1, none⟩ = some (.slice A1 s.K.length c1) ∧ w'.cell? ⟨w.heap.size + 1, 2, none⟩ = some (.slice A2 s.V.length c2)) ∧ w'.cell? ⟨g9, 0, none⟩ = some (.slice Aa (setM m s).F.length ca) ∧ w'.cell? ⟨g10, 0, none⟩ = some (.int .i64 so0.no) ∧ w'.cell? ⟨g10, 1, none⟩ = some (.slice G1 so0.K.length d1) ∧ w'.cell? ⟨g10, 2, none⟩ = some (.slice G2 so0.V.length d2))) (by kernel_rfl) (HSX.out _ LD) (fun hHeld => ?_)
        refine wpAnyH_take (i := 0) (oi := { dst := some 42, op := Op.move (Operand.tmp 11), type := 4, pos := "law.go:52", after := #[], guard := none }) (v := ?_) rfl (by kernel_rfl) (by kernel_rfl) (by kernel_rfl) (fun _ _ _ h => h) (Or.inl ⟨by rfl, ?_⟩) hHeld ?_
        rotate_left
        · intro w hSw
          (try dsimp only at hSw)
          go_simp
          all_goals with_reducible rfl
        (try simp only [Act.put, List.setIfInBounds_toArray, List.set_cons_zero, List.set_cons_succ])
        refine wpAnyH_take (i := 1) (oi := { dst := some 43, op := Op.fieldAddr 27 (Operand.tmp 4) 2, type := 0, pos := "law.go:52", after := #[], guard := none }) (v := ?_) rfl (by kernel_rfl) (by kernel_rfl) (by kernel_rfl) (fun _ _ _ h => h) (Or.inl ⟨by rfl, ?_⟩) hHeld ?_
        rotate_left
        · intro w hSw
          (try dsimp only at hSw)
          go_simp
          all_goals with_reducible rfl
        (try simp only [Act.put, List.setIfInBounds_toArray, List.set_cons_zero, List.set_cons_succ])
        refine wpAnyH_take (i := 2) (oi := { dst := some 44, op := Op.load 25 (Operand.tmp 43), type := 25, pos := "law.go:52", after := #[{ on := 1, ground := Ground.data }], guard := none }) (v := ?_) rfl (by kernel_rfl) (by kernel_rfl) (by kernel_rfl) (fun _ _ _ h => h) (Or.inl ⟨by rfl, ?_⟩) hHeld ?_
        rotate_left
        · intro w hSw
          (try dsimp only at hSw)
          go_simp
          all_goals with_reducible rfl
        (try simp only [Act.put, List.setIfInBounds_toArray, List.set_cons_zero, List.set_cons_succ])
        refine wpAnyH_take (i := 3) (oi := { dst := some 45, op := Op.call { callee := Callee.builtin Builtin.len, args := #[Operand.tmp 44], argTypes := #[25] }, type := 3, pos := "law.go:52", after := #[{ on := 2, ground := Ground.data }], guard := none }) (v := ?_) rfl (by kernel_rfl) (by kernel_rfl) (by kernel_rfl) (fun _ _ _ h => h) (Or.inl ⟨by rfl, ?_⟩) hHeld ?_
        rotate_left
        · intro w hSw
          (try dsimp only at hSw)
          go_simp
          all_goals with_reducible rfl
        (try simp only [Act.put, List.setIfInBounds_toArray, List.set_cons_zero, List.set_cons_succ])
        refine wpAnyH_take (i := 4) (oi := { dst := some 46, op := Op.binOp BinOp.gtr 3 (Operand.tmp 45) (Operand.const (Value.int IntKind.i64 0)) 3, type := 4, pos := "law.go:52", after := #[{ on := 3, ground := Ground.data }], guard := none }) (v := ?_) rfl (by kernel_rfl) (by kernel_rfl) (by kernel_rfl) (fun _ _ _ h => h) (Or.inl ⟨by rfl, ?_⟩) hHeld ?_
        rotate_left
        · intro w hSw
          (try dsimp only at hSw)
          go_simp
          all_goals with_reducible rfl
        (try simp only [Act.put, List.setIfInBounds_toArray, List.set_cons_zero, List.set_cons_succ])
        refine wpAnyH_take (i := 5) (oi := { dst := some 47, op := Op.binOp BinOp.neq 4 (Operand.tmp 42) (Operand.tmp 46) 4, type := 4, pos := "law.go:52", after := #[{ on := 0, ground := Ground.data }, { on := 4, ground := Ground.data }], guard := none }) (v := ?_) rfl (by kernel_rfl) (by kernel_rfl) (by kernel_rfl) (fun _ _ _ h => h) (Or.inl ⟨by rfl, ?_⟩) hHeld ?_
        rotate_left
        · intro w hSw
          (try dsimp only at hSw)
          go_simp
          all_goals with_reducible rfl
        (try simp only [Act.put, List.setIfInBounds_toArray, List.set_cons_zero, List.set_cons_succ])
        refine wpAnyH_take (i := 6) (oi := { dst := some 48, op := Op.move (Operand.tmp 47), type := 4, pos := "law.go:52", after := #[{ on := 5, ground := Ground.data }], guard := none }) (v := ?_) rfl (by kernel_rfl) (by kernel_rfl) (by kernel_rfl) (fun _ _ _ h => h) (Or.inl ⟨by rfl, ?_⟩) hHeld ?_
        rotate_left
        · intro w hSw
          (try dsimp only at hSw)
          go_simp
          all_goals with_reducible rfl
        (try simp only [Act.put, List.setIfInBounds_toArray, List.set_cons_zero, List.set_cons_succ])
        refine wpAnyH_take (i := 7) (oi := { dst := some 49, op := Op.move (Operand.tmp 11), type := 4, pos := "law.go:52", after := #[{ on := 6, ground := Ground.guard }], guard := some (6, false) }) (v := ?_) rfl (by kernel_rfl) (by kernel_rfl) (by kernel_rfl) (fun _ _ _ h => h) (Or.inl ⟨by rfl, ?_⟩) hHeld ?_
        rotate_left
        · intro w hSw
          (try dsimp only at hSw)
          go_simp
          all_goals with_reducible rfl
        (try simp only [Act.put, List.setIfInBounds_toArray, List.set_cons_zero, List.set_cons_succ])
        refine wpAnyH_take (i := 8) (oi := { dst := some 50, op := Op.move (Operand.tmp 49), type := 4, pos := "law.go:52", after := #[{ on := 7, ground := Ground.data }, { on := 6, ground := Ground.chain }, { on := 6, ground := Ground.guard }], guard := some (6, false) }) (v := ?_) rfl (by kernel_rfl) (by kernel_rfl) (by kernel_rfl) (fun _ _ _ h => h) (Or.inl ⟨by rfl, ?_⟩) hHeld ?_
        rotate_left
        · intro w hSw
          (try dsimp only at hSw)
          go_simp
          all_goals with_reducible rfl
        (try simp only [Act.put, List.setIfInBounds_toArray, List.set_cons_zero, List.set_cons_succ])
        refine wpAnyH_take (i := 9) (oi := { dst := some 51, op := Op.load 27 (Operand.tmp 10), type := 27, pos := "law.go:52", after := #[{ on := 8, ground := Ground.guard }], guard := some (8, true) }) (v := undef) rfl (by kernel_rfl) (by kernel_rfl) (by kernel_rfl) (fun _ _ _ h => h) (Or.inr ⟨by rfl, rfl⟩) hHeld ?_
        (try simp only [Act.put, List.setIfInBounds_toArray, List.set_cons_zero, List.set_cons_succ])
        refine wpAnyH_take (i := 10) (oi := { dst := some 52, op := Op.buildSlice 22 1 #[(0, Operand.tmp 51)], type := 22, pos := "law.go:52", after := #[{ on := 9, ground := Ground.data }, { on := 8, ground := Ground.guard }], guard := some (8, true) }) (v := undef) rfl (by kernel_rfl) (by kernel_rfl) (by kernel_rfl) (fun _ _ _ h => h) (Or.inr ⟨by rfl, rfl⟩) hHeld ?_
        (try simp only [Act.put, List.setIfInBounds_toArray, List.set_cons_zero, List.set_cons_succ])
        refine wpAnyH_take (i := 11) (oi := { dst := some 53, op := Op.build 24 #[(0, Operand.tmp 52)], type := 24, pos := "law.go:52", after := #[{ on := 10, ground := Ground.data }, { on := 8, ground := Ground.guard }], guard := some (8, true) }) (v := undef) rfl (by kernel_rfl) (by kernel_rfl) (by kernel_rfl) (fun _ _ _ h => h) (Or.inr ⟨by rfl, rfl⟩) hHeld ?_
        (try simp only [Act.put, List.setIfInBounds_toArray, List.set_cons_zero, List.set_cons_succ])
        refine wpAnyH_take (i := 12) (oi := { dst := some 54, op := Op.load 27 (Operand.tmp 4), type := 27, pos := "law.go:52", after := #[{ on := 8, ground := Ground.guard }], guard := some (8, true) }) (v := undef) rfl (by kernel_rfl) (by kernel_rfl) (by kernel_rfl) (fun _ _ _ h => h) (Or.inr ⟨by rfl, rfl⟩) hHeld ?_
        (try simp only [Act.put, List.setIfInBounds_toArray, List.set_cons_zero, List.set_cons_succ])
        refine wpAnyH_take (i := 13) (oi := { dst := some 55, op := Op.buildSlice 22 1 #[(0, Operand.tmp 54)], type := 22, pos := "law.go:52", after := #[{ on := 12, ground := Ground.data }, { on := 8, ground := Ground.guard }], guard := some (8, true) }) (v := undef) rfl (by kernel_rfl) (by kernel_rfl) (by kernel_rfl) (fun _ _ _ h => h) (Or.inr ⟨by rfl, rfl⟩) hHeld ?_
        (try simp only [Act.put, List.setIfInBounds_toArray, List.set_cons_zero, List.set_cons_succ])
        refine wpAnyH_take (i := 14) (oi := { dst := some 56, op := Op.build 24 #[(0, Operand.tmp 55)], type := 24, pos := "law.go:52", after := #[{ on := 13, ground := Ground.data }, { on := 8, ground := Ground.guard }], guard := some (8, true) }) (v := undef) rfl (by kernel_rfl) (by kernel_rfl) (by kernel_rfl) (fun _ _ _ h => h) (Or.inr ⟨by rfl, rfl⟩) hHeld ?_
        (try simp only [Act.put, List.setIfInBounds_toArray, List.set_cons_zero, List.set_cons_succ])
        refine wpAnyH_take (i := 15) (oi := { dst := some 57, op := Op.call { callee := Callee.value (Operand.func 15), args := #[Operand.tmp 53, Operand.tmp 56], argTypes := #[24, 24] }, type := 4, pos := "law.go:52", after := #[{ on := 11, ground := Ground.data }, { on := 14, ground := Ground.data }, { on := 8, ground := Ground.chain }, { on := 8, ground := Ground.guard }], guard := some (8, true) }) (v := undef) rfl (by kernel_rfl) (by kernel_rfl) (by kernel_rfl) (fun _ _ _ h => h) (Or.inr ⟨by rfl, rfl⟩) hHeld ?_
        (try simp only [Act.put, List.setIfInBounds_toArray, List.set_cons_zero, List.set_cons_succ])
        refine wpAnyH_take (i := 16) (oi := { dst := some 58, op := Op.unOp UnOp.not 4 (Operand.tmp 57), type := 4, pos := "law.go:52", after := #[{ on := 15, ground := Ground.data }, { on := 8, ground := Ground.guard }], guard := some (8, true) }) (v := undef) rfl (by kernel_rfl) (by kernel_rfl) (by kernel_rfl) (fun _ _ _ h => h) (Or.inr ⟨by rfl, rfl⟩) hHeld ?_
        (try simp only [Act.put, List.setIfInBounds_toArray, List.set_cons_zero, List.set_cons_succ])
        refine wpAnyH_take (i := 17) (oi := { dst := some 59, op := Op.pick (Operand.tmp 50) (Operand.tmp 58) (Operand.const (Value.bool false)), type := 4, pos := "law.go:52", after := #[{ on := 8, ground := Ground.data }, { on := 16, ground := Ground.data }, { on := 6, ground := Ground.guard }], guard := some (6, false) }) (v := ?_) rfl (by kernel_rfl) (by kernel_rfl) (by kernel_rfl) (fun _ _ _ h => h) (Or.inl ⟨by rfl, ?_⟩) hHeld ?_
        rotate_left
        · intro w hSw
          (try dsimp only at hSw)
          go_simp
          all_goals with_reducible rfl
        (try simp only [Act.put, List.setIfInBounds_toArray, List.set_cons_zero, List.set_cons_succ])
        refine wpAnyH_take (i := 18) (oi := { dst := some 60, op := Op.pick (Operand.tmp 48) (Operand.const (Value.bool true)) (Operand.tmp 59), type := 4, pos := "law.go:52", after := #[{ on := 6, ground := Ground.data }, { on := 17, ground := Ground.data }], guard := none }) (v := ?_) rfl (by kernel_rfl) (by kernel_rfl) (by kernel_rfl) (fun _ _ _ h => h) (Or.inl ⟨by rfl, ?_⟩) hHeld ?_
        rotate_left
        · intro w hSw
          (try dsimp only at hSw)
          go_simp
          all_goals with_reducible rfl
        (try simp only [Act.put, List.setIfInBounds_toArray, List.set_cons_zero, List.set_cons_succ])
        refine wpAnyH_take (i := 19) (oi := { dst := some 61, op := Op.move (Operand.tmp 60), type := 4, pos := "law.go:52", after := #[{ on := 18, ground := Ground.data }, { on := 15, ground := Ground.chain }], guard := none }) (v := ?_) rfl (by kernel_rfl) (by kernel_rfl) (by kernel_rfl) (fun _ _ _ h => h) (Or.inl ⟨by rfl, ?_⟩) hHeld ?_
        rotate_left
        · intro w hSw
          (try dsimp only at hSw)
          go_simp
          all_goals with_reducible rfl
        (try simp only [Act.put, List.setIfInBounds_toArray, List.set_cons_zero, List.set_cons_succ])
        refine wpAnyH_take (i := 20) (oi := { dst := some 62, op := Op.load 24 (Operand.tmp 9), type := 24, pos := "law.go:52", after := #[{ on := 19, ground := Ground.guard }], guard := some (19, false) }) (v := ?_) rfl (by kernel_rfl) (by kernel_rfl) (by kernel_rfl) (fun _ _ _ h => h) (Or.inl ⟨by rfl, ?_⟩) hHeld ?_
        rotate_left
        · intro w hSw
          (try dsimp only at hSw)
          go_simp
          all_goals with_reducible rfl
        (try simp only [Act.put, List.setIfInBounds_toArray, List.set_cons_zero, List.set_cons_succ])
        refine wpAnyH_take (i := 21) (oi := { dst := some 63, op := Op.load 27 (Operand.tmp 4), type := 27, pos := "law.go:52", after := #[{ on := 19, ground := Ground.guard }], guard := some (19, false) }) (v := ?_) rfl (by kernel_rfl) (by kernel_rfl) (by kernel_rfl) (fun _ _ _ h => h) (Or.inl ⟨by rfl, ?_⟩) hHeld ?_
        rotate_left
        · intro w hSw
          (try dsimp only at hSw)
          go_simp
          all_goals with_reducible rfl
        (try simp only [Act.put, List.setIfInBounds_toArray, List.set_cons_zero, List.set_cons_succ])
        refine wpAnyH_take (i := 23) (oi := { dst := some 65, op := Op.load 24 (Operand.tmp 9), type := 24, pos := "law.go:52", after := #[{ on := 19, ground := Ground.guard }], guard := some (19, false) }) (v := ?_) rfl (by kernel_rfl) (by kernel_rfl) (by kernel_rfl) (fun _ _ _ h => h) (Or.inl ⟨by rfl, ?_⟩) hHeld ?_
        rotate_left
        · intro w hSw
          (try dsimp only at hSw)
          go_simp
          all_goals with_reducible rfl
        (try simp only [Act.put, List.setIfInBounds_toArray, List.set_cons_zero, List.set_cons_succ])
        refine wpAnyH_ready (rs := [22]) (by kernel_rfl) (by simp) ?_
        refine AllReadyH.cons (o := { dst := some 64, op := Op.call { callee := Callee.value (Operand.func 16), args := #[Operand.tmp 62, Operand.tmp 63], argTypes := #[24, 27] }, type := 24, pos := "law.go:52", after := #[{ on := 20, ground := Ground.data }, { on := 21, ground := Ground.data }, { on := 19, ground := Ground.chain }, { on := 19, ground := Ground.guard }], guard := some (19, false) }) rfl (fun K hK => ?_) AllReadyH.nil
        go_simp
        (go_at_call 16; (with_reducible refine (HC2.out _ LD).mono ?_); rintro e w7 ⟨Ab, cb, rfl, hb7, h7⟩; have L7 := below_then LD h7)
        go_wp2_with fail
        refine hK.out _ _ (HSX.out _ L7) (fun hHeld => ?_)
        clear hK K
        (try simp only [Act.put, List.setIfInBounds_toArray, List.set_cons_zero, List.set_cons_succ])
        refine wpAnyH_ready (rs := [24]) (by kernel_rfl) (by simp) ?_
        refine AllReadyH.cons (o := { dst := some 66, op := Op.call { callee := Callee.value (Operand.func 18), args := #[Operand.tmp 64, Operand.tmp 65], argTypes := #[24, 24] }, type := 4, pos := "law.go:52", after := #[{ on := 22, ground := Ground.data }, { on := 23, ground := Ground.data }, { on := 22, ground := Ground.chain }, { on := 19, ground := Ground.guard }], guard := some (19, false) }) rfl (fun K hK => ?_) AllReadyH.nil
        go_simp
        (go_at_call 18; (with_reducible refine (HVS.out _ _ _ L7 hb7).mono ?_); rintro e w8 ⟨rfl, h8⟩; have L8 := below_then L7 h8)
        go_wp2_with fail
        refine hK.out _ _ (HSX.out _ L8) (fun hHeld => ?_)
        clear hK K
        (try simp only [Act.put, List.setIfInBounds_toArray, List.set_cons_zero, List.set_cons_succ])
        refine wpAnyH_take (i := 25) (oi := { dst := some 67, op := Op.unOp UnOp.not 4 (Operand.tmp 66), type := 4, pos := "law.go:52", after := #[{ on := 24, ground := Ground.data }, { on := 19, ground := Ground.guard }], guard := some (19, false) }) (v := ?_) rfl (by kernel_rfl) (by kernel_rfl) (by kernel_rfl) (fun _ _ _ h => h) (Or.inl ⟨by rfl, ?_⟩) hHeld ?_
        rotate_left
        · intro w hSw
          (try dsimp only at hSw)
          go_simp
          all_goals with_reducible rfl
        (try simp only [Act.put, List.setIfInBounds_toArray, List.set_cons_zero, List.set_cons_succ])
        refine wpAnyH_take (i := 26) (oi := { dst := some 68, op := Op.pick (Operand.tmp 61) (Operand.const (Value.bool true)) (Operand.tmp 67), type := 4, pos := "law.go:52", after := #[{ on := 19, ground := Ground.data }, { on := 25, ground := Ground.data }], guard := none }) (v := ?_) rfl (by kernel_rfl) (by kernel_rfl) (by kernel_rfl) (fun _ _ _ h => h) (Or.inl ⟨by rfl, ?_⟩) hHeld ?_
        rotate_left
        · intro w hSw
          (try dsimp only at hSw)
          go_simp
          all_goals with_reducible rfl
        (try simp only [Act.put, List.setIfInBounds_toArray, List.set_cons_zero, List.set_cons_succ])
        refine wpAnyH_done (by kernel_rfl) ?_ _
        all_goals
          go_wp2_with fail
          go_meet
          case rel => exact ⟨rfl, L8⟩
      · have hpos : 0 < s.V.length := List.length_pos_iff.2 hV
        have hv1 : (decide ((0 : Int) < (s.V.length : Int))) = true := by rw [decide_eq_true_iff]; omega
        have hv2 : (decide (0 < s.V.length)) = true := by rw [decide_eq_true_iff]; omega
        obtain rfl : g0 = some s := by rw [hg0, get_set, if_neg hV]
        simp only [Option.getD_some, Option.isSome_some] at HGR HSX Xg e1 e2 e3 ⊢
        have HSL := Lib.hid (same_lits HGR.out (fun wx hx => HS.out wx (below_then hb05 hx)))
        clear hV hg0 hpos Xs Xg Xa Xm s1 s2 s3 e1 e2 e3 a1
        go_region_held3 (fun w' => (w'.cell? ⟨w.heap.size + 1, 0, none⟩ = some (.int .i64 s.no) ∧ w'.cell? ⟨w.heap.size + 1, 1, none⟩ = some (.slice A1 s.K.length c1) ∧ w'.cell? ⟨w.heap.size + 1, 2, none⟩ = some (.slice A2 s.V.length c2)) ∧ w'.cell? ⟨g9, 0, none⟩ = some (.slice Aa (setM m s).F.length ca) ∧ w'.cell? ⟨g10, 0, none⟩ = some (.int .i64 s.no) ∧ w'.cell? ⟨g10, 1, none⟩ = some (.slice G1 s.K.length d1) ∧ w'.cell? ⟨g10, 2, none⟩ = some (.slice G2 s.V.length d2))
          (first
            | exact HSX.out _ LD
            | exact HSX.out _ ((below_new W5 _).trans (Below.refl _ _).drew)
            | exact HSX.out _ ((two_boxes W5 _ _).2.2.trans (Below.refl _ _).drew)
            | exact HSX.out _ L6
            | exact HSX.out _ L7
            | exact HSX.out _ L8
            | go_keep)
          ((first
            | (go_at_call 15; (with_reducible refine (HSL.out.1).mono ?_); rintro e w6 ⟨rfl, L6⟩)
            | (go_at_call 15; (with_reducible refine (HSL.out.2).mono ?_); rintro e w6 ⟨rfl, L6⟩)
            | (go_at_call 16; (with_reducible refine (HC2.out _ L6).mono ?_); rintro e w7 ⟨Ab, cb, rfl, hb7, h7⟩; have L7 := below_then L6 h7)
            | (go_at_call 18; (with_reducible refine (HVS.out _ _ _ L7 hb7).mono ?_); rintro e w8 ⟨rfl, h8⟩; have L8 := below_then L7 h8)
            | fail))
        all_goals
          go_wp2_with fail
          go_meet
          case rel => exact ⟨rfl, L8⟩
    case rest =>
    obtain ⟨rfl, L6⟩ := hcut
    clear Xg HGR hg0
    have Zm := box_on Xm L6
    have Zs := box_on Xs L6
    have Za := box_on Xa L6
    have m1 := bx1 Zm
    have a1 := bx1 Za
    obtain ⟨s1, s2, s3⟩ := bx3 Zs
    by_cases hno : no = s.no
    · have hn1 : (no != s.no) = false := by simp [hno]
      clear hno
      go_wp2_with fail
      have LZ := L6
      obtain ⟨s1, -, -⟩ := bx3 (box_on Xs LZ)
      have a1 := bx1 (box_on Xa LZ)
      go_cut [17] (fun v wx => v = .bool false ∧ Below W5.heap.size W5 wx)
      case first =>
        have LD : Below W5.heap.size W5 wc.drew := LZ.trans ((Below.refl _ _).drew.mono LZ.size)
        have LDA : Below W5.heap.size W5 (wc.alloc (.cells #[.int .i64 0, .slice none 0 0, .slice none 0 0] 27)).drew := below_then LZ ((below_new wc _).trans (Below.refl _ _).drew)
        have XA : (wc.alloc (.cells #[.int .i64 0, .slice none 0 0, .slice none 0 0] 27)).drew.heap[wc.heap.size]? = some (.cells #[.int .i64 0, .slice none 0 0, .slice none 0 0] 27 (0, 0)) := heap_alloc_new wc (.cells #[.int .i64 0, .slice none 0 0, .slice none 0 0] 27)
        have hl5 : w.heap.size + 1 < W5.heap.size := box_lt Xs
        have hl9 : g9 < W5.heap.size := box_lt Xa
        have HSY := Lib.hid (fun c (hc : Below W5.heap.size W5 c) => show c.cell? ⟨g9, 0, none⟩ = some (.slice Aa (setM m s).F.length ca) ∧ c.cell? ⟨w.heap.size + 1, 0, none⟩ = some (.int .i64 s.no) from ⟨bx1 (box_on Xa hc), (bx3 (box_on Xs hc)).1⟩)
        have HS2 := Lib.hid (fun wx (hx : Below W5.heap.size W5 wx) => set_rd D (setM m s) (bare9 s.no) _ _ _ wx (HAR.out _ hx) (bare9_at _ _ _ _) (by have := B1.out; omega) (by rw [bare9_c]; omega))
        have HG2 := Lib.hid (fun A c wx (hx : Below W5.heap.size W5 wx) (hq : MRd wx.heap.size wx (D + 1) (setM m (bare9 s.no)) (.slice A (setM m (bare9 s.no)).F.length c)) => get_rd D (setM m (bare9 s.no)) _ s.no wx hq (by have := B1.out; have h := cnt_set m (bare9 s.no); rw [bare9_c] at h; omega))
        rw [set_set m s (bare9 s.no) rfl] at HS2; rw [show (bare9 s.no).no = s.no from rfl] at HS2
        rw [show getM (setM m (bare9 s.no)) s.no = none from get_set m (bare9 s.no)] at HG2
        simp only [Option.getD_none, Option.isSome_none] at HG2
        clear s1 a1 Xs Xa Xm
        first
          | (skip; go_region_held3 (fun w' => w'.cell? ⟨g9, 0, none⟩ = some (.slice Aa (setM m s).F.length ca) ∧ w'.cell? ⟨w.heap.size + 1, 0, none⟩ = some (.int .i64 s.no))
              (first
                | exact HSY.out _ LD
                | exact HSY.out _ LDA
                | exact HSY.out _ L12
                | exact HSY.out _ (L12.alloc L12.size _)
                | exact HSY.out _ L13
                | exact HSY.out _ (L13.alloc L13.size _)
                | exact HSY.out _ (((L13.setCell LZ.size _).setCell LZ.size _).setCell LZ.size _)
                | exact HSY.out _ (((L13.setCell L12.size _).setCell L12.size _).setCell L12.size _)
                | exact HSY.out _ ((((L13.alloc L13.size _).setCell L13.size _).setCell L13.size _).setCell L13.size _)
                | fail)
              ((first
                | (go_at_call 16; (with_reducible refine (HS2.out _ (by first | exact LD | exact LDA)).mono ?_); rintro e w12 ⟨Ac, cc, rfl, hb12, h12⟩
                   have L12 : Below W5.heap.size W5 w12 := by first | exact below_then LD h12 | exact below_then LDA h12
                   (first | (have XA2 := box_on XA h12) | skip))
                | (go_at_call 13; (with_reducible refine (HG2.out _ _ _ (by first | exact L12 | exact L12.alloc L12.size _) (by first | exact hb12 | exact rd_up (below_new w12 _) hb12)).mono ?_); rintro e w13 ⟨E1, f1, E2, f2, rfl, hg13, h13⟩
                   have L13 : Below W5.heap.size W5 w13 := by first | exact below_then L12 h13 | exact below_then (L12.alloc L12.size _) h13
                   (first | (have XA3 := box_on XA2 h13) | (have XA3 := box_on (heap_alloc_new w12 (.cells #[.int .i64 0, .slice none 0 0, .slice none 0 0] 27)) h13) | skip)
                   (first | (obtain ⟨kA, kB, kC⟩ := bx3 XA3; have fA := froz XA3 0; have fB := froz XA3 1; have fC := froz XA3 2) | skip))
                | fail)))
          | fail
        all_goals
          go_wp2_with fail
          go_meet
        all_goals first
          | exact ⟨rfl, ((L13.setCell LZ.size _).setCell LZ.size _).setCell LZ.size _⟩
          | exact ⟨rfl, ((L13.setCell L12.size _).setCell L12.size _).setCell L12.size _⟩
          | exact ⟨rfl, (((L13.alloc L13.size _).setCell L13.size _).setCell L13.size _).setCell L13.size _⟩
          | exact ⟨rfl, L13.alloc L13.size _⟩
          | fail
      case rest =>
      obtain ⟨rfl, L14⟩ := hcut
      go_wp2
      go_ret
      exact ⟨rfl, below_then hb05 L14⟩
    · have hn1 : (no != s.no) = true := by simp [hno]
      have HGA := Lib.hid (get_rd D (setM m s) _ no wc (HAR.out _ L6) (by have := B1.out; omega))
      rw [get_other m s no hno] at HGA
      clear hno
      have HGM := Lib.hid (fun wx (hx : Below W5.heap.size W5 wx) => get_rd D m _ no wx (HM.out _ (below_then hb05 hx)) (by have := B1.out; omega))
      obtain ⟨t0, ht0⟩ : ∃ t, t = getM m no := ⟨_, rfl⟩
      rw [← ht0] at HGA HGM
      clear ht0
      go_wp2_with (first
        | (go_at_call 13; (with_reducible refine HGA.out.mono ?_); rintro e w9 ⟨G1, d1, G2, d2, rfl, hg9, h9⟩
           have L9 := below_then L6 h9
           have N9 := L9.alloc L9.size (.cells #[.int .i64 (t0.getD so0).no, .slice G1 (t0.getD so0).K.length d1, .slice G2 (t0.getD so0).V.length d2] 27)
           have x1 := bx1 (box_on Xm N9))
        | (go_at_call 13; (with_reducible refine (HGM.out _ N9).mono ?_); rintro e w10 ⟨G3, d3, G4, d4, rfl, hg10, h10⟩
           have L10 := below_then N9 h10
           obtain ⟨N10, B10⟩ := And.intro (below_new w10 (.cells #[.int .i64 (t0.getD so0).no, .slice G3 (t0.getD so0).K.length d3, .slice G4 (t0.getD so0).V.length d4] 27)) (heap_alloc_new w10 (.cells #[.int .i64 (t0.getD so0).no, .slice G3 (t0.getD so0).K.length d3, .slice G4 (t0.getD so0).V.length d4] 27))
           have B9 := box_on (heap_alloc_new w9 (.cells #[.int .i64 (t0.getD so0).no, .slice G1 (t0.getD so0).K.length d1, .slice G2 (t0.getD so0).V.length d2] 27)) (below_then h10 N10)
           obtain ⟨x1, x2, x3⟩ := bx3 B9
           obtain ⟨y1, y2, y3⟩ := bx3 B10
           have LW := L10.trans (N10.mono L10.size)
           have HSZ := Lib.hid (same_lits0 (G := w10.heap.size + 1) (W := w10.alloc (.cells #[.int .i64 (t0.getD so0).no, .slice G3 (t0.getD so0).K.length d3, .slice G4 (t0.getD so0).V.length d4] 27)) (by simp) (fun wx hx => srd_up (below_then (below_then (below_then (below_new w9 (.cells #[.int .i64 (t0.getD so0).no, .slice G1 (t0.getD so0).K.length d1, .slice G2 (t0.getD so0).V.length d2] 27)) h10) N10) hx) hg9) (fun wx hx => srd_up (below_then N10 hx) hg10)))
        | (go_at_call 15; (with_reducible refine HSZ.out.mono ?_); rintro e w11 ⟨rfl, h11⟩; have L11 := below_then LW h11)
        | fail)
      have LZ := L11
      obtain ⟨s1, -, -⟩ := bx3 (box_on Xs LZ)
      have a1 := bx1 (box_on Xa LZ)
      go_cut [17] (fun v wx => v = .bool false ∧ Below W5.heap.size W5 wx)
      case first =>
        have LD : Below W5.heap.size W5 w11.drew := LZ.trans ((Below.refl _ _).drew.mono LZ.size)
        have LDA : Below W5.heap.size W5 (w11.alloc (.cells #[.int .i64 0, .slice none 0 0, .slice none 0 0] 27)).drew := below_then LZ ((below_new w11 _).trans (Below.refl _ _).drew)
        have XA : (w11.alloc (.cells #[.int .i64 0, .slice none 0 0, .slice none 0 0] 27)).drew.heap[w11.heap.size]? = some (.cells #[.int .i64 0, .slice none 0 0, .slice none 0 0] 27 (0, 0)) := heap_alloc_new w11 (.cells #[.int .i64 0, .slice none 0 0, .slice none 0 0] 27)
        have hl5 : w.heap.size + 1 < W5.heap.size := box_lt Xs
        have hl9 : g9 < W5.heap.size := box_lt Xa
        have HSY := Lib.hid (fun c (hc : Below W5.heap.size W5 c) => show c.cell? ⟨g9, 0, none⟩ = some (.slice Aa (setM m s).F.length ca) ∧ c.cell? ⟨w.heap.size + 1, 0, none⟩ = some (.int .i64 s.no) from ⟨bx1 (box_on Xa hc), (bx3 (box_on Xs hc)).1⟩)
        have HS2 := Lib.hid (fun wx (hx : Below W5.heap.size W5 wx) => set_rd D (setM m s) (bare9 s.no) _ _ _ wx (HAR.out _ hx) (bare9_at _ _ _ _) (by have := B1.out; omega) (by rw [bare9_c]; omega))
        have HG2 := Lib.hid (fun A c wx (hx : Below W5.heap.size W5 wx) (hq : MRd wx.heap.size wx (D + 1) (setM m (bare9 s.no)) (.slice A (setM m (bare9 s.no)).F.length c)) => get_rd D (setM m (bare9 s.no)) _ s.no wx hq (by have := B1.out; have h := cnt_set m (bare9 s.no); rw [bare9_c] at h; omega))
        rw [set_set m s (bare9 s.no) rfl] at HS2; rw [show (bare9 s.no).no = s.no from rfl] at HS2
        rw [show getM (setM m (bare9 s.no)) s.no = none from get_set m (bare9 s.no)] at HG2
        simp only [Option.getD_none, Option.isSome_none] at HG2
        clear s1 a1 Xs Xa Xm
        first
          | (skip; go_region_held3 (fun w' => w'.cell? ⟨g9, 0, none⟩ = some (.slice Aa (setM m s).F.length ca) ∧ w'.cell? ⟨w.heap.size + 1, 0, none⟩ = some (.int .i64 s.no))
              (first
                | exact HSY.out _ LD
                | exact HSY.out _ LDA
                | exact HSY.out _ L12
                | exact HSY.out _ (L12.alloc L12.size _)
                | exact HSY.out _ L13
                | exact HSY.out _ (L13.alloc L13.size _)
                | exact HSY.out _ (((L13.setCell LZ.size _).setCell LZ.size _).setCell LZ.size _)
                | exact HSY.out _ (((L13.setCell L12.size _).setCell L12.size _).setCell L12.size _)
                | exact HSY.out _ ((((L13.alloc L13.size _).setCell L13.size _).setCell L13.size _).setCell L13.size _)
                | fail)
              ((first
                | (go_at_call 16; (with_reducible refine (HS2.out _ (by first | exact LD | exact LDA)).mono ?_); rintro e w12 ⟨Ac, cc, rfl, hb12, h12⟩
                   have L12 : Below W5.heap.size W5 w12 := by first | exact below_then LD h12 | exact below_then LDA h12
                   (first | (have XA2 := box_on XA h12) | skip))
                | (go_at_call 13; (with_reducible refine (HG2.out _ _ _ (by first | exact L12 | exact L12.alloc L12.size _) (by first | exact hb12 | exact rd_up (below_new w12 _) hb12)).mono ?_); rintro e w13 ⟨E1, f1, E2, f2, rfl, hg13, h13⟩
                   have L13 : Below W5.heap.size W5 w13 := by first | exact below_then L12 h13 | exact below_then (L12.alloc L12.size _) h13
                   (first | (have XA3 := box_on XA2 h13) | (have XA3 := box_on (heap_alloc_new w12 (.cells #[.int .i64 0, .slice none 0 0, .slice none 0 0] 27)) h13) | skip)
                   (first | (obtain ⟨kA, kB, kC⟩ := bx3 XA3; have fA := froz XA3 0; have fB := froz XA3 1; have fC := froz XA3 2) | skip))
                | fail)))
          | fail
        all_goals
          go_wp2_with fail
          go_meet
        all_goals first
          | exact ⟨rfl, ((L13.setCell LZ.size _).setCell LZ.size _).setCell LZ.size _⟩
          | exact ⟨rfl, ((L13.setCell L12.size _).setCell L12.size _).setCell L12.size _⟩
          | exact ⟨rfl, (((L13.alloc L13.size _).setCell L13.size _).setCell L13.size _).setCell L13.size _⟩
          | exact ⟨rfl, L13.alloc L13.size _⟩
          | fail
      case rest =>
      obtain ⟨rfl, L14⟩ := hcut
      go_wp2
      go_ret
      exact ⟨rfl, below_then hb05 L14⟩
theorem contract (H : Type) (enc : TypeId × Value → H) (W : World) (base : Nat) (args : Array Value) (ds gs : List (DataW H)) (before : List MemPlace)
    (hval0 : ∀ (j : Nat) t v, Try.f4.params[j]? = some t → args[j]? = some v → Value.okWide Try.prog W .any base t v)
    (hW : DataW.Whole enc Try.prog Try.f4.params.toList Rows.valueSetsSpec.vars false W args.toList ds gs before) (hsz : (DataW.weightsEach Try.prog (Try.f4.params.toList ++ (OpenSpec.ofChange Rows.valueSetsSpec).bare.plain.varTypes Try.prog) (ds ++ gs)).all (· ≤ reachBytes) = true) (hL : laidMetH Try.prog Rows.valueSetsRow.laid W) :
    Calls Try.prog 4 args W fun e W2 => ∃ v, e = .returned v ∧ Rows.valueSetsSpec.post enc Try.prog Try.f4 false true false false W args v W2 := by
  have hval : ∀ (j : Nat) t v, Try.f4.params[j]? = some t → args[j]? = some v → Value.okWide Try.prog W .any base t v := hval0
  have hW2 := hW
  obtain ⟨p, q, hA0, hV, rfl, hfz, hnd⟩ := hW
  have hA : DataW.TrodAll enc Try.prog W 0 (fun _ => true) true Try.f4.params.toList args.toList ds p := hA0
  rw [Try.params4] at hA hval
  obtain ⟨v0, vs0, d0, ds0, p0, q0, hargs, rfl, rfl, h0, r0⟩ := trodAll_cons hA
  obtain ⟨v1, vs1, d1, ds1, p1, q1, rfl, rfl, rfl, h1, r1⟩ := trodAll_cons r0
  obtain ⟨v2, vs2, d2, ds2, p2, q2, rfl, rfl, rfl, h2, r2⟩ := trodAll_cons r1
  obtain ⟨rfl, rfl, rfl⟩ := trodAll_nil r2
  obtain rfl : args = #[v0, v1, v2] := by cases args; simp_all
  obtain ⟨rfl, rfl⟩ := trodVars_none hV
  obtain ⟨mg0, u0, k0, rfl, hm0⟩ := open_msg (hval 0 24 v0 rfl rfl) h0 (szd_each (fun k hk => of_decide_eq_true (List.all_eq_true.1 hsz k hk)) 0 _ _ rfl rfl)
  obtain ⟨sl1, u1, t1, k1, rfl, hm1⟩ := open_sl (hval 1 27 v1 rfl rfl) h1 (szd_each (fun k hk => of_decide_eq_true (List.all_eq_true.1 hsz k hk)) 1 _ _ rfl rfl)
  obtain ⟨i2, rfl, b2, c2⟩ := open_i64 (hval 2 3 v2 rfl rfl) h2
  refine (walk W mg0 u0 k0 hm0 sl1 u1 t1 k1 hm1 i2 b2 c2).mono fun e W2 ⟨he, hb⟩ => ?_
  subst he
  exact ⟨_, rfl, law_post (by kernel_rfl) rfl rfl (by decide +kernel) hW2 hb⟩
theorem laid_met (os : Os) : laidMetH Try.prog Rows.valueSetsRow.laid ((World.laidAll Try.prog os Rows.valueSetsRow.laid).forCall (fun _ _ => 0) ⟨#[], #[.agg #[.slice none 0 0], .agg #[.int .i64 0, .slice none 0 0, .slice none 0 0], .int .i64 0], []⟩).memory := by
  rw [MakeChecks.laidMetH_plain _ _ _ (by kernel_rfl)]
  exact laidMet_laidAll _ (by kernel_rfl) (by kernel_rfl)
theorem reads (os : Os) {H : Type} (enc : TypeId × Value → H) : ∃ places, DataW.whole enc Try.prog ((World.laidAll Try.prog os Rows.valueSetsRow.laid).forCall (fun _ _ => 0) ⟨#[], #[.agg #[.slice none 0 0], .agg #[.int .i64 0, .slice none 0 0, .slice none 0 0], .int .i64 0], []⟩).memory Try.f4.params.toList Rows.valueSetsSpec.vars false (#[.agg #[.slice none 0 0], .agg #[.int .i64 0, .slice none 0 0, .slice none 0 0], .int .i64 0] : Array Value).toList 8 = some ([.agg [.nil], .agg [.lit (.int .i64 0), .nil, .nil], .lit (.int .i64 0)], [], places) := ⟨[], by kernel_rfl⟩
set_option maxRecDepth 100000 in
theorem lifted (os : Os) (started : os.Started) (H : Type) (enc : TypeId × Value → H) (F : Stop.Interp) :
    ReturnsInHanded {} Try.checked os 4 .any ((OpenSpec.ofChange Rows.valueSetsSpec).preRow enc Try.prog Try.f4 Rows.valueSetsRow.domain false Rows.valueSetsRow.laid) (((OpenSpec.ofChange Rows.valueSetsSpec).at F).post enc Try.prog Try.f4 false true false false) := by
  obtain ⟨places, hx⟩ := reads os enc
  refine returnsInHanded_of_row (C := Try.checked) (s := OpenSpec.ofChange Rows.valueSetsSpec) own started (by kernel_rfl) Try.func4
    (witness_row_at (enc := enc) (C := Try.checked) false (World.laidAll Try.prog os Rows.valueSetsRow.laid) #[.agg #[.slice none 0 0], .agg #[.int .i64 0, .slice none 0 0, .slice none 0 0], .int .i64 0] (World.laidAll_os _ _ _) (by kernel_rfl) (by kernel_rfl) (by kernel_rfl)
      (OpenSpec.preRow_of_cond 8 hx (by kernel_rfl) (fun k hk => by cases hk) (by kernel_rfl) (laid_met os))) ?_
  intro W base args ds gs before hval hW _ _ hsz hL _ _
  exact contract H enc W base args ds gs before hval hW hsz hL
theorem said : Rows.ValueSetsSaid :=
  OpenClaim.holds_of_cond 4 Try.f4 rfl rfl rfl rfl rfl rfl rfl ⟨rfl, rfl, rfl, rfl, rfl⟩ rfl rfl rfl rfl rfl (by kernel_rfl) Try.func4 (by kernel_rfl)
    (of_decide_eq_true (by kernel_rfl)) (by unfold Func.isWrapper; first | (rw [if_pos (by decide +kernel)]; kernel_rfl) | (rw [if_neg (by decide +kernel)]; exact ⟨rfl, rfl⟩))
    (fun os started H enc _ F => by rw [OpenClaim.pre_eq_preRow]; exact lifted os started H enc F)
theorem proved : Rows.ValueSetsSaid := said

end Go.Proofs.Ytaepmccfiliiiaa.lawValueSets
