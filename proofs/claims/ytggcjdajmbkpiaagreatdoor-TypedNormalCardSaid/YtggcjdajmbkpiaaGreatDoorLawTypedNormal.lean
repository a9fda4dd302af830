/-
  What is normal is of its message, and normal again is the same; it is no deeper, and has no more values: the statement TypedNormal, for every schema, message's number and message.
-/
import Derived.Test.YtggcjdajmbkpiaaGreatDoorTyAwake
import Derived.Test.YtggcjdajmbkpiaaGreatDoorTokMath
import Derived.Test.YtggcjdajmbkpiaaGreatDoorTrOwn
import Derived.Test.YtggcjdajmbkpiaaGreatDoorTrSize
import Derived.Test.YtggcjdajmbkpiaaGreatDoorTyLaid
import Derived.Deep.RegionHeld3
namespace Go.Proofs.YtggcjdajmbkpiaaGreatDoor.T9.lawTypedNormal
set_option maxRecDepth 100000
open Go.ChangeShapes Go.WideShapes Go.ChangeAt Go.RowKit
open Go.Proofs.YtggcjdajmbkpiaaGreatDoor.T4

theorem sat_up {w w' : World} {s : Sc} {vM vE : Value} (h : SAt w.heap.size w s vM vE) (hb : Below w.heap.size w w') : SAt w'.heap.size w' s vM vE := SAt.mono (SAt.lo h hb (Nat.le_refl _)) hb.size
theorem may_parts {s : Sc} {m : Int} {x : Mg} (h : mayT s m x = true) : ScMay s ∧ isB s 64 m x = true := by
  unfold mayT at h
  rw [Bool.and_eq_true] at h
  exact ⟨(@decide_eq_true_iff _ (Classical.propDecidable _)).1 h.1, h.2⟩
theorem may_nor {s : Sc} {m : Int} {x : Mg} (h : mayT s m x = true) : mayT s m (norB s 64 m x) = true ∧ norB s 64 m (norB s 64 m x) = norB s 64 m x ∧ (norB s 64 m x).deep ≤ x.deep ∧ (norB s 64 m x).size ≤ x.size ∧ (norB s 64 m x).cnt ≤ x.cnt ∧ (MIn x → MIn (norB s 64 m x)) := by
  obtain ⟨h1, h2⟩ := may_parts h
  have g := norB_good (may_keys h1) 64
  refine ⟨?_, g.same _ _ h2, g.deep _ _ h2, g.size _ _ h2, g.cnt _ _ h2, g.in_ _ _ h2⟩
  unfold mayT
  rw [Bool.and_eq_true]
  exact ⟨(@decide_eq_true_iff _ (Classical.propDecidable _)).2 h1, g.is _ _ h2⟩
set_option maxRecDepth 1000000 in
set_option maxHeartbeats 8000000 in
theorem walk (w : World) (T : Tabs w) (s : Sc) (vM vE : Value) (hs0 : SAt w.heap.size w s vM vE) (hin : ScIn s) (m : Int) (hm1 : -9223372036854775808 ≤ m) (hm2 : m ≤ 9223372036854775807)
    (x : Mg) (ux : Value) (D : Nat) (hx0 : MAt (Rd w.heap.size w) D x [ux]) (hxi : MIn x) :
    Calls Tryz.prog 4 #[.agg #[vM, vE], .int .i64 m, .agg #[ux]] w fun e w' => e = .returned (.bool true) ∧ Below w.heap.size w w' := by
  obtain ⟨A1, q1, A2, q2, rfl, rfl⟩ := sat_shape hs0
  obtain ⟨Ax, cx, rfl⟩ := rd_shape hx0
  obtain ⟨X1, X2, LBD⟩ := two_boxes w (.cells #[.slice A1 s.M.length q1, .slice A2 s.E.length q2] 25) (.cells #[.slice Ax x.F.length cx] 28)
  have HS := Lib.hid (fun wx (h : Below w.heap.size w wx) => sat_up hs0 h)
  have HG := Lib.hid (fun wx (h : Below w.heap.size w wx) => MRd.mono h.size (MRd.low (Lo.below h (Nat.le_refl _)) hx0))
  have HT := Lib.hid T
  clear hx0 hs0 T hm1 hm2
  go_enter Tryz.func4, Tryz.ntmps4
  go_wp2_with fail
  refine (awake10_any _ (HT.out.on LBD)).mono ?_
  rintro e w1 ⟨rfl, hb1⟩
  have hb01 := below_then LBD hb1
  have Y1 := box_on X1 hb1
  have Y2 := box_on X2 hb1
  clear X1 X2 LBD hb1
  obtain ⟨y1, y2⟩ := box2' Y1
  have y0 := bx1 Y2
  go_wp2_with fail
  refine (few10_any _ D s _ _ x _ w1 (Nat.le_refl _) (HS.out _ hb01) (HG.out _ hb01)).mono ?_
  rintro e w2 ⟨r, rfl, hfit, hb2⟩
  have hb02 := below_then hb01 hb2
  have Y1 := box_on Y1 hb2
  have Y2 := box_on Y2 hb2
  cases r with
  | false =>
    clear y1 y2 y0
    go_wp2
    go_ret
    exact ⟨rfl, hb02⟩
  | true =>
    obtain ⟨hcx, hdx⟩ := hfit (by trivial)
    clear y1 y2 y0 hfit hb2
    obtain ⟨y1, y2⟩ := box2' Y1
    have y0 := bx1 Y2
    have HM := Lib.hid (fun wx (h : Below w.heap.size w wx) => tmay_any hin _ D _ _ m x _ wx (Nat.le_refl _) (HS.out _ h) (HG.out _ h) hxi (by omega) (HT.out.on h))
    have HN := Lib.hid (tnormal_any hin _ D _ _ m x _ w2 (Nat.le_refl _) (HS.out _ hb02) (HG.out _ hb02) hxi (by omega) (HT.out.on hb02))
    obtain ⟨d, hd⟩ : ∃ d, mayT s m x = d := ⟨_, rfl⟩
    rw [hd] at HN HM
    cases d with
    | false =>
      clear hd
      go_wp2_with fail
      refine HN.out.mono ?_
      rintro e w3 ⟨A, n, c, rfl, hnil, -, hb3⟩
      obtain ⟨rfl, rfl, rfl⟩ := hnil (by trivial)
      have N3 := below_new w3 (.cells #[.slice none 0 0] 28)
      have b3 := below_then hb3 N3
      have hb04 := below_then hb02 b3
      obtain ⟨z1, z2⟩ := box2' (box_on Y1 b3)
      have z0 := bx1 (box_on Y2 b3)
      have HM4 := Lib.hid (HM.out _ hb04)
      have T3 := heap_alloc_new w3 (.cells #[.slice none 0 0] 28)
      clear y1 y2 y0
      go_wp2_with fail
      refine HM4.out.mono ?_
      rintro e w5 ⟨rfl, hb5⟩
      have t0 := bx1 (box_on T3 hb5)
      go_wp2
      go_ret
      exact ⟨rfl, below_then hb04 hb5⟩
    | true =>
      obtain ⟨k1, k2, k3, k4, k5, k6⟩ := may_nor hd
      have HD := Lib.hid hd
      clear hd
      obtain ⟨nx, hnx⟩ : ∃ nx, norB s 64 m x = nx := ⟨_, rfl⟩
      rw [hnx] at k1 k2 k3 k4 k5 k6 HN
      go_wp2_with fail
      refine HN.out.mono ?_
      rintro e w3 ⟨A, n, c, rfl, -, hnr, hb3⟩
      have hnr := hnr (by trivial)
      obtain ⟨An, cn, hsh⟩ := rd_shape hnr
      rw [hsh] at hnr
      simp only [Value.slice.injEq] at hsh
      obtain ⟨rfl, rfl, rfl⟩ := hsh
      have N3 := below_new w3 (.cells #[.slice A nx.F.length c] 28)
      have T3 := heap_alloc_new w3 (.cells #[.slice A nx.F.length c] 28)
      have b3 := below_then hb3 N3
      have hb04 := below_then hb02 b3
      have Y1 := box_on Y1 b3
      have Y2 := box_on Y2 b3
      have hn4 := rd_up N3 hnr
      obtain ⟨z1, z2⟩ := box2' Y1
      have HN2 := Lib.hid (tnormal_any hin _ D _ _ m nx _ _ (Nat.le_refl _) (HS.out _ hb04) hn4 (k6 hxi) (by omega) (HT.out.on hb04))
      rw [k1, k2] at HN2
      clear y1 y2 y0 hnr
      go_wp2_with fail
      obtain ⟨W4, hW4⟩ : ∃ W, W = w3.alloc (.cells #[.slice A nx.F.length c] 28) := ⟨_, rfl⟩
      rw [← hW4] at N3 T3 b3 hb04 Y1 Y2 hn4 HN2 ⊢
      clear hW4 z1 z2
      refine HN2.out.mono ?_
      rintro e w5 ⟨A5, n5, c5, rfl, -, hkr, hb5⟩
      have hkr := hkr (by trivial)
      obtain ⟨Ak, ck, hsh⟩ := rd_shape hkr
      rw [hsh] at hkr
      simp only [Value.slice.injEq] at hsh
      obtain ⟨rfl, rfl, rfl⟩ := hsh
      have N5 := below_new w5 (.cells #[.slice A5 nx.F.length c5] 28)
      have T5 := heap_alloc_new w5 (.cells #[.slice A5 nx.F.length c5] 28)
      have b5 := below_then hb5 N5
      have hb06 := below_then hb04 b5
      have Y1 := box_on Y1 b5
      have Y2 := box_on Y2 b5
      have T3 := box_on T3 b5
      have hn6 := rd_up b5 hn4
      have hk6 := rd_up N5 hkr
      obtain ⟨W6, hW6⟩ : ∃ W, W = w5.alloc (.cells #[.slice A5 nx.F.length c5] 28) := ⟨_, rfl⟩
      rw [← hW6] at N5 T5 b5 hb06 Y1 Y2 T3 hn6 hk6
      have hD : Below W6.heap.size W6 W6.drew := (Below.refl _ _).drew
      have HSX : Hid (∀ wx, Below W6.heap.size W6 wx → (wx.cell? ⟨w.heap.size, 0, none⟩ = some (.slice A1 s.M.length q1) ∧ wx.cell? ⟨w.heap.size, 1, none⟩ = some (.slice A2 s.E.length q2)) ∧ wx.cell? ⟨w.heap.size + 1, 0, none⟩ = some (.slice Ax x.F.length cx) ∧ wx.cell? ⟨w3.heap.size, 0, none⟩ = some (.slice A nx.F.length c) ∧ wx.cell? ⟨w5.heap.size, 0, none⟩ = some (.slice A5 nx.F.length c5)) := Lib.hid (fun wx hx => ⟨box2' (box_on Y1 hx), bx1 (box_on Y2 hx), bx1 (box_on T3 hx), bx1 (box_on T5 hx)⟩)
      have HB := Lib.hid (fun wx (hx : Below W6.heap.size W6 wx) => below_then hb06 hx)
      have HNX := Lib.hid (fun wx (hx : Below W6.heap.size W6 wx) => rd_up hx hn6)
      have HKX := Lib.hid (fun wx (hx : Below W6.heap.size W6 wx) => rd_up hx hk6)
      have HI := Lib.hid (fun wx (hx : Below W6.heap.size W6 wx) => tis_any hin _ D _ _ m nx _ wx (Nat.le_refl _) (HS.out _ (HB.out _ hx)) (HNX.out _ hx) (k6 hxi) (by omega) (HT.out.on (HB.out _ hx)))
      rw [k1, k2, eqB_yes rfl] at HI
      have hsx := size_le_cnt x
      have HSA := Lib.hid (fun wx (hx : Below W6.heap.size W6 wx) => rsame_any9 _ D nx nx _ _ wx (Nat.le_refl _) (HKX.out _ hx) (HNX.out _ hx))
      rw [eqB_yes rfl] at HSA
      have HD1 := Lib.hid (fun wx (hx : Below W6.heap.size W6 wx) => deep_any _ D nx _ wx (Nat.le_refl _) (HNX.out _ hx) (by omega))
      have HD2 := Lib.hid (fun wx (hx : Below W6.heap.size W6 wx) => deep_any _ D x _ wx (Nat.le_refl _) (HG.out _ (HB.out _ hx)) (by omega))
      have HZ1 := Lib.hid (fun wx (hx : Below W6.heap.size W6 wx) => size_any _ D nx _ wx (Nat.le_refl _) (HNX.out _ hx) (by omega))
      have HZ2 := Lib.hid (fun wx (hx : Below W6.heap.size W6 wx) => size_any _ D x _ wx (Nat.le_refl _) (HG.out _ (HB.out _ hx)) (by omega))
      have HM6 := Lib.hid (fun wx (hx : Below W6.heap.size W6 wx) => HM.out wx (HB.out _ hx))
      have de1 : decide ((nx.deep : Int) ≤ (x.deep : Int)) = true := decide_eq_true (by omega)
      have de2 : decide (nx.deep ≤ x.deep) = true := decide_eq_true k3
      have de3 : decide ((nx.size : Int) ≤ (x.size : Int)) = true := decide_eq_true (by omega)
      have de4 : decide (nx.size ≤ x.size) = true := decide_eq_true k4
      clear k1 k2 k3 k4 k5 k6 hnx hn4 hkr hn6 hk6 Y1 Y2 T3 T5 b5 hb5 N5 N3 hb06
      go_wp2_with fail
      rw [← hW6]
      clear hW6
      refine wp_region_held_drew (S := (fun wx => (wx.cell? ⟨w.heap.size, 0, none⟩ = some (.slice A1 s.M.length q1) ∧ wx.cell? ⟨w.heap.size, 1, none⟩ = some (.slice A2 s.E.length q2)) ∧ wx.cell? ⟨w.heap.size + 1, 0, none⟩ = some (.slice Ax x.F.length cx) ∧ wx.cell? ⟨w3.heap.size, 0, none⟩ = some (.slice A nx.F.length c) ∧ wx.cell? ⟨w5.heap.size, 0, none⟩ = some (.slice A5 nx.F.length c5))) (by kernel_rfl) (HSX.out _ hD) (fun hHeld => ?_)
      refine wpAnyH_take (i := 0) (oi := { dst := some 51, op := Go.Op.load 25 (Go.Operand.tmp 3), type := 25, pos := "law.go:51", after := #[], guard := none }) (v := ?_) rfl (by kernel_rfl) (by kernel_rfl) (by kernel_rfl) (fun _ _ _ h => h) (Or.inl ⟨by rfl, ?_⟩) hHeld ?_
      rotate_left
      · intro w hSw
        (try dsimp only at hSw)
        go_simp
        all_goals with_reducible rfl
      (try simp only [Act.put, List.setIfInBounds_toArray, List.set_cons_zero, List.set_cons_succ])
      refine wpAnyH_take (i := 1) (oi := { dst := some 52, op := Go.Op.move (Go.Operand.tmp 1), type := 3, pos := "law.go:51", after := #[], guard := none }) (v := ?_) rfl (by kernel_rfl) (by kernel_rfl) (by kernel_rfl) (fun _ _ _ h => h) (Or.inl ⟨by rfl, ?_⟩) hHeld ?_
      rotate_left
      · intro w hSw
        (try dsimp only at hSw)
        go_simp
        all_goals with_reducible rfl
      (try simp only [Act.put, List.setIfInBounds_toArray, List.set_cons_zero, List.set_cons_succ])
      refine wpAnyH_take (i := 2) (oi := { dst := some 53, op := Go.Op.load 28 (Go.Operand.tmp 9), type := 28, pos := "law.go:51", after := #[], guard := none }) (v := ?_) rfl (by kernel_rfl) (by kernel_rfl) (by kernel_rfl) (fun _ _ _ h => h) (Or.inl ⟨by rfl, ?_⟩) hHeld ?_
      rotate_left
      · intro w hSw
        (try dsimp only at hSw)
        go_simp
        all_goals with_reducible rfl
      (try simp only [Act.put, List.setIfInBounds_toArray, List.set_cons_zero, List.set_cons_succ])
      refine wpAnyH_ready (rs := [3]) (by kernel_rfl) (by simp) ?_
      refine AllReadyH.cons (o := { dst := some 54, op := Go.Op.call { callee := Go.Callee.value (Go.Operand.func 23), args := #[Go.Operand.tmp 51, Go.Operand.tmp 52, Go.Operand.tmp 53], argTypes := #[25, 3, 28] }, type := 4, pos := "law.go:51", after := #[{ on := 0, ground := Go.Ground.data }, { on := 1, ground := Go.Ground.data }, { on := 2, ground := Go.Ground.data }], guard := none }) rfl (fun K hK => ?_) AllReadyH.nil
      go_simp
      (go_at_call 23; (with_reducible refine (HI.out _ hD).mono ?_); rintro e v1 ⟨rfl, hv1⟩; have L1 := below_then hD hv1)
      go_wp2_with fail
      refine hK.out _ _ (HSX.out _ L1) (fun hHeld => ?_)
      clear hK K
      (try simp only [Act.put, List.setIfInBounds_toArray, List.set_cons_zero, List.set_cons_succ])
      refine wpAnyH_take (i := 4) (oi := { dst := some 55, op := Go.Op.move (Go.Operand.tmp 54), type := 4, pos := "law.go:51", after := #[{ on := 3, ground := Go.Ground.data }, { on := 3, ground := Go.Ground.chain }], guard := none }) (v := ?_) rfl (by kernel_rfl) (by kernel_rfl) (by kernel_rfl) (fun _ _ _ h => h) (Or.inl ⟨by rfl, ?_⟩) hHeld ?_
      rotate_left
      · intro w hSw
        (try dsimp only at hSw)
        go_simp
        all_goals with_reducible rfl
      (try simp only [Act.put, List.setIfInBounds_toArray, List.set_cons_zero, List.set_cons_succ])
      refine wpAnyH_take (i := 5) (oi := { dst := some 56, op := Go.Op.move (Go.Operand.tmp 12), type := 4, pos := "law.go:51", after := #[{ on := 4, ground := Go.Ground.guard }], guard := some (4, true) }) (v := ?_) rfl (by kernel_rfl) (by kernel_rfl) (by kernel_rfl) (fun _ _ _ h => h) (Or.inl ⟨by rfl, ?_⟩) hHeld ?_
      rotate_left
      · intro w hSw
        (try dsimp only at hSw)
        go_simp
        all_goals with_reducible rfl
      (try simp only [Act.put, List.setIfInBounds_toArray, List.set_cons_zero, List.set_cons_succ])
      refine wpAnyH_take (i := 6) (oi := { dst := some 57, op := Go.Op.pick (Go.Operand.tmp 55) (Go.Operand.tmp 56) (Go.Operand.const (Go.Value.bool false)), type := 4, pos := "law.go:51", after := #[{ on := 4, ground := Go.Ground.data }, { on := 5, ground := Go.Ground.data }], guard := none }) (v := ?_) rfl (by kernel_rfl) (by kernel_rfl) (by kernel_rfl) (fun _ _ _ h => h) (Or.inl ⟨by rfl, ?_⟩) hHeld ?_
      rotate_left
      · intro w hSw
        (try dsimp only at hSw)
        go_simp
        all_goals with_reducible rfl
      (try simp only [Act.put, List.setIfInBounds_toArray, List.set_cons_zero, List.set_cons_succ])
      refine wpAnyH_take (i := 7) (oi := { dst := some 58, op := Go.Op.move (Go.Operand.tmp 57), type := 4, pos := "law.go:51", after := #[{ on := 6, ground := Go.Ground.data }, { on := 4, ground := Go.Ground.chain }], guard := none }) (v := ?_) rfl (by kernel_rfl) (by kernel_rfl) (by kernel_rfl) (fun _ _ _ h => h) (Or.inl ⟨by rfl, ?_⟩) hHeld ?_
      rotate_left
      · intro w hSw
        (try dsimp only at hSw)
        go_simp
        all_goals with_reducible rfl
      (try simp only [Act.put, List.setIfInBounds_toArray, List.set_cons_zero, List.set_cons_succ])
      refine wpAnyH_take (i := 8) (oi := { dst := some 59, op := Go.Op.load 28 (Go.Operand.tmp 11), type := 28, pos := "law.go:51", after := #[{ on := 7, ground := Go.Ground.guard }], guard := some (7, true) }) (v := ?_) rfl (by kernel_rfl) (by kernel_rfl) (by kernel_rfl) (fun _ _ _ h => h) (Or.inl ⟨by rfl, ?_⟩) hHeld ?_
      rotate_left
      · intro w hSw
        (try dsimp only at hSw)
        go_simp
        all_goals with_reducible rfl
      (try simp only [Act.put, List.setIfInBounds_toArray, List.set_cons_zero, List.set_cons_succ])
      refine wpAnyH_take (i := 9) (oi := { dst := some 60, op := Go.Op.load 28 (Go.Operand.tmp 9), type := 28, pos := "law.go:51", after := #[{ on := 7, ground := Go.Ground.guard }], guard := some (7, true) }) (v := ?_) rfl (by kernel_rfl) (by kernel_rfl) (by kernel_rfl) (fun _ _ _ h => h) (Or.inl ⟨by rfl, ?_⟩) hHeld ?_
      rotate_left
      · intro w hSw
        (try dsimp only at hSw)
        go_simp
        all_goals with_reducible rfl
      (try simp only [Act.put, List.setIfInBounds_toArray, List.set_cons_zero, List.set_cons_succ])
      refine wpAnyH_ready (rs := [10]) (by kernel_rfl) (by simp) ?_
      refine AllReadyH.cons (o := { dst := some 61, op := Go.Op.call { callee := Go.Callee.value (Go.Operand.func 20), args := #[Go.Operand.tmp 59, Go.Operand.tmp 60], argTypes := #[28, 28] }, type := 4, pos := "law.go:51", after := #[{ on := 8, ground := Go.Ground.data }, { on := 9, ground := Go.Ground.data }, { on := 7, ground := Go.Ground.chain }, { on := 7, ground := Go.Ground.guard }], guard := some (7, true) }) rfl (fun K hK => ?_) AllReadyH.nil
      go_simp
      (go_at_call 20; (with_reducible refine (HSA.out _ L1).mono ?_); rintro e v2 ⟨rfl, hv2⟩; have L2 := below_then L1 hv2)
      go_wp2_with fail
      refine hK.out _ _ (HSX.out _ L2) (fun hHeld => ?_)
      clear hK K
      (try simp only [Act.put, List.setIfInBounds_toArray, List.set_cons_zero, List.set_cons_succ])
      refine wpAnyH_take (i := 11) (oi := { dst := some 62, op := Go.Op.pick (Go.Operand.tmp 58) (Go.Operand.tmp 61) (Go.Operand.const (Go.Value.bool false)), type := 4, pos := "law.go:51", after := #[{ on := 7, ground := Go.Ground.data }, { on := 10, ground := Go.Ground.data }], guard := none }) (v := ?_) rfl (by kernel_rfl) (by kernel_rfl) (by kernel_rfl) (fun _ _ _ h => h) (Or.inl ⟨by rfl, ?_⟩) hHeld ?_
      rotate_left
      · intro w hSw
        (try dsimp only at hSw)
        go_simp
        all_goals with_reducible rfl
      (try simp only [Act.put, List.setIfInBounds_toArray, List.set_cons_zero, List.set_cons_succ])
      refine wpAnyH_take (i := 12) (oi := { dst := some 63, op := Go.Op.move (Go.Operand.tmp 62), type := 4, pos := "law.go:51", after := #[{ on := 11, ground := Go.Ground.data }, { on := 10, ground := Go.Ground.chain }], guard := none }) (v := ?_) rfl (by kernel_rfl) (by kernel_rfl) (by kernel_rfl) (fun _ _ _ h => h) (Or.inl ⟨by rfl, ?_⟩) hHeld ?_
      rotate_left
      · intro w hSw
        (try dsimp only at hSw)
        go_simp
        all_goals with_reducible rfl
      (try simp only [Act.put, List.setIfInBounds_toArray, List.set_cons_zero, List.set_cons_succ])
      refine wpAnyH_take (i := 13) (oi := { dst := some 64, op := Go.Op.load 28 (Go.Operand.tmp 9), type := 28, pos := "law.go:51", after := #[{ on := 12, ground := Go.Ground.guard }], guard := some (12, true) }) (v := ?_) rfl (by kernel_rfl) (by kernel_rfl) (by kernel_rfl) (fun _ _ _ h => h) (Or.inl ⟨by rfl, ?_⟩) hHeld ?_
      rotate_left
      · intro w hSw
        (try dsimp only at hSw)
        go_simp
        all_goals with_reducible rfl
      (try simp only [Act.put, List.setIfInBounds_toArray, List.set_cons_zero, List.set_cons_succ])
      refine wpAnyH_take (i := 15) (oi := { dst := some 66, op := Go.Op.load 28 (Go.Operand.tmp 5), type := 28, pos := "law.go:51", after := #[{ on := 12, ground := Go.Ground.guard }], guard := some (12, true) }) (v := ?_) rfl (by kernel_rfl) (by kernel_rfl) (by kernel_rfl) (fun _ _ _ h => h) (Or.inl ⟨by rfl, ?_⟩) hHeld ?_
      rotate_left
      · intro w hSw
        (try dsimp only at hSw)
        go_simp
        all_goals with_reducible rfl
      (try simp only [Act.put, List.setIfInBounds_toArray, List.set_cons_zero, List.set_cons_succ])
      refine wpAnyH_ready (rs := [14]) (by kernel_rfl) (by simp) ?_
      refine AllReadyH.cons (o := { dst := some 65, op := Go.Op.call { callee := Go.Callee.value (Go.Operand.func 27), args := #[Go.Operand.tmp 64], argTypes := #[28] }, type := 3, pos := "law.go:51", after := #[{ on := 13, ground := Go.Ground.data }, { on := 12, ground := Go.Ground.chain }, { on := 12, ground := Go.Ground.guard }], guard := some (12, true) }) rfl (fun K hK => ?_) AllReadyH.nil
      go_simp
      (go_at_call 27; (with_reducible refine (HD1.out _ L2).mono ?_); rintro e v3 ⟨rfl, hv3⟩; have L3 := below_then L2 hv3)
      go_wp2_with fail
      refine hK.out _ _ (HSX.out _ L3) (fun hHeld => ?_)
      clear hK K
      (try simp only [Act.put, List.setIfInBounds_toArray, List.set_cons_zero, List.set_cons_succ])
      refine wpAnyH_ready (rs := [16]) (by kernel_rfl) (by simp) ?_
      refine AllReadyH.cons (o := { dst := some 67, op := Go.Op.call { callee := Go.Callee.value (Go.Operand.func 27), args := #[Go.Operand.tmp 66], argTypes := #[28] }, type := 3, pos := "law.go:51", after := #[{ on := 15, ground := Go.Ground.data }, { on := 14, ground := Go.Ground.chain }, { on := 12, ground := Go.Ground.guard }], guard := some (12, true) }) rfl (fun K hK => ?_) AllReadyH.nil
      go_simp
      (go_at_call 27; (with_reducible refine (HD2.out _ L3).mono ?_); rintro e v4 ⟨rfl, hv4⟩; have L4 := below_then L3 hv4)
      go_wp2_with fail
      refine hK.out _ _ (HSX.out _ L4) (fun hHeld => ?_)
      clear hK K
      (try simp only [Act.put, List.setIfInBounds_toArray, List.set_cons_zero, List.set_cons_succ])
      refine wpAnyH_take (i := 17) (oi := { dst := some 68, op := Go.Op.binOp Go.BinOp.leq 3 (Go.Operand.tmp 65) (Go.Operand.tmp 67) 3, type := 4, pos := "law.go:51", after := #[{ on := 14, ground := Go.Ground.data }, { on := 16, ground := Go.Ground.data }, { on := 12, ground := Go.Ground.guard }], guard := some (12, true) }) (v := ?_) rfl (by kernel_rfl) (by kernel_rfl) (by kernel_rfl) (fun _ _ _ h => h) (Or.inl ⟨by rfl, ?_⟩) hHeld ?_
      rotate_left
      · intro w hSw
        (try dsimp only at hSw)
        go_simp
        all_goals with_reducible rfl
      (try simp only [Act.put, List.setIfInBounds_toArray, List.set_cons_zero, List.set_cons_succ])
      refine wpAnyH_take (i := 18) (oi := { dst := some 69, op := Go.Op.pick (Go.Operand.tmp 63) (Go.Operand.tmp 68) (Go.Operand.const (Go.Value.bool false)), type := 4, pos := "law.go:51", after := #[{ on := 12, ground := Go.Ground.data }, { on := 17, ground := Go.Ground.data }], guard := none }) (v := ?_) rfl (by kernel_rfl) (by kernel_rfl) (by kernel_rfl) (fun _ _ _ h => h) (Or.inl ⟨by rfl, ?_⟩) hHeld ?_
      rotate_left
      · intro w hSw
        (try dsimp only at hSw)
        go_simp
        all_goals with_reducible rfl
      (try simp only [Act.put, List.setIfInBounds_toArray, List.set_cons_zero, List.set_cons_succ])
      refine wpAnyH_take (i := 19) (oi := { dst := some 70, op := Go.Op.move (Go.Operand.tmp 69), type := 4, pos := "law.go:51", after := #[{ on := 18, ground := Go.Ground.data }, { on := 16, ground := Go.Ground.chain }], guard := none }) (v := ?_) rfl (by kernel_rfl) (by kernel_rfl) (by kernel_rfl) (fun _ _ _ h => h) (Or.inl ⟨by rfl, ?_⟩) hHeld ?_
      rotate_left
      · intro w hSw
        (try dsimp only at hSw)
        go_simp
        all_goals with_reducible rfl
      (try simp only [Act.put, List.setIfInBounds_toArray, List.set_cons_zero, List.set_cons_succ])
      refine wpAnyH_take (i := 20) (oi := { dst := some 71, op := Go.Op.load 28 (Go.Operand.tmp 9), type := 28, pos := "law.go:51", after := #[{ on := 19, ground := Go.Ground.guard }], guard := some (19, true) }) (v := ?_) rfl (by kernel_rfl) (by kernel_rfl) (by kernel_rfl) (fun _ _ _ h => h) (Or.inl ⟨by rfl, ?_⟩) hHeld ?_
      rotate_left
      · intro w hSw
        (try dsimp only at hSw)
        go_simp
        all_goals with_reducible rfl
      (try simp only [Act.put, List.setIfInBounds_toArray, List.set_cons_zero, List.set_cons_succ])
      refine wpAnyH_take (i := 22) (oi := { dst := some 73, op := Go.Op.load 28 (Go.Operand.tmp 5), type := 28, pos := "law.go:51", after := #[{ on := 19, ground := Go.Ground.guard }], guard := some (19, true) }) (v := ?_) rfl (by kernel_rfl) (by kernel_rfl) (by kernel_rfl) (fun _ _ _ h => h) (Or.inl ⟨by rfl, ?_⟩) hHeld ?_
      rotate_left
      · intro w hSw
        (try dsimp only at hSw)
        go_simp
        all_goals with_reducible rfl
      (try simp only [Act.put, List.setIfInBounds_toArray, List.set_cons_zero, List.set_cons_succ])
      refine wpAnyH_ready (rs := [21]) (by kernel_rfl) (by simp) ?_
      refine AllReadyH.cons (o := { dst := some 72, op := Go.Op.call { callee := Go.Callee.value (Go.Operand.func 28), args := #[Go.Operand.tmp 71], argTypes := #[28] }, type := 3, pos := "law.go:51", after := #[{ on := 20, ground := Go.Ground.data }, { on := 19, ground := Go.Ground.chain }, { on := 19, ground := Go.Ground.guard }], guard := some (19, true) }) rfl (fun K hK => ?_) AllReadyH.nil
      go_simp
      (go_at_call 28; (with_reducible refine (HZ1.out _ L4).mono ?_); rintro e v5 ⟨rfl, hv5⟩; have L5 := below_then L4 hv5)
      go_wp2_with fail
      refine hK.out _ _ (HSX.out _ L5) (fun hHeld => ?_)
      clear hK K
      (try simp only [Act.put, List.setIfInBounds_toArray, List.set_cons_zero, List.set_cons_succ])
      refine wpAnyH_ready (rs := [23]) (by kernel_rfl) (by simp) ?_
      refine AllReadyH.cons (o := { dst := some 74, op := Go.Op.call { callee := Go.Callee.value (Go.Operand.func 28), args := #[Go.Operand.tmp 73], argTypes := #[28] }, type := 3, pos := "law.go:51", after := #[{ on := 22, ground := Go.Ground.data }, { on := 21, ground := Go.Ground.chain }, { on := 19, ground := Go.Ground.guard }], guard := some (19, true) }) rfl (fun K hK => ?_) AllReadyH.nil
      go_simp
      (go_at_call 28; (with_reducible refine (HZ2.out _ L5).mono ?_); rintro e v6 ⟨rfl, hv6⟩; have L6 := below_then L5 hv6)
      go_wp2_with fail
      refine hK.out _ _ (HSX.out _ L6) (fun hHeld => ?_)
      clear hK K
      (try simp only [Act.put, List.setIfInBounds_toArray, List.set_cons_zero, List.set_cons_succ])
      refine wpAnyH_take (i := 24) (oi := { dst := some 75, op := Go.Op.binOp Go.BinOp.leq 3 (Go.Operand.tmp 72) (Go.Operand.tmp 74) 3, type := 4, pos := "law.go:51", after := #[{ on := 21, ground := Go.Ground.data }, { on := 23, ground := Go.Ground.data }, { on := 19, ground := Go.Ground.guard }], guard := some (19, true) }) (v := ?_) rfl (by kernel_rfl) (by kernel_rfl) (by kernel_rfl) (fun _ _ _ h => h) (Or.inl ⟨by rfl, ?_⟩) hHeld ?_
      rotate_left
      · intro w hSw
        (try dsimp only at hSw)
        go_simp
        all_goals with_reducible rfl
      (try simp only [Act.put, List.setIfInBounds_toArray, List.set_cons_zero, List.set_cons_succ])
      refine wpAnyH_take (i := 25) (oi := { dst := some 76, op := Go.Op.pick (Go.Operand.tmp 70) (Go.Operand.tmp 75) (Go.Operand.const (Go.Value.bool false)), type := 4, pos := "law.go:51", after := #[{ on := 19, ground := Go.Ground.data }, { on := 24, ground := Go.Ground.data }], guard := none }) (v := ?_) rfl (by kernel_rfl) (by kernel_rfl) (by kernel_rfl) (fun _ _ _ h => h) (Or.inl ⟨by rfl, ?_⟩) hHeld ?_
      rotate_left
      · intro w hSw
        (try dsimp only at hSw)
        go_simp
        all_goals with_reducible rfl
      (try simp only [Act.put, List.setIfInBounds_toArray, List.set_cons_zero, List.set_cons_succ])
      refine wpAnyH_take (i := 26) (oi := { dst := some 77, op := Go.Op.move (Go.Operand.tmp 76), type := 4, pos := "law.go:51", after := #[{ on := 25, ground := Go.Ground.data }, { on := 23, ground := Go.Ground.chain }], guard := none }) (v := ?_) rfl (by kernel_rfl) (by kernel_rfl) (by kernel_rfl) (fun _ _ _ h => h) (Or.inl ⟨by rfl, ?_⟩) hHeld ?_
      rotate_left
      · intro w hSw
        (try dsimp only at hSw)
        go_simp
        all_goals with_reducible rfl
      (try simp only [Act.put, List.setIfInBounds_toArray, List.set_cons_zero, List.set_cons_succ])
      refine wpAnyH_take (i := 27) (oi := { dst := some 78, op := Go.Op.load 25 (Go.Operand.tmp 3), type := 25, pos := "law.go:51", after := #[{ on := 26, ground := Go.Ground.guard }], guard := some (26, true) }) (v := ?_) rfl (by kernel_rfl) (by kernel_rfl) (by kernel_rfl) (fun _ _ _ h => h) (Or.inl ⟨by rfl, ?_⟩) hHeld ?_
      rotate_left
      · intro w hSw
        (try dsimp only at hSw)
        go_simp
        all_goals with_reducible rfl
      (try simp only [Act.put, List.setIfInBounds_toArray, List.set_cons_zero, List.set_cons_succ])
      refine wpAnyH_take (i := 28) (oi := { dst := some 79, op := Go.Op.move (Go.Operand.tmp 1), type := 3, pos := "law.go:51", after := #[{ on := 26, ground := Go.Ground.guard }], guard := some (26, true) }) (v := ?_) rfl (by kernel_rfl) (by kernel_rfl) (by kernel_rfl) (fun _ _ _ h => h) (Or.inl ⟨by rfl, ?_⟩) hHeld ?_
      rotate_left
      · intro w hSw
        (try dsimp only at hSw)
        go_simp
        all_goals with_reducible rfl
      (try simp only [Act.put, List.setIfInBounds_toArray, List.set_cons_zero, List.set_cons_succ])
      refine wpAnyH_take (i := 29) (oi := { dst := some 80, op := Go.Op.load 28 (Go.Operand.tmp 5), type := 28, pos := "law.go:51", after := #[{ on := 26, ground := Go.Ground.guard }], guard := some (26, true) }) (v := ?_) rfl (by kernel_rfl) (by kernel_rfl) (by kernel_rfl) (fun _ _ _ h => h) (Or.inl ⟨by rfl, ?_⟩) hHeld ?_
      rotate_left
      · intro w hSw
        (try dsimp only at hSw)
        go_simp
        all_goals with_reducible rfl
      (try simp only [Act.put, List.setIfInBounds_toArray, List.set_cons_zero, List.set_cons_succ])
      refine wpAnyH_ready (rs := [30]) (by kernel_rfl) (by simp) ?_
      refine AllReadyH.cons (o := { dst := some 81, op := Go.Op.call { callee := Go.Callee.value (Go.Operand.func 21), args := #[Go.Operand.tmp 78, Go.Operand.tmp 79, Go.Operand.tmp 80], argTypes := #[25, 3, 28] }, type := 4, pos := "law.go:51", after := #[{ on := 27, ground := Go.Ground.data }, { on := 28, ground := Go.Ground.data }, { on := 29, ground := Go.Ground.data }, { on := 26, ground := Go.Ground.chain }, { on := 26, ground := Go.Ground.guard }], guard := some (26, true) }) rfl (fun K hK => ?_) AllReadyH.nil
      go_simp
      (go_at_call 21; (with_reducible refine (HM6.out _ L6).mono ?_); rintro e v7 ⟨rfl, hv7⟩; have L7 := below_then L6 hv7)
      go_wp2_with fail
      refine hK.out _ _ (HSX.out _ L7) (fun hHeld => ?_)
      clear hK K
      (try simp only [Act.put, List.setIfInBounds_toArray, List.set_cons_zero, List.set_cons_succ])
      refine wpAnyH_take (i := 31) (oi := { dst := some 82, op := Go.Op.pick (Go.Operand.tmp 77) (Go.Operand.tmp 81) (Go.Operand.const (Go.Value.bool false)), type := 4, pos := "law.go:51", after := #[{ on := 26, ground := Go.Ground.data }, { on := 30, ground := Go.Ground.data }], guard := none }) (v := ?_) rfl (by kernel_rfl) (by kernel_rfl) (by kernel_rfl) (fun _ _ _ h => h) (Or.inl ⟨by rfl, ?_⟩) hHeld ?_
      rotate_left
      · intro w hSw
        (try dsimp only at hSw)
        go_simp
        all_goals with_reducible rfl
      (try simp only [Act.put, List.setIfInBounds_toArray, List.set_cons_zero, List.set_cons_succ])
      refine wpAnyH_take (i := 32) (oi := { dst := some 6, op := Go.Op.assign (Go.Operand.tmp 82), type := 4, pos := "law.go:51", after := #[{ on := 31, ground := Go.Ground.data }, { on := 30, ground := Go.Ground.chain }, { on := 0, ground := Go.Ground.phase }, { on := 1, ground := Go.Ground.phase }, { on := 2, ground := Go.Ground.phase }, { on := 3, ground := Go.Ground.phase }, { on := 4, ground := Go.Ground.phase }, { on := 5, ground := Go.Ground.phase }, { on := 6, ground := Go.Ground.phase }, { on := 7, ground := Go.Ground.phase }, { on := 8, ground := Go.Ground.phase }, { on := 9, ground := Go.Ground.phase }, { on := 10, ground := Go.Ground.phase }, { on := 11, ground := Go.Ground.phase }, { on := 12, ground := Go.Ground.phase }, { on := 13, ground := Go.Ground.phase }, { on := 14, ground := Go.Ground.phase }, { on := 15, ground := Go.Ground.phase }, { on := 16, ground := Go.Ground.phase }, { on := 17, ground := Go.Ground.phase }, { on := 18, ground := Go.Ground.phase }, { on := 19, ground := Go.Ground.phase }, { on := 20, ground := Go.Ground.phase }, { on := 21, ground := Go.Ground.phase }, { on := 22, ground := Go.Ground.phase }, { on := 23, ground := Go.Ground.phase }, { on := 24, ground := Go.Ground.phase }, { on := 25, ground := Go.Ground.phase }, { on := 26, ground := Go.Ground.phase }, { on := 27, ground := Go.Ground.phase }, { on := 28, ground := Go.Ground.phase }, { on := 29, ground := Go.Ground.phase }, { on := 30, ground := Go.Ground.phase }, { on := 31, ground := Go.Ground.phase }], guard := none }) (v := ?_) rfl (by kernel_rfl) (by kernel_rfl) (by kernel_rfl) (fun _ _ _ h => h) (Or.inl ⟨by rfl, ?_⟩) hHeld ?_
      rotate_left
      · intro w hSw
        (try dsimp only at hSw)
        go_simp
        all_goals with_reducible rfl
      (try simp only [Act.put, List.setIfInBounds_toArray, List.set_cons_zero, List.set_cons_succ])
      refine wpAnyH_done (by kernel_rfl) ?_ _
      go_wp2
      go_ret
      exact ⟨rfl, HB.out _ L7⟩
theorem contract (H : Type) (enc : TypeId × Value → H) (W : World) (base : Nat) (args : Array Value) (ds gs : List (DataW H)) (before : List MemPlace)
    (hval0 : ∀ (j : Nat) t v, Tryz.f4.params[j]? = some t → args[j]? = some v → Value.okWide Tryz.prog W .any base t v)
    (hW : DataW.Whole enc Tryz.prog Tryz.f4.params.toList Rows.typedNormalSpec.vars false W args.toList ds gs before) (hsz : (DataW.weightsEach Tryz.prog (Tryz.f4.params.toList ++ (OpenSpec.ofChange Rows.typedNormalSpec).bare.plain.varTypes Tryz.prog) (ds ++ gs)).all (· ≤ reachBytes) = true) (hL : laidMetH Tryz.prog Rows.typedNormalRow.laid W) :
    Calls Tryz.prog 4 args W fun e W2 => ∃ v, e = .returned v ∧ Rows.typedNormalSpec.post enc Tryz.prog Tryz.f4 false true false false W args v W2 := by
  have hval : ∀ (j : Nat) t v, Tryz.f4.params[j]? = some t → args[j]? = some v → Value.okWide Tryz.prog W .any base t v := hval0
  have T := laid10 hL
  have hW2 := hW
  obtain ⟨p, q, hA0, hV, rfl, hfz, hnd⟩ := hW
  have hA : DataW.TrodAll enc Tryz.prog W 0 (fun _ => true) true Tryz.f4.params.toList args.toList ds p := hA0
  rw [Tryz.params4] at hA hval
  obtain ⟨v0, vs0, d0, ds0, p0, q0, hargs, rfl, rfl, h0, r0⟩ := trodAll_cons hA
  obtain ⟨v1, vs1, d1, ds1, p1, q1, rfl, rfl, rfl, h1, r1⟩ := trodAll_cons r0
  obtain ⟨v2, vs2, d2, ds2, p2, q2, rfl, rfl, rfl, h2, r2⟩ := trodAll_cons r1
  obtain ⟨rfl, rfl, rfl⟩ := trodAll_nil r2
  obtain rfl : args = #[v0, v1, v2] := by cases args; simp_all
  obtain ⟨rfl, rfl⟩ := trodVars_none hV
  obtain ⟨sc0, vM0, vE0, rfl, fa0, fi0⟩ := open_schema (hval 0 25 v0 rfl rfl) h0
  obtain ⟨i1, rfl, b1, c1⟩ := open_i64 (hval 1 3 v1 rfl rfl) h1
  obtain ⟨mg2, u2, k2, rfl, hm2, hi2⟩ := open_msgI (hval 2 28 v2 rfl rfl) h2 (szd_each (fun k hk => of_decide_eq_true (List.all_eq_true.1 hsz k hk)) 2 _ _ rfl rfl)
  refine (walk W T sc0 vM0 vE0 fa0 fi0 i1 b1 c1 mg2 u2 k2 hm2 hi2).mono fun e W2 ⟨he, hb⟩ => ?_
  subst he
  exact ⟨_, rfl, law_post (by kernel_rfl) rfl rfl (by decide +kernel) hW2 hb⟩
theorem laid_met (os : Os) : laidMetH Tryz.prog Rows.typedNormalRow.laid ((World.laidAll Tryz.prog os Rows.typedNormalRow.laid).forCall (fun _ _ => 0) ⟨#[], #[.agg #[.slice none 0 0, .slice none 0 0], .int .i64 0, .agg #[.slice none 0 0]], []⟩).memory := by
  rw [MakeChecks.laidMetH_plain _ _ _ (by kernel_rfl)]
  exact laidMet_laidAll _ (by kernel_rfl) (by kernel_rfl)
theorem reads (os : Os) {H : Type} (enc : TypeId × Value → H) : ∃ places, DataW.whole enc Tryz.prog ((World.laidAll Tryz.prog os Rows.typedNormalRow.laid).forCall (fun _ _ => 0) ⟨#[], #[.agg #[.slice none 0 0, .slice none 0 0], .int .i64 0, .agg #[.slice none 0 0]], []⟩).memory Tryz.f4.params.toList Rows.typedNormalSpec.vars false (#[.agg #[.slice none 0 0, .slice none 0 0], .int .i64 0, .agg #[.slice none 0 0]] : Array Value).toList 8 = some ([.agg [.nil, .nil], .lit (.int .i64 0), .agg [.nil]], [], places) := ⟨[], by kernel_rfl⟩
set_option maxRecDepth 100000 in
theorem lifted (os : Os) (started : os.Started) (H : Type) (enc : TypeId × Value → H) (F : Stop.Interp) :
    ReturnsInHanded {} Tryz.checked os 4 .any ((OpenSpec.ofChange Rows.typedNormalSpec).preRow enc Tryz.prog Tryz.f4 Rows.typedNormalRow.domain false Rows.typedNormalRow.laid) (((OpenSpec.ofChange Rows.typedNormalSpec).at F).post enc Tryz.prog Tryz.f4 false true false false) := by
  obtain ⟨places, hx⟩ := reads os enc
  refine returnsInHanded_of_row (C := Tryz.checked) (s := OpenSpec.ofChange Rows.typedNormalSpec) own started (by kernel_rfl) Tryz.func4
    (witness_row_at (enc := enc) (C := Tryz.checked) false (World.laidAll Tryz.prog os Rows.typedNormalRow.laid) #[.agg #[.slice none 0 0, .slice none 0 0], .int .i64 0, .agg #[.slice none 0 0]] (World.laidAll_os _ _ _) (by kernel_rfl) (by kernel_rfl) (by kernel_rfl)
      (OpenSpec.preRow_of_cond 8 hx (by kernel_rfl) (fun k hk => by cases hk) (by kernel_rfl) (laid_met os))) ?_
  intro W base args ds gs before hval hW _ _ hsz hL _ _
  exact contract H enc W base args ds gs before hval hW hsz hL
theorem said : Rows.TypedNormalSaid :=
  OpenClaim.holds_of_cond 4 Tryz.f4 rfl rfl rfl rfl rfl rfl rfl ⟨rfl, rfl, rfl, rfl, rfl⟩ rfl rfl rfl rfl rfl (by kernel_rfl) Tryz.func4 (by kernel_rfl)
    (of_decide_eq_true (by kernel_rfl)) (by unfold Func.isWrapper; first | (rw [if_pos (by decide +kernel)]; kernel_rfl) | (rw [if_neg (by decide +kernel)]; exact ⟨rfl, rfl⟩))
    (fun os started H enc _ F => by rw [OpenClaim.pre_eq_preRow]; exact lifted os started H enc F)
theorem plain (f : FuncId) (fn : Func) (hf : Tryz.pinned.checked.prog.funcNamed "truffle/trufflelaw10.TypedNormal" = some f) (hfn : Tryz.pinned.checked.prog.funcs[f]? = some fn) :
    true = Tryz.pinned.checked.prog.looks [] ∧ ∀ (j : Nat) t, fn.params[j]? = some t → Tryz.pinned.checked.prog.wantsStandIn t = false := by
  obtain rfl : f = 4 := Option.some.inj ((show Tryz.prog.funcNamed "truffle/trufflelaw10.TypedNormal" = some 4 by kernel_rfl).symm.trans hf) |>.symm
  obtain rfl : fn = Tryz.f4 := (Option.some.inj (Tryz.func4.symm.trans hfn)).symm
  refine ⟨by kernel_rfl, fun j t ht => ?_⟩
  have hall : (Tryz.f4.params.toList.all fun t => !Tryz.prog.wantsStandIn t) = true := by kernel_rfl
  have := List.all_eq_true.1 hall t (Array.mem_toList_iff.2 (Array.mem_of_getElem? ht))
  exact (show Tryz.prog.wantsStandIn t = false by simpa using this)
theorem proved : Rows.TypedNormalCardSaid :=
  Claim7.holds_tied_plain_at .later [] _ _ _ _ said (fun _ h => by cases h) (by kernel_rfl) (fun _ h => by cases h) typedNormal_row_tie rfl ⟨rfl, rfl⟩ (by kernel_rfl) rfl plain (by kernel_rfl)
end Go.Proofs.YtggcjdajmbkpiaaGreatDoor.T9.lawTypedNormal
