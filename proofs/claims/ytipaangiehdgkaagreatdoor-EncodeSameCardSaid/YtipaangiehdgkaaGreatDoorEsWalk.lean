/-
  Messages that are normal as the same have the same bytes; others of one message have others: the walk.
-/
import Derived.Test.YtipaangiehdgkaaGreatDoorEncCat
import Derived.Test.YtipaangiehdgkaaGreatDoorEvWalk
import Derived.Test.YtipaangiehdgkaaGreatDoorTabFacts
import Derived.Test.YtipaangiehdgkaaGreatDoorTabFew
import Derived.Deep.RegionHeld3
namespace Go.Proofs.YtipaangiehdgkaaGreatDoor.T12.lawEncodeSame
set_option maxRecDepth 100000

open Go.ChangeShapes Go.WideShapes Go.ChangeAt Go.RowKit

open Go.Proofs.YtipaangiehdgkaaGreatDoor.T9 Go.Proofs.YtipaangiehdgkaaGreatDoor.T4

theorem sat_up {w w' : World} {s : Sc} {vM vE : Value} (h : SAt w.heap.size w s vM vE) (hb : Below w.heap.size w w') : SAt w'.heap.size w' s vM vE := SAt.mono (SAt.lo h hb (Nat.le_refl _)) hb.size
theorem encode_any {s : Sc} (hin : ScIn s) (B D : Nat) (vM vE : Value) (m : Int) (x : Mg) (u : Value) (w : World) (hB : B ≤ w.heap.size) (hs : SAt B w s vM vE) (hx : MRd B w D x u) (hi : MIn x) (hc : x.cnt ≤ 100000) (hwt : 40 * x.cnt + Mg.txt x ≤ 35184372088832) (T : Tabs w) (TW : Wires w) :
    Calls Tryz.prog 12 #[.agg #[vM, vE], .int .i64 m, .agg #[u]] w fun e w' => ∃ A n c ec, e = .returned (.tuple #[.slice A n c, .int .i64 ec]) ∧ (mayT s m x = true → ec = 0 ∧ n = (encB s 64 m (norB s 64 m x)).length ∧ SlB w' A c (encB s 64 m (norB s 64 m x))) ∧ Below w.heap.size w w' := by
  cases hm : mayT s m x with
  | true =>
    refine (encode_yes hin B D vM vE m x u w hB hs hx hi hc hwt T TW hm).mono ?_
    rintro e w' ⟨v, rfl, ⟨A, c, rfl, hr, -⟩, hb⟩
    exact ⟨A, _, c, 0, rfl, fun _ => ⟨rfl, rfl, hr⟩, hb⟩
  | false =>
    refine (encode_no hin B D vM vE m x u w hB hs hx hi hc T hm).mono ?_
    rintro e w' ⟨rfl, hb⟩
    exact ⟨none, 0, 0, 1, rfl, (fun h => by cases h), hb⟩
theorem same_bytes {s : Sc} {m : Int} {x y : Mg} (hx : mayT s m x = true) (hy : mayT s m y = true) (ix : MIn x) (iy : MIn y) (wx : 40 * x.cnt + Mg.txt x ≤ 35184372088832) (wy : 40 * y.cnt + Mg.txt y ≤ 35184372088832) :
    decide (encB s 64 m (norB s 64 m x) = encB s 64 m (norB s 64 m y)) = eqB (norB s 64 m x) (norB s 64 m y) := by
  obtain ⟨hsm, gx⟩ := mayT_split hx
  obtain ⟨-, gy⟩ := mayT_split hy
  have g := norB_good (may_keys hsm) 64
  have few : ∀ {z : Mg}, isB s 64 m z = true → 40 * z.cnt + Mg.txt z ≤ 35184372088832 → 40 * (norB s 64 m z).cnt + Mg.txt (norB s 64 m z) ≤ 35184372088832 := fun {z} h1 h2 => by
    have a := g.cnt m z h1
    have b := nor_txt s 64 m z h1
    omega
  by_cases e : norB s 64 m x = norB s 64 m y
  · rw [e, decide_eq_true rfl, eqB_yes rfl]
  · rw [eqB_no e, decide_eq_false fun h => e (enc_inj hsm 64 m _ _ (g.is m x gx) (g.is m y gy) (g.same m x gx) (g.same m y gy) (g.in_ m x gx ix) (g.in_ m y gy iy) (few gx wx) (few gy wy) h)]
set_option maxRecDepth 1000000 in
set_option maxHeartbeats 16000000 in
theorem walk (w : World) (T : Tabs w ∧ Wires w) (s : Sc) (vM vE : Value) (hs0 : SAt w.heap.size w s vM vE) (hin : ScIn s) (m : Int) (hm1 : -9223372036854775808 ≤ m) (hm2 : m ≤ 9223372036854775807)
    (x : Mg) (ux : Value) (D : Nat) (hx0 : T9.MAt (Rd w.heap.size w) D x [ux]) (hxi : MIn x) (y : Mg) (uy : Value) (D' : Nat) (hy0 : T9.MAt (Rd w.heap.size w) D' y [uy]) (hyi : MIn y) :
    Calls Tryz.prog 4 #[.agg #[vM, vE], .int .i64 m, .agg #[ux], .agg #[uy]] w fun e w' => e = .returned (.bool true) ∧ Below w.heap.size w w' := by
  obtain ⟨A1, q1, A2, q2, rfl, rfl⟩ := sat_shape hs0
  obtain ⟨Ax, cx, rfl⟩ := rd_shape hx0
  obtain ⟨Ay, cy, rfl⟩ := rd_shape hy0
  obtain ⟨E, hE⟩ : ∃ E, E = max D D' := ⟨_, rfl⟩
  obtain ⟨X1, X2, X3, LBD⟩ := three_boxes w (.cells #[.slice A1 s.M.length q1, .slice A2 s.E.length q2] 33) (.cells #[.slice Ax x.F.length cx] 36) (.cells #[.slice Ay y.F.length cy] 36)
  have HS := Lib.hid (fun wx (h : Below w.heap.size w wx) => sat_up hs0 h)
  have HG := Lib.hid (fun wx (h : Below w.heap.size w wx) => MRd.mono h.size (MRd.low (Lo.below h (Nat.le_refl _)) (T9.MAt.more (show D ≤ E by omega) _ _ hx0)))
  have HH := Lib.hid (fun wx (h : Below w.heap.size w wx) => MRd.mono h.size (MRd.low (Lo.below h (Nat.le_refl _)) (T9.MAt.more (show D' ≤ E by omega) _ _ hy0)))
  have HT := Lib.hid T
  have HII := Lib.hid (And.intro hxi hyi)
  clear hx0 hy0 hs0 T hm1 hm2 hE hxi hyi
  go_enter Tryz.func4, Tryz.ntmps4
  go_wp2_with fail
  refine (awake12_any _ (HT.out.1.on LBD) (HT.out.2.on LBD)).mono ?_
  rintro e w1 ⟨rfl, hb1⟩
  have hb01 := below_then LBD hb1
  have Y1 := box_on X1 hb1
  have Y2 := box_on X2 hb1
  have Y3 := box_on X3 hb1
  clear X1 X2 X3 LBD hb1
  obtain ⟨y1, y2⟩ := box2' Y1
  have y0 := bx1 Y2
  go_wp2_with fail
  refine (few12_any _ E s _ _ x _ w1 (Nat.le_refl _) (HS.out _ hb01) (HG.out _ hb01) HII.out.1).mono ?_
  rintro e w2 ⟨r, rfl, hfit, hb2⟩
  have hb02 := below_then hb01 hb2
  have Y1 := box_on Y1 hb2
  have Y2 := box_on Y2 hb2
  have Y3 := box_on Y3 hb2
  clear y1 y2 y0
  cases r with
  | false =>
    go_wp2
    go_ret
    exact ⟨rfl, hb02⟩
  | true =>
  obtain ⟨⟨hcx, -⟩, htx⟩ := hfit rfl
  clear hfit
  obtain ⟨y1, y2⟩ := box2' Y1
  have y0 := bx1 Y3
  have HFY := Lib.hid (few12_any _ E s _ _ y _ w2 (Nat.le_refl _) (HS.out _ hb02) (HH.out _ hb02) HII.out.2)
  go_wp2_with fail
  refine HFY.out.mono ?_
  rintro e w3 ⟨r, rfl, hfit, hb3⟩
  have hb03 := below_then hb02 hb3
  have Y1 := box_on Y1 hb3
  have Y2 := box_on Y2 hb3
  have Y3 := box_on Y3 hb3
  clear y1 y2 y0
  cases r with
  | false =>
    go_wp2
    go_ret
    exact ⟨rfl, hb03⟩
  | true =>
  obtain ⟨⟨hcy, -⟩, hty⟩ := hfit rfl
  clear hfit
  have c5x : x.cnt ≤ 100000 := by omega
  have c5y : y.cnt ≤ 100000 := by omega
  have w5x : 40 * x.cnt + Mg.txt x ≤ 35184372088832 := by omega
  have w5y : 40 * y.cnt + Mg.txt y ≤ 35184372088832 := by omega
  have HQ := Lib.hid (fun (hx : mayT s m x = true) (hy : mayT s m y = true) => same_bytes hx hy HII.out.1 HII.out.2 w5x w5y)
  have HLX := Lib.hid (fun (hx : mayT s m x = true) => (show (encB s 64 m (norB s 64 m x)).length ≤ 1000000000 by
    obtain ⟨hsm, gx⟩ := mayT_split hx
    have g := norB_good (may_keys hsm) 64
    have a := g.cnt m x gx
    have b := nor_txt s 64 m x gx
    have := enc_len s 64 m (norB s 64 m x) (g.in_ m x gx HII.out.1) (by omega)
    omega))
  have HLY := Lib.hid (fun (hy : mayT s m y = true) => (show (encB s 64 m (norB s 64 m y)).length ≤ 1000000000 by
    obtain ⟨hsm, gx⟩ := mayT_split hy
    have g := norB_good (may_keys hsm) 64
    have a := g.cnt m y gx
    have b := nor_txt s 64 m y gx
    have := enc_len s 64 m (norB s 64 m y) (g.in_ m y gx HII.out.2) (by omega)
    omega))
  have HEX := Lib.hid (encode_any hin w3.heap.size E _ _ m x _ w3 (Nat.le_refl _) (HS.out _ hb03) (HG.out _ hb03) HII.out.1 c5x w5x (HT.out.1.on hb03) (HT.out.2.on hb03))
  have HEY := Lib.hid (fun wx (h : Below w.heap.size w wx) => encode_any hin wx.heap.size E _ _ m y _ wx (Nat.le_refl _) (HS.out _ h) (HH.out _ h) HII.out.2 c5y w5y (HT.out.1.on h) (HT.out.2.on h))
  have HNX := Lib.hid (fun wx (h : Below w.heap.size w wx) => tnormal_any hin wx.heap.size E _ _ m x _ wx (Nat.le_refl _) (HS.out _ h) (HG.out _ h) HII.out.1 c5x (HT.out.1.on h))
  have HNY := Lib.hid (fun wx (h : Below w.heap.size w wx) => tnormal_any hin wx.heap.size E _ _ m y _ wx (Nat.le_refl _) (HS.out _ h) (HH.out _ h) HII.out.2 c5y (HT.out.1.on h))
  obtain ⟨P, hP⟩ : ∃ P, norB s 64 m x = P := ⟨_, rfl⟩
  obtain ⟨Q, hQ⟩ : ∃ Q, norB s 64 m y = Q := ⟨_, rfl⟩
  obtain ⟨X, hX⟩ : ∃ X, encB s 64 m P = X := ⟨_, rfl⟩
  obtain ⟨Y, hY⟩ : ∃ Y, encB s 64 m Q = Y := ⟨_, rfl⟩
  rw [hP, hX] at HEX HQ HLX
  rw [hQ, hY] at HEY HQ HLY
  rw [hP] at HNX
  rw [hQ] at HNY
  clear hP hQ hX hY hcx htx hcy hty c5x c5y w5x w5y HFY
  obtain ⟨y1, y2⟩ := box2' Y1
  have y0 := bx1 Y2
  go_wp2_with fail
  refine HEX.out.mono ?_
  rintro e w4 ⟨A3, n3, c3, e3, rfl, hx3, hb4⟩
  have hb04 := below_then hb03 hb4
  have Y1 := box_on Y1 hb4
  have Y2 := box_on Y2 hb4
  have Y3 := box_on Y3 hb4
  clear y1 y2 y0
  obtain ⟨y1, y2⟩ := box2' Y1
  have y0 := bx1 Y3
  have HX3 := Lib.hid hx3
  have HEY1 := Lib.hid (HEY.out _ hb04)
  clear hx3
  go_wp2_with fail
  refine HEY1.out.mono ?_
  rintro e w4b ⟨A4, n4, c4, e4, rfl, hx4, hb4b⟩
  have hb05 := below_then hb04 hb4b
  have Y1 := box_on Y1 hb4b
  have Y2 := box_on Y2 hb4b
  have Y3 := box_on Y3 hb4b
  clear y1 y2 y0
  obtain ⟨y1, y2⟩ := box2' Y1
  have y0 := bx1 Y2
  have HX4 := Lib.hid hx4
  have HN1 := Lib.hid (HNX.out _ hb05)
  clear hx4
  go_wp2_with fail
  refine HN1.out.mono ?_
  rintro e w5 ⟨A5, n5, c5, rfl, -, hr5, hb5⟩
  have N5 := below_new w5 (.cells #[.slice A5 n5 c5] 36)
  have Z5 := heap_alloc_new w5 (.cells #[.slice A5 n5 c5] 36)
  have hb06 := below_then (below_then hb05 hb5) N5
  have Y1 := box_on (box_on Y1 hb5) N5
  have Y3 := box_on (box_on Y3 hb5) N5
  clear y1 y2 y0 Y2
  obtain ⟨y1, y2⟩ := box2' Y1
  have y0 := bx1 Y3
  have HR5 := Lib.hid hr5
  have HN2 := Lib.hid (HNY.out _ hb06)
  clear hr5
  go_wp2_with fail
  refine HN2.out.mono ?_
  rintro e w6 ⟨A6, n6, c6, rfl, -, hr6, hb6⟩
  have N6 := below_new w6 (.cells #[.slice A6 n6 c6] 36)
  have Z6 := heap_alloc_new w6 (.cells #[.slice A6 n6 c6] 36)
  have hb07 := below_then (below_then hb06 hb6) N6
  have Z5 := box_on (box_on Z5 hb6) N6
  have HR6 := Lib.hid hr6
  clear hr6 y1 y2 y0 Y1 Y3 HEX HEY HNX HNY HEY1 HN1 HN2
  cases hmx : mayT s m x with
  | false =>
    go_wp2
    go_ret
    exact ⟨rfl, hb07⟩
  | true =>
  cases hmy : mayT s m y with
  | false =>
    go_wp2
    go_ret
    exact ⟨rfl, hb07⟩
  | true =>
  obtain ⟨rfl, rfl, hs3⟩ := HX3.out hmx
  obtain ⟨rfl, rfl, hs4⟩ := HX4.out hmy
  have hq := HQ.out hmx hmy
  have hlx := HLX.out hmx
  have hly := HLY.out hmy
  have hrp := HR5.out hmx
  have hrq := HR6.out hmy
  have hb57 := below_then N5 (below_then hb6 N6)
  have hb4e := below_then hb4b (below_then hb5 hb57)
  obtain ⟨W7, hW7⟩ : ∃ W, W = w6.alloc (.cells #[.slice A6 n6 c6] 36) := ⟨_, rfl⟩
  rw [← hW7] at hb57 hb4e Z5 Z6 N6 hb07
  have hDk : Below W7.heap.size W7 W7.drew := (Below.refl _ _).drew
  have HB := Lib.hid (fun wx (h : Below W7.heap.size W7 wx) => bytes_any A3 A4 c3 c4 X Y wx hlx hly (hs3.on (below_then hb4e h)) (hs4.on (below_then (below_then hb5 hb57) h)))
  have HSM := Lib.hid (fun wx (h : Below W7.heap.size W7 wx) => rsame_any9 wx.heap.size E P Q _ _ wx (Nat.le_refl _) (rd_up (below_then hb57 h) hrp) (rd_up (below_then N6 h) hrq))
  have HSX : Hid (∀ wx, Below W7.heap.size W7 wx → wx.cell? ⟨w5.heap.size, 0, none⟩ = some (.slice A5 n5 c5) ∧ wx.cell? ⟨w6.heap.size, 0, none⟩ = some (.slice A6 n6 c6)) := Lib.hid fun wx h => ⟨bx1 (box_on Z5 h), bx1 (box_on Z6 h)⟩
  obtain ⟨d, hd⟩ : ∃ d, eqB P Q = d := ⟨_, rfl⟩
  rw [hd] at hq HSM
  rw [hq] at HB
  clear hmx hmy HX3 HX4 HQ HLX HLY HR5 HR6 hs3 hs4 hq hlx hly hrp hrq Z5 Z6 hd
  go_wp2_with fail
  rw [← hW7]
  clear hW7
  refine wp_region_held_drew (S := (fun w' => w'.cell? ⟨w5.heap.size, 0, none⟩ = some (.slice A5 n5 c5) ∧ w'.cell? ⟨w6.heap.size, 0, none⟩ = some (.slice A6 n6 c6))) (by kernel_rfl) (HSX.out _ hDk) (fun hHeld => ?_)
  refine wpAnyH_take (i := 0) (oi := { dst := some 69, op := Go.Op.move (Go.Operand.tmp 12), type := 25, pos := "law.go:106", after := #[], guard := none }) (v := ?_) rfl (by kernel_rfl) (by kernel_rfl) (by kernel_rfl) (fun _ _ _ h => h) (Or.inl ⟨by rfl, ?_⟩) hHeld ?_
  rotate_left
  · intro w hSw
    (try dsimp only at hSw)
    go_simp
    all_goals with_reducible rfl
  (try simp only [Act.put, List.setIfInBounds_toArray, List.set_cons_zero, List.set_cons_succ])
  refine wpAnyH_take (i := 1) (oi := { dst := some 70, op := Go.Op.binOp Go.BinOp.eql 25 (Go.Operand.tmp 69) (Go.Operand.const (Go.Value.int Go.IntKind.i64 0)) 25, type := 4, pos := "law.go:106", after := #[{ on := 0, ground := Go.Ground.data }], guard := none }) (v := ?_) rfl (by kernel_rfl) (by kernel_rfl) (by kernel_rfl) (fun _ _ _ h => h) (Or.inl ⟨by rfl, ?_⟩) hHeld ?_
  rotate_left
  · intro w hSw
    (try dsimp only at hSw)
    go_simp
    all_goals with_reducible rfl
  (try simp only [Act.put, List.setIfInBounds_toArray, List.set_cons_zero, List.set_cons_succ])
  refine wpAnyH_take (i := 2) (oi := { dst := some 71, op := Go.Op.move (Go.Operand.tmp 70), type := 4, pos := "law.go:106", after := #[{ on := 1, ground := Go.Ground.data }], guard := none }) (v := ?_) rfl (by kernel_rfl) (by kernel_rfl) (by kernel_rfl) (fun _ _ _ h => h) (Or.inl ⟨by rfl, ?_⟩) hHeld ?_
  rotate_left
  · intro w hSw
    (try dsimp only at hSw)
    go_simp
    all_goals with_reducible rfl
  (try simp only [Act.put, List.setIfInBounds_toArray, List.set_cons_zero, List.set_cons_succ])
  refine wpAnyH_take (i := 3) (oi := { dst := some 72, op := Go.Op.move (Go.Operand.tmp 14), type := 25, pos := "law.go:106", after := #[{ on := 2, ground := Go.Ground.guard }], guard := some (2, true) }) (v := ?_) rfl (by kernel_rfl) (by kernel_rfl) (by kernel_rfl) (fun _ _ _ h => h) (Or.inl ⟨by rfl, ?_⟩) hHeld ?_
  rotate_left
  · intro w hSw
    (try dsimp only at hSw)
    go_simp
    all_goals with_reducible rfl
  (try simp only [Act.put, List.setIfInBounds_toArray, List.set_cons_zero, List.set_cons_succ])
  refine wpAnyH_take (i := 4) (oi := { dst := some 73, op := Go.Op.binOp Go.BinOp.eql 25 (Go.Operand.tmp 72) (Go.Operand.const (Go.Value.int Go.IntKind.i64 0)) 25, type := 4, pos := "law.go:106", after := #[{ on := 3, ground := Go.Ground.data }, { on := 2, ground := Go.Ground.guard }], guard := some (2, true) }) (v := ?_) rfl (by kernel_rfl) (by kernel_rfl) (by kernel_rfl) (fun _ _ _ h => h) (Or.inl ⟨by rfl, ?_⟩) hHeld ?_
  rotate_left
  · intro w hSw
    (try dsimp only at hSw)
    go_simp
    all_goals with_reducible rfl
  (try simp only [Act.put, List.setIfInBounds_toArray, List.set_cons_zero, List.set_cons_succ])
  refine wpAnyH_take (i := 5) (oi := { dst := some 74, op := Go.Op.pick (Go.Operand.tmp 71) (Go.Operand.tmp 73) (Go.Operand.const (Go.Value.bool false)), type := 4, pos := "law.go:106", after := #[{ on := 2, ground := Go.Ground.data }, { on := 4, ground := Go.Ground.data }], guard := none }) (v := ?_) rfl (by kernel_rfl) (by kernel_rfl) (by kernel_rfl) (fun _ _ _ h => h) (Or.inl ⟨by rfl, ?_⟩) hHeld ?_
  rotate_left
  · intro w hSw
    (try dsimp only at hSw)
    go_simp
    all_goals with_reducible rfl
  (try simp only [Act.put, List.setIfInBounds_toArray, List.set_cons_zero, List.set_cons_succ])
  refine wpAnyH_take (i := 6) (oi := { dst := some 75, op := Go.Op.move (Go.Operand.tmp 74), type := 4, pos := "law.go:106", after := #[{ on := 5, ground := Go.Ground.data }, { on := 2, ground := Go.Ground.chain }], guard := none }) (v := ?_) rfl (by kernel_rfl) (by kernel_rfl) (by kernel_rfl) (fun _ _ _ h => h) (Or.inl ⟨by rfl, ?_⟩) hHeld ?_
  rotate_left
  · intro w hSw
    (try dsimp only at hSw)
    go_simp
    all_goals with_reducible rfl
  (try simp only [Act.put, List.setIfInBounds_toArray, List.set_cons_zero, List.set_cons_succ])
  refine wpAnyH_take (i := 7) (oi := { dst := some 76, op := Go.Op.move (Go.Operand.tmp 11), type := 22, pos := "law.go:106", after := #[{ on := 6, ground := Go.Ground.guard }], guard := some (6, true) }) (v := ?_) rfl (by kernel_rfl) (by kernel_rfl) (by kernel_rfl) (fun _ _ _ h => h) (Or.inl ⟨by rfl, ?_⟩) hHeld ?_
  rotate_left
  · intro w hSw
    (try dsimp only at hSw)
    go_simp
    all_goals with_reducible rfl
  (try simp only [Act.put, List.setIfInBounds_toArray, List.set_cons_zero, List.set_cons_succ])
  refine wpAnyH_take (i := 8) (oi := { dst := some 77, op := Go.Op.move (Go.Operand.tmp 13), type := 22, pos := "law.go:106", after := #[{ on := 6, ground := Go.Ground.guard }], guard := some (6, true) }) (v := ?_) rfl (by kernel_rfl) (by kernel_rfl) (by kernel_rfl) (fun _ _ _ h => h) (Or.inl ⟨by rfl, ?_⟩) hHeld ?_
  rotate_left
  · intro w hSw
    (try dsimp only at hSw)
    go_simp
    all_goals with_reducible rfl
  (try simp only [Act.put, List.setIfInBounds_toArray, List.set_cons_zero, List.set_cons_succ])
  refine wpAnyH_take (i := 10) (oi := { dst := some 79, op := Go.Op.load 36 (Go.Operand.tmp 15), type := 36, pos := "law.go:106", after := #[{ on := 6, ground := Go.Ground.guard }], guard := some (6, true) }) (v := ?_) rfl (by kernel_rfl) (by kernel_rfl) (by kernel_rfl) (fun _ _ _ h => h) (Or.inl ⟨by rfl, ?_⟩) hHeld ?_
  rotate_left
  · intro w hSw
    (try dsimp only at hSw)
    go_simp
    all_goals with_reducible rfl
  (try simp only [Act.put, List.setIfInBounds_toArray, List.set_cons_zero, List.set_cons_succ])
  refine wpAnyH_take (i := 11) (oi := { dst := some 80, op := Go.Op.load 36 (Go.Operand.tmp 17), type := 36, pos := "law.go:106", after := #[{ on := 6, ground := Go.Ground.guard }], guard := some (6, true) }) (v := ?_) rfl (by kernel_rfl) (by kernel_rfl) (by kernel_rfl) (fun _ _ _ h => h) (Or.inl ⟨by rfl, ?_⟩) hHeld ?_
  rotate_left
  · intro w hSw
    (try dsimp only at hSw)
    go_simp
    all_goals with_reducible rfl
  (try simp only [Act.put, List.setIfInBounds_toArray, List.set_cons_zero, List.set_cons_succ])
  refine wpAnyH_ready (rs := [9]) (by kernel_rfl) (by simp) ?_
  refine AllReadyH.cons (o := { dst := some 78, op := Go.Op.call { callee := Go.Callee.value (Go.Operand.func 14), args := #[Go.Operand.tmp 76, Go.Operand.tmp 77], argTypes := #[22, 22] }, type := 4, pos := "law.go:106", after := #[{ on := 7, ground := Go.Ground.data }, { on := 8, ground := Go.Ground.data }, { on := 6, ground := Go.Ground.chain }, { on := 6, ground := Go.Ground.guard }], guard := some (6, true) }) rfl (fun K hK => ?_) AllReadyH.nil
  go_simp
  (go_at_call 14; refine (HB.out _ hDk).mono ?_; rintro e w8 ⟨rfl, hb8⟩)
  have hb8d := hDk.trans (hb8.mono hDk.size)
  go_wp2_with fail
  refine hK.out _ _ (HSX.out _ hb8d) (fun hHeld => ?_)
  clear hK K
  (try simp only [Act.put, List.setIfInBounds_toArray, List.set_cons_zero, List.set_cons_succ])
  refine wpAnyH_ready (rs := [12]) (by kernel_rfl) (by simp) ?_
  refine AllReadyH.cons (o := { dst := some 81, op := Go.Op.call { callee := Go.Callee.value (Go.Operand.func 15), args := #[Go.Operand.tmp 79, Go.Operand.tmp 80], argTypes := #[36, 36] }, type := 4, pos := "law.go:106", after := #[{ on := 10, ground := Go.Ground.data }, { on := 11, ground := Go.Ground.data }, { on := 9, ground := Go.Ground.chain }, { on := 6, ground := Go.Ground.guard }], guard := some (6, true) }) rfl (fun K hK => ?_) AllReadyH.nil
  go_simp
  (go_at_call 15; refine (HSM.out _ hb8d).mono ?_; rintro e w9 ⟨rfl, hb9⟩)
  have hb9d := below_then hb8d hb9
  go_wp2_with fail
  refine hK.out _ _ (HSX.out _ hb9d) (fun hHeld => ?_)
  clear hK K
  (try simp only [Act.put, List.setIfInBounds_toArray, List.set_cons_zero, List.set_cons_succ])
  refine wpAnyH_take (i := 13) (oi := { dst := some 82, op := Go.Op.binOp Go.BinOp.eql 4 (Go.Operand.tmp 78) (Go.Operand.tmp 81) 4, type := 4, pos := "law.go:106", after := #[{ on := 9, ground := Go.Ground.data }, { on := 12, ground := Go.Ground.data }, { on := 6, ground := Go.Ground.guard }], guard := some (6, true) }) (v := ?_) rfl (by kernel_rfl) (by kernel_rfl) (by kernel_rfl) (fun _ _ _ h => h) (Or.inl ⟨by rfl, ?_⟩) hHeld ?_
  rotate_left
  · intro w hSw
    (try dsimp only at hSw)
    go_simp
    all_goals with_reducible rfl
  (try simp only [Act.put, List.setIfInBounds_toArray, List.set_cons_zero, List.set_cons_succ])
  refine wpAnyH_take (i := 14) (oi := { dst := some 83, op := Go.Op.pick (Go.Operand.tmp 75) (Go.Operand.tmp 82) (Go.Operand.const (Go.Value.bool false)), type := 4, pos := "law.go:106", after := #[{ on := 6, ground := Go.Ground.data }, { on := 13, ground := Go.Ground.data }], guard := none }) (v := ?_) rfl (by kernel_rfl) (by kernel_rfl) (by kernel_rfl) (fun _ _ _ h => h) (Or.inl ⟨by rfl, ?_⟩) hHeld ?_
  rotate_left
  · intro w hSw
    (try dsimp only at hSw)
    go_simp
    all_goals with_reducible rfl
  (try simp only [Act.put, List.setIfInBounds_toArray, List.set_cons_zero, List.set_cons_succ])
  refine wpAnyH_take (i := 15) (oi := { dst := some 8, op := Go.Op.assign (Go.Operand.tmp 83), type := 4, pos := "law.go:106", after := #[{ on := 14, ground := Go.Ground.data }, { on := 12, ground := Go.Ground.chain }, { on := 0, ground := Go.Ground.phase }, { on := 1, ground := Go.Ground.phase }, { on := 2, ground := Go.Ground.phase }, { on := 3, ground := Go.Ground.phase }, { on := 4, ground := Go.Ground.phase }, { on := 5, ground := Go.Ground.phase }, { on := 6, ground := Go.Ground.phase }, { on := 7, ground := Go.Ground.phase }, { on := 8, ground := Go.Ground.phase }, { on := 9, ground := Go.Ground.phase }, { on := 10, ground := Go.Ground.phase }, { on := 11, ground := Go.Ground.phase }, { on := 12, ground := Go.Ground.phase }, { on := 13, ground := Go.Ground.phase }, { on := 14, ground := Go.Ground.phase }], guard := none }) (v := ?_) rfl (by kernel_rfl) (by kernel_rfl) (by kernel_rfl) (fun _ _ _ h => h) (Or.inl ⟨by rfl, ?_⟩) hHeld ?_
  rotate_left
  · intro w hSw
    (try dsimp only at hSw)
    go_simp
    all_goals with_reducible rfl
  (try simp only [Act.put, List.setIfInBounds_toArray, List.set_cons_zero, List.set_cons_succ])
  refine wpAnyH_done (by kernel_rfl) ?_ _
  go_wp2
  go_ret
  exact ⟨by simp, below_then hb07 hb9d⟩
end Go.Proofs.YtipaangiehdgkaaGreatDoor.T12.lawEncodeSame
