/-
  Bytes twice, one behind the other, decode to twice as many values of repeated fields, and to the same keys, numbers and texts of others: the walk.
-/
import Derived.Test.YtckcojkpghiclaaGreatDoorDtSeven
import Derived.Test.YtckcojkpghiclaaGreatDoorDtMath
import Derived.Test.YtckcojkpghiclaaGreatDoorProMath
import Derived.Test.YtckcojkpghiclaaGreatDoorDecNumc
import Derived.Test.YtckcojkpghiclaaGreatDoorEncAw
namespace Go.Proofs.YtckcojkpghiclaaGreatDoor.T11.lawDecodeTwice
set_option maxRecDepth 100000
open Go.ChangeShapes Go.WideShapes Go.ChangeAt Go.RowKit
open Go.Proofs.YtckcojkpghiclaaGreatDoor.T9 Go.Proofs.YtckcojkpghiclaaGreatDoor.T4 Go.Proofs.YtckcojkpghiclaaGreatDoor.T12 Go.Proofs.YtckcojkpghiclaaGreatDoor.T11
theorem twice_code (s : Sc) (m : Int) (l : List UInt8) (hl : l.length ≤ 2000) :
    (codeE (toldE s m l) = 0 → codeE (toldE s m (l ++ l)) = 0 ∧ (msgE (toldE s m l)).F.length = (msgE (toldE s m (l ++ l))).F.length ∧ ∀ (i : Nat) (a c : So), (msgE (toldE s m l)).F[i]? = some a → (msgE (toldE s m (l ++ l))).F[i]? = some c → ∃ f, byS s m a.no = some f ∧ Rel f a c) ∧
    (codeE (toldE s m l) ≠ 0 → codeE (toldE s m l) = 6 ∨ codeE (toldE s m (l ++ l)) = codeE (toldE s m l)) := by
  cases h : toldE s m l with
  | ok X =>
    obtain ⟨Y, h1, h2, h3⟩ := twice_law hl h
    rw [h1]
    exact ⟨fun _ => ⟨rfl, h2, h3⟩, fun h => absurd rfl h⟩
  | error e =>
    have he := told_cd h
    refine ⟨fun h0 => ?_, fun _ => ?_⟩
    · have h0 : e = 0 := h0
      unfold Cd at he
      omega
    · rcases twice_err h with h1 | h1
      · exact .inl h1
      · right
        rw [h1]
theorem mrd_open {B : Nat} {w : World} {D : Nat} {X : Mg} {v : Value} (h : MRd B w (D + 1) X v) :
    ∃ A c xs, v = .slice A X.F.length c ∧ Sl w A X.F.length c 3 xs ∧ (∀ ad, A = some ad → 0 < X.F.length → ad.block < B) ∧ T9.Rows (SAt' (Rd B w) D) X.F xs ∧ X.F.length ≤ 10000000000000 := by
  obtain ⟨u, hu, hl⟩ := h
  simp only [List.cons.injEq, and_true] at hu
  subst hu
  exact hl.open_
theorem once {P G : Prop} (f : Hid P → G) (h : P) : G := f (Lib.hid h)
theorem bx7 {w : World} {q : Nat} {a b c d e f g : Value} {t : TypeId} {fr : Nat × Nat} (h : w.heap[q]? = some (.cells #[a, b, c, d, e, f, g] t fr)) :
    w.cell? ⟨q, 0, none⟩ = some a ∧ w.cell? ⟨q, 1, none⟩ = some b ∧ w.cell? ⟨q, 2, none⟩ = some c ∧ w.cell? ⟨q, 3, none⟩ = some d ∧ w.cell? ⟨q, 4, none⟩ = some e ∧ w.cell? ⟨q, 5, none⟩ = some f ∧ w.cell? ⟨q, 6, none⟩ = some g := by
  refine ⟨?_, ?_, ?_, ?_, ?_, ?_, ?_⟩ <;> rw [box_cell h] <;> rfl
theorem fz7 {w : World} {q : Nat} {cs : Array Value} {t : TypeId} (h : w.heap[q]? = some (.cells cs t (0, 0))) (k : Nat) : w.frozen? ⟨q, k, none⟩ = false := by simp [World.frozen?, h]
set_option maxRecDepth 1000000 in
set_option maxHeartbeats 8000000 in
theorem walk (w : World) (T : Tabs w ∧ Wires w) (s : Sc) (vM vE : Value) (hs0 : SAt w.heap.size w s vM vE) (hin : ScIn s) (m : Int) (hm1 : -9223372036854775808 ≤ m) (hm2 : m ≤ 9223372036854775807)
    (A : Option Addr) (c : Nat) (l : List UInt8) (hr : SlB w A c l) :
    Calls Tryz.prog 8 #[.agg #[vM, vE], .int .i64 m, .slice A l.length c] w fun e w' => e = .returned (.bool true) ∧ Below w.heap.size w w' := by
  obtain ⟨i0, hi, hz0, hz1, hz2⟩ := info_parts info_u8
  obtain ⟨A1, q1, A2, q2, rfl, rfl⟩ := sat_shape hs0
  have X1 := heap_alloc_new w (.cells #[.slice A1 s.M.length q1, .slice A2 s.E.length q2] 25)
  have LBD := below_new w (.cells #[.slice A1 s.M.length q1, .slice A2 s.E.length q2] 25)
  have HS := Lib.hid (fun wx (h : Below w.heap.size w wx) => sat_up hs0 h)
  have HDC := Lib.hid (fun (A : Option Addr) (c n z : Nat) (X : Mg) (l : List UInt8) wx (h : Below w.heap.size w wx) (hr : SlB wx A c l) (hn : l.length = n) (hz : codeE (toldE s m l) = z) (hX : msgE (toldE s m l) = X) (hl : n ≤ 10000) => dec_both _ _ m A c n z X l wx hn hz hX hl (sat_up hs0 h) hin hr (T.2.on h) (T.1.on h))
  have HT := Lib.hid T
  have HR := Lib.hid (fun wx (h : Below w.heap.size w wx) => hr.on h)
  have F0 := twice_code s m l
  obtain ⟨x, hx⟩ : ∃ x, codeE (toldE s m l) = x := ⟨_, rfl⟩
  obtain ⟨X, hX⟩ : ∃ x, msgE (toldE s m l) = x := ⟨_, rfl⟩
  obtain ⟨z, hz⟩ : ∃ x, codeE (toldE s m (l ++ l)) = x := ⟨_, rfl⟩
  obtain ⟨Y, hY⟩ : ∃ x, msgE (toldE s m (l ++ l)) = x := ⟨_, rfl⟩
  rw [hx, hz, hX, hY] at F0
  have HX := Lib.hid (And.intro hx hX)
  have HZ := Lib.hid (And.intro hz hY)
  have HF := Lib.hid F0
  clear hs0 T hr hm1 hm2 hx hz hX hY F0
  have HAW := Lib.hid (awake11_any _ (HT.out.1.on LBD) (HT.out.2.on LBD))
  have HX1 := Lib.hid (And.intro X1 LBD)
  clear X1 LBD
  go_enter Tryz.func8, Tryz.ntmps8
  go_wp2_with fail
  refine HAW.out.mono ?_
  rintro e w1 ⟨rfl, hb1⟩
  have hb01 := below_then HX1.out.2 hb1
  have Y1 := box_on HX1.out.1 hb1
  clear hb1 HAW HX1
  obtain ⟨y1, y2⟩ := box2' Y1
  go_wp2_with fail
  refine (fews_any _ s _ _ w1 (Nat.le_refl _) (HS.out _ hb01)).mono ?_
  rintro e w2 ⟨rfl, hb2⟩
  have hb02 := below_then hb01 hb2
  have Y1 := box_on Y1 hb2
  clear hb2 y1 y2 hb01
  obtain ⟨y1, y2⟩ := box2' Y1
  obtain ⟨fw, hfw⟩ : ∃ b, fewS s = b := ⟨_, rfl⟩
  rw [hfw]
  clear hfw
  cases fw with
  | false =>
    go_wp2
    go_ret
    exact ⟨rfl, hb02⟩
  | true =>
    by_cases hl : l.length ≤ 1000
    case neg =>
      have d1 : decide ((1000 : Int) < (l.length : Int)) = true := by simp; omega
      go_wp2
      go_ret
      exact ⟨rfl, hb02⟩
    have d1 : decide ((1000 : Int) < (l.length : Int)) = false := by simp; omega
    have HFF := Lib.hid (HF.out (by omega))
    have HB2 := Lib.hid hb02
    have HY1 := Lib.hid Y1
    have E1 : Hid (0 + l.length + l.length = (l ++ l).length) := Lib.hid (by rw [List.length_append]; omega)
    have E2 : Hid ([] ++ bs l ++ bs l = bs (l ++ l)) := Lib.hid (by simp [bs])
    have E3 : Hid (((l ++ l).length : Int) = (l.length : Int) + (l.length : Int)) := Lib.hid (by rw [List.length_append]; omega)
    have HC1 := Lib.hid (HDC.out A c _ x X l w2 hb02 (HR.out _ hb02) rfl HX.out.1 HX.out.2 (by omega))
    clear Y1 hb02 HF
    go_wp2_with fail
    refine HC1.out.mono ?_
    rintro e w3 ⟨⟨A3, n3, c3, rfl, hm3⟩, hb3⟩
    have N3 := below_new w3 (.cells #[.slice A3 n3 c3] 31)
    have T3 := heap_alloc_new w3 (.cells #[.slice A3 n3 c3] 31)
    have hx3 := rd_up N3 (own_rd hm3)
    have b3 := below_then hb3 N3
    have hb03 := below_then HB2.out b3
    have Y3 := box_on HY1.out b3
    clear y1 y2 hm3 hb3 N3 b3 HY1 HB2
    obtain ⟨y1, y2⟩ := box2' Y3
    obtain ⟨p3, hp3⟩ : ∃ p, p = w3.heap.size := ⟨_, rfl⟩
    obtain ⟨W4, hW4⟩ : ∃ W, W = w3.alloc (.cells #[.slice A3 n3 c3] 31) := ⟨_, rfl⟩
    rw [← hW4] at hb03 Y3 y1 y2 hx3 T3
    rw [← hp3] at T3
    have HB4 := Lib.hid (And.intro hb03 (And.intro Y3 (And.intro T3 hx3)))
    have HRA := Lib.hid (HR.out _ hb03)
    have HSX : Hid (∀ wx, Below W4.heap.size W4 wx → wx.cell? ⟨w.heap.size, 0, none⟩ = some (.slice A1 s.M.length q1) ∧ wx.cell? ⟨w.heap.size, 1, none⟩ = some (.slice A2 s.E.length q2)) := Lib.hid (fun wx hx => box2' (box_on Y3 hx))
    clear hb03 Y3 T3 hx3 HC1
    go_wp2_with fail
    rw [← hW4, ← hp3]
    clear hW4 hp3 y1 y2
    apply once
    · intro HGO
      refine wp_region_held_drew (S := (fun w' => w'.cell? ⟨w.heap.size, 0, none⟩ = some (.slice A1 s.M.length q1) ∧ w'.cell? ⟨w.heap.size, 1, none⟩ = some (.slice A2 s.E.length q2))) (by kernel_rfl) (HSX.out _ (Below.refl _ _).drew) (fun hHeld => ?_)
      refine wpAnyH_take (i := 0) (oi := { dst := some 37, op := Go.Op.load 25 (Go.Operand.tmp 3), type := 25, pos := "law.go:154", after := #[], guard := none }) (v := ?_) rfl (by kernel_rfl) (by kernel_rfl) (by kernel_rfl) (fun _ _ _ h => h) (Or.inl ⟨by rfl, ?_⟩) hHeld ?_
      rotate_left
      · intro w hSw
        (try dsimp only at hSw)
        go_simp
        all_goals with_reducible rfl
      (try simp only [Act.put, List.setIfInBounds_toArray, List.set_cons_zero, List.set_cons_succ])
      refine wpAnyH_take (i := 1) (oi := { dst := some 38, op := Go.Op.move (Go.Operand.tmp 1), type := 3, pos := "law.go:154", after := #[], guard := none }) (v := ?_) rfl (by kernel_rfl) (by kernel_rfl) (by kernel_rfl) (fun _ _ _ h => h) (Or.inl ⟨by rfl, ?_⟩) hHeld ?_
      rotate_left
      · intro w hSw
        (try dsimp only at hSw)
        go_simp
        all_goals with_reducible rfl
      (try simp only [Act.put, List.setIfInBounds_toArray, List.set_cons_zero, List.set_cons_succ])
      refine wpAnyH_take (i := 2) (oi := { dst := some 39, op := Go.Op.move (Go.Operand.tmp 2), type := 26, pos := "law.go:154", after := #[], guard := none }) (v := ?_) rfl (by kernel_rfl) (by kernel_rfl) (by kernel_rfl) (fun _ _ _ h => h) (Or.inl ⟨by rfl, ?_⟩) hHeld ?_
      rotate_left
      · intro w hSw
        (try dsimp only at hSw)
        go_simp
        all_goals with_reducible rfl
      (try simp only [Act.put, List.setIfInBounds_toArray, List.set_cons_zero, List.set_cons_succ])
      refine wpAnyH_take (i := 4) (oi := { dst := some 41, op := Go.Op.move (Go.Operand.tmp 2), type := 26, pos := "law.go:154", after := #[], guard := none }) (v := ?_) rfl (by kernel_rfl) (by kernel_rfl) (by kernel_rfl) (fun _ _ _ h => h) (Or.inl ⟨by rfl, ?_⟩) hHeld ?_
      rotate_left
      · intro w hSw
        (try dsimp only at hSw)
        go_simp
        all_goals with_reducible rfl
      (try simp only [Act.put, List.setIfInBounds_toArray, List.set_cons_zero, List.set_cons_succ])
      obtain ⟨x0, hx0⟩ : ∃ x, x = W4.drew := ⟨_, rfl⟩
      rw [← hx0]
      have hB : Hid (Below W4.heap.size W4 x0) := Lib.hid (by rw [hx0]; exact (Below.refl _ _).drew)
      clear hx0
      refine wpAnyH_ready (rs := [3, 10]) (by kernel_rfl) (by simp) ?_
      refine AllReadyH.cons (o := { dst := some 40, op := Go.Op.call { callee := Go.Callee.builtin Go.Builtin.append, args := #[Go.Operand.const (Go.Value.slice none 0 0), Go.Operand.tmp 39], argTypes := #[26, 26] }, type := 26, pos := "law.go:154", after := #[{ on := 2, ground := Go.Ground.data }], guard := none }) rfl (fun K hK => ?_) (AllReadyH.cons (o := { dst := some 10, op := Go.Op.alloc 31, type := 0, pos := "law.go:154", after := #[], guard := none }) rfl (fun K hK => ?_) AllReadyH.nil)
      · refine step_app_sl rfl _ _ 26 rfl W4.heap.size 5 i0 (.int .u8 0) 1 1 Tryz.underlying26 hi hz0 hz1 hz2 rfl (by omega) (.slice none 0 0) 0 [] (by simp [Act.eval, Act.put]) (World.ownsRow_nil _ _ _ _) A l.length c (bs l) (by simp [Act.eval, Act.put]) (HRA.out.on hB.out) (bs_one l) (by unfold maxLen; omega) (by omega) hB.out.size ?_
        intro v3 x1 hown hgr
        have hBa : Below x0.heap.size x0 x1 := (Below.refl _ _).grown hgr (Nat.le_refl _) (by intro k hk; cases hk)
        have hBn := hB.out.trans (hBa.mono hB.out.size)
        have HOW := Lib.hid hown
        refine hK.out _ _ (HSX.out _ hBn) (fun hHeld => ?_)
        clear hK K
        have hBm := Lib.hid hBn
        clear hB hBa hBn hgr hown
        have hB := hBm
        clear hBm
        (try simp only [Act.put, List.setIfInBounds_toArray, List.set_cons_zero, List.set_cons_succ])
        refine wpAnyH_ready (rs := [5, 10]) (by kernel_rfl) (by simp) ?_
        refine AllReadyH.cons (o := { dst := some 42, op := Go.Op.call { callee := Go.Callee.builtin Go.Builtin.append, args := #[Go.Operand.tmp 40, Go.Operand.tmp 41], argTypes := #[26, 26] }, type := 26, pos := "law.go:154", after := #[{ on := 3, ground := Go.Ground.data }, { on := 4, ground := Go.Ground.data }, { on := 3, ground := Go.Ground.chain }], guard := none }) rfl (fun K hK => ?_) (AllReadyH.cons (o := { dst := some 10, op := Go.Op.alloc 31, type := 0, pos := "law.go:154", after := #[], guard := none }) rfl (fun K hK => ?_) AllReadyH.nil)
        · refine step_app_sl rfl _ _ 26 rfl W4.heap.size 5 i0 (.int .u8 0) 1 1 Tryz.underlying26 hi hz0 hz1 hz2 rfl (by omega) v3 (0 + l.length) ([] ++ bs l) (by simp [Act.eval, Act.put]) HOW.out A l.length c (bs l) (by simp [Act.eval, Act.put]) (HRA.out.on hB.out) (bs_one l) (by unfold maxLen; omega) (by omega) hB.out.size ?_
          intro v5 x2 hown hgr
          have hBn := hB.out.trans (below_app HOW.out hgr hB.out.size)
          rw [E1.out, E2.out] at hown
          obtain ⟨A5, c5, rfl, hsl⟩ := SlB.of_own hown
          have HSL := Lib.hid hsl
          refine hK.out _ _ (HSX.out _ hBn) (fun hHeld => ?_)
          clear hK K
          have hBm := Lib.hid hBn
          clear hB hBn hgr hown hsl HOW
          have hB := hBm
          clear hBm
          (try simp only [Act.put, List.setIfInBounds_toArray, List.set_cons_zero, List.set_cons_succ])
          refine wpAnyH_ready (rs := [6, 10]) (by kernel_rfl) (by simp) ?_
          refine AllReadyH.cons (o := { dst := some 43, op := Go.Op.call { callee := Go.Callee.value (Go.Operand.func 14), args := #[Go.Operand.tmp 37, Go.Operand.tmp 38, Go.Operand.tmp 42], argTypes := #[25, 3, 26] }, type := 33, pos := "law.go:154", after := #[{ on := 0, ground := Go.Ground.data }, { on := 1, ground := Go.Ground.data }, { on := 5, ground := Go.Ground.data }, { on := 5, ground := Go.Ground.chain }], guard := none }) rfl (fun K hK => ?_) (AllReadyH.cons (o := { dst := some 10, op := Go.Op.alloc 31, type := 0, pos := "law.go:154", after := #[], guard := none }) rfl (fun K hK => ?_) AllReadyH.nil)
          · go_simp
            (go_at_call 14; refine (HDC.out A5 c5 (l.length + l.length) z Y (l ++ l) _ (below_then HB4.out.1 hB.out) HSL.out List.length_append HZ.out.1 HZ.out.2 (by omega)).mono ?_; rintro e x3 ⟨⟨A6, n6, c6, rfl, hm6⟩, hBa⟩)
            have hBn := hB.out.trans (hBa.mono hB.out.size)
            have HM6 := Lib.hid (own_rd hm6)
            go_wp2_with fail
            refine hK.out _ _ (HSX.out _ hBn) (fun hHeld => ?_)
            clear hK K
            have hBm := Lib.hid hBn
            clear hB hBa hBn HSL hm6
            have hB := hBm
            clear hBm
            (try simp only [Act.put, List.setIfInBounds_toArray, List.set_cons_zero, List.set_cons_succ])
            refine wpAnyH_take (i := 7) (oi := { dst := some 36, op := Go.Op.move (Go.Operand.tmp 43), type := 33, pos := "law.go:154", after := #[{ on := 6, ground := Go.Ground.data }], guard := none }) (v := ?_) rfl (by kernel_rfl) (by kernel_rfl) (by kernel_rfl) (fun _ _ _ h => h) (Or.inl ⟨by rfl, ?_⟩) hHeld ?_
            rotate_left
            · intro w hSw
              (try dsimp only at hSw)
              go_simp
              all_goals with_reducible rfl
            (try simp only [Act.put, List.setIfInBounds_toArray, List.set_cons_zero, List.set_cons_succ])
            refine wpAnyH_take (i := 8) (oi := { dst := some 44, op := Go.Op.extract (Go.Operand.tmp 36) 0, type := 31, pos := "law.go:154", after := #[{ on := 7, ground := Go.Ground.data }], guard := none }) (v := ?_) rfl (by kernel_rfl) (by kernel_rfl) (by kernel_rfl) (fun _ _ _ h => h) (Or.inl ⟨by rfl, ?_⟩) hHeld ?_
            rotate_left
            · intro w hSw
              (try dsimp only at hSw)
              go_simp
              all_goals with_reducible rfl
            (try simp only [Act.put, List.setIfInBounds_toArray, List.set_cons_zero, List.set_cons_succ])
            refine wpAnyH_take (i := 9) (oi := { dst := some 45, op := Go.Op.extract (Go.Operand.tmp 36) 1, type := 32, pos := "law.go:154", after := #[{ on := 7, ground := Go.Ground.data }, { on := 11, ground := Go.Ground.gcOnly Go.Departure.lateStores }], guard := none }) (v := ?_) rfl (by kernel_rfl) (by kernel_rfl) (by kernel_rfl) (fun _ _ _ h => h) (Or.inl ⟨by rfl, ?_⟩) hHeld ?_
            rotate_left
            · intro w hSw
              (try dsimp only at hSw)
              go_simp
              all_goals with_reducible rfl
            (try simp only [Act.put, List.setIfInBounds_toArray, List.set_cons_zero, List.set_cons_succ])
            refine wpAnyH_ready (rs := [10]) (by kernel_rfl) (by simp) ?_
            refine AllReadyH.cons (o := { dst := some 10, op := Go.Op.alloc 31, type := 0, pos := "law.go:154", after := #[], guard := none }) rfl (fun K hK => ?_) AllReadyH.nil
            go_simp
            have hBa := below_new x3 (.cells #[.slice none 0 0] 31)
            have hBn := hB.out.trans (hBa.mono hB.out.size)
            refine hK.out _ _ (HSX.out _ hBn) (fun hHeld => ?_)
            clear hK K
            (try simp only [Act.put, List.setIfInBounds_toArray, List.set_cons_zero, List.set_cons_succ])
            obtain ⟨g, hg⟩ : ∃ q, q = x3.heap.size := ⟨_, rfl⟩
            obtain ⟨x4, hx4⟩ : ∃ q, q = x3.alloc (.cells #[.slice none 0 0] 31) := ⟨_, rfl⟩
            rw [← hg, ← hx4]
            rw [← hx4] at hBa hBn hHeld
            have HG : Hid (x4.heap[g]? = some (.cells #[.slice none 0 0] 31 (0, 0)) ∧ W4.heap.size ≤ g) := Lib.hid ⟨by rw [hx4, hg]; exact heap_alloc_new _ _, by rw [hg]; exact hB.out.size⟩
            have HMY : Hid (MRd (World.setCell x4 ⟨g, 0, none⟩ (.slice A6 n6 c6)).heap.size (World.setCell x4 ⟨g, 0, none⟩ (.slice A6 n6 c6)) 64 Y (.slice A6 n6 c6)) := Lib.hid (rd_up (hBa.setCell (Nat.le_of_eq hg.symm) (.slice A6 n6 c6)) HM6.out)
            have hBm := Lib.hid hBn
            clear hB hBa hBn hg hx4 HM6
            have hB := hBm
            clear hBm
            have z0 := bx1 HG.out.1
            have fz : x4.frozen? ⟨g, 0, none⟩ = false := by simp [World.frozen?, HG.out.1]
            refine wpAnyH_ready (rs := [11]) (by kernel_rfl) (by simp) ?_
            refine AllReadyH.cons (o := { dst := none, op := Go.Op.store 31 (Go.Operand.tmp 10) (Go.Operand.tmp 44), type := 0, pos := "law.go:154", after := #[{ on := 10, ground := Go.Ground.data }, { on := 8, ground := Go.Ground.data }, { on := 6, ground := Go.Ground.chain }, { on := 0, ground := Go.Ground.phase }, { on := 1, ground := Go.Ground.phase }, { on := 2, ground := Go.Ground.phase }, { on := 3, ground := Go.Ground.phase }, { on := 4, ground := Go.Ground.phase }, { on := 5, ground := Go.Ground.phase }, { on := 6, ground := Go.Ground.phase }, { on := 7, ground := Go.Ground.phase }, { on := 8, ground := Go.Ground.phase }, { on := 9, ground := Go.Ground.textOnly Go.Departure.lateStores }, { on := 10, ground := Go.Ground.phase }], guard := none }) rfl (fun K hK => ?_) AllReadyH.nil
            go_simp
            have HBZ := Lib.hid ((show Below W4.heap.size W4 (World.setCell x4 ⟨g, 0, none⟩ (.slice A6 n6 c6)) from hB.out.setCell HG.out.2 (.slice A6 n6 c6)))
            refine hK.out _ _ (HSX.out _ HBZ.out) (fun hHeld => ?_)
            clear hK K
            (try simp only [Act.put, List.setIfInBounds_toArray, List.set_cons_zero, List.set_cons_succ])
            refine wpAnyH_take (i := 12) (oi := { dst := some 11, op := Go.Op.assign (Go.Operand.tmp 45), type := 32, pos := "law.go:154", after := #[{ on := 9, ground := Go.Ground.data }, { on := 11, ground := Go.Ground.chain }, { on := 0, ground := Go.Ground.phase }, { on := 1, ground := Go.Ground.phase }, { on := 2, ground := Go.Ground.phase }, { on := 3, ground := Go.Ground.phase }, { on := 4, ground := Go.Ground.phase }, { on := 5, ground := Go.Ground.phase }, { on := 6, ground := Go.Ground.phase }, { on := 7, ground := Go.Ground.phase }, { on := 8, ground := Go.Ground.phase }, { on := 9, ground := Go.Ground.phase }, { on := 10, ground := Go.Ground.phase }, { on := 11, ground := Go.Ground.phase }], guard := none }) (v := ?_) rfl (by kernel_rfl) (by kernel_rfl) (by kernel_rfl) (fun _ _ _ h => h) (Or.inl ⟨by rfl, ?_⟩) hHeld ?_
            rotate_left
            · intro w hSw
              (try dsimp only at hSw)
              go_simp
              all_goals with_reducible rfl
            (try simp only [Act.put, List.setIfInBounds_toArray, List.set_cons_zero, List.set_cons_succ])
            refine wpAnyH_done (by kernel_rfl) ?_ _
            obtain ⟨W7, hW7⟩ : ∃ q, q = (World.setCell x4 ⟨g, 0, none⟩ (.slice A6 n6 c6)) := ⟨_, rfl⟩
            have F7 : Below W4.heap.size W4 W7 ∧ W7.heap[g]? = some (.cells #[.slice A6 n6 c6] 31 (0, 0)) ∧ MRd W7.heap.size W7 64 Y (.slice A6 n6 c6) := by rw [hW7]; exact ⟨HBZ.out, Go.heap_setCell_same _ g 0 #[.slice none 0 0] _ _ HG.out.1, HMY.out⟩
            rw [← hW7]
            clear hW7 HBZ z0 fz hB HG HMY hHeld
            revert F7; revert g; revert W7; revert c6; revert n6; revert A6; revert c5; revert A5; revert v3
            exact HGO.out
          · go_simp
            have hBa := below_new x2 (.cells #[.slice none 0 0] 31)
            have hBn := hB.out.trans (hBa.mono hB.out.size)
            refine hK.out _ _ (HSX.out _ hBn) (fun hHeld => ?_)
            clear hK K
            (try simp only [Act.put, List.setIfInBounds_toArray, List.set_cons_zero, List.set_cons_succ])
            obtain ⟨g, hg⟩ : ∃ q, q = x2.heap.size := ⟨_, rfl⟩
            obtain ⟨x3, hx3⟩ : ∃ q, q = x2.alloc (.cells #[.slice none 0 0] 31) := ⟨_, rfl⟩
            rw [← hg, ← hx3]
            rw [← hx3] at hBa hBn hHeld
            have HG : Hid (x3.heap[g]? = some (.cells #[.slice none 0 0] 31 (0, 0)) ∧ W4.heap.size ≤ g) := Lib.hid ⟨by rw [hx3, hg]; exact heap_alloc_new _ _, by rw [hg]; exact hB.out.size⟩
            have HSLn := Lib.hid (HSL.out.on hBa)
            have hBm := Lib.hid hBn
            clear hB hBa hBn hg hx3 HSL
            have hB := hBm
            clear hBm
            have HSL := HSLn
            clear HSLn
            refine wpAnyH_ready (rs := [6]) (by kernel_rfl) (by simp) ?_
            refine AllReadyH.cons (o := { dst := some 43, op := Go.Op.call { callee := Go.Callee.value (Go.Operand.func 14), args := #[Go.Operand.tmp 37, Go.Operand.tmp 38, Go.Operand.tmp 42], argTypes := #[25, 3, 26] }, type := 33, pos := "law.go:154", after := #[{ on := 0, ground := Go.Ground.data }, { on := 1, ground := Go.Ground.data }, { on := 5, ground := Go.Ground.data }, { on := 5, ground := Go.Ground.chain }], guard := none }) rfl (fun K hK => ?_) AllReadyH.nil
            go_simp
            (go_at_call 14; refine (HDC.out A5 c5 (l.length + l.length) z Y (l ++ l) _ (below_then HB4.out.1 hB.out) HSL.out List.length_append HZ.out.1 HZ.out.2 (by omega)).mono ?_; rintro e x4 ⟨⟨A6, n6, c6, rfl, hm6⟩, hBa⟩)
            have hBn := hB.out.trans (hBa.mono hB.out.size)
            have HGn := Lib.hid (And.intro ((hBa.block _ (Array.getElem?_eq_some_iff.1 HG.out.1).1).trans HG.out.1) HG.out.2)
            have hgx := (Array.getElem?_eq_some_iff.1 HG.out.1).1
            have HMY : Hid (MRd (World.setCell x4 ⟨g, 0, none⟩ (.slice A6 n6 c6)).heap.size (World.setCell x4 ⟨g, 0, none⟩ (.slice A6 n6 c6)) 64 Y (.slice A6 n6 c6)) := Lib.hid (own_rd (T9.MAt.imp (Ow.hi (w := x4) (w' := World.setCell x4 ⟨g, 0, none⟩ (.slice A6 n6 c6)) (b := x3.heap.size) (fun q h1 h2 => heap_setCell_other _ ⟨g, 0, none⟩ q _ (by show q ≠ g; omega))) 64 _ _ hm6))
            go_wp2_with fail
            refine hK.out _ _ (HSX.out _ hBn) (fun hHeld => ?_)
            clear hK K
            have hBm := Lib.hid hBn
            clear hB hBa hBn HSL hm6 HG hgx
            have hB := hBm
            clear hBm
            (try simp only [Act.put, List.setIfInBounds_toArray, List.set_cons_zero, List.set_cons_succ])
            have HG := HGn
            clear HGn
            refine wpAnyH_take (i := 7) (oi := { dst := some 36, op := Go.Op.move (Go.Operand.tmp 43), type := 33, pos := "law.go:154", after := #[{ on := 6, ground := Go.Ground.data }], guard := none }) (v := ?_) rfl (by kernel_rfl) (by kernel_rfl) (by kernel_rfl) (fun _ _ _ h => h) (Or.inl ⟨by rfl, ?_⟩) hHeld ?_
            rotate_left
            · intro w hSw
              (try dsimp only at hSw)
              go_simp
              all_goals with_reducible rfl
            (try simp only [Act.put, List.setIfInBounds_toArray, List.set_cons_zero, List.set_cons_succ])
            refine wpAnyH_take (i := 8) (oi := { dst := some 44, op := Go.Op.extract (Go.Operand.tmp 36) 0, type := 31, pos := "law.go:154", after := #[{ on := 7, ground := Go.Ground.data }], guard := none }) (v := ?_) rfl (by kernel_rfl) (by kernel_rfl) (by kernel_rfl) (fun _ _ _ h => h) (Or.inl ⟨by rfl, ?_⟩) hHeld ?_
            rotate_left
            · intro w hSw
              (try dsimp only at hSw)
              go_simp
              all_goals with_reducible rfl
            (try simp only [Act.put, List.setIfInBounds_toArray, List.set_cons_zero, List.set_cons_succ])
            refine wpAnyH_take (i := 9) (oi := { dst := some 45, op := Go.Op.extract (Go.Operand.tmp 36) 1, type := 32, pos := "law.go:154", after := #[{ on := 7, ground := Go.Ground.data }, { on := 11, ground := Go.Ground.gcOnly Go.Departure.lateStores }], guard := none }) (v := ?_) rfl (by kernel_rfl) (by kernel_rfl) (by kernel_rfl) (fun _ _ _ h => h) (Or.inl ⟨by rfl, ?_⟩) hHeld ?_
            rotate_left
            · intro w hSw
              (try dsimp only at hSw)
              go_simp
              all_goals with_reducible rfl
            (try simp only [Act.put, List.setIfInBounds_toArray, List.set_cons_zero, List.set_cons_succ])
            have z0 := bx1 HG.out.1
            have fz : x4.frozen? ⟨g, 0, none⟩ = false := by simp [World.frozen?, HG.out.1]
            refine wpAnyH_ready (rs := [11]) (by kernel_rfl) (by simp) ?_
            refine AllReadyH.cons (o := { dst := none, op := Go.Op.store 31 (Go.Operand.tmp 10) (Go.Operand.tmp 44), type := 0, pos := "law.go:154", after := #[{ on := 10, ground := Go.Ground.data }, { on := 8, ground := Go.Ground.data }, { on := 6, ground := Go.Ground.chain }, { on := 0, ground := Go.Ground.phase }, { on := 1, ground := Go.Ground.phase }, { on := 2, ground := Go.Ground.phase }, { on := 3, ground := Go.Ground.phase }, { on := 4, ground := Go.Ground.phase }, { on := 5, ground := Go.Ground.phase }, { on := 6, ground := Go.Ground.phase }, { on := 7, ground := Go.Ground.phase }, { on := 8, ground := Go.Ground.phase }, { on := 9, ground := Go.Ground.textOnly Go.Departure.lateStores }, { on := 10, ground := Go.Ground.phase }], guard := none }) rfl (fun K hK => ?_) AllReadyH.nil
            go_simp
            have HBZ := Lib.hid ((show Below W4.heap.size W4 (World.setCell x4 ⟨g, 0, none⟩ (.slice A6 n6 c6)) from hB.out.setCell HG.out.2 (.slice A6 n6 c6)))
            refine hK.out _ _ (HSX.out _ HBZ.out) (fun hHeld => ?_)
            clear hK K
            (try simp only [Act.put, List.setIfInBounds_toArray, List.set_cons_zero, List.set_cons_succ])
            refine wpAnyH_take (i := 12) (oi := { dst := some 11, op := Go.Op.assign (Go.Operand.tmp 45), type := 32, pos := "law.go:154", after := #[{ on := 9, ground := Go.Ground.data }, { on := 11, ground := Go.Ground.chain }, { on := 0, ground := Go.Ground.phase }, { on := 1, ground := Go.Ground.phase }, { on := 2, ground := Go.Ground.phase }, { on := 3, ground := Go.Ground.phase }, { on := 4, ground := Go.Ground.phase }, { on := 5, ground := Go.Ground.phase }, { on := 6, ground := Go.Ground.phase }, { on := 7, ground := Go.Ground.phase }, { on := 8, ground := Go.Ground.phase }, { on := 9, ground := Go.Ground.phase }, { on := 10, ground := Go.Ground.phase }, { on := 11, ground := Go.Ground.phase }], guard := none }) (v := ?_) rfl (by kernel_rfl) (by kernel_rfl) (by kernel_rfl) (fun _ _ _ h => h) (Or.inl ⟨by rfl, ?_⟩) hHeld ?_
            rotate_left
            · intro w hSw
              (try dsimp only at hSw)
              go_simp
              all_goals with_reducible rfl
            (try simp only [Act.put, List.setIfInBounds_toArray, List.set_cons_zero, List.set_cons_succ])
            refine wpAnyH_done (by kernel_rfl) ?_ _
            obtain ⟨W7, hW7⟩ : ∃ q, q = (World.setCell x4 ⟨g, 0, none⟩ (.slice A6 n6 c6)) := ⟨_, rfl⟩
            have F7 : Below W4.heap.size W4 W7 ∧ W7.heap[g]? = some (.cells #[.slice A6 n6 c6] 31 (0, 0)) ∧ MRd W7.heap.size W7 64 Y (.slice A6 n6 c6) := by rw [hW7]; exact ⟨HBZ.out, Go.heap_setCell_same _ g 0 #[.slice none 0 0] _ _ HG.out.1, HMY.out⟩
            rw [← hW7]
            clear hW7 HBZ z0 fz hB HG HMY hHeld
            revert F7; revert g; revert W7; revert c6; revert n6; revert A6; revert c5; revert A5; revert v3
            exact HGO.out
        · go_simp
          have hBa := below_new x1 (.cells #[.slice none 0 0] 31)
          have hBn := hB.out.trans (hBa.mono hB.out.size)
          refine hK.out _ _ (HSX.out _ hBn) (fun hHeld => ?_)
          clear hK K
          (try simp only [Act.put, List.setIfInBounds_toArray, List.set_cons_zero, List.set_cons_succ])
          obtain ⟨g, hg⟩ : ∃ q, q = x1.heap.size := ⟨_, rfl⟩
          obtain ⟨x2, hx2⟩ : ∃ q, q = x1.alloc (.cells #[.slice none 0 0] 31) := ⟨_, rfl⟩
          rw [← hg, ← hx2]
          rw [← hx2] at hBa hBn hHeld
          have HG : Hid (x2.heap[g]? = some (.cells #[.slice none 0 0] 31 (0, 0)) ∧ W4.heap.size ≤ g) := Lib.hid ⟨by rw [hx2, hg]; exact heap_alloc_new _ _, by rw [hg]; exact hB.out.size⟩
          have HOWn := Lib.hid (own_hi HOW.out (hi_below W4.heap.size hBa))
          have hBm := Lib.hid hBn
          clear hB hBa hBn hg hx2 HOW
          have hB := hBm
          clear hBm
          have HOW := HOWn
          clear HOWn
          refine wpAnyH_ready (rs := [5]) (by kernel_rfl) (by simp) ?_
          refine AllReadyH.cons (o := { dst := some 42, op := Go.Op.call { callee := Go.Callee.builtin Go.Builtin.append, args := #[Go.Operand.tmp 40, Go.Operand.tmp 41], argTypes := #[26, 26] }, type := 26, pos := "law.go:154", after := #[{ on := 3, ground := Go.Ground.data }, { on := 4, ground := Go.Ground.data }, { on := 3, ground := Go.Ground.chain }], guard := none }) rfl (fun K hK => ?_) AllReadyH.nil
          refine step_app_sl rfl _ _ 26 rfl W4.heap.size 5 i0 (.int .u8 0) 1 1 Tryz.underlying26 hi hz0 hz1 hz2 rfl (by omega) v3 (0 + l.length) ([] ++ bs l) (by simp [Act.eval, Act.put]) HOW.out A l.length c (bs l) (by simp [Act.eval, Act.put]) (HRA.out.on hB.out) (bs_one l) (by unfold maxLen; omega) (by omega) hB.out.size ?_
          intro v5 x3 hown hgr
          have hBn := hB.out.trans (below_app HOW.out hgr hB.out.size)
          have HGn := Lib.hid (And.intro (own_far11 HOW.out hgr HG.out.1 (by decide)) HG.out.2)
          rw [E1.out, E2.out] at hown
          obtain ⟨A5, c5, rfl, hsl⟩ := SlB.of_own hown
          have HSL := Lib.hid hsl
          refine hK.out _ _ (HSX.out _ hBn) (fun hHeld => ?_)
          clear hK K
          have hBm := Lib.hid hBn
          clear hB hBn hgr hown hsl HOW HG
          have hB := hBm
          clear hBm
          (try simp only [Act.put, List.setIfInBounds_toArray, List.set_cons_zero, List.set_cons_succ])
          have HG := HGn
          clear HGn
          refine wpAnyH_ready (rs := [6]) (by kernel_rfl) (by simp) ?_
          refine AllReadyH.cons (o := { dst := some 43, op := Go.Op.call { callee := Go.Callee.value (Go.Operand.func 14), args := #[Go.Operand.tmp 37, Go.Operand.tmp 38, Go.Operand.tmp 42], argTypes := #[25, 3, 26] }, type := 33, pos := "law.go:154", after := #[{ on := 0, ground := Go.Ground.data }, { on := 1, ground := Go.Ground.data }, { on := 5, ground := Go.Ground.data }, { on := 5, ground := Go.Ground.chain }], guard := none }) rfl (fun K hK => ?_) AllReadyH.nil
          go_simp
          (go_at_call 14; refine (HDC.out A5 c5 (l.length + l.length) z Y (l ++ l) _ (below_then HB4.out.1 hB.out) HSL.out List.length_append HZ.out.1 HZ.out.2 (by omega)).mono ?_; rintro e x4 ⟨⟨A6, n6, c6, rfl, hm6⟩, hBa⟩)
          have hBn := hB.out.trans (hBa.mono hB.out.size)
          have HGn := Lib.hid (And.intro ((hBa.block _ (Array.getElem?_eq_some_iff.1 HG.out.1).1).trans HG.out.1) HG.out.2)
          have hgx := (Array.getElem?_eq_some_iff.1 HG.out.1).1
          have HMY : Hid (MRd (World.setCell x4 ⟨g, 0, none⟩ (.slice A6 n6 c6)).heap.size (World.setCell x4 ⟨g, 0, none⟩ (.slice A6 n6 c6)) 64 Y (.slice A6 n6 c6)) := Lib.hid (own_rd (T9.MAt.imp (Ow.hi (w := x4) (w' := World.setCell x4 ⟨g, 0, none⟩ (.slice A6 n6 c6)) (b := x3.heap.size) (fun q h1 h2 => heap_setCell_other _ ⟨g, 0, none⟩ q _ (by show q ≠ g; omega))) 64 _ _ hm6))
          go_wp2_with fail
          refine hK.out _ _ (HSX.out _ hBn) (fun hHeld => ?_)
          clear hK K
          have hBm := Lib.hid hBn
          clear hB hBa hBn HSL hm6 HG hgx
          have hB := hBm
          clear hBm
          (try simp only [Act.put, List.setIfInBounds_toArray, List.set_cons_zero, List.set_cons_succ])
          have HG := HGn
          clear HGn
          refine wpAnyH_take (i := 7) (oi := { dst := some 36, op := Go.Op.move (Go.Operand.tmp 43), type := 33, pos := "law.go:154", after := #[{ on := 6, ground := Go.Ground.data }], guard := none }) (v := ?_) rfl (by kernel_rfl) (by kernel_rfl) (by kernel_rfl) (fun _ _ _ h => h) (Or.inl ⟨by rfl, ?_⟩) hHeld ?_
          rotate_left
          · intro w hSw
            (try dsimp only at hSw)
            go_simp
            all_goals with_reducible rfl
          (try simp only [Act.put, List.setIfInBounds_toArray, List.set_cons_zero, List.set_cons_succ])
          refine wpAnyH_take (i := 8) (oi := { dst := some 44, op := Go.Op.extract (Go.Operand.tmp 36) 0, type := 31, pos := "law.go:154", after := #[{ on := 7, ground := Go.Ground.data }], guard := none }) (v := ?_) rfl (by kernel_rfl) (by kernel_rfl) (by kernel_rfl) (fun _ _ _ h => h) (Or.inl ⟨by rfl, ?_⟩) hHeld ?_
          rotate_left
          · intro w hSw
            (try dsimp only at hSw)
            go_simp
            all_goals with_reducible rfl
          (try simp only [Act.put, List.setIfInBounds_toArray, List.set_cons_zero, List.set_cons_succ])
          refine wpAnyH_take (i := 9) (oi := { dst := some 45, op := Go.Op.extract (Go.Operand.tmp 36) 1, type := 32, pos := "law.go:154", after := #[{ on := 7, ground := Go.Ground.data }, { on := 11, ground := Go.Ground.gcOnly Go.Departure.lateStores }], guard := none }) (v := ?_) rfl (by kernel_rfl) (by kernel_rfl) (by kernel_rfl) (fun _ _ _ h => h) (Or.inl ⟨by rfl, ?_⟩) hHeld ?_
          rotate_left
          · intro w hSw
            (try dsimp only at hSw)
            go_simp
            all_goals with_reducible rfl
          (try simp only [Act.put, List.setIfInBounds_toArray, List.set_cons_zero, List.set_cons_succ])
          have z0 := bx1 HG.out.1
          have fz : x4.frozen? ⟨g, 0, none⟩ = false := by simp [World.frozen?, HG.out.1]
          refine wpAnyH_ready (rs := [11]) (by kernel_rfl) (by simp) ?_
          refine AllReadyH.cons (o := { dst := none, op := Go.Op.store 31 (Go.Operand.tmp 10) (Go.Operand.tmp 44), type := 0, pos := "law.go:154", after := #[{ on := 10, ground := Go.Ground.data }, { on := 8, ground := Go.Ground.data }, { on := 6, ground := Go.Ground.chain }, { on := 0, ground := Go.Ground.phase }, { on := 1, ground := Go.Ground.phase }, { on := 2, ground := Go.Ground.phase }, { on := 3, ground := Go.Ground.phase }, { on := 4, ground := Go.Ground.phase }, { on := 5, ground := Go.Ground.phase }, { on := 6, ground := Go.Ground.phase }, { on := 7, ground := Go.Ground.phase }, { on := 8, ground := Go.Ground.phase }, { on := 9, ground := Go.Ground.textOnly Go.Departure.lateStores }, { on := 10, ground := Go.Ground.phase }], guard := none }) rfl (fun K hK => ?_) AllReadyH.nil
          go_simp
          have HBZ := Lib.hid ((show Below W4.heap.size W4 (World.setCell x4 ⟨g, 0, none⟩ (.slice A6 n6 c6)) from hB.out.setCell HG.out.2 (.slice A6 n6 c6)))
          refine hK.out _ _ (HSX.out _ HBZ.out) (fun hHeld => ?_)
          clear hK K
          (try simp only [Act.put, List.setIfInBounds_toArray, List.set_cons_zero, List.set_cons_succ])
          refine wpAnyH_take (i := 12) (oi := { dst := some 11, op := Go.Op.assign (Go.Operand.tmp 45), type := 32, pos := "law.go:154", after := #[{ on := 9, ground := Go.Ground.data }, { on := 11, ground := Go.Ground.chain }, { on := 0, ground := Go.Ground.phase }, { on := 1, ground := Go.Ground.phase }, { on := 2, ground := Go.Ground.phase }, { on := 3, ground := Go.Ground.phase }, { on := 4, ground := Go.Ground.phase }, { on := 5, ground := Go.Ground.phase }, { on := 6, ground := Go.Ground.phase }, { on := 7, ground := Go.Ground.phase }, { on := 8, ground := Go.Ground.phase }, { on := 9, ground := Go.Ground.phase }, { on := 10, ground := Go.Ground.phase }, { on := 11, ground := Go.Ground.phase }], guard := none }) (v := ?_) rfl (by kernel_rfl) (by kernel_rfl) (by kernel_rfl) (fun _ _ _ h => h) (Or.inl ⟨by rfl, ?_⟩) hHeld ?_
          rotate_left
          · intro w hSw
            (try dsimp only at hSw)
            go_simp
            all_goals with_reducible rfl
          (try simp only [Act.put, List.setIfInBounds_toArray, List.set_cons_zero, List.set_cons_succ])
          refine wpAnyH_done (by kernel_rfl) ?_ _
          obtain ⟨W7, hW7⟩ : ∃ q, q = (World.setCell x4 ⟨g, 0, none⟩ (.slice A6 n6 c6)) := ⟨_, rfl⟩
          have F7 : Below W4.heap.size W4 W7 ∧ W7.heap[g]? = some (.cells #[.slice A6 n6 c6] 31 (0, 0)) ∧ MRd W7.heap.size W7 64 Y (.slice A6 n6 c6) := by rw [hW7]; exact ⟨HBZ.out, Go.heap_setCell_same _ g 0 #[.slice none 0 0] _ _ HG.out.1, HMY.out⟩
          rw [← hW7]
          clear hW7 HBZ z0 fz hB HG HMY hHeld
          revert F7; revert g; revert W7; revert c6; revert n6; revert A6; revert c5; revert A5; revert v3
          exact HGO.out
      · go_simp
        have hBa := below_new x0 (.cells #[.slice none 0 0] 31)
        have hBn := hB.out.trans (hBa.mono hB.out.size)
        refine hK.out _ _ (HSX.out _ hBn) (fun hHeld => ?_)
        clear hK K
        (try simp only [Act.put, List.setIfInBounds_toArray, List.set_cons_zero, List.set_cons_succ])
        obtain ⟨g, hg⟩ : ∃ q, q = x0.heap.size := ⟨_, rfl⟩
        obtain ⟨x1, hx1⟩ : ∃ q, q = x0.alloc (.cells #[.slice none 0 0] 31) := ⟨_, rfl⟩
        rw [← hg, ← hx1]
        rw [← hx1] at hBa hBn hHeld
        have HG : Hid (x1.heap[g]? = some (.cells #[.slice none 0 0] 31 (0, 0)) ∧ W4.heap.size ≤ g) := Lib.hid ⟨by rw [hx1, hg]; exact heap_alloc_new _ _, by rw [hg]; exact hB.out.size⟩
        have hBm := Lib.hid hBn
        clear hB hBa hBn hg hx1
        have hB := hBm
        clear hBm
        refine wpAnyH_ready (rs := [3]) (by kernel_rfl) (by simp) ?_
        refine AllReadyH.cons (o := { dst := some 40, op := Go.Op.call { callee := Go.Callee.builtin Go.Builtin.append, args := #[Go.Operand.const (Go.Value.slice none 0 0), Go.Operand.tmp 39], argTypes := #[26, 26] }, type := 26, pos := "law.go:154", after := #[{ on := 2, ground := Go.Ground.data }], guard := none }) rfl (fun K hK => ?_) AllReadyH.nil
        refine step_app_sl rfl _ _ 26 rfl W4.heap.size 5 i0 (.int .u8 0) 1 1 Tryz.underlying26 hi hz0 hz1 hz2 rfl (by omega) (.slice none 0 0) 0 [] (by simp [Act.eval, Act.put]) (World.ownsRow_nil _ _ _ _) A l.length c (bs l) (by simp [Act.eval, Act.put]) (HRA.out.on hB.out) (bs_one l) (by unfold maxLen; omega) (by omega) hB.out.size ?_
        intro v3 x2 hown hgr
        have hBa : Below x1.heap.size x1 x2 := (Below.refl _ _).grown hgr (Nat.le_refl _) (by intro k hk; cases hk)
        have hBn := hB.out.trans (hBa.mono hB.out.size)
        have HGn := Lib.hid (And.intro ((hBa.block _ (Array.getElem?_eq_some_iff.1 HG.out.1).1).trans HG.out.1) HG.out.2)
        have HOW := Lib.hid hown
        refine hK.out _ _ (HSX.out _ hBn) (fun hHeld => ?_)
        clear hK K
        have hBm := Lib.hid hBn
        clear hB hBa hBn hgr hown HG
        have hB := hBm
        clear hBm
        (try simp only [Act.put, List.setIfInBounds_toArray, List.set_cons_zero, List.set_cons_succ])
        have HG := HGn
        clear HGn
        refine wpAnyH_ready (rs := [5]) (by kernel_rfl) (by simp) ?_
        refine AllReadyH.cons (o := { dst := some 42, op := Go.Op.call { callee := Go.Callee.builtin Go.Builtin.append, args := #[Go.Operand.tmp 40, Go.Operand.tmp 41], argTypes := #[26, 26] }, type := 26, pos := "law.go:154", after := #[{ on := 3, ground := Go.Ground.data }, { on := 4, ground := Go.Ground.data }, { on := 3, ground := Go.Ground.chain }], guard := none }) rfl (fun K hK => ?_) AllReadyH.nil
        refine step_app_sl rfl _ _ 26 rfl W4.heap.size 5 i0 (.int .u8 0) 1 1 Tryz.underlying26 hi hz0 hz1 hz2 rfl (by omega) v3 (0 + l.length) ([] ++ bs l) (by simp [Act.eval, Act.put]) HOW.out A l.length c (bs l) (by simp [Act.eval, Act.put]) (HRA.out.on hB.out) (bs_one l) (by unfold maxLen; omega) (by omega) hB.out.size ?_
        intro v5 x3 hown hgr
        have hBn := hB.out.trans (below_app HOW.out hgr hB.out.size)
        have HGn := Lib.hid (And.intro (own_far11 HOW.out hgr HG.out.1 (by decide)) HG.out.2)
        rw [E1.out, E2.out] at hown
        obtain ⟨A5, c5, rfl, hsl⟩ := SlB.of_own hown
        have HSL := Lib.hid hsl
        refine hK.out _ _ (HSX.out _ hBn) (fun hHeld => ?_)
        clear hK K
        have hBm := Lib.hid hBn
        clear hB hBn hgr hown hsl HOW HG
        have hB := hBm
        clear hBm
        (try simp only [Act.put, List.setIfInBounds_toArray, List.set_cons_zero, List.set_cons_succ])
        have HG := HGn
        clear HGn
        refine wpAnyH_ready (rs := [6]) (by kernel_rfl) (by simp) ?_
        refine AllReadyH.cons (o := { dst := some 43, op := Go.Op.call { callee := Go.Callee.value (Go.Operand.func 14), args := #[Go.Operand.tmp 37, Go.Operand.tmp 38, Go.Operand.tmp 42], argTypes := #[25, 3, 26] }, type := 33, pos := "law.go:154", after := #[{ on := 0, ground := Go.Ground.data }, { on := 1, ground := Go.Ground.data }, { on := 5, ground := Go.Ground.data }, { on := 5, ground := Go.Ground.chain }], guard := none }) rfl (fun K hK => ?_) AllReadyH.nil
        go_simp
        (go_at_call 14; refine (HDC.out A5 c5 (l.length + l.length) z Y (l ++ l) _ (below_then HB4.out.1 hB.out) HSL.out List.length_append HZ.out.1 HZ.out.2 (by omega)).mono ?_; rintro e x4 ⟨⟨A6, n6, c6, rfl, hm6⟩, hBa⟩)
        have hBn := hB.out.trans (hBa.mono hB.out.size)
        have HGn := Lib.hid (And.intro ((hBa.block _ (Array.getElem?_eq_some_iff.1 HG.out.1).1).trans HG.out.1) HG.out.2)
        have hgx := (Array.getElem?_eq_some_iff.1 HG.out.1).1
        have HMY : Hid (MRd (World.setCell x4 ⟨g, 0, none⟩ (.slice A6 n6 c6)).heap.size (World.setCell x4 ⟨g, 0, none⟩ (.slice A6 n6 c6)) 64 Y (.slice A6 n6 c6)) := Lib.hid (own_rd (T9.MAt.imp (Ow.hi (w := x4) (w' := World.setCell x4 ⟨g, 0, none⟩ (.slice A6 n6 c6)) (b := x3.heap.size) (fun q h1 h2 => heap_setCell_other _ ⟨g, 0, none⟩ q _ (by show q ≠ g; omega))) 64 _ _ hm6))
        go_wp2_with fail
        refine hK.out _ _ (HSX.out _ hBn) (fun hHeld => ?_)
        clear hK K
        have hBm := Lib.hid hBn
        clear hB hBa hBn HSL hm6 HG hgx
        have hB := hBm
        clear hBm
        (try simp only [Act.put, List.setIfInBounds_toArray, List.set_cons_zero, List.set_cons_succ])
        have HG := HGn
        clear HGn
        refine wpAnyH_take (i := 7) (oi := { dst := some 36, op := Go.Op.move (Go.Operand.tmp 43), type := 33, pos := "law.go:154", after := #[{ on := 6, ground := Go.Ground.data }], guard := none }) (v := ?_) rfl (by kernel_rfl) (by kernel_rfl) (by kernel_rfl) (fun _ _ _ h => h) (Or.inl ⟨by rfl, ?_⟩) hHeld ?_
        rotate_left
        · intro w hSw
          (try dsimp only at hSw)
          go_simp
          all_goals with_reducible rfl
        (try simp only [Act.put, List.setIfInBounds_toArray, List.set_cons_zero, List.set_cons_succ])
        refine wpAnyH_take (i := 8) (oi := { dst := some 44, op := Go.Op.extract (Go.Operand.tmp 36) 0, type := 31, pos := "law.go:154", after := #[{ on := 7, ground := Go.Ground.data }], guard := none }) (v := ?_) rfl (by kernel_rfl) (by kernel_rfl) (by kernel_rfl) (fun _ _ _ h => h) (Or.inl ⟨by rfl, ?_⟩) hHeld ?_
        rotate_left
        · intro w hSw
          (try dsimp only at hSw)
          go_simp
          all_goals with_reducible rfl
        (try simp only [Act.put, List.setIfInBounds_toArray, List.set_cons_zero, List.set_cons_succ])
        refine wpAnyH_take (i := 9) (oi := { dst := some 45, op := Go.Op.extract (Go.Operand.tmp 36) 1, type := 32, pos := "law.go:154", after := #[{ on := 7, ground := Go.Ground.data }, { on := 11, ground := Go.Ground.gcOnly Go.Departure.lateStores }], guard := none }) (v := ?_) rfl (by kernel_rfl) (by kernel_rfl) (by kernel_rfl) (fun _ _ _ h => h) (Or.inl ⟨by rfl, ?_⟩) hHeld ?_
        rotate_left
        · intro w hSw
          (try dsimp only at hSw)
          go_simp
          all_goals with_reducible rfl
        (try simp only [Act.put, List.setIfInBounds_toArray, List.set_cons_zero, List.set_cons_succ])
        have z0 := bx1 HG.out.1
        have fz : x4.frozen? ⟨g, 0, none⟩ = false := by simp [World.frozen?, HG.out.1]
        refine wpAnyH_ready (rs := [11]) (by kernel_rfl) (by simp) ?_
        refine AllReadyH.cons (o := { dst := none, op := Go.Op.store 31 (Go.Operand.tmp 10) (Go.Operand.tmp 44), type := 0, pos := "law.go:154", after := #[{ on := 10, ground := Go.Ground.data }, { on := 8, ground := Go.Ground.data }, { on := 6, ground := Go.Ground.chain }, { on := 0, ground := Go.Ground.phase }, { on := 1, ground := Go.Ground.phase }, { on := 2, ground := Go.Ground.phase }, { on := 3, ground := Go.Ground.phase }, { on := 4, ground := Go.Ground.phase }, { on := 5, ground := Go.Ground.phase }, { on := 6, ground := Go.Ground.phase }, { on := 7, ground := Go.Ground.phase }, { on := 8, ground := Go.Ground.phase }, { on := 9, ground := Go.Ground.textOnly Go.Departure.lateStores }, { on := 10, ground := Go.Ground.phase }], guard := none }) rfl (fun K hK => ?_) AllReadyH.nil
        go_simp
        have HBZ := Lib.hid ((show Below W4.heap.size W4 (World.setCell x4 ⟨g, 0, none⟩ (.slice A6 n6 c6)) from hB.out.setCell HG.out.2 (.slice A6 n6 c6)))
        refine hK.out _ _ (HSX.out _ HBZ.out) (fun hHeld => ?_)
        clear hK K
        (try simp only [Act.put, List.setIfInBounds_toArray, List.set_cons_zero, List.set_cons_succ])
        refine wpAnyH_take (i := 12) (oi := { dst := some 11, op := Go.Op.assign (Go.Operand.tmp 45), type := 32, pos := "law.go:154", after := #[{ on := 9, ground := Go.Ground.data }, { on := 11, ground := Go.Ground.chain }, { on := 0, ground := Go.Ground.phase }, { on := 1, ground := Go.Ground.phase }, { on := 2, ground := Go.Ground.phase }, { on := 3, ground := Go.Ground.phase }, { on := 4, ground := Go.Ground.phase }, { on := 5, ground := Go.Ground.phase }, { on := 6, ground := Go.Ground.phase }, { on := 7, ground := Go.Ground.phase }, { on := 8, ground := Go.Ground.phase }, { on := 9, ground := Go.Ground.phase }, { on := 10, ground := Go.Ground.phase }, { on := 11, ground := Go.Ground.phase }], guard := none }) (v := ?_) rfl (by kernel_rfl) (by kernel_rfl) (by kernel_rfl) (fun _ _ _ h => h) (Or.inl ⟨by rfl, ?_⟩) hHeld ?_
        rotate_left
        · intro w hSw
          (try dsimp only at hSw)
          go_simp
          all_goals with_reducible rfl
        (try simp only [Act.put, List.setIfInBounds_toArray, List.set_cons_zero, List.set_cons_succ])
        refine wpAnyH_done (by kernel_rfl) ?_ _
        obtain ⟨W7, hW7⟩ : ∃ q, q = (World.setCell x4 ⟨g, 0, none⟩ (.slice A6 n6 c6)) := ⟨_, rfl⟩
        have F7 : Below W4.heap.size W4 W7 ∧ W7.heap[g]? = some (.cells #[.slice A6 n6 c6] 31 (0, 0)) ∧ MRd W7.heap.size W7 64 Y (.slice A6 n6 c6) := by rw [hW7]; exact ⟨HBZ.out, Go.heap_setCell_same _ g 0 #[.slice none 0 0] _ _ HG.out.1, HMY.out⟩
        rw [← hW7]
        clear hW7 HBZ z0 fz hB HG HMY hHeld
        revert F7; revert g; revert W7; revert c6; revert n6; revert A6; revert c5; revert A5; revert v3
        exact HGO.out
    intro v3 A5 c5 A6 n6 c6 W7 g F7
    obtain ⟨hb47, hg7, hy7⟩ := F7
    have hx7 := rd_up hb47 HB4.out.2.2.2
    have hb07 := below_then HB4.out.1 hb47
    have Y7 := box_on HB4.out.2.1 hb47
    have T7 := box_on HB4.out.2.2.1 hb47
    clear hb47 HB4 HSX HDC HR HRA HX HZ E1 E2 E3
    by_cases h0 : x = 0
    case neg =>
      have b1 : ((x : Int) != 0) = true := by simp [h0]
      by_cases h2 : z = x
      · have b2 : ((z : Int) == (x : Int)) = true := by simp [h2]
        clear h0 h2
        go_wp2
        go_ret
        first | exact ⟨rfl, hb07⟩ | exact ⟨by simp [b2], hb07⟩
      · have h6 : x = 6 := (HFF.out.2 h0).resolve_right h2
        subst h6
        have b2 : ((z : Int) == 6) = false := by simp; omega
        clear h0 h2
        go_wp2
        go_ret
        first | exact ⟨rfl, hb07⟩ | exact ⟨by simp, hb07⟩
    obtain ⟨hzz, hlen, hrel0⟩ := HFF.out.1 h0
    have b1 : ((x : Int) != 0) = false := by rw [h0]; rfl
    have b2 : ((z : Int) != 0) = false := by rw [hzz]; rfl
    clear h0 hzz
    obtain ⟨Ax, cx, xs, he, hs1, hB1, hr1, hn1⟩ := mrd_open (D := 63) hx7
    obtain ⟨rfl, rfl, rfl⟩ := Value.slice.inj he
    obtain ⟨Ay, cy, ys, he, hs2, hB2, hr2, hn2⟩ := mrd_open (D := 63) hy7
    obtain ⟨rfl, rfl, rfl⟩ := Value.slice.inj he
    have blen : ((X.F.length : Int) != (Y.F.length : Int)) = false := by rw [hlen]; exact bne_self_eq_false _
    have HS1 := Lib.hid hs1
    have HR1 := Lib.hid hr1
    have HB1 := Lib.hid hB1
    have HS2 := Lib.hid hs2
    have HR2 := Lib.hid hr2
    have HB2 := Lib.hid hB2
    have HREL := Lib.hid hrel0
    have HLEN := Lib.hid hlen
    have x7 := bx1 T7
    have g7 := bx1 hg7
    have HW := Lib.hid (And.intro hb07 (And.intro Y7 (And.intro T7 hg7)))
    clear hs1 hr1 hB1 hs2 hr2 hB2 hrel0 hlen hx7 hy7 hb07 Y7 T7 hg7 HFF he
    go_wp2
    clear x7 g7
    go_loopw [12, 13, 14] (fun i p q wr => ∃ k : Nat, i = .int .i64 k ∧ k ≤ X.F.length ∧ Below W7.heap.size W7 wr) (fun i _ _ _ => X.F.length - (intOf i).toNat)
    case atStart => exact ⟨0, rfl, Nat.zero_le _, Below.refl _ _⟩
    case round =>
      obtain ⟨k, rfl, hk, hbw⟩ := hrel
      have hb0r := below_then HW.out.1 hbw
      have Y8 := box_on HW.out.2.1 hbw
      have T8 := box_on HW.out.2.2.1 hbw
      have G8 := box_on HW.out.2.2.2 hbw
      have x8 := bx1 T8
      by_cases hlt : k < X.F.length
      · have hlt2 : k < Y.F.length := by rw [← HLEN.out]; exact hlt
        obtain ⟨a, ha⟩ : ∃ a, X.F[k]? = some a := ⟨_, List.getElem?_eq_getElem hlt⟩
        obtain ⟨cc, hc⟩ : ∃ a, Y.F[k]? = some a := ⟨_, List.getElem?_eq_getElem hlt2⟩
        obtain ⟨f, hf, hRel⟩ := HREL.out k a cc ha hc
        have hlo := Lo.below hbw (Nat.le_refl _)
        obtain ⟨ad1, x1, k1, v1, rfl, hg1, hc1, p0, p1, p2⟩ := row3 sAt.len (sl_low HS1.out HB1.out hlo) (HR1.out.imp fun a cs h => SRd.low hlo h) ha
        obtain ⟨ad2, x2, k2, v2, rfl, hg2, hc2, r0, r1, r2⟩ := row3 sAt.len (sl_low HS2.out HB2.out hlo) (HR2.out.imp fun a cs h => SRd.low hlo h) hc
        obtain ⟨rfl, hk1, hv1⟩ := hc1.parts
        obtain ⟨rfl, hk2, hv2⟩ := hc2.parts
        have HKC := Lib.hid (fun wx (hx : Below wr.heap.size wr wx) => vals_any (rsame_any9 _ 63) a.K cc.K k1 k2 wx (Nat.le_trans hbw.size hx.size) (hk1.low (Lo.below hx hbw.size) fun a cs h => VRd.low (Lo.below hx hbw.size) h) (hk2.low (Lo.below hx hbw.size) fun a cs h => VRd.low (Lo.below hx hbw.size) h))
        have HVC := Lib.hid (fun wx (hx : Below wr.heap.size wr wx) => vals_any (rsame_any9 _ 63) a.V cc.V v1 v2 wx (Nat.le_trans hbw.size hx.size) (hv1.low (Lo.below hx hbw.size) fun a cs h => VRd.low (Lo.below hx hbw.size) h) (hv2.low (Lo.below hx hbw.size) fun a cs h => VRd.low (Lo.below hx hbw.size) h))
        rw [eqB_yes hRel.K.symm] at HKC
        obtain ⟨B1, e1, ys1, rfl, -, -, -, hvn1⟩ := hv1.open_
        obtain ⟨B2, e2, ys2, rfl, -, -, -, hvn2⟩ := hv2.open_
        have HBY := Lib.hid (fun wx (hx : Below wr.heap.size wr wx) => rBy_any wx.heap.size s _ _ m a.no wx (Nat.le_refl _) (HS.out _ (below_then hb0r hx)))
        rw [hf] at HBY
        unfold foundV at HBY
        simp only [DC, Option.getD_some, Option.isSome_some] at HBY
        obtain ⟨y1, y2⟩ := box2' Y8
        have HSX : Hid (∀ wx, Below wr.heap.size wr wx → wx.cell? ⟨w.heap.size, 0, none⟩ = some (.slice A1 s.M.length q1) ∧ wx.cell? ⟨w.heap.size, 1, none⟩ = some (.slice A2 s.E.length q2) ∧ wx.cell? ⟨p3, 0, none⟩ = some (.slice (some ad1) X.F.length c3) ∧ wx.cell? (ad1.add (k * 3)) = some (.int .i64 a.no)) := Lib.hid (fun wx hx => ⟨cell_on hx y1, cell_on hx y2, cell_on hx x8, cell_on hx p0⟩)
        have hDx : Below wr.heap.size wr wr.drew := (Below.refl _ _).drew
        have HKL := Lib.hid hlt
        have HKL2 := Lib.hid hlt2
        have g8 := bx1 G8
        have HP := Lib.hid (And.intro x8 (And.intro g8 (And.intro p0 (And.intro p1 (And.intro p2 (And.intro r0 (And.intro r1 r2)))))))
        have HRl := Lib.hid hRel
        have HB8 := Lib.hid (And.intro hb0r hbw)
        have HVN := Lib.hid (And.intro hvn1 hvn2)
        clear ha hc hf hRel hlo hc1 hc2 hk1 hv1 hk2 hv2 Y8 T8 G8 g8 hb0r hbw hvn1 hvn2 p1 p2 r0 r1 r2
        go_wp2_with fail
        apply once
        · intro HGO
          refine wp_region_held_drew (S := (fun wx => wx.cell? ⟨w.heap.size, 0, none⟩ = some (.slice A1 s.M.length q1) ∧ wx.cell? ⟨w.heap.size, 1, none⟩ = some (.slice A2 s.E.length q2) ∧ wx.cell? ⟨p3, 0, none⟩ = some (.slice (some ad1) X.F.length c3) ∧ wx.cell? (ad1.add (k * 3)) = some (.int .i64 a.no))) (by kernel_rfl) (HSX.out _ hDx) (fun hHeld => ?_)
          refine wpAnyH_take (i := 0) (oi := { dst := some 74, op := Go.Op.load 25 (Go.Operand.tmp 3), type := 25, pos := "law.go:162", after := #[], guard := none }) (v := ?_) rfl (by kernel_rfl) (by kernel_rfl) (by kernel_rfl) (fun _ _ _ h => h) (Or.inl ⟨by rfl, ?_⟩) hHeld ?_
          rotate_left
          · intro w hSw
            (try dsimp only at hSw)
            go_simp
            all_goals with_reducible rfl
          (try simp only [Act.put, List.setIfInBounds_toArray, List.set_cons_zero, List.set_cons_succ])
          refine wpAnyH_take (i := 1) (oi := { dst := some 75, op := Go.Op.move (Go.Operand.tmp 1), type := 3, pos := "law.go:162", after := #[], guard := none }) (v := ?_) rfl (by kernel_rfl) (by kernel_rfl) (by kernel_rfl) (fun _ _ _ h => h) (Or.inl ⟨by rfl, ?_⟩) hHeld ?_
          rotate_left
          · intro w hSw
            (try dsimp only at hSw)
            go_simp
            all_goals with_reducible rfl
          (try simp only [Act.put, List.setIfInBounds_toArray, List.set_cons_zero, List.set_cons_succ])
          refine wpAnyH_take (i := 2) (oi := { dst := some 76, op := Go.Op.fieldAddr 31 (Go.Operand.tmp 8) 0, type := 0, pos := "law.go:162", after := #[], guard := none }) (v := ?_) rfl (by kernel_rfl) (by kernel_rfl) (by kernel_rfl) (fun _ _ _ h => h) (Or.inl ⟨by rfl, ?_⟩) hHeld ?_
          rotate_left
          · intro w hSw
            (try dsimp only at hSw)
            go_simp
            all_goals with_reducible rfl
          (try simp only [Act.put, List.setIfInBounds_toArray, List.set_cons_zero, List.set_cons_succ])
          refine wpAnyH_take (i := 3) (oi := { dst := some 77, op := Go.Op.load 29 (Go.Operand.tmp 76), type := 29, pos := "law.go:162", after := #[{ on := 2, ground := Go.Ground.data }], guard := none }) (v := ?_) rfl (by kernel_rfl) (by kernel_rfl) (by kernel_rfl) (fun _ _ _ h => h) (Or.inl ⟨by rfl, ?_⟩) hHeld ?_
          rotate_left
          · intro w hSw
            (try dsimp only at hSw)
            go_simp
            all_goals with_reducible rfl
          (try simp only [Act.put, List.setIfInBounds_toArray, List.set_cons_zero, List.set_cons_succ])
          refine wpAnyH_take (i := 4) (oi := { dst := some 78, op := Go.Op.move (Go.Operand.tmp 12), type := 3, pos := "law.go:162", after := #[], guard := none }) (v := ?_) rfl (by kernel_rfl) (by kernel_rfl) (by kernel_rfl) (fun _ _ _ h => h) (Or.inl ⟨by rfl, ?_⟩) hHeld ?_
          rotate_left
          · intro w hSw
            (try dsimp only at hSw)
            go_simp
            all_goals with_reducible rfl
          (try simp only [Act.put, List.setIfInBounds_toArray, List.set_cons_zero, List.set_cons_succ])
          refine wpAnyH_take (i := 5) (oi := { dst := some 79, op := Go.Op.indexAddr 29 (Go.Operand.tmp 77) (Go.Operand.tmp 78), type := 0, pos := "law.go:162", after := #[{ on := 3, ground := Go.Ground.data }, { on := 4, ground := Go.Ground.data }], guard := none }) (v := ?_) rfl (by kernel_rfl) (by kernel_rfl) (by kernel_rfl) (fun _ _ _ h => h) (Or.inl ⟨by rfl, ?_⟩) hHeld ?_
          rotate_left
          · intro w hSw
            (try dsimp only at hSw)
            go_simp
            all_goals with_reducible rfl
          (try simp only [Act.put, List.setIfInBounds_toArray, List.set_cons_zero, List.set_cons_succ])
          refine wpAnyH_take (i := 6) (oi := { dst := some 80, op := Go.Op.fieldAddr 67 (Go.Operand.tmp 79) 0, type := 0, pos := "law.go:162", after := #[{ on := 5, ground := Go.Ground.data }], guard := none }) (v := ?_) rfl (by kernel_rfl) (by kernel_rfl) (by kernel_rfl) (fun _ _ _ h => h) (Or.inl ⟨by rfl, ?_⟩) hHeld ?_
          rotate_left
          · intro w hSw
            (try dsimp only at hSw)
            go_simp
            all_goals with_reducible rfl
          (try simp only [Act.put, List.setIfInBounds_toArray, List.set_cons_zero, List.set_cons_succ])
          refine wpAnyH_take (i := 7) (oi := { dst := some 81, op := Go.Op.load 3 (Go.Operand.tmp 80), type := 3, pos := "law.go:162", after := #[{ on := 6, ground := Go.Ground.data }], guard := none }) (v := ?_) rfl (by kernel_rfl) (by kernel_rfl) (by kernel_rfl) (fun _ _ _ h => h) (Or.inl ⟨by rfl, ?_⟩) hHeld ?_
          rotate_left
          · intro w hSw
            (try dsimp only at hSw)
            go_simp
            all_goals with_reducible rfl
          (try simp only [Act.put, List.setIfInBounds_toArray, List.set_cons_zero, List.set_cons_succ])
          refine wpAnyH_ready (rs := [8, 12]) (by kernel_rfl) (by simp) ?_
          refine AllReadyH.cons (o := { dst := some 82, op := Go.Op.call { callee := Go.Callee.value (Go.Operand.func 18), args := #[Go.Operand.tmp 74, Go.Operand.tmp 75, Go.Operand.tmp 81], argTypes := #[25, 3, 3] }, type := 46, pos := "law.go:162", after := #[{ on := 0, ground := Go.Ground.data }, { on := 1, ground := Go.Ground.data }, { on := 7, ground := Go.Ground.data }], guard := none }) rfl (fun K hK => ?_) (AllReadyH.cons (o := { dst := some 13, op := Go.Op.alloc 45, type := 0, pos := "law.go:162", after := #[], guard := none }) rfl (fun K hK => ?_) AllReadyH.nil)
          · go_simp
            (go_at_call 18; (with_reducible refine (HBY.out _ hDx).mono ?_); rintro e w11 ⟨rfl, hb11⟩; have L11 := below_then hDx hb11)
            go_wp2_with fail
            refine hK.out _ _ (HSX.out _ L11) (fun hHeld => ?_)
            clear hK K
            (try simp only [Act.put, List.setIfInBounds_toArray, List.set_cons_zero, List.set_cons_succ])
            refine wpAnyH_take (i := 9) (oi := { dst := some 73, op := Go.Op.move (Go.Operand.tmp 82), type := 46, pos := "law.go:162", after := #[{ on := 8, ground := Go.Ground.data }], guard := none }) (v := ?_) rfl (by kernel_rfl) (by kernel_rfl) (by kernel_rfl) (fun _ _ _ h => h) (Or.inl ⟨by rfl, ?_⟩) hHeld ?_
            rotate_left
            · intro w hSw
              (try dsimp only at hSw)
              go_simp
              all_goals with_reducible rfl
            (try simp only [Act.put, List.setIfInBounds_toArray, List.set_cons_zero, List.set_cons_succ])
            refine wpAnyH_take (i := 10) (oi := { dst := some 83, op := Go.Op.extract (Go.Operand.tmp 73) 0, type := 45, pos := "law.go:162", after := #[{ on := 9, ground := Go.Ground.data }], guard := none }) (v := ?_) rfl (by kernel_rfl) (by kernel_rfl) (by kernel_rfl) (fun _ _ _ h => h) (Or.inl ⟨by rfl, ?_⟩) hHeld ?_
            rotate_left
            · intro w hSw
              (try dsimp only at hSw)
              go_simp
              all_goals with_reducible rfl
            (try simp only [Act.put, List.setIfInBounds_toArray, List.set_cons_zero, List.set_cons_succ])
            refine wpAnyH_take (i := 11) (oi := { dst := some 84, op := Go.Op.extract (Go.Operand.tmp 73) 1, type := 4, pos := "law.go:162", after := #[{ on := 9, ground := Go.Ground.data }, { on := 13, ground := Go.Ground.gcOnly Go.Departure.lateStores }], guard := none }) (v := ?_) rfl (by kernel_rfl) (by kernel_rfl) (by kernel_rfl) (fun _ _ _ h => h) (Or.inl ⟨by rfl, ?_⟩) hHeld ?_
            rotate_left
            · intro w hSw
              (try dsimp only at hSw)
              go_simp
              all_goals with_reducible rfl
            (try simp only [Act.put, List.setIfInBounds_toArray, List.set_cons_zero, List.set_cons_succ])
            refine wpAnyH_ready (rs := [12]) (by kernel_rfl) (by simp) ?_
            refine AllReadyH.cons (o := { dst := some 13, op := Go.Op.alloc 45, type := 0, pos := "law.go:162", after := #[], guard := none }) rfl (fun K hK => ?_) AllReadyH.nil
            go_simp
            refine hK.out _ _ (HSX.out _ (below_then L11 (below_new w11 (.cells #[.int .i64 0, .string ⟨#[]⟩, .int .i64 0, .int .i64 0, .bool false, .int .i64 0, .int .i64 0] 45)))) (fun hHeld => ?_)
            clear hK K
            (try simp only [Act.put, List.setIfInBounds_toArray, List.set_cons_zero, List.set_cons_succ])
            refine wpAnyH_ready (rs := [13]) (by kernel_rfl) (by simp) ?_
            refine AllReadyH.cons (o := { dst := none, op := Go.Op.store 45 (Go.Operand.tmp 13) (Go.Operand.tmp 83), type := 0, pos := "law.go:162", after := #[{ on := 12, ground := Go.Ground.data }, { on := 10, ground := Go.Ground.data }, { on := 8, ground := Go.Ground.chain }, { on := 0, ground := Go.Ground.phase }, { on := 1, ground := Go.Ground.phase }, { on := 2, ground := Go.Ground.phase }, { on := 3, ground := Go.Ground.phase }, { on := 4, ground := Go.Ground.phase }, { on := 5, ground := Go.Ground.phase }, { on := 6, ground := Go.Ground.phase }, { on := 7, ground := Go.Ground.phase }, { on := 8, ground := Go.Ground.phase }, { on := 9, ground := Go.Ground.phase }, { on := 10, ground := Go.Ground.phase }, { on := 11, ground := Go.Ground.textOnly Go.Departure.lateStores }, { on := 12, ground := Go.Ground.phase }], guard := none }) rfl (fun K hK => ?_) AllReadyH.nil
            go_simp
            refine hK.out _ _ (HSX.out _ (below_then L11 (below_new w11 (.cells #[.int .i64 f.no, .string (txt f.name), .int .i64 f.kind, .int .i64 f.ref, .bool f.rep, .int .i64 f.key, .int .i64 f.one] 45)))) (fun hHeld => ?_)
            clear hK K
            (try simp only [Act.put, List.setIfInBounds_toArray, List.set_cons_zero, List.set_cons_succ])
            refine wpAnyH_take (i := 14) (oi := { dst := some 14, op := Go.Op.assign (Go.Operand.tmp 84), type := 4, pos := "law.go:162", after := #[{ on := 11, ground := Go.Ground.data }, { on := 13, ground := Go.Ground.chain }, { on := 0, ground := Go.Ground.phase }, { on := 1, ground := Go.Ground.phase }, { on := 2, ground := Go.Ground.phase }, { on := 3, ground := Go.Ground.phase }, { on := 4, ground := Go.Ground.phase }, { on := 5, ground := Go.Ground.phase }, { on := 6, ground := Go.Ground.phase }, { on := 7, ground := Go.Ground.phase }, { on := 8, ground := Go.Ground.phase }, { on := 9, ground := Go.Ground.phase }, { on := 10, ground := Go.Ground.phase }, { on := 11, ground := Go.Ground.phase }, { on := 12, ground := Go.Ground.phase }, { on := 13, ground := Go.Ground.phase }], guard := none }) (v := ?_) rfl (by kernel_rfl) (by kernel_rfl) (by kernel_rfl) (fun _ _ _ h => h) (Or.inl ⟨by rfl, ?_⟩) hHeld ?_
            rotate_left
            · intro w hSw
              (try dsimp only at hSw)
              go_simp
              all_goals with_reducible rfl
            (try simp only [Act.put, List.setIfInBounds_toArray, List.set_cons_zero, List.set_cons_succ])
            refine wpAnyH_done (by kernel_rfl) ?_ _
            obtain ⟨W, hW⟩ : ∃ W, W = w11.alloc (.cells #[.int .i64 f.no, .string (txt f.name), .int .i64 f.kind, .int .i64 f.ref, .bool f.rep, .int .i64 f.key, .int .i64 f.one] 45) := ⟨_, rfl⟩
            obtain ⟨gs, hgs2⟩ : ∃ q, q = w11.heap.size := ⟨_, rfl⟩
            have F9 : Below wr.heap.size wr W ∧ W.heap[gs]? = some (.cells #[.int .i64 f.no, .string (txt f.name), .int .i64 f.kind, .int .i64 f.ref, .bool f.rep, .int .i64 f.key, .int .i64 f.one] 45 (0, 0)) := by rw [hW, hgs2]; exact ⟨below_then L11 (below_new _ _), heap_alloc_new _ _⟩
            rw [← hW, ← hgs2]
            clear hW hgs2 hHeld hb11 L11
            revert F9; revert gs; revert W
            exact HGO.out
          · have hDa : Below wr.heap.size wr (wr.alloc (.cells #[.int .i64 0, .string ⟨#[]⟩, .int .i64 0, .int .i64 0, .bool false, .int .i64 0, .int .i64 0] 45)).drew := (below_new wr (.cells #[.int .i64 0, .string ⟨#[]⟩, .int .i64 0, .int .i64 0, .bool false, .int .i64 0, .int .i64 0] 45)).drew
            go_simp
            refine hK.out _ _ (HSX.out _ hDa) (fun hHeld => ?_)
            clear hK K
            (try simp only [Act.put, List.setIfInBounds_toArray, List.set_cons_zero, List.set_cons_succ])
            refine wpAnyH_ready (rs := [8]) (by kernel_rfl) (by simp) ?_
            refine AllReadyH.cons (o := { dst := some 82, op := Go.Op.call { callee := Go.Callee.value (Go.Operand.func 18), args := #[Go.Operand.tmp 74, Go.Operand.tmp 75, Go.Operand.tmp 81], argTypes := #[25, 3, 3] }, type := 46, pos := "law.go:162", after := #[{ on := 0, ground := Go.Ground.data }, { on := 1, ground := Go.Ground.data }, { on := 7, ground := Go.Ground.data }], guard := none }) rfl (fun K hK => ?_) AllReadyH.nil
            go_simp
            (go_at_call 18; (with_reducible refine (HBY.out _ hDa).mono ?_); rintro e w11 ⟨rfl, hb11⟩; have L11 := below_then hDa hb11)
            go_wp2_with fail
            refine hK.out _ _ (HSX.out _ L11) (fun hHeld => ?_)
            clear hK K
            (try simp only [Act.put, List.setIfInBounds_toArray, List.set_cons_zero, List.set_cons_succ])
            refine wpAnyH_take (i := 9) (oi := { dst := some 73, op := Go.Op.move (Go.Operand.tmp 82), type := 46, pos := "law.go:162", after := #[{ on := 8, ground := Go.Ground.data }], guard := none }) (v := ?_) rfl (by kernel_rfl) (by kernel_rfl) (by kernel_rfl) (fun _ _ _ h => h) (Or.inl ⟨by rfl, ?_⟩) hHeld ?_
            rotate_left
            · intro w hSw
              (try dsimp only at hSw)
              go_simp
              all_goals with_reducible rfl
            (try simp only [Act.put, List.setIfInBounds_toArray, List.set_cons_zero, List.set_cons_succ])
            refine wpAnyH_take (i := 10) (oi := { dst := some 83, op := Go.Op.extract (Go.Operand.tmp 73) 0, type := 45, pos := "law.go:162", after := #[{ on := 9, ground := Go.Ground.data }], guard := none }) (v := ?_) rfl (by kernel_rfl) (by kernel_rfl) (by kernel_rfl) (fun _ _ _ h => h) (Or.inl ⟨by rfl, ?_⟩) hHeld ?_
            rotate_left
            · intro w hSw
              (try dsimp only at hSw)
              go_simp
              all_goals with_reducible rfl
            (try simp only [Act.put, List.setIfInBounds_toArray, List.set_cons_zero, List.set_cons_succ])
            refine wpAnyH_take (i := 11) (oi := { dst := some 84, op := Go.Op.extract (Go.Operand.tmp 73) 1, type := 4, pos := "law.go:162", after := #[{ on := 9, ground := Go.Ground.data }, { on := 13, ground := Go.Ground.gcOnly Go.Departure.lateStores }], guard := none }) (v := ?_) rfl (by kernel_rfl) (by kernel_rfl) (by kernel_rfl) (fun _ _ _ h => h) (Or.inl ⟨by rfl, ?_⟩) hHeld ?_
            rotate_left
            · intro w hSw
              (try dsimp only at hSw)
              go_simp
              all_goals with_reducible rfl
            (try simp only [Act.put, List.setIfInBounds_toArray, List.set_cons_zero, List.set_cons_succ])
            have T0 : w11.heap[wr.heap.size]? = some (.cells #[.int .i64 0, .string ⟨#[]⟩, .int .i64 0, .int .i64 0, .bool false, .int .i64 0, .int .i64 0] 45 (0, 0)) := box_on (show (wr.alloc (.cells #[.int .i64 0, .string ⟨#[]⟩, .int .i64 0, .int .i64 0, .bool false, .int .i64 0, .int .i64 0] 45)).drew.heap[wr.heap.size]? = some (.cells #[.int .i64 0, .string ⟨#[]⟩, .int .i64 0, .int .i64 0, .bool false, .int .i64 0, .int .i64 0] 45 (0, 0)) from heap_alloc_new wr (.cells #[.int .i64 0, .string ⟨#[]⟩, .int .i64 0, .int .i64 0, .bool false, .int .i64 0, .int .i64 0] 45)) hb11
            obtain ⟨u0, u1, u2, u3, u4, u5, u6⟩ := bx7 T0
            have fz0 := fz7 T0 0
            have fz1 := fz7 T0 1
            have fz2 := fz7 T0 2
            have fz3 := fz7 T0 3
            have fz4 := fz7 T0 4
            have fz5 := fz7 T0 5
            have fz6 := fz7 T0 6
            obtain ⟨Z1, Z2⟩ := seven_set T0 (.int .i64 f.no) (.string (txt f.name)) (.int .i64 f.kind) (.int .i64 f.ref) (.bool f.rep) (.int .i64 f.key) (.int .i64 f.one)
            refine wpAnyH_ready (rs := [13]) (by kernel_rfl) (by simp) ?_
            refine AllReadyH.cons (o := { dst := none, op := Go.Op.store 45 (Go.Operand.tmp 13) (Go.Operand.tmp 83), type := 0, pos := "law.go:162", after := #[{ on := 12, ground := Go.Ground.data }, { on := 10, ground := Go.Ground.data }, { on := 8, ground := Go.Ground.chain }, { on := 0, ground := Go.Ground.phase }, { on := 1, ground := Go.Ground.phase }, { on := 2, ground := Go.Ground.phase }, { on := 3, ground := Go.Ground.phase }, { on := 4, ground := Go.Ground.phase }, { on := 5, ground := Go.Ground.phase }, { on := 6, ground := Go.Ground.phase }, { on := 7, ground := Go.Ground.phase }, { on := 8, ground := Go.Ground.phase }, { on := 9, ground := Go.Ground.phase }, { on := 10, ground := Go.Ground.phase }, { on := 11, ground := Go.Ground.textOnly Go.Departure.lateStores }, { on := 12, ground := Go.Ground.phase }], guard := none }) rfl (fun K hK => ?_) AllReadyH.nil
            go_simp
            refine hK.out _ _ (HSX.out _ (L11.trans (below_own Z2 (Nat.le_refl _) L11.size))) (fun hHeld => ?_)
            clear hK K
            (try simp only [Act.put, List.setIfInBounds_toArray, List.set_cons_zero, List.set_cons_succ])
            clear u0 u1 u2 u3 u4 u5 u6 fz0 fz1 fz2 fz3 fz4 fz5 fz6
            refine wpAnyH_take (i := 14) (oi := { dst := some 14, op := Go.Op.assign (Go.Operand.tmp 84), type := 4, pos := "law.go:162", after := #[{ on := 11, ground := Go.Ground.data }, { on := 13, ground := Go.Ground.chain }, { on := 0, ground := Go.Ground.phase }, { on := 1, ground := Go.Ground.phase }, { on := 2, ground := Go.Ground.phase }, { on := 3, ground := Go.Ground.phase }, { on := 4, ground := Go.Ground.phase }, { on := 5, ground := Go.Ground.phase }, { on := 6, ground := Go.Ground.phase }, { on := 7, ground := Go.Ground.phase }, { on := 8, ground := Go.Ground.phase }, { on := 9, ground := Go.Ground.phase }, { on := 10, ground := Go.Ground.phase }, { on := 11, ground := Go.Ground.phase }, { on := 12, ground := Go.Ground.phase }, { on := 13, ground := Go.Ground.phase }], guard := none }) (v := ?_) rfl (by kernel_rfl) (by kernel_rfl) (by kernel_rfl) (fun _ _ _ h => h) (Or.inl ⟨by rfl, ?_⟩) hHeld ?_
            rotate_left
            · intro w hSw
              (try dsimp only at hSw)
              go_simp
              all_goals with_reducible rfl
            (try simp only [Act.put, List.setIfInBounds_toArray, List.set_cons_zero, List.set_cons_succ])
            refine wpAnyH_done (by kernel_rfl) ?_ _
            obtain ⟨W, hW⟩ : ∃ W, W = (World.setCell (World.setCell (World.setCell (World.setCell (World.setCell (World.setCell (World.setCell w11 ⟨wr.heap.size, 0, none⟩ (.int .i64 f.no)) ⟨wr.heap.size, 1, none⟩ (.string (txt f.name))) ⟨wr.heap.size, 2, none⟩ (.int .i64 f.kind)) ⟨wr.heap.size, 3, none⟩ (.int .i64 f.ref)) ⟨wr.heap.size, 4, none⟩ (.bool f.rep)) ⟨wr.heap.size, 5, none⟩ (.int .i64 f.key)) ⟨wr.heap.size, 6, none⟩ (.int .i64 f.one)) := ⟨_, rfl⟩
            obtain ⟨gs, hgs2⟩ : ∃ q, q = wr.heap.size := ⟨_, rfl⟩
            have F9 : Below wr.heap.size wr W ∧ W.heap[gs]? = some (.cells #[.int .i64 f.no, .string (txt f.name), .int .i64 f.kind, .int .i64 f.ref, .bool f.rep, .int .i64 f.key, .int .i64 f.one] 45 (0, 0)) := by rw [hW, hgs2]; exact ⟨L11.trans (below_own Z2 (Nat.le_refl _) L11.size), Z1⟩
            rw [← hW, ← hgs2]
            clear hW hgs2 hHeld hb11 L11 Z1 Z2
            revert F9; revert gs; revert W
            exact HGO.out
        intro W gs F9
        obtain ⟨hb9, hd9⟩ := F9
        have hwr := HP.out
        have x9 := cell_on hb9 hwr.1
        have g9 := cell_on hb9 hwr.2.1
        have p0 := cell_on hb9 hwr.2.2.1
        have p1 := cell_on hb9 hwr.2.2.2.1
        have p2 := cell_on hb9 hwr.2.2.2.2.1
        have r0 := cell_on hb9 hwr.2.2.2.2.2.1
        have r1 := cell_on hb9 hwr.2.2.2.2.2.2.1
        have r2 := cell_on hb9 hwr.2.2.2.2.2.2.2
        obtain ⟨d0, d1', d2, d3, d4, d5, d6⟩ := bx7 hd9
        have hnn : (cc.no != a.no) = false := by rw [HRl.out.no]; exact bne_self_eq_false _
        have HB9 := Lib.hid hb9
        clear hwr hd9 hb9 HP d0 d1' d3 d5 d6
        go_wp2_with fail
        go_quiet (fail)
        have hbq : Below W.heap.size W (W.drewN nq) := below_draws (Below.refl _ _) nq
        have x9 := cell_on hbq x9
        have g9 := cell_on hbq g9
        have p0 := cell_on hbq p0
        have p1 := cell_on hbq p1
        have p2 := cell_on hbq p2
        have r0 := cell_on hbq r0
        have r1 := cell_on hbq r1
        have r2 := cell_on hbq r2
        have d2 := cell_on hbq d2
        have d4 := cell_on hbq d4
        obtain ⟨W14, hW14⟩ : ∃ q, q = W.drewN nq := ⟨_, rfl⟩
        rw [← hW14] at x9 g9 p0 p1 p2 r0 r1 r2 d2 d4 hbq ⊢
        have HBm := Lib.hid (below_then HB9.out hbq)
        clear hbq hW14 HB9
        have HB9 := HBm
        clear HBm
        clear hnn
        by_cases hrep : f.rep = true
        · have hlr := HRl.out.rep hrep
          have hv1 := HVN.out.1
          have hw : IntKind.i64.wrap (2 * (a.V.length : Int)) = 2 * (a.V.length : Int) := by rw [IntKind.wrap_i64]; omega
          have hne : ((cc.V.length : Int) != 2 * (a.V.length : Int)) = false := by rw [show (cc.V.length : Int) = 2 * (a.V.length : Int) by omega]; exact bne_self_eq_false _
          rw [hrep] at d4
          clear hrep hlr hv1
          go_wp2_with fail
          go_quiet (fail)
          have hbq : Below W14.heap.size W14 (W14.drewN nq) := below_draws (Below.refl _ _) nq
          have x9 := cell_on hbq x9
          have g9 := cell_on hbq g9
          have p0 := cell_on hbq p0
          have p1 := cell_on hbq p1
          have p2 := cell_on hbq p2
          have r0 := cell_on hbq r0
          have r1 := cell_on hbq r1
          have r2 := cell_on hbq r2
          have d2 := cell_on hbq d2
          have d4 := cell_on hbq d4
          obtain ⟨W16, hW16⟩ : ∃ q, q = W14.drewN nq := ⟨_, rfl⟩
          rw [← hW16] at x9 g9 p0 p1 p2 r0 r1 r2 d2 d4 hbq ⊢
          have HBm := Lib.hid (below_then HB9.out hbq)
          clear hbq hW16 HB9
          have HB9 := HBm
          clear HBm
          clear hw hne
          have HSZ : Hid (∀ wx, Below W16.heap.size W16 wx → wx.cell? ⟨p3, 0, none⟩ = some (.slice (some ad1) X.F.length c3) ∧ wx.cell? ⟨g, 0, none⟩ = some (.slice (some ad2) Y.F.length c6) ∧ wx.cell? ⟨(ad1.add (k * 3)).block, (ad1.add (k * 3)).off + 1, none⟩ = some k1 ∧ wx.cell? ⟨(ad2.add (k * 3)).block, (ad2.add (k * 3)).off + 1, none⟩ = some k2 ∧ wx.cell? ⟨(ad1.add (k * 3)).block, (ad1.add (k * 3)).off + 2, none⟩ = some (.slice B1 a.V.length e1) ∧ wx.cell? ⟨(ad2.add (k * 3)).block, (ad2.add (k * 3)).off + 2, none⟩ = some (.slice B2 cc.V.length e2) ∧ wx.cell? ⟨gs, 2, none⟩ = some (.int .i64 f.kind) ∧ wx.cell? ⟨gs, 4, none⟩ = some (.bool true)) := Lib.hid (fun wx hx => ⟨cell_on hx x9, cell_on hx g9, cell_on hx p1, cell_on hx r1, cell_on hx p2, cell_on hx r2, cell_on hx d2, cell_on hx d4⟩)
          have hDz : Below W16.heap.size W16 W16.drew := (Below.refl _ _).drew
          go_wp2_with fail
          clear x9 g9 p0 p1 p2 r0 r1 r2 d2 d4
          refine wp_region_held_drew (S := (fun wx => wx.cell? ⟨p3, 0, none⟩ = some (.slice (some ad1) X.F.length c3) ∧ wx.cell? ⟨g, 0, none⟩ = some (.slice (some ad2) Y.F.length c6) ∧ wx.cell? ⟨(ad1.add (k * 3)).block, (ad1.add (k * 3)).off + 1, none⟩ = some k1 ∧ wx.cell? ⟨(ad2.add (k * 3)).block, (ad2.add (k * 3)).off + 1, none⟩ = some k2 ∧ wx.cell? ⟨(ad1.add (k * 3)).block, (ad1.add (k * 3)).off + 2, none⟩ = some (.slice B1 a.V.length e1) ∧ wx.cell? ⟨(ad2.add (k * 3)).block, (ad2.add (k * 3)).off + 2, none⟩ = some (.slice B2 cc.V.length e2) ∧ wx.cell? ⟨gs, 2, none⟩ = some (.int .i64 f.kind) ∧ wx.cell? ⟨gs, 4, none⟩ = some (.bool true))) (by kernel_rfl) (HSZ.out _ hDz) (fun hHeld => ?_)
          refine wpAnyH_take (i := 0) (oi := { dst := some 144, op := Go.Op.fieldAddr 45 (Go.Operand.tmp 13) 4, type := 0, pos := "law.go:169", after := #[], guard := none }) (v := ?_) rfl (by kernel_rfl) (by kernel_rfl) (by kernel_rfl) (fun _ _ _ h => h) (Or.inl ⟨by rfl, ?_⟩) hHeld ?_
          rotate_left
          · intro w hSw
            (try dsimp only at hSw)
            go_simp
            all_goals with_reducible rfl
          (try simp only [Act.put, List.setIfInBounds_toArray, List.set_cons_zero, List.set_cons_succ])
          refine wpAnyH_take (i := 1) (oi := { dst := some 145, op := Go.Op.load 4 (Go.Operand.tmp 144), type := 4, pos := "law.go:169", after := #[{ on := 0, ground := Go.Ground.data }], guard := none }) (v := ?_) rfl (by kernel_rfl) (by kernel_rfl) (by kernel_rfl) (fun _ _ _ h => h) (Or.inl ⟨by rfl, ?_⟩) hHeld ?_
          rotate_left
          · intro w hSw
            (try dsimp only at hSw)
            go_simp
            all_goals with_reducible rfl
          (try simp only [Act.put, List.setIfInBounds_toArray, List.set_cons_zero, List.set_cons_succ])
          refine wpAnyH_take (i := 2) (oi := { dst := some 146, op := Go.Op.unOp Go.UnOp.not 4 (Go.Operand.tmp 145), type := 4, pos := "law.go:169", after := #[{ on := 1, ground := Go.Ground.data }], guard := none }) (v := ?_) rfl (by kernel_rfl) (by kernel_rfl) (by kernel_rfl) (fun _ _ _ h => h) (Or.inl ⟨by rfl, ?_⟩) hHeld ?_
          rotate_left
          · intro w hSw
            (try dsimp only at hSw)
            go_simp
            all_goals with_reducible rfl
          (try simp only [Act.put, List.setIfInBounds_toArray, List.set_cons_zero, List.set_cons_succ])
          refine wpAnyH_take (i := 3) (oi := { dst := some 147, op := Go.Op.move (Go.Operand.tmp 146), type := 4, pos := "law.go:169", after := #[{ on := 2, ground := Go.Ground.data }], guard := none }) (v := ?_) rfl (by kernel_rfl) (by kernel_rfl) (by kernel_rfl) (fun _ _ _ h => h) (Or.inl ⟨by rfl, ?_⟩) hHeld ?_
          rotate_left
          · intro w hSw
            (try dsimp only at hSw)
            go_simp
            all_goals with_reducible rfl
          (try simp only [Act.put, List.setIfInBounds_toArray, List.set_cons_zero, List.set_cons_succ])
          refine wpAnyH_take (i := 4) (oi := { dst := some 148, op := Go.Op.fieldAddr 45 (Go.Operand.tmp 13) 2, type := 0, pos := "law.go:169", after := #[{ on := 3, ground := Go.Ground.guard }], guard := some (3, true) }) (v := undef) rfl (by kernel_rfl) (by kernel_rfl) (by kernel_rfl) (fun _ _ _ h => h) (Or.inr ⟨by rfl, rfl⟩) hHeld ?_
          (try simp only [Act.put, List.setIfInBounds_toArray, List.set_cons_zero, List.set_cons_succ])
          refine wpAnyH_take (i := 5) (oi := { dst := some 149, op := Go.Op.load 3 (Go.Operand.tmp 148), type := 3, pos := "law.go:169", after := #[{ on := 4, ground := Go.Ground.data }, { on := 3, ground := Go.Ground.guard }], guard := some (3, true) }) (v := undef) rfl (by kernel_rfl) (by kernel_rfl) (by kernel_rfl) (fun _ _ _ h => h) (Or.inr ⟨by rfl, rfl⟩) hHeld ?_
          (try simp only [Act.put, List.setIfInBounds_toArray, List.set_cons_zero, List.set_cons_succ])
          refine wpAnyH_take (i := 6) (oi := { dst := some 150, op := Go.Op.binOp Go.BinOp.neq 3 (Go.Operand.tmp 149) (Go.Operand.const (Go.Value.int Go.IntKind.i64 9)) 3, type := 4, pos := "law.go:169", after := #[{ on := 5, ground := Go.Ground.data }, { on := 3, ground := Go.Ground.guard }], guard := some (3, true) }) (v := undef) rfl (by kernel_rfl) (by kernel_rfl) (by kernel_rfl) (fun _ _ _ h => h) (Or.inr ⟨by rfl, rfl⟩) hHeld ?_
          (try simp only [Act.put, List.setIfInBounds_toArray, List.set_cons_zero, List.set_cons_succ])
          refine wpAnyH_take (i := 7) (oi := { dst := some 151, op := Go.Op.pick (Go.Operand.tmp 147) (Go.Operand.tmp 150) (Go.Operand.const (Go.Value.bool false)), type := 4, pos := "law.go:169", after := #[{ on := 3, ground := Go.Ground.data }, { on := 6, ground := Go.Ground.data }], guard := none }) (v := ?_) rfl (by kernel_rfl) (by kernel_rfl) (by kernel_rfl) (fun _ _ _ h => h) (Or.inl ⟨by rfl, ?_⟩) hHeld ?_
          rotate_left
          · intro w hSw
            (try dsimp only at hSw)
            go_simp
            all_goals with_reducible rfl
          (try simp only [Act.put, List.setIfInBounds_toArray, List.set_cons_zero, List.set_cons_succ])
          refine wpAnyH_take (i := 8) (oi := { dst := some 152, op := Go.Op.move (Go.Operand.tmp 151), type := 4, pos := "law.go:169", after := #[{ on := 7, ground := Go.Ground.data }, { on := 3, ground := Go.Ground.chain }], guard := none }) (v := ?_) rfl (by kernel_rfl) (by kernel_rfl) (by kernel_rfl) (fun _ _ _ h => h) (Or.inl ⟨by rfl, ?_⟩) hHeld ?_
          rotate_left
          · intro w hSw
            (try dsimp only at hSw)
            go_simp
            all_goals with_reducible rfl
          (try simp only [Act.put, List.setIfInBounds_toArray, List.set_cons_zero, List.set_cons_succ])
          refine wpAnyH_take (i := 9) (oi := { dst := some 153, op := Go.Op.fieldAddr 31 (Go.Operand.tmp 8) 0, type := 0, pos := "law.go:169", after := #[{ on := 8, ground := Go.Ground.guard }], guard := some (8, true) }) (v := undef) rfl (by kernel_rfl) (by kernel_rfl) (by kernel_rfl) (fun _ _ _ h => h) (Or.inr ⟨by rfl, rfl⟩) hHeld ?_
          (try simp only [Act.put, List.setIfInBounds_toArray, List.set_cons_zero, List.set_cons_succ])
          refine wpAnyH_take (i := 10) (oi := { dst := some 154, op := Go.Op.load 29 (Go.Operand.tmp 153), type := 29, pos := "law.go:169", after := #[{ on := 9, ground := Go.Ground.data }, { on := 8, ground := Go.Ground.guard }], guard := some (8, true) }) (v := undef) rfl (by kernel_rfl) (by kernel_rfl) (by kernel_rfl) (fun _ _ _ h => h) (Or.inr ⟨by rfl, rfl⟩) hHeld ?_
          (try simp only [Act.put, List.setIfInBounds_toArray, List.set_cons_zero, List.set_cons_succ])
          refine wpAnyH_take (i := 11) (oi := { dst := some 155, op := Go.Op.move (Go.Operand.tmp 12), type := 3, pos := "law.go:169", after := #[{ on := 8, ground := Go.Ground.guard }], guard := some (8, true) }) (v := undef) rfl (by kernel_rfl) (by kernel_rfl) (by kernel_rfl) (fun _ _ _ h => h) (Or.inr ⟨by rfl, rfl⟩) hHeld ?_
          (try simp only [Act.put, List.setIfInBounds_toArray, List.set_cons_zero, List.set_cons_succ])
          refine wpAnyH_take (i := 12) (oi := { dst := some 156, op := Go.Op.indexAddr 29 (Go.Operand.tmp 154) (Go.Operand.tmp 155), type := 0, pos := "law.go:169", after := #[{ on := 10, ground := Go.Ground.data }, { on := 11, ground := Go.Ground.data }, { on := 8, ground := Go.Ground.guard }], guard := some (8, true) }) (v := undef) rfl (by kernel_rfl) (by kernel_rfl) (by kernel_rfl) (fun _ _ _ h => h) (Or.inr ⟨by rfl, rfl⟩) hHeld ?_
          (try simp only [Act.put, List.setIfInBounds_toArray, List.set_cons_zero, List.set_cons_succ])
          refine wpAnyH_take (i := 13) (oi := { dst := some 157, op := Go.Op.fieldAddr 67 (Go.Operand.tmp 156) 2, type := 0, pos := "law.go:169", after := #[{ on := 12, ground := Go.Ground.data }, { on := 8, ground := Go.Ground.guard }], guard := some (8, true) }) (v := undef) rfl (by kernel_rfl) (by kernel_rfl) (by kernel_rfl) (fun _ _ _ h => h) (Or.inr ⟨by rfl, rfl⟩) hHeld ?_
          (try simp only [Act.put, List.setIfInBounds_toArray, List.set_cons_zero, List.set_cons_succ])
          refine wpAnyH_take (i := 14) (oi := { dst := some 158, op := Go.Op.load 65 (Go.Operand.tmp 157), type := 65, pos := "law.go:169", after := #[{ on := 13, ground := Go.Ground.data }, { on := 8, ground := Go.Ground.guard }], guard := some (8, true) }) (v := undef) rfl (by kernel_rfl) (by kernel_rfl) (by kernel_rfl) (fun _ _ _ h => h) (Or.inr ⟨by rfl, rfl⟩) hHeld ?_
          (try simp only [Act.put, List.setIfInBounds_toArray, List.set_cons_zero, List.set_cons_succ])
          refine wpAnyH_take (i := 15) (oi := { dst := some 159, op := Go.Op.fieldAddr 31 (Go.Operand.tmp 10) 0, type := 0, pos := "law.go:169", after := #[{ on := 8, ground := Go.Ground.guard }], guard := some (8, true) }) (v := undef) rfl (by kernel_rfl) (by kernel_rfl) (by kernel_rfl) (fun _ _ _ h => h) (Or.inr ⟨by rfl, rfl⟩) hHeld ?_
          (try simp only [Act.put, List.setIfInBounds_toArray, List.set_cons_zero, List.set_cons_succ])
          refine wpAnyH_take (i := 16) (oi := { dst := some 160, op := Go.Op.load 29 (Go.Operand.tmp 159), type := 29, pos := "law.go:169", after := #[{ on := 15, ground := Go.Ground.data }, { on := 8, ground := Go.Ground.guard }], guard := some (8, true) }) (v := undef) rfl (by kernel_rfl) (by kernel_rfl) (by kernel_rfl) (fun _ _ _ h => h) (Or.inr ⟨by rfl, rfl⟩) hHeld ?_
          (try simp only [Act.put, List.setIfInBounds_toArray, List.set_cons_zero, List.set_cons_succ])
          refine wpAnyH_take (i := 17) (oi := { dst := some 161, op := Go.Op.move (Go.Operand.tmp 12), type := 3, pos := "law.go:169", after := #[{ on := 8, ground := Go.Ground.guard }], guard := some (8, true) }) (v := undef) rfl (by kernel_rfl) (by kernel_rfl) (by kernel_rfl) (fun _ _ _ h => h) (Or.inr ⟨by rfl, rfl⟩) hHeld ?_
          (try simp only [Act.put, List.setIfInBounds_toArray, List.set_cons_zero, List.set_cons_succ])
          refine wpAnyH_take (i := 18) (oi := { dst := some 162, op := Go.Op.indexAddr 29 (Go.Operand.tmp 160) (Go.Operand.tmp 161), type := 0, pos := "law.go:169", after := #[{ on := 16, ground := Go.Ground.data }, { on := 17, ground := Go.Ground.data }, { on := 8, ground := Go.Ground.guard }], guard := some (8, true) }) (v := undef) rfl (by kernel_rfl) (by kernel_rfl) (by kernel_rfl) (fun _ _ _ h => h) (Or.inr ⟨by rfl, rfl⟩) hHeld ?_
          (try simp only [Act.put, List.setIfInBounds_toArray, List.set_cons_zero, List.set_cons_succ])
          refine wpAnyH_take (i := 19) (oi := { dst := some 163, op := Go.Op.fieldAddr 67 (Go.Operand.tmp 162) 2, type := 0, pos := "law.go:169", after := #[{ on := 18, ground := Go.Ground.data }, { on := 8, ground := Go.Ground.guard }], guard := some (8, true) }) (v := undef) rfl (by kernel_rfl) (by kernel_rfl) (by kernel_rfl) (fun _ _ _ h => h) (Or.inr ⟨by rfl, rfl⟩) hHeld ?_
          (try simp only [Act.put, List.setIfInBounds_toArray, List.set_cons_zero, List.set_cons_succ])
          refine wpAnyH_take (i := 20) (oi := { dst := some 164, op := Go.Op.load 65 (Go.Operand.tmp 163), type := 65, pos := "law.go:169", after := #[{ on := 19, ground := Go.Ground.data }, { on := 8, ground := Go.Ground.guard }], guard := some (8, true) }) (v := undef) rfl (by kernel_rfl) (by kernel_rfl) (by kernel_rfl) (fun _ _ _ h => h) (Or.inr ⟨by rfl, rfl⟩) hHeld ?_
          (try simp only [Act.put, List.setIfInBounds_toArray, List.set_cons_zero, List.set_cons_succ])
          refine wpAnyH_take (i := 21) (oi := { dst := some 165, op := Go.Op.call { callee := Go.Callee.value (Go.Operand.func 29), args := #[Go.Operand.tmp 158, Go.Operand.tmp 164], argTypes := #[65, 65] }, type := 4, pos := "law.go:169", after := #[{ on := 14, ground := Go.Ground.data }, { on := 20, ground := Go.Ground.data }, { on := 8, ground := Go.Ground.chain }, { on := 8, ground := Go.Ground.guard }], guard := some (8, true) }) (v := undef) rfl (by kernel_rfl) (by kernel_rfl) (by kernel_rfl) (fun _ _ _ h => h) (Or.inr ⟨by rfl, rfl⟩) hHeld ?_
          (try simp only [Act.put, List.setIfInBounds_toArray, List.set_cons_zero, List.set_cons_succ])
          refine wpAnyH_take (i := 22) (oi := { dst := some 166, op := Go.Op.unOp Go.UnOp.not 4 (Go.Operand.tmp 165), type := 4, pos := "law.go:169", after := #[{ on := 21, ground := Go.Ground.data }, { on := 8, ground := Go.Ground.guard }], guard := some (8, true) }) (v := undef) rfl (by kernel_rfl) (by kernel_rfl) (by kernel_rfl) (fun _ _ _ h => h) (Or.inr ⟨by rfl, rfl⟩) hHeld ?_
          (try simp only [Act.put, List.setIfInBounds_toArray, List.set_cons_zero, List.set_cons_succ])
          refine wpAnyH_take (i := 23) (oi := { dst := some 167, op := Go.Op.pick (Go.Operand.tmp 152) (Go.Operand.tmp 166) (Go.Operand.const (Go.Value.bool false)), type := 4, pos := "law.go:169", after := #[{ on := 8, ground := Go.Ground.data }, { on := 22, ground := Go.Ground.data }], guard := none }) (v := ?_) rfl (by kernel_rfl) (by kernel_rfl) (by kernel_rfl) (fun _ _ _ h => h) (Or.inl ⟨by rfl, ?_⟩) hHeld ?_
          rotate_left
          · intro w hSw
            (try dsimp only at hSw)
            go_simp
            all_goals with_reducible rfl
          (try simp only [Act.put, List.setIfInBounds_toArray, List.set_cons_zero, List.set_cons_succ])
          refine wpAnyH_take (i := 24) (oi := { dst := some 168, op := Go.Op.move (Go.Operand.tmp 167), type := 4, pos := "law.go:169", after := #[{ on := 23, ground := Go.Ground.data }, { on := 21, ground := Go.Ground.chain }], guard := none }) (v := ?_) rfl (by kernel_rfl) (by kernel_rfl) (by kernel_rfl) (fun _ _ _ h => h) (Or.inl ⟨by rfl, ?_⟩) hHeld ?_
          rotate_left
          · intro w hSw
            (try dsimp only at hSw)
            go_simp
            all_goals with_reducible rfl
          (try simp only [Act.put, List.setIfInBounds_toArray, List.set_cons_zero, List.set_cons_succ])
          refine wpAnyH_take (i := 25) (oi := { dst := some 169, op := Go.Op.fieldAddr 31 (Go.Operand.tmp 8) 0, type := 0, pos := "law.go:169", after := #[{ on := 24, ground := Go.Ground.guard }], guard := some (24, false) }) (v := ?_) rfl (by kernel_rfl) (by kernel_rfl) (by kernel_rfl) (fun _ _ _ h => h) (Or.inl ⟨by rfl, ?_⟩) hHeld ?_
          rotate_left
          · intro w hSw
            (try dsimp only at hSw)
            go_simp
            all_goals with_reducible rfl
          (try simp only [Act.put, List.setIfInBounds_toArray, List.set_cons_zero, List.set_cons_succ])
          refine wpAnyH_take (i := 26) (oi := { dst := some 170, op := Go.Op.load 29 (Go.Operand.tmp 169), type := 29, pos := "law.go:169", after := #[{ on := 25, ground := Go.Ground.data }, { on := 24, ground := Go.Ground.guard }], guard := some (24, false) }) (v := ?_) rfl (by kernel_rfl) (by kernel_rfl) (by kernel_rfl) (fun _ _ _ h => h) (Or.inl ⟨by rfl, ?_⟩) hHeld ?_
          rotate_left
          · intro w hSw
            (try dsimp only at hSw)
            go_simp
            all_goals with_reducible rfl
          (try simp only [Act.put, List.setIfInBounds_toArray, List.set_cons_zero, List.set_cons_succ])
          refine wpAnyH_take (i := 27) (oi := { dst := some 171, op := Go.Op.move (Go.Operand.tmp 12), type := 3, pos := "law.go:169", after := #[{ on := 24, ground := Go.Ground.guard }], guard := some (24, false) }) (v := ?_) rfl (by kernel_rfl) (by kernel_rfl) (by kernel_rfl) (fun _ _ _ h => h) (Or.inl ⟨by rfl, ?_⟩) hHeld ?_
          rotate_left
          · intro w hSw
            (try dsimp only at hSw)
            go_simp
            all_goals with_reducible rfl
          (try simp only [Act.put, List.setIfInBounds_toArray, List.set_cons_zero, List.set_cons_succ])
          refine wpAnyH_take (i := 28) (oi := { dst := some 172, op := Go.Op.indexAddr 29 (Go.Operand.tmp 170) (Go.Operand.tmp 171), type := 0, pos := "law.go:169", after := #[{ on := 26, ground := Go.Ground.data }, { on := 27, ground := Go.Ground.data }, { on := 24, ground := Go.Ground.guard }], guard := some (24, false) }) (v := ?_) rfl (by kernel_rfl) (by kernel_rfl) (by kernel_rfl) (fun _ _ _ h => h) (Or.inl ⟨by rfl, ?_⟩) hHeld ?_
          rotate_left
          · intro w hSw
            (try dsimp only at hSw)
            go_simp
            all_goals with_reducible rfl
          (try simp only [Act.put, List.setIfInBounds_toArray, List.set_cons_zero, List.set_cons_succ])
          refine wpAnyH_take (i := 29) (oi := { dst := some 173, op := Go.Op.fieldAddr 67 (Go.Operand.tmp 172) 1, type := 0, pos := "law.go:169", after := #[{ on := 28, ground := Go.Ground.data }, { on := 24, ground := Go.Ground.guard }], guard := some (24, false) }) (v := ?_) rfl (by kernel_rfl) (by kernel_rfl) (by kernel_rfl) (fun _ _ _ h => h) (Or.inl ⟨by rfl, ?_⟩) hHeld ?_
          rotate_left
          · intro w hSw
            (try dsimp only at hSw)
            go_simp
            all_goals with_reducible rfl
          (try simp only [Act.put, List.setIfInBounds_toArray, List.set_cons_zero, List.set_cons_succ])
          refine wpAnyH_take (i := 30) (oi := { dst := some 174, op := Go.Op.load 65 (Go.Operand.tmp 173), type := 65, pos := "law.go:169", after := #[{ on := 29, ground := Go.Ground.data }, { on := 24, ground := Go.Ground.guard }], guard := some (24, false) }) (v := ?_) rfl (by kernel_rfl) (by kernel_rfl) (by kernel_rfl) (fun _ _ _ h => h) (Or.inl ⟨by rfl, ?_⟩) hHeld ?_
          rotate_left
          · intro w hSw
            (try dsimp only at hSw)
            go_simp
            all_goals with_reducible rfl
          (try simp only [Act.put, List.setIfInBounds_toArray, List.set_cons_zero, List.set_cons_succ])
          refine wpAnyH_take (i := 31) (oi := { dst := some 175, op := Go.Op.fieldAddr 31 (Go.Operand.tmp 10) 0, type := 0, pos := "law.go:169", after := #[{ on := 24, ground := Go.Ground.guard }], guard := some (24, false) }) (v := ?_) rfl (by kernel_rfl) (by kernel_rfl) (by kernel_rfl) (fun _ _ _ h => h) (Or.inl ⟨by rfl, ?_⟩) hHeld ?_
          rotate_left
          · intro w hSw
            (try dsimp only at hSw)
            go_simp
            all_goals with_reducible rfl
          (try simp only [Act.put, List.setIfInBounds_toArray, List.set_cons_zero, List.set_cons_succ])
          refine wpAnyH_take (i := 32) (oi := { dst := some 176, op := Go.Op.load 29 (Go.Operand.tmp 175), type := 29, pos := "law.go:169", after := #[{ on := 31, ground := Go.Ground.data }, { on := 24, ground := Go.Ground.guard }], guard := some (24, false) }) (v := ?_) rfl (by kernel_rfl) (by kernel_rfl) (by kernel_rfl) (fun _ _ _ h => h) (Or.inl ⟨by rfl, ?_⟩) hHeld ?_
          rotate_left
          · intro w hSw
            (try dsimp only at hSw)
            go_simp
            all_goals with_reducible rfl
          (try simp only [Act.put, List.setIfInBounds_toArray, List.set_cons_zero, List.set_cons_succ])
          refine wpAnyH_take (i := 33) (oi := { dst := some 177, op := Go.Op.move (Go.Operand.tmp 12), type := 3, pos := "law.go:169", after := #[{ on := 24, ground := Go.Ground.guard }], guard := some (24, false) }) (v := ?_) rfl (by kernel_rfl) (by kernel_rfl) (by kernel_rfl) (fun _ _ _ h => h) (Or.inl ⟨by rfl, ?_⟩) hHeld ?_
          rotate_left
          · intro w hSw
            (try dsimp only at hSw)
            go_simp
            all_goals with_reducible rfl
          (try simp only [Act.put, List.setIfInBounds_toArray, List.set_cons_zero, List.set_cons_succ])
          refine wpAnyH_take (i := 34) (oi := { dst := some 178, op := Go.Op.indexAddr 29 (Go.Operand.tmp 176) (Go.Operand.tmp 177), type := 0, pos := "law.go:169", after := #[{ on := 32, ground := Go.Ground.data }, { on := 33, ground := Go.Ground.data }, { on := 24, ground := Go.Ground.guard }], guard := some (24, false) }) (v := ?_) rfl (by kernel_rfl) (by kernel_rfl) (by kernel_rfl) (fun _ _ _ h => h) (Or.inl ⟨by rfl, ?_⟩) hHeld ?_
          rotate_left
          · intro w hSw
            (try dsimp only at hSw)
            go_simp
            all_goals with_reducible rfl
          (try simp only [Act.put, List.setIfInBounds_toArray, List.set_cons_zero, List.set_cons_succ])
          refine wpAnyH_take (i := 35) (oi := { dst := some 179, op := Go.Op.fieldAddr 67 (Go.Operand.tmp 178) 1, type := 0, pos := "law.go:169", after := #[{ on := 34, ground := Go.Ground.data }, { on := 24, ground := Go.Ground.guard }], guard := some (24, false) }) (v := ?_) rfl (by kernel_rfl) (by kernel_rfl) (by kernel_rfl) (fun _ _ _ h => h) (Or.inl ⟨by rfl, ?_⟩) hHeld ?_
          rotate_left
          · intro w hSw
            (try dsimp only at hSw)
            go_simp
            all_goals with_reducible rfl
          (try simp only [Act.put, List.setIfInBounds_toArray, List.set_cons_zero, List.set_cons_succ])
          refine wpAnyH_take (i := 36) (oi := { dst := some 180, op := Go.Op.load 65 (Go.Operand.tmp 179), type := 65, pos := "law.go:169", after := #[{ on := 35, ground := Go.Ground.data }, { on := 24, ground := Go.Ground.guard }], guard := some (24, false) }) (v := ?_) rfl (by kernel_rfl) (by kernel_rfl) (by kernel_rfl) (fun _ _ _ h => h) (Or.inl ⟨by rfl, ?_⟩) hHeld ?_
          rotate_left
          · intro w hSw
            (try dsimp only at hSw)
            go_simp
            all_goals with_reducible rfl
          (try simp only [Act.put, List.setIfInBounds_toArray, List.set_cons_zero, List.set_cons_succ])
          refine wpAnyH_ready (rs := [37]) (by kernel_rfl) (by simp) ?_
          refine AllReadyH.cons (o := { dst := some 181, op := Go.Op.call { callee := Go.Callee.value (Go.Operand.func 29), args := #[Go.Operand.tmp 174, Go.Operand.tmp 180], argTypes := #[65, 65] }, type := 4, pos := "law.go:169", after := #[{ on := 30, ground := Go.Ground.data }, { on := 36, ground := Go.Ground.data }, { on := 24, ground := Go.Ground.chain }, { on := 24, ground := Go.Ground.guard }], guard := some (24, false) }) rfl (fun K hK => ?_) AllReadyH.nil
          go_simp
          (go_at_call 29; (with_reducible refine (HKC.out _ (below_then HB9.out hDz)).mono ?_); rintro e w19 ⟨rfl, h19⟩; have L19 := below_then hDz h19)
          go_wp2_with fail
          refine hK.out _ _ (HSZ.out _ L19) (fun hHeld => ?_)
          clear hK K
          (try simp only [Act.put, List.setIfInBounds_toArray, List.set_cons_zero, List.set_cons_succ])
          refine wpAnyH_take (i := 38) (oi := { dst := some 182, op := Go.Op.unOp Go.UnOp.not 4 (Go.Operand.tmp 181), type := 4, pos := "law.go:169", after := #[{ on := 37, ground := Go.Ground.data }, { on := 24, ground := Go.Ground.guard }], guard := some (24, false) }) (v := ?_) rfl (by kernel_rfl) (by kernel_rfl) (by kernel_rfl) (fun _ _ _ h => h) (Or.inl ⟨by rfl, ?_⟩) hHeld ?_
          rotate_left
          · intro w hSw
            (try dsimp only at hSw)
            go_simp
            all_goals with_reducible rfl
          (try simp only [Act.put, List.setIfInBounds_toArray, List.set_cons_zero, List.set_cons_succ])
          refine wpAnyH_take (i := 39) (oi := { dst := some 183, op := Go.Op.pick (Go.Operand.tmp 168) (Go.Operand.const (Go.Value.bool true)) (Go.Operand.tmp 182), type := 4, pos := "law.go:169", after := #[{ on := 24, ground := Go.Ground.data }, { on := 38, ground := Go.Ground.data }], guard := none }) (v := ?_) rfl (by kernel_rfl) (by kernel_rfl) (by kernel_rfl) (fun _ _ _ h => h) (Or.inl ⟨by rfl, ?_⟩) hHeld ?_
          rotate_left
          · intro w hSw
            (try dsimp only at hSw)
            go_simp
            all_goals with_reducible rfl
          (try simp only [Act.put, List.setIfInBounds_toArray, List.set_cons_zero, List.set_cons_succ])
          refine wpAnyH_done (by kernel_rfl) ?_ _
          have HZZ := Lib.hid (below_then HB9.out L19)
          have hlt := HKL.out
          clear hHeld
          go_wp2
          exact ⟨⟨k + 1, by go_num, by omega, HB8.out.2.trans (HZZ.out.mono HB8.out.2.size)⟩, by simp [intOf]; omega⟩
        · have hrep : f.rep = false := by simpa using hrep
          obtain ⟨hlr, hvr⟩ := HRl.out.one hrep
          have hne : ((cc.V.length : Int) != (a.V.length : Int)) = false := by rw [hlr]; exact bne_self_eq_false _
          rw [hrep] at d4
          have HVR := Lib.hid hvr
          clear hrep hlr hvr
          go_wp2_with fail
          go_quiet (fail)
          have hbq : Below W14.heap.size W14 (W14.drewN nq) := below_draws (Below.refl _ _) nq
          have x9 := cell_on hbq x9
          have g9 := cell_on hbq g9
          have p0 := cell_on hbq p0
          have p1 := cell_on hbq p1
          have p2 := cell_on hbq p2
          have r0 := cell_on hbq r0
          have r1 := cell_on hbq r1
          have r2 := cell_on hbq r2
          have d2 := cell_on hbq d2
          have d4 := cell_on hbq d4
          obtain ⟨W16, hW16⟩ : ∃ q, q = W14.drewN nq := ⟨_, rfl⟩
          rw [← hW16] at x9 g9 p0 p1 p2 r0 r1 r2 d2 d4 hbq ⊢
          have HBm := Lib.hid (below_then HB9.out hbq)
          clear hbq hW16 HB9
          have HB9 := HBm
          clear HBm
          clear hne
          by_cases h9 : f.kind = 9
          · have b9 : (f.kind != 9) = false := by rw [h9]; exact bne_self_eq_false _
            clear h9
            have HSZ : Hid (∀ wx, Below W16.heap.size W16 wx → wx.cell? ⟨p3, 0, none⟩ = some (.slice (some ad1) X.F.length c3) ∧ wx.cell? ⟨g, 0, none⟩ = some (.slice (some ad2) Y.F.length c6) ∧ wx.cell? ⟨(ad1.add (k * 3)).block, (ad1.add (k * 3)).off + 1, none⟩ = some k1 ∧ wx.cell? ⟨(ad2.add (k * 3)).block, (ad2.add (k * 3)).off + 1, none⟩ = some k2 ∧ wx.cell? ⟨(ad1.add (k * 3)).block, (ad1.add (k * 3)).off + 2, none⟩ = some (.slice B1 a.V.length e1) ∧ wx.cell? ⟨(ad2.add (k * 3)).block, (ad2.add (k * 3)).off + 2, none⟩ = some (.slice B2 cc.V.length e2) ∧ wx.cell? ⟨gs, 2, none⟩ = some (.int .i64 f.kind) ∧ wx.cell? ⟨gs, 4, none⟩ = some (.bool false)) := Lib.hid (fun wx hx => ⟨cell_on hx x9, cell_on hx g9, cell_on hx p1, cell_on hx r1, cell_on hx p2, cell_on hx r2, cell_on hx d2, cell_on hx d4⟩)
            have hDz : Below W16.heap.size W16 W16.drew := (Below.refl _ _).drew
            go_wp2_with fail
            clear x9 g9 p0 p1 p2 r0 r1 r2 d2 d4
            refine wp_region_held_drew (S := (fun wx => wx.cell? ⟨p3, 0, none⟩ = some (.slice (some ad1) X.F.length c3) ∧ wx.cell? ⟨g, 0, none⟩ = some (.slice (some ad2) Y.F.length c6) ∧ wx.cell? ⟨(ad1.add (k * 3)).block, (ad1.add (k * 3)).off + 1, none⟩ = some k1 ∧ wx.cell? ⟨(ad2.add (k * 3)).block, (ad2.add (k * 3)).off + 1, none⟩ = some k2 ∧ wx.cell? ⟨(ad1.add (k * 3)).block, (ad1.add (k * 3)).off + 2, none⟩ = some (.slice B1 a.V.length e1) ∧ wx.cell? ⟨(ad2.add (k * 3)).block, (ad2.add (k * 3)).off + 2, none⟩ = some (.slice B2 cc.V.length e2) ∧ wx.cell? ⟨gs, 2, none⟩ = some (.int .i64 f.kind) ∧ wx.cell? ⟨gs, 4, none⟩ = some (.bool false))) (by kernel_rfl) (HSZ.out _ hDz) (fun hHeld => ?_)
            refine wpAnyH_take (i := 0) (oi := { dst := some 144, op := Go.Op.fieldAddr 45 (Go.Operand.tmp 13) 4, type := 0, pos := "law.go:169", after := #[], guard := none }) (v := ?_) rfl (by kernel_rfl) (by kernel_rfl) (by kernel_rfl) (fun _ _ _ h => h) (Or.inl ⟨by rfl, ?_⟩) hHeld ?_
            rotate_left
            · intro w hSw
              (try dsimp only at hSw)
              go_simp
              all_goals with_reducible rfl
            (try simp only [Act.put, List.setIfInBounds_toArray, List.set_cons_zero, List.set_cons_succ])
            refine wpAnyH_take (i := 1) (oi := { dst := some 145, op := Go.Op.load 4 (Go.Operand.tmp 144), type := 4, pos := "law.go:169", after := #[{ on := 0, ground := Go.Ground.data }], guard := none }) (v := ?_) rfl (by kernel_rfl) (by kernel_rfl) (by kernel_rfl) (fun _ _ _ h => h) (Or.inl ⟨by rfl, ?_⟩) hHeld ?_
            rotate_left
            · intro w hSw
              (try dsimp only at hSw)
              go_simp
              all_goals with_reducible rfl
            (try simp only [Act.put, List.setIfInBounds_toArray, List.set_cons_zero, List.set_cons_succ])
            refine wpAnyH_take (i := 2) (oi := { dst := some 146, op := Go.Op.unOp Go.UnOp.not 4 (Go.Operand.tmp 145), type := 4, pos := "law.go:169", after := #[{ on := 1, ground := Go.Ground.data }], guard := none }) (v := ?_) rfl (by kernel_rfl) (by kernel_rfl) (by kernel_rfl) (fun _ _ _ h => h) (Or.inl ⟨by rfl, ?_⟩) hHeld ?_
            rotate_left
            · intro w hSw
              (try dsimp only at hSw)
              go_simp
              all_goals with_reducible rfl
            (try simp only [Act.put, List.setIfInBounds_toArray, List.set_cons_zero, List.set_cons_succ])
            refine wpAnyH_take (i := 3) (oi := { dst := some 147, op := Go.Op.move (Go.Operand.tmp 146), type := 4, pos := "law.go:169", after := #[{ on := 2, ground := Go.Ground.data }], guard := none }) (v := ?_) rfl (by kernel_rfl) (by kernel_rfl) (by kernel_rfl) (fun _ _ _ h => h) (Or.inl ⟨by rfl, ?_⟩) hHeld ?_
            rotate_left
            · intro w hSw
              (try dsimp only at hSw)
              go_simp
              all_goals with_reducible rfl
            (try simp only [Act.put, List.setIfInBounds_toArray, List.set_cons_zero, List.set_cons_succ])
            refine wpAnyH_take (i := 4) (oi := { dst := some 148, op := Go.Op.fieldAddr 45 (Go.Operand.tmp 13) 2, type := 0, pos := "law.go:169", after := #[{ on := 3, ground := Go.Ground.guard }], guard := some (3, true) }) (v := ?_) rfl (by kernel_rfl) (by kernel_rfl) (by kernel_rfl) (fun _ _ _ h => h) (Or.inl ⟨by rfl, ?_⟩) hHeld ?_
            rotate_left
            · intro w hSw
              (try dsimp only at hSw)
              go_simp
              all_goals with_reducible rfl
            (try simp only [Act.put, List.setIfInBounds_toArray, List.set_cons_zero, List.set_cons_succ])
            refine wpAnyH_take (i := 5) (oi := { dst := some 149, op := Go.Op.load 3 (Go.Operand.tmp 148), type := 3, pos := "law.go:169", after := #[{ on := 4, ground := Go.Ground.data }, { on := 3, ground := Go.Ground.guard }], guard := some (3, true) }) (v := ?_) rfl (by kernel_rfl) (by kernel_rfl) (by kernel_rfl) (fun _ _ _ h => h) (Or.inl ⟨by rfl, ?_⟩) hHeld ?_
            rotate_left
            · intro w hSw
              (try dsimp only at hSw)
              go_simp
              all_goals with_reducible rfl
            (try simp only [Act.put, List.setIfInBounds_toArray, List.set_cons_zero, List.set_cons_succ])
            refine wpAnyH_take (i := 6) (oi := { dst := some 150, op := Go.Op.binOp Go.BinOp.neq 3 (Go.Operand.tmp 149) (Go.Operand.const (Go.Value.int Go.IntKind.i64 9)) 3, type := 4, pos := "law.go:169", after := #[{ on := 5, ground := Go.Ground.data }, { on := 3, ground := Go.Ground.guard }], guard := some (3, true) }) (v := ?_) rfl (by kernel_rfl) (by kernel_rfl) (by kernel_rfl) (fun _ _ _ h => h) (Or.inl ⟨by rfl, ?_⟩) hHeld ?_
            rotate_left
            · intro w hSw
              (try dsimp only at hSw)
              go_simp
              all_goals with_reducible rfl
            (try simp only [Act.put, List.setIfInBounds_toArray, List.set_cons_zero, List.set_cons_succ])
            refine wpAnyH_take (i := 7) (oi := { dst := some 151, op := Go.Op.pick (Go.Operand.tmp 147) (Go.Operand.tmp 150) (Go.Operand.const (Go.Value.bool false)), type := 4, pos := "law.go:169", after := #[{ on := 3, ground := Go.Ground.data }, { on := 6, ground := Go.Ground.data }], guard := none }) (v := ?_) rfl (by kernel_rfl) (by kernel_rfl) (by kernel_rfl) (fun _ _ _ h => h) (Or.inl ⟨by rfl, ?_⟩) hHeld ?_
            rotate_left
            · intro w hSw
              (try dsimp only at hSw)
              go_simp
              all_goals with_reducible rfl
            (try simp only [Act.put, List.setIfInBounds_toArray, List.set_cons_zero, List.set_cons_succ])
            refine wpAnyH_take (i := 8) (oi := { dst := some 152, op := Go.Op.move (Go.Operand.tmp 151), type := 4, pos := "law.go:169", after := #[{ on := 7, ground := Go.Ground.data }, { on := 3, ground := Go.Ground.chain }], guard := none }) (v := ?_) rfl (by kernel_rfl) (by kernel_rfl) (by kernel_rfl) (fun _ _ _ h => h) (Or.inl ⟨by rfl, ?_⟩) hHeld ?_
            rotate_left
            · intro w hSw
              (try dsimp only at hSw)
              go_simp
              all_goals with_reducible rfl
            (try simp only [Act.put, List.setIfInBounds_toArray, List.set_cons_zero, List.set_cons_succ])
            refine wpAnyH_take (i := 9) (oi := { dst := some 153, op := Go.Op.fieldAddr 31 (Go.Operand.tmp 8) 0, type := 0, pos := "law.go:169", after := #[{ on := 8, ground := Go.Ground.guard }], guard := some (8, true) }) (v := undef) rfl (by kernel_rfl) (by kernel_rfl) (by kernel_rfl) (fun _ _ _ h => h) (Or.inr ⟨by rfl, rfl⟩) hHeld ?_
            (try simp only [Act.put, List.setIfInBounds_toArray, List.set_cons_zero, List.set_cons_succ])
            refine wpAnyH_take (i := 10) (oi := { dst := some 154, op := Go.Op.load 29 (Go.Operand.tmp 153), type := 29, pos := "law.go:169", after := #[{ on := 9, ground := Go.Ground.data }, { on := 8, ground := Go.Ground.guard }], guard := some (8, true) }) (v := undef) rfl (by kernel_rfl) (by kernel_rfl) (by kernel_rfl) (fun _ _ _ h => h) (Or.inr ⟨by rfl, rfl⟩) hHeld ?_
            (try simp only [Act.put, List.setIfInBounds_toArray, List.set_cons_zero, List.set_cons_succ])
            refine wpAnyH_take (i := 11) (oi := { dst := some 155, op := Go.Op.move (Go.Operand.tmp 12), type := 3, pos := "law.go:169", after := #[{ on := 8, ground := Go.Ground.guard }], guard := some (8, true) }) (v := undef) rfl (by kernel_rfl) (by kernel_rfl) (by kernel_rfl) (fun _ _ _ h => h) (Or.inr ⟨by rfl, rfl⟩) hHeld ?_
            (try simp only [Act.put, List.setIfInBounds_toArray, List.set_cons_zero, List.set_cons_succ])
            refine wpAnyH_take (i := 12) (oi := { dst := some 156, op := Go.Op.indexAddr 29 (Go.Operand.tmp 154) (Go.Operand.tmp 155), type := 0, pos := "law.go:169", after := #[{ on := 10, ground := Go.Ground.data }, { on := 11, ground := Go.Ground.data }, { on := 8, ground := Go.Ground.guard }], guard := some (8, true) }) (v := undef) rfl (by kernel_rfl) (by kernel_rfl) (by kernel_rfl) (fun _ _ _ h => h) (Or.inr ⟨by rfl, rfl⟩) hHeld ?_
            (try simp only [Act.put, List.setIfInBounds_toArray, List.set_cons_zero, List.set_cons_succ])
            refine wpAnyH_take (i := 13) (oi := { dst := some 157, op := Go.Op.fieldAddr 67 (Go.Operand.tmp 156) 2, type := 0, pos := "law.go:169", after := #[{ on := 12, ground := Go.Ground.data }, { on := 8, ground := Go.Ground.guard }], guard := some (8, true) }) (v := undef) rfl (by kernel_rfl) (by kernel_rfl) (by kernel_rfl) (fun _ _ _ h => h) (Or.inr ⟨by rfl, rfl⟩) hHeld ?_
            (try simp only [Act.put, List.setIfInBounds_toArray, List.set_cons_zero, List.set_cons_succ])
            refine wpAnyH_take (i := 14) (oi := { dst := some 158, op := Go.Op.load 65 (Go.Operand.tmp 157), type := 65, pos := "law.go:169", after := #[{ on := 13, ground := Go.Ground.data }, { on := 8, ground := Go.Ground.guard }], guard := some (8, true) }) (v := undef) rfl (by kernel_rfl) (by kernel_rfl) (by kernel_rfl) (fun _ _ _ h => h) (Or.inr ⟨by rfl, rfl⟩) hHeld ?_
            (try simp only [Act.put, List.setIfInBounds_toArray, List.set_cons_zero, List.set_cons_succ])
            refine wpAnyH_take (i := 15) (oi := { dst := some 159, op := Go.Op.fieldAddr 31 (Go.Operand.tmp 10) 0, type := 0, pos := "law.go:169", after := #[{ on := 8, ground := Go.Ground.guard }], guard := some (8, true) }) (v := undef) rfl (by kernel_rfl) (by kernel_rfl) (by kernel_rfl) (fun _ _ _ h => h) (Or.inr ⟨by rfl, rfl⟩) hHeld ?_
            (try simp only [Act.put, List.setIfInBounds_toArray, List.set_cons_zero, List.set_cons_succ])
            refine wpAnyH_take (i := 16) (oi := { dst := some 160, op := Go.Op.load 29 (Go.Operand.tmp 159), type := 29, pos := "law.go:169", after := #[{ on := 15, ground := Go.Ground.data }, { on := 8, ground := Go.Ground.guard }], guard := some (8, true) }) (v := undef) rfl (by kernel_rfl) (by kernel_rfl) (by kernel_rfl) (fun _ _ _ h => h) (Or.inr ⟨by rfl, rfl⟩) hHeld ?_
            (try simp only [Act.put, List.setIfInBounds_toArray, List.set_cons_zero, List.set_cons_succ])
            refine wpAnyH_take (i := 17) (oi := { dst := some 161, op := Go.Op.move (Go.Operand.tmp 12), type := 3, pos := "law.go:169", after := #[{ on := 8, ground := Go.Ground.guard }], guard := some (8, true) }) (v := undef) rfl (by kernel_rfl) (by kernel_rfl) (by kernel_rfl) (fun _ _ _ h => h) (Or.inr ⟨by rfl, rfl⟩) hHeld ?_
            (try simp only [Act.put, List.setIfInBounds_toArray, List.set_cons_zero, List.set_cons_succ])
            refine wpAnyH_take (i := 18) (oi := { dst := some 162, op := Go.Op.indexAddr 29 (Go.Operand.tmp 160) (Go.Operand.tmp 161), type := 0, pos := "law.go:169", after := #[{ on := 16, ground := Go.Ground.data }, { on := 17, ground := Go.Ground.data }, { on := 8, ground := Go.Ground.guard }], guard := some (8, true) }) (v := undef) rfl (by kernel_rfl) (by kernel_rfl) (by kernel_rfl) (fun _ _ _ h => h) (Or.inr ⟨by rfl, rfl⟩) hHeld ?_
            (try simp only [Act.put, List.setIfInBounds_toArray, List.set_cons_zero, List.set_cons_succ])
            refine wpAnyH_take (i := 19) (oi := { dst := some 163, op := Go.Op.fieldAddr 67 (Go.Operand.tmp 162) 2, type := 0, pos := "law.go:169", after := #[{ on := 18, ground := Go.Ground.data }, { on := 8, ground := Go.Ground.guard }], guard := some (8, true) }) (v := undef) rfl (by kernel_rfl) (by kernel_rfl) (by kernel_rfl) (fun _ _ _ h => h) (Or.inr ⟨by rfl, rfl⟩) hHeld ?_
            (try simp only [Act.put, List.setIfInBounds_toArray, List.set_cons_zero, List.set_cons_succ])
            refine wpAnyH_take (i := 20) (oi := { dst := some 164, op := Go.Op.load 65 (Go.Operand.tmp 163), type := 65, pos := "law.go:169", after := #[{ on := 19, ground := Go.Ground.data }, { on := 8, ground := Go.Ground.guard }], guard := some (8, true) }) (v := undef) rfl (by kernel_rfl) (by kernel_rfl) (by kernel_rfl) (fun _ _ _ h => h) (Or.inr ⟨by rfl, rfl⟩) hHeld ?_
            (try simp only [Act.put, List.setIfInBounds_toArray, List.set_cons_zero, List.set_cons_succ])
            refine wpAnyH_take (i := 21) (oi := { dst := some 165, op := Go.Op.call { callee := Go.Callee.value (Go.Operand.func 29), args := #[Go.Operand.tmp 158, Go.Operand.tmp 164], argTypes := #[65, 65] }, type := 4, pos := "law.go:169", after := #[{ on := 14, ground := Go.Ground.data }, { on := 20, ground := Go.Ground.data }, { on := 8, ground := Go.Ground.chain }, { on := 8, ground := Go.Ground.guard }], guard := some (8, true) }) (v := undef) rfl (by kernel_rfl) (by kernel_rfl) (by kernel_rfl) (fun _ _ _ h => h) (Or.inr ⟨by rfl, rfl⟩) hHeld ?_
            (try simp only [Act.put, List.setIfInBounds_toArray, List.set_cons_zero, List.set_cons_succ])
            refine wpAnyH_take (i := 22) (oi := { dst := some 166, op := Go.Op.unOp Go.UnOp.not 4 (Go.Operand.tmp 165), type := 4, pos := "law.go:169", after := #[{ on := 21, ground := Go.Ground.data }, { on := 8, ground := Go.Ground.guard }], guard := some (8, true) }) (v := undef) rfl (by kernel_rfl) (by kernel_rfl) (by kernel_rfl) (fun _ _ _ h => h) (Or.inr ⟨by rfl, rfl⟩) hHeld ?_
            (try simp only [Act.put, List.setIfInBounds_toArray, List.set_cons_zero, List.set_cons_succ])
            refine wpAnyH_take (i := 23) (oi := { dst := some 167, op := Go.Op.pick (Go.Operand.tmp 152) (Go.Operand.tmp 166) (Go.Operand.const (Go.Value.bool false)), type := 4, pos := "law.go:169", after := #[{ on := 8, ground := Go.Ground.data }, { on := 22, ground := Go.Ground.data }], guard := none }) (v := ?_) rfl (by kernel_rfl) (by kernel_rfl) (by kernel_rfl) (fun _ _ _ h => h) (Or.inl ⟨by rfl, ?_⟩) hHeld ?_
            rotate_left
            · intro w hSw
              (try dsimp only at hSw)
              go_simp
              all_goals with_reducible rfl
            (try simp only [Act.put, List.setIfInBounds_toArray, List.set_cons_zero, List.set_cons_succ])
            refine wpAnyH_take (i := 24) (oi := { dst := some 168, op := Go.Op.move (Go.Operand.tmp 167), type := 4, pos := "law.go:169", after := #[{ on := 23, ground := Go.Ground.data }, { on := 21, ground := Go.Ground.chain }], guard := none }) (v := ?_) rfl (by kernel_rfl) (by kernel_rfl) (by kernel_rfl) (fun _ _ _ h => h) (Or.inl ⟨by rfl, ?_⟩) hHeld ?_
            rotate_left
            · intro w hSw
              (try dsimp only at hSw)
              go_simp
              all_goals with_reducible rfl
            (try simp only [Act.put, List.setIfInBounds_toArray, List.set_cons_zero, List.set_cons_succ])
            refine wpAnyH_take (i := 25) (oi := { dst := some 169, op := Go.Op.fieldAddr 31 (Go.Operand.tmp 8) 0, type := 0, pos := "law.go:169", after := #[{ on := 24, ground := Go.Ground.guard }], guard := some (24, false) }) (v := ?_) rfl (by kernel_rfl) (by kernel_rfl) (by kernel_rfl) (fun _ _ _ h => h) (Or.inl ⟨by rfl, ?_⟩) hHeld ?_
            rotate_left
            · intro w hSw
              (try dsimp only at hSw)
              go_simp
              all_goals with_reducible rfl
            (try simp only [Act.put, List.setIfInBounds_toArray, List.set_cons_zero, List.set_cons_succ])
            refine wpAnyH_take (i := 26) (oi := { dst := some 170, op := Go.Op.load 29 (Go.Operand.tmp 169), type := 29, pos := "law.go:169", after := #[{ on := 25, ground := Go.Ground.data }, { on := 24, ground := Go.Ground.guard }], guard := some (24, false) }) (v := ?_) rfl (by kernel_rfl) (by kernel_rfl) (by kernel_rfl) (fun _ _ _ h => h) (Or.inl ⟨by rfl, ?_⟩) hHeld ?_
            rotate_left
            · intro w hSw
              (try dsimp only at hSw)
              go_simp
              all_goals with_reducible rfl
            (try simp only [Act.put, List.setIfInBounds_toArray, List.set_cons_zero, List.set_cons_succ])
            refine wpAnyH_take (i := 27) (oi := { dst := some 171, op := Go.Op.move (Go.Operand.tmp 12), type := 3, pos := "law.go:169", after := #[{ on := 24, ground := Go.Ground.guard }], guard := some (24, false) }) (v := ?_) rfl (by kernel_rfl) (by kernel_rfl) (by kernel_rfl) (fun _ _ _ h => h) (Or.inl ⟨by rfl, ?_⟩) hHeld ?_
            rotate_left
            · intro w hSw
              (try dsimp only at hSw)
              go_simp
              all_goals with_reducible rfl
            (try simp only [Act.put, List.setIfInBounds_toArray, List.set_cons_zero, List.set_cons_succ])
            refine wpAnyH_take (i := 28) (oi := { dst := some 172, op := Go.Op.indexAddr 29 (Go.Operand.tmp 170) (Go.Operand.tmp 171), type := 0, pos := "law.go:169", after := #[{ on := 26, ground := Go.Ground.data }, { on := 27, ground := Go.Ground.data }, { on := 24, ground := Go.Ground.guard }], guard := some (24, false) }) (v := ?_) rfl (by kernel_rfl) (by kernel_rfl) (by kernel_rfl) (fun _ _ _ h => h) (Or.inl ⟨by rfl, ?_⟩) hHeld ?_
            rotate_left
            · intro w hSw
              (try dsimp only at hSw)
              go_simp
              all_goals with_reducible rfl
            (try simp only [Act.put, List.setIfInBounds_toArray, List.set_cons_zero, List.set_cons_succ])
            refine wpAnyH_take (i := 29) (oi := { dst := some 173, op := Go.Op.fieldAddr 67 (Go.Operand.tmp 172) 1, type := 0, pos := "law.go:169", after := #[{ on := 28, ground := Go.Ground.data }, { on := 24, ground := Go.Ground.guard }], guard := some (24, false) }) (v := ?_) rfl (by kernel_rfl) (by kernel_rfl) (by kernel_rfl) (fun _ _ _ h => h) (Or.inl ⟨by rfl, ?_⟩) hHeld ?_
            rotate_left
            · intro w hSw
              (try dsimp only at hSw)
              go_simp
              all_goals with_reducible rfl
            (try simp only [Act.put, List.setIfInBounds_toArray, List.set_cons_zero, List.set_cons_succ])
            refine wpAnyH_take (i := 30) (oi := { dst := some 174, op := Go.Op.load 65 (Go.Operand.tmp 173), type := 65, pos := "law.go:169", after := #[{ on := 29, ground := Go.Ground.data }, { on := 24, ground := Go.Ground.guard }], guard := some (24, false) }) (v := ?_) rfl (by kernel_rfl) (by kernel_rfl) (by kernel_rfl) (fun _ _ _ h => h) (Or.inl ⟨by rfl, ?_⟩) hHeld ?_
            rotate_left
            · intro w hSw
              (try dsimp only at hSw)
              go_simp
              all_goals with_reducible rfl
            (try simp only [Act.put, List.setIfInBounds_toArray, List.set_cons_zero, List.set_cons_succ])
            refine wpAnyH_take (i := 31) (oi := { dst := some 175, op := Go.Op.fieldAddr 31 (Go.Operand.tmp 10) 0, type := 0, pos := "law.go:169", after := #[{ on := 24, ground := Go.Ground.guard }], guard := some (24, false) }) (v := ?_) rfl (by kernel_rfl) (by kernel_rfl) (by kernel_rfl) (fun _ _ _ h => h) (Or.inl ⟨by rfl, ?_⟩) hHeld ?_
            rotate_left
            · intro w hSw
              (try dsimp only at hSw)
              go_simp
              all_goals with_reducible rfl
            (try simp only [Act.put, List.setIfInBounds_toArray, List.set_cons_zero, List.set_cons_succ])
            refine wpAnyH_take (i := 32) (oi := { dst := some 176, op := Go.Op.load 29 (Go.Operand.tmp 175), type := 29, pos := "law.go:169", after := #[{ on := 31, ground := Go.Ground.data }, { on := 24, ground := Go.Ground.guard }], guard := some (24, false) }) (v := ?_) rfl (by kernel_rfl) (by kernel_rfl) (by kernel_rfl) (fun _ _ _ h => h) (Or.inl ⟨by rfl, ?_⟩) hHeld ?_
            rotate_left
            · intro w hSw
              (try dsimp only at hSw)
              go_simp
              all_goals with_reducible rfl
            (try simp only [Act.put, List.setIfInBounds_toArray, List.set_cons_zero, List.set_cons_succ])
            refine wpAnyH_take (i := 33) (oi := { dst := some 177, op := Go.Op.move (Go.Operand.tmp 12), type := 3, pos := "law.go:169", after := #[{ on := 24, ground := Go.Ground.guard }], guard := some (24, false) }) (v := ?_) rfl (by kernel_rfl) (by kernel_rfl) (by kernel_rfl) (fun _ _ _ h => h) (Or.inl ⟨by rfl, ?_⟩) hHeld ?_
            rotate_left
            · intro w hSw
              (try dsimp only at hSw)
              go_simp
              all_goals with_reducible rfl
            (try simp only [Act.put, List.setIfInBounds_toArray, List.set_cons_zero, List.set_cons_succ])
            refine wpAnyH_take (i := 34) (oi := { dst := some 178, op := Go.Op.indexAddr 29 (Go.Operand.tmp 176) (Go.Operand.tmp 177), type := 0, pos := "law.go:169", after := #[{ on := 32, ground := Go.Ground.data }, { on := 33, ground := Go.Ground.data }, { on := 24, ground := Go.Ground.guard }], guard := some (24, false) }) (v := ?_) rfl (by kernel_rfl) (by kernel_rfl) (by kernel_rfl) (fun _ _ _ h => h) (Or.inl ⟨by rfl, ?_⟩) hHeld ?_
            rotate_left
            · intro w hSw
              (try dsimp only at hSw)
              go_simp
              all_goals with_reducible rfl
            (try simp only [Act.put, List.setIfInBounds_toArray, List.set_cons_zero, List.set_cons_succ])
            refine wpAnyH_take (i := 35) (oi := { dst := some 179, op := Go.Op.fieldAddr 67 (Go.Operand.tmp 178) 1, type := 0, pos := "law.go:169", after := #[{ on := 34, ground := Go.Ground.data }, { on := 24, ground := Go.Ground.guard }], guard := some (24, false) }) (v := ?_) rfl (by kernel_rfl) (by kernel_rfl) (by kernel_rfl) (fun _ _ _ h => h) (Or.inl ⟨by rfl, ?_⟩) hHeld ?_
            rotate_left
            · intro w hSw
              (try dsimp only at hSw)
              go_simp
              all_goals with_reducible rfl
            (try simp only [Act.put, List.setIfInBounds_toArray, List.set_cons_zero, List.set_cons_succ])
            refine wpAnyH_take (i := 36) (oi := { dst := some 180, op := Go.Op.load 65 (Go.Operand.tmp 179), type := 65, pos := "law.go:169", after := #[{ on := 35, ground := Go.Ground.data }, { on := 24, ground := Go.Ground.guard }], guard := some (24, false) }) (v := ?_) rfl (by kernel_rfl) (by kernel_rfl) (by kernel_rfl) (fun _ _ _ h => h) (Or.inl ⟨by rfl, ?_⟩) hHeld ?_
            rotate_left
            · intro w hSw
              (try dsimp only at hSw)
              go_simp
              all_goals with_reducible rfl
            (try simp only [Act.put, List.setIfInBounds_toArray, List.set_cons_zero, List.set_cons_succ])
            refine wpAnyH_ready (rs := [37]) (by kernel_rfl) (by simp) ?_
            refine AllReadyH.cons (o := { dst := some 181, op := Go.Op.call { callee := Go.Callee.value (Go.Operand.func 29), args := #[Go.Operand.tmp 174, Go.Operand.tmp 180], argTypes := #[65, 65] }, type := 4, pos := "law.go:169", after := #[{ on := 30, ground := Go.Ground.data }, { on := 36, ground := Go.Ground.data }, { on := 24, ground := Go.Ground.chain }, { on := 24, ground := Go.Ground.guard }], guard := some (24, false) }) rfl (fun K hK => ?_) AllReadyH.nil
            go_simp
            (go_at_call 29; (with_reducible refine (HKC.out _ (below_then HB9.out hDz)).mono ?_); rintro e w19 ⟨rfl, h19⟩; have L19 := below_then hDz h19)
            go_wp2_with fail
            refine hK.out _ _ (HSZ.out _ L19) (fun hHeld => ?_)
            clear hK K
            (try simp only [Act.put, List.setIfInBounds_toArray, List.set_cons_zero, List.set_cons_succ])
            refine wpAnyH_take (i := 38) (oi := { dst := some 182, op := Go.Op.unOp Go.UnOp.not 4 (Go.Operand.tmp 181), type := 4, pos := "law.go:169", after := #[{ on := 37, ground := Go.Ground.data }, { on := 24, ground := Go.Ground.guard }], guard := some (24, false) }) (v := ?_) rfl (by kernel_rfl) (by kernel_rfl) (by kernel_rfl) (fun _ _ _ h => h) (Or.inl ⟨by rfl, ?_⟩) hHeld ?_
            rotate_left
            · intro w hSw
              (try dsimp only at hSw)
              go_simp
              all_goals with_reducible rfl
            (try simp only [Act.put, List.setIfInBounds_toArray, List.set_cons_zero, List.set_cons_succ])
            refine wpAnyH_take (i := 39) (oi := { dst := some 183, op := Go.Op.pick (Go.Operand.tmp 168) (Go.Operand.const (Go.Value.bool true)) (Go.Operand.tmp 182), type := 4, pos := "law.go:169", after := #[{ on := 24, ground := Go.Ground.data }, { on := 38, ground := Go.Ground.data }], guard := none }) (v := ?_) rfl (by kernel_rfl) (by kernel_rfl) (by kernel_rfl) (fun _ _ _ h => h) (Or.inl ⟨by rfl, ?_⟩) hHeld ?_
            rotate_left
            · intro w hSw
              (try dsimp only at hSw)
              go_simp
              all_goals with_reducible rfl
            (try simp only [Act.put, List.setIfInBounds_toArray, List.set_cons_zero, List.set_cons_succ])
            refine wpAnyH_done (by kernel_rfl) ?_ _
            have HZZ := Lib.hid (below_then HB9.out L19)
            have hlt := HKL.out
            clear hHeld
            go_wp2
            exact ⟨⟨k + 1, by go_num, by omega, HB8.out.2.trans (HZZ.out.mono HB8.out.2.size)⟩, by simp [intOf]; omega⟩
          · have b9 : (f.kind != 9) = true := by rw [bne_iff_ne]; exact h9
            rw [eqB_yes (HVR.out h9).symm] at HVC
            clear h9
            have HSZ : Hid (∀ wx, Below W16.heap.size W16 wx → wx.cell? ⟨p3, 0, none⟩ = some (.slice (some ad1) X.F.length c3) ∧ wx.cell? ⟨g, 0, none⟩ = some (.slice (some ad2) Y.F.length c6) ∧ wx.cell? ⟨(ad1.add (k * 3)).block, (ad1.add (k * 3)).off + 1, none⟩ = some k1 ∧ wx.cell? ⟨(ad2.add (k * 3)).block, (ad2.add (k * 3)).off + 1, none⟩ = some k2 ∧ wx.cell? ⟨(ad1.add (k * 3)).block, (ad1.add (k * 3)).off + 2, none⟩ = some (.slice B1 a.V.length e1) ∧ wx.cell? ⟨(ad2.add (k * 3)).block, (ad2.add (k * 3)).off + 2, none⟩ = some (.slice B2 cc.V.length e2) ∧ wx.cell? ⟨gs, 2, none⟩ = some (.int .i64 f.kind) ∧ wx.cell? ⟨gs, 4, none⟩ = some (.bool false)) := Lib.hid (fun wx hx => ⟨cell_on hx x9, cell_on hx g9, cell_on hx p1, cell_on hx r1, cell_on hx p2, cell_on hx r2, cell_on hx d2, cell_on hx d4⟩)
            have hDz : Below W16.heap.size W16 W16.drew := (Below.refl _ _).drew
            go_wp2_with fail
            clear x9 g9 p0 p1 p2 r0 r1 r2 d2 d4
            refine wp_region_held_drew (S := (fun wx => wx.cell? ⟨p3, 0, none⟩ = some (.slice (some ad1) X.F.length c3) ∧ wx.cell? ⟨g, 0, none⟩ = some (.slice (some ad2) Y.F.length c6) ∧ wx.cell? ⟨(ad1.add (k * 3)).block, (ad1.add (k * 3)).off + 1, none⟩ = some k1 ∧ wx.cell? ⟨(ad2.add (k * 3)).block, (ad2.add (k * 3)).off + 1, none⟩ = some k2 ∧ wx.cell? ⟨(ad1.add (k * 3)).block, (ad1.add (k * 3)).off + 2, none⟩ = some (.slice B1 a.V.length e1) ∧ wx.cell? ⟨(ad2.add (k * 3)).block, (ad2.add (k * 3)).off + 2, none⟩ = some (.slice B2 cc.V.length e2) ∧ wx.cell? ⟨gs, 2, none⟩ = some (.int .i64 f.kind) ∧ wx.cell? ⟨gs, 4, none⟩ = some (.bool false))) (by kernel_rfl) (HSZ.out _ hDz) (fun hHeld => ?_)
            refine wpAnyH_take (i := 0) (oi := { dst := some 144, op := Go.Op.fieldAddr 45 (Go.Operand.tmp 13) 4, type := 0, pos := "law.go:169", after := #[], guard := none }) (v := ?_) rfl (by kernel_rfl) (by kernel_rfl) (by kernel_rfl) (fun _ _ _ h => h) (Or.inl ⟨by rfl, ?_⟩) hHeld ?_
            rotate_left
            · intro w hSw
              (try dsimp only at hSw)
              go_simp
              all_goals with_reducible rfl
            (try simp only [Act.put, List.setIfInBounds_toArray, List.set_cons_zero, List.set_cons_succ])
            refine wpAnyH_take (i := 1) (oi := { dst := some 145, op := Go.Op.load 4 (Go.Operand.tmp 144), type := 4, pos := "law.go:169", after := #[{ on := 0, ground := Go.Ground.data }], guard := none }) (v := ?_) rfl (by kernel_rfl) (by kernel_rfl) (by kernel_rfl) (fun _ _ _ h => h) (Or.inl ⟨by rfl, ?_⟩) hHeld ?_
            rotate_left
            · intro w hSw
              (try dsimp only at hSw)
              go_simp
              all_goals with_reducible rfl
            (try simp only [Act.put, List.setIfInBounds_toArray, List.set_cons_zero, List.set_cons_succ])
            refine wpAnyH_take (i := 2) (oi := { dst := some 146, op := Go.Op.unOp Go.UnOp.not 4 (Go.Operand.tmp 145), type := 4, pos := "law.go:169", after := #[{ on := 1, ground := Go.Ground.data }], guard := none }) (v := ?_) rfl (by kernel_rfl) (by kernel_rfl) (by kernel_rfl) (fun _ _ _ h => h) (Or.inl ⟨by rfl, ?_⟩) hHeld ?_
            rotate_left
            · intro w hSw
              (try dsimp only at hSw)
              go_simp
              all_goals with_reducible rfl
            (try simp only [Act.put, List.setIfInBounds_toArray, List.set_cons_zero, List.set_cons_succ])
            refine wpAnyH_take (i := 3) (oi := { dst := some 147, op := Go.Op.move (Go.Operand.tmp 146), type := 4, pos := "law.go:169", after := #[{ on := 2, ground := Go.Ground.data }], guard := none }) (v := ?_) rfl (by kernel_rfl) (by kernel_rfl) (by kernel_rfl) (fun _ _ _ h => h) (Or.inl ⟨by rfl, ?_⟩) hHeld ?_
            rotate_left
            · intro w hSw
              (try dsimp only at hSw)
              go_simp
              all_goals with_reducible rfl
            (try simp only [Act.put, List.setIfInBounds_toArray, List.set_cons_zero, List.set_cons_succ])
            refine wpAnyH_take (i := 4) (oi := { dst := some 148, op := Go.Op.fieldAddr 45 (Go.Operand.tmp 13) 2, type := 0, pos := "law.go:169", after := #[{ on := 3, ground := Go.Ground.guard }], guard := some (3, true) }) (v := ?_) rfl (by kernel_rfl) (by kernel_rfl) (by kernel_rfl) (fun _ _ _ h => h) (Or.inl ⟨by rfl, ?_⟩) hHeld ?_
            rotate_left
            · intro w hSw
              (try dsimp only at hSw)
              go_simp
              all_goals with_reducible rfl
            (try simp only [Act.put, List.setIfInBounds_toArray, List.set_cons_zero, List.set_cons_succ])
            refine wpAnyH_take (i := 5) (oi := { dst := some 149, op := Go.Op.load 3 (Go.Operand.tmp 148), type := 3, pos := "law.go:169", after := #[{ on := 4, ground := Go.Ground.data }, { on := 3, ground := Go.Ground.guard }], guard := some (3, true) }) (v := ?_) rfl (by kernel_rfl) (by kernel_rfl) (by kernel_rfl) (fun _ _ _ h => h) (Or.inl ⟨by rfl, ?_⟩) hHeld ?_
            rotate_left
            · intro w hSw
              (try dsimp only at hSw)
              go_simp
              all_goals with_reducible rfl
            (try simp only [Act.put, List.setIfInBounds_toArray, List.set_cons_zero, List.set_cons_succ])
            refine wpAnyH_take (i := 6) (oi := { dst := some 150, op := Go.Op.binOp Go.BinOp.neq 3 (Go.Operand.tmp 149) (Go.Operand.const (Go.Value.int Go.IntKind.i64 9)) 3, type := 4, pos := "law.go:169", after := #[{ on := 5, ground := Go.Ground.data }, { on := 3, ground := Go.Ground.guard }], guard := some (3, true) }) (v := ?_) rfl (by kernel_rfl) (by kernel_rfl) (by kernel_rfl) (fun _ _ _ h => h) (Or.inl ⟨by rfl, ?_⟩) hHeld ?_
            rotate_left
            · intro w hSw
              (try dsimp only at hSw)
              go_simp
              all_goals with_reducible rfl
            (try simp only [Act.put, List.setIfInBounds_toArray, List.set_cons_zero, List.set_cons_succ])
            refine wpAnyH_take (i := 7) (oi := { dst := some 151, op := Go.Op.pick (Go.Operand.tmp 147) (Go.Operand.tmp 150) (Go.Operand.const (Go.Value.bool false)), type := 4, pos := "law.go:169", after := #[{ on := 3, ground := Go.Ground.data }, { on := 6, ground := Go.Ground.data }], guard := none }) (v := ?_) rfl (by kernel_rfl) (by kernel_rfl) (by kernel_rfl) (fun _ _ _ h => h) (Or.inl ⟨by rfl, ?_⟩) hHeld ?_
            rotate_left
            · intro w hSw
              (try dsimp only at hSw)
              go_simp
              all_goals with_reducible rfl
            (try simp only [Act.put, List.setIfInBounds_toArray, List.set_cons_zero, List.set_cons_succ])
            refine wpAnyH_take (i := 8) (oi := { dst := some 152, op := Go.Op.move (Go.Operand.tmp 151), type := 4, pos := "law.go:169", after := #[{ on := 7, ground := Go.Ground.data }, { on := 3, ground := Go.Ground.chain }], guard := none }) (v := ?_) rfl (by kernel_rfl) (by kernel_rfl) (by kernel_rfl) (fun _ _ _ h => h) (Or.inl ⟨by rfl, ?_⟩) hHeld ?_
            rotate_left
            · intro w hSw
              (try dsimp only at hSw)
              go_simp
              all_goals with_reducible rfl
            (try simp only [Act.put, List.setIfInBounds_toArray, List.set_cons_zero, List.set_cons_succ])
            refine wpAnyH_take (i := 9) (oi := { dst := some 153, op := Go.Op.fieldAddr 31 (Go.Operand.tmp 8) 0, type := 0, pos := "law.go:169", after := #[{ on := 8, ground := Go.Ground.guard }], guard := some (8, true) }) (v := ?_) rfl (by kernel_rfl) (by kernel_rfl) (by kernel_rfl) (fun _ _ _ h => h) (Or.inl ⟨by rfl, ?_⟩) hHeld ?_
            rotate_left
            · intro w hSw
              (try dsimp only at hSw)
              go_simp
              all_goals with_reducible rfl
            (try simp only [Act.put, List.setIfInBounds_toArray, List.set_cons_zero, List.set_cons_succ])
            refine wpAnyH_take (i := 10) (oi := { dst := some 154, op := Go.Op.load 29 (Go.Operand.tmp 153), type := 29, pos := "law.go:169", after := #[{ on := 9, ground := Go.Ground.data }, { on := 8, ground := Go.Ground.guard }], guard := some (8, true) }) (v := ?_) rfl (by kernel_rfl) (by kernel_rfl) (by kernel_rfl) (fun _ _ _ h => h) (Or.inl ⟨by rfl, ?_⟩) hHeld ?_
            rotate_left
            · intro w hSw
              (try dsimp only at hSw)
              go_simp
              all_goals with_reducible rfl
            (try simp only [Act.put, List.setIfInBounds_toArray, List.set_cons_zero, List.set_cons_succ])
            refine wpAnyH_take (i := 11) (oi := { dst := some 155, op := Go.Op.move (Go.Operand.tmp 12), type := 3, pos := "law.go:169", after := #[{ on := 8, ground := Go.Ground.guard }], guard := some (8, true) }) (v := ?_) rfl (by kernel_rfl) (by kernel_rfl) (by kernel_rfl) (fun _ _ _ h => h) (Or.inl ⟨by rfl, ?_⟩) hHeld ?_
            rotate_left
            · intro w hSw
              (try dsimp only at hSw)
              go_simp
              all_goals with_reducible rfl
            (try simp only [Act.put, List.setIfInBounds_toArray, List.set_cons_zero, List.set_cons_succ])
            refine wpAnyH_take (i := 12) (oi := { dst := some 156, op := Go.Op.indexAddr 29 (Go.Operand.tmp 154) (Go.Operand.tmp 155), type := 0, pos := "law.go:169", after := #[{ on := 10, ground := Go.Ground.data }, { on := 11, ground := Go.Ground.data }, { on := 8, ground := Go.Ground.guard }], guard := some (8, true) }) (v := ?_) rfl (by kernel_rfl) (by kernel_rfl) (by kernel_rfl) (fun _ _ _ h => h) (Or.inl ⟨by rfl, ?_⟩) hHeld ?_
            rotate_left
            · intro w hSw
              (try dsimp only at hSw)
              go_simp
              all_goals with_reducible rfl
            (try simp only [Act.put, List.setIfInBounds_toArray, List.set_cons_zero, List.set_cons_succ])
            refine wpAnyH_take (i := 13) (oi := { dst := some 157, op := Go.Op.fieldAddr 67 (Go.Operand.tmp 156) 2, type := 0, pos := "law.go:169", after := #[{ on := 12, ground := Go.Ground.data }, { on := 8, ground := Go.Ground.guard }], guard := some (8, true) }) (v := ?_) rfl (by kernel_rfl) (by kernel_rfl) (by kernel_rfl) (fun _ _ _ h => h) (Or.inl ⟨by rfl, ?_⟩) hHeld ?_
            rotate_left
            · intro w hSw
              (try dsimp only at hSw)
              go_simp
              all_goals with_reducible rfl
            (try simp only [Act.put, List.setIfInBounds_toArray, List.set_cons_zero, List.set_cons_succ])
            refine wpAnyH_take (i := 14) (oi := { dst := some 158, op := Go.Op.load 65 (Go.Operand.tmp 157), type := 65, pos := "law.go:169", after := #[{ on := 13, ground := Go.Ground.data }, { on := 8, ground := Go.Ground.guard }], guard := some (8, true) }) (v := ?_) rfl (by kernel_rfl) (by kernel_rfl) (by kernel_rfl) (fun _ _ _ h => h) (Or.inl ⟨by rfl, ?_⟩) hHeld ?_
            rotate_left
            · intro w hSw
              (try dsimp only at hSw)
              go_simp
              all_goals with_reducible rfl
            (try simp only [Act.put, List.setIfInBounds_toArray, List.set_cons_zero, List.set_cons_succ])
            refine wpAnyH_take (i := 15) (oi := { dst := some 159, op := Go.Op.fieldAddr 31 (Go.Operand.tmp 10) 0, type := 0, pos := "law.go:169", after := #[{ on := 8, ground := Go.Ground.guard }], guard := some (8, true) }) (v := ?_) rfl (by kernel_rfl) (by kernel_rfl) (by kernel_rfl) (fun _ _ _ h => h) (Or.inl ⟨by rfl, ?_⟩) hHeld ?_
            rotate_left
            · intro w hSw
              (try dsimp only at hSw)
              go_simp
              all_goals with_reducible rfl
            (try simp only [Act.put, List.setIfInBounds_toArray, List.set_cons_zero, List.set_cons_succ])
            refine wpAnyH_take (i := 16) (oi := { dst := some 160, op := Go.Op.load 29 (Go.Operand.tmp 159), type := 29, pos := "law.go:169", after := #[{ on := 15, ground := Go.Ground.data }, { on := 8, ground := Go.Ground.guard }], guard := some (8, true) }) (v := ?_) rfl (by kernel_rfl) (by kernel_rfl) (by kernel_rfl) (fun _ _ _ h => h) (Or.inl ⟨by rfl, ?_⟩) hHeld ?_
            rotate_left
            · intro w hSw
              (try dsimp only at hSw)
              go_simp
              all_goals with_reducible rfl
            (try simp only [Act.put, List.setIfInBounds_toArray, List.set_cons_zero, List.set_cons_succ])
            refine wpAnyH_take (i := 17) (oi := { dst := some 161, op := Go.Op.move (Go.Operand.tmp 12), type := 3, pos := "law.go:169", after := #[{ on := 8, ground := Go.Ground.guard }], guard := some (8, true) }) (v := ?_) rfl (by kernel_rfl) (by kernel_rfl) (by kernel_rfl) (fun _ _ _ h => h) (Or.inl ⟨by rfl, ?_⟩) hHeld ?_
            rotate_left
            · intro w hSw
              (try dsimp only at hSw)
              go_simp
              all_goals with_reducible rfl
            (try simp only [Act.put, List.setIfInBounds_toArray, List.set_cons_zero, List.set_cons_succ])
            refine wpAnyH_take (i := 18) (oi := { dst := some 162, op := Go.Op.indexAddr 29 (Go.Operand.tmp 160) (Go.Operand.tmp 161), type := 0, pos := "law.go:169", after := #[{ on := 16, ground := Go.Ground.data }, { on := 17, ground := Go.Ground.data }, { on := 8, ground := Go.Ground.guard }], guard := some (8, true) }) (v := ?_) rfl (by kernel_rfl) (by kernel_rfl) (by kernel_rfl) (fun _ _ _ h => h) (Or.inl ⟨by rfl, ?_⟩) hHeld ?_
            rotate_left
            · intro w hSw
              (try dsimp only at hSw)
              go_simp
              all_goals with_reducible rfl
            (try simp only [Act.put, List.setIfInBounds_toArray, List.set_cons_zero, List.set_cons_succ])
            refine wpAnyH_take (i := 19) (oi := { dst := some 163, op := Go.Op.fieldAddr 67 (Go.Operand.tmp 162) 2, type := 0, pos := "law.go:169", after := #[{ on := 18, ground := Go.Ground.data }, { on := 8, ground := Go.Ground.guard }], guard := some (8, true) }) (v := ?_) rfl (by kernel_rfl) (by kernel_rfl) (by kernel_rfl) (fun _ _ _ h => h) (Or.inl ⟨by rfl, ?_⟩) hHeld ?_
            rotate_left
            · intro w hSw
              (try dsimp only at hSw)
              go_simp
              all_goals with_reducible rfl
            (try simp only [Act.put, List.setIfInBounds_toArray, List.set_cons_zero, List.set_cons_succ])
            refine wpAnyH_take (i := 20) (oi := { dst := some 164, op := Go.Op.load 65 (Go.Operand.tmp 163), type := 65, pos := "law.go:169", after := #[{ on := 19, ground := Go.Ground.data }, { on := 8, ground := Go.Ground.guard }], guard := some (8, true) }) (v := ?_) rfl (by kernel_rfl) (by kernel_rfl) (by kernel_rfl) (fun _ _ _ h => h) (Or.inl ⟨by rfl, ?_⟩) hHeld ?_
            rotate_left
            · intro w hSw
              (try dsimp only at hSw)
              go_simp
              all_goals with_reducible rfl
            (try simp only [Act.put, List.setIfInBounds_toArray, List.set_cons_zero, List.set_cons_succ])
            refine wpAnyH_ready (rs := [21]) (by kernel_rfl) (by simp) ?_
            refine AllReadyH.cons (o := { dst := some 165, op := Go.Op.call { callee := Go.Callee.value (Go.Operand.func 29), args := #[Go.Operand.tmp 158, Go.Operand.tmp 164], argTypes := #[65, 65] }, type := 4, pos := "law.go:169", after := #[{ on := 14, ground := Go.Ground.data }, { on := 20, ground := Go.Ground.data }, { on := 8, ground := Go.Ground.chain }, { on := 8, ground := Go.Ground.guard }], guard := some (8, true) }) rfl (fun K hK => ?_) AllReadyH.nil
            go_simp
            (go_at_call 29; (with_reducible refine (HVC.out _ (below_then HB9.out hDz)).mono ?_); rintro e w18 ⟨rfl, h18⟩; have L18 := below_then hDz h18)
            go_wp2_with fail
            refine hK.out _ _ (HSZ.out _ L18) (fun hHeld => ?_)
            clear hK K
            (try simp only [Act.put, List.setIfInBounds_toArray, List.set_cons_zero, List.set_cons_succ])
            refine wpAnyH_take (i := 22) (oi := { dst := some 166, op := Go.Op.unOp Go.UnOp.not 4 (Go.Operand.tmp 165), type := 4, pos := "law.go:169", after := #[{ on := 21, ground := Go.Ground.data }, { on := 8, ground := Go.Ground.guard }], guard := some (8, true) }) (v := ?_) rfl (by kernel_rfl) (by kernel_rfl) (by kernel_rfl) (fun _ _ _ h => h) (Or.inl ⟨by rfl, ?_⟩) hHeld ?_
            rotate_left
            · intro w hSw
              (try dsimp only at hSw)
              go_simp
              all_goals with_reducible rfl
            (try simp only [Act.put, List.setIfInBounds_toArray, List.set_cons_zero, List.set_cons_succ])
            refine wpAnyH_take (i := 23) (oi := { dst := some 167, op := Go.Op.pick (Go.Operand.tmp 152) (Go.Operand.tmp 166) (Go.Operand.const (Go.Value.bool false)), type := 4, pos := "law.go:169", after := #[{ on := 8, ground := Go.Ground.data }, { on := 22, ground := Go.Ground.data }], guard := none }) (v := ?_) rfl (by kernel_rfl) (by kernel_rfl) (by kernel_rfl) (fun _ _ _ h => h) (Or.inl ⟨by rfl, ?_⟩) hHeld ?_
            rotate_left
            · intro w hSw
              (try dsimp only at hSw)
              go_simp
              all_goals with_reducible rfl
            (try simp only [Act.put, List.setIfInBounds_toArray, List.set_cons_zero, List.set_cons_succ])
            refine wpAnyH_take (i := 24) (oi := { dst := some 168, op := Go.Op.move (Go.Operand.tmp 167), type := 4, pos := "law.go:169", after := #[{ on := 23, ground := Go.Ground.data }, { on := 21, ground := Go.Ground.chain }], guard := none }) (v := ?_) rfl (by kernel_rfl) (by kernel_rfl) (by kernel_rfl) (fun _ _ _ h => h) (Or.inl ⟨by rfl, ?_⟩) hHeld ?_
            rotate_left
            · intro w hSw
              (try dsimp only at hSw)
              go_simp
              all_goals with_reducible rfl
            (try simp only [Act.put, List.setIfInBounds_toArray, List.set_cons_zero, List.set_cons_succ])
            refine wpAnyH_take (i := 25) (oi := { dst := some 169, op := Go.Op.fieldAddr 31 (Go.Operand.tmp 8) 0, type := 0, pos := "law.go:169", after := #[{ on := 24, ground := Go.Ground.guard }], guard := some (24, false) }) (v := ?_) rfl (by kernel_rfl) (by kernel_rfl) (by kernel_rfl) (fun _ _ _ h => h) (Or.inl ⟨by rfl, ?_⟩) hHeld ?_
            rotate_left
            · intro w hSw
              (try dsimp only at hSw)
              go_simp
              all_goals with_reducible rfl
            (try simp only [Act.put, List.setIfInBounds_toArray, List.set_cons_zero, List.set_cons_succ])
            refine wpAnyH_take (i := 26) (oi := { dst := some 170, op := Go.Op.load 29 (Go.Operand.tmp 169), type := 29, pos := "law.go:169", after := #[{ on := 25, ground := Go.Ground.data }, { on := 24, ground := Go.Ground.guard }], guard := some (24, false) }) (v := ?_) rfl (by kernel_rfl) (by kernel_rfl) (by kernel_rfl) (fun _ _ _ h => h) (Or.inl ⟨by rfl, ?_⟩) hHeld ?_
            rotate_left
            · intro w hSw
              (try dsimp only at hSw)
              go_simp
              all_goals with_reducible rfl
            (try simp only [Act.put, List.setIfInBounds_toArray, List.set_cons_zero, List.set_cons_succ])
            refine wpAnyH_take (i := 27) (oi := { dst := some 171, op := Go.Op.move (Go.Operand.tmp 12), type := 3, pos := "law.go:169", after := #[{ on := 24, ground := Go.Ground.guard }], guard := some (24, false) }) (v := ?_) rfl (by kernel_rfl) (by kernel_rfl) (by kernel_rfl) (fun _ _ _ h => h) (Or.inl ⟨by rfl, ?_⟩) hHeld ?_
            rotate_left
            · intro w hSw
              (try dsimp only at hSw)
              go_simp
              all_goals with_reducible rfl
            (try simp only [Act.put, List.setIfInBounds_toArray, List.set_cons_zero, List.set_cons_succ])
            refine wpAnyH_take (i := 28) (oi := { dst := some 172, op := Go.Op.indexAddr 29 (Go.Operand.tmp 170) (Go.Operand.tmp 171), type := 0, pos := "law.go:169", after := #[{ on := 26, ground := Go.Ground.data }, { on := 27, ground := Go.Ground.data }, { on := 24, ground := Go.Ground.guard }], guard := some (24, false) }) (v := ?_) rfl (by kernel_rfl) (by kernel_rfl) (by kernel_rfl) (fun _ _ _ h => h) (Or.inl ⟨by rfl, ?_⟩) hHeld ?_
            rotate_left
            · intro w hSw
              (try dsimp only at hSw)
              go_simp
              all_goals with_reducible rfl
            (try simp only [Act.put, List.setIfInBounds_toArray, List.set_cons_zero, List.set_cons_succ])
            refine wpAnyH_take (i := 29) (oi := { dst := some 173, op := Go.Op.fieldAddr 67 (Go.Operand.tmp 172) 1, type := 0, pos := "law.go:169", after := #[{ on := 28, ground := Go.Ground.data }, { on := 24, ground := Go.Ground.guard }], guard := some (24, false) }) (v := ?_) rfl (by kernel_rfl) (by kernel_rfl) (by kernel_rfl) (fun _ _ _ h => h) (Or.inl ⟨by rfl, ?_⟩) hHeld ?_
            rotate_left
            · intro w hSw
              (try dsimp only at hSw)
              go_simp
              all_goals with_reducible rfl
            (try simp only [Act.put, List.setIfInBounds_toArray, List.set_cons_zero, List.set_cons_succ])
            refine wpAnyH_take (i := 30) (oi := { dst := some 174, op := Go.Op.load 65 (Go.Operand.tmp 173), type := 65, pos := "law.go:169", after := #[{ on := 29, ground := Go.Ground.data }, { on := 24, ground := Go.Ground.guard }], guard := some (24, false) }) (v := ?_) rfl (by kernel_rfl) (by kernel_rfl) (by kernel_rfl) (fun _ _ _ h => h) (Or.inl ⟨by rfl, ?_⟩) hHeld ?_
            rotate_left
            · intro w hSw
              (try dsimp only at hSw)
              go_simp
              all_goals with_reducible rfl
            (try simp only [Act.put, List.setIfInBounds_toArray, List.set_cons_zero, List.set_cons_succ])
            refine wpAnyH_take (i := 31) (oi := { dst := some 175, op := Go.Op.fieldAddr 31 (Go.Operand.tmp 10) 0, type := 0, pos := "law.go:169", after := #[{ on := 24, ground := Go.Ground.guard }], guard := some (24, false) }) (v := ?_) rfl (by kernel_rfl) (by kernel_rfl) (by kernel_rfl) (fun _ _ _ h => h) (Or.inl ⟨by rfl, ?_⟩) hHeld ?_
            rotate_left
            · intro w hSw
              (try dsimp only at hSw)
              go_simp
              all_goals with_reducible rfl
            (try simp only [Act.put, List.setIfInBounds_toArray, List.set_cons_zero, List.set_cons_succ])
            refine wpAnyH_take (i := 32) (oi := { dst := some 176, op := Go.Op.load 29 (Go.Operand.tmp 175), type := 29, pos := "law.go:169", after := #[{ on := 31, ground := Go.Ground.data }, { on := 24, ground := Go.Ground.guard }], guard := some (24, false) }) (v := ?_) rfl (by kernel_rfl) (by kernel_rfl) (by kernel_rfl) (fun _ _ _ h => h) (Or.inl ⟨by rfl, ?_⟩) hHeld ?_
            rotate_left
            · intro w hSw
              (try dsimp only at hSw)
              go_simp
              all_goals with_reducible rfl
            (try simp only [Act.put, List.setIfInBounds_toArray, List.set_cons_zero, List.set_cons_succ])
            refine wpAnyH_take (i := 33) (oi := { dst := some 177, op := Go.Op.move (Go.Operand.tmp 12), type := 3, pos := "law.go:169", after := #[{ on := 24, ground := Go.Ground.guard }], guard := some (24, false) }) (v := ?_) rfl (by kernel_rfl) (by kernel_rfl) (by kernel_rfl) (fun _ _ _ h => h) (Or.inl ⟨by rfl, ?_⟩) hHeld ?_
            rotate_left
            · intro w hSw
              (try dsimp only at hSw)
              go_simp
              all_goals with_reducible rfl
            (try simp only [Act.put, List.setIfInBounds_toArray, List.set_cons_zero, List.set_cons_succ])
            refine wpAnyH_take (i := 34) (oi := { dst := some 178, op := Go.Op.indexAddr 29 (Go.Operand.tmp 176) (Go.Operand.tmp 177), type := 0, pos := "law.go:169", after := #[{ on := 32, ground := Go.Ground.data }, { on := 33, ground := Go.Ground.data }, { on := 24, ground := Go.Ground.guard }], guard := some (24, false) }) (v := ?_) rfl (by kernel_rfl) (by kernel_rfl) (by kernel_rfl) (fun _ _ _ h => h) (Or.inl ⟨by rfl, ?_⟩) hHeld ?_
            rotate_left
            · intro w hSw
              (try dsimp only at hSw)
              go_simp
              all_goals with_reducible rfl
            (try simp only [Act.put, List.setIfInBounds_toArray, List.set_cons_zero, List.set_cons_succ])
            refine wpAnyH_take (i := 35) (oi := { dst := some 179, op := Go.Op.fieldAddr 67 (Go.Operand.tmp 178) 1, type := 0, pos := "law.go:169", after := #[{ on := 34, ground := Go.Ground.data }, { on := 24, ground := Go.Ground.guard }], guard := some (24, false) }) (v := ?_) rfl (by kernel_rfl) (by kernel_rfl) (by kernel_rfl) (fun _ _ _ h => h) (Or.inl ⟨by rfl, ?_⟩) hHeld ?_
            rotate_left
            · intro w hSw
              (try dsimp only at hSw)
              go_simp
              all_goals with_reducible rfl
            (try simp only [Act.put, List.setIfInBounds_toArray, List.set_cons_zero, List.set_cons_succ])
            refine wpAnyH_take (i := 36) (oi := { dst := some 180, op := Go.Op.load 65 (Go.Operand.tmp 179), type := 65, pos := "law.go:169", after := #[{ on := 35, ground := Go.Ground.data }, { on := 24, ground := Go.Ground.guard }], guard := some (24, false) }) (v := ?_) rfl (by kernel_rfl) (by kernel_rfl) (by kernel_rfl) (fun _ _ _ h => h) (Or.inl ⟨by rfl, ?_⟩) hHeld ?_
            rotate_left
            · intro w hSw
              (try dsimp only at hSw)
              go_simp
              all_goals with_reducible rfl
            (try simp only [Act.put, List.setIfInBounds_toArray, List.set_cons_zero, List.set_cons_succ])
            refine wpAnyH_ready (rs := [37]) (by kernel_rfl) (by simp) ?_
            refine AllReadyH.cons (o := { dst := some 181, op := Go.Op.call { callee := Go.Callee.value (Go.Operand.func 29), args := #[Go.Operand.tmp 174, Go.Operand.tmp 180], argTypes := #[65, 65] }, type := 4, pos := "law.go:169", after := #[{ on := 30, ground := Go.Ground.data }, { on := 36, ground := Go.Ground.data }, { on := 24, ground := Go.Ground.chain }, { on := 24, ground := Go.Ground.guard }], guard := some (24, false) }) rfl (fun K hK => ?_) AllReadyH.nil
            go_simp
            (go_at_call 29; (with_reducible refine (HKC.out _ (below_then HB9.out L18)).mono ?_); rintro e w19 ⟨rfl, h19⟩; have L19 := below_then L18 h19)
            go_wp2_with fail
            refine hK.out _ _ (HSZ.out _ L19) (fun hHeld => ?_)
            clear hK K
            (try simp only [Act.put, List.setIfInBounds_toArray, List.set_cons_zero, List.set_cons_succ])
            refine wpAnyH_take (i := 38) (oi := { dst := some 182, op := Go.Op.unOp Go.UnOp.not 4 (Go.Operand.tmp 181), type := 4, pos := "law.go:169", after := #[{ on := 37, ground := Go.Ground.data }, { on := 24, ground := Go.Ground.guard }], guard := some (24, false) }) (v := ?_) rfl (by kernel_rfl) (by kernel_rfl) (by kernel_rfl) (fun _ _ _ h => h) (Or.inl ⟨by rfl, ?_⟩) hHeld ?_
            rotate_left
            · intro w hSw
              (try dsimp only at hSw)
              go_simp
              all_goals with_reducible rfl
            (try simp only [Act.put, List.setIfInBounds_toArray, List.set_cons_zero, List.set_cons_succ])
            refine wpAnyH_take (i := 39) (oi := { dst := some 183, op := Go.Op.pick (Go.Operand.tmp 168) (Go.Operand.const (Go.Value.bool true)) (Go.Operand.tmp 182), type := 4, pos := "law.go:169", after := #[{ on := 24, ground := Go.Ground.data }, { on := 38, ground := Go.Ground.data }], guard := none }) (v := ?_) rfl (by kernel_rfl) (by kernel_rfl) (by kernel_rfl) (fun _ _ _ h => h) (Or.inl ⟨by rfl, ?_⟩) hHeld ?_
            rotate_left
            · intro w hSw
              (try dsimp only at hSw)
              go_simp
              all_goals with_reducible rfl
            (try simp only [Act.put, List.setIfInBounds_toArray, List.set_cons_zero, List.set_cons_succ])
            refine wpAnyH_done (by kernel_rfl) ?_ _
            have HZZ := Lib.hid (below_then HB9.out L19)
            have hlt := HKL.out
            clear hHeld
            go_wp2
            exact ⟨⟨k + 1, by go_num, by omega, HB8.out.2.trans (HZZ.out.mono HB8.out.2.size)⟩, by simp [intOf]; omega⟩
      · obtain rfl : k = X.F.length := by omega
        go_wp2
        go_ret
        exact ⟨rfl, hb0r⟩
end Go.Proofs.YtckcojkpghiclaaGreatDoor.T11.lawDecodeTwice
