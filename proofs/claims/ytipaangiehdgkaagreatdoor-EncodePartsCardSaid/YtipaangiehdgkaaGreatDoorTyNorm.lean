/-
  Whether a message is of one: the contract of isOf, of any message; and of Val and May.
-/
import Derived.Test.YtipaangiehdgkaaGreatDoorTyIs
import Derived.Test.YtipaangiehdgkaaGreatDoorTyAsk
import Derived.Test.YtipaangiehdgkaaGreatDoorVarRget
import Derived.Test.YtipaangiehdgkaaGreatDoorTabMath
import Derived.Test.YtipaangiehdgkaaGreatDoorTokRefs
namespace Go.Proofs.YtipaangiehdgkaaGreatDoor.T9
set_option maxRecDepth 100000
open Go.Proofs.YtipaangiehdgkaaGreatDoor.T4
open Go.RowKit Go.Maps

theorem byS_in {s : Sc} (h : ScIn s) {m no : Int} {f : Df} (hf : byS s m no = some f) : DfIn f ∧ 0 ≤ m ∧ m < s.M.length := by
  unfold byS msgAt at hf
  by_cases h0 : m < 0
  · rw [if_pos h0] at hf; simp at hf
  · rw [if_neg h0] at hf
    cases hm : s.M[m.toNat]? with
    | none => rw [hm] at hf; simp at hf
    | some d =>
      rw [hm] at hf
      simp only [Option.bind_some] at hf
      have hlt := (List.getElem?_eq_some_iff.1 hm).1
      exact ⟨(h.M d (List.mem_of_getElem? hm)).F f (List.mem_of_find?_eq_some hf), by omega, by omega⟩
theorem by_found {B : Nat} {s : Sc} {vM vE : Value} {m x : Int} {f : Df} (hf : byS s m x = some f) (w : World) (hB : B ≤ w.heap.size) (hs : SAt B w s vM vE) :
    Calls Tryz.prog 47 #[.agg #[vM, vE], .int .i64 m, .int .i64 x] w fun e w' => e = .returned (.tuple #[.agg #[.int .i64 f.no, .string (txt f.name), .int .i64 f.kind, .int .i64 f.ref, .bool f.rep, .int .i64 f.key, .int .i64 f.one], .bool true]) ∧ Below w.heap.size w w' :=
  (By_any B s vM vE m x w hB hs).mono fun e w' h => ⟨by rw [h.1, hf]; rfl, h.2⟩
theorem by_none {B : Nat} {s : Sc} {vM vE : Value} {m x : Int} (hf : byS s m x = none) (w : World) (hB : B ≤ w.heap.size) (hs : SAt B w s vM vE) :
    Calls Tryz.prog 47 #[.agg #[vM, vE], .int .i64 m, .int .i64 x] w fun e w' => e = .returned (.tuple #[.agg #[.int .i64 0, .string ⟨#[]⟩, .int .i64 0, .int .i64 0, .bool false, .int .i64 0, .int .i64 0], .bool false]) ∧ Below w.heap.size w w' :=
  (By_any B s vM vE m x w hB hs).mono fun e w' h => ⟨by rw [h.1, hf]; rfl, h.2⟩
theorem isOf_zero (s : Sc) : IsH s 0 := by
  intro B D vM vE m x u w hB hs hx hi hc
  have LBD := below_then (below_new w (.cells #[vM, vE] 33)) (below_new (w.alloc (.cells #[vM, vE] 33)) (.cells #[u] 36))
  go_enter Tryz.func51, Tryz.ntmps51
  go_wp2
  go_ret
  exact ⟨rfl, LBD⟩
set_option maxRecDepth 1000000 in
set_option maxHeartbeats 8000000 in
theorem isOf_step {s : Sc} {d : Nat} (hd : d ≤ 1000) (hin : ScIn s) (H : IsH s d) : IsH s (d + 1) := by
  intro B D vM vE m x u w hB hs hx hi hc
  rw [show ((d + 1 : Nat) : Int) = (d : Int) + 1 by omega]
  obtain ⟨A1, q1, rfl⟩ : ∃ A q, vM = .slice A s.M.length q := by
    obtain ⟨xs, ys, ⟨A, q, h, _⟩, _⟩ := hs
    exact ⟨A, q, h⟩
  obtain ⟨A2, q2, rfl⟩ : ∃ A q, vE = .slice A s.E.length q := by
    obtain ⟨xs, ys, _, _, ⟨A, q, h, _⟩, _⟩ := hs
    exact ⟨A, q, h⟩
  cases D with
  | zero => exact hx.elim
  | succ D =>
  obtain ⟨u', hu, hl⟩ := hx
  simp only [List.cons.injEq, and_true] at hu
  subst hu
  obtain ⟨A, c, xs, rfl, hsl, hbl, hr, hn⟩ := hl.open_
  obtain ⟨X1, X2, LBD⟩ := two_boxes w (.cells #[.slice A1 s.M.length q1, .slice A2 s.E.length q2] 33) (.cells #[.slice A x.F.length c] 36)
  have hcf := cnt_F x
  have hd0 : (((d + 1 : Nat) : Int) == 0) = false := by rw [beq_eq_false_iff_ne]; omega
  have hd1 : ((d : Int) + 1 == 0) = false := by rw [beq_eq_false_iff_ne]; omega
  have HIS : Hid (isB s (d + 1) m x = (decide (0 ≤ m ∧ m < s.M.length) && slotsG (byS s m) (fillG (isB s d)) [] x.F)) := Lib.hid rfl
  by_cases hm0 : m < 0
  · have e1 : decide (m < 0) = true := decide_eq_true hm0
    have HF : Hid (isB s (d + 1) m x = false) := Lib.hid (by rw [HIS.out, decide_eq_false (by omega)]; rfl)
    clear hm0
    go_enter Tryz.func51, Tryz.ntmps51
    go_wp2
    go_ret
    exact ⟨by rw [HF.out]; rfl, LBD⟩
  by_cases hm1 : (s.M.length : Int) ≤ m
  · have e0 : decide (m < 0) = false := decide_eq_false hm0
    have e1 : decide (m ≥ (s.M.length : Int)) = true := decide_eq_true hm1
    have e2 : decide ((s.M.length : Int) ≤ m) = true := decide_eq_true hm1
    have HF : Hid (isB s (d + 1) m x = false) := Lib.hid (by rw [HIS.out, decide_eq_false (by omega)]; rfl)
    clear hm0 hm1
    go_enter Tryz.func51, Tryz.ntmps51
    go_wp2
    go_ret
    exact ⟨by rw [HF.out]; rfl, LBD⟩
  have e0 : decide (m < 0) = false := decide_eq_false hm0
  have e1 : decide (m ≥ (s.M.length : Int)) = false := decide_eq_false hm1
  have e2 : decide ((s.M.length : Int) ≤ m) = false := decide_eq_false hm1
  have HF : Hid (isB s (d + 1) m x = slotsG (byS s m) (fillG (isB s d)) [] x.F) := Lib.hid (by rw [HIS.out, decide_eq_true (by omega)]; rfl)
  have hmm := @run_makeMap Tryz.prog
  have HSL := Lib.hid hsl
  have HR := Lib.hid hr
  have HBB := Lib.hid hbl
  have HSA := Lib.hid hs
  have HII := Lib.hid hi
  have HH := Lib.hid H
  have HN := Lib.hid hin
  clear hm0 hm1 hsl hr hl hbl hs hi H hin HIS
  go_enter Tryz.func51, Tryz.ntmps51
  obtain ⟨x1, x2⟩ := box2' X1
  have x3 := bx1 X2
  go_wp2_with fail
  obtain ⟨W0, hW0⟩ : ∃ W, W = ((w.alloc (.cells #[.slice A1 s.M.length q1, .slice A2 s.E.length q2] 33)).alloc (.cells #[.slice A x.F.length c] 36)) := ⟨_, rfl⟩
  have hsz0 : W0.heap.size = w.heap.size + 2 := by rw [hW0]; simp
  have HC0 : Claims (W0.alloc (.map #[] 0)) (w.heap.size + 2) 0 [] := hsz0 ▸ Claims.made W0
  rw [← hW0] at X1 X2 LBD ⊢
  have hBW : Below (w.heap.size + 2) W0 (W0.alloc (.map #[] 0)) := hsz0 ▸ below_new W0 _
  clear hW0 x1 x2 x3 hmm
  go_loopw [31] (fun i wr => ∃ (k : Nat) (cl : List (Int × Int)), i = .int .i64 k ∧ k ≤ x.F.length ∧ Claims wr (w.heap.size + 2) (2 * k) cl ∧ slotsG (byS s m) (fillG (isB s d)) cl (x.F.drop k) = slotsG (byS s m) (fillG (isB s d)) [] x.F ∧ Below (w.heap.size + 2) W0 wr) (fun i _ => x.F.length - (intOf i).toNat)
  case atStart => exact ⟨0, [], rfl, by omega, HC0, rfl, hBW⟩
  case round =>
    obtain ⟨k, cl, rfl, hk, hcl, hsg, hbw⟩ := hrel
    have HBW := Lib.hid (LBD.trans (hbw.mono (by omega)))
    have HSG := Lib.hid hsg
    clear hsg
    by_cases hlt : k < x.F.length
    · obtain ⟨a, ha⟩ : ∃ a, x.F[k]? = some a := ⟨_, List.getElem?_eq_getElem hlt⟩
      obtain ⟨ad, x0, y0, z0, rfl, hg, hca, c0, c1, c2⟩ := row3 sAt.len (sl_low HSL.out HBB.out (Lo.below HBW.out hB)) (HR.out.imp fun a cs h => SRd.low (Lo.below HBW.out hB) h) ha
      obtain ⟨B1, d1, B2, d2, rfl, rfl, rfl⟩ := slot_shape hca
      have hmem := List.mem_of_getElem? ha
      have hcs := cS_le hmem
      have hdc := drop_cons ha
      rw [hdc, slotsG_cons] at HSG
      -- the worlds
      have N1 := below_new wr (.cells #[.int .i64 a.no, .slice B1 a.K.length d1, .slice B2 a.V.length d2] 48)
      have Y1 := box_on ((hbw.block _ (show w.heap.size < w.heap.size + 2 by omega)).trans X1) N1
      have hb1 := below_then HBW.out N1
      have hBr : B ≤ wr.heap.size := Nat.le_trans hB HBW.out.size
      have Z1 := heap_alloc_new wr (.cells #[.int .i64 a.no, .slice B1 a.K.length d1, .slice B2 a.V.length d2] 48)
      have hc1 := Free.alloc hcl (.cells #[.int .i64 a.no, .slice B1 a.K.length d1, .slice B2 a.V.length d2] 48)
      obtain ⟨W1, hW1⟩ : ∃ W, W = wr.alloc (.cells #[.int .i64 a.no, .slice B1 a.K.length d1, .slice B2 a.V.length d2] 48) := ⟨_, rfl⟩
      have hs1 : SAt B W1 s (.slice A1 s.M.length q1) (.slice A2 s.E.length q2) := hW1 ▸ SAt.lo HSA.out hb1 hB
      have hB1 : B ≤ W1.heap.size := by rw [hW1]; exact Nat.le_trans hBr N1.size
      obtain ⟨y1, y2⟩ := box2' Y1
      obtain ⟨s0, s1, s2⟩ := bx3 Z1
      have hm1 := (bx1 (box_on ((hbw.block _ (show w.heap.size + 1 < w.heap.size + 2 by omega)).trans X2) N1))
      have HCA := Lib.hid hca
      have HA := Lib.hid ha
      cases hby : byS s m a.no with
      | none =>
        rw [hby] at HSG
        have HBY := Lib.hid (by_none hby W1 hB1 hs1)
        clear ha hca hcl hbw hs1 hc1 hby hdc
        go_wp2_with fail
        rw [← hW1]
        have hN1 : Below wr.heap.size wr W1 := hW1 ▸ N1
        clear hW1 y1 y2 s0 s1 s2 hm1 Y1 Z1 N1 hb1
        refine HBY.out.mono ?_
        rintro e w2 ⟨rfl, hb2⟩
        go_wp2
        go_ret
        exact ⟨by rw [HF.out, ← HSG.out]; rfl, below_lit (below_then (below_then HBW.out hN1) hb2) _⟩
      | some f =>
        rw [hby] at HSG
        obtain ⟨hfi, -, -⟩ := byS_in HN.out hby
        have HBY := Lib.hid (by_found hby W1 hB1 hs1)
        have HSI := HII.out.slot hmem
        obtain ⟨b1, hb1'⟩ : ∃ b, claimB cl f = b := ⟨_, rfl⟩
        obtain ⟨b2, hb2'⟩ : ∃ b, fillG (isB s d) f a = b := ⟨_, rfl⟩
        have HSG2 : Hid ((b1 && (b2 && slotsG (byS s m) (fillG (isB s d)) (claimsOf f ++ cl) (x.F.drop (k + 1)))) = slotsG (byS s m) (fillG (isB s d)) [] x.F) := Lib.hid (by rw [← hb1', ← hb2']; exact HSG.out)
        have hN1 : Below wr.heap.size wr W1 := hW1 ▸ N1
        have hY1 := hW1 ▸ Y1
        have hZ1 := hW1 ▸ Z1
        have hC1 : Claims W1 (w.heap.size + 2) (2 * k) cl := hW1 ▸ hc1
        have hlt2 := Free.lt hcl
        clear ha hca hcl hs1 hc1 hby hdc HSG
        go_wp2_with fail
        rw [← hW1]
        have hw1s : W1.heap.size = wr.heap.size + 1 := by rw [hW1]; simp
        clear hW1 y1 y2 s0 s1 s2 hm1 Y1 Z1 N1 hb1
        refine HBY.out.mono ?_
        rintro e w2 ⟨rfl, hb2⟩
        have N2 := below_new w2 (dC f)
        have X3 := heap_alloc_new w2 (dC f)
        have hs2 : W1.heap.size ≤ w2.heap.size := hb2.size
        have Y2 := box_on hY1 (below_then hb2 N2)
        have Z2 := box_on hZ1 (below_then hb2 N2)
        have hC2 := Free.alloc (Free.on hC1 hb2) (dC f)
        have HCL := Lib.hid (claims_any (w.heap.size + 2) (2 * k) cl f hfi (w2.alloc (dC f)) hC2 (by omega))
        rw [hb1'] at HCL
        have hAw : Below w.heap.size wr (w2.alloc (dC f)) := (hN1.mono HBW.out.size).trans ((hb2.mono (Nat.le_trans HBW.out.size hN1.size)).trans (N2.mono (Nat.le_trans HBW.out.size (Nat.le_trans hN1.size hs2))))
        have hAx : Below (w.heap.size + 2) wr (w2.alloc (dC f)) := (hN1.mono (Nat.le_of_lt hlt2)).trans ((hb2.mono (by omega)).trans (N2.mono (by omega)))
        have HDN := Lib.hid (fun (w3 : World) (hg3 : (w2.alloc (dC f)).grownBy w3 (some (w.heap.size + 2))) => And.intro (hAw.grown hg3 (by have := HBW.out.size; simp; omega) (fun j hj => by injection hj with hj; omega)) (hAx.grown hg3 (by simp; omega) (fun j hj => by injection hj with hj; omega)))
        have HBX := Lib.hid (fun (w3 : World) (hg3 : (w2.alloc (dC f)).grownBy w3 (some (w.heap.size + 2))) => And.intro (box_kept Y2 hg3 (by omega)) (And.intro (box_kept Z2 hg3 (by omega)) (box_kept X3 hg3 (by omega))))
        have g3 := heap_cell X3
        have f0 := g3 0
        have f1 := g3 1
        have f2 := g3 2
        have f3 := g3 3
        have f4 := g3 4
        have f5 := g3 5
        have f6 := g3 6
        simp at f0 f1 f2 f3 f4 f5 f6
        clear hC1 hC2 hY1 hZ1 Y2 Z2 X3 N2 g3 hN1 hb1'
        cases b1 with
        | false =>
          go_wp2_with fail
          refine HCL.out.mono ?_
          rintro e w3 ⟨rfl, -, hg3⟩
          go_wp2
          go_ret
          exact ⟨by rw [HF.out, ← HSG2.out]; rfl, HBW.out.trans (HDN.out _ hg3).1⟩
        | true =>
          go_wp2_with fail
          refine HCL.out.mono ?_
          rintro e w3 ⟨rfl, hc3, hg3⟩
          have hc3 := hc3 (by trivial)
          obtain ⟨hd3, hdx⟩ := HDN.out _ hg3
          obtain ⟨Y3, Z3, X4⟩ := HBX.out _ hg3
          have hw3 : Below w.heap.size w w3 := HBW.out.trans hd3
          have hB3 : B ≤ w3.heap.size := Nat.le_trans hB hw3.size
          have HFL := Lib.hid (fills_any HH.out B D A1 A2 q1 q2 f a B1 B2 d1 d2 w3 hB3 (SAt.lo HSA.out hw3 hB) (SRd.low (Lo.of (hd3.mono hB)) HCA.out) HSI (by omega))
          rw [hb2'] at HFL
          obtain ⟨y1, y2⟩ := box2' Y3
          obtain ⟨s0, s1, s2⟩ := bx3 Z3
          have g4 := heap_cell X4
          have k0 := g4 0
          have k1 := g4 1
          have k2 := g4 2
          have k3 := g4 3
          have k4 := g4 4
          have k5 := g4 5
          have k6 := g4 6
          simp at k0 k1 k2 k3 k4 k5 k6
          have HDX := Lib.hid hdx
          have HBWW := Lib.hid hbw
          clear f0 f1 f2 f3 f4 f5 f6 hb2' Y3 Z3 X4 g4 hd3 hdx hbw
          cases b2 with
          | false =>
            go_wp2_with fail
            refine HFL.out.mono ?_
            rintro e w4 ⟨rfl, hb4⟩
            go_wp2
            go_ret
            exact ⟨by rw [HF.out, ← HSG2.out]; rfl, below_then hw3 hb4⟩
          | true =>
            go_wp2_with fail
            refine HFL.out.mono ?_
            rintro e w4 ⟨rfl, hb4⟩
            have hc4 := Free.on hc3 hb4
            go_wp2
            refine ⟨⟨k + 1, claimsOf f ++ cl, by go_num, by omega, by rw [show 2 * (k + 1) = 2 * k + 2 by omega]; exact hc4, by rw [← HSG2.out]; simp, HBWW.out.trans (HDX.out.trans (hb4.mono (by have := HDX.out.size; omega)))⟩, by simp [intOf]; omega⟩
    · obtain rfl : k = x.F.length := by omega
      have HE := HSG.out
      rw [List.drop_length] at HE
      go_wp2
      go_ret
      exact ⟨by rw [HF.out, ← HE]; rfl, HBW.out⟩
/-- isOf, of any message, at most so deep. -/
theorem isOf_any {s : Sc} (hin : ScIn s) : ∀ d, d ≤ 1000 → IsH s d
  | 0, _ => isOf_zero s
  | d + 1, h => isOf_step (by omega) hin (isOf_any hin d (by omega))
end Go.Proofs.YtipaangiehdgkaaGreatDoor.T9
/-
  May a message be, and a value: the contracts of Val and May.
-/
namespace Go.Proofs.YtipaangiehdgkaaGreatDoor.T9
set_option maxRecDepth 100000
open Go.Proofs.YtipaangiehdgkaaGreatDoor.T4
open Go.RowKit Go.Maps

theorem may_b (B : Nat) (s : Sc) (vM vE : Value) (w : World) (hB : B ≤ w.heap.size) (hs : SAt B w s vM vE) (hin : ScIn s) (T : Tabs w) :
    Calls Tryz.prog 50 #[.agg #[vM, vE]] w fun e w' => e = .returned (.bool (@decide (ScMay s) (Classical.propDecidable _))) ∧ Below w.heap.size w w' :=
  (may_any B s vM vE w hB hs hin T).mono fun e w' ⟨b, h1, h2, h3⟩ => ⟨by
    rw [h1]
    refine congrArg (fun b => Ending.returned (Value.bool b)) ?_
    rw [Bool.eq_iff_iff, h2]
    exact (@decide_eq_true_iff _ (Classical.propDecidable _)).symm, h3⟩
theorem sat_shape {B : Nat} {w : World} {s : Sc} {vM vE : Value} (hs : SAt B w s vM vE) : ∃ A1 q1 A2 q2, vM = .slice A1 s.M.length q1 ∧ vE = .slice A2 s.E.length q2 := by
  obtain ⟨xs, ys, ⟨A1, q1, h1, _⟩, _, ⟨A2, q2, h2, _⟩, _⟩ := hs
  exact ⟨A1, q1, A2, q2, h1, h2⟩
set_option maxRecDepth 1000000 in
set_option maxHeartbeats 4000000 in
theorem tmay_any {s : Sc} (hin : ScIn s) (B D : Nat) (vM vE : Value) (m : Int) (x : Mg) (u : Value) (w : World) (hB : B ≤ w.heap.size) (hs : SAt B w s vM vE) (hx : MRd B w D x u) (hi : MIn x) (hc : x.cnt ≤ 100000) (T : Tabs w) :
    Calls Tryz.prog 28 #[.agg #[vM, vE], .int .i64 m, .agg #[u]] w fun e w' => e = .returned (.bool (mayT s m x)) ∧ Below w.heap.size w w' := by
  obtain ⟨X1, X2, LBD⟩ := two_boxes w (.cells #[vM, vE] 33) (.cells #[u] 36)
  have hb1 := may_b B s vM vE _ (Nat.le_trans hB LBD.size) (SAt.lo hs LBD hB) hin (T.on LBD)
  obtain ⟨A1, q1, A2, q2, rfl, rfl⟩ := sat_shape hs
  obtain ⟨A, c, rfl⟩ := rd_shape hx
  have HI := Lib.hid (fun wx (h : Below w.heap.size w wx) => isOf_any hin 64 (by omega) B D _ _ m x _ wx (Nat.le_trans hB h.size) (SAt.lo hs h hB) (MRd.low (Lo.below h hB) hx) hi hc)
  have HT : Hid (mayT s m x = (@decide (ScMay s) (Classical.propDecidable _) && isB s 64 m x)) := Lib.hid rfl
  obtain ⟨d, hd⟩ : ∃ d, @decide (ScMay s) (Classical.propDecidable _) = d := ⟨_, rfl⟩
  rw [hd] at hb1 HT
  have HB1 := Lib.hid hb1
  clear hb1 hd hs hx hi T
  cases d with
  | false =>
    obtain ⟨x1, x2⟩ := box2' X1
    go_enter Tryz.func28, Tryz.ntmps28
    go_wp2_with (go_at_call 50; refine HB1.out.mono ?_; rintro e w1 ⟨rfl, hb1⟩)
    go_ret
    exact ⟨by rw [HT.out]; rfl, below_then LBD hb1⟩
  | true =>
    obtain ⟨x1, x2⟩ := box2' X1
    go_enter Tryz.func28, Tryz.ntmps28
    go_wp2_with fail
    refine HB1.out.mono ?_
    rintro e w1 ⟨rfl, hb1⟩
    obtain ⟨z1, z2⟩ := box2' (box_on X1 hb1)
    have z3 := bx1 (box_on X2 hb1)
    have HC := Lib.hid (HI.out _ (below_then LBD hb1))
    have HL := Lib.hid (below_then LBD hb1)
    clear x1 x2 X1 X2 hb1 HI
    go_wp2_with fail
    refine HC.out.mono ?_
    rintro e w2 ⟨rfl, hb2⟩
    go_wp2
    go_ret
    exact ⟨by rw [HT.out]; simp, below_then HL.out hb2⟩
set_option maxRecDepth 1000000 in
set_option maxHeartbeats 4000000 in
theorem tval_any {s : Sc} (hin : ScIn s) (B D : Nat) (vM vE : Value) (kind r : Int) (v : Vl') (u : Value) (w : World) (hB : B ≤ w.heap.size) (hs : SAt B w s vM vE) (hv : VAt (Rd B w) D v [.int .i64 v.n, .string (tx v.s), u]) (hi : VIn v) (hc : cV v ≤ 100000) (T : Tabs w) :
    Calls Tryz.prog 32 #[.agg #[vM, vE], .int .i64 kind, .int .i64 r, .agg #[.int .i64 v.n, .string (tx v.s), u]] w fun e w' => e = .returned (.bool (valT s kind r v)) ∧ Below w.heap.size w w' := by
  obtain ⟨X1, X2, LBD⟩ := two_boxes w (.cells #[vM, vE] 33) (.cells #[.int .i64 v.n, .string (tx v.s), u] 51)
  obtain ⟨W2, hW2⟩ : ∃ W, W = (w.alloc (.cells #[vM, vE] 33)).alloc (.cells #[.int .i64 v.n, .string (tx v.s), u] 51) := ⟨_, rfl⟩
  obtain ⟨A1, q1, A2, q2, rfl, rfl⟩ := sat_shape hs
  obtain ⟨A, c, -, -, rfl⟩ := val_shape hv
  rw [← hW2] at X1 X2 LBD
  have hBW : B ≤ W2.heap.size := Nat.le_trans hB LBD.size
  have hD : Below W2.heap.size W2 W2.drew := (Below.refl _ _).drew
  have HB1 := Lib.hid (may_b B s _ _ W2.drew hBW (SAt.lo (SAt.lo hs LBD hB) hD hBW) hin ((T.on LBD).on hD))
  have HA := Lib.hid (fun wx (h : Below W2.heap.size W2 wx) => asks_any (isOf_any hin 63 (by omega)) B D kind r _ _ wx (Nat.le_trans hBW h.size) (SAt.lo (SAt.lo hs LBD hB) h hBW))
  have HV := Lib.hid (fun wx (h : Below W2.heap.size W2 wx) => (VRd.low (Lo.below h hBW) (VRd.low (Lo.below LBD hB) hv) : VAt (Rd B wx) D v _))
  have HT : Hid (valT s kind r v = (@decide (ScMay s) (Classical.propDecidable _) && askG (isB s 63) kind r v)) := Lib.hid rfl
  have HSX : Hid (∀ wx, Below W2.heap.size W2 wx → (wx.cell? ⟨w.heap.size, 0, none⟩ = some (.slice A1 s.M.length q1) ∧ wx.cell? ⟨w.heap.size, 1, none⟩ = some (.slice A2 s.E.length q2)) ∧ (wx.cell? ⟨w.heap.size + 1, 0, none⟩ = some (.int .i64 v.n) ∧ wx.cell? ⟨w.heap.size + 1, 1, none⟩ = some (.string (tx v.s)) ∧ wx.cell? ⟨w.heap.size + 1, 2, none⟩ = some (.slice A v.M.length c))) := Lib.hid (fun wx h => ⟨box2' (box_on X1 h), bx3 (box_on X2 h)⟩)
  obtain ⟨d, hd⟩ : ∃ d, @decide (ScMay s) (Classical.propDecidable _) = d := ⟨_, rfl⟩
  rw [hd] at HB1 HT
  have HL := Lib.hid LBD
  clear hd hs hv T X1 X2 LBD
  cases d with
  | false =>
    go_enter Tryz.func32, Tryz.ntmps32
    go_wp2_with fail
    rw [← hW2]
    clear hW2
    refine wp_region_held_drew (S := (fun w' => (w'.cell? ⟨w.heap.size, 0, none⟩ = some (.slice A1 s.M.length q1) ∧ w'.cell? ⟨w.heap.size, 1, none⟩ = some (.slice A2 s.E.length q2)) ∧ (w'.cell? ⟨w.heap.size + 1, 0, none⟩ = some (.int .i64 v.n) ∧ w'.cell? ⟨w.heap.size + 1, 1, none⟩ = some (.string (tx v.s)) ∧ w'.cell? ⟨w.heap.size + 1, 2, none⟩ = some (.slice A v.M.length c)))) (by kernel_rfl) (HSX.out _ hD) (fun hHeld => ?_)
    refine wpAnyH_take (i := 0) (oi := { dst := some 9, op := Go.Op.load 33 (Go.Operand.tmp 4), type := 33, pos := "typed.go:29", after := #[], guard := none }) (v := ?_) rfl (by kernel_rfl) (by kernel_rfl) (by kernel_rfl) (fun _ _ _ h => h) (Or.inl ⟨by rfl, ?_⟩) hHeld ?_
    rotate_left
    · intro w hSw
      (try dsimp only at hSw)
      go_simp
      all_goals with_reducible rfl
    (try simp only [Act.put, List.setIfInBounds_toArray, List.set_cons_zero, List.set_cons_succ])
    refine wpAnyH_ready (rs := [1]) (by kernel_rfl) (by simp) ?_
    refine AllReadyH.cons (o := { dst := some 10, op := Go.Op.call { callee := Go.Callee.value (Go.Operand.func 50), args := #[Go.Operand.tmp 9], argTypes := #[33] }, type := 4, pos := "typed.go:29", after := #[{ on := 0, ground := Go.Ground.data }], guard := none }) rfl (fun K hK => ?_) AllReadyH.nil
    go_simp
    (go_at_call 50; refine HB1.out.mono ?_; rintro e w1 ⟨rfl, hb1⟩; have L1 := hD.trans hb1)
    go_wp2_with fail
    refine hK.out _ _ (HSX.out _ L1) (fun hHeld => ?_)
    clear hK K
    (try simp only [Act.put, List.setIfInBounds_toArray, List.set_cons_zero, List.set_cons_succ])
    refine wpAnyH_take (i := 2) (oi := { dst := some 11, op := Go.Op.move (Go.Operand.tmp 10), type := 4, pos := "typed.go:29", after := #[{ on := 1, ground := Go.Ground.data }, { on := 1, ground := Go.Ground.chain }], guard := none }) (v := ?_) rfl (by kernel_rfl) (by kernel_rfl) (by kernel_rfl) (fun _ _ _ h => h) (Or.inl ⟨by rfl, ?_⟩) hHeld ?_
    rotate_left
    · intro w hSw
      (try dsimp only at hSw)
      go_simp
      all_goals with_reducible rfl
    (try simp only [Act.put, List.setIfInBounds_toArray, List.set_cons_zero, List.set_cons_succ])
    refine wpAnyH_take (i := 3) (oi := { dst := some 12, op := Go.Op.load 33 (Go.Operand.tmp 4), type := 33, pos := "typed.go:29", after := #[{ on := 2, ground := Go.Ground.guard }], guard := some (2, true) }) (v := undef) rfl (by kernel_rfl) (by kernel_rfl) (by kernel_rfl) (fun _ _ _ h => h) (Or.inr ⟨by rfl, rfl⟩) hHeld ?_
    (try simp only [Act.put, List.setIfInBounds_toArray, List.set_cons_zero, List.set_cons_succ])
    refine wpAnyH_take (i := 4) (oi := { dst := some 13, op := Go.Op.move (Go.Operand.tmp 1), type := 3, pos := "typed.go:29", after := #[{ on := 2, ground := Go.Ground.guard }], guard := some (2, true) }) (v := undef) rfl (by kernel_rfl) (by kernel_rfl) (by kernel_rfl) (fun _ _ _ h => h) (Or.inr ⟨by rfl, rfl⟩) hHeld ?_
    (try simp only [Act.put, List.setIfInBounds_toArray, List.set_cons_zero, List.set_cons_succ])
    refine wpAnyH_take (i := 5) (oi := { dst := some 14, op := Go.Op.move (Go.Operand.tmp 2), type := 3, pos := "typed.go:29", after := #[{ on := 2, ground := Go.Ground.guard }], guard := some (2, true) }) (v := undef) rfl (by kernel_rfl) (by kernel_rfl) (by kernel_rfl) (fun _ _ _ h => h) (Or.inr ⟨by rfl, rfl⟩) hHeld ?_
    (try simp only [Act.put, List.setIfInBounds_toArray, List.set_cons_zero, List.set_cons_succ])
    refine wpAnyH_take (i := 6) (oi := { dst := some 15, op := Go.Op.call { callee := Go.Callee.value (Go.Operand.func 59), args := #[Go.Operand.tmp 12, Go.Operand.tmp 13, Go.Operand.tmp 14, Go.Operand.const (Go.Value.int Go.IntKind.i64 63)], argTypes := #[33, 3, 3, 3] }, type := 111, pos := "typed.go:29", after := #[{ on := 3, ground := Go.Ground.data }, { on := 4, ground := Go.Ground.data }, { on := 5, ground := Go.Ground.data }, { on := 2, ground := Go.Ground.chain }, { on := 2, ground := Go.Ground.guard }], guard := some (2, true) }) (v := undef) rfl (by kernel_rfl) (by kernel_rfl) (by kernel_rfl) (fun _ _ _ h => h) (Or.inr ⟨by rfl, rfl⟩) hHeld ?_
    (try simp only [Act.put, List.setIfInBounds_toArray, List.set_cons_zero, List.set_cons_succ])
    refine wpAnyH_take (i := 7) (oi := { dst := some 16, op := Go.Op.load 51 (Go.Operand.tmp 7), type := 51, pos := "typed.go:29", after := #[{ on := 2, ground := Go.Ground.guard }], guard := some (2, true) }) (v := undef) rfl (by kernel_rfl) (by kernel_rfl) (by kernel_rfl) (fun _ _ _ h => h) (Or.inr ⟨by rfl, rfl⟩) hHeld ?_
    (try simp only [Act.put, List.setIfInBounds_toArray, List.set_cons_zero, List.set_cons_succ])
    refine wpAnyH_take (i := 8) (oi := { dst := some 17, op := Go.Op.call { callee := Go.Callee.value (Go.Operand.tmp 15), args := #[Go.Operand.tmp 16], argTypes := #[51] }, type := 4, pos := "typed.go:29", after := #[{ on := 6, ground := Go.Ground.data }, { on := 7, ground := Go.Ground.data }, { on := 6, ground := Go.Ground.chain }, { on := 2, ground := Go.Ground.guard }], guard := some (2, true) }) (v := undef) rfl (by kernel_rfl) (by kernel_rfl) (by kernel_rfl) (fun _ _ _ h => h) (Or.inr ⟨by rfl, rfl⟩) hHeld ?_
    (try simp only [Act.put, List.setIfInBounds_toArray, List.set_cons_zero, List.set_cons_succ])
    refine wpAnyH_take (i := 9) (oi := { dst := some 18, op := Go.Op.pick (Go.Operand.tmp 11) (Go.Operand.tmp 17) (Go.Operand.const (Go.Value.bool false)), type := 4, pos := "typed.go:29", after := #[{ on := 2, ground := Go.Ground.data }, { on := 8, ground := Go.Ground.data }], guard := none }) (v := ?_) rfl (by kernel_rfl) (by kernel_rfl) (by kernel_rfl) (fun _ _ _ h => h) (Or.inl ⟨by rfl, ?_⟩) hHeld ?_
    rotate_left
    · intro w hSw
      (try dsimp only at hSw)
      go_simp
      all_goals with_reducible rfl
    (try simp only [Act.put, List.setIfInBounds_toArray, List.set_cons_zero, List.set_cons_succ])
    refine wpAnyH_take (i := 10) (oi := { dst := some 8, op := Go.Op.assign (Go.Operand.tmp 18), type := 4, pos := "typed.go:29", after := #[{ on := 9, ground := Go.Ground.data }, { on := 8, ground := Go.Ground.chain }, { on := 0, ground := Go.Ground.phase }, { on := 1, ground := Go.Ground.phase }, { on := 2, ground := Go.Ground.phase }, { on := 3, ground := Go.Ground.phase }, { on := 4, ground := Go.Ground.phase }, { on := 5, ground := Go.Ground.phase }, { on := 6, ground := Go.Ground.phase }, { on := 7, ground := Go.Ground.phase }, { on := 8, ground := Go.Ground.phase }, { on := 9, ground := Go.Ground.phase }], guard := none }) (v := ?_) rfl (by kernel_rfl) (by kernel_rfl) (by kernel_rfl) (fun _ _ _ h => h) (Or.inl ⟨by rfl, ?_⟩) hHeld ?_
    rotate_left
    · intro w hSw
      (try dsimp only at hSw)
      go_simp
      all_goals with_reducible rfl
    (try simp only [Act.put, List.setIfInBounds_toArray, List.set_cons_zero, List.set_cons_succ])
    refine wpAnyH_done (by kernel_rfl) ?_ _
    go_wp2
    go_ret
    exact ⟨by rw [HT.out]; (first | rfl | simp), HL.out.trans (L1.mono HL.out.size)⟩
  | true =>
    go_enter Tryz.func32, Tryz.ntmps32
    go_wp2_with fail
    rw [← hW2]
    clear hW2
    refine wp_region_held_drew (S := (fun w' => (w'.cell? ⟨w.heap.size, 0, none⟩ = some (.slice A1 s.M.length q1) ∧ w'.cell? ⟨w.heap.size, 1, none⟩ = some (.slice A2 s.E.length q2)) ∧ (w'.cell? ⟨w.heap.size + 1, 0, none⟩ = some (.int .i64 v.n) ∧ w'.cell? ⟨w.heap.size + 1, 1, none⟩ = some (.string (tx v.s)) ∧ w'.cell? ⟨w.heap.size + 1, 2, none⟩ = some (.slice A v.M.length c)))) (by kernel_rfl) (HSX.out _ hD) (fun hHeld => ?_)
    refine wpAnyH_take (i := 0) (oi := { dst := some 9, op := Go.Op.load 33 (Go.Operand.tmp 4), type := 33, pos := "typed.go:29", after := #[], guard := none }) (v := ?_) rfl (by kernel_rfl) (by kernel_rfl) (by kernel_rfl) (fun _ _ _ h => h) (Or.inl ⟨by rfl, ?_⟩) hHeld ?_
    rotate_left
    · intro w hSw
      (try dsimp only at hSw)
      go_simp
      all_goals with_reducible rfl
    (try simp only [Act.put, List.setIfInBounds_toArray, List.set_cons_zero, List.set_cons_succ])
    refine wpAnyH_ready (rs := [1]) (by kernel_rfl) (by simp) ?_
    refine AllReadyH.cons (o := { dst := some 10, op := Go.Op.call { callee := Go.Callee.value (Go.Operand.func 50), args := #[Go.Operand.tmp 9], argTypes := #[33] }, type := 4, pos := "typed.go:29", after := #[{ on := 0, ground := Go.Ground.data }], guard := none }) rfl (fun K hK => ?_) AllReadyH.nil
    go_simp
    (go_at_call 50; refine HB1.out.mono ?_; rintro e w1 ⟨rfl, hb1⟩; have L1 := hD.trans hb1)
    go_wp2_with fail
    refine hK.out _ _ (HSX.out _ L1) (fun hHeld => ?_)
    clear hK K
    (try simp only [Act.put, List.setIfInBounds_toArray, List.set_cons_zero, List.set_cons_succ])
    refine wpAnyH_take (i := 2) (oi := { dst := some 11, op := Go.Op.move (Go.Operand.tmp 10), type := 4, pos := "typed.go:29", after := #[{ on := 1, ground := Go.Ground.data }, { on := 1, ground := Go.Ground.chain }], guard := none }) (v := ?_) rfl (by kernel_rfl) (by kernel_rfl) (by kernel_rfl) (fun _ _ _ h => h) (Or.inl ⟨by rfl, ?_⟩) hHeld ?_
    rotate_left
    · intro w hSw
      (try dsimp only at hSw)
      go_simp
      all_goals with_reducible rfl
    (try simp only [Act.put, List.setIfInBounds_toArray, List.set_cons_zero, List.set_cons_succ])
    refine wpAnyH_take (i := 3) (oi := { dst := some 12, op := Go.Op.load 33 (Go.Operand.tmp 4), type := 33, pos := "typed.go:29", after := #[{ on := 2, ground := Go.Ground.guard }], guard := some (2, true) }) (v := ?_) rfl (by kernel_rfl) (by kernel_rfl) (by kernel_rfl) (fun _ _ _ h => h) (Or.inl ⟨by rfl, ?_⟩) hHeld ?_
    rotate_left
    · intro w hSw
      (try dsimp only at hSw)
      go_simp
      all_goals with_reducible rfl
    (try simp only [Act.put, List.setIfInBounds_toArray, List.set_cons_zero, List.set_cons_succ])
    refine wpAnyH_take (i := 4) (oi := { dst := some 13, op := Go.Op.move (Go.Operand.tmp 1), type := 3, pos := "typed.go:29", after := #[{ on := 2, ground := Go.Ground.guard }], guard := some (2, true) }) (v := ?_) rfl (by kernel_rfl) (by kernel_rfl) (by kernel_rfl) (fun _ _ _ h => h) (Or.inl ⟨by rfl, ?_⟩) hHeld ?_
    rotate_left
    · intro w hSw
      (try dsimp only at hSw)
      go_simp
      all_goals with_reducible rfl
    (try simp only [Act.put, List.setIfInBounds_toArray, List.set_cons_zero, List.set_cons_succ])
    refine wpAnyH_take (i := 5) (oi := { dst := some 14, op := Go.Op.move (Go.Operand.tmp 2), type := 3, pos := "typed.go:29", after := #[{ on := 2, ground := Go.Ground.guard }], guard := some (2, true) }) (v := ?_) rfl (by kernel_rfl) (by kernel_rfl) (by kernel_rfl) (fun _ _ _ h => h) (Or.inl ⟨by rfl, ?_⟩) hHeld ?_
    rotate_left
    · intro w hSw
      (try dsimp only at hSw)
      go_simp
      all_goals with_reducible rfl
    (try simp only [Act.put, List.setIfInBounds_toArray, List.set_cons_zero, List.set_cons_succ])
    refine wpAnyH_take (i := 7) (oi := { dst := some 16, op := Go.Op.load 51 (Go.Operand.tmp 7), type := 51, pos := "typed.go:29", after := #[{ on := 2, ground := Go.Ground.guard }], guard := some (2, true) }) (v := ?_) rfl (by kernel_rfl) (by kernel_rfl) (by kernel_rfl) (fun _ _ _ h => h) (Or.inl ⟨by rfl, ?_⟩) hHeld ?_
    rotate_left
    · intro w hSw
      (try dsimp only at hSw)
      go_simp
      all_goals with_reducible rfl
    (try simp only [Act.put, List.setIfInBounds_toArray, List.set_cons_zero, List.set_cons_succ])
    refine wpAnyH_ready (rs := [6]) (by kernel_rfl) (by simp) ?_
    refine AllReadyH.cons (o := { dst := some 15, op := Go.Op.call { callee := Go.Callee.value (Go.Operand.func 59), args := #[Go.Operand.tmp 12, Go.Operand.tmp 13, Go.Operand.tmp 14, Go.Operand.const (Go.Value.int Go.IntKind.i64 63)], argTypes := #[33, 3, 3, 3] }, type := 111, pos := "typed.go:29", after := #[{ on := 3, ground := Go.Ground.data }, { on := 4, ground := Go.Ground.data }, { on := 5, ground := Go.Ground.data }, { on := 2, ground := Go.Ground.chain }, { on := 2, ground := Go.Ground.guard }], guard := some (2, true) }) rfl (fun K hK => ?_) AllReadyH.nil
    go_simp
    (go_at_call 59; refine (HA.out _ L1).mono ?_; rintro e w2 ⟨c2, rfl, hc2, hb2⟩; have L2 := below_then L1 hb2; obtain ⟨fn, caps, rfl, hent, hcl⟩ := hc2; have HCL := Lib.hid (hcl v _ _ (Below.refl _ _) (HV.out _ L2) hi hc); clear hcl)
    go_wp2_with fail
    refine hK.out _ _ (HSX.out _ L2) (fun hHeld => ?_)
    clear hK K
    (try simp only [Act.put, List.setIfInBounds_toArray, List.set_cons_zero, List.set_cons_succ])
    refine wpAnyH_ready (rs := [8]) (by kernel_rfl) (by simp) ?_
    refine AllReadyH.cons (o := { dst := some 17, op := Go.Op.call { callee := Go.Callee.value (Go.Operand.tmp 15), args := #[Go.Operand.tmp 16], argTypes := #[51] }, type := 4, pos := "typed.go:29", after := #[{ on := 6, ground := Go.Ground.data }, { on := 7, ground := Go.Ground.data }, { on := 6, ground := Go.Ground.chain }, { on := 2, ground := Go.Ground.guard }], guard := some (2, true) }) rfl (fun K hK => ?_) AllReadyH.nil
    go_simp
    (refine HCL.out.mono ?_; rintro e w3 ⟨rfl, hb3⟩; have L3 := below_then L2 hb3)
    go_wp2_with fail
    refine hK.out _ _ (HSX.out _ L3) (fun hHeld => ?_)
    clear hK K
    (try simp only [Act.put, List.setIfInBounds_toArray, List.set_cons_zero, List.set_cons_succ])
    refine wpAnyH_take (i := 9) (oi := { dst := some 18, op := Go.Op.pick (Go.Operand.tmp 11) (Go.Operand.tmp 17) (Go.Operand.const (Go.Value.bool false)), type := 4, pos := "typed.go:29", after := #[{ on := 2, ground := Go.Ground.data }, { on := 8, ground := Go.Ground.data }], guard := none }) (v := ?_) rfl (by kernel_rfl) (by kernel_rfl) (by kernel_rfl) (fun _ _ _ h => h) (Or.inl ⟨by rfl, ?_⟩) hHeld ?_
    rotate_left
    · intro w hSw
      (try dsimp only at hSw)
      go_simp
      all_goals with_reducible rfl
    (try simp only [Act.put, List.setIfInBounds_toArray, List.set_cons_zero, List.set_cons_succ])
    refine wpAnyH_take (i := 10) (oi := { dst := some 8, op := Go.Op.assign (Go.Operand.tmp 18), type := 4, pos := "typed.go:29", after := #[{ on := 9, ground := Go.Ground.data }, { on := 8, ground := Go.Ground.chain }, { on := 0, ground := Go.Ground.phase }, { on := 1, ground := Go.Ground.phase }, { on := 2, ground := Go.Ground.phase }, { on := 3, ground := Go.Ground.phase }, { on := 4, ground := Go.Ground.phase }, { on := 5, ground := Go.Ground.phase }, { on := 6, ground := Go.Ground.phase }, { on := 7, ground := Go.Ground.phase }, { on := 8, ground := Go.Ground.phase }, { on := 9, ground := Go.Ground.phase }], guard := none }) (v := ?_) rfl (by kernel_rfl) (by kernel_rfl) (by kernel_rfl) (fun _ _ _ h => h) (Or.inl ⟨by rfl, ?_⟩) hHeld ?_
    rotate_left
    · intro w hSw
      (try dsimp only at hSw)
      go_simp
      all_goals with_reducible rfl
    (try simp only [Act.put, List.setIfInBounds_toArray, List.set_cons_zero, List.set_cons_succ])
    refine wpAnyH_done (by kernel_rfl) ?_ _
    go_wp2
    go_ret
    exact ⟨by rw [HT.out]; (first | rfl | simp), HL.out.trans (L3.mono HL.out.size)⟩
end Go.Proofs.YtipaangiehdgkaaGreatDoor.T9
/-
  Normal, and Is, of a message without anything that is told: their contracts, as the statements' first call asks for them.
-/
namespace Go.Proofs.YtipaangiehdgkaaGreatDoor.T9
set_option maxRecDepth 100000
open Go.Proofs.YtipaangiehdgkaaGreatDoor.T4
open Go.RowKit Go.Maps

set_option maxRecDepth 1000000 in
set_option maxHeartbeats 2000000 in
theorem isDefault_any (v : Vl') (A : Option Addr) (c : Nat) (w : World) :
    Calls Tryz.prog 92 #[.agg #[.int .i64 v.n, .string (tx v.s), .slice A v.M.length c]] w fun e w' => e = .returned (.bool (defB v)) ∧ Below w.heap.size w w' := by
  have LBD := below_new w (.cells #[.int .i64 v.n, .string (tx v.s), .slice A v.M.length c] 51)
  have HB : Hid (defB v = ((v.n == 0) && ((tx v.s).toList.isEmpty && ((v.M.length : Int) == 0)))) := Lib.hid (by unfold defB; rw [emp_str v.s, emp_len v.M])
  obtain ⟨d1, hd1⟩ : ∃ d, (v.n == 0) = d := ⟨_, rfl⟩
  obtain ⟨d2, hd2⟩ : ∃ d, (tx v.s).toList.isEmpty = d := ⟨_, rfl⟩
  obtain ⟨d3, hd3⟩ : ∃ d, ((v.M.length : Int) == 0) = d := ⟨_, rfl⟩
  rw [hd1, hd2, hd3] at HB
  cases d1 <;> cases d2 <;> cases d3
  all_goals
    go_enter Tryz.func92, Tryz.ntmps92
    go_wp2
    go_ret
    exact ⟨by rw [HB.out]; rfl, LBD⟩
set_option maxRecDepth 1000000 in
set_option maxHeartbeats 4000000 in
theorem isTold_any (B D : Nat) (f : Df) (l : List Vl') (u : Value) (w : World) (hB : B ≤ w.heap.size) (hl : LsAt (Rd B w) 51 3 (VAt (Rd B w) D) l u) :
    Calls Tryz.prog 52 #[.agg #[.int .i64 f.no, .string (txt f.name), .int .i64 f.kind, .int .i64 f.ref, .bool f.rep, .int .i64 f.key, .int .i64 f.one], u] w fun e w' => e = .returned (.bool (toldB f l)) ∧ Below w.heap.size w w' := by
  obtain ⟨A, c, xs, rfl, hs, hb, hr, hn⟩ := hl.open_
  have LBD := below_new w (dC f)
  have X1 := heap_alloc_new w (dC f)
  cases l with
  | nil =>
    go_enter Tryz.func52, Tryz.ntmps52
    go_wp2
    go_ret
    exact ⟨rfl, LBD⟩
  | cons v l =>
    have hlo : Lo B w (w.alloc (dC f)) := Lo.below LBD hB
    obtain ⟨ad, x, y, z, rfl, hg, hca, c0, c1, c2⟩ := row3 (k := 0) vAt.len (sl_low hs hb hlo) (hr.imp fun a cs h => VRd.low hlo h) (show (v :: l)[0]? = some v from rfl)
    rw [Nat.zero_mul, add_nothing] at c0 c1 c2
    obtain ⟨AM, cM, rfl, rfl, rfl⟩ := val_shape hca
    have HM := Lib.hid (fun wx => isMap_any f wx)
    have HDF := Lib.hid (fun wx => isDefault_any v AM cM wx)
    have HB : Hid (toldB f (v :: l) = (f.rep || (f.key != -1 || (f.one != 0 || (f.kind == 9 || !defB v))))) := Lib.hid rfl
    obtain ⟨n, hN⟩ : ∃ n, n = (v :: l).length := ⟨_, rfl⟩
    have hnz : ((n : Int) == 0) = false := by rw [hN, beq_eq_false_iff_ne]; simp; omega
    rw [← hN]
    have hX : (w.alloc (dC f)).cell? ⟨w.heap.size, 4, none⟩ = some (.bool f.rep) := by first | simp | exact heap_cell X1 4
    have HX6 : Hid (∀ w1, Below (w.alloc (dC f)).heap.size (w.alloc (dC f)) w1 → w1.cell? ⟨w.heap.size, 6, none⟩ = some (.int .i64 f.one) ∧ w1.cell? ⟨w.heap.size, 2, none⟩ = some (.int .i64 f.kind)) := Lib.hid (fun w1 h => by
      have h6 := heap_cell (box_on X1 h) 6
      have h2 := heap_cell (box_on X1 h) 2
      simp at h6 h2
      exact ⟨h6, h2⟩)
    obtain ⟨d1, hd1⟩ : ∃ d, f.rep = d := ⟨_, rfl⟩
    obtain ⟨d2, hd2⟩ : ∃ d, (f.key != -1) = d := ⟨_, rfl⟩
    obtain ⟨d3, hd3⟩ : ∃ d, (f.one != 0) = d := ⟨_, rfl⟩
    obtain ⟨d4, hd4⟩ : ∃ d, (f.kind == 9) = d := ⟨_, rfl⟩
    obtain ⟨d5, hd5⟩ : ∃ d, defB v = d := ⟨_, rfl⟩
    rw [hd1, hd2, hd3, hd4, hd5] at HB
    rw [hd2, hd1] at HM
    rw [hd5] at HDF
    rw [hd1] at hX
    have HC := Lib.hid (And.intro c0 (And.intro c1 c2))
    clear hs hb hr hl hn hca hN hd2 hd5 hlo hd1
    have hlt : (0 : Int) < n := by rw [beq_eq_false_iff_ne] at hnz; omega
    have hlt2 : 0 < n := by omega
    cases d1 with
    | true =>
      go_enter Tryz.func52, Tryz.ntmps52
      go_wp2
      go_ret
      exact ⟨by rw [HB.out]; rfl, LBD⟩
    | false =>
      cases d2 with
      | true =>
        go_enter Tryz.func52, Tryz.ntmps52
        go_wp2_with (go_at_call 91; refine (HM.out _).mono ?_; rintro e w1 ⟨rfl, hb1⟩)
        go_ret
        exact ⟨by rw [HB.out]; rfl, below_then LBD hb1⟩
      | false =>
        cases d3 <;> cases d4 <;> cases d5
        all_goals
          go_enter Tryz.func52, Tryz.ntmps52
          go_wp2_with (first
            | (go_at_call 91; refine (HM.out _).mono ?_; rintro e w1 ⟨rfl, hb1⟩; obtain ⟨e6, e2⟩ := HX6.out _ hb1; have k0 := cell_on hb1 HC.out.1; have k1 := cell_on hb1 HC.out.2.1; have k2 := cell_on hb1 HC.out.2.2)
            | (go_at_call 92; refine (HDF.out _).mono ?_; rintro e w2 ⟨rfl, hb2⟩; have L2 := below_then hb1 hb2)
            | fail)
          go_ret
          exact ⟨by rw [HB.out]; rfl, by first | exact LBD.trans (L2.mono LBD.size) | exact below_then LBD hb1⟩
set_option maxRecDepth 1000000 in
set_option maxHeartbeats 4000000 in
theorem normal_none {s : Sc} (B D : Nat) (vM vE : Value) (m : Int) (x : Mg) (u : Value) (w : World) (hB : B ≤ w.heap.size) (hs : SAt B w s vM vE) (hx : MRd B w D x u) (hno : ∀ a ∈ x.F, ∃ f, byS s m a.no = some f ∧ toldB f a.V = false) :
    Calls Tryz.prog 29 #[.agg #[vM, vE], .int .i64 m, .agg #[u]] w fun e w' => e = .returned (.agg #[.slice none 0 0]) ∧ Below w.heap.size w w' := by
  cases D with
  | zero => exact hx.elim
  | succ D =>
  obtain ⟨A1, q1, A2, q2, rfl, rfl⟩ := sat_shape hs
  obtain ⟨u', hu, hl⟩ := hx
  simp only [List.cons.injEq, and_true] at hu
  subst hu
  obtain ⟨A, c, xs, rfl, hsl, hbl, hr, hn⟩ := hl.open_
  obtain ⟨X1, X2, X3, X4, LBD⟩ := four_new w (.cells #[.slice A1 s.M.length q1, .slice A2 s.E.length q2] 33) (.cells #[.slice A x.F.length c] 36) (.cells #[.slice none 0 0] 36) (.cells #[.slice none 0 0] 36)
  obtain ⟨W0, hW0⟩ : ∃ W, W = (((w.alloc (.cells #[.slice A1 s.M.length q1, .slice A2 s.E.length q2] 33)).alloc (.cells #[.slice A x.F.length c] 36)).alloc (.cells #[.slice none 0 0] 36)).alloc (.cells #[.slice none 0 0] 36) := ⟨_, rfl⟩
  have HSL := Lib.hid hsl
  have HR := Lib.hid hr
  have HBB := Lib.hid hbl
  have HSA := Lib.hid hs
  have HNO := Lib.hid hno
  have x3 := bx1 X2
  clear hsl hr hl hbl hs hno
  go_enter Tryz.func29, Tryz.ntmps29
  go_wp2
  rw [← hW0] at X1 X2 X3 X4 LBD ⊢
  have h4 : w.heap.size + 4 ≤ W0.heap.size := box_lt X4
  clear hW0 x3
  go_loopw [15] (fun i wr => ∃ k : Nat, i = .int .i64 k ∧ k ≤ x.F.length ∧ Below W0.heap.size W0 wr) (fun i _ => x.F.length - (intOf i).toNat)
  case atStart => exact ⟨0, rfl, by omega, Below.refl _ _⟩
  case round =>
    obtain ⟨k, rfl, hk, hbw⟩ := hrel
    have HBW := Lib.hid (LBD.trans (hbw.mono LBD.size))
    by_cases hlt : k < x.F.length
    · obtain ⟨a, ha⟩ : ∃ a, x.F[k]? = some a := ⟨_, List.getElem?_eq_getElem hlt⟩
      obtain ⟨ad, x0, y0, z0, rfl, hg, hca, c0, c1, c2⟩ := row3 sAt.len (sl_low HSL.out HBB.out (Lo.below HBW.out hB)) (HR.out.imp fun a cs h => SRd.low (Lo.below HBW.out hB) h) ha
      obtain ⟨B1, d1, B2, d2, rfl, rfl, rfl⟩ := slot_shape hca
      obtain ⟨f, hf, hto⟩ := HNO.out a (List.mem_of_getElem? ha)
      have N1 := below_new wr (.cells #[.int .i64 a.no, .slice B1 a.K.length d1, .slice B2 a.V.length d2] 48)
      have Z1 := heap_alloc_new wr (.cells #[.int .i64 a.no, .slice B1 a.K.length d1, .slice B2 a.V.length d2] 48)
      have hb1 := below_then HBW.out N1
      have HBY := Lib.hid (by_found hf _ (Nat.le_trans hB hb1.size) (SAt.lo HSA.out hb1 hB))
      obtain ⟨y1, y2⟩ := box2' (box_on (box_on X1 hbw) N1)
      obtain ⟨s0, s1, s2⟩ := bx3 Z1
      have HCA := Lib.hid hca
      have HBX := Lib.hid (And.intro hbw (And.intro N1 Z1))
      clear ha hca hbw N1 Z1 hb1 hf
      go_wp2_with fail
      refine HBY.out.mono ?_
      rintro e w2 ⟨rfl, hb2⟩
      have N2 := below_new w2 (dC f)
      have hb12 := HBX.out.2.1.trans ((below_then hb2 N2).mono HBX.out.2.1.size)
      obtain ⟨t0, t1, t2⟩ := bx3 (box_on HBX.out.2.2 (below_then hb2 N2))
      obtain ⟨u3, u4, hu, -, hV⟩ := HCA.out
      simp only [List.cons.injEq, and_true, true_and] at hu
      obtain ⟨-, rfl⟩ := hu
      have hlo : Lo B wr (w2.alloc (dC f)) := Lo.below hb12 (Nat.le_trans hB HBW.out.size)
      have HTO := Lib.hid (isTold_any B D f a.V _ (w2.alloc (dC f)) (Nat.le_trans hB (Nat.le_trans HBW.out.size hb12.size)) (hV.low hlo fun a cs h => VRd.low hlo h))
      rw [hto] at HTO
      have g3 := heap_cell (heap_alloc_new w2 (dC f))
      have f0 := g3 0
      have f1 := g3 1
      have f2 := g3 2
      have f3 := g3 3
      have f4 := g3 4
      have f5 := g3 5
      have f6 := g3 6
      simp at f0 f1 f2 f3 f4 f5 f6
      have HL := Lib.hid (HBX.out.1.trans (hb12.mono HBX.out.1.size))
      clear y1 y2 s0 s1 s2 hV hto N2 hb12 hb2 g3 hlo
      go_wp2_with fail
      refine HTO.out.mono ?_
      rintro e w3 ⟨rfl, hb3⟩
      go_wp2
      exact ⟨⟨k + 1, by go_num, by omega, below_then HL.out hb3⟩, by simp [intOf]; omega⟩
    · obtain rfl : k = x.F.length := by omega
      have x3 := bx1 (box_on X3 hbw)
      have x4 := bx1 (box_on X4 hbw)
      have Y3 := box_on X3 hbw
      have ff : wr.frozen? ⟨w.heap.size + 2, 0, none⟩ = false := by simp [World.frozen?, Y3]
      have HSF := Lib.hid (Tryz.slices_SortFunc_none_f54 (α := So) none 0 (.func (.func 55) #[] #[]) wr)
      go_wp2_with fail
      refine HSF.out.mono ?_
      rintro e w3 ⟨rfl, rfl⟩
      obtain ⟨Z1, Z2⟩ := cell1 Y3 (.slice none 0 0)
      go_wp2
      refine bodyPost_ret (results_cell_row rfl _ _ (w.heap.size + 2) _ _ (0, 0) _ rfl Z1 Tryz.underlying36 rfl sz_msg) rfl ?_
      exact ⟨rfl, HBW.out.trans (below_own Z2 (by omega) HBW.out.size)⟩
end Go.Proofs.YtipaangiehdgkaaGreatDoor.T9
/-
  Normal and Is, as their inner call tells; and the statements' first call.
-/
namespace Go.Proofs.YtipaangiehdgkaaGreatDoor.T9
set_option maxRecDepth 100000
open Go.Proofs.YtipaangiehdgkaaGreatDoor.T4
open Go.RowKit Go.Maps

theorem three_szd (w : World) (o1 o2 o3 : Obj) : (((w.alloc o1).alloc o2).alloc o3).heap.size = w.heap.size + 3 := by simp
set_option maxRecDepth 1000000 in
set_option maxHeartbeats 4000000 in
/-- Normal. -/
theorem tnormal_of {s : Sc} (hin : ScIn s) (B D : Nat) (vM vE : Value) (m : Int) (x : Mg) (u : Value) (w : World) (hB : B ≤ w.heap.size) (hs : SAt B w s vM vE) (hx : MRd B w D x u) (hi : MIn x) (hc : x.cnt ≤ 100000) (T : Tabs w)
    (Q : Value → World → Prop) (hQ : ∀ v wa wb, Q v wa → wa.grownBy wb (some (w.heap.size + 2)) → Q v wb)
    (HN : mayT s m x = true → ∀ wx, Below w.heap.size w wx → w.heap.size + 3 ≤ wx.heap.size → Calls Tryz.prog 29 #[.agg #[vM, vE], .int .i64 m, .agg #[u]] wx fun e w' => ∃ A n c, e = .returned (.agg #[.slice A n c]) ∧ Q (.slice A n c) w' ∧ Below wx.heap.size wx w') :
    Calls Tryz.prog 13 #[.agg #[vM, vE], .int .i64 m, .agg #[u]] w fun e w' => ∃ A n c, e = .returned (.tuple #[.agg #[.slice A n c], .bool (mayT s m x)]) ∧ (mayT s m x = false → A = none ∧ n = 0 ∧ c = 0) ∧ (mayT s m x = true → Q (.slice A n c) w') ∧ Below w.heap.size w w' := by
  obtain ⟨T1, T2, T3, L3⟩ := three_boxes w (.cells #[vM, vE] 33) (.cells #[u] 36) (.cells #[.slice none 0 0] 36)
  have hsz := three_szd w (.cells #[vM, vE] 33) (.cells #[u] 36) (.cells #[.slice none 0 0] 36)
  obtain ⟨W0, hW0⟩ : ∃ W, W = ((w.alloc (.cells #[vM, vE] 33)).alloc (.cells #[u] 36)).alloc (.cells #[.slice none 0 0] 36) := ⟨_, rfl⟩
  obtain ⟨A1, q1, A2, q2, rfl, rfl⟩ := sat_shape hs
  obtain ⟨A, c, rfl⟩ := rd_shape hx
  rw [← hW0] at T1 T2 T3 L3 hsz
  have hBW : B ≤ W0.heap.size := Nat.le_trans hB L3.size
  have hmay := tmay_any hin B D _ _ m x _ W0 hBW (SAt.lo hs L3 hB) (MRd.low (Lo.below L3 hB) hx) hi hc (T.on L3)
  have HX := Lib.hid (And.intro T1 (And.intro T2 T3))
  have HNN := Lib.hid HN
  have HQ := Lib.hid hQ
  have HL := Lib.hid L3
  have HZ := Lib.hid hsz
  obtain ⟨d, hd⟩ : ∃ d, mayT s m x = d := ⟨_, rfl⟩
  rw [hd] at hmay HNN ⊢
  have HM := Lib.hid hmay
  obtain ⟨x1, x2⟩ := box2' T1
  have x3 := bx1 T2
  clear hs hx hi hc T HN hQ hmay T1 T2 T3 L3 hd hsz
  cases d with
  | false =>
    go_enter Tryz.func13, Tryz.ntmps13
    simp only [hW0] at x1 x2 x3
    go_wp2_with fail
    rw [← hW0]
    clear hW0 x1 x2 x3
    refine HM.out.mono ?_
    rintro e w1 ⟨rfl, hb1⟩
    have Y3 := box_on HX.out.2.2 hb1
    have ff : w1.frozen? ⟨w.heap.size + 2, 0, none⟩ = false := by simp [World.frozen?, Y3]
    have y3 := bx1 Y3
    obtain ⟨Z1, Z2⟩ := cell1 Y3 (.slice none 0 0)
    have hlt := box_lt Y3
    go_wp2
    refine bodyPost_ret (results_pair rfl _ _ (w.heap.size + 2) _ _ (0, 0) _ rfl Z1 Tryz.underlying36 rfl sz_msg) rfl ?_
    exact ⟨none, 0, 0, rfl, fun _ => ⟨rfl, rfl, rfl⟩, fun h => by simp at h, (below_then HL.out hb1).trans (below_own Z2 (by omega) (by omega))⟩
  | true =>
    go_enter Tryz.func13, Tryz.ntmps13
    simp only [hW0] at x1 x2 x3
    go_wp2_with fail
    rw [← hW0]
    clear hW0 x1 x2 x3
    refine HM.out.mono ?_
    rintro e w1 ⟨rfl, hb1⟩
    obtain ⟨z1, z2⟩ := box2' (box_on HX.out.1 hb1)
    have z3 := bx1 (box_on HX.out.2.1 hb1)
    have Y3 := box_on HX.out.2.2 hb1
    have hb01 := below_then HL.out hb1
    have HC := Lib.hid (HNN.out (by trivial) w1 hb01 (box_lt Y3))
    clear HNN HM
    go_wp2_with fail
    refine HC.out.mono ?_
    rintro e w2 ⟨A9, n9, c9, rfl, hq, hb2⟩
    have Y4 := box_on Y3 hb2
    have ff : w2.frozen? ⟨w.heap.size + 2, 0, none⟩ = false := by simp [World.frozen?, Y4]
    have y3 := bx1 Y4
    obtain ⟨Z1, Z2⟩ := cell1 Y4 (.slice A9 n9 c9)
    have hlt := box_lt Y4
    have HQQ := Lib.hid (HQ.out _ _ _ hq Z2)
    clear Y3 hq
    go_wp2
    refine bodyPost_ret (results_pair rfl _ _ (w.heap.size + 2) _ _ (0, 0) _ rfl Z1 Tryz.underlying36 rfl sz_msg) rfl ?_
    exact ⟨A9, n9, c9, rfl, fun h => by simp at h, fun _ => HQQ.out, (below_then hb01 hb2).trans (below_own Z2 (by omega) (by omega))⟩
set_option maxRecDepth 1000000 in
set_option maxHeartbeats 4000000 in
/-- Is. -/
theorem tis_of {s : Sc} (B D Dn : Nat) (vM vE : Value) (m : Int) (x nx : Mg) (u : Value) (w : World) (hB : B ≤ w.heap.size) (hs : SAt B w s vM vE) (hx : MRd B w D x u)
    (HN : ∀ wx, Below w.heap.size w wx → Calls Tryz.prog 13 #[.agg #[vM, vE], .int .i64 m, .agg #[u]] wx fun e w' => ∃ A n c, e = .returned (.tuple #[.agg #[.slice A n c], .bool (mayT s m x)]) ∧ (mayT s m x = true → MRd w'.heap.size w' Dn nx (.slice A n c)) ∧ Below wx.heap.size wx w') :
    Calls Tryz.prog 16 #[.agg #[vM, vE], .int .i64 m, .agg #[u]] w fun e w' => e = .returned (.bool (mayT s m x && eqB nx x)) ∧ Below w.heap.size w w' := by
  obtain ⟨X1, X2, LBD⟩ := two_boxes w (.cells #[vM, vE] 33) (.cells #[u] 36)
  obtain ⟨A1, q1, A2, q2, rfl, rfl⟩ := sat_shape hs
  obtain ⟨A, c, rfl⟩ := rd_shape hx
  obtain ⟨x1, x2⟩ := box2' X1
  have x3 := bx1 X2
  have HC := Lib.hid (HN _ LBD)
  have HX := Lib.hid hx
  obtain ⟨d, hd⟩ : ∃ d, mayT s m x = d := ⟨_, rfl⟩
  rw [hd] at HC ⊢
  have HL := Lib.hid LBD
  clear HN hx hs hd
  cases d with
  | false =>
    go_enter Tryz.func16, Tryz.ntmps16
    go_wp2_with fail
    refine HC.out.mono ?_
    rintro e w1 ⟨A9, n9, c9, rfl, -, hb1⟩
    go_wp2
    go_ret
    exact ⟨rfl, below_lit (below_then HL.out hb1) _⟩
  | true =>
    go_enter Tryz.func16, Tryz.ntmps16
    go_wp2_with fail
    refine HC.out.mono ?_
    rintro e w1 ⟨A9, n9, c9, rfl, hm, hb1⟩
    have hm1 := hm (by trivial)
    have N1 := below_new w1 (.cells #[.slice A9 n9 c9] 36)
    have hb01 := below_then (below_then HL.out hb1) N1
    have z3 := bx1 (box_on X2 (below_then hb1 N1))
    have z4 := bx1 (heap_alloc_new w1 (.cells #[.slice A9 n9 c9] 36))
    have hup := MAt.more (Nat.le_max_left Dn D) _ _ (rd_up N1 hm1)
    have hxp : MRd _ _ (max Dn D) x _ := MAt.more (Nat.le_max_right Dn D) _ _ (MRd.mono (Nat.le_trans hB hb01.size) (MRd.low (Lo.below hb01 hB) HX.out))
    have HSM := Lib.hid (same_any9 _ (max Dn D) nx x _ _ _ (Nat.le_refl _) hup hxp)
    obtain ⟨d2, hd2⟩ : ∃ d, eqB nx x = d := ⟨_, rfl⟩
    rw [hd2] at HSM
    have HD2 := Lib.hid hd2
    clear hd2 x1 x2 x3 hm hm1 hup hxp
    go_wp2_with fail
    refine HSM.out.mono ?_
    rintro e w2 ⟨rfl, hb2⟩
    go_wp2
    go_ret
    exact ⟨by rw [HD2.out]; simp, below_then hb01 hb2⟩
end Go.Proofs.YtipaangiehdgkaaGreatDoor.T9
