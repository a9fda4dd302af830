/-
  Whether a message is of one: the contract of isOf, of any message; and of Val and May.
-/
import Derived.Test.YtipaangiehdgkaaGreatDoorTyIs
import Derived.Test.YtipaangiehdgkaaGreatDoorTabFind
import Derived.Test.YtipaangiehdgkaaGreatDoorVarMay
import Derived.Test.YtipaangiehdgkaaGreatDoorTokMath
import Derived.Test.YtipaangiehdgkaaGreatDoorTabKit
import Derived.Test.YtipaangiehdgkaaGreatDoorTyNorS
import Derived.Test.YtipaangiehdgkaaGreatDoorTyRising
import Derived.Test.YtipaangiehdgkaaGreatDoorTabSort
import Derived.Test.YtipaangiehdgkaaGreatDoorEncCat
import Derived.Laws.IdiomStrings
import Derived.Laws.EntriesVeiled
import Derived.Test.YtipaangiehdgkaaGreatDoorConvSmall
import Derived.Deep.AppendLies
namespace Go.Proofs.YtipaangiehdgkaaGreatDoor.T9
set_option maxRecDepth 100000
open Go.Proofs.YtipaangiehdgkaaGreatDoor.T4
open Go.RowKit Go.Maps

theorem byS_in {s : Sc} (h : ScIn s) {m no : Int} {f : Df} (hf : byS s m no = some f) : DfIn f ∧ 0 ≤ m ∧ m < s.M.length := by
  unfold byS msgAt at hf
  by_cases h0 : m < 0
  · rw [if_pos h0] at hf; simp at hf
  · rw [if_neg h0] at hf
    cases hm : s.M[m.toNat]? with
    | none => rw [hm] at hf; simp at hf
    | some d =>
      rw [hm] at hf
      simp only [Option.bind_some] at hf
      have hlt := (List.getElem?_eq_some_iff.1 hm).1
      exact ⟨(h.M d (List.mem_of_getElem? hm)).F f (List.mem_of_find?_eq_some hf), by omega, by omega⟩
theorem by_found {B : Nat} {s : Sc} {vM vE : Value} {m x : Int} {f : Df} (hf : byS s m x = some f) (w : World) (hB : B ≤ w.heap.size) (hs : SAt B w s vM vE) :
    Calls Tryz.prog 47 #[.agg #[vM, vE], .int .i64 m, .int .i64 x] w fun e w' => e = .returned (.tuple #[.agg #[.int .i64 f.no, .string (txt f.name), .int .i64 f.kind, .int .i64 f.ref, .bool f.rep, .int .i64 f.key, .int .i64 f.one], .bool true]) ∧ Below w.heap.size w w' :=
  (By_any B s vM vE m x w hB hs).mono fun e w' h => ⟨by rw [h.1, hf]; rfl, h.2⟩
theorem by_none {B : Nat} {s : Sc} {vM vE : Value} {m x : Int} (hf : byS s m x = none) (w : World) (hB : B ≤ w.heap.size) (hs : SAt B w s vM vE) :
    Calls Tryz.prog 47 #[.agg #[vM, vE], .int .i64 m, .int .i64 x] w fun e w' => e = .returned (.tuple #[.agg #[.int .i64 0, .string ⟨#[]⟩, .int .i64 0, .int .i64 0, .bool false, .int .i64 0, .int .i64 0], .bool false]) ∧ Below w.heap.size w w' :=
  (By_any B s vM vE m x w hB hs).mono fun e w' h => ⟨by rw [h.1, hf]; rfl, h.2⟩
theorem isOf_zero (s : Sc) : IsH s 0 := by
  intro B D vM vE m x u w hB hs hx hi hc
  have LBD := below_then (below_new w (.cells #[vM, vE] 33)) (below_new (w.alloc (.cells #[vM, vE] 33)) (.cells #[u] 36))
  go_enter Tryz.func51, Tryz.ntmps51
  go_wp2
  go_ret
  exact ⟨rfl, LBD⟩
set_option maxRecDepth 1000000 in
set_option maxHeartbeats 8000000 in
theorem isOf_step {s : Sc} {d : Nat} (hd : d ≤ 1000) (hin : ScIn s) (H : IsH s d) : IsH s (d + 1) := by
  intro B D vM vE m x u w hB hs hx hi hc
  rw [show ((d + 1 : Nat) : Int) = (d : Int) + 1 by omega]
  obtain ⟨A1, q1, rfl⟩ : ∃ A q, vM = .slice A s.M.length q := by
    obtain ⟨xs, ys, ⟨A, q, h, _⟩, _⟩ := hs
    exact ⟨A, q, h⟩
  obtain ⟨A2, q2, rfl⟩ : ∃ A q, vE = .slice A s.E.length q := by
    obtain ⟨xs, ys, _, _, ⟨A, q, h, _⟩, _⟩ := hs
    exact ⟨A, q, h⟩
  cases D with
  | zero => exact hx.elim
  | succ D =>
  obtain ⟨u', hu, hl⟩ := hx
  simp only [List.cons.injEq, and_true] at hu
  subst hu
  obtain ⟨A, c, xs, rfl, hsl, hbl, hr, hn⟩ := hl.open_
  obtain ⟨X1, X2, LBD⟩ := two_boxes w (.cells #[.slice A1 s.M.length q1, .slice A2 s.E.length q2] 33) (.cells #[.slice A x.F.length c] 36)
  have hcf := cnt_F x
  have hd0 : (((d + 1 : Nat) : Int) == 0) = false := by rw [beq_eq_false_iff_ne]; omega
  have hd1 : ((d : Int) + 1 == 0) = false := by rw [beq_eq_false_iff_ne]; omega
  have HIS : Hid (isB s (d + 1) m x = (decide (0 ≤ m ∧ m < s.M.length) && slotsG (byS s m) (fillG (isB s d)) [] x.F)) := Lib.hid rfl
  by_cases hm0 : m < 0
  · have e1 : decide (m < 0) = true := decide_eq_true hm0
    have HF : Hid (isB s (d + 1) m x = false) := Lib.hid (by rw [HIS.out, decide_eq_false (by omega)]; rfl)
    clear hm0
    go_enter Tryz.func51, Tryz.ntmps51
    go_wp2
    go_ret
    exact ⟨by rw [HF.out]; rfl, LBD⟩
  by_cases hm1 : (s.M.length : Int) ≤ m
  · have e0 : decide (m < 0) = false := decide_eq_false hm0
    have e1 : decide (m ≥ (s.M.length : Int)) = true := decide_eq_true hm1
    have e2 : decide ((s.M.length : Int) ≤ m) = true := decide_eq_true hm1
    have HF : Hid (isB s (d + 1) m x = false) := Lib.hid (by rw [HIS.out, decide_eq_false (by omega)]; rfl)
    clear hm0 hm1
    go_enter Tryz.func51, Tryz.ntmps51
    go_wp2
    go_ret
    exact ⟨by rw [HF.out]; rfl, LBD⟩
  have e0 : decide (m < 0) = false := decide_eq_false hm0
  have e1 : decide (m ≥ (s.M.length : Int)) = false := decide_eq_false hm1
  have e2 : decide ((s.M.length : Int) ≤ m) = false := decide_eq_false hm1
  have HF : Hid (isB s (d + 1) m x = slotsG (byS s m) (fillG (isB s d)) [] x.F) := Lib.hid (by rw [HIS.out, decide_eq_true (by omega)]; rfl)
  have hmm := @run_makeMap Tryz.prog
  have HSL := Lib.hid hsl
  have HR := Lib.hid hr
  have HBB := Lib.hid hbl
  have HSA := Lib.hid hs
  have HII := Lib.hid hi
  have HH := Lib.hid H
  have HN := Lib.hid hin
  clear hm0 hm1 hsl hr hl hbl hs hi H hin HIS
  go_enter Tryz.func51, Tryz.ntmps51
  obtain ⟨x1, x2⟩ := box2' X1
  have x3 := bx1 X2
  go_wp2_with fail
  obtain ⟨W0, hW0⟩ : ∃ W, W = ((w.alloc (.cells #[.slice A1 s.M.length q1, .slice A2 s.E.length q2] 33)).alloc (.cells #[.slice A x.F.length c] 36)) := ⟨_, rfl⟩
  have hsz0 : W0.heap.size = w.heap.size + 2 := by rw [hW0]; simp
  have HC0 : Claims (W0.alloc (.map #[] 0)) (w.heap.size + 2) 0 [] := hsz0 ▸ Claims.made W0
  rw [← hW0] at X1 X2 LBD ⊢
  have hBW : Below (w.heap.size + 2) W0 (W0.alloc (.map #[] 0)) := hsz0 ▸ below_new W0 _
  clear hW0 x1 x2 x3 hmm
  go_loopw [31] (fun i wr => ∃ (k : Nat) (cl : List (Int × Int)), i = .int .i64 k ∧ k ≤ x.F.length ∧ Claims wr (w.heap.size + 2) (2 * k) cl ∧ slotsG (byS s m) (fillG (isB s d)) cl (x.F.drop k) = slotsG (byS s m) (fillG (isB s d)) [] x.F ∧ Below (w.heap.size + 2) W0 wr) (fun i _ => x.F.length - (intOf i).toNat)
  case atStart => exact ⟨0, [], rfl, by omega, HC0, rfl, hBW⟩
  case round =>
    obtain ⟨k, cl, rfl, hk, hcl, hsg, hbw⟩ := hrel
    have HBW := Lib.hid (LBD.trans (hbw.mono (by omega)))
    have HSG := Lib.hid hsg
    clear hsg
    by_cases hlt : k < x.F.length
    · obtain ⟨a, ha⟩ : ∃ a, x.F[k]? = some a := ⟨_, List.getElem?_eq_getElem hlt⟩
      obtain ⟨ad, x0, y0, z0, rfl, hg, hca, c0, c1, c2⟩ := row3 sAt.len (sl_low HSL.out HBB.out (Lo.below HBW.out hB)) (HR.out.imp fun a cs h => SRd.low (Lo.below HBW.out hB) h) ha
      obtain ⟨B1, d1, B2, d2, rfl, rfl, rfl⟩ := slot_shape hca
      have hmem := List.mem_of_getElem? ha
      have hcs := cS_le hmem
      have hdc := drop_cons ha
      rw [hdc, slotsG_cons] at HSG
      -- the worlds
      have N1 := below_new wr (.cells #[.int .i64 a.no, .slice B1 a.K.length d1, .slice B2 a.V.length d2] 48)
      have Y1 := box_on ((hbw.block _ (show w.heap.size < w.heap.size + 2 by omega)).trans X1) N1
      have hb1 := below_then HBW.out N1
      have hBr : B ≤ wr.heap.size := Nat.le_trans hB HBW.out.size
      have Z1 := heap_alloc_new wr (.cells #[.int .i64 a.no, .slice B1 a.K.length d1, .slice B2 a.V.length d2] 48)
      have hc1 := Free.alloc hcl (.cells #[.int .i64 a.no, .slice B1 a.K.length d1, .slice B2 a.V.length d2] 48)
      obtain ⟨W1, hW1⟩ : ∃ W, W = wr.alloc (.cells #[.int .i64 a.no, .slice B1 a.K.length d1, .slice B2 a.V.length d2] 48) := ⟨_, rfl⟩
      have hs1 : SAt B W1 s (.slice A1 s.M.length q1) (.slice A2 s.E.length q2) := hW1 ▸ SAt.lo HSA.out hb1 hB
      have hB1 : B ≤ W1.heap.size := by rw [hW1]; exact Nat.le_trans hBr N1.size
      obtain ⟨y1, y2⟩ := box2' Y1
      obtain ⟨s0, s1, s2⟩ := bx3 Z1
      have hm1 := (bx1 (box_on ((hbw.block _ (show w.heap.size + 1 < w.heap.size + 2 by omega)).trans X2) N1))
      have HCA := Lib.hid hca
      have HA := Lib.hid ha
      cases hby : byS s m a.no with
      | none =>
        rw [hby] at HSG
        have HBY := Lib.hid (by_none hby W1 hB1 hs1)
        clear ha hca hcl hbw hs1 hc1 hby hdc
        go_wp2_with fail
        rw [← hW1]
        have hN1 : Below wr.heap.size wr W1 := hW1 ▸ N1
        clear hW1 y1 y2 s0 s1 s2 hm1 Y1 Z1 N1 hb1
        refine HBY.out.mono ?_
        rintro e w2 ⟨rfl, hb2⟩
        go_wp2
        go_ret
        exact ⟨by rw [HF.out, ← HSG.out]; rfl, below_lit (below_then (below_then HBW.out hN1) hb2) _⟩
      | some f =>
        rw [hby] at HSG
        obtain ⟨hfi, -, -⟩ := byS_in HN.out hby
        have HBY := Lib.hid (by_found hby W1 hB1 hs1)
        have HSI := HII.out.slot hmem
        obtain ⟨b1, hb1'⟩ : ∃ b, claimB cl f = b := ⟨_, rfl⟩
        obtain ⟨b2, hb2'⟩ : ∃ b, fillG (isB s d) f a = b := ⟨_, rfl⟩
        have HSG2 : Hid ((b1 && (b2 && slotsG (byS s m) (fillG (isB s d)) (claimsOf f ++ cl) (x.F.drop (k + 1)))) = slotsG (byS s m) (fillG (isB s d)) [] x.F) := Lib.hid (by rw [← hb1', ← hb2']; exact HSG.out)
        have hN1 : Below wr.heap.size wr W1 := hW1 ▸ N1
        have hY1 := hW1 ▸ Y1
        have hZ1 := hW1 ▸ Z1
        have hC1 : Claims W1 (w.heap.size + 2) (2 * k) cl := hW1 ▸ hc1
        have hlt2 := Free.lt hcl
        clear ha hca hcl hs1 hc1 hby hdc HSG
        go_wp2_with fail
        rw [← hW1]
        have hw1s : W1.heap.size = wr.heap.size + 1 := by rw [hW1]; simp
        clear hW1 y1 y2 s0 s1 s2 hm1 Y1 Z1 N1 hb1
        refine HBY.out.mono ?_
        rintro e w2 ⟨rfl, hb2⟩
        have N2 := below_new w2 (dC f)
        have X3 := heap_alloc_new w2 (dC f)
        have hs2 : W1.heap.size ≤ w2.heap.size := hb2.size
        have Y2 := box_on hY1 (below_then hb2 N2)
        have Z2 := box_on hZ1 (below_then hb2 N2)
        have hC2 := Free.alloc (Free.on hC1 hb2) (dC f)
        have HCL := Lib.hid (claims_any (w.heap.size + 2) (2 * k) cl f hfi (w2.alloc (dC f)) hC2 (by omega))
        rw [hb1'] at HCL
        have hAw : Below w.heap.size wr (w2.alloc (dC f)) := (hN1.mono HBW.out.size).trans ((hb2.mono (Nat.le_trans HBW.out.size hN1.size)).trans (N2.mono (Nat.le_trans HBW.out.size (Nat.le_trans hN1.size hs2))))
        have hAx : Below (w.heap.size + 2) wr (w2.alloc (dC f)) := (hN1.mono (Nat.le_of_lt hlt2)).trans ((hb2.mono (by omega)).trans (N2.mono (by omega)))
        have HDN := Lib.hid (fun (w3 : World) (hg3 : (w2.alloc (dC f)).grownBy w3 (some (w.heap.size + 2))) => And.intro (hAw.grown hg3 (by have := HBW.out.size; simp; omega) (fun j hj => by injection hj with hj; omega)) (hAx.grown hg3 (by simp; omega) (fun j hj => by injection hj with hj; omega)))
        have HBX := Lib.hid (fun (w3 : World) (hg3 : (w2.alloc (dC f)).grownBy w3 (some (w.heap.size + 2))) => And.intro (box_kept Y2 hg3 (by omega)) (And.intro (box_kept Z2 hg3 (by omega)) (box_kept X3 hg3 (by omega))))
        have g3 := heap_cell X3
        have f0 := g3 0
        have f1 := g3 1
        have f2 := g3 2
        have f3 := g3 3
        have f4 := g3 4
        have f5 := g3 5
        have f6 := g3 6
        simp at f0 f1 f2 f3 f4 f5 f6
        clear hC1 hC2 hY1 hZ1 Y2 Z2 X3 N2 g3 hN1 hb1'
        cases b1 with
        | false =>
          go_wp2_with fail
          refine HCL.out.mono ?_
          rintro e w3 ⟨rfl, -, hg3⟩
          go_wp2
          go_ret
          exact ⟨by rw [HF.out, ← HSG2.out]; rfl, HBW.out.trans (HDN.out _ hg3).1⟩
        | true =>
          go_wp2_with fail
          refine HCL.out.mono ?_
          rintro e w3 ⟨rfl, hc3, hg3⟩
          have hc3 := hc3 (by trivial)
          obtain ⟨hd3, hdx⟩ := HDN.out _ hg3
          obtain ⟨Y3, Z3, X4⟩ := HBX.out _ hg3
          have hw3 : Below w.heap.size w w3 := HBW.out.trans hd3
          have hB3 : B ≤ w3.heap.size := Nat.le_trans hB hw3.size
          have HFL := Lib.hid (fills_any HH.out B D A1 A2 q1 q2 f a B1 B2 d1 d2 w3 hB3 (SAt.lo HSA.out hw3 hB) (SRd.low (Lo.of (hd3.mono hB)) HCA.out) HSI (by omega))
          rw [hb2'] at HFL
          obtain ⟨y1, y2⟩ := box2' Y3
          obtain ⟨s0, s1, s2⟩ := bx3 Z3
          have g4 := heap_cell X4
          have k0 := g4 0
          have k1 := g4 1
          have k2 := g4 2
          have k3 := g4 3
          have k4 := g4 4
          have k5 := g4 5
          have k6 := g4 6
          simp at k0 k1 k2 k3 k4 k5 k6
          have HDX := Lib.hid hdx
          have HBWW := Lib.hid hbw
          clear f0 f1 f2 f3 f4 f5 f6 hb2' Y3 Z3 X4 g4 hd3 hdx hbw
          cases b2 with
          | false =>
            go_wp2_with fail
            refine HFL.out.mono ?_
            rintro e w4 ⟨rfl, hb4⟩
            go_wp2
            go_ret
            exact ⟨by rw [HF.out, ← HSG2.out]; rfl, below_then hw3 hb4⟩
          | true =>
            go_wp2_with fail
            refine HFL.out.mono ?_
            rintro e w4 ⟨rfl, hb4⟩
            have hc4 := Free.on hc3 hb4
            go_wp2
            refine ⟨⟨k + 1, claimsOf f ++ cl, by go_num, by omega, by rw [show 2 * (k + 1) = 2 * k + 2 by omega]; exact hc4, by rw [← HSG2.out]; simp, HBWW.out.trans (HDX.out.trans (hb4.mono (by have := HDX.out.size; omega)))⟩, by simp [intOf]; omega⟩
    · obtain rfl : k = x.F.length := by omega
      have HE := HSG.out
      rw [List.drop_length] at HE
      go_wp2
      go_ret
      exact ⟨by rw [HF.out, ← HE]; rfl, HBW.out⟩
/-- isOf, of any message, at most so deep. -/
theorem isOf_any {s : Sc} (hin : ScIn s) : ∀ d, d ≤ 1000 → IsH s d
  | 0, _ => isOf_zero s
  | d + 1, h => isOf_step (by omega) hin (isOf_any hin d (by omega))
end Go.Proofs.YtipaangiehdgkaaGreatDoor.T9
/-
  May a message be, and a value: the contracts of Val and May.
-/
namespace Go.Proofs.YtipaangiehdgkaaGreatDoor.T9
set_option maxRecDepth 100000
open Go.Proofs.YtipaangiehdgkaaGreatDoor.T4
open Go.RowKit Go.Maps

theorem may_b (B : Nat) (s : Sc) (vM vE : Value) (w : World) (hB : B ≤ w.heap.size) (hs : SAt B w s vM vE) (hin : ScIn s) (T : Tabs w) :
    Calls Tryz.prog 50 #[.agg #[vM, vE]] w fun e w' => e = .returned (.bool (@decide (ScMay s) (Classical.propDecidable _))) ∧ Below w.heap.size w w' :=
  (may_any B s vM vE w hB hs hin T).mono fun e w' ⟨b, h1, h2, h3⟩ => ⟨by
    rw [h1]
    refine congrArg (fun b => Ending.returned (Value.bool b)) ?_
    rw [Bool.eq_iff_iff, h2]
    exact (@decide_eq_true_iff _ (Classical.propDecidable _)).symm, h3⟩
theorem sat_shape {B : Nat} {w : World} {s : Sc} {vM vE : Value} (hs : SAt B w s vM vE) : ∃ A1 q1 A2 q2, vM = .slice A1 s.M.length q1 ∧ vE = .slice A2 s.E.length q2 := by
  obtain ⟨xs, ys, ⟨A1, q1, h1, _⟩, _, ⟨A2, q2, h2, _⟩, _⟩ := hs
  exact ⟨A1, q1, A2, q2, h1, h2⟩
set_option maxRecDepth 1000000 in
set_option maxHeartbeats 4000000 in
theorem tmay_any {s : Sc} (hin : ScIn s) (B D : Nat) (vM vE : Value) (m : Int) (x : Mg) (u : Value) (w : World) (hB : B ≤ w.heap.size) (hs : SAt B w s vM vE) (hx : MRd B w D x u) (hi : MIn x) (hc : x.cnt ≤ 100000) (T : Tabs w) :
    Calls Tryz.prog 28 #[.agg #[vM, vE], .int .i64 m, .agg #[u]] w fun e w' => e = .returned (.bool (mayT s m x)) ∧ Below w.heap.size w w' := by
  obtain ⟨X1, X2, LBD⟩ := two_boxes w (.cells #[vM, vE] 33) (.cells #[u] 36)
  have hb1 := may_b B s vM vE _ (Nat.le_trans hB LBD.size) (SAt.lo hs LBD hB) hin (T.on LBD)
  obtain ⟨A1, q1, A2, q2, rfl, rfl⟩ := sat_shape hs
  obtain ⟨A, c, rfl⟩ := rd_shape hx
  have HI := Lib.hid (fun wx (h : Below w.heap.size w wx) => isOf_any hin 64 (by omega) B D _ _ m x _ wx (Nat.le_trans hB h.size) (SAt.lo hs h hB) (MRd.low (Lo.below h hB) hx) hi hc)
  have HT : Hid (mayT s m x = (@decide (ScMay s) (Classical.propDecidable _) && isB s 64 m x)) := Lib.hid rfl
  obtain ⟨d, hd⟩ : ∃ d, @decide (ScMay s) (Classical.propDecidable _) = d := ⟨_, rfl⟩
  rw [hd] at hb1 HT
  have HB1 := Lib.hid hb1
  clear hb1 hd hs hx hi T
  cases d with
  | false =>
    obtain ⟨x1, x2⟩ := box2' X1
    go_enter Tryz.func28, Tryz.ntmps28
    go_wp2_with (go_at_call 50; refine HB1.out.mono ?_; rintro e w1 ⟨rfl, hb1⟩)
    go_ret
    exact ⟨by rw [HT.out]; rfl, below_then LBD hb1⟩
  | true =>
    obtain ⟨x1, x2⟩ := box2' X1
    go_enter Tryz.func28, Tryz.ntmps28
    go_wp2_with fail
    refine HB1.out.mono ?_
    rintro e w1 ⟨rfl, hb1⟩
    obtain ⟨z1, z2⟩ := box2' (box_on X1 hb1)
    have z3 := bx1 (box_on X2 hb1)
    have HC := Lib.hid (HI.out _ (below_then LBD hb1))
    have HL := Lib.hid (below_then LBD hb1)
    clear x1 x2 X1 X2 hb1 HI
    go_wp2_with fail
    refine HC.out.mono ?_
    rintro e w2 ⟨rfl, hb2⟩
    go_wp2
    go_ret
    exact ⟨by rw [HT.out]; simp, below_then HL.out hb2⟩
end Go.Proofs.YtipaangiehdgkaaGreatDoor.T9
/-
  Normal, and Is, of a message without anything that is told: their contracts, as the statements' first call asks for them.
-/
namespace Go.Proofs.YtipaangiehdgkaaGreatDoor.T9
set_option maxRecDepth 100000
open Go.Proofs.YtipaangiehdgkaaGreatDoor.T4
open Go.RowKit Go.Maps

set_option maxRecDepth 1000000 in
set_option maxHeartbeats 2000000 in
theorem isDefault_any (v : Vl') (A : Option Addr) (c : Nat) (w : World) :
    Calls Tryz.prog 92 #[.agg #[.int .i64 v.n, .string (tx v.s), .slice A v.M.length c]] w fun e w' => e = .returned (.bool (defB v)) ∧ Below w.heap.size w w' := by
  have LBD := below_new w (.cells #[.int .i64 v.n, .string (tx v.s), .slice A v.M.length c] 51)
  have HB : Hid (defB v = ((v.n == 0) && ((tx v.s).toList.isEmpty && ((v.M.length : Int) == 0)))) := Lib.hid (by unfold defB; rw [emp_str v.s, emp_len v.M])
  obtain ⟨d1, hd1⟩ : ∃ d, (v.n == 0) = d := ⟨_, rfl⟩
  obtain ⟨d2, hd2⟩ : ∃ d, (tx v.s).toList.isEmpty = d := ⟨_, rfl⟩
  obtain ⟨d3, hd3⟩ : ∃ d, ((v.M.length : Int) == 0) = d := ⟨_, rfl⟩
  rw [hd1, hd2, hd3] at HB
  cases d1 <;> cases d2 <;> cases d3
  all_goals
    go_enter Tryz.func92, Tryz.ntmps92
    go_wp2
    go_ret
    exact ⟨by rw [HB.out]; rfl, LBD⟩
set_option maxRecDepth 1000000 in
set_option maxHeartbeats 4000000 in
theorem isTold_any (B D : Nat) (f : Df) (l : List Vl') (u : Value) (w : World) (hB : B ≤ w.heap.size) (hl : LsAt (Rd B w) 51 3 (VAt (Rd B w) D) l u) :
    Calls Tryz.prog 52 #[.agg #[.int .i64 f.no, .string (txt f.name), .int .i64 f.kind, .int .i64 f.ref, .bool f.rep, .int .i64 f.key, .int .i64 f.one], u] w fun e w' => e = .returned (.bool (toldB f l)) ∧ Below w.heap.size w w' := by
  obtain ⟨A, c, xs, rfl, hs, hb, hr, hn⟩ := hl.open_
  have LBD := below_new w (dC f)
  have X1 := heap_alloc_new w (dC f)
  cases l with
  | nil =>
    go_enter Tryz.func52, Tryz.ntmps52
    go_wp2
    go_ret
    exact ⟨rfl, LBD⟩
  | cons v l =>
    have hlo : Lo B w (w.alloc (dC f)) := Lo.below LBD hB
    obtain ⟨ad, x, y, z, rfl, hg, hca, c0, c1, c2⟩ := row3 (k := 0) vAt.len (sl_low hs hb hlo) (hr.imp fun a cs h => VRd.low hlo h) (show (v :: l)[0]? = some v from rfl)
    rw [Nat.zero_mul, add_nothing] at c0 c1 c2
    obtain ⟨AM, cM, rfl, rfl, rfl⟩ := val_shape hca
    have HM := Lib.hid (fun wx => isMap_any f wx)
    have HDF := Lib.hid (fun wx => isDefault_any v AM cM wx)
    have HB : Hid (toldB f (v :: l) = (f.rep || (f.key != -1 || (f.one != 0 || (f.kind == 9 || !defB v))))) := Lib.hid rfl
    obtain ⟨n, hN⟩ : ∃ n, n = (v :: l).length := ⟨_, rfl⟩
    have hnz : ((n : Int) == 0) = false := by rw [hN, beq_eq_false_iff_ne]; simp; omega
    rw [← hN]
    have hX : (w.alloc (dC f)).cell? ⟨w.heap.size, 4, none⟩ = some (.bool f.rep) := by first | simp | exact heap_cell X1 4
    have HX6 : Hid (∀ w1, Below (w.alloc (dC f)).heap.size (w.alloc (dC f)) w1 → w1.cell? ⟨w.heap.size, 6, none⟩ = some (.int .i64 f.one) ∧ w1.cell? ⟨w.heap.size, 2, none⟩ = some (.int .i64 f.kind)) := Lib.hid (fun w1 h => by
      have h6 := heap_cell (box_on X1 h) 6
      have h2 := heap_cell (box_on X1 h) 2
      simp at h6 h2
      exact ⟨h6, h2⟩)
    obtain ⟨d1, hd1⟩ : ∃ d, f.rep = d := ⟨_, rfl⟩
    obtain ⟨d2, hd2⟩ : ∃ d, (f.key != -1) = d := ⟨_, rfl⟩
    obtain ⟨d3, hd3⟩ : ∃ d, (f.one != 0) = d := ⟨_, rfl⟩
    obtain ⟨d4, hd4⟩ : ∃ d, (f.kind == 9) = d := ⟨_, rfl⟩
    obtain ⟨d5, hd5⟩ : ∃ d, defB v = d := ⟨_, rfl⟩
    rw [hd1, hd2, hd3, hd4, hd5] at HB
    rw [hd2, hd1] at HM
    rw [hd5] at HDF
    rw [hd1] at hX
    have HC := Lib.hid (And.intro c0 (And.intro c1 c2))
    clear hs hb hr hl hn hca hN hd2 hd5 hlo hd1
    have hlt : (0 : Int) < n := by rw [beq_eq_false_iff_ne] at hnz; omega
    have hlt2 : 0 < n := by omega
    cases d1 with
    | true =>
      go_enter Tryz.func52, Tryz.ntmps52
      go_wp2
      go_ret
      exact ⟨by rw [HB.out]; rfl, LBD⟩
    | false =>
      cases d2 with
      | true =>
        go_enter Tryz.func52, Tryz.ntmps52
        go_wp2_with (go_at_call 91; refine (HM.out _).mono ?_; rintro e w1 ⟨rfl, hb1⟩)
        go_ret
        exact ⟨by rw [HB.out]; rfl, below_then LBD hb1⟩
      | false =>
        cases d3 <;> cases d4 <;> cases d5
        all_goals
          go_enter Tryz.func52, Tryz.ntmps52
          go_wp2_with (first
            | (go_at_call 91; refine (HM.out _).mono ?_; rintro e w1 ⟨rfl, hb1⟩; obtain ⟨e6, e2⟩ := HX6.out _ hb1; have k0 := cell_on hb1 HC.out.1; have k1 := cell_on hb1 HC.out.2.1; have k2 := cell_on hb1 HC.out.2.2)
            | (go_at_call 92; refine (HDF.out _).mono ?_; rintro e w2 ⟨rfl, hb2⟩; have L2 := below_then hb1 hb2)
            | fail)
          go_ret
          exact ⟨by rw [HB.out]; rfl, by first | exact LBD.trans (L2.mono LBD.size) | exact below_then LBD hb1⟩
end Go.Proofs.YtipaangiehdgkaaGreatDoor.T9
/-
  Normal and Is, as their inner call tells; and the statements' first call.
-/
namespace Go.Proofs.YtipaangiehdgkaaGreatDoor.T9
set_option maxRecDepth 100000
open Go.Proofs.YtipaangiehdgkaaGreatDoor.T4
open Go.RowKit Go.Maps

theorem three_szd (w : World) (o1 o2 o3 : Obj) : (((w.alloc o1).alloc o2).alloc o3).heap.size = w.heap.size + 3 := by simp
set_option maxRecDepth 1000000 in
set_option maxHeartbeats 4000000 in
/-- Normal. -/
theorem tnormal_of {s : Sc} (hin : ScIn s) (B D : Nat) (vM vE : Value) (m : Int) (x : Mg) (u : Value) (w : World) (hB : B ≤ w.heap.size) (hs : SAt B w s vM vE) (hx : MRd B w D x u) (hi : MIn x) (hc : x.cnt ≤ 100000) (T : Tabs w)
    (Q : Value → World → Prop) (hQ : ∀ v wa wb, Q v wa → wa.grownBy wb (some (w.heap.size + 2)) → Q v wb)
    (HN : mayT s m x = true → ∀ wx, Below w.heap.size w wx → w.heap.size + 3 ≤ wx.heap.size → Calls Tryz.prog 29 #[.agg #[vM, vE], .int .i64 m, .agg #[u]] wx fun e w' => ∃ A n c, e = .returned (.agg #[.slice A n c]) ∧ Q (.slice A n c) w' ∧ Below wx.heap.size wx w') :
    Calls Tryz.prog 13 #[.agg #[vM, vE], .int .i64 m, .agg #[u]] w fun e w' => ∃ A n c, e = .returned (.tuple #[.agg #[.slice A n c], .bool (mayT s m x)]) ∧ (mayT s m x = false → A = none ∧ n = 0 ∧ c = 0) ∧ (mayT s m x = true → Q (.slice A n c) w') ∧ Below w.heap.size w w' := by
  obtain ⟨T1, T2, T3, L3⟩ := three_boxes w (.cells #[vM, vE] 33) (.cells #[u] 36) (.cells #[.slice none 0 0] 36)
  have hsz := three_szd w (.cells #[vM, vE] 33) (.cells #[u] 36) (.cells #[.slice none 0 0] 36)
  obtain ⟨W0, hW0⟩ : ∃ W, W = ((w.alloc (.cells #[vM, vE] 33)).alloc (.cells #[u] 36)).alloc (.cells #[.slice none 0 0] 36) := ⟨_, rfl⟩
  obtain ⟨A1, q1, A2, q2, rfl, rfl⟩ := sat_shape hs
  obtain ⟨A, c, rfl⟩ := rd_shape hx
  rw [← hW0] at T1 T2 T3 L3 hsz
  have hBW : B ≤ W0.heap.size := Nat.le_trans hB L3.size
  have hmay := tmay_any hin B D _ _ m x _ W0 hBW (SAt.lo hs L3 hB) (MRd.low (Lo.below L3 hB) hx) hi hc (T.on L3)
  have HX := Lib.hid (And.intro T1 (And.intro T2 T3))
  have HNN := Lib.hid HN
  have HQ := Lib.hid hQ
  have HL := Lib.hid L3
  have HZ := Lib.hid hsz
  obtain ⟨d, hd⟩ : ∃ d, mayT s m x = d := ⟨_, rfl⟩
  rw [hd] at hmay HNN ⊢
  have HM := Lib.hid hmay
  obtain ⟨x1, x2⟩ := box2' T1
  have x3 := bx1 T2
  clear hs hx hi hc T HN hQ hmay T1 T2 T3 L3 hd hsz
  cases d with
  | false =>
    go_enter Tryz.func13, Tryz.ntmps13
    simp only [hW0] at x1 x2 x3
    go_wp2_with fail
    rw [← hW0]
    clear hW0 x1 x2 x3
    refine HM.out.mono ?_
    rintro e w1 ⟨rfl, hb1⟩
    have Y3 := box_on HX.out.2.2 hb1
    have ff : w1.frozen? ⟨w.heap.size + 2, 0, none⟩ = false := by simp [World.frozen?, Y3]
    have y3 := bx1 Y3
    obtain ⟨Z1, Z2⟩ := cell1 Y3 (.slice none 0 0)
    have hlt := box_lt Y3
    go_wp2
    refine bodyPost_ret (results_pair rfl _ _ (w.heap.size + 2) _ _ (0, 0) _ rfl Z1 Tryz.underlying36 rfl sz_msg) rfl ?_
    exact ⟨none, 0, 0, rfl, fun _ => ⟨rfl, rfl, rfl⟩, fun h => by simp at h, (below_then HL.out hb1).trans (below_own Z2 (by omega) (by omega))⟩
  | true =>
    go_enter Tryz.func13, Tryz.ntmps13
    simp only [hW0] at x1 x2 x3
    go_wp2_with fail
    rw [← hW0]
    clear hW0 x1 x2 x3
    refine HM.out.mono ?_
    rintro e w1 ⟨rfl, hb1⟩
    obtain ⟨z1, z2⟩ := box2' (box_on HX.out.1 hb1)
    have z3 := bx1 (box_on HX.out.2.1 hb1)
    have Y3 := box_on HX.out.2.2 hb1
    have hb01 := below_then HL.out hb1
    have HC := Lib.hid (HNN.out (by trivial) w1 hb01 (box_lt Y3))
    clear HNN HM
    go_wp2_with fail
    refine HC.out.mono ?_
    rintro e w2 ⟨A9, n9, c9, rfl, hq, hb2⟩
    have Y4 := box_on Y3 hb2
    have ff : w2.frozen? ⟨w.heap.size + 2, 0, none⟩ = false := by simp [World.frozen?, Y4]
    have y3 := bx1 Y4
    obtain ⟨Z1, Z2⟩ := cell1 Y4 (.slice A9 n9 c9)
    have hlt := box_lt Y4
    have HQQ := Lib.hid (HQ.out _ _ _ hq Z2)
    clear Y3 hq
    go_wp2
    refine bodyPost_ret (results_pair rfl _ _ (w.heap.size + 2) _ _ (0, 0) _ rfl Z1 Tryz.underlying36 rfl sz_msg) rfl ?_
    exact ⟨A9, n9, c9, rfl, fun h => by simp at h, fun _ => HQQ.out, (below_then hb01 hb2).trans (below_own Z2 (by omega) (by omega))⟩
end Go.Proofs.YtipaangiehdgkaaGreatDoor.T9
/-
  A message, made normal: the contract of normal, of any message that is of its message; and of Normal and Is.
-/
namespace Go.Proofs.YtipaangiehdgkaaGreatDoor.T9
set_option maxRecDepth 100000
open Go.Proofs.YtipaangiehdgkaaGreatDoor.T4
open Go.RowKit Go.Maps

theorem dc_cells {w : World} {g : Nat} {f : Df} {fr : Nat × Nat} (h : w.heap[g]? = some (.cells #[.int .i64 f.no, .string (txt f.name), .int .i64 f.kind, .int .i64 f.ref, .bool f.rep, .int .i64 f.key, .int .i64 f.one] 53 fr)) :
    w.cell? ⟨g, 0, none⟩ = some (.int .i64 f.no) ∧ w.cell? ⟨g, 1, none⟩ = some (.string (txt f.name)) ∧ w.cell? ⟨g, 2, none⟩ = some (.int .i64 f.kind) ∧ w.cell? ⟨g, 3, none⟩ = some (.int .i64 f.ref) ∧ w.cell? ⟨g, 4, none⟩ = some (.bool f.rep) ∧ w.cell? ⟨g, 5, none⟩ = some (.int .i64 f.key) ∧ w.cell? ⟨g, 6, none⟩ = some (.int .i64 f.one) :=
  ⟨by rw [heap_cell h 0]; rfl, by rw [heap_cell h 1]; rfl, by rw [heap_cell h 2]; rfl, by rw [heap_cell h 3]; rfl, by rw [heap_cell h 4]; rfl, by rw [heap_cell h 5]; rfl, by rw [heap_cell h 6]; rfl⟩
theorem told_next {α β : Type} {l : List α} {k : Nat} {a : α} (g : α → Option β) (h : l[k]? = some a) : (l.take (k + 1)).filterMap g = (l.take k).filterMap g ++ (g a).toList := by
  rw [List.take_add_one, h, List.filterMap_append]
  simp [List.filterMap_cons]
  cases g a <;> rfl
theorem told_len {α β : Type} (l : List α) (k : Nat) (g : α → Option β) : ((l.take k).filterMap g).length ≤ k := Nat.le_trans (List.length_filterMap_le _ _) (by rw [List.length_take]; omega)
set_option maxRecDepth 1000000 in
set_option maxHeartbeats 8000000 in
theorem norm_step {s : Sc} {B D d : Nat} (hin : ScIn s) (H : NormH s B D (isB s d) (norB s d)) : NormH s B (D + 1) (isB s (d + 1)) (norB s (d + 1)) := by
  intro vM vE m x u w hB hs hx hi hc hG b hb
  obtain ⟨A1, q1, A2, q2, rfl, rfl⟩ := sat_shape hs
  obtain ⟨u', hu, hl⟩ := hx
  simp only [List.cons.injEq, and_true] at hu
  subst hu
  obtain ⟨A, c, xs, rfl, hsl, hbl, hr, hn⟩ := hl.open_
  obtain ⟨i0, hi0, hz0, hz1, hz2⟩ := info_parts info_slot
  obtain ⟨X1, X2, X3, X4, LBD⟩ := four_new w (.cells #[.slice A1 s.M.length q1, .slice A2 s.E.length q2] 33) (.cells #[.slice A x.F.length c] 36) (.cells #[.slice none 0 0] 36) (.cells #[.slice none 0 0] 36)
  have hsz : ((((w.alloc (.cells #[.slice A1 s.M.length q1, .slice A2 s.E.length q2] 33)).alloc (.cells #[.slice A x.F.length c] 36)).alloc (.cells #[.slice none 0 0] 36)).alloc (.cells #[.slice none 0 0] 36)).heap.size = w.heap.size + 4 := by simp
  obtain ⟨W0, hW0⟩ : ∃ W, W = (((w.alloc (.cells #[.slice A1 s.M.length q1, .slice A2 s.E.length q2] 33)).alloc (.cells #[.slice A x.F.length c] 36)).alloc (.cells #[.slice none 0 0] 36)).alloc (.cells #[.slice none 0 0] 36) := ⟨_, rfl⟩
  have hcf := cnt_F x
  have hGs : slotsG (byS s m) (fillG (isB s d)) [] x.F = true := by
    have h : (decide (0 ≤ m ∧ m < s.M.length) && slotsG (byS s m) (fillG (isB s d)) [] x.F) = true := hG
    rw [Bool.and_eq_true] at h
    exact h.2
  have HNO := Lib.hid (slots_no hGs)
  have HSL := Lib.hid hsl
  have HR := Lib.hid hr
  have HBB := Lib.hid hbl
  have HSA := Lib.hid hs
  have HII := Lib.hid hi
  have HH := Lib.hid H
  have HFL := Lib.hid (slots_iff.1 hGs).1
  have HIN := Lib.hid hin
  have x3 := bx1 X2
  clear hsl hr hl hbl hs hi H hGs hG hin
  go_enter Tryz.func29, Tryz.ntmps29
  go_wp2
  rw [← hW0] at X1 X2 X3 X4 LBD hsz ⊢
  clear hW0 x3
  go_loopw [15] (fun i wr => ∃ (k : Nat) (v' : Value) (zs : List Value), i = .int .i64 k ∧ k ≤ x.F.length ∧ wr.heap[w.heap.size + 3]? = some (.cells #[v'] 36 (0, 0)) ∧ Grow (fun R => SAt' R D) 48 3 (w.heap.size + 4) wr v' ((x.F.take k).filterMap (norO (byS s m) (norB s d))) zs ∧ Below (w.heap.size + 3) W0 wr ∧ w.heap.size + 4 ≤ wr.heap.size) (fun i _ => x.F.length - (intOf i).toNat)
  case atStart => exact ⟨0, _, [], rfl, by omega, X4, Grow.nil _ _ _ _ _, Below.refl _ _, by omega⟩
  case round =>
    obtain ⟨k, v', zs, rfl, hk, hX, hgx, hbx, hsx⟩ := hrel
    have hm1 := (hbx.block _ (show w.heap.size < w.heap.size + 3 by omega)).trans X1
    have hm3 := (hbx.block _ (show w.heap.size + 2 < w.heap.size + 3 by omega)).trans X3
    have hbw : Below w.heap.size w wr := LBD.trans (hbx.mono (by omega))
    have hBw : B ≤ wr.heap.size := by omega
    have hlo : Lo B w wr := Lo.of (hbw.mono hB)
    have hLk := told_len x.F k (norO (byS s m) (norB s d))
    obtain ⟨L, hL⟩ : ∃ L, (x.F.take k).filterMap (norO (byS s m) (norB s d)) = L := ⟨_, rfl⟩
    rw [hL] at hgx hLk
    by_cases hlt : k < x.F.length
    · obtain ⟨a, ha⟩ : ∃ a, x.F[k]? = some a := ⟨_, List.getElem?_eq_getElem hlt⟩
      obtain ⟨ad, x0, y0, z0, rfl, hga, hca, c0, c1, c2⟩ := row3 sAt.len (sl_low HSL.out HBB.out hlo) (HR.out.imp fun a cs h => SRd.low hlo h) ha
      obtain ⟨B1, d1, B2, d2, rfl, rfl, rfl⟩ := slot_shape hca
      have hmem := List.mem_of_getElem? ha
      obtain ⟨f, hf, hfl⟩ := HFL.out a hmem
      have hcs := cS_le hmem
      have hon := told_next (norO (byS s m) (norB s d)) ha
      rw [hL] at hon
      have HON := Lib.hid hon
      have HO1 : Hid (norO (byS s m) (norB s d) a = if toldB f a.V then some (norS (norB s d) f a) else none) := Lib.hid (by unfold norO; rw [hf]; rfl)
      have N1 := below_new wr (.cells #[.int .i64 a.no, .slice B1 a.K.length d1, .slice B2 a.V.length d2] 48)
      have T1 := heap_alloc_new wr (.cells #[.int .i64 a.no, .slice B1 a.K.length d1, .slice B2 a.V.length d2] 48)
      have hb1 := below_then hbw N1
      have HBY := Lib.hid (by_found hf _ (Nat.le_trans hB hb1.size) (SAt.lo HSA.out hb1 hB))
      have HB1 := Lib.hid (And.intro hbx N1)
      have HXX := Lib.hid hX
      have HGO := Lib.hid hgx
      have HCA := Lib.hid hca
      have HM3 := Lib.hid hm3
      obtain ⟨y1, y2⟩ := box2' (box_on hm1 N1)
      obtain ⟨t0, t1, t2⟩ := bx3 T1
      have HMM := Lib.hid (And.intro (box_on hm1 N1) T1)
      clear ha hca hbx hb1 hf hX hgx hm3 hon hL N1 T1 hm1
      go_wp2_with fail
      refine HBY.out.mono ?_
      rintro e w2 ⟨rfl, hb2⟩
      have N2 := below_new w2 (dC f)
      have L2 := HB1.out.2.trans ((below_then hb2 N2).mono HB1.out.2.size)
      have hs12 : wr.heap.size ≤ w2.heap.size := Nat.le_trans HB1.out.2.size hb2.size
      have Y1 := box_on HMM.out.1 (below_then hb2 N2)
      have Y2 := box_on HMM.out.2 (below_then hb2 N2)
      have Y3 := heap_alloc_new w2 (dC f)
      obtain ⟨u0, u1, u2⟩ := bx3 Y2
      obtain ⟨u3, u4, hu, -, hV⟩ := HCA.out
      simp only [List.cons.injEq, and_true, true_and] at hu
      obtain ⟨-, rfl⟩ := hu
      have hlo2 : Lo B wr (w2.alloc (dC f)) := Lo.below L2 hBw
      have HTO := Lib.hid (isTold_any B D f a.V _ (w2.alloc (dC f)) (by have := L2.size; omega) (hV.low hlo2 fun a cs h => VRd.low hlo2 h))
      have g3 := heap_cell Y3
      have f0 := g3 0
      have f1 := g3 1
      have f2 := g3 2
      have f3 := g3 3
      have f4 := g3 4
      have f5 := g3 5
      have f6 := g3 6
      simp at f0 f1 f2 f3 f4 f5 f6
      have hszd : (w2.alloc (dC f)).heap.size = w2.heap.size + 1 := by simp
      have HL2 := Lib.hid (And.intro L2 (And.intro Y1 (And.intro Y2 Y3)))
      obtain ⟨bt, hbt⟩ : ∃ bt, toldB f a.V = bt := ⟨_, rfl⟩
      rw [hbt] at HTO HO1
      clear y1 y2 t0 t1 t2 hV hbt N2 L2 hb2 g3 hlo2 Y1 Y2 Y3
      cases bt with
      | false =>
        go_wp2_with fail
        refine HTO.out.mono ?_
        rintro e w3 ⟨rfl, hb3⟩
        have HL3 := Lib.hid (HL2.out.1.trans (hb3.mono HL2.out.1.size))
        have hbz : Below (w.heap.size + 3) wr w3 := HL3.out.mono (by omega)
        go_wp2
        refine ⟨⟨k + 1, v', zs, by go_num, by omega, box_on HXX.out HL3.out, ?_, HB1.out.1.trans hbz, by have := hbz.size; omega⟩, by simp [intOf]; omega⟩
        rw [HON.out, HO1.out, if_neg (by simp)]
        simp only [Option.toList_none, List.append_nil]
        exact HGO.out.on (mono_s D) HL3.out
      | true =>
        go_wp2_with fail
        refine HTO.out.mono ?_
        rintro e w3 ⟨rfl, hb3⟩
        have HL3 := Lib.hid (HL2.out.1.trans (hb3.mono HL2.out.1.size))
        have hL3s : wr.heap.size ≤ w3.heap.size := HL3.out.size
        have hb3s := hb3.size
        have hw3 : w.heap.size + 4 ≤ w3.heap.size := by omega
        have hbw3 : Below w.heap.size w w3 := hbw.trans (HL3.out.mono hbw.size)
        have hD : Below w3.heap.size w3 w3.drew := (Below.refl _ _).drew
        have HCX := Lib.hid (nslot_any HH.out (.slice A1 s.M.length q1) (.slice A2 s.E.length q2) f a (.slice B1 a.K.length d1) (.slice B2 a.V.length d2) w3.drew (show B ≤ w3.heap.size by omega) (SAt.lo HSA.out hbw3.drew hB) (SRd.low (Lo.below HL3.out.drew hBw) HCA.out) (HII.out.slot hmem) (by omega) hfl w3.heap.size (Nat.le_refl _))
        have HGX := Lib.hid (HGO.out.on (mono_s D) HL3.out)
        have HX := Lib.hid (box_on HXX.out HL3.out)
        have HM := Lib.hid (And.intro (box_on HL2.out.2.1 hb3) (And.intro (box_on HL2.out.2.2.2 hb3) (box_on HL2.out.2.2.1 hb3)))
        have g2 := bx1 HX.out
        have hS0 : (w3.cell? ⟨w.heap.size, 0, none⟩ = some (.slice A1 s.M.length q1) ∧ w3.cell? ⟨w.heap.size, 1, none⟩ = some (.slice A2 s.E.length q2)) ∧ (w3.cell? ⟨w2.heap.size, 0, none⟩ = some (.int .i64 f.no) ∧ w3.cell? ⟨w2.heap.size, 1, none⟩ = some (.string (txt f.name)) ∧ w3.cell? ⟨w2.heap.size, 2, none⟩ = some (.int .i64 f.kind) ∧ w3.cell? ⟨w2.heap.size, 3, none⟩ = some (.int .i64 f.ref) ∧ w3.cell? ⟨w2.heap.size, 4, none⟩ = some (.bool f.rep) ∧ w3.cell? ⟨w2.heap.size, 5, none⟩ = some (.int .i64 f.key) ∧ w3.cell? ⟨w2.heap.size, 6, none⟩ = some (.int .i64 f.one)) ∧ (w3.cell? ⟨wr.heap.size, 0, none⟩ = some (.int .i64 a.no) ∧ w3.cell? ⟨wr.heap.size, 1, none⟩ = some (.slice B1 a.K.length d1) ∧ w3.cell? ⟨wr.heap.size, 2, none⟩ = some (.slice B2 a.V.length d2)) := ⟨box2' HM.out.1, dc_cells HM.out.2.1, bx3 HM.out.2.2⟩
        clear hb3 c0 c1 c2
        go_wp2_with fail
        refine wp_region_held_drew (S := (fun w' => (w'.cell? ⟨w.heap.size, 0, none⟩ = some (.slice A1 s.M.length q1) ∧ w'.cell? ⟨w.heap.size, 1, none⟩ = some (.slice A2 s.E.length q2)) ∧ (w'.cell? ⟨w2.heap.size, 0, none⟩ = some (.int .i64 f.no) ∧ w'.cell? ⟨w2.heap.size, 1, none⟩ = some (.string (txt f.name)) ∧ w'.cell? ⟨w2.heap.size, 2, none⟩ = some (.int .i64 f.kind) ∧ w'.cell? ⟨w2.heap.size, 3, none⟩ = some (.int .i64 f.ref) ∧ w'.cell? ⟨w2.heap.size, 4, none⟩ = some (.bool f.rep) ∧ w'.cell? ⟨w2.heap.size, 5, none⟩ = some (.int .i64 f.key) ∧ w'.cell? ⟨w2.heap.size, 6, none⟩ = some (.int .i64 f.one)) ∧ (w'.cell? ⟨wr.heap.size, 0, none⟩ = some (.int .i64 a.no) ∧ w'.cell? ⟨wr.heap.size, 1, none⟩ = some (.slice B1 a.K.length d1) ∧ w'.cell? ⟨wr.heap.size, 2, none⟩ = some (.slice B2 a.V.length d2)))) (by kernel_rfl) (hS0) (fun hHeld => ?_)
        refine wpAnyH_take (i := 0) (oi := { dst := some 31, op := Go.Op.fieldAddr 36 (Go.Operand.tmp 7) 0, type := 0, pos := "typed.go:132", after := #[], guard := none }) (v := ?_) rfl (by kernel_rfl) (by kernel_rfl) (by kernel_rfl) (fun _ _ _ h => h) (Or.inl ⟨by rfl, ?_⟩) hHeld ?_
        rotate_left
        · intro w hSw
          (try dsimp only at hSw)
          go_simp
          all_goals with_reducible rfl
        (try simp only [Act.put, List.setIfInBounds_toArray, List.set_cons_zero, List.set_cons_succ])
        refine wpAnyH_take (i := 2) (oi := { dst := some 33, op := Go.Op.load 33 (Go.Operand.tmp 3), type := 33, pos := "typed.go:132", after := #[], guard := none }) (v := ?_) rfl (by kernel_rfl) (by kernel_rfl) (by kernel_rfl) (fun _ _ _ h => h) (Or.inl ⟨by rfl, ?_⟩) hHeld ?_
        rotate_left
        · intro w hSw
          (try dsimp only at hSw)
          go_simp
          all_goals with_reducible rfl
        (try simp only [Act.put, List.setIfInBounds_toArray, List.set_cons_zero, List.set_cons_succ])
        refine wpAnyH_take (i := 3) (oi := { dst := some 34, op := Go.Op.load 53 (Go.Operand.tmp 10), type := 53, pos := "typed.go:132", after := #[], guard := none }) (v := ?_) rfl (by kernel_rfl) (by kernel_rfl) (by kernel_rfl) (fun _ _ _ h => h) (Or.inl ⟨by rfl, ?_⟩) hHeld ?_
        rotate_left
        · intro w hSw
          (try dsimp only at hSw)
          go_simp
          all_goals with_reducible rfl
        (try simp only [Act.put, List.setIfInBounds_toArray, List.set_cons_zero, List.set_cons_succ])
        refine wpAnyH_take (i := 4) (oi := { dst := some 35, op := Go.Op.load 48 (Go.Operand.tmp 9), type := 48, pos := "typed.go:132", after := #[], guard := none }) (v := ?_) rfl (by kernel_rfl) (by kernel_rfl) (by kernel_rfl) (fun _ _ _ h => h) (Or.inl ⟨by rfl, ?_⟩) hHeld ?_
        rotate_left
        · intro w hSw
          (try dsimp only at hSw)
          go_simp
          all_goals with_reducible rfl
        (try simp only [Act.put, List.setIfInBounds_toArray, List.set_cons_zero, List.set_cons_succ])
        refine wpAnyH_ready (rs := [1, 5]) (by kernel_rfl) (by simp) ?_
        refine AllReadyH.cons (o := { dst := some 32, op := Go.Op.load 34 (Go.Operand.tmp 31), type := 34, pos := "typed.go:132", after := #[{ on := 0, ground := Go.Ground.data }], guard := none }) rfl (fun K hK => ?_) (AllReadyH.cons (o := { dst := some 36, op := Go.Op.call { callee := Go.Callee.value (Go.Operand.func 53), args := #[Go.Operand.tmp 33, Go.Operand.tmp 34, Go.Operand.tmp 35], argTypes := #[33, 53, 48] }, type := 48, pos := "typed.go:132", after := #[{ on := 2, ground := Go.Ground.data }, { on := 3, ground := Go.Ground.data }, { on := 4, ground := Go.Ground.data }], guard := none }) rfl (fun K hK => ?_) AllReadyH.nil)
        · go_simp
          refine hK.out _ _ (hS0) (fun hHeld => ?_)
          clear hK K
          (try simp only [Act.put, List.setIfInBounds_toArray, List.set_cons_zero, List.set_cons_succ])
          refine wpAnyH_ready (rs := [5]) (by kernel_rfl) (by simp) ?_
          refine AllReadyH.cons (o := { dst := some 36, op := Go.Op.call { callee := Go.Callee.value (Go.Operand.func 53), args := #[Go.Operand.tmp 33, Go.Operand.tmp 34, Go.Operand.tmp 35], argTypes := #[33, 53, 48] }, type := 48, pos := "typed.go:132", after := #[{ on := 2, ground := Go.Ground.data }, { on := 3, ground := Go.Ground.data }, { on := 4, ground := Go.Ground.data }], guard := none }) rfl (fun K hK => ?_) AllReadyH.nil
          go_simp
          (go_at_call 53; refine HCX.out.mono ?_; rintro e w7 ⟨x1, x2, x3, rfl, ho7, hb7⟩; have hb7d := Lib.hid (hD.trans hb7); have HX7 := Lib.hid (box_on HX.out hb7d.out); have c7 := bx1 HX7.out; have c7b := bx1 (box_on HX7.out (below_new w7 (.cells #[x1, x2, x3] 48))); have HG8 := Lib.hid ((HGX.out.on (mono_s D) hb7d.out).on (mono_s D) (below_new w7 (.cells #[x1, x2, x3] 48))); have hs7 : w3.heap.size ≤ w7.heap.size := hb7d.out.size; have HM7 := Lib.hid (And.intro (box_on HM.out.1 hb7d.out) (And.intro (box_on HM.out.2.1 hb7d.out) (box_on HM.out.2.2 hb7d.out))))
          go_wp2_with fail
          refine hK.out _ _ (And.intro (box2' (HM7.out.1)) (And.intro (dc_cells (HM7.out.2.1)) (bx3 (HM7.out.2.2)))) (fun hHeld => ?_)
          clear hK K
          (try simp only [Act.put, List.setIfInBounds_toArray, List.set_cons_zero, List.set_cons_succ])
          refine wpAnyH_ready (rs := [6]) (by kernel_rfl) (by simp) ?_
          refine AllReadyH.cons (o := { dst := some 37, op := Go.Op.buildSlice 34 1 #[(0, Go.Operand.tmp 36)], type := 34, pos := "typed.go:132", after := #[{ on := 5, ground := Go.Ground.data }], guard := none }) rfl (fun K hK => ?_) AllReadyH.nil
          go_simp
          refine hK.out _ _ (And.intro (box2' (box_on HM7.out.1 (below_new w7 (.cells #[x1, x2, x3] 48)))) (And.intro (dc_cells (box_on HM7.out.2.1 (below_new w7 (.cells #[x1, x2, x3] 48)))) (bx3 (box_on HM7.out.2.2 (below_new w7 (.cells #[x1, x2, x3] 48)))))) (fun hHeld => ?_)
          clear hK K
          (try simp only [Act.put, List.setIfInBounds_toArray, List.set_cons_zero, List.set_cons_succ])
          refine wpAnyH_ready (rs := [7]) (by kernel_rfl) (by simp) ?_
          refine AllReadyH.cons (o := { dst := some 38, op := Go.Op.call { callee := Go.Callee.builtin Go.Builtin.append, args := #[Go.Operand.tmp 32, Go.Operand.tmp 37], argTypes := #[34, 34] }, type := 34, pos := "typed.go:132", after := #[{ on := 1, ground := Go.Ground.data }, { on := 6, ground := Go.Ground.data }, { on := 5, ground := Go.Ground.chain }], guard := none }) rfl (fun K hK => ?_) AllReadyH.nil
          (refine step_append_lies _ rfl _ _ 34 rfl (w.heap.size + 4) 48 i0 _ 3 56 Tryz.underlying34 hi0 hz0 hz1 hz2 rfl (by decide) v' L.length zs (by simp [Act.eval, Act.put]) HG8.out.own ⟨w7.heap.size, 0, none⟩ 1 1 [x1, x2, x3] (by simp [Act.eval, Act.put]) rfl (World.news_of_block (heap_alloc_new _ _)) (sAt.oneO _ _ ho7) (by decide) (by unfold maxLen; omega) (by omega) (by simp; omega) w7.heap.size.succ (by simp) ?_; intro g8 cap8 w8 hown8 hg8 hat8 hlt8; have hX8 := Lib.hid (box_far (box_on HX7.out (below_new w7 (.cells #[x1, x2, x3] 48))) hg8 HG8.out.own (Nat.lt_succ_self (w.heap.size + 3))); have f8 : w8.frozen? ⟨w.heap.size + 3, 0, none⟩ = false := (by simp [World.frozen?, hX8.out]); have c8 := bx1 hX8.out; have HM8 := Lib.hid (And.intro (box_far (box_on HM7.out.1 (below_new w7 (.cells #[x1, x2, x3] 48))) hg8 HG8.out.own (show w.heap.size < w.heap.size + 4 by omega)) (And.intro (box_new (box_on HM7.out.2.1 (below_new w7 (.cells #[x1, x2, x3] 48))) hg8 fun q hq => Nat.lt_of_lt_of_le (HGO.out.lt q hq) (by omega)) (box_new (box_on HM7.out.2.2 (below_new w7 (.cells #[x1, x2, x3] 48))) hg8 fun q hq => HGO.out.lt q hq))))
          refine hK.out _ _ (And.intro (box2' (HM8.out.1)) (And.intro (dc_cells (HM8.out.2.1)) (bx3 (HM8.out.2.2)))) (fun hHeld => ?_)
          clear hK K
          (try simp only [Act.put, List.setIfInBounds_toArray, List.set_cons_zero, List.set_cons_succ])
          refine wpAnyH_take (i := 8) (oi := { dst := some 39, op := Go.Op.fieldAddr 36 (Go.Operand.tmp 7) 0, type := 0, pos := "typed.go:132", after := #[{ on := 0, ground := Go.Ground.phase }, { on := 1, ground := Go.Ground.phase }, { on := 2, ground := Go.Ground.phase }, { on := 3, ground := Go.Ground.phase }, { on := 4, ground := Go.Ground.phase }, { on := 5, ground := Go.Ground.phase }, { on := 6, ground := Go.Ground.phase }, { on := 7, ground := Go.Ground.phase }], guard := none }) (v := ?_) rfl (by kernel_rfl) (by kernel_rfl) (by kernel_rfl) (fun _ _ _ h => h) (Or.inl ⟨by rfl, ?_⟩) hHeld ?_
          rotate_left
          · intro w hSw
            (try dsimp only at hSw)
            go_simp
            all_goals with_reducible rfl
          (try simp only [Act.put, List.setIfInBounds_toArray, List.set_cons_zero, List.set_cons_succ])
          refine wpAnyH_ready (rs := [9]) (by kernel_rfl) (by simp) ?_
          refine AllReadyH.cons (o := { dst := none, op := Go.Op.store 34 (Go.Operand.tmp 39) (Go.Operand.tmp 38), type := 0, pos := "typed.go:132", after := #[{ on := 8, ground := Go.Ground.data }, { on := 7, ground := Go.Ground.data }, { on := 7, ground := Go.Ground.chain }, { on := 0, ground := Go.Ground.phase }, { on := 1, ground := Go.Ground.phase }, { on := 2, ground := Go.Ground.phase }, { on := 3, ground := Go.Ground.phase }, { on := 4, ground := Go.Ground.phase }, { on := 5, ground := Go.Ground.phase }, { on := 6, ground := Go.Ground.phase }, { on := 7, ground := Go.Ground.phase }], guard := none }) rfl (fun K hK => ?_) AllReadyH.nil
          go_simp
          refine hK.out _ _ (And.intro (box2' (box_set (g := w.heap.size + 3) (j := 0) HM8.out.1 (by omega) _)) (And.intro (dc_cells (box_set (g := w.heap.size + 3) (j := 0) HM8.out.2.1 (by omega) _)) (bx3 (box_set (g := w.heap.size + 3) (j := 0) HM8.out.2.2 (by omega) _)))) (fun hHeld => ?_)
          clear hK K
          (try simp only [Act.put, List.setIfInBounds_toArray, List.set_cons_zero, List.set_cons_succ])
          refine wpAnyH_done (by kernel_rfl) ?_ _
          obtain ⟨Z1, Z2⟩ := cell1 hX8.out (.slice (some ⟨g8, 0, none⟩) (L.length + 1) cap8)
          have hnew := (Grow.app (mono_s D) HG8.out (a := norS (norB s d) f a) (b' := w3.heap.size) (by omega) (fun k hk => HGX.out.lt k hk) (mono_s D (Ow.hi (hi_below _ (below_new w7 (.cells #[x1, x2, x3] 48)))) _ _ ho7) hown8 hg8 (hat8.imp id fun h => by rw [h]; simp)).box (mono_s D) Z2 (Nat.lt_succ_self (w.heap.size + 3))
          have hw7 : w.heap.size + 4 ≤ w7.heap.size := Nat.le_trans hw3 hs7
          have hbz : Below (w.heap.size + 3) wr _ := ((HL3.out.mono (by omega)).trans ((hb7d.out.mono (by omega)).trans ((below_new w7 (.cells #[x1, x2, x3] 48)).mono (by omega)))).trans ((below_row hg8 HG8.out.own (Nat.le_succ _) (by simp; omega)).trans (below_own Z2 (Nat.le_refl _) (by have := hg8.size; simp at this; omega)))
          go_wp2
          refine ⟨⟨k + 1, _, zs ++ [x1, x2, x3], by go_num, by omega, Z1, ?_, HB1.out.1.trans hbz, by have h1 := hbz.size; have h2 := hg8.size; simp at h1 h2 ⊢; omega⟩, by simp [intOf]; omega⟩
          rw [HON.out, HO1.out, if_pos (by trivial)]
          exact hnew
        · go_simp
          (go_at_call 53; refine HCX.out.mono ?_; rintro e w7 ⟨x1, x2, x3, rfl, ho7, hb7⟩; have hb7d := Lib.hid (hD.trans hb7); have HX7 := Lib.hid (box_on HX.out hb7d.out); have c7 := bx1 HX7.out; have c7b := bx1 (box_on HX7.out (below_new w7 (.cells #[x1, x2, x3] 48))); have HG8 := Lib.hid ((HGX.out.on (mono_s D) hb7d.out).on (mono_s D) (below_new w7 (.cells #[x1, x2, x3] 48))); have hs7 : w3.heap.size ≤ w7.heap.size := hb7d.out.size; have HM7 := Lib.hid (And.intro (box_on HM.out.1 hb7d.out) (And.intro (box_on HM.out.2.1 hb7d.out) (box_on HM.out.2.2 hb7d.out))))
          go_wp2_with fail
          refine hK.out _ _ (And.intro (box2' (HM7.out.1)) (And.intro (dc_cells (HM7.out.2.1)) (bx3 (HM7.out.2.2)))) (fun hHeld => ?_)
          clear hK K
          (try simp only [Act.put, List.setIfInBounds_toArray, List.set_cons_zero, List.set_cons_succ])
          refine wpAnyH_ready (rs := [1, 6]) (by kernel_rfl) (by simp) ?_
          refine AllReadyH.cons (o := { dst := some 32, op := Go.Op.load 34 (Go.Operand.tmp 31), type := 34, pos := "typed.go:132", after := #[{ on := 0, ground := Go.Ground.data }], guard := none }) rfl (fun K hK => ?_) (AllReadyH.cons (o := { dst := some 37, op := Go.Op.buildSlice 34 1 #[(0, Go.Operand.tmp 36)], type := 34, pos := "typed.go:132", after := #[{ on := 5, ground := Go.Ground.data }], guard := none }) rfl (fun K hK => ?_) AllReadyH.nil)
          · go_simp
            refine hK.out _ _ (And.intro (box2' (HM7.out.1)) (And.intro (dc_cells (HM7.out.2.1)) (bx3 (HM7.out.2.2)))) (fun hHeld => ?_)
            clear hK K
            (try simp only [Act.put, List.setIfInBounds_toArray, List.set_cons_zero, List.set_cons_succ])
            refine wpAnyH_ready (rs := [6]) (by kernel_rfl) (by simp) ?_
            refine AllReadyH.cons (o := { dst := some 37, op := Go.Op.buildSlice 34 1 #[(0, Go.Operand.tmp 36)], type := 34, pos := "typed.go:132", after := #[{ on := 5, ground := Go.Ground.data }], guard := none }) rfl (fun K hK => ?_) AllReadyH.nil
            go_simp
            refine hK.out _ _ (And.intro (box2' (box_on HM7.out.1 (below_new w7 (.cells #[x1, x2, x3] 48)))) (And.intro (dc_cells (box_on HM7.out.2.1 (below_new w7 (.cells #[x1, x2, x3] 48)))) (bx3 (box_on HM7.out.2.2 (below_new w7 (.cells #[x1, x2, x3] 48)))))) (fun hHeld => ?_)
            clear hK K
            (try simp only [Act.put, List.setIfInBounds_toArray, List.set_cons_zero, List.set_cons_succ])
            refine wpAnyH_ready (rs := [7]) (by kernel_rfl) (by simp) ?_
            refine AllReadyH.cons (o := { dst := some 38, op := Go.Op.call { callee := Go.Callee.builtin Go.Builtin.append, args := #[Go.Operand.tmp 32, Go.Operand.tmp 37], argTypes := #[34, 34] }, type := 34, pos := "typed.go:132", after := #[{ on := 1, ground := Go.Ground.data }, { on := 6, ground := Go.Ground.data }, { on := 5, ground := Go.Ground.chain }], guard := none }) rfl (fun K hK => ?_) AllReadyH.nil
            (refine step_append_lies _ rfl _ _ 34 rfl (w.heap.size + 4) 48 i0 _ 3 56 Tryz.underlying34 hi0 hz0 hz1 hz2 rfl (by decide) v' L.length zs (by simp [Act.eval, Act.put]) HG8.out.own ⟨w7.heap.size, 0, none⟩ 1 1 [x1, x2, x3] (by simp [Act.eval, Act.put]) rfl (World.news_of_block (heap_alloc_new _ _)) (sAt.oneO _ _ ho7) (by decide) (by unfold maxLen; omega) (by omega) (by simp; omega) w7.heap.size.succ (by simp) ?_; intro g8 cap8 w8 hown8 hg8 hat8 hlt8; have hX8 := Lib.hid (box_far (box_on HX7.out (below_new w7 (.cells #[x1, x2, x3] 48))) hg8 HG8.out.own (Nat.lt_succ_self (w.heap.size + 3))); have f8 : w8.frozen? ⟨w.heap.size + 3, 0, none⟩ = false := (by simp [World.frozen?, hX8.out]); have c8 := bx1 hX8.out; have HM8 := Lib.hid (And.intro (box_far (box_on HM7.out.1 (below_new w7 (.cells #[x1, x2, x3] 48))) hg8 HG8.out.own (show w.heap.size < w.heap.size + 4 by omega)) (And.intro (box_new (box_on HM7.out.2.1 (below_new w7 (.cells #[x1, x2, x3] 48))) hg8 fun q hq => Nat.lt_of_lt_of_le (HGO.out.lt q hq) (by omega)) (box_new (box_on HM7.out.2.2 (below_new w7 (.cells #[x1, x2, x3] 48))) hg8 fun q hq => HGO.out.lt q hq))))
            refine hK.out _ _ (And.intro (box2' (HM8.out.1)) (And.intro (dc_cells (HM8.out.2.1)) (bx3 (HM8.out.2.2)))) (fun hHeld => ?_)
            clear hK K
            (try simp only [Act.put, List.setIfInBounds_toArray, List.set_cons_zero, List.set_cons_succ])
            refine wpAnyH_take (i := 8) (oi := { dst := some 39, op := Go.Op.fieldAddr 36 (Go.Operand.tmp 7) 0, type := 0, pos := "typed.go:132", after := #[{ on := 0, ground := Go.Ground.phase }, { on := 1, ground := Go.Ground.phase }, { on := 2, ground := Go.Ground.phase }, { on := 3, ground := Go.Ground.phase }, { on := 4, ground := Go.Ground.phase }, { on := 5, ground := Go.Ground.phase }, { on := 6, ground := Go.Ground.phase }, { on := 7, ground := Go.Ground.phase }], guard := none }) (v := ?_) rfl (by kernel_rfl) (by kernel_rfl) (by kernel_rfl) (fun _ _ _ h => h) (Or.inl ⟨by rfl, ?_⟩) hHeld ?_
            rotate_left
            · intro w hSw
              (try dsimp only at hSw)
              go_simp
              all_goals with_reducible rfl
            (try simp only [Act.put, List.setIfInBounds_toArray, List.set_cons_zero, List.set_cons_succ])
            refine wpAnyH_ready (rs := [9]) (by kernel_rfl) (by simp) ?_
            refine AllReadyH.cons (o := { dst := none, op := Go.Op.store 34 (Go.Operand.tmp 39) (Go.Operand.tmp 38), type := 0, pos := "typed.go:132", after := #[{ on := 8, ground := Go.Ground.data }, { on := 7, ground := Go.Ground.data }, { on := 7, ground := Go.Ground.chain }, { on := 0, ground := Go.Ground.phase }, { on := 1, ground := Go.Ground.phase }, { on := 2, ground := Go.Ground.phase }, { on := 3, ground := Go.Ground.phase }, { on := 4, ground := Go.Ground.phase }, { on := 5, ground := Go.Ground.phase }, { on := 6, ground := Go.Ground.phase }, { on := 7, ground := Go.Ground.phase }], guard := none }) rfl (fun K hK => ?_) AllReadyH.nil
            go_simp
            refine hK.out _ _ (And.intro (box2' (box_set (g := w.heap.size + 3) (j := 0) HM8.out.1 (by omega) _)) (And.intro (dc_cells (box_set (g := w.heap.size + 3) (j := 0) HM8.out.2.1 (by omega) _)) (bx3 (box_set (g := w.heap.size + 3) (j := 0) HM8.out.2.2 (by omega) _)))) (fun hHeld => ?_)
            clear hK K
            (try simp only [Act.put, List.setIfInBounds_toArray, List.set_cons_zero, List.set_cons_succ])
            refine wpAnyH_done (by kernel_rfl) ?_ _
            obtain ⟨Z1, Z2⟩ := cell1 hX8.out (.slice (some ⟨g8, 0, none⟩) (L.length + 1) cap8)
            have hnew := (Grow.app (mono_s D) HG8.out (a := norS (norB s d) f a) (b' := w3.heap.size) (by omega) (fun k hk => HGX.out.lt k hk) (mono_s D (Ow.hi (hi_below _ (below_new w7 (.cells #[x1, x2, x3] 48)))) _ _ ho7) hown8 hg8 (hat8.imp id fun h => by rw [h]; simp)).box (mono_s D) Z2 (Nat.lt_succ_self (w.heap.size + 3))
            have hw7 : w.heap.size + 4 ≤ w7.heap.size := Nat.le_trans hw3 hs7
            have hbz : Below (w.heap.size + 3) wr _ := ((HL3.out.mono (by omega)).trans ((hb7d.out.mono (by omega)).trans ((below_new w7 (.cells #[x1, x2, x3] 48)).mono (by omega)))).trans ((below_row hg8 HG8.out.own (Nat.le_succ _) (by simp; omega)).trans (below_own Z2 (Nat.le_refl _) (by have := hg8.size; simp at this; omega)))
            go_wp2
            refine ⟨⟨k + 1, _, zs ++ [x1, x2, x3], by go_num, by omega, Z1, ?_, HB1.out.1.trans hbz, by have h1 := hbz.size; have h2 := hg8.size; simp at h1 h2 ⊢; omega⟩, by simp [intOf]; omega⟩
            rw [HON.out, HO1.out, if_pos (by trivial)]
            exact hnew
          · go_simp
            refine hK.out _ _ (And.intro (box2' (box_on HM7.out.1 (below_new w7 (.cells #[x1, x2, x3] 48)))) (And.intro (dc_cells (box_on HM7.out.2.1 (below_new w7 (.cells #[x1, x2, x3] 48)))) (bx3 (box_on HM7.out.2.2 (below_new w7 (.cells #[x1, x2, x3] 48)))))) (fun hHeld => ?_)
            clear hK K
            (try simp only [Act.put, List.setIfInBounds_toArray, List.set_cons_zero, List.set_cons_succ])
            refine wpAnyH_ready (rs := [1]) (by kernel_rfl) (by simp) ?_
            refine AllReadyH.cons (o := { dst := some 32, op := Go.Op.load 34 (Go.Operand.tmp 31), type := 34, pos := "typed.go:132", after := #[{ on := 0, ground := Go.Ground.data }], guard := none }) rfl (fun K hK => ?_) AllReadyH.nil
            go_simp
            refine hK.out _ _ (And.intro (box2' (box_on HM7.out.1 (below_new w7 (.cells #[x1, x2, x3] 48)))) (And.intro (dc_cells (box_on HM7.out.2.1 (below_new w7 (.cells #[x1, x2, x3] 48)))) (bx3 (box_on HM7.out.2.2 (below_new w7 (.cells #[x1, x2, x3] 48)))))) (fun hHeld => ?_)
            clear hK K
            (try simp only [Act.put, List.setIfInBounds_toArray, List.set_cons_zero, List.set_cons_succ])
            refine wpAnyH_ready (rs := [7]) (by kernel_rfl) (by simp) ?_
            refine AllReadyH.cons (o := { dst := some 38, op := Go.Op.call { callee := Go.Callee.builtin Go.Builtin.append, args := #[Go.Operand.tmp 32, Go.Operand.tmp 37], argTypes := #[34, 34] }, type := 34, pos := "typed.go:132", after := #[{ on := 1, ground := Go.Ground.data }, { on := 6, ground := Go.Ground.data }, { on := 5, ground := Go.Ground.chain }], guard := none }) rfl (fun K hK => ?_) AllReadyH.nil
            (refine step_append_lies _ rfl _ _ 34 rfl (w.heap.size + 4) 48 i0 _ 3 56 Tryz.underlying34 hi0 hz0 hz1 hz2 rfl (by decide) v' L.length zs (by simp [Act.eval, Act.put]) HG8.out.own ⟨w7.heap.size, 0, none⟩ 1 1 [x1, x2, x3] (by simp [Act.eval, Act.put]) rfl (World.news_of_block (heap_alloc_new _ _)) (sAt.oneO _ _ ho7) (by decide) (by unfold maxLen; omega) (by omega) (by simp; omega) w7.heap.size.succ (by simp) ?_; intro g8 cap8 w8 hown8 hg8 hat8 hlt8; have hX8 := Lib.hid (box_far (box_on HX7.out (below_new w7 (.cells #[x1, x2, x3] 48))) hg8 HG8.out.own (Nat.lt_succ_self (w.heap.size + 3))); have f8 : w8.frozen? ⟨w.heap.size + 3, 0, none⟩ = false := (by simp [World.frozen?, hX8.out]); have c8 := bx1 hX8.out; have HM8 := Lib.hid (And.intro (box_far (box_on HM7.out.1 (below_new w7 (.cells #[x1, x2, x3] 48))) hg8 HG8.out.own (show w.heap.size < w.heap.size + 4 by omega)) (And.intro (box_new (box_on HM7.out.2.1 (below_new w7 (.cells #[x1, x2, x3] 48))) hg8 fun q hq => Nat.lt_of_lt_of_le (HGO.out.lt q hq) (by omega)) (box_new (box_on HM7.out.2.2 (below_new w7 (.cells #[x1, x2, x3] 48))) hg8 fun q hq => HGO.out.lt q hq))))
            refine hK.out _ _ (And.intro (box2' (HM8.out.1)) (And.intro (dc_cells (HM8.out.2.1)) (bx3 (HM8.out.2.2)))) (fun hHeld => ?_)
            clear hK K
            (try simp only [Act.put, List.setIfInBounds_toArray, List.set_cons_zero, List.set_cons_succ])
            refine wpAnyH_take (i := 8) (oi := { dst := some 39, op := Go.Op.fieldAddr 36 (Go.Operand.tmp 7) 0, type := 0, pos := "typed.go:132", after := #[{ on := 0, ground := Go.Ground.phase }, { on := 1, ground := Go.Ground.phase }, { on := 2, ground := Go.Ground.phase }, { on := 3, ground := Go.Ground.phase }, { on := 4, ground := Go.Ground.phase }, { on := 5, ground := Go.Ground.phase }, { on := 6, ground := Go.Ground.phase }, { on := 7, ground := Go.Ground.phase }], guard := none }) (v := ?_) rfl (by kernel_rfl) (by kernel_rfl) (by kernel_rfl) (fun _ _ _ h => h) (Or.inl ⟨by rfl, ?_⟩) hHeld ?_
            rotate_left
            · intro w hSw
              (try dsimp only at hSw)
              go_simp
              all_goals with_reducible rfl
            (try simp only [Act.put, List.setIfInBounds_toArray, List.set_cons_zero, List.set_cons_succ])
            refine wpAnyH_ready (rs := [9]) (by kernel_rfl) (by simp) ?_
            refine AllReadyH.cons (o := { dst := none, op := Go.Op.store 34 (Go.Operand.tmp 39) (Go.Operand.tmp 38), type := 0, pos := "typed.go:132", after := #[{ on := 8, ground := Go.Ground.data }, { on := 7, ground := Go.Ground.data }, { on := 7, ground := Go.Ground.chain }, { on := 0, ground := Go.Ground.phase }, { on := 1, ground := Go.Ground.phase }, { on := 2, ground := Go.Ground.phase }, { on := 3, ground := Go.Ground.phase }, { on := 4, ground := Go.Ground.phase }, { on := 5, ground := Go.Ground.phase }, { on := 6, ground := Go.Ground.phase }, { on := 7, ground := Go.Ground.phase }], guard := none }) rfl (fun K hK => ?_) AllReadyH.nil
            go_simp
            refine hK.out _ _ (And.intro (box2' (box_set (g := w.heap.size + 3) (j := 0) HM8.out.1 (by omega) _)) (And.intro (dc_cells (box_set (g := w.heap.size + 3) (j := 0) HM8.out.2.1 (by omega) _)) (bx3 (box_set (g := w.heap.size + 3) (j := 0) HM8.out.2.2 (by omega) _)))) (fun hHeld => ?_)
            clear hK K
            (try simp only [Act.put, List.setIfInBounds_toArray, List.set_cons_zero, List.set_cons_succ])
            refine wpAnyH_done (by kernel_rfl) ?_ _
            obtain ⟨Z1, Z2⟩ := cell1 hX8.out (.slice (some ⟨g8, 0, none⟩) (L.length + 1) cap8)
            have hnew := (Grow.app (mono_s D) HG8.out (a := norS (norB s d) f a) (b' := w3.heap.size) (by omega) (fun k hk => HGX.out.lt k hk) (mono_s D (Ow.hi (hi_below _ (below_new w7 (.cells #[x1, x2, x3] 48)))) _ _ ho7) hown8 hg8 (hat8.imp id fun h => by rw [h]; simp)).box (mono_s D) Z2 (Nat.lt_succ_self (w.heap.size + 3))
            have hw7 : w.heap.size + 4 ≤ w7.heap.size := Nat.le_trans hw3 hs7
            have hbz : Below (w.heap.size + 3) wr _ := ((HL3.out.mono (by omega)).trans ((hb7d.out.mono (by omega)).trans ((below_new w7 (.cells #[x1, x2, x3] 48)).mono (by omega)))).trans ((below_row hg8 HG8.out.own (Nat.le_succ _) (by simp; omega)).trans (below_own Z2 (Nat.le_refl _) (by have := hg8.size; simp at this; omega)))
            go_wp2
            refine ⟨⟨k + 1, _, zs ++ [x1, x2, x3], by go_num, by omega, Z1, ?_, HB1.out.1.trans hbz, by have h1 := hbz.size; have h2 := hg8.size; simp at h1 h2 ⊢; omega⟩, by simp [intOf]; omega⟩
            rw [HON.out, HO1.out, if_pos (by trivial)]
            exact hnew
    · obtain rfl : k = x.F.length := by omega
      rw [List.take_length] at hL
      have hd : L.Pairwise fun a b => a.no ≠ b.no := by rw [← hL]; exact told_no HNO.out
      have HSO := Lib.hid (sort_slots D (w.heap.size + 4) v' L zs wr hgx hd (by omega))
      have HG0 := Lib.hid hgx
      have x4 := bx1 hX
      have HL := Lib.hid hL
      have HX := Lib.hid hX
      have HM3 := Lib.hid hm3
      clear hX hgx hm1 hm3 hL hd
      go_wp2_with fail
      refine HSO.out.mono ?_
      rintro e w9 ⟨rfl, ⟨ys, hg9⟩, hlen9, hgr9⟩
      have Y3 := box_far HM3.out hgr9 HG0.out.own (show w.heap.size + 2 < w.heap.size + 4 by omega)
      have Y4 := box_far HX.out hgr9 HG0.out.own (show w.heap.size + 3 < w.heap.size + 4 by omega)
      obtain ⟨Av, cv, rfl, -⟩ := Sl.of_own hg9.own
      have y4 := bx1 Y4
      have y3 := bx1 Y3
      have ff : w9.frozen? ⟨w.heap.size + 2, 0, none⟩ = false := by simp [World.frozen?, Y3]
      obtain ⟨Z1, Z2⟩ := cell1 Y3 (.slice Av (srt ltNo L).length cv)
      have hs9 := hgr9.size
      have HLEN := Lib.hid hlen9
      clear x4 hlen9
      go_wp2
      refine bodyPost_ret (results_cell_row rfl _ _ (w.heap.size + 2) _ _ (0, 0) _ rfl Z1 Tryz.underlying36 rfl sz_msg) rfl ?_
      have h1 := (hg9.box (mono_s D) Z2 (show w.heap.size + 2 < w.heap.size + 4 by omega)).less (mono_s D) (show b ≤ w.heap.size + 4 by omega)
      have e : norB s (d + 1) m x = .mk (srt ltNo L) := by
        show Mg.mk (srt ltNo (x.F.filterMap (norO (byS s m) (norB s d)))) = _
        rw [HL.out]
      rw [e]
      exact ⟨_, rfl, ⟨_, rfl, h1.ow (mono_s D) (show (srt ltNo L).length ≤ _ by rw [HLEN.out]; omega)⟩, (hbw.trans (below_row hgr9 HG0.out.own (by omega) (by omega))).trans (below_own Z2 (by omega) (by omega))⟩
/-- normal, of any message of its message. -/
theorem norm_any {s : Sc} (hin : ScIn s) (B : Nat) : ∀ (D d : Nat), NormH s B D (isB s d) (norB s d)
  | 0, _ => fun _ _ _ _ _ _ _ _ h => h.elim
  | _ + 1, 0 => fun _ _ _ _ _ _ _ _ _ _ _ h => by cases h
  | D + 1, d + 1 => norm_step hin (norm_any hin B D d)
end Go.Proofs.YtipaangiehdgkaaGreatDoor.T9
/-
  Is a file, or a schema, not too great: the contracts.
-/
namespace Go.Proofs.YtipaangiehdgkaaGreatDoor
set_option maxRecDepth 100000

open Go.RowKit

def fewM (m : Ms) : Bool := decide (m.F.length ≤ 40) && decide (m.ones.length ≤ 40) && decide (m.res.length ≤ 40)
def fewE (e : En) : Bool := decide (e.V.length ≤ 40)
end Go.Proofs.YtipaangiehdgkaaGreatDoor
/-
  Is a schema not too great: the contract of the document's own.
-/
namespace Go.Proofs.YtipaangiehdgkaaGreatDoor
set_option maxRecDepth 100000

open Go.RowKit

end Go.Proofs.YtipaangiehdgkaaGreatDoor
/-
  What writes a value: the closures of package encode, and all values one behind the other.
-/
namespace Go.Proofs.YtipaangiehdgkaaGreatDoor.T12
set_option maxRecDepth 100000

open Go.RowKit

open Go.Proofs.YtipaangiehdgkaaGreatDoor.T9 Go.Proofs.YtipaangiehdgkaaGreatDoor.T4

/-- A closure that writes a value. -/
def ClosW (B D : Nat) (w : World) (c : Value) (g : Vl' → List UInt8) (P : Vl' → Prop) : Prop := ∃ (fn : FuncId) (caps : Array Value), c = .func (.func fn) #[] caps ∧ (∀ args w, (callFunc fn args).run Tryz.prog w = .ok (.enter fn args) w) ∧
  ∀ (a : Vl') (u : Value) (wr : World), Below w.heap.size w wr → VAt (Rd B wr) D a [.int .i64 a.n, .string (tx a.s), u] → P a → Calls Tryz.prog fn (#[.agg #[.int .i64 a.n, .string (tx a.s), u]] ++ caps) wr fun e w' => ∃ v, e = .returned v ∧ By wr.heap.size w' (g a) v ∧ Below wr.heap.size wr w'
theorem ClosW.on {B D : Nat} {w w' : World} {c : Value} {g : Vl' → List UInt8} {P : Vl' → Prop} (h : ClosW B D w c g P) (hb : Below w.heap.size w w') : ClosW B D w' c g P := by
  obtain ⟨fn, caps, e, h1, h2⟩ := h
  exact ⟨fn, caps, e, h1, fun a u wr hw => h2 a u wr (below_then hb hw)⟩
end Go.Proofs.YtipaangiehdgkaaGreatDoor.T12
/-
  What writes values of a kind; all values of a list, one behind the other.
-/
namespace Go.Proofs.YtipaangiehdgkaaGreatDoor.T12
set_option maxRecDepth 100000

open Go.RowKit

open Go.Proofs.YtipaangiehdgkaaGreatDoor.T9 Go.Proofs.YtipaangiehdgkaaGreatDoor.T4

end Go.Proofs.YtipaangiehdgkaaGreatDoor.T12
/-
  A map, as bytes: the contract of entries.
-/
namespace Go.Proofs.YtipaangiehdgkaaGreatDoor.T12
set_option maxRecDepth 100000

open Go.RowKit

open Go.Proofs.YtipaangiehdgkaaGreatDoor.T9 Go.Proofs.YtipaangiehdgkaaGreatDoor.T4

end Go.Proofs.YtipaangiehdgkaaGreatDoor.T12
