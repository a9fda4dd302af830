/-
  Whether a message is of one: the contract of isOf, of any message; and of Val and May.
-/
import Derived.Test.YtjmcpfckcajnjaaGreatDoorTyIs
import Derived.Test.YtjmcpfckcajnjaaGreatDoorTyAsk
import Derived.Test.YtjmcpfckcajnjaaGreatDoorTabMath
import Derived.Test.YtjmcpfckcajnjaaGreatDoorTokVars
import Derived.Test.YtjmcpfckcajnjaaGreatDoorTabFld
import Derived.Test.YtjmcpfckcajnjaaGreatDoorTrLaw
namespace Go.Proofs.YtjmcpfckcajnjaaGreatDoor.T9
set_option maxRecDepth 100000
open Go.Proofs.YtjmcpfckcajnjaaGreatDoor.T4
open Go.RowKit Go.Maps

theorem byS_in {s : Sc} (h : ScIn s) {m no : Int} {f : Df} (hf : byS s m no = some f) : DfIn f ∧ 0 ≤ m ∧ m < s.M.length := by
  unfold byS msgAt at hf
  by_cases h0 : m < 0
  · rw [if_pos h0] at hf; simp at hf
  · rw [if_neg h0] at hf
    cases hm : s.M[m.toNat]? with
    | none => rw [hm] at hf; simp at hf
    | some d =>
      rw [hm] at hf
      simp only [Option.bind_some] at hf
      have hlt := (List.getElem?_eq_some_iff.1 hm).1
      exact ⟨(h.M d (List.mem_of_getElem? hm)).F f (List.mem_of_find?_eq_some hf), by omega, by omega⟩
theorem by_found {B : Nat} {s : Sc} {vM vE : Value} {m x : Int} {f : Df} (hf : byS s m x = some f) (w : World) (hB : B ≤ w.heap.size) (hs : SAt B w s vM vE) :
    Calls Tryz.prog 55 #[.agg #[vM, vE], .int .i64 m, .int .i64 x] w fun e w' => e = .returned (.tuple #[.agg #[.int .i64 f.no, .string (txt f.name), .int .i64 f.kind, .int .i64 f.ref, .bool f.rep, .int .i64 f.key, .int .i64 f.one], .bool true]) ∧ Below w.heap.size w w' :=
  (By_any B s vM vE m x w hB hs).mono fun e w' h => ⟨by rw [h.1, hf]; rfl, h.2⟩
theorem by_none {B : Nat} {s : Sc} {vM vE : Value} {m x : Int} (hf : byS s m x = none) (w : World) (hB : B ≤ w.heap.size) (hs : SAt B w s vM vE) :
    Calls Tryz.prog 55 #[.agg #[vM, vE], .int .i64 m, .int .i64 x] w fun e w' => e = .returned (.tuple #[.agg #[.int .i64 0, .string ⟨#[]⟩, .int .i64 0, .int .i64 0, .bool false, .int .i64 0, .int .i64 0], .bool false]) ∧ Below w.heap.size w w' :=
  (By_any B s vM vE m x w hB hs).mono fun e w' h => ⟨by rw [h.1, hf]; rfl, h.2⟩
theorem isOf_zero (s : Sc) : IsH s 0 := by
  intro B D vM vE m x u w hB hs hx hi hc
  have LBD := below_then (below_new w (.cells #[vM, vE] 25)) (below_new (w.alloc (.cells #[vM, vE] 25)) (.cells #[u] 28))
  go_enter Tryz.func34, Tryz.ntmps34
  go_wp2
  go_ret
  exact ⟨rfl, LBD⟩
set_option maxRecDepth 1000000 in
set_option maxHeartbeats 8000000 in
theorem isOf_step {s : Sc} {d : Nat} (hd : d ≤ 1000) (hin : ScIn s) (H : IsH s d) : IsH s (d + 1) := by
  intro B D vM vE m x u w hB hs hx hi hc
  rw [show ((d + 1 : Nat) : Int) = (d : Int) + 1 by omega]
  obtain ⟨A1, q1, rfl⟩ : ∃ A q, vM = .slice A s.M.length q := by
    obtain ⟨xs, ys, ⟨A, q, h, _⟩, _⟩ := hs
    exact ⟨A, q, h⟩
  obtain ⟨A2, q2, rfl⟩ : ∃ A q, vE = .slice A s.E.length q := by
    obtain ⟨xs, ys, _, _, ⟨A, q, h, _⟩, _⟩ := hs
    exact ⟨A, q, h⟩
  cases D with
  | zero => exact hx.elim
  | succ D =>
  obtain ⟨u', hu, hl⟩ := hx
  simp only [List.cons.injEq, and_true] at hu
  subst hu
  obtain ⟨A, c, xs, rfl, hsl, hbl, hr, hn⟩ := hl.open_
  obtain ⟨X1, X2, LBD⟩ := two_boxes w (.cells #[.slice A1 s.M.length q1, .slice A2 s.E.length q2] 25) (.cells #[.slice A x.F.length c] 28)
  have hcf := cnt_F x
  have hd0 : (((d + 1 : Nat) : Int) == 0) = false := by rw [beq_eq_false_iff_ne]; omega
  have hd1 : ((d : Int) + 1 == 0) = false := by rw [beq_eq_false_iff_ne]; omega
  have HIS : Hid (isB s (d + 1) m x = (decide (0 ≤ m ∧ m < s.M.length) && slotsG (byS s m) (fillG (isB s d)) [] x.F)) := Lib.hid rfl
  by_cases hm0 : m < 0
  · have e1 : decide (m < 0) = true := decide_eq_true hm0
    have HF : Hid (isB s (d + 1) m x = false) := Lib.hid (by rw [HIS.out, decide_eq_false (by omega)]; rfl)
    clear hm0
    go_enter Tryz.func34, Tryz.ntmps34
    go_wp2
    go_ret
    exact ⟨by rw [HF.out]; rfl, LBD⟩
  by_cases hm1 : (s.M.length : Int) ≤ m
  · have e0 : decide (m < 0) = false := decide_eq_false hm0
    have e1 : decide (m ≥ (s.M.length : Int)) = true := decide_eq_true hm1
    have e2 : decide ((s.M.length : Int) ≤ m) = true := decide_eq_true hm1
    have HF : Hid (isB s (d + 1) m x = false) := Lib.hid (by rw [HIS.out, decide_eq_false (by omega)]; rfl)
    clear hm0 hm1
    go_enter Tryz.func34, Tryz.ntmps34
    go_wp2
    go_ret
    exact ⟨by rw [HF.out]; rfl, LBD⟩
  have e0 : decide (m < 0) = false := decide_eq_false hm0
  have e1 : decide (m ≥ (s.M.length : Int)) = false := decide_eq_false hm1
  have e2 : decide ((s.M.length : Int) ≤ m) = false := decide_eq_false hm1
  have HF : Hid (isB s (d + 1) m x = slotsG (byS s m) (fillG (isB s d)) [] x.F) := Lib.hid (by rw [HIS.out, decide_eq_true (by omega)]; rfl)
  have hmm := @run_makeMap Tryz.prog
  have HSL := Lib.hid hsl
  have HR := Lib.hid hr
  have HBB := Lib.hid hbl
  have HSA := Lib.hid hs
  have HII := Lib.hid hi
  have HH := Lib.hid H
  have HN := Lib.hid hin
  clear hm0 hm1 hsl hr hl hbl hs hi H hin HIS
  go_enter Tryz.func34, Tryz.ntmps34
  obtain ⟨x1, x2⟩ := box2' X1
  have x3 := bx1 X2
  go_wp2_with fail
  obtain ⟨W0, hW0⟩ : ∃ W, W = ((w.alloc (.cells #[.slice A1 s.M.length q1, .slice A2 s.E.length q2] 25)).alloc (.cells #[.slice A x.F.length c] 28)) := ⟨_, rfl⟩
  have hsz0 : W0.heap.size = w.heap.size + 2 := by rw [hW0]; simp
  have HC0 : Claims (W0.alloc (.map #[] 0)) (w.heap.size + 2) 0 [] := hsz0 ▸ Claims.made W0
  rw [← hW0] at X1 X2 LBD ⊢
  have hBW : Below (w.heap.size + 2) W0 (W0.alloc (.map #[] 0)) := hsz0 ▸ below_new W0 _
  clear hW0 x1 x2 x3 hmm
  go_loopw [31] (fun i wr => ∃ (k : Nat) (cl : List (Int × Int)), i = .int .i64 k ∧ k ≤ x.F.length ∧ Claims wr (w.heap.size + 2) (2 * k) cl ∧ slotsG (byS s m) (fillG (isB s d)) cl (x.F.drop k) = slotsG (byS s m) (fillG (isB s d)) [] x.F ∧ Below (w.heap.size + 2) W0 wr) (fun i _ => x.F.length - (intOf i).toNat)
  case atStart => exact ⟨0, [], rfl, by omega, HC0, rfl, hBW⟩
  case round =>
    obtain ⟨k, cl, rfl, hk, hcl, hsg, hbw⟩ := hrel
    have HBW := Lib.hid (LBD.trans (hbw.mono (by omega)))
    have HSG := Lib.hid hsg
    clear hsg
    by_cases hlt : k < x.F.length
    · obtain ⟨a, ha⟩ : ∃ a, x.F[k]? = some a := ⟨_, List.getElem?_eq_getElem hlt⟩
      obtain ⟨ad, x0, y0, z0, rfl, hg, hca, c0, c1, c2⟩ := row3 sAt.len (sl_low HSL.out HBB.out (Lo.below HBW.out hB)) (HR.out.imp fun a cs h => SRd.low (Lo.below HBW.out hB) h) ha
      obtain ⟨B1, d1, B2, d2, rfl, rfl, rfl⟩ := slot_shape hca
      have hmem := List.mem_of_getElem? ha
      have hcs := cS_le hmem
      have hdc := drop_cons ha
      rw [hdc, slotsG_cons] at HSG
      -- the worlds
      have N1 := below_new wr (.cells #[.int .i64 a.no, .slice B1 a.K.length d1, .slice B2 a.V.length d2] 36)
      have Y1 := box_on ((hbw.block _ (show w.heap.size < w.heap.size + 2 by omega)).trans X1) N1
      have hb1 := below_then HBW.out N1
      have hBr : B ≤ wr.heap.size := Nat.le_trans hB HBW.out.size
      have Z1 := heap_alloc_new wr (.cells #[.int .i64 a.no, .slice B1 a.K.length d1, .slice B2 a.V.length d2] 36)
      have hc1 := Free.alloc hcl (.cells #[.int .i64 a.no, .slice B1 a.K.length d1, .slice B2 a.V.length d2] 36)
      obtain ⟨W1, hW1⟩ : ∃ W, W = wr.alloc (.cells #[.int .i64 a.no, .slice B1 a.K.length d1, .slice B2 a.V.length d2] 36) := ⟨_, rfl⟩
      have hs1 : SAt B W1 s (.slice A1 s.M.length q1) (.slice A2 s.E.length q2) := hW1 ▸ SAt.lo HSA.out hb1 hB
      have hB1 : B ≤ W1.heap.size := by rw [hW1]; exact Nat.le_trans hBr N1.size
      obtain ⟨y1, y2⟩ := box2' Y1
      obtain ⟨s0, s1, s2⟩ := bx3 Z1
      have hm1 := (bx1 (box_on ((hbw.block _ (show w.heap.size + 1 < w.heap.size + 2 by omega)).trans X2) N1))
      have HCA := Lib.hid hca
      have HA := Lib.hid ha
      cases hby : byS s m a.no with
      | none =>
        rw [hby] at HSG
        have HBY := Lib.hid (by_none hby W1 hB1 hs1)
        clear ha hca hcl hbw hs1 hc1 hby hdc
        go_wp2_with fail
        rw [← hW1]
        have hN1 : Below wr.heap.size wr W1 := hW1 ▸ N1
        clear hW1 y1 y2 s0 s1 s2 hm1 Y1 Z1 N1 hb1
        refine HBY.out.mono ?_
        rintro e w2 ⟨rfl, hb2⟩
        go_wp2
        go_ret
        exact ⟨by rw [HF.out, ← HSG.out]; rfl, below_lit (below_then (below_then HBW.out hN1) hb2) _⟩
      | some f =>
        rw [hby] at HSG
        obtain ⟨hfi, -, -⟩ := byS_in HN.out hby
        have HBY := Lib.hid (by_found hby W1 hB1 hs1)
        have HSI := HII.out.slot hmem
        obtain ⟨b1, hb1'⟩ : ∃ b, claimB cl f = b := ⟨_, rfl⟩
        obtain ⟨b2, hb2'⟩ : ∃ b, fillG (isB s d) f a = b := ⟨_, rfl⟩
        have HSG2 : Hid ((b1 && (b2 && slotsG (byS s m) (fillG (isB s d)) (claimsOf f ++ cl) (x.F.drop (k + 1)))) = slotsG (byS s m) (fillG (isB s d)) [] x.F) := Lib.hid (by rw [← hb1', ← hb2']; exact HSG.out)
        have hN1 : Below wr.heap.size wr W1 := hW1 ▸ N1
        have hY1 := hW1 ▸ Y1
        have hZ1 := hW1 ▸ Z1
        have hC1 : Claims W1 (w.heap.size + 2) (2 * k) cl := hW1 ▸ hc1
        have hlt2 := Free.lt hcl
        clear ha hca hcl hs1 hc1 hby hdc HSG
        go_wp2_with fail
        rw [← hW1]
        have hw1s : W1.heap.size = wr.heap.size + 1 := by rw [hW1]; simp
        clear hW1 y1 y2 s0 s1 s2 hm1 Y1 Z1 N1 hb1
        refine HBY.out.mono ?_
        rintro e w2 ⟨rfl, hb2⟩
        have N2 := below_new w2 (dC f)
        have X3 := heap_alloc_new w2 (dC f)
        have hs2 : W1.heap.size ≤ w2.heap.size := hb2.size
        have Y2 := box_on hY1 (below_then hb2 N2)
        have Z2 := box_on hZ1 (below_then hb2 N2)
        have hC2 := Free.alloc (Free.on hC1 hb2) (dC f)
        have HCL := Lib.hid (claims_any (w.heap.size + 2) (2 * k) cl f hfi (w2.alloc (dC f)) hC2 (by omega))
        rw [hb1'] at HCL
        have hAw : Below w.heap.size wr (w2.alloc (dC f)) := (hN1.mono HBW.out.size).trans ((hb2.mono (Nat.le_trans HBW.out.size hN1.size)).trans (N2.mono (Nat.le_trans HBW.out.size (Nat.le_trans hN1.size hs2))))
        have hAx : Below (w.heap.size + 2) wr (w2.alloc (dC f)) := (hN1.mono (Nat.le_of_lt hlt2)).trans ((hb2.mono (by omega)).trans (N2.mono (by omega)))
        have HDN := Lib.hid (fun (w3 : World) (hg3 : (w2.alloc (dC f)).grownBy w3 (some (w.heap.size + 2))) => And.intro (hAw.grown hg3 (by have := HBW.out.size; simp; omega) (fun j hj => by injection hj with hj; omega)) (hAx.grown hg3 (by simp; omega) (fun j hj => by injection hj with hj; omega)))
        have HBX := Lib.hid (fun (w3 : World) (hg3 : (w2.alloc (dC f)).grownBy w3 (some (w.heap.size + 2))) => And.intro (box_kept Y2 hg3 (by omega)) (And.intro (box_kept Z2 hg3 (by omega)) (box_kept X3 hg3 (by omega))))
        have g3 := heap_cell X3
        have f0 := g3 0
        have f1 := g3 1
        have f2 := g3 2
        have f3 := g3 3
        have f4 := g3 4
        have f5 := g3 5
        have f6 := g3 6
        simp at f0 f1 f2 f3 f4 f5 f6
        clear hC1 hC2 hY1 hZ1 Y2 Z2 X3 N2 g3 hN1 hb1'
        cases b1 with
        | false =>
          go_wp2_with fail
          refine HCL.out.mono ?_
          rintro e w3 ⟨rfl, -, hg3⟩
          go_wp2
          go_ret
          exact ⟨by rw [HF.out, ← HSG2.out]; rfl, HBW.out.trans (HDN.out _ hg3).1⟩
        | true =>
          go_wp2_with fail
          refine HCL.out.mono ?_
          rintro e w3 ⟨rfl, hc3, hg3⟩
          have hc3 := hc3 (by trivial)
          obtain ⟨hd3, hdx⟩ := HDN.out _ hg3
          obtain ⟨Y3, Z3, X4⟩ := HBX.out _ hg3
          have hw3 : Below w.heap.size w w3 := HBW.out.trans hd3
          have hB3 : B ≤ w3.heap.size := Nat.le_trans hB hw3.size
          have HFL := Lib.hid (fills_any HH.out B D A1 A2 q1 q2 f a B1 B2 d1 d2 w3 hB3 (SAt.lo HSA.out hw3 hB) (SRd.low (Lo.of (hd3.mono hB)) HCA.out) HSI (by omega))
          rw [hb2'] at HFL
          obtain ⟨y1, y2⟩ := box2' Y3
          obtain ⟨s0, s1, s2⟩ := bx3 Z3
          have g4 := heap_cell X4
          have k0 := g4 0
          have k1 := g4 1
          have k2 := g4 2
          have k3 := g4 3
          have k4 := g4 4
          have k5 := g4 5
          have k6 := g4 6
          simp at k0 k1 k2 k3 k4 k5 k6
          have HDX := Lib.hid hdx
          have HBWW := Lib.hid hbw
          clear f0 f1 f2 f3 f4 f5 f6 hb2' Y3 Z3 X4 g4 hd3 hdx hbw
          cases b2 with
          | false =>
            go_wp2_with fail
            refine HFL.out.mono ?_
            rintro e w4 ⟨rfl, hb4⟩
            go_wp2
            go_ret
            exact ⟨by rw [HF.out, ← HSG2.out]; rfl, below_then hw3 hb4⟩
          | true =>
            go_wp2_with fail
            refine HFL.out.mono ?_
            rintro e w4 ⟨rfl, hb4⟩
            have hc4 := Free.on hc3 hb4
            go_wp2
            refine ⟨⟨k + 1, claimsOf f ++ cl, by go_num, by omega, by rw [show 2 * (k + 1) = 2 * k + 2 by omega]; exact hc4, by rw [← HSG2.out]; simp, HBWW.out.trans (HDX.out.trans (hb4.mono (by have := HDX.out.size; omega)))⟩, by simp [intOf]; omega⟩
    · obtain rfl : k = x.F.length := by omega
      have HE := HSG.out
      rw [List.drop_length] at HE
      go_wp2
      go_ret
      exact ⟨by rw [HF.out, ← HE]; rfl, HBW.out⟩
/-- isOf, of any message, at most so deep. -/
theorem isOf_any {s : Sc} (hin : ScIn s) : ∀ d, d ≤ 1000 → IsH s d
  | 0, _ => isOf_zero s
  | d + 1, h => isOf_step (by omega) hin (isOf_any hin d (by omega))
end Go.Proofs.YtjmcpfckcajnjaaGreatDoor.T9
/-
  May a message be, and a value: the contracts of Val and May.
-/
namespace Go.Proofs.YtjmcpfckcajnjaaGreatDoor.T9
set_option maxRecDepth 100000
open Go.Proofs.YtjmcpfckcajnjaaGreatDoor.T4
open Go.RowKit Go.Maps

theorem may_b (B : Nat) (s : Sc) (vM vE : Value) (w : World) (hB : B ≤ w.heap.size) (hs : SAt B w s vM vE) (hin : ScIn s) (T : Tabs w) :
    Calls Tryz.prog 33 #[.agg #[vM, vE]] w fun e w' => e = .returned (.bool (@decide (ScMay s) (Classical.propDecidable _))) ∧ Below w.heap.size w w' :=
  (may_any B s vM vE w hB hs hin T).mono fun e w' ⟨b, h1, h2, h3⟩ => ⟨by
    rw [h1]
    refine congrArg (fun b => Ending.returned (Value.bool b)) ?_
    rw [Bool.eq_iff_iff, h2]
    exact (@decide_eq_true_iff _ (Classical.propDecidable _)).symm, h3⟩
theorem sat_shape {B : Nat} {w : World} {s : Sc} {vM vE : Value} (hs : SAt B w s vM vE) : ∃ A1 q1 A2 q2, vM = .slice A1 s.M.length q1 ∧ vE = .slice A2 s.E.length q2 := by
  obtain ⟨xs, ys, ⟨A1, q1, h1, _⟩, _, ⟨A2, q2, h2, _⟩, _⟩ := hs
  exact ⟨A1, q1, A2, q2, h1, h2⟩
set_option maxRecDepth 1000000 in
set_option maxHeartbeats 4000000 in
theorem tmay_any {s : Sc} (hin : ScIn s) (B D : Nat) (vM vE : Value) (m : Int) (x : Mg) (u : Value) (w : World) (hB : B ≤ w.heap.size) (hs : SAt B w s vM vE) (hx : MRd B w D x u) (hi : MIn x) (hc : x.cnt ≤ 100000) (T : Tabs w) :
    Calls Tryz.prog 15 #[.agg #[vM, vE], .int .i64 m, .agg #[u]] w fun e w' => e = .returned (.bool (mayT s m x)) ∧ Below w.heap.size w w' := by
  obtain ⟨X1, X2, LBD⟩ := two_boxes w (.cells #[vM, vE] 25) (.cells #[u] 28)
  have hb1 := may_b B s vM vE _ (Nat.le_trans hB LBD.size) (SAt.lo hs LBD hB) hin (T.on LBD)
  obtain ⟨A1, q1, A2, q2, rfl, rfl⟩ := sat_shape hs
  obtain ⟨A, c, rfl⟩ := rd_shape hx
  have HI := Lib.hid (fun wx (h : Below w.heap.size w wx) => isOf_any hin 64 (by omega) B D _ _ m x _ wx (Nat.le_trans hB h.size) (SAt.lo hs h hB) (MRd.low (Lo.below h hB) hx) hi hc)
  have HT : Hid (mayT s m x = (@decide (ScMay s) (Classical.propDecidable _) && isB s 64 m x)) := Lib.hid rfl
  obtain ⟨d, hd⟩ : ∃ d, @decide (ScMay s) (Classical.propDecidable _) = d := ⟨_, rfl⟩
  rw [hd] at hb1 HT
  have HB1 := Lib.hid hb1
  clear hb1 hd hs hx hi T
  cases d with
  | false =>
    obtain ⟨x1, x2⟩ := box2' X1
    go_enter Tryz.func15, Tryz.ntmps15
    go_wp2_with (go_at_call 33; refine HB1.out.mono ?_; rintro e w1 ⟨rfl, hb1⟩)
    go_ret
    exact ⟨by rw [HT.out]; rfl, below_then LBD hb1⟩
  | true =>
    obtain ⟨x1, x2⟩ := box2' X1
    go_enter Tryz.func15, Tryz.ntmps15
    go_wp2_with fail
    refine HB1.out.mono ?_
    rintro e w1 ⟨rfl, hb1⟩
    obtain ⟨z1, z2⟩ := box2' (box_on X1 hb1)
    have z3 := bx1 (box_on X2 hb1)
    have HC := Lib.hid (HI.out _ (below_then LBD hb1))
    have HL := Lib.hid (below_then LBD hb1)
    clear x1 x2 X1 X2 hb1 HI
    go_wp2_with fail
    refine HC.out.mono ?_
    rintro e w2 ⟨rfl, hb2⟩
    go_wp2
    go_ret
    exact ⟨by rw [HT.out]; simp, below_then HL.out hb2⟩
set_option maxRecDepth 1000000 in
set_option maxHeartbeats 4000000 in
theorem tval_any {s : Sc} (hin : ScIn s) (B D : Nat) (vM vE : Value) (kind r : Int) (v : Vl') (u : Value) (w : World) (hB : B ≤ w.heap.size) (hs : SAt B w s vM vE) (hv : VAt (Rd B w) D v [.int .i64 v.n, .string (tx v.s), u]) (hi : VIn v) (hc : cV v ≤ 100000) (T : Tabs w) :
    Calls Tryz.prog 19 #[.agg #[vM, vE], .int .i64 kind, .int .i64 r, .agg #[.int .i64 v.n, .string (tx v.s), u]] w fun e w' => e = .returned (.bool (valT s kind r v)) ∧ Below w.heap.size w w' := by
  obtain ⟨X1, X2, LBD⟩ := two_boxes w (.cells #[vM, vE] 25) (.cells #[.int .i64 v.n, .string (tx v.s), u] 31)
  obtain ⟨W2, hW2⟩ : ∃ W, W = (w.alloc (.cells #[vM, vE] 25)).alloc (.cells #[.int .i64 v.n, .string (tx v.s), u] 31) := ⟨_, rfl⟩
  obtain ⟨A1, q1, A2, q2, rfl, rfl⟩ := sat_shape hs
  obtain ⟨A, c, -, -, rfl⟩ := val_shape hv
  rw [← hW2] at X1 X2 LBD
  have hBW : B ≤ W2.heap.size := Nat.le_trans hB LBD.size
  have hD : Below W2.heap.size W2 W2.drew := (Below.refl _ _).drew
  have HB1 := Lib.hid (may_b B s _ _ W2.drew hBW (SAt.lo (SAt.lo hs LBD hB) hD hBW) hin ((T.on LBD).on hD))
  have HA := Lib.hid (fun wx (h : Below W2.heap.size W2 wx) => asks_any (isOf_any hin 63 (by omega)) B D kind r _ _ wx (Nat.le_trans hBW h.size) (SAt.lo (SAt.lo hs LBD hB) h hBW))
  have HV := Lib.hid (fun wx (h : Below W2.heap.size W2 wx) => (VRd.low (Lo.below h hBW) (VRd.low (Lo.below LBD hB) hv) : VAt (Rd B wx) D v _))
  have HT : Hid (valT s kind r v = (@decide (ScMay s) (Classical.propDecidable _) && askG (isB s 63) kind r v)) := Lib.hid rfl
  have HSX : Hid (∀ wx, Below W2.heap.size W2 wx → (wx.cell? ⟨w.heap.size, 0, none⟩ = some (.slice A1 s.M.length q1) ∧ wx.cell? ⟨w.heap.size, 1, none⟩ = some (.slice A2 s.E.length q2)) ∧ (wx.cell? ⟨w.heap.size + 1, 0, none⟩ = some (.int .i64 v.n) ∧ wx.cell? ⟨w.heap.size + 1, 1, none⟩ = some (.string (tx v.s)) ∧ wx.cell? ⟨w.heap.size + 1, 2, none⟩ = some (.slice A v.M.length c))) := Lib.hid (fun wx h => ⟨box2' (box_on X1 h), bx3 (box_on X2 h)⟩)
  obtain ⟨d, hd⟩ : ∃ d, @decide (ScMay s) (Classical.propDecidable _) = d := ⟨_, rfl⟩
  rw [hd] at HB1 HT
  have HL := Lib.hid LBD
  clear hd hs hv T X1 X2 LBD
  cases d with
  | false =>
    go_enter Tryz.func19, Tryz.ntmps19
    go_wp2_with fail
    rw [← hW2]
    clear hW2
    refine wp_region_held_drew (S := (fun w' => (w'.cell? ⟨w.heap.size, 0, none⟩ = some (.slice A1 s.M.length q1) ∧ w'.cell? ⟨w.heap.size, 1, none⟩ = some (.slice A2 s.E.length q2)) ∧ (w'.cell? ⟨w.heap.size + 1, 0, none⟩ = some (.int .i64 v.n) ∧ w'.cell? ⟨w.heap.size + 1, 1, none⟩ = some (.string (tx v.s)) ∧ w'.cell? ⟨w.heap.size + 1, 2, none⟩ = some (.slice A v.M.length c)))) (by kernel_rfl) (HSX.out _ hD) (fun hHeld => ?_)
    refine wpAnyH_take (i := 0) (oi := { dst := some 9, op := Go.Op.load 25 (Go.Operand.tmp 4), type := 25, pos := "typed.go:29", after := #[], guard := none }) (v := ?_) rfl (by kernel_rfl) (by kernel_rfl) (by kernel_rfl) (fun _ _ _ h => h) (Or.inl ⟨by rfl, ?_⟩) hHeld ?_
    rotate_left
    · intro w hSw
      (try dsimp only at hSw)
      go_simp
      all_goals with_reducible rfl
    (try simp only [Act.put, List.setIfInBounds_toArray, List.set_cons_zero, List.set_cons_succ])
    refine wpAnyH_ready (rs := [1]) (by kernel_rfl) (by simp) ?_
    refine AllReadyH.cons (o := { dst := some 10, op := Go.Op.call { callee := Go.Callee.value (Go.Operand.func 33), args := #[Go.Operand.tmp 9], argTypes := #[25] }, type := 4, pos := "typed.go:29", after := #[{ on := 0, ground := Go.Ground.data }], guard := none }) rfl (fun K hK => ?_) AllReadyH.nil
    go_simp
    (go_at_call 33; refine HB1.out.mono ?_; rintro e w1 ⟨rfl, hb1⟩; have L1 := hD.trans hb1)
    go_wp2_with fail
    refine hK.out _ _ (HSX.out _ L1) (fun hHeld => ?_)
    clear hK K
    (try simp only [Act.put, List.setIfInBounds_toArray, List.set_cons_zero, List.set_cons_succ])
    refine wpAnyH_take (i := 2) (oi := { dst := some 11, op := Go.Op.move (Go.Operand.tmp 10), type := 4, pos := "typed.go:29", after := #[{ on := 1, ground := Go.Ground.data }, { on := 1, ground := Go.Ground.chain }], guard := none }) (v := ?_) rfl (by kernel_rfl) (by kernel_rfl) (by kernel_rfl) (fun _ _ _ h => h) (Or.inl ⟨by rfl, ?_⟩) hHeld ?_
    rotate_left
    · intro w hSw
      (try dsimp only at hSw)
      go_simp
      all_goals with_reducible rfl
    (try simp only [Act.put, List.setIfInBounds_toArray, List.set_cons_zero, List.set_cons_succ])
    refine wpAnyH_take (i := 3) (oi := { dst := some 12, op := Go.Op.load 25 (Go.Operand.tmp 4), type := 25, pos := "typed.go:29", after := #[{ on := 2, ground := Go.Ground.guard }], guard := some (2, true) }) (v := undef) rfl (by kernel_rfl) (by kernel_rfl) (by kernel_rfl) (fun _ _ _ h => h) (Or.inr ⟨by rfl, rfl⟩) hHeld ?_
    (try simp only [Act.put, List.setIfInBounds_toArray, List.set_cons_zero, List.set_cons_succ])
    refine wpAnyH_take (i := 4) (oi := { dst := some 13, op := Go.Op.move (Go.Operand.tmp 1), type := 3, pos := "typed.go:29", after := #[{ on := 2, ground := Go.Ground.guard }], guard := some (2, true) }) (v := undef) rfl (by kernel_rfl) (by kernel_rfl) (by kernel_rfl) (fun _ _ _ h => h) (Or.inr ⟨by rfl, rfl⟩) hHeld ?_
    (try simp only [Act.put, List.setIfInBounds_toArray, List.set_cons_zero, List.set_cons_succ])
    refine wpAnyH_take (i := 5) (oi := { dst := some 14, op := Go.Op.move (Go.Operand.tmp 2), type := 3, pos := "typed.go:29", after := #[{ on := 2, ground := Go.Ground.guard }], guard := some (2, true) }) (v := undef) rfl (by kernel_rfl) (by kernel_rfl) (by kernel_rfl) (fun _ _ _ h => h) (Or.inr ⟨by rfl, rfl⟩) hHeld ?_
    (try simp only [Act.put, List.setIfInBounds_toArray, List.set_cons_zero, List.set_cons_succ])
    refine wpAnyH_take (i := 6) (oi := { dst := some 15, op := Go.Op.call { callee := Go.Callee.value (Go.Operand.func 39), args := #[Go.Operand.tmp 12, Go.Operand.tmp 13, Go.Operand.tmp 14, Go.Operand.const (Go.Value.int Go.IntKind.i64 63)], argTypes := #[25, 3, 3, 3] }, type := 64, pos := "typed.go:29", after := #[{ on := 3, ground := Go.Ground.data }, { on := 4, ground := Go.Ground.data }, { on := 5, ground := Go.Ground.data }, { on := 2, ground := Go.Ground.chain }, { on := 2, ground := Go.Ground.guard }], guard := some (2, true) }) (v := undef) rfl (by kernel_rfl) (by kernel_rfl) (by kernel_rfl) (fun _ _ _ h => h) (Or.inr ⟨by rfl, rfl⟩) hHeld ?_
    (try simp only [Act.put, List.setIfInBounds_toArray, List.set_cons_zero, List.set_cons_succ])
    refine wpAnyH_take (i := 7) (oi := { dst := some 16, op := Go.Op.load 31 (Go.Operand.tmp 7), type := 31, pos := "typed.go:29", after := #[{ on := 2, ground := Go.Ground.guard }], guard := some (2, true) }) (v := undef) rfl (by kernel_rfl) (by kernel_rfl) (by kernel_rfl) (fun _ _ _ h => h) (Or.inr ⟨by rfl, rfl⟩) hHeld ?_
    (try simp only [Act.put, List.setIfInBounds_toArray, List.set_cons_zero, List.set_cons_succ])
    refine wpAnyH_take (i := 8) (oi := { dst := some 17, op := Go.Op.call { callee := Go.Callee.value (Go.Operand.tmp 15), args := #[Go.Operand.tmp 16], argTypes := #[31] }, type := 4, pos := "typed.go:29", after := #[{ on := 6, ground := Go.Ground.data }, { on := 7, ground := Go.Ground.data }, { on := 6, ground := Go.Ground.chain }, { on := 2, ground := Go.Ground.guard }], guard := some (2, true) }) (v := undef) rfl (by kernel_rfl) (by kernel_rfl) (by kernel_rfl) (fun _ _ _ h => h) (Or.inr ⟨by rfl, rfl⟩) hHeld ?_
    (try simp only [Act.put, List.setIfInBounds_toArray, List.set_cons_zero, List.set_cons_succ])
    refine wpAnyH_take (i := 9) (oi := { dst := some 18, op := Go.Op.pick (Go.Operand.tmp 11) (Go.Operand.tmp 17) (Go.Operand.const (Go.Value.bool false)), type := 4, pos := "typed.go:29", after := #[{ on := 2, ground := Go.Ground.data }, { on := 8, ground := Go.Ground.data }], guard := none }) (v := ?_) rfl (by kernel_rfl) (by kernel_rfl) (by kernel_rfl) (fun _ _ _ h => h) (Or.inl ⟨by rfl, ?_⟩) hHeld ?_
    rotate_left
    · intro w hSw
      (try dsimp only at hSw)
      go_simp
      all_goals with_reducible rfl
    (try simp only [Act.put, List.setIfInBounds_toArray, List.set_cons_zero, List.set_cons_succ])
    refine wpAnyH_take (i := 10) (oi := { dst := some 8, op := Go.Op.assign (Go.Operand.tmp 18), type := 4, pos := "typed.go:29", after := #[{ on := 9, ground := Go.Ground.data }, { on := 8, ground := Go.Ground.chain }, { on := 0, ground := Go.Ground.phase }, { on := 1, ground := Go.Ground.phase }, { on := 2, ground := Go.Ground.phase }, { on := 3, ground := Go.Ground.phase }, { on := 4, ground := Go.Ground.phase }, { on := 5, ground := Go.Ground.phase }, { on := 6, ground := Go.Ground.phase }, { on := 7, ground := Go.Ground.phase }, { on := 8, ground := Go.Ground.phase }, { on := 9, ground := Go.Ground.phase }], guard := none }) (v := ?_) rfl (by kernel_rfl) (by kernel_rfl) (by kernel_rfl) (fun _ _ _ h => h) (Or.inl ⟨by rfl, ?_⟩) hHeld ?_
    rotate_left
    · intro w hSw
      (try dsimp only at hSw)
      go_simp
      all_goals with_reducible rfl
    (try simp only [Act.put, List.setIfInBounds_toArray, List.set_cons_zero, List.set_cons_succ])
    refine wpAnyH_done (by kernel_rfl) ?_ _
    go_wp2
    go_ret
    exact ⟨by rw [HT.out]; (first | rfl | simp), HL.out.trans (L1.mono HL.out.size)⟩
  | true =>
    go_enter Tryz.func19, Tryz.ntmps19
    go_wp2_with fail
    rw [← hW2]
    clear hW2
    refine wp_region_held_drew (S := (fun w' => (w'.cell? ⟨w.heap.size, 0, none⟩ = some (.slice A1 s.M.length q1) ∧ w'.cell? ⟨w.heap.size, 1, none⟩ = some (.slice A2 s.E.length q2)) ∧ (w'.cell? ⟨w.heap.size + 1, 0, none⟩ = some (.int .i64 v.n) ∧ w'.cell? ⟨w.heap.size + 1, 1, none⟩ = some (.string (tx v.s)) ∧ w'.cell? ⟨w.heap.size + 1, 2, none⟩ = some (.slice A v.M.length c)))) (by kernel_rfl) (HSX.out _ hD) (fun hHeld => ?_)
    refine wpAnyH_take (i := 0) (oi := { dst := some 9, op := Go.Op.load 25 (Go.Operand.tmp 4), type := 25, pos := "typed.go:29", after := #[], guard := none }) (v := ?_) rfl (by kernel_rfl) (by kernel_rfl) (by kernel_rfl) (fun _ _ _ h => h) (Or.inl ⟨by rfl, ?_⟩) hHeld ?_
    rotate_left
    · intro w hSw
      (try dsimp only at hSw)
      go_simp
      all_goals with_reducible rfl
    (try simp only [Act.put, List.setIfInBounds_toArray, List.set_cons_zero, List.set_cons_succ])
    refine wpAnyH_ready (rs := [1]) (by kernel_rfl) (by simp) ?_
    refine AllReadyH.cons (o := { dst := some 10, op := Go.Op.call { callee := Go.Callee.value (Go.Operand.func 33), args := #[Go.Operand.tmp 9], argTypes := #[25] }, type := 4, pos := "typed.go:29", after := #[{ on := 0, ground := Go.Ground.data }], guard := none }) rfl (fun K hK => ?_) AllReadyH.nil
    go_simp
    (go_at_call 33; refine HB1.out.mono ?_; rintro e w1 ⟨rfl, hb1⟩; have L1 := hD.trans hb1)
    go_wp2_with fail
    refine hK.out _ _ (HSX.out _ L1) (fun hHeld => ?_)
    clear hK K
    (try simp only [Act.put, List.setIfInBounds_toArray, List.set_cons_zero, List.set_cons_succ])
    refine wpAnyH_take (i := 2) (oi := { dst := some 11, op := Go.Op.move (Go.Operand.tmp 10), type := 4, pos := "typed.go:29", after := #[{ on := 1, ground := Go.Ground.data }, { on := 1, ground := Go.Ground.chain }], guard := none }) (v := ?_) rfl (by kernel_rfl) (by kernel_rfl) (by kernel_rfl) (fun _ _ _ h => h) (Or.inl ⟨by rfl, ?_⟩) hHeld ?_
    rotate_left
    · intro w hSw
      (try dsimp only at hSw)
      go_simp
      all_goals with_reducible rfl
    (try simp only [Act.put, List.setIfInBounds_toArray, List.set_cons_zero, List.set_cons_succ])
    refine wpAnyH_take (i := 3) (oi := { dst := some 12, op := Go.Op.load 25 (Go.Operand.tmp 4), type := 25, pos := "typed.go:29", after := #[{ on := 2, ground := Go.Ground.guard }], guard := some (2, true) }) (v := ?_) rfl (by kernel_rfl) (by kernel_rfl) (by kernel_rfl) (fun _ _ _ h => h) (Or.inl ⟨by rfl, ?_⟩) hHeld ?_
    rotate_left
    · intro w hSw
      (try dsimp only at hSw)
      go_simp
      all_goals with_reducible rfl
    (try simp only [Act.put, List.setIfInBounds_toArray, List.set_cons_zero, List.set_cons_succ])
    refine wpAnyH_take (i := 4) (oi := { dst := some 13, op := Go.Op.move (Go.Operand.tmp 1), type := 3, pos := "typed.go:29", after := #[{ on := 2, ground := Go.Ground.guard }], guard := some (2, true) }) (v := ?_) rfl (by kernel_rfl) (by kernel_rfl) (by kernel_rfl) (fun _ _ _ h => h) (Or.inl ⟨by rfl, ?_⟩) hHeld ?_
    rotate_left
    · intro w hSw
      (try dsimp only at hSw)
      go_simp
      all_goals with_reducible rfl
    (try simp only [Act.put, List.setIfInBounds_toArray, List.set_cons_zero, List.set_cons_succ])
    refine wpAnyH_take (i := 5) (oi := { dst := some 14, op := Go.Op.move (Go.Operand.tmp 2), type := 3, pos := "typed.go:29", after := #[{ on := 2, ground := Go.Ground.guard }], guard := some (2, true) }) (v := ?_) rfl (by kernel_rfl) (by kernel_rfl) (by kernel_rfl) (fun _ _ _ h => h) (Or.inl ⟨by rfl, ?_⟩) hHeld ?_
    rotate_left
    · intro w hSw
      (try dsimp only at hSw)
      go_simp
      all_goals with_reducible rfl
    (try simp only [Act.put, List.setIfInBounds_toArray, List.set_cons_zero, List.set_cons_succ])
    refine wpAnyH_take (i := 7) (oi := { dst := some 16, op := Go.Op.load 31 (Go.Operand.tmp 7), type := 31, pos := "typed.go:29", after := #[{ on := 2, ground := Go.Ground.guard }], guard := some (2, true) }) (v := ?_) rfl (by kernel_rfl) (by kernel_rfl) (by kernel_rfl) (fun _ _ _ h => h) (Or.inl ⟨by rfl, ?_⟩) hHeld ?_
    rotate_left
    · intro w hSw
      (try dsimp only at hSw)
      go_simp
      all_goals with_reducible rfl
    (try simp only [Act.put, List.setIfInBounds_toArray, List.set_cons_zero, List.set_cons_succ])
    refine wpAnyH_ready (rs := [6]) (by kernel_rfl) (by simp) ?_
    refine AllReadyH.cons (o := { dst := some 15, op := Go.Op.call { callee := Go.Callee.value (Go.Operand.func 39), args := #[Go.Operand.tmp 12, Go.Operand.tmp 13, Go.Operand.tmp 14, Go.Operand.const (Go.Value.int Go.IntKind.i64 63)], argTypes := #[25, 3, 3, 3] }, type := 64, pos := "typed.go:29", after := #[{ on := 3, ground := Go.Ground.data }, { on := 4, ground := Go.Ground.data }, { on := 5, ground := Go.Ground.data }, { on := 2, ground := Go.Ground.chain }, { on := 2, ground := Go.Ground.guard }], guard := some (2, true) }) rfl (fun K hK => ?_) AllReadyH.nil
    go_simp
    (go_at_call 39; refine (HA.out _ L1).mono ?_; rintro e w2 ⟨c2, rfl, hc2, hb2⟩; have L2 := below_then L1 hb2; obtain ⟨fn, caps, rfl, hent, hcl⟩ := hc2; have HCL := Lib.hid (hcl v _ _ (Below.refl _ _) (HV.out _ L2) hi hc); clear hcl)
    go_wp2_with fail
    refine hK.out _ _ (HSX.out _ L2) (fun hHeld => ?_)
    clear hK K
    (try simp only [Act.put, List.setIfInBounds_toArray, List.set_cons_zero, List.set_cons_succ])
    refine wpAnyH_ready (rs := [8]) (by kernel_rfl) (by simp) ?_
    refine AllReadyH.cons (o := { dst := some 17, op := Go.Op.call { callee := Go.Callee.value (Go.Operand.tmp 15), args := #[Go.Operand.tmp 16], argTypes := #[31] }, type := 4, pos := "typed.go:29", after := #[{ on := 6, ground := Go.Ground.data }, { on := 7, ground := Go.Ground.data }, { on := 6, ground := Go.Ground.chain }, { on := 2, ground := Go.Ground.guard }], guard := some (2, true) }) rfl (fun K hK => ?_) AllReadyH.nil
    go_simp
    (refine HCL.out.mono ?_; rintro e w3 ⟨rfl, hb3⟩; have L3 := below_then L2 hb3)
    go_wp2_with fail
    refine hK.out _ _ (HSX.out _ L3) (fun hHeld => ?_)
    clear hK K
    (try simp only [Act.put, List.setIfInBounds_toArray, List.set_cons_zero, List.set_cons_succ])
    refine wpAnyH_take (i := 9) (oi := { dst := some 18, op := Go.Op.pick (Go.Operand.tmp 11) (Go.Operand.tmp 17) (Go.Operand.const (Go.Value.bool false)), type := 4, pos := "typed.go:29", after := #[{ on := 2, ground := Go.Ground.data }, { on := 8, ground := Go.Ground.data }], guard := none }) (v := ?_) rfl (by kernel_rfl) (by kernel_rfl) (by kernel_rfl) (fun _ _ _ h => h) (Or.inl ⟨by rfl, ?_⟩) hHeld ?_
    rotate_left
    · intro w hSw
      (try dsimp only at hSw)
      go_simp
      all_goals with_reducible rfl
    (try simp only [Act.put, List.setIfInBounds_toArray, List.set_cons_zero, List.set_cons_succ])
    refine wpAnyH_take (i := 10) (oi := { dst := some 8, op := Go.Op.assign (Go.Operand.tmp 18), type := 4, pos := "typed.go:29", after := #[{ on := 9, ground := Go.Ground.data }, { on := 8, ground := Go.Ground.chain }, { on := 0, ground := Go.Ground.phase }, { on := 1, ground := Go.Ground.phase }, { on := 2, ground := Go.Ground.phase }, { on := 3, ground := Go.Ground.phase }, { on := 4, ground := Go.Ground.phase }, { on := 5, ground := Go.Ground.phase }, { on := 6, ground := Go.Ground.phase }, { on := 7, ground := Go.Ground.phase }, { on := 8, ground := Go.Ground.phase }, { on := 9, ground := Go.Ground.phase }], guard := none }) (v := ?_) rfl (by kernel_rfl) (by kernel_rfl) (by kernel_rfl) (fun _ _ _ h => h) (Or.inl ⟨by rfl, ?_⟩) hHeld ?_
    rotate_left
    · intro w hSw
      (try dsimp only at hSw)
      go_simp
      all_goals with_reducible rfl
    (try simp only [Act.put, List.setIfInBounds_toArray, List.set_cons_zero, List.set_cons_succ])
    refine wpAnyH_done (by kernel_rfl) ?_ _
    go_wp2
    go_ret
    exact ⟨by rw [HT.out]; (first | rfl | simp), HL.out.trans (L3.mono HL.out.size)⟩
end Go.Proofs.YtjmcpfckcajnjaaGreatDoor.T9
/-
  Normal, and Is, of a message without anything that is told: their contracts, as the statements' first call asks for them.
-/
namespace Go.Proofs.YtjmcpfckcajnjaaGreatDoor.T9
set_option maxRecDepth 100000
open Go.Proofs.YtjmcpfckcajnjaaGreatDoor.T4
open Go.RowKit Go.Maps

def defB (v : Vl') : Bool := (v.n == 0) && (v.s.isEmpty && v.M.isEmpty)
def toldB (f : Df) (l : List Vl') : Bool := match l with
  | [] => false
  | v :: _ => f.rep || (f.key != -1 || (f.one != 0 || (f.kind == 9 || !defB v)))
set_option maxRecDepth 1000000 in
set_option maxHeartbeats 2000000 in
theorem isDefault_any (v : Vl') (A : Option Addr) (c : Nat) (w : World) :
    Calls Tryz.prog 101 #[.agg #[.int .i64 v.n, .string (tx v.s), .slice A v.M.length c]] w fun e w' => e = .returned (.bool (defB v)) ∧ Below w.heap.size w w' := by
  have LBD := below_new w (.cells #[.int .i64 v.n, .string (tx v.s), .slice A v.M.length c] 31)
  have HB : Hid (defB v = ((v.n == 0) && ((tx v.s).toList.isEmpty && ((v.M.length : Int) == 0)))) := Lib.hid (by unfold defB; rw [emp_str v.s, emp_len v.M])
  obtain ⟨d1, hd1⟩ : ∃ d, (v.n == 0) = d := ⟨_, rfl⟩
  obtain ⟨d2, hd2⟩ : ∃ d, (tx v.s).toList.isEmpty = d := ⟨_, rfl⟩
  obtain ⟨d3, hd3⟩ : ∃ d, ((v.M.length : Int) == 0) = d := ⟨_, rfl⟩
  rw [hd1, hd2, hd3] at HB
  cases d1 <;> cases d2 <;> cases d3
  all_goals
    go_enter Tryz.func101, Tryz.ntmps101
    go_wp2
    go_ret
    exact ⟨by rw [HB.out]; rfl, LBD⟩
set_option maxRecDepth 1000000 in
set_option maxHeartbeats 4000000 in
theorem isTold_any (B D : Nat) (f : Df) (l : List Vl') (u : Value) (w : World) (hB : B ≤ w.heap.size) (hl : LsAt (Rd B w) 31 3 (VAt (Rd B w) D) l u) :
    Calls Tryz.prog 56 #[.agg #[.int .i64 f.no, .string (txt f.name), .int .i64 f.kind, .int .i64 f.ref, .bool f.rep, .int .i64 f.key, .int .i64 f.one], u] w fun e w' => e = .returned (.bool (toldB f l)) ∧ Below w.heap.size w w' := by
  obtain ⟨A, c, xs, rfl, hs, hb, hr, hn⟩ := hl.open_
  have LBD := below_new w (dC f)
  have X1 := heap_alloc_new w (dC f)
  cases l with
  | nil =>
    go_enter Tryz.func56, Tryz.ntmps56
    go_wp2
    go_ret
    exact ⟨rfl, LBD⟩
  | cons v l =>
    have hlo : Lo B w (w.alloc (dC f)) := Lo.below LBD hB
    obtain ⟨ad, x, y, z, rfl, hg, hca, c0, c1, c2⟩ := row3 (k := 0) vAt.len (sl_low hs hb hlo) (hr.imp fun a cs h => VRd.low hlo h) (show (v :: l)[0]? = some v from rfl)
    rw [Nat.zero_mul, add_nothing] at c0 c1 c2
    obtain ⟨AM, cM, rfl, rfl, rfl⟩ := val_shape hca
    have HM := Lib.hid (fun wx => isMap_any f wx)
    have HDF := Lib.hid (fun wx => isDefault_any v AM cM wx)
    have HB : Hid (toldB f (v :: l) = (f.rep || (f.key != -1 || (f.one != 0 || (f.kind == 9 || !defB v))))) := Lib.hid rfl
    obtain ⟨n, hN⟩ : ∃ n, n = (v :: l).length := ⟨_, rfl⟩
    have hnz : ((n : Int) == 0) = false := by rw [hN, beq_eq_false_iff_ne]; simp; omega
    rw [← hN]
    have hX : (w.alloc (dC f)).cell? ⟨w.heap.size, 4, none⟩ = some (.bool f.rep) := by first | simp | exact heap_cell X1 4
    have HX6 : Hid (∀ w1, Below (w.alloc (dC f)).heap.size (w.alloc (dC f)) w1 → w1.cell? ⟨w.heap.size, 6, none⟩ = some (.int .i64 f.one) ∧ w1.cell? ⟨w.heap.size, 2, none⟩ = some (.int .i64 f.kind)) := Lib.hid (fun w1 h => by
      have h6 := heap_cell (box_on X1 h) 6
      have h2 := heap_cell (box_on X1 h) 2
      simp at h6 h2
      exact ⟨h6, h2⟩)
    obtain ⟨d1, hd1⟩ : ∃ d, f.rep = d := ⟨_, rfl⟩
    obtain ⟨d2, hd2⟩ : ∃ d, (f.key != -1) = d := ⟨_, rfl⟩
    obtain ⟨d3, hd3⟩ : ∃ d, (f.one != 0) = d := ⟨_, rfl⟩
    obtain ⟨d4, hd4⟩ : ∃ d, (f.kind == 9) = d := ⟨_, rfl⟩
    obtain ⟨d5, hd5⟩ : ∃ d, defB v = d := ⟨_, rfl⟩
    rw [hd1, hd2, hd3, hd4, hd5] at HB
    rw [hd2, hd1] at HM
    rw [hd5] at HDF
    rw [hd1] at hX
    have HC := Lib.hid (And.intro c0 (And.intro c1 c2))
    clear hs hb hr hl hn hca hN hd2 hd5 hlo hd1
    have hlt : (0 : Int) < n := by rw [beq_eq_false_iff_ne] at hnz; omega
    have hlt2 : 0 < n := by omega
    cases d1 with
    | true =>
      go_enter Tryz.func56, Tryz.ntmps56
      go_wp2
      go_ret
      exact ⟨by rw [HB.out]; rfl, LBD⟩
    | false =>
      cases d2 with
      | true =>
        go_enter Tryz.func56, Tryz.ntmps56
        go_wp2_with (go_at_call 100; refine (HM.out _).mono ?_; rintro e w1 ⟨rfl, hb1⟩)
        go_ret
        exact ⟨by rw [HB.out]; rfl, below_then LBD hb1⟩
      | false =>
        cases d3 <;> cases d4 <;> cases d5
        all_goals
          go_enter Tryz.func56, Tryz.ntmps56
          go_wp2_with (first
            | (go_at_call 100; refine (HM.out _).mono ?_; rintro e w1 ⟨rfl, hb1⟩; obtain ⟨e6, e2⟩ := HX6.out _ hb1; have k0 := cell_on hb1 HC.out.1; have k1 := cell_on hb1 HC.out.2.1; have k2 := cell_on hb1 HC.out.2.2)
            | (go_at_call 101; refine (HDF.out _).mono ?_; rintro e w2 ⟨rfl, hb2⟩; have L2 := below_then hb1 hb2)
            | fail)
          go_ret
          exact ⟨by rw [HB.out]; rfl, by first | exact LBD.trans (L2.mono LBD.size) | exact below_then LBD hb1⟩
set_option maxRecDepth 1000000 in
set_option maxHeartbeats 4000000 in
theorem normal_none {s : Sc} (B D : Nat) (vM vE : Value) (m : Int) (x : Mg) (u : Value) (w : World) (hB : B ≤ w.heap.size) (hs : SAt B w s vM vE) (hx : MRd B w D x u) (hno : ∀ a ∈ x.F, ∃ f, byS s m a.no = some f ∧ toldB f a.V = false) :
    Calls Tryz.prog 30 #[.agg #[vM, vE], .int .i64 m, .agg #[u]] w fun e w' => e = .returned (.agg #[.slice none 0 0]) ∧ Below w.heap.size w w' := by
  cases D with
  | zero => exact hx.elim
  | succ D =>
  obtain ⟨A1, q1, A2, q2, rfl, rfl⟩ := sat_shape hs
  obtain ⟨u', hu, hl⟩ := hx
  simp only [List.cons.injEq, and_true] at hu
  subst hu
  obtain ⟨A, c, xs, rfl, hsl, hbl, hr, hn⟩ := hl.open_
  obtain ⟨X1, X2, X3, X4, LBD⟩ := four_new w (.cells #[.slice A1 s.M.length q1, .slice A2 s.E.length q2] 25) (.cells #[.slice A x.F.length c] 28) (.cells #[.slice none 0 0] 28) (.cells #[.slice none 0 0] 28)
  obtain ⟨W0, hW0⟩ : ∃ W, W = (((w.alloc (.cells #[.slice A1 s.M.length q1, .slice A2 s.E.length q2] 25)).alloc (.cells #[.slice A x.F.length c] 28)).alloc (.cells #[.slice none 0 0] 28)).alloc (.cells #[.slice none 0 0] 28) := ⟨_, rfl⟩
  have HSL := Lib.hid hsl
  have HR := Lib.hid hr
  have HBB := Lib.hid hbl
  have HSA := Lib.hid hs
  have HNO := Lib.hid hno
  have x3 := bx1 X2
  clear hsl hr hl hbl hs hno
  go_enter Tryz.func30, Tryz.ntmps30
  go_wp2
  rw [← hW0] at X1 X2 X3 X4 LBD ⊢
  have h4 : w.heap.size + 4 ≤ W0.heap.size := box_lt X4
  clear hW0 x3
  go_loopw [15] (fun i wr => ∃ k : Nat, i = .int .i64 k ∧ k ≤ x.F.length ∧ Below W0.heap.size W0 wr) (fun i _ => x.F.length - (intOf i).toNat)
  case atStart => exact ⟨0, rfl, by omega, Below.refl _ _⟩
  case round =>
    obtain ⟨k, rfl, hk, hbw⟩ := hrel
    have HBW := Lib.hid (LBD.trans (hbw.mono LBD.size))
    by_cases hlt : k < x.F.length
    · obtain ⟨a, ha⟩ : ∃ a, x.F[k]? = some a := ⟨_, List.getElem?_eq_getElem hlt⟩
      obtain ⟨ad, x0, y0, z0, rfl, hg, hca, c0, c1, c2⟩ := row3 sAt.len (sl_low HSL.out HBB.out (Lo.below HBW.out hB)) (HR.out.imp fun a cs h => SRd.low (Lo.below HBW.out hB) h) ha
      obtain ⟨B1, d1, B2, d2, rfl, rfl, rfl⟩ := slot_shape hca
      obtain ⟨f, hf, hto⟩ := HNO.out a (List.mem_of_getElem? ha)
      have N1 := below_new wr (.cells #[.int .i64 a.no, .slice B1 a.K.length d1, .slice B2 a.V.length d2] 36)
      have Z1 := heap_alloc_new wr (.cells #[.int .i64 a.no, .slice B1 a.K.length d1, .slice B2 a.V.length d2] 36)
      have hb1 := below_then HBW.out N1
      have HBY := Lib.hid (by_found hf _ (Nat.le_trans hB hb1.size) (SAt.lo HSA.out hb1 hB))
      obtain ⟨y1, y2⟩ := box2' (box_on (box_on X1 hbw) N1)
      obtain ⟨s0, s1, s2⟩ := bx3 Z1
      have HCA := Lib.hid hca
      have HBX := Lib.hid (And.intro hbw (And.intro N1 Z1))
      clear ha hca hbw N1 Z1 hb1 hf
      go_wp2_with fail
      refine HBY.out.mono ?_
      rintro e w2 ⟨rfl, hb2⟩
      have N2 := below_new w2 (dC f)
      have hb12 := HBX.out.2.1.trans ((below_then hb2 N2).mono HBX.out.2.1.size)
      obtain ⟨t0, t1, t2⟩ := bx3 (box_on HBX.out.2.2 (below_then hb2 N2))
      obtain ⟨u3, u4, hu, -, hV⟩ := HCA.out
      simp only [List.cons.injEq, and_true, true_and] at hu
      obtain ⟨-, rfl⟩ := hu
      have hlo : Lo B wr (w2.alloc (dC f)) := Lo.below hb12 (Nat.le_trans hB HBW.out.size)
      have HTO := Lib.hid (isTold_any B D f a.V _ (w2.alloc (dC f)) (Nat.le_trans hB (Nat.le_trans HBW.out.size hb12.size)) (hV.low hlo fun a cs h => VRd.low hlo h))
      rw [hto] at HTO
      have g3 := heap_cell (heap_alloc_new w2 (dC f))
      have f0 := g3 0
      have f1 := g3 1
      have f2 := g3 2
      have f3 := g3 3
      have f4 := g3 4
      have f5 := g3 5
      have f6 := g3 6
      simp at f0 f1 f2 f3 f4 f5 f6
      have HL := Lib.hid (HBX.out.1.trans (hb12.mono HBX.out.1.size))
      clear y1 y2 s0 s1 s2 hV hto N2 hb12 hb2 g3 hlo
      go_wp2_with fail
      refine HTO.out.mono ?_
      rintro e w3 ⟨rfl, hb3⟩
      go_wp2
      exact ⟨⟨k + 1, by go_num, by omega, below_then HL.out hb3⟩, by simp [intOf]; omega⟩
    · obtain rfl : k = x.F.length := by omega
      have x3 := bx1 (box_on X3 hbw)
      have x4 := bx1 (box_on X4 hbw)
      have Y3 := box_on X3 hbw
      have ff : wr.frozen? ⟨w.heap.size + 2, 0, none⟩ = false := by simp [World.frozen?, Y3]
      have HSF := Lib.hid (Tryz.slices_SortFunc_none_f58 (α := So) none 0 (.func (.func 59) #[] #[]) wr)
      go_wp2_with fail
      refine HSF.out.mono ?_
      rintro e w3 ⟨rfl, rfl⟩
      obtain ⟨Z1, Z2⟩ := cell1 Y3 (.slice none 0 0)
      go_wp2
      refine bodyPost_ret (results_cell_row rfl _ _ (w.heap.size + 2) _ _ (0, 0) _ rfl Z1 Tryz.underlying28 rfl sz_msg) rfl ?_
      exact ⟨rfl, HBW.out.trans (below_own Z2 (by omega) HBW.out.size)⟩
end Go.Proofs.YtjmcpfckcajnjaaGreatDoor.T9
/-
  Normal and Is, as their inner call tells; and the statements' first call.
-/
namespace Go.Proofs.YtjmcpfckcajnjaaGreatDoor.T9
set_option maxRecDepth 100000
open Go.Proofs.YtjmcpfckcajnjaaGreatDoor.T4
open Go.RowKit Go.Maps

theorem three_szd (w : World) (o1 o2 o3 : Obj) : (((w.alloc o1).alloc o2).alloc o3).heap.size = w.heap.size + 3 := by simp
set_option maxRecDepth 1000000 in
set_option maxHeartbeats 4000000 in
/-- Normal. -/
theorem tnormal_of {s : Sc} (hin : ScIn s) (B D : Nat) (vM vE : Value) (m : Int) (x : Mg) (u : Value) (w : World) (hB : B ≤ w.heap.size) (hs : SAt B w s vM vE) (hx : MRd B w D x u) (hi : MIn x) (hc : x.cnt ≤ 100000) (T : Tabs w)
    (Q : Value → World → Prop) (hQ : ∀ v wa wb, Q v wa → wa.grownBy wb (some (w.heap.size + 2)) → Q v wb)
    (HN : mayT s m x = true → ∀ wx, Below w.heap.size w wx → w.heap.size + 3 ≤ wx.heap.size → Calls Tryz.prog 30 #[.agg #[vM, vE], .int .i64 m, .agg #[u]] wx fun e w' => ∃ A n c, e = .returned (.agg #[.slice A n c]) ∧ Q (.slice A n c) w' ∧ Below wx.heap.size wx w') :
    Calls Tryz.prog 12 #[.agg #[vM, vE], .int .i64 m, .agg #[u]] w fun e w' => ∃ A n c, e = .returned (.tuple #[.agg #[.slice A n c], .bool (mayT s m x)]) ∧ (mayT s m x = false → A = none ∧ n = 0 ∧ c = 0) ∧ (mayT s m x = true → Q (.slice A n c) w') ∧ Below w.heap.size w w' := by
  obtain ⟨T1, T2, T3, L3⟩ := three_boxes w (.cells #[vM, vE] 25) (.cells #[u] 28) (.cells #[.slice none 0 0] 28)
  have hsz := three_szd w (.cells #[vM, vE] 25) (.cells #[u] 28) (.cells #[.slice none 0 0] 28)
  obtain ⟨W0, hW0⟩ : ∃ W, W = ((w.alloc (.cells #[vM, vE] 25)).alloc (.cells #[u] 28)).alloc (.cells #[.slice none 0 0] 28) := ⟨_, rfl⟩
  obtain ⟨A1, q1, A2, q2, rfl, rfl⟩ := sat_shape hs
  obtain ⟨A, c, rfl⟩ := rd_shape hx
  rw [← hW0] at T1 T2 T3 L3 hsz
  have hBW : B ≤ W0.heap.size := Nat.le_trans hB L3.size
  have hmay := tmay_any hin B D _ _ m x _ W0 hBW (SAt.lo hs L3 hB) (MRd.low (Lo.below L3 hB) hx) hi hc (T.on L3)
  have HX := Lib.hid (And.intro T1 (And.intro T2 T3))
  have HNN := Lib.hid HN
  have HQ := Lib.hid hQ
  have HL := Lib.hid L3
  have HZ := Lib.hid hsz
  obtain ⟨d, hd⟩ : ∃ d, mayT s m x = d := ⟨_, rfl⟩
  rw [hd] at hmay HNN ⊢
  have HM := Lib.hid hmay
  obtain ⟨x1, x2⟩ := box2' T1
  have x3 := bx1 T2
  clear hs hx hi hc T HN hQ hmay T1 T2 T3 L3 hd hsz
  cases d with
  | false =>
    go_enter Tryz.func12, Tryz.ntmps12
    simp only [hW0] at x1 x2 x3
    go_wp2_with fail
    rw [← hW0]
    clear hW0 x1 x2 x3
    refine HM.out.mono ?_
    rintro e w1 ⟨rfl, hb1⟩
    have Y3 := box_on HX.out.2.2 hb1
    have ff : w1.frozen? ⟨w.heap.size + 2, 0, none⟩ = false := by simp [World.frozen?, Y3]
    have y3 := bx1 Y3
    obtain ⟨Z1, Z2⟩ := cell1 Y3 (.slice none 0 0)
    have hlt := box_lt Y3
    go_wp2
    refine bodyPost_ret (results_pair rfl _ _ (w.heap.size + 2) _ _ (0, 0) _ rfl Z1 Tryz.underlying28 rfl sz_msg) rfl ?_
    exact ⟨none, 0, 0, rfl, fun _ => ⟨rfl, rfl, rfl⟩, fun h => by simp at h, (below_then HL.out hb1).trans (below_own Z2 (by omega) (by omega))⟩
  | true =>
    go_enter Tryz.func12, Tryz.ntmps12
    simp only [hW0] at x1 x2 x3
    go_wp2_with fail
    rw [← hW0]
    clear hW0 x1 x2 x3
    refine HM.out.mono ?_
    rintro e w1 ⟨rfl, hb1⟩
    obtain ⟨z1, z2⟩ := box2' (box_on HX.out.1 hb1)
    have z3 := bx1 (box_on HX.out.2.1 hb1)
    have Y3 := box_on HX.out.2.2 hb1
    have hb01 := below_then HL.out hb1
    have HC := Lib.hid (HNN.out (by trivial) w1 hb01 (box_lt Y3))
    clear HNN HM
    go_wp2_with fail
    refine HC.out.mono ?_
    rintro e w2 ⟨A9, n9, c9, rfl, hq, hb2⟩
    have Y4 := box_on Y3 hb2
    have ff : w2.frozen? ⟨w.heap.size + 2, 0, none⟩ = false := by simp [World.frozen?, Y4]
    have y3 := bx1 Y4
    obtain ⟨Z1, Z2⟩ := cell1 Y4 (.slice A9 n9 c9)
    have hlt := box_lt Y4
    have HQQ := Lib.hid (HQ.out _ _ _ hq Z2)
    clear Y3 hq
    go_wp2
    refine bodyPost_ret (results_pair rfl _ _ (w.heap.size + 2) _ _ (0, 0) _ rfl Z1 Tryz.underlying28 rfl sz_msg) rfl ?_
    exact ⟨A9, n9, c9, rfl, fun h => by simp at h, fun _ => HQQ.out, (below_then hb01 hb2).trans (below_own Z2 (by omega) (by omega))⟩
set_option maxRecDepth 1000000 in
set_option maxHeartbeats 4000000 in
/-- Is. -/
theorem tis_of {s : Sc} (B D Dn : Nat) (vM vE : Value) (m : Int) (x nx : Mg) (u : Value) (w : World) (hB : B ≤ w.heap.size) (hs : SAt B w s vM vE) (hx : MRd B w D x u)
    (HN : ∀ wx, Below w.heap.size w wx → Calls Tryz.prog 12 #[.agg #[vM, vE], .int .i64 m, .agg #[u]] wx fun e w' => ∃ A n c, e = .returned (.tuple #[.agg #[.slice A n c], .bool (mayT s m x)]) ∧ (mayT s m x = true → MRd w'.heap.size w' Dn nx (.slice A n c)) ∧ Below wx.heap.size wx w') :
    Calls Tryz.prog 17 #[.agg #[vM, vE], .int .i64 m, .agg #[u]] w fun e w' => e = .returned (.bool (mayT s m x && eqB nx x)) ∧ Below w.heap.size w w' := by
  obtain ⟨X1, X2, LBD⟩ := two_boxes w (.cells #[vM, vE] 25) (.cells #[u] 28)
  obtain ⟨A1, q1, A2, q2, rfl, rfl⟩ := sat_shape hs
  obtain ⟨A, c, rfl⟩ := rd_shape hx
  obtain ⟨x1, x2⟩ := box2' X1
  have x3 := bx1 X2
  have HC := Lib.hid (HN _ LBD)
  have HX := Lib.hid hx
  obtain ⟨d, hd⟩ : ∃ d, mayT s m x = d := ⟨_, rfl⟩
  rw [hd] at HC ⊢
  have HL := Lib.hid LBD
  clear HN hx hs hd
  cases d with
  | false =>
    go_enter Tryz.func17, Tryz.ntmps17
    go_wp2_with fail
    refine HC.out.mono ?_
    rintro e w1 ⟨A9, n9, c9, rfl, -, hb1⟩
    go_wp2
    go_ret
    exact ⟨rfl, below_lit (below_then HL.out hb1) _⟩
  | true =>
    go_enter Tryz.func17, Tryz.ntmps17
    go_wp2_with fail
    refine HC.out.mono ?_
    rintro e w1 ⟨A9, n9, c9, rfl, hm, hb1⟩
    have hm1 := hm (by trivial)
    have N1 := below_new w1 (.cells #[.slice A9 n9 c9] 28)
    have hb01 := below_then (below_then HL.out hb1) N1
    have z3 := bx1 (box_on X2 (below_then hb1 N1))
    have z4 := bx1 (heap_alloc_new w1 (.cells #[.slice A9 n9 c9] 28))
    have hup := MAt.more (Nat.le_max_left Dn D) _ _ (rd_up N1 hm1)
    have hxp : MRd _ _ (max Dn D) x _ := MAt.more (Nat.le_max_right Dn D) _ _ (MRd.mono (Nat.le_trans hB hb01.size) (MRd.low (Lo.below hb01 hB) HX.out))
    have HSM := Lib.hid (same_any9 _ (max Dn D) nx x _ _ _ (Nat.le_refl _) hup hxp)
    obtain ⟨d2, hd2⟩ : ∃ d, eqB nx x = d := ⟨_, rfl⟩
    rw [hd2] at HSM
    have HD2 := Lib.hid hd2
    clear hd2 x1 x2 x3 hm hm1 hup hxp
    go_wp2_with fail
    refine HSM.out.mono ?_
    rintro e w2 ⟨rfl, hb2⟩
    go_wp2
    go_ret
    exact ⟨by rw [HD2.out]; simp, below_then hb01 hb2⟩
end Go.Proofs.YtjmcpfckcajnjaaGreatDoor.T9
/-
  Is a file, or a schema, not too great: the contracts.
-/
namespace Go.Proofs.YtjmcpfckcajnjaaGreatDoor
set_option maxRecDepth 100000

open Go.RowKit

def fewM (m : Ms) : Bool := decide (m.F.length ≤ 40) && decide (m.ones.length ≤ 40) && decide (m.res.length ≤ 40)
def fewE (e : En) : Bool := decide (e.V.length ≤ 40)
def fewF (f : Fl) : Bool := decide (f.M.length ≤ 30) && decide (f.E.length ≤ 30) && f.M.all fewM && f.E.all fewE
theorem all_next {α : Type} {g : α → Bool} {l : List α} {k : Nat} {x : α} (h : l[k]? = some x) : (l.take (k + 1)).all g = ((l.take k).all g && g x) := by
  rw [List.take_add_one, h]; simp [List.all_append]
theorem all_part {α : Type} {g : α → Bool} {l : List α} {k : Nat} (h : (l.take k).all g = false) : l.all g = false := by
  rw [← List.take_append_drop k l, List.all_append, h, Bool.false_and]
theorem few_end {α : Type} {g : α → Bool} {c : Bool} {l : List α} {k : Nat} (h : false = (c && (l.take k).all g)) : (c && l.all g) = false := by
  cases c with
  | false => rfl
  | true =>
    rw [Bool.true_and] at h ⊢
    exact all_part h.symm
end Go.Proofs.YtjmcpfckcajnjaaGreatDoor
/-
  Is a schema not too great: the contract of the document's own.
-/
namespace Go.Proofs.YtjmcpfckcajnjaaGreatDoor
set_option maxRecDepth 100000

open Go.RowKit

def fewMd (m : Md) : Bool := decide (m.F.length ≤ 60)
def fewEd (e : Ed) : Bool := decide (e.V.length ≤ 60) && decide (e.N.length ≤ 60)
def fewS (s : Sc) : Bool := decide (s.M.length ≤ 30) && decide (s.E.length ≤ 30) && s.M.all fewMd && s.E.all fewEd
set_option maxRecDepth 1000000 in
set_option maxHeartbeats 4000000 in
theorem fews_any (B : Nat) (f : Sc) (vM vE : Value) (w : World) (hB : B ≤ w.heap.size) (hf : SAt B w f vM vE) :
    Calls Tryz.prog 27 #[.agg #[vM, vE]] w fun e w' => e = .returned (.bool (fewS f)) ∧ Below w.heap.size w w' := by
  obtain ⟨xs, ys, ⟨A1, q1, rfl, s1, b1⟩, h2, ⟨A2, q2, rfl, s2, b2⟩, h4⟩ := hf
  obtain ⟨M, E⟩ := f
  simp only at s1 s2 h2 h4 b1 b2
  have HS : Hid (fewS ⟨M, E⟩ = ((decide (M.length ≤ 30) && decide (E.length ≤ 30)) && M.all fewMd && E.all fewEd)) := Lib.hid rfl
  have hlow := Low.alloc w (.cells #[.slice A1 M.length q1, .slice A2 E.length q2] 25) hB
  have HM := Lib.hid (s1.low b1 hlow)
  have HMA := Lib.hid (h2.low hlow)
  have HE := Lib.hid (s2.low b2 hlow)
  have HEA := Lib.hid (h4.low hlow)
  have hbox := heap_alloc_new w (.cells #[.slice A1 M.length q1, .slice A2 E.length q2] 25)
  have hbw := below_new w (.cells #[.slice A1 M.length q1, .slice A2 E.length q2] 25)
  by_cases hsm : M.length ≤ 30 ∧ E.length ≤ 30
  · have d1 : decide ((M.length : Int) ≤ 30) = true := by rw [decide_eq_true_eq]; omega
    have d2 : decide ((E.length : Int) ≤ 30) = true := by rw [decide_eq_true_eq]; omega
    have HS1 : Hid (fewS ⟨M, E⟩ = (M.all fewMd && E.all fewEd)) := Lib.hid (by rw [HS.out, decide_eq_true hsm.1, decide_eq_true hsm.2]; simp)
    have hml := hsm.1
    have hel := hsm.2
    clear hsm
    go_enter Tryz.func27, Tryz.ntmps27
    go_wp2_with fail
    generalize w.alloc (.cells #[.slice A1 M.length q1, .slice A2 E.length q2] 25) = W at *
    have HBW := Lib.hid hbw
    have b0 := heap_cell hbox 0
    have b1 := heap_cell hbox 1
    simp at b0 b1
    clear hbw hbox
    go_wp2
    go_loopw [3, 4] (fun o i wr => ∃ (k : Nat) (b : Bool), i = .int .i64 k ∧ o = .bool b ∧ k ≤ M.length ∧ b = (M.take k).all fewMd ∧ wr = W) (fun _ i _ => M.length - (intOf i).toNat)
    case atStart => exact ⟨0, true, rfl, rfl, by omega, by simp, rfl⟩
    case round =>
      obtain ⟨k, b, rfl, rfl, hk, hb, rfl⟩ := hrel
      have HB := Lib.hid hb
      clear hb
      by_cases hlt : k < M.length
      · cases b with
        | true =>
          obtain ⟨m, hm⟩ : ∃ m, M[k]? = some m := ⟨_, List.getElem?_eq_getElem hlt⟩
          obtain ⟨ad, vF, rfl, hg, hmr, c0, c1⟩ := mdr_at HM.out HMA.out hm
          obtain ⟨AF, cF, rfl, -, -⟩ := hmr
          have HN := Lib.hid (all_next (g := fewMd) hm)
          have HF : Hid (fewMd m = decide ((m.F.length : Int) ≤ 60)) := Lib.hid (by unfold fewMd; congr 1; apply propext; omega)
          clear hm c0
          go_wp2
          refine ⟨⟨k + 1, _, by go_num, rfl, by omega, ?_, trivial⟩, by simp [intOf]; omega⟩
          have h := HB.out
          rw [HN.out, ← h, HF.out, Bool.true_and]
        | false =>
          obtain ⟨c, hc⟩ : ∃ c, c = false := ⟨_, rfl⟩
          have HS2 : Hid (fewS ⟨M, E⟩ = (c && E.all fewEd)) := Lib.hid (by rw [HS1.out, hc, all_part HB.out.symm])
          go_wp2
          go_loopw [3, 5] (fun o i wx => ∃ (k : Nat) (b : Bool), i = .int .i64 k ∧ o = .bool b ∧ k ≤ E.length ∧ b = (c && (E.take k).all fewEd) ∧ wx = wr) (fun _ i _ => E.length - (intOf i).toNat)
          case atStart => exact ⟨0, c, rfl, by rw [hc], by omega, by simp, rfl⟩
          case round =>
            obtain ⟨k, b, rfl, rfl, hk2, hb2, rfl⟩ := hrel
            have HB2 := Lib.hid hb2
            clear hb2
            by_cases hlt2 : k < E.length
            · cases b with
              | false =>
                go_wp2
                go_ret
                exact ⟨by rw [HS2.out, few_end HB2.out]; rfl, HBW.out⟩
              | true =>
                obtain ⟨e, he⟩ : ∃ e, E[k]? = some e := ⟨_, List.getElem?_eq_getElem hlt2⟩
                obtain ⟨ad2, vV, vN, rfl, hg2, hmr2, hnr2, g0, g1, g2⟩ := edr_at HE.out HEA.out he
                obtain ⟨AV, cV, rfl, -, -⟩ := hmr2
                obtain ⟨AN, cN, rfl, -, -⟩ := hnr2
                have HN2 := Lib.hid (all_next (g := fewEd) he)
                have HV : Hid (fewEd e = (decide ((e.V.length : Int) ≤ 60) && decide ((e.N.length : Int) ≤ 60))) := Lib.hid (by
                  have e60 : ∀ n : Nat, decide (n ≤ 60) = decide ((n : Int) ≤ 60) := fun n => by congr 1; apply propext; omega
                  unfold fewEd
                  rw [e60, e60])
                clear he g0
                obtain ⟨a1, ha1⟩ : ∃ a, decide ((e.V.length : Int) ≤ 60) = a := ⟨_, rfl⟩
                rw [ha1] at HV
                cases a1
                all_goals
                  go_wp2
                  refine ⟨⟨k + 1, _, by go_num, rfl, by omega, ?_, trivial⟩, by simp [intOf]; omega⟩
                  have h := HB2.out
                  rw [HN2.out, ← Bool.and_assoc, ← h, Bool.true_and, HV.out]
                  simp
            · obtain rfl : k = E.length := by omega
              go_wp2
              go_ret
              exact ⟨by rw [HS2.out]; have h := HB2.out; rw [List.take_length] at h; rw [← h]; rfl, HBW.out⟩
      · obtain rfl : k = M.length := by omega
        have HS2 : Hid (fewS ⟨M, E⟩ = (b && E.all fewEd)) := Lib.hid (by rw [HS1.out]; have h := HB.out; rw [List.take_length] at h; rw [h])
        obtain ⟨c, hc⟩ : ∃ c, c = b := ⟨_, rfl⟩
        rw [← hc] at HS2
        clear HB
        go_wp2
        go_loopw [3, 5] (fun o i wx => ∃ (k : Nat) (b : Bool), i = .int .i64 k ∧ o = .bool b ∧ k ≤ E.length ∧ b = (c && (E.take k).all fewEd) ∧ wx = wr) (fun _ i _ => E.length - (intOf i).toNat)
        case atStart => exact ⟨0, c, rfl, by rw [hc], by omega, by simp, rfl⟩
        case round =>
          obtain ⟨k, b, rfl, rfl, hk2, hb2, rfl⟩ := hrel
          have HB2 := Lib.hid hb2
          clear hb2
          by_cases hlt2 : k < E.length
          · cases b with
            | false =>
              go_wp2
              go_ret
              exact ⟨by rw [HS2.out, few_end HB2.out]; rfl, HBW.out⟩
            | true =>
              obtain ⟨e, he⟩ : ∃ e, E[k]? = some e := ⟨_, List.getElem?_eq_getElem hlt2⟩
              obtain ⟨ad2, vV, vN, rfl, hg2, hmr2, hnr2, g0, g1, g2⟩ := edr_at HE.out HEA.out he
              obtain ⟨AV, cV, rfl, -, -⟩ := hmr2
              obtain ⟨AN, cN, rfl, -, -⟩ := hnr2
              have HN2 := Lib.hid (all_next (g := fewEd) he)
              have HV : Hid (fewEd e = (decide ((e.V.length : Int) ≤ 60) && decide ((e.N.length : Int) ≤ 60))) := Lib.hid (by
                have e60 : ∀ n : Nat, decide (n ≤ 60) = decide ((n : Int) ≤ 60) := fun n => by congr 1; apply propext; omega
                unfold fewEd
                rw [e60, e60])
              clear he g0
              obtain ⟨a1, ha1⟩ : ∃ a, decide ((e.V.length : Int) ≤ 60) = a := ⟨_, rfl⟩
              rw [ha1] at HV
              cases a1
              all_goals
                go_wp2
                refine ⟨⟨k + 1, _, by go_num, rfl, by omega, ?_, trivial⟩, by simp [intOf]; omega⟩
                have h := HB2.out
                rw [HN2.out, ← Bool.and_assoc, ← h, Bool.true_and, HV.out]
                simp
          · obtain rfl : k = E.length := by omega
            go_wp2
            go_ret
            exact ⟨by rw [HS2.out]; have h := HB2.out; rw [List.take_length] at h; rw [← h]; rfl, HBW.out⟩
  · have HF : Hid (fewS ⟨M, E⟩ = false) := Lib.hid (by
      rw [HS.out]
      by_cases h1 : M.length ≤ 30
      · have h2 : ¬ E.length ≤ 30 := fun h => hsm ⟨h1, h⟩
        simp [h2]
      · simp [h1])
    have hor : decide ((M.length : Int) ≤ 30) = false ∨ (decide ((M.length : Int) ≤ 30) = true ∧ decide ((E.length : Int) ≤ 30) = false) := by
      by_cases h1 : M.length ≤ 30
      · right
        have h2 : ¬ E.length ≤ 30 := fun h => hsm ⟨h1, h⟩
        exact ⟨by rw [decide_eq_true_eq]; omega, by rw [decide_eq_false_iff_not]; omega⟩
      · left
        rw [decide_eq_false_iff_not]; omega
    have HBW := Lib.hid hbw
    clear hsm HS HM HMA HE HEA hbw
    rcases hor with d1 | ⟨d1, d2⟩
    all_goals
      go_enter Tryz.func27, Tryz.ntmps27
      go_wp2_with fail
      generalize w.alloc (.cells #[.slice A1 M.length q1, .slice A2 E.length q2] 25) = W at *
      have b0 := heap_cell hbox 0
      have b1 := heap_cell hbox 1
      simp at b0 b1
      clear hbox
      go_wp2
      go_loopw [3, 4] (fun o i wr => ∃ k : Nat, i = .int .i64 k ∧ o = .bool false ∧ k ≤ M.length ∧ wr = W) (fun _ _ _ => 0)
      case atStart => exact ⟨0, rfl, rfl, by omega, rfl⟩
      case round =>
        obtain ⟨k, rfl, rfl, hk, rfl⟩ := hrel
        by_cases hlt : k < M.length
        all_goals
          go_wp2
          go_loopw [3, 5] (fun o i wx => ∃ k : Nat, i = .int .i64 k ∧ o = .bool false ∧ k ≤ E.length ∧ wx = wr) (fun _ _ _ => 0)
          case atStart => exact ⟨0, rfl, rfl, by omega, rfl⟩
          case round =>
            obtain ⟨k2, rfl, rfl, hk2, rfl⟩ := hrel
            by_cases hlt2 : k2 < E.length
            all_goals
              go_wp2
              go_ret
              exact ⟨by rw [HF.out]; rfl, HBW.out⟩
end Go.Proofs.YtjmcpfckcajnjaaGreatDoor
/-
  The statements' first call tells yes; and what is not too great.
-/
namespace Go.Proofs.YtjmcpfckcajnjaaGreatDoor.T9
set_option maxRecDepth 100000
open Go.Proofs.YtjmcpfckcajnjaaGreatDoor.T4
open Go.RowKit Go.Maps

theorem norm_bare {s : Sc} (hin : ScIn s) (B D : Nat) (vM vE : Value) (m : Int) (x : Mg) (u : Value) (w : World) (hB : B ≤ w.heap.size) (hs : SAt B w s vM vE) (hx : MRd B w D x u) (hi : MIn x) (hc : x.cnt ≤ 100000) (T : Tabs w)
    (hm : mayT s m x = true) (hno : ∀ a ∈ x.F, ∃ f, byS s m a.no = some f ∧ toldB f a.V = false) :
    Calls Tryz.prog 12 #[.agg #[vM, vE], .int .i64 m, .agg #[u]] w fun e w' => e = .returned (.tuple #[.agg #[.slice none 0 0], .bool true]) ∧ Below w.heap.size w w' := by
  refine (tnormal_of hin B D vM vE m x u w hB hs hx hi hc T (fun v _ => v = .slice none 0 0) (fun v _ _ h _ => h) (fun _ wx hw _ => ?_)).mono ?_
  · refine (normal_none B D vM vE m x u wx (Nat.le_trans hB hw.size) (SAt.lo hs hw hB) (MRd.low (Lo.below hw hB) hx) hno).mono ?_
    rintro e w' ⟨rfl, hb⟩
    exact ⟨none, 0, 0, rfl, rfl, hb⟩
  · rintro e w' ⟨A, n, c, rfl, -, hq, hb⟩
    have := hq hm
    simp only [Value.slice.injEq] at this
    obtain ⟨rfl, rfl, rfl⟩ := this
    exact ⟨by rw [hm], hb⟩
theorem nil_rd (w : World) : MRd w.heap.size w 1 (.mk []) (.slice none 0 0) := ⟨_, rfl, [], ⟨Rr.nil _ _ _, Nat.zero_le _⟩, rfl⟩
theorem is_bare {s : Sc} (hin : ScIn s) (B D : Nat) (vM vE : Value) (m : Int) (x : Mg) (u : Value) (w : World) (hB : B ≤ w.heap.size) (hs : SAt B w s vM vE) (hx : MRd B w D x u) (hi : MIn x) (hc : x.cnt ≤ 100000) (T : Tabs w)
    (hm : mayT s m x = true) (hno : ∀ a ∈ x.F, ∃ f, byS s m a.no = some f ∧ toldB f a.V = false) :
    Calls Tryz.prog 17 #[.agg #[vM, vE], .int .i64 m, .agg #[u]] w fun e w' => e = .returned (.bool (eqB (.mk []) x)) ∧ Below w.heap.size w w' := by
  refine (tis_of B D 1 vM vE m x (.mk []) u w hB hs hx (fun wx hw => ?_)).mono ?_
  · refine (norm_bare hin B D vM vE m x u wx (Nat.le_trans hB hw.size) (SAt.lo hs hw hB) (MRd.low (Lo.below hw hB) hx) hi hc (T.on hw) hm hno).mono ?_
    rintro e w' ⟨rfl, hb⟩
    exact ⟨none, 0, 0, by rw [hm], fun _ => nil_rd w', hb⟩
  · rintro e w' ⟨rfl, hb⟩
    exact ⟨by rw [hm]; rfl, hb⟩
/-! ### The chapter's example -/
def f0 : Df := ⟨1, [97], 0, 0, false, -1, 0⟩
def s0 : Sc := ⟨[⟨[65], [f0]⟩], []⟩
def v0 : Vl' := ⟨0, [], []⟩
def t0 : So := ⟨1, [], [v0]⟩
def x0 : Mg := .mk [t0]
theorem may_s0 : ScMay s0 := by
  refine ⟨by decide, by decide, by decide, by decide, by decide, fun m hm => ?_, fun e he => by cases he⟩
  obtain rfl : m = ⟨[65], [f0]⟩ := by simpa [s0] using hm
  refine ⟨by decide, by simp, by simp, fun d hd => ?_⟩
  obtain rfl : d = f0 := by simpa using hd
  exact ⟨by decide, by decide, by decide, by decide, by decide, by decide, by decide, .inl rfl, .inl rfl⟩
theorem may_x0 : mayT s0 0 x0 = true := by
  unfold mayT
  rw [Bool.and_eq_true]
  exact ⟨@decide_eq_true _ (Classical.propDecidable _) may_s0, by decide +kernel⟩
theorem may_n0 : mayT s0 0 (.mk []) = true := by
  unfold mayT
  rw [Bool.and_eq_true]
  exact ⟨@decide_eq_true _ (Classical.propDecidable _) may_s0, by decide +kernel⟩
theorem in_s0 : ScIn s0 := by
  refine ⟨fun m hm => ?_, fun e he => by cases he⟩
  obtain rfl : m = ⟨[65], [f0]⟩ := by simpa [s0] using hm
  refine ⟨by unfold maxLen; decide, fun d hd => ?_⟩
  obtain rfl : d = f0 := by simpa using hd
  exact ⟨by unfold inr; decide, by unfold maxLen; decide, by unfold inr; decide, by unfold inr; decide, by unfold inr; decide, by unfold inr; decide⟩
theorem in_x0 : MIn x0 := .of fun s hs => by
  obtain rfl : s = t0 := by simpa [x0, Mg.F] using hs
  refine ⟨by unfold inI; decide, fun v hv => ?_⟩
  obtain rfl : v = v0 := by simpa [t0] using hv
  exact ⟨⟨by unfold inI; decide, by decide⟩, fun x hx => by cases hx⟩
theorem in_n0 : MIn (.mk []) := .of fun s hs => by cases hs
theorem not_x0 : ∀ a ∈ x0.F, ∃ f, byS s0 0 a.no = some f ∧ toldB f a.V = false := fun a ha => by
  obtain rfl : a = t0 := by simpa [x0, Mg.F] using ha
  exact ⟨f0, by decide, by decide⟩
theorem sat0 {w : World} {g0 g1 B : Nat} {t0 t1 : TypeId} {fr0 fr1 : Nat × Nat} (h0 : w.heap[g0]? = some (.cells #[.int .i64 1, .string ⟨#[97]⟩, .int .i64 0, .int .i64 0, .bool false, .int .i64 (-1), .int .i64 0] t0 fr0)) (h1 : w.heap[g1]? = some (.cells #[.string ⟨#[65]⟩, .slice (some ⟨g0, 0, none⟩) 1 1] t1 fr1)) (b0 : g0 < B) (b1 : g1 < B) :
    SAt B w s0 (.slice (some ⟨g1, 0, none⟩) 1 1) (.slice none 0 0) :=
  ⟨_, [], (lit_row (n := 1) (size := 2) (xs := [.string ⟨#[65]⟩, .slice (some ⟨g0, 0, none⟩) 1 1]) h1 rfl (by decide) b1 58).1, ⟨.slice (some ⟨g0, 0, none⟩) 1 1, [], rfl, (lit_row (n := 1) (size := 7) (xs := [.int .i64 1, .string ⟨#[97]⟩, .int .i64 0, .int .i64 0, .bool false, .int .i64 (-1), .int .i64 0]) h0 rfl (by decide) b0 48).1, rfl⟩, Rr.nil _ _ _, rfl⟩
theorem rd0 {w : World} {g3 g4 : Nat} {t3 t4 : TypeId} {fr3 fr4 : Nat × Nat} (h3 : w.heap[g3]? = some (.cells #[.int .i64 0, .string ⟨#[]⟩, .slice none 0 0] t3 fr3)) (h4 : w.heap[g4]? = some (.cells #[.int .i64 1, .slice none 0 0, .slice (some ⟨g3, 0, none⟩) 1 1] t4 fr4)) :
    MRd w.heap.size w 2 x0 (.slice (some ⟨g4, 0, none⟩) 1 1) :=
  one_rd (D := 1) (s := t0) ⟨.slice none 0 0, .slice (some ⟨g3, 0, none⟩) 1 1, rfl, ⟨[], ⟨Rr.nil _ _ _, Nat.zero_le _⟩, rfl⟩, ⟨_, lit_row (n := 1) (size := 3) (xs := [.int .i64 0, .string ⟨#[]⟩, .slice none 0 0]) h3 rfl (by decide) (box_lt h3) _, Rows.single ⟨_, rfl, [], ⟨Rr.nil _ _ _, Nat.zero_le _⟩, rfl⟩⟩⟩ h4
theorem six_new (w : World) (o1 o2 o3 o4 o5 o6 : Obj) : let W := (((((w.alloc o1).alloc o2).alloc o3).alloc o4).alloc o5).alloc o6
    W.heap[w.heap.size]? = some o1 ∧ W.heap[w.heap.size + 1]? = some o2 ∧ W.heap[w.heap.size + 1 + 1]? = some o3 ∧ W.heap[w.heap.size + 1 + 1 + 1]? = some o4 ∧ W.heap[w.heap.size + 1 + 1 + 1 + 1]? = some o5 ∧ W.heap[w.heap.size + 1 + 1 + 1 + 1 + 1]? = some o6 ∧ Below w.heap.size w W := by
  intro W
  obtain ⟨a1, a2, a3, a4, L4⟩ := four_new w o1 o2 o3 o4
  have N5 := below_new ((((w.alloc o1).alloc o2).alloc o3).alloc o4) o5
  have N6 := below_new (((((w.alloc o1).alloc o2).alloc o3).alloc o4).alloc o5) o6
  have e5 : ((((w.alloc o1).alloc o2).alloc o3).alloc o4).heap.size = w.heap.size + 1 + 1 + 1 + 1 := by simp
  have e6 : (((((w.alloc o1).alloc o2).alloc o3).alloc o4).alloc o5).heap.size = w.heap.size + 1 + 1 + 1 + 1 + 1 := by simp
  exact ⟨box_on (box_on a1 N5) N6, box_on (box_on a2 N5) N6, box_on (box_on a3 N5) N6, box_on (box_on a4 N5) N6, e5 ▸ box_on (heap_alloc_new _ o5) N6, e6 ▸ heap_alloc_new _ o6, below_then (below_then L4 N5) N6⟩
set_option maxRecDepth 1000000 in
set_option maxHeartbeats 4000000 in
theorem awake10_any (w : World) (T : Tabs w) : Calls Tryz.prog 9 #[] w fun e w' => e = .returned (.bool true) ∧ Below w.heap.size w w' := by
  obtain ⟨h1, h2, h3, h4, h5, h6, L6⟩ := six_new w (.cells #[.int .i64 1, .string ⟨#[97]⟩, .int .i64 0, .int .i64 0, .bool false, .int .i64 (-1), .int .i64 0] 48) (.cells #[.string ⟨#[65]⟩, .slice (some ⟨w.heap.size, 0, none⟩) 1 1] 58) (.cells #[.slice (some ⟨w.heap.size + 1, 0, none⟩) 1 1, .slice none 0 0] 25) (.cells #[.int .i64 0, .string ⟨#[]⟩, .slice none 0 0] 31) (.cells #[.int .i64 1, .slice none 0 0, .slice (some ⟨w.heap.size + 1 + 1 + 1, 0, none⟩) 1 1] 36) (.cells #[.slice (some ⟨w.heap.size + 1 + 1 + 1 + 1, 0, none⟩) 1 1] 28)
  have hT := T.on L6
  clear T
  go_enter Tryz.func9, Tryz.ntmps9
  go_wp2_with fail
  generalize (((((w.alloc (.cells #[.int .i64 1, .string ⟨#[97]⟩, .int .i64 0, .int .i64 0, .bool false, .int .i64 (-1), .int .i64 0] 48)).alloc (.cells #[.string ⟨#[65]⟩, .slice (some ⟨w.heap.size, 0, none⟩) 1 1] 58)).alloc (.cells #[.slice (some ⟨w.heap.size + 1, 0, none⟩) 1 1, .slice none 0 0] 25)).alloc (.cells #[.int .i64 0, .string ⟨#[]⟩, .slice none 0 0] 31)).alloc (.cells #[.int .i64 1, .slice none 0 0, .slice (some ⟨w.heap.size + 1 + 1 + 1, 0, none⟩) 1 1] 36)).alloc (.cells #[.slice (some ⟨w.heap.size + 1 + 1 + 1 + 1, 0, none⟩) 1 1] 28) = W at *
  have HS := Lib.hid (fun wx (h : Below W.heap.size W wx) => sat0 (B := wx.heap.size) (box_on h1 h) (box_on h2 h) (Nat.lt_of_lt_of_le (box_lt h1) h.size) (Nat.lt_of_lt_of_le (box_lt h2) h.size))
  have HM := Lib.hid (fun wx (h : Below W.heap.size W wx) => rd0 (box_on h4 h) (box_on h5 h))
  have HC := Lib.hid (fun wx (h : Below W.heap.size W wx) => And.intro (box2' (box_on h3 h)) (bx1 (box_on h6 h)))
  have HT := Lib.hid hT
  have c0 : x0.cnt ≤ 100000 := by decide +kernel
  have n0 : (Mg.mk []).cnt ≤ 100000 := by decide +kernel
  have LR : Below W.heap.size W W := Below.refl _ _
  clear h1 h2 h3 h4 h5 h6 hT
  refine (norm_bare in_s0 _ 2 _ _ 0 x0 _ W (Nat.le_refl _) (HS.out W LR) (HM.out W LR) in_x0 c0 HT.out may_x0 not_x0).mono ?_
  rintro e w1 ⟨rfl, hb1⟩
  have N1 := below_new w1 (.cells #[.slice none 0 0] 28)
  have L1 := below_then hb1 N1
  have Z1 := heap_alloc_new w1 (.cells #[.slice none 0 0] 28)
  obtain ⟨⟨k1, k2⟩, k3⟩ := HC.out _ L1
  have HA := Lib.hid (tmay_any in_s0 _ 2 _ _ 0 x0 _ _ (Nat.le_refl _) (HS.out _ L1) (HM.out _ L1) in_x0 c0 (HT.out.on L1))
  rw [may_x0] at HA
  go_wp2_with fail
  refine HA.out.mono ?_
  rintro e w2 ⟨rfl, hb2⟩
  have L2 := below_then L1 hb2
  obtain ⟨⟨q1, q2⟩, q3⟩ := HC.out _ L2
  have Z2 := bx1 (box_on Z1 hb2)
  have HI := Lib.hid (is_bare in_s0 _ 2 _ _ 0 x0 _ _ (Nat.le_refl _) (HS.out _ L2) (HM.out _ L2) in_x0 c0 (HT.out.on L2) may_x0 not_x0)
  rw [eqB_no (show ¬ Mg.mk [] = x0 by unfold x0; simp)] at HI
  clear k1 k2 k3
  go_wp2_with fail
  refine HI.out.mono ?_
  rintro e w3 ⟨rfl, hb3⟩
  have L3 := below_then L2 hb3
  obtain ⟨⟨r1, r2⟩, r3⟩ := HC.out _ L3
  have Z3 := bx1 (box_on (box_on Z1 hb2) hb3)
  have HI2 := Lib.hid (is_bare in_s0 w3.heap.size 1 _ _ 0 (.mk []) (.slice none 0 0) w3 (Nat.le_refl _) (HS.out _ L3) (nil_rd w3) in_n0 n0 (HT.out.on L3) may_n0 (fun a ha => by cases ha))
  rw [eqB_yes rfl] at HI2
  clear q1 q2 q3 Z2
  go_wp2_with fail
  refine HI2.out.mono ?_
  rintro e w4 ⟨rfl, hb4⟩
  go_wp2
  go_ret
  exact ⟨rfl, L6.trans ((below_then L3 hb4).mono L6.size)⟩
/-- What is not too great. -/
theorem few10_any (B D : Nat) (s : Sc) (vM vE : Value) (x : Mg) (u : Value) (w : World) (hB : B ≤ w.heap.size) (hs : SAt B w s vM vE) (hx : MRd B w D x u) :
    Calls Tryz.prog 10 #[.agg #[vM, vE], .agg #[u]] w fun e w' => ∃ r : Bool, e = .returned (.bool r) ∧ (r = true → Fit 3000 80 x) ∧ Below w.heap.size w w' := by
  obtain ⟨X1, X2, LBD⟩ := two_boxes w (.cells #[vM, vE] 25) (.cells #[u] 28)
  have HF := Lib.hid (fews_any B s vM vE _ (Nat.le_trans hB LBD.size) (SAt.lo hs LBD hB))
  have HO := Lib.hid (fun wx (h : Below w.heap.size w wx) => few_one B D x u 80 wx (Nat.le_trans hB h.size) (MRd.low (Lo.below h hB) hx) (by omega))
  obtain ⟨A1, q1, A2, q2, rfl, rfl⟩ := sat_shape hs
  obtain ⟨A, c, rfl⟩ := rd_shape hx
  obtain ⟨x1, x2⟩ := box2' X1
  obtain ⟨d, hd⟩ : ∃ d, fewS s = d := ⟨_, rfl⟩
  rw [hd] at HF
  clear hs hx hd
  cases d with
  | false =>
    go_enter Tryz.func10, Tryz.ntmps10
    go_wp2_with fail
    refine HF.out.mono ?_
    rintro e w1 ⟨rfl, hb1⟩
    go_wp2
    go_ret
    exact ⟨false, rfl, (fun h => (by cases h)), below_then LBD hb1⟩
  | true =>
    go_enter Tryz.func10, Tryz.ntmps10
    go_wp2_with fail
    refine HF.out.mono ?_
    rintro e w1 ⟨rfl, hb1⟩
    have z3 := bx1 (box_on X2 hb1)
    have HO2 := Lib.hid (HO.out _ (below_then LBD hb1))
    go_wp2_with fail
    refine HO2.out.mono ?_
    rintro e w2 ⟨r, rfl, hr, hb2⟩
    have HRR := Lib.hid hr
    clear hr
    cases r with
    | false =>
      go_wp2
      go_ret
      exact ⟨_, rfl, (fun h => (by cases h)), below_then (below_then LBD hb1) hb2⟩
    | true =>
      go_wp2
      go_ret
      exact ⟨_, rfl, (fun _ => HRR.out (by trivial)), below_then (below_then LBD hb1) hb2⟩
end Go.Proofs.YtjmcpfckcajnjaaGreatDoor.T9
