/-
  Whether a message is of one: the contract of isOf, of any message; and of Val and May.
-/
import Derived.Test.YtjmcpfckcajnjaaGreatDoorTyIs
import Derived.Test.YtjmcpfckcajnjaaGreatDoorTyAsk
import Derived.Test.YtjmcpfckcajnjaaGreatDoorTrLaw
import Derived.Deep.AppendLies
import Derived.Deep.RegionLaw
import Derived.Deep.RegionHeldLaw
import Derived.Test.YtjmcpfckcajnjaaGreatDoorTokVars
import Derived.Test.YtjmcpfckcajnjaaGreatDoorTabFld
namespace Go.Proofs.YtjmcpfckcajnjaaGreatDoor.T9
set_option maxRecDepth 100000
open Go.Proofs.YtjmcpfckcajnjaaGreatDoor.T4
open Go.RowKit Go.Maps

theorem byS_in {s : Sc} (h : ScIn s) {m no : Int} {f : Df} (hf : byS s m no = some f) : DfIn f ∧ 0 ≤ m ∧ m < s.M.length := by
  unfold byS msgAt at hf
  by_cases h0 : m < 0
  · rw [if_pos h0] at hf; simp at hf
  · rw [if_neg h0] at hf
    cases hm : s.M[m.toNat]? with
    | none => rw [hm] at hf; simp at hf
    | some d =>
      rw [hm] at hf
      simp only [Option.bind_some] at hf
      have hlt := (List.getElem?_eq_some_iff.1 hm).1
      exact ⟨(h.M d (List.mem_of_getElem? hm)).F f (List.mem_of_find?_eq_some hf), by omega, by omega⟩
theorem by_found {B : Nat} {s : Sc} {vM vE : Value} {m x : Int} {f : Df} (hf : byS s m x = some f) (w : World) (hB : B ≤ w.heap.size) (hs : SAt B w s vM vE) :
    Calls Tryz.prog 55 #[.agg #[vM, vE], .int .i64 m, .int .i64 x] w fun e w' => e = .returned (.tuple #[.agg #[.int .i64 f.no, .string (txt f.name), .int .i64 f.kind, .int .i64 f.ref, .bool f.rep, .int .i64 f.key, .int .i64 f.one], .bool true]) ∧ Below w.heap.size w w' :=
  (By_any B s vM vE m x w hB hs).mono fun e w' h => ⟨by rw [h.1, hf]; rfl, h.2⟩
theorem by_none {B : Nat} {s : Sc} {vM vE : Value} {m x : Int} (hf : byS s m x = none) (w : World) (hB : B ≤ w.heap.size) (hs : SAt B w s vM vE) :
    Calls Tryz.prog 55 #[.agg #[vM, vE], .int .i64 m, .int .i64 x] w fun e w' => e = .returned (.tuple #[.agg #[.int .i64 0, .string ⟨#[]⟩, .int .i64 0, .int .i64 0, .bool false, .int .i64 0, .int .i64 0], .bool false]) ∧ Below w.heap.size w w' :=
  (By_any B s vM vE m x w hB hs).mono fun e w' h => ⟨by rw [h.1, hf]; rfl, h.2⟩
theorem isOf_zero (s : Sc) : IsH s 0 := by
  intro B D vM vE m x u w hB hs hx hi hc
  have LBD := below_then (below_new w (.cells #[vM, vE] 25)) (below_new (w.alloc (.cells #[vM, vE] 25)) (.cells #[u] 28))
  go_enter Tryz.func34, Tryz.ntmps34
  go_wp2
  go_ret
  exact ⟨rfl, LBD⟩
set_option maxRecDepth 1000000 in
set_option maxHeartbeats 8000000 in
theorem isOf_step {s : Sc} {d : Nat} (hd : d ≤ 1000) (hin : ScIn s) (H : IsH s d) : IsH s (d + 1) := by
  intro B D vM vE m x u w hB hs hx hi hc
  rw [show ((d + 1 : Nat) : Int) = (d : Int) + 1 by omega]
  obtain ⟨A1, q1, rfl⟩ : ∃ A q, vM = .slice A s.M.length q := by
    obtain ⟨xs, ys, ⟨A, q, h, _⟩, _⟩ := hs
    exact ⟨A, q, h⟩
  obtain ⟨A2, q2, rfl⟩ : ∃ A q, vE = .slice A s.E.length q := by
    obtain ⟨xs, ys, _, _, ⟨A, q, h, _⟩, _⟩ := hs
    exact ⟨A, q, h⟩
  cases D with
  | zero => exact hx.elim
  | succ D =>
  obtain ⟨u', hu, hl⟩ := hx
  simp only [List.cons.injEq, and_true] at hu
  subst hu
  obtain ⟨A, c, xs, rfl, hsl, hbl, hr, hn⟩ := hl.open_
  obtain ⟨X1, X2, LBD⟩ := two_boxes w (.cells #[.slice A1 s.M.length q1, .slice A2 s.E.length q2] 25) (.cells #[.slice A x.F.length c] 28)
  have hcf := cnt_F x
  have hd0 : (((d + 1 : Nat) : Int) == 0) = false := by rw [beq_eq_false_iff_ne]; omega
  have hd1 : ((d : Int) + 1 == 0) = false := by rw [beq_eq_false_iff_ne]; omega
  have HIS : Hid (isB s (d + 1) m x = (decide (0 ≤ m ∧ m < s.M.length) && slotsG (byS s m) (fillG (isB s d)) [] x.F)) := Lib.hid rfl
  by_cases hm0 : m < 0
  · have e1 : decide (m < 0) = true := decide_eq_true hm0
    have HF : Hid (isB s (d + 1) m x = false) := Lib.hid (by rw [HIS.out, decide_eq_false (by omega)]; rfl)
    clear hm0
    go_enter Tryz.func34, Tryz.ntmps34
    go_wp2
    go_ret
    exact ⟨by rw [HF.out]; rfl, LBD⟩
  by_cases hm1 : (s.M.length : Int) ≤ m
  · have e0 : decide (m < 0) = false := decide_eq_false hm0
    have e1 : decide (m ≥ (s.M.length : Int)) = true := decide_eq_true hm1
    have e2 : decide ((s.M.length : Int) ≤ m) = true := decide_eq_true hm1
    have HF : Hid (isB s (d + 1) m x = false) := Lib.hid (by rw [HIS.out, decide_eq_false (by omega)]; rfl)
    clear hm0 hm1
    go_enter Tryz.func34, Tryz.ntmps34
    go_wp2
    go_ret
    exact ⟨by rw [HF.out]; rfl, LBD⟩
  have e0 : decide (m < 0) = false := decide_eq_false hm0
  have e1 : decide (m ≥ (s.M.length : Int)) = false := decide_eq_false hm1
  have e2 : decide ((s.M.length : Int) ≤ m) = false := decide_eq_false hm1
  have HF : Hid (isB s (d + 1) m x = slotsG (byS s m) (fillG (isB s d)) [] x.F) := Lib.hid (by rw [HIS.out, decide_eq_true (by omega)]; rfl)
  have hmm := @run_makeMap Tryz.prog
  have HSL := Lib.hid hsl
  have HR := Lib.hid hr
  have HBB := Lib.hid hbl
  have HSA := Lib.hid hs
  have HII := Lib.hid hi
  have HH := Lib.hid H
  have HN := Lib.hid hin
  clear hm0 hm1 hsl hr hl hbl hs hi H hin HIS
  go_enter Tryz.func34, Tryz.ntmps34
  obtain ⟨x1, x2⟩ := box2' X1
  have x3 := bx1 X2
  go_wp2_with fail
  obtain ⟨W0, hW0⟩ : ∃ W, W = ((w.alloc (.cells #[.slice A1 s.M.length q1, .slice A2 s.E.length q2] 25)).alloc (.cells #[.slice A x.F.length c] 28)) := ⟨_, rfl⟩
  have hsz0 : W0.heap.size = w.heap.size + 2 := by rw [hW0]; simp
  have HC0 : Claims (W0.alloc (.map #[] 0)) (w.heap.size + 2) 0 [] := hsz0 ▸ Claims.made W0
  rw [← hW0] at X1 X2 LBD ⊢
  have hBW : Below (w.heap.size + 2) W0 (W0.alloc (.map #[] 0)) := hsz0 ▸ below_new W0 _
  clear hW0 x1 x2 x3 hmm
  go_loopw [31] (fun i wr => ∃ (k : Nat) (cl : List (Int × Int)), i = .int .i64 k ∧ k ≤ x.F.length ∧ Claims wr (w.heap.size + 2) (2 * k) cl ∧ slotsG (byS s m) (fillG (isB s d)) cl (x.F.drop k) = slotsG (byS s m) (fillG (isB s d)) [] x.F ∧ Below (w.heap.size + 2) W0 wr) (fun i _ => x.F.length - (intOf i).toNat)
  case atStart => exact ⟨0, [], rfl, by omega, HC0, rfl, hBW⟩
  case round =>
    obtain ⟨k, cl, rfl, hk, hcl, hsg, hbw⟩ := hrel
    have HBW := Lib.hid (LBD.trans (hbw.mono (by omega)))
    have HSG := Lib.hid hsg
    clear hsg
    by_cases hlt : k < x.F.length
    · obtain ⟨a, ha⟩ : ∃ a, x.F[k]? = some a := ⟨_, List.getElem?_eq_getElem hlt⟩
      obtain ⟨ad, x0, y0, z0, rfl, hg, hca, c0, c1, c2⟩ := row3 sAt.len (sl_low HSL.out HBB.out (Lo.below HBW.out hB)) (HR.out.imp fun a cs h => SRd.low (Lo.below HBW.out hB) h) ha
      obtain ⟨B1, d1, B2, d2, rfl, rfl, rfl⟩ := slot_shape hca
      have hmem := List.mem_of_getElem? ha
      have hcs := cS_le hmem
      have hdc := drop_cons ha
      rw [hdc, slotsG_cons] at HSG
      -- the worlds
      have N1 := below_new wr (.cells #[.int .i64 a.no, .slice B1 a.K.length d1, .slice B2 a.V.length d2] 36)
      have Y1 := box_on ((hbw.block _ (show w.heap.size < w.heap.size + 2 by omega)).trans X1) N1
      have hb1 := below_then HBW.out N1
      have hBr : B ≤ wr.heap.size := Nat.le_trans hB HBW.out.size
      have Z1 := heap_alloc_new wr (.cells #[.int .i64 a.no, .slice B1 a.K.length d1, .slice B2 a.V.length d2] 36)
      have hc1 := Free.alloc hcl (.cells #[.int .i64 a.no, .slice B1 a.K.length d1, .slice B2 a.V.length d2] 36)
      obtain ⟨W1, hW1⟩ : ∃ W, W = wr.alloc (.cells #[.int .i64 a.no, .slice B1 a.K.length d1, .slice B2 a.V.length d2] 36) := ⟨_, rfl⟩
      have hs1 : SAt B W1 s (.slice A1 s.M.length q1) (.slice A2 s.E.length q2) := hW1 ▸ SAt.lo HSA.out hb1 hB
      have hB1 : B ≤ W1.heap.size := by rw [hW1]; exact Nat.le_trans hBr N1.size
      obtain ⟨y1, y2⟩ := box2' Y1
      obtain ⟨s0, s1, s2⟩ := bx3 Z1
      have hm1 := (bx1 (box_on ((hbw.block _ (show w.heap.size + 1 < w.heap.size + 2 by omega)).trans X2) N1))
      have HCA := Lib.hid hca
      have HA := Lib.hid ha
      cases hby : byS s m a.no with
      | none =>
        rw [hby] at HSG
        have HBY := Lib.hid (by_none hby W1 hB1 hs1)
        clear ha hca hcl hbw hs1 hc1 hby hdc
        go_wp2_with fail
        rw [← hW1]
        have hN1 : Below wr.heap.size wr W1 := hW1 ▸ N1
        clear hW1 y1 y2 s0 s1 s2 hm1 Y1 Z1 N1 hb1
        refine HBY.out.mono ?_
        rintro e w2 ⟨rfl, hb2⟩
        go_wp2
        go_ret
        exact ⟨by rw [HF.out, ← HSG.out]; rfl, below_lit (below_then (below_then HBW.out hN1) hb2) _⟩
      | some f =>
        rw [hby] at HSG
        obtain ⟨hfi, -, -⟩ := byS_in HN.out hby
        have HBY := Lib.hid (by_found hby W1 hB1 hs1)
        have HSI := HII.out.slot hmem
        obtain ⟨b1, hb1'⟩ : ∃ b, claimB cl f = b := ⟨_, rfl⟩
        obtain ⟨b2, hb2'⟩ : ∃ b, fillG (isB s d) f a = b := ⟨_, rfl⟩
        have HSG2 : Hid ((b1 && (b2 && slotsG (byS s m) (fillG (isB s d)) (claimsOf f ++ cl) (x.F.drop (k + 1)))) = slotsG (byS s m) (fillG (isB s d)) [] x.F) := Lib.hid (by rw [← hb1', ← hb2']; exact HSG.out)
        have hN1 : Below wr.heap.size wr W1 := hW1 ▸ N1
        have hY1 := hW1 ▸ Y1
        have hZ1 := hW1 ▸ Z1
        have hC1 : Claims W1 (w.heap.size + 2) (2 * k) cl := hW1 ▸ hc1
        have hlt2 := Free.lt hcl
        clear ha hca hcl hs1 hc1 hby hdc HSG
        go_wp2_with fail
        rw [← hW1]
        have hw1s : W1.heap.size = wr.heap.size + 1 := by rw [hW1]; simp
        clear hW1 y1 y2 s0 s1 s2 hm1 Y1 Z1 N1 hb1
        refine HBY.out.mono ?_
        rintro e w2 ⟨rfl, hb2⟩
        have N2 := below_new w2 (dC f)
        have X3 := heap_alloc_new w2 (dC f)
        have hs2 : W1.heap.size ≤ w2.heap.size := hb2.size
        have Y2 := box_on hY1 (below_then hb2 N2)
        have Z2 := box_on hZ1 (below_then hb2 N2)
        have hC2 := Free.alloc (Free.on hC1 hb2) (dC f)
        have HCL := Lib.hid (claims_any (w.heap.size + 2) (2 * k) cl f hfi (w2.alloc (dC f)) hC2 (by omega))
        rw [hb1'] at HCL
        have hAw : Below w.heap.size wr (w2.alloc (dC f)) := (hN1.mono HBW.out.size).trans ((hb2.mono (Nat.le_trans HBW.out.size hN1.size)).trans (N2.mono (Nat.le_trans HBW.out.size (Nat.le_trans hN1.size hs2))))
        have hAx : Below (w.heap.size + 2) wr (w2.alloc (dC f)) := (hN1.mono (Nat.le_of_lt hlt2)).trans ((hb2.mono (by omega)).trans (N2.mono (by omega)))
        have HDN := Lib.hid (fun (w3 : World) (hg3 : (w2.alloc (dC f)).grownBy w3 (some (w.heap.size + 2))) => And.intro (hAw.grown hg3 (by have := HBW.out.size; simp; omega) (fun j hj => by injection hj with hj; omega)) (hAx.grown hg3 (by simp; omega) (fun j hj => by injection hj with hj; omega)))
        have HBX := Lib.hid (fun (w3 : World) (hg3 : (w2.alloc (dC f)).grownBy w3 (some (w.heap.size + 2))) => And.intro (box_kept Y2 hg3 (by omega)) (And.intro (box_kept Z2 hg3 (by omega)) (box_kept X3 hg3 (by omega))))
        have g3 := heap_cell X3
        have f0 := g3 0
        have f1 := g3 1
        have f2 := g3 2
        have f3 := g3 3
        have f4 := g3 4
        have f5 := g3 5
        have f6 := g3 6
        simp at f0 f1 f2 f3 f4 f5 f6
        clear hC1 hC2 hY1 hZ1 Y2 Z2 X3 N2 g3 hN1 hb1'
        cases b1 with
        | false =>
          go_wp2_with fail
          refine HCL.out.mono ?_
          rintro e w3 ⟨rfl, -, hg3⟩
          go_wp2
          go_ret
          exact ⟨by rw [HF.out, ← HSG2.out]; rfl, HBW.out.trans (HDN.out _ hg3).1⟩
        | true =>
          go_wp2_with fail
          refine HCL.out.mono ?_
          rintro e w3 ⟨rfl, hc3, hg3⟩
          have hc3 := hc3 (by trivial)
          obtain ⟨hd3, hdx⟩ := HDN.out _ hg3
          obtain ⟨Y3, Z3, X4⟩ := HBX.out _ hg3
          have hw3 : Below w.heap.size w w3 := HBW.out.trans hd3
          have hB3 : B ≤ w3.heap.size := Nat.le_trans hB hw3.size
          have HFL := Lib.hid (fills_any HH.out B D A1 A2 q1 q2 f a B1 B2 d1 d2 w3 hB3 (SAt.lo HSA.out hw3 hB) (SRd.low (Lo.of (hd3.mono hB)) HCA.out) HSI (by omega))
          rw [hb2'] at HFL
          obtain ⟨y1, y2⟩ := box2' Y3
          obtain ⟨s0, s1, s2⟩ := bx3 Z3
          have g4 := heap_cell X4
          have k0 := g4 0
          have k1 := g4 1
          have k2 := g4 2
          have k3 := g4 3
          have k4 := g4 4
          have k5 := g4 5
          have k6 := g4 6
          simp at k0 k1 k2 k3 k4 k5 k6
          have HDX := Lib.hid hdx
          have HBWW := Lib.hid hbw
          clear f0 f1 f2 f3 f4 f5 f6 hb2' Y3 Z3 X4 g4 hd3 hdx hbw
          cases b2 with
          | false =>
            go_wp2_with fail
            refine HFL.out.mono ?_
            rintro e w4 ⟨rfl, hb4⟩
            go_wp2
            go_ret
            exact ⟨by rw [HF.out, ← HSG2.out]; rfl, below_then hw3 hb4⟩
          | true =>
            go_wp2_with fail
            refine HFL.out.mono ?_
            rintro e w4 ⟨rfl, hb4⟩
            have hc4 := Free.on hc3 hb4
            go_wp2
            refine ⟨⟨k + 1, claimsOf f ++ cl, by go_num, by omega, by rw [show 2 * (k + 1) = 2 * k + 2 by omega]; exact hc4, by rw [← HSG2.out]; simp, HBWW.out.trans (HDX.out.trans (hb4.mono (by have := HDX.out.size; omega)))⟩, by simp [intOf]; omega⟩
    · obtain rfl : k = x.F.length := by omega
      have HE := HSG.out
      rw [List.drop_length] at HE
      go_wp2
      go_ret
      exact ⟨by rw [HF.out, ← HE]; rfl, HBW.out⟩
/-- isOf, of any message, at most so deep. -/
theorem isOf_any {s : Sc} (hin : ScIn s) : ∀ d, d ≤ 1000 → IsH s d
  | 0, _ => isOf_zero s
  | d + 1, h => isOf_step (by omega) hin (isOf_any hin d (by omega))
end Go.Proofs.YtjmcpfckcajnjaaGreatDoor.T9
/-
  May a message be, and a value: the contracts of Val and May.
-/
namespace Go.Proofs.YtjmcpfckcajnjaaGreatDoor.T9
set_option maxRecDepth 100000
open Go.Proofs.YtjmcpfckcajnjaaGreatDoor.T4
open Go.RowKit Go.Maps

theorem may_b (B : Nat) (s : Sc) (vM vE : Value) (w : World) (hB : B ≤ w.heap.size) (hs : SAt B w s vM vE) (hin : ScIn s) (T : Tabs w) :
    Calls Tryz.prog 33 #[.agg #[vM, vE]] w fun e w' => e = .returned (.bool (@decide (ScMay s) (Classical.propDecidable _))) ∧ Below w.heap.size w w' :=
  (may_any B s vM vE w hB hs hin T).mono fun e w' ⟨b, h1, h2, h3⟩ => ⟨by
    rw [h1]
    refine congrArg (fun b => Ending.returned (Value.bool b)) ?_
    rw [Bool.eq_iff_iff, h2]
    exact (@decide_eq_true_iff _ (Classical.propDecidable _)).symm, h3⟩
theorem sat_shape {B : Nat} {w : World} {s : Sc} {vM vE : Value} (hs : SAt B w s vM vE) : ∃ A1 q1 A2 q2, vM = .slice A1 s.M.length q1 ∧ vE = .slice A2 s.E.length q2 := by
  obtain ⟨xs, ys, ⟨A1, q1, h1, _⟩, _, ⟨A2, q2, h2, _⟩, _⟩ := hs
  exact ⟨A1, q1, A2, q2, h1, h2⟩
set_option maxRecDepth 1000000 in
set_option maxHeartbeats 4000000 in
theorem tmay_any {s : Sc} (hin : ScIn s) (B D : Nat) (vM vE : Value) (m : Int) (x : Mg) (u : Value) (w : World) (hB : B ≤ w.heap.size) (hs : SAt B w s vM vE) (hx : MRd B w D x u) (hi : MIn x) (hc : x.cnt ≤ 100000) (T : Tabs w) :
    Calls Tryz.prog 15 #[.agg #[vM, vE], .int .i64 m, .agg #[u]] w fun e w' => e = .returned (.bool (mayT s m x)) ∧ Below w.heap.size w w' := by
  obtain ⟨X1, X2, LBD⟩ := two_boxes w (.cells #[vM, vE] 25) (.cells #[u] 28)
  have hb1 := may_b B s vM vE _ (Nat.le_trans hB LBD.size) (SAt.lo hs LBD hB) hin (T.on LBD)
  obtain ⟨A1, q1, A2, q2, rfl, rfl⟩ := sat_shape hs
  obtain ⟨A, c, rfl⟩ := rd_shape hx
  have HI := Lib.hid (fun wx (h : Below w.heap.size w wx) => isOf_any hin 64 (by omega) B D _ _ m x _ wx (Nat.le_trans hB h.size) (SAt.lo hs h hB) (MRd.low (Lo.below h hB) hx) hi hc)
  have HT : Hid (mayT s m x = (@decide (ScMay s) (Classical.propDecidable _) && isB s 64 m x)) := Lib.hid rfl
  obtain ⟨d, hd⟩ : ∃ d, @decide (ScMay s) (Classical.propDecidable _) = d := ⟨_, rfl⟩
  rw [hd] at hb1 HT
  have HB1 := Lib.hid hb1
  clear hb1 hd hs hx hi T
  cases d with
  | false =>
    obtain ⟨x1, x2⟩ := box2' X1
    go_enter Tryz.func15, Tryz.ntmps15
    go_wp2_with (go_at_call 33; refine HB1.out.mono ?_; rintro e w1 ⟨rfl, hb1⟩)
    go_ret
    exact ⟨by rw [HT.out]; rfl, below_then LBD hb1⟩
  | true =>
    obtain ⟨x1, x2⟩ := box2' X1
    go_enter Tryz.func15, Tryz.ntmps15
    go_wp2_with fail
    refine HB1.out.mono ?_
    rintro e w1 ⟨rfl, hb1⟩
    obtain ⟨z1, z2⟩ := box2' (box_on X1 hb1)
    have z3 := bx1 (box_on X2 hb1)
    have HC := Lib.hid (HI.out _ (below_then LBD hb1))
    have HL := Lib.hid (below_then LBD hb1)
    clear x1 x2 X1 X2 hb1 HI
    go_wp2_with fail
    refine HC.out.mono ?_
    rintro e w2 ⟨rfl, hb2⟩
    go_wp2
    go_ret
    exact ⟨by rw [HT.out]; simp, below_then HL.out hb2⟩
set_option maxRecDepth 1000000 in
set_option maxHeartbeats 4000000 in
theorem tval_any {s : Sc} (hin : ScIn s) (B D : Nat) (vM vE : Value) (kind r : Int) (v : Vl') (u : Value) (w : World) (hB : B ≤ w.heap.size) (hs : SAt B w s vM vE) (hv : VAt (Rd B w) D v [.int .i64 v.n, .string (tx v.s), u]) (hi : VIn v) (hc : cV v ≤ 100000) (T : Tabs w) :
    Calls Tryz.prog 19 #[.agg #[vM, vE], .int .i64 kind, .int .i64 r, .agg #[.int .i64 v.n, .string (tx v.s), u]] w fun e w' => e = .returned (.bool (valT s kind r v)) ∧ Below w.heap.size w w' := by
  obtain ⟨X1, X2, LBD⟩ := two_boxes w (.cells #[vM, vE] 25) (.cells #[.int .i64 v.n, .string (tx v.s), u] 31)
  obtain ⟨W2, hW2⟩ : ∃ W, W = (w.alloc (.cells #[vM, vE] 25)).alloc (.cells #[.int .i64 v.n, .string (tx v.s), u] 31) := ⟨_, rfl⟩
  obtain ⟨A1, q1, A2, q2, rfl, rfl⟩ := sat_shape hs
  obtain ⟨A, c, -, -, rfl⟩ := val_shape hv
  rw [← hW2] at X1 X2 LBD
  have hBW : B ≤ W2.heap.size := Nat.le_trans hB LBD.size
  have hD : Below W2.heap.size W2 W2.drew := (Below.refl _ _).drew
  have HB1 := Lib.hid (may_b B s _ _ W2.drew hBW (SAt.lo (SAt.lo hs LBD hB) hD hBW) hin ((T.on LBD).on hD))
  have HA := Lib.hid (fun wx (h : Below W2.heap.size W2 wx) => asks_any (isOf_any hin 63 (by omega)) B D kind r _ _ wx (Nat.le_trans hBW h.size) (SAt.lo (SAt.lo hs LBD hB) h hBW))
  have HV := Lib.hid (fun wx (h : Below W2.heap.size W2 wx) => (VRd.low (Lo.below h hBW) (VRd.low (Lo.below LBD hB) hv) : VAt (Rd B wx) D v _))
  have HT : Hid (valT s kind r v = (@decide (ScMay s) (Classical.propDecidable _) && askG (isB s 63) kind r v)) := Lib.hid rfl
  have HSX : Hid (∀ wx, Below W2.heap.size W2 wx → (wx.cell? ⟨w.heap.size, 0, none⟩ = some (.slice A1 s.M.length q1) ∧ wx.cell? ⟨w.heap.size, 1, none⟩ = some (.slice A2 s.E.length q2)) ∧ (wx.cell? ⟨w.heap.size + 1, 0, none⟩ = some (.int .i64 v.n) ∧ wx.cell? ⟨w.heap.size + 1, 1, none⟩ = some (.string (tx v.s)) ∧ wx.cell? ⟨w.heap.size + 1, 2, none⟩ = some (.slice A v.M.length c))) := Lib.hid (fun wx h => ⟨box2' (box_on X1 h), bx3 (box_on X2 h)⟩)
  obtain ⟨d, hd⟩ : ∃ d, @decide (ScMay s) (Classical.propDecidable _) = d := ⟨_, rfl⟩
  rw [hd] at HB1 HT
  have HL := Lib.hid LBD
  clear hd hs hv T X1 X2 LBD
  cases d with
  | false =>
    go_enter Tryz.func19, Tryz.ntmps19
    go_wp2_with fail
    rw [← hW2]
    clear hW2
    refine wp_region_held_drew (S := (fun w' => (w'.cell? ⟨w.heap.size, 0, none⟩ = some (.slice A1 s.M.length q1) ∧ w'.cell? ⟨w.heap.size, 1, none⟩ = some (.slice A2 s.E.length q2)) ∧ (w'.cell? ⟨w.heap.size + 1, 0, none⟩ = some (.int .i64 v.n) ∧ w'.cell? ⟨w.heap.size + 1, 1, none⟩ = some (.string (tx v.s)) ∧ w'.cell? ⟨w.heap.size + 1, 2, none⟩ = some (.slice A v.M.length c)))) (by kernel_rfl) (HSX.out _ hD) (fun hHeld => ?_)
    refine wpAnyH_take (i := 0) (oi := { dst := some 9, op := Go.Op.load 25 (Go.Operand.tmp 4), type := 25, pos := "typed.go:29", after := #[], guard := none }) (v := ?_) rfl (by kernel_rfl) (by kernel_rfl) (by kernel_rfl) (fun _ _ _ h => h) (Or.inl ⟨by rfl, ?_⟩) hHeld ?_
    rotate_left
    · intro w hSw
      (try dsimp only at hSw)
      go_simp
      all_goals with_reducible rfl
    (try simp only [Act.put, List.setIfInBounds_toArray, List.set_cons_zero, List.set_cons_succ])
    refine wpAnyH_ready (rs := [1]) (by kernel_rfl) (by simp) ?_
    refine AllReadyH.cons (o := { dst := some 10, op := Go.Op.call { callee := Go.Callee.value (Go.Operand.func 33), args := #[Go.Operand.tmp 9], argTypes := #[25] }, type := 4, pos := "typed.go:29", after := #[{ on := 0, ground := Go.Ground.data }], guard := none }) rfl (fun K hK => ?_) AllReadyH.nil
    go_simp
    (go_at_call 33; refine HB1.out.mono ?_; rintro e w1 ⟨rfl, hb1⟩; have L1 := hD.trans hb1)
    go_wp2_with fail
    refine hK.out _ _ (HSX.out _ L1) (fun hHeld => ?_)
    clear hK K
    (try simp only [Act.put, List.setIfInBounds_toArray, List.set_cons_zero, List.set_cons_succ])
    refine wpAnyH_take (i := 2) (oi := { dst := some 11, op := Go.Op.move (Go.Operand.tmp 10), type := 4, pos := "typed.go:29", after := #[{ on := 1, ground := Go.Ground.data }, { on := 1, ground := Go.Ground.chain }], guard := none }) (v := ?_) rfl (by kernel_rfl) (by kernel_rfl) (by kernel_rfl) (fun _ _ _ h => h) (Or.inl ⟨by rfl, ?_⟩) hHeld ?_
    rotate_left
    · intro w hSw
      (try dsimp only at hSw)
      go_simp
      all_goals with_reducible rfl
    (try simp only [Act.put, List.setIfInBounds_toArray, List.set_cons_zero, List.set_cons_succ])
    refine wpAnyH_take (i := 3) (oi := { dst := some 12, op := Go.Op.load 25 (Go.Operand.tmp 4), type := 25, pos := "typed.go:29", after := #[{ on := 2, ground := Go.Ground.guard }], guard := some (2, true) }) (v := undef) rfl (by kernel_rfl) (by kernel_rfl) (by kernel_rfl) (fun _ _ _ h => h) (Or.inr ⟨by rfl, rfl⟩) hHeld ?_
    (try simp only [Act.put, List.setIfInBounds_toArray, List.set_cons_zero, List.set_cons_succ])
    refine wpAnyH_take (i := 4) (oi := { dst := some 13, op := Go.Op.move (Go.Operand.tmp 1), type := 3, pos := "typed.go:29", after := #[{ on := 2, ground := Go.Ground.guard }], guard := some (2, true) }) (v := undef) rfl (by kernel_rfl) (by kernel_rfl) (by kernel_rfl) (fun _ _ _ h => h) (Or.inr ⟨by rfl, rfl⟩) hHeld ?_
    (try simp only [Act.put, List.setIfInBounds_toArray, List.set_cons_zero, List.set_cons_succ])
    refine wpAnyH_take (i := 5) (oi := { dst := some 14, op := Go.Op.move (Go.Operand.tmp 2), type := 3, pos := "typed.go:29", after := #[{ on := 2, ground := Go.Ground.guard }], guard := some (2, true) }) (v := undef) rfl (by kernel_rfl) (by kernel_rfl) (by kernel_rfl) (fun _ _ _ h => h) (Or.inr ⟨by rfl, rfl⟩) hHeld ?_
    (try simp only [Act.put, List.setIfInBounds_toArray, List.set_cons_zero, List.set_cons_succ])
    refine wpAnyH_take (i := 6) (oi := { dst := some 15, op := Go.Op.call { callee := Go.Callee.value (Go.Operand.func 39), args := #[Go.Operand.tmp 12, Go.Operand.tmp 13, Go.Operand.tmp 14, Go.Operand.const (Go.Value.int Go.IntKind.i64 63)], argTypes := #[25, 3, 3, 3] }, type := 64, pos := "typed.go:29", after := #[{ on := 3, ground := Go.Ground.data }, { on := 4, ground := Go.Ground.data }, { on := 5, ground := Go.Ground.data }, { on := 2, ground := Go.Ground.chain }, { on := 2, ground := Go.Ground.guard }], guard := some (2, true) }) (v := undef) rfl (by kernel_rfl) (by kernel_rfl) (by kernel_rfl) (fun _ _ _ h => h) (Or.inr ⟨by rfl, rfl⟩) hHeld ?_
    (try simp only [Act.put, List.setIfInBounds_toArray, List.set_cons_zero, List.set_cons_succ])
    refine wpAnyH_take (i := 7) (oi := { dst := some 16, op := Go.Op.load 31 (Go.Operand.tmp 7), type := 31, pos := "typed.go:29", after := #[{ on := 2, ground := Go.Ground.guard }], guard := some (2, true) }) (v := undef) rfl (by kernel_rfl) (by kernel_rfl) (by kernel_rfl) (fun _ _ _ h => h) (Or.inr ⟨by rfl, rfl⟩) hHeld ?_
    (try simp only [Act.put, List.setIfInBounds_toArray, List.set_cons_zero, List.set_cons_succ])
    refine wpAnyH_take (i := 8) (oi := { dst := some 17, op := Go.Op.call { callee := Go.Callee.value (Go.Operand.tmp 15), args := #[Go.Operand.tmp 16], argTypes := #[31] }, type := 4, pos := "typed.go:29", after := #[{ on := 6, ground := Go.Ground.data }, { on := 7, ground := Go.Ground.data }, { on := 6, ground := Go.Ground.chain }, { on := 2, ground := Go.Ground.guard }], guard := some (2, true) }) (v := undef) rfl (by kernel_rfl) (by kernel_rfl) (by kernel_rfl) (fun _ _ _ h => h) (Or.inr ⟨by rfl, rfl⟩) hHeld ?_
    (try simp only [Act.put, List.setIfInBounds_toArray, List.set_cons_zero, List.set_cons_succ])
    refine wpAnyH_take (i := 9) (oi := { dst := some 18, op := Go.Op.pick (Go.Operand.tmp 11) (Go.Operand.tmp 17) (Go.Operand.const (Go.Value.bool false)), type := 4, pos := "typed.go:29", after := #[{ on := 2, ground := Go.Ground.data }, { on := 8, ground := Go.Ground.data }], guard := none }) (v := ?_) rfl (by kernel_rfl) (by kernel_rfl) (by kernel_rfl) (fun _ _ _ h => h) (Or.inl ⟨by rfl, ?_⟩) hHeld ?_
    rotate_left
    · intro w hSw
      (try dsimp only at hSw)
      go_simp
      all_goals with_reducible rfl
    (try simp only [Act.put, List.setIfInBounds_toArray, List.set_cons_zero, List.set_cons_succ])
    refine wpAnyH_take (i := 10) (oi := { dst := some 8, op := Go.Op.assign (Go.Operand.tmp 18), type := 4, pos := "typed.go:29", after := #[{ on := 9, ground := Go.Ground.data }, { on := 8, ground := Go.Ground.chain }, { on := 0, ground := Go.Ground.phase }, { on := 1, ground := Go.Ground.phase }, { on := 2, ground := Go.Ground.phase }, { on := 3, ground := Go.Ground.phase }, { on := 4, ground := Go.Ground.phase }, { on := 5, ground := Go.Ground.phase }, { on := 6, ground := Go.Ground.phase }, { on := 7, ground := Go.Ground.phase }, { on := 8, ground := Go.Ground.phase }, { on := 9, ground := Go.Ground.phase }], guard := none }) (v := ?_) rfl (by kernel_rfl) (by kernel_rfl) (by kernel_rfl) (fun _ _ _ h => h) (Or.inl ⟨by rfl, ?_⟩) hHeld ?_
    rotate_left
    · intro w hSw
      (try dsimp only at hSw)
      go_simp
      all_goals with_reducible rfl
    (try simp only [Act.put, List.setIfInBounds_toArray, List.set_cons_zero, List.set_cons_succ])
    refine wpAnyH_done (by kernel_rfl) ?_ _
    go_wp2
    go_ret
    exact ⟨by rw [HT.out]; (first | rfl | simp), HL.out.trans (L1.mono HL.out.size)⟩
  | true =>
    go_enter Tryz.func19, Tryz.ntmps19
    go_wp2_with fail
    rw [← hW2]
    clear hW2
    refine wp_region_held_drew (S := (fun w' => (w'.cell? ⟨w.heap.size, 0, none⟩ = some (.slice A1 s.M.length q1) ∧ w'.cell? ⟨w.heap.size, 1, none⟩ = some (.slice A2 s.E.length q2)) ∧ (w'.cell? ⟨w.heap.size + 1, 0, none⟩ = some (.int .i64 v.n) ∧ w'.cell? ⟨w.heap.size + 1, 1, none⟩ = some (.string (tx v.s)) ∧ w'.cell? ⟨w.heap.size + 1, 2, none⟩ = some (.slice A v.M.length c)))) (by kernel_rfl) (HSX.out _ hD) (fun hHeld => ?_)
    refine wpAnyH_take (i := 0) (oi := { dst := some 9, op := Go.Op.load 25 (Go.Operand.tmp 4), type := 25, pos := "typed.go:29", after := #[], guard := none }) (v := ?_) rfl (by kernel_rfl) (by kernel_rfl) (by kernel_rfl) (fun _ _ _ h => h) (Or.inl ⟨by rfl, ?_⟩) hHeld ?_
    rotate_left
    · intro w hSw
      (try dsimp only at hSw)
      go_simp
      all_goals with_reducible rfl
    (try simp only [Act.put, List.setIfInBounds_toArray, List.set_cons_zero, List.set_cons_succ])
    refine wpAnyH_ready (rs := [1]) (by kernel_rfl) (by simp) ?_
    refine AllReadyH.cons (o := { dst := some 10, op := Go.Op.call { callee := Go.Callee.value (Go.Operand.func 33), args := #[Go.Operand.tmp 9], argTypes := #[25] }, type := 4, pos := "typed.go:29", after := #[{ on := 0, ground := Go.Ground.data }], guard := none }) rfl (fun K hK => ?_) AllReadyH.nil
    go_simp
    (go_at_call 33; refine HB1.out.mono ?_; rintro e w1 ⟨rfl, hb1⟩; have L1 := hD.trans hb1)
    go_wp2_with fail
    refine hK.out _ _ (HSX.out _ L1) (fun hHeld => ?_)
    clear hK K
    (try simp only [Act.put, List.setIfInBounds_toArray, List.set_cons_zero, List.set_cons_succ])
    refine wpAnyH_take (i := 2) (oi := { dst := some 11, op := Go.Op.move (Go.Operand.tmp 10), type := 4, pos := "typed.go:29", after := #[{ on := 1, ground := Go.Ground.data }, { on := 1, ground := Go.Ground.chain }], guard := none }) (v := ?_) rfl (by kernel_rfl) (by kernel_rfl) (by kernel_rfl) (fun _ _ _ h => h) (Or.inl ⟨by rfl, ?_⟩) hHeld ?_
    rotate_left
    · intro w hSw
      (try dsimp only at hSw)
      go_simp
      all_goals with_reducible rfl
    (try simp only [Act.put, List.setIfInBounds_toArray, List.set_cons_zero, List.set_cons_succ])
    refine wpAnyH_take (i := 3) (oi := { dst := some 12, op := Go.Op.load 25 (Go.Operand.tmp 4), type := 25, pos := "typed.go:29", after := #[{ on := 2, ground := Go.Ground.guard }], guard := some (2, true) }) (v := ?_) rfl (by kernel_rfl) (by kernel_rfl) (by kernel_rfl) (fun _ _ _ h => h) (Or.inl ⟨by rfl, ?_⟩) hHeld ?_
    rotate_left
    · intro w hSw
      (try dsimp only at hSw)
      go_simp
      all_goals with_reducible rfl
    (try simp only [Act.put, List.setIfInBounds_toArray, List.set_cons_zero, List.set_cons_succ])
    refine wpAnyH_take (i := 4) (oi := { dst := some 13, op := Go.Op.move (Go.Operand.tmp 1), type := 3, pos := "typed.go:29", after := #[{ on := 2, ground := Go.Ground.guard }], guard := some (2, true) }) (v := ?_) rfl (by kernel_rfl) (by kernel_rfl) (by kernel_rfl) (fun _ _ _ h => h) (Or.inl ⟨by rfl, ?_⟩) hHeld ?_
    rotate_left
    · intro w hSw
      (try dsimp only at hSw)
      go_simp
      all_goals with_reducible rfl
    (try simp only [Act.put, List.setIfInBounds_toArray, List.set_cons_zero, List.set_cons_succ])
    refine wpAnyH_take (i := 5) (oi := { dst := some 14, op := Go.Op.move (Go.Operand.tmp 2), type := 3, pos := "typed.go:29", after := #[{ on := 2, ground := Go.Ground.guard }], guard := some (2, true) }) (v := ?_) rfl (by kernel_rfl) (by kernel_rfl) (by kernel_rfl) (fun _ _ _ h => h) (Or.inl ⟨by rfl, ?_⟩) hHeld ?_
    rotate_left
    · intro w hSw
      (try dsimp only at hSw)
      go_simp
      all_goals with_reducible rfl
    (try simp only [Act.put, List.setIfInBounds_toArray, List.set_cons_zero, List.set_cons_succ])
    refine wpAnyH_take (i := 7) (oi := { dst := some 16, op := Go.Op.load 31 (Go.Operand.tmp 7), type := 31, pos := "typed.go:29", after := #[{ on := 2, ground := Go.Ground.guard }], guard := some (2, true) }) (v := ?_) rfl (by kernel_rfl) (by kernel_rfl) (by kernel_rfl) (fun _ _ _ h => h) (Or.inl ⟨by rfl, ?_⟩) hHeld ?_
    rotate_left
    · intro w hSw
      (try dsimp only at hSw)
      go_simp
      all_goals with_reducible rfl
    (try simp only [Act.put, List.setIfInBounds_toArray, List.set_cons_zero, List.set_cons_succ])
    refine wpAnyH_ready (rs := [6]) (by kernel_rfl) (by simp) ?_
    refine AllReadyH.cons (o := { dst := some 15, op := Go.Op.call { callee := Go.Callee.value (Go.Operand.func 39), args := #[Go.Operand.tmp 12, Go.Operand.tmp 13, Go.Operand.tmp 14, Go.Operand.const (Go.Value.int Go.IntKind.i64 63)], argTypes := #[25, 3, 3, 3] }, type := 64, pos := "typed.go:29", after := #[{ on := 3, ground := Go.Ground.data }, { on := 4, ground := Go.Ground.data }, { on := 5, ground := Go.Ground.data }, { on := 2, ground := Go.Ground.chain }, { on := 2, ground := Go.Ground.guard }], guard := some (2, true) }) rfl (fun K hK => ?_) AllReadyH.nil
    go_simp
    (go_at_call 39; refine (HA.out _ L1).mono ?_; rintro e w2 ⟨c2, rfl, hc2, hb2⟩; have L2 := below_then L1 hb2; obtain ⟨fn, caps, rfl, hent, hcl⟩ := hc2; have HCL := Lib.hid (hcl v _ _ (Below.refl _ _) (HV.out _ L2) hi hc); clear hcl)
    go_wp2_with fail
    refine hK.out _ _ (HSX.out _ L2) (fun hHeld => ?_)
    clear hK K
    (try simp only [Act.put, List.setIfInBounds_toArray, List.set_cons_zero, List.set_cons_succ])
    refine wpAnyH_ready (rs := [8]) (by kernel_rfl) (by simp) ?_
    refine AllReadyH.cons (o := { dst := some 17, op := Go.Op.call { callee := Go.Callee.value (Go.Operand.tmp 15), args := #[Go.Operand.tmp 16], argTypes := #[31] }, type := 4, pos := "typed.go:29", after := #[{ on := 6, ground := Go.Ground.data }, { on := 7, ground := Go.Ground.data }, { on := 6, ground := Go.Ground.chain }, { on := 2, ground := Go.Ground.guard }], guard := some (2, true) }) rfl (fun K hK => ?_) AllReadyH.nil
    go_simp
    (refine HCL.out.mono ?_; rintro e w3 ⟨rfl, hb3⟩; have L3 := below_then L2 hb3)
    go_wp2_with fail
    refine hK.out _ _ (HSX.out _ L3) (fun hHeld => ?_)
    clear hK K
    (try simp only [Act.put, List.setIfInBounds_toArray, List.set_cons_zero, List.set_cons_succ])
    refine wpAnyH_take (i := 9) (oi := { dst := some 18, op := Go.Op.pick (Go.Operand.tmp 11) (Go.Operand.tmp 17) (Go.Operand.const (Go.Value.bool false)), type := 4, pos := "typed.go:29", after := #[{ on := 2, ground := Go.Ground.data }, { on := 8, ground := Go.Ground.data }], guard := none }) (v := ?_) rfl (by kernel_rfl) (by kernel_rfl) (by kernel_rfl) (fun _ _ _ h => h) (Or.inl ⟨by rfl, ?_⟩) hHeld ?_
    rotate_left
    · intro w hSw
      (try dsimp only at hSw)
      go_simp
      all_goals with_reducible rfl
    (try simp only [Act.put, List.setIfInBounds_toArray, List.set_cons_zero, List.set_cons_succ])
    refine wpAnyH_take (i := 10) (oi := { dst := some 8, op := Go.Op.assign (Go.Operand.tmp 18), type := 4, pos := "typed.go:29", after := #[{ on := 9, ground := Go.Ground.data }, { on := 8, ground := Go.Ground.chain }, { on := 0, ground := Go.Ground.phase }, { on := 1, ground := Go.Ground.phase }, { on := 2, ground := Go.Ground.phase }, { on := 3, ground := Go.Ground.phase }, { on := 4, ground := Go.Ground.phase }, { on := 5, ground := Go.Ground.phase }, { on := 6, ground := Go.Ground.phase }, { on := 7, ground := Go.Ground.phase }, { on := 8, ground := Go.Ground.phase }, { on := 9, ground := Go.Ground.phase }], guard := none }) (v := ?_) rfl (by kernel_rfl) (by kernel_rfl) (by kernel_rfl) (fun _ _ _ h => h) (Or.inl ⟨by rfl, ?_⟩) hHeld ?_
    rotate_left
    · intro w hSw
      (try dsimp only at hSw)
      go_simp
      all_goals with_reducible rfl
    (try simp only [Act.put, List.setIfInBounds_toArray, List.set_cons_zero, List.set_cons_succ])
    refine wpAnyH_done (by kernel_rfl) ?_ _
    go_wp2
    go_ret
    exact ⟨by rw [HT.out]; (first | rfl | simp), HL.out.trans (L3.mono HL.out.size)⟩
end Go.Proofs.YtjmcpfckcajnjaaGreatDoor.T9
/-
  Rows of the call's own that are not one block: what an append onto that block's row keeps.
-/
namespace Go.Proofs.YtjmcpfckcajnjaaGreatDoor.T9
set_option maxRecDepth 100000

open Go.RowKit

/-- Rows of the call's own, none of them block r. -/
def Ap (b : Nat) (r : Option Nat) (w : World) : RP := fun e size v n xs => w.ownsRow b e size v n xs ∧ (∀ k, v.ownBlock = some k → r ≠ some k) ∧ n ≤ 10000000000000
theorem own_kept {w w' : World} {b : Nat} {e : TypeId} {size : Nat} {v : Value} {n : Nat} {xs : List Value} (h : w.ownsRow b e size v n xs) (hk : ∀ k, v.ownBlock = some k → k < w.heap.size → w'.heap[k]? = w.heap[k]?) : w'.ownsRow b e size v n xs := by
  rcases h with ⟨hl, ⟨rfl, rfl⟩ | ⟨g, cap, cur, rfl, h1, h2, h3⟩⟩
  · exact ⟨hl, .inl ⟨rfl, rfl⟩⟩
  · exact ⟨hl, .inr ⟨g, cap, cur, rfl, h1, (hk g rfl (box_lt h2)).trans h2, h3⟩⟩
theorem own_blk {w : World} {b : Nat} {e : TypeId} {size : Nat} {v : Value} {n : Nat} {xs : List Value} (h : w.ownsRow b e size v n xs) (k : Nat) (hk : v.ownBlock = some k) : b ≤ k ∧ k < w.heap.size := by
  rcases h with ⟨hl, ⟨rfl, rfl⟩ | ⟨g, cap, cur, rfl, h1, h2, h3⟩⟩
  · simp [Value.ownBlock] at hk
  · simp only [Value.ownBlock, Option.some.injEq] at hk
    subst hk
    exact ⟨h1, box_lt h2⟩
theorem Ap.ow {b : Nat} {r : Option Nat} {w : World} (e : TypeId) (size : Nat) (v : Value) (n : Nat) (xs : List Value) (h : Ap b r w e size v n xs) : Ow b w e size v n xs := ⟨h.1, h.2.2⟩
theorem Ap.of {b b' : Nat} {r : Option Nat} {w : World} (hb : b ≤ b') (hr : ∀ k, r = some k → k < b') (e : TypeId) (size : Nat) (v : Value) (n : Nat) (xs : List Value) (h : Ow b' w e size v n xs) : Ap b r w e size v n xs :=
  ⟨own_less h.1 hb, fun k hk e => by have := (own_blk h.1 k hk).1; have := hr k e; omega, h.2⟩
theorem Ap.on {b : Nat} {r : Option Nat} {w w' : World} (hb : Below w.heap.size w w') (e : TypeId) (size : Nat) (v : Value) (n : Nat) (xs : List Value) (h : Ap b r w e size v n xs) : Ap b r w' e size v n xs :=
  ⟨own_kept h.1 fun k _ hk => hb.block k hk, h.2⟩
/-- Behind an append onto the row in block r, which now lies in block g. -/
theorem Ap.grown {b g : Nat} {r : Option Nat} {w w' : World} (hg : w.grownBy w' r) (hn : r = some g ∨ w.heap.size ≤ g) (e : TypeId) (size : Nat) (v : Value) (n : Nat) (xs : List Value) (h : Ap b r w e size v n xs) : Ap b (some g) w' e size v n xs := by
  refine ⟨own_kept h.1 fun k hk hlt => hg.block k hlt fun e => h.2.1 k hk e.symm, fun k hk e => ?_, h.2.2⟩
  obtain rfl := Option.some.inj e
  rcases hn with hn | hn
  · exact h.2.1 g hk hn
  · have := (own_blk h.1 g hk).2
    omega
/-- Behind a store into a box that is no row of these. -/
theorem Ap.box {b g : Nat} {r : Option Nat} {w w' : World} (hg : w.grownBy w' (some g)) (hgb : g < b) (e : TypeId) (size : Nat) (v : Value) (n : Nat) (xs : List Value) (h : Ap b r w e size v n xs) : Ap b r w' e size v n xs :=
  ⟨own_kept h.1 fun k hk hlt => hg.block k hlt fun e => by have := (own_blk h.1 k hk).1; injection e with e; omega, h.2⟩
end Go.Proofs.YtjmcpfckcajnjaaGreatDoor.T9
/-
  The document's own copies of messages, slots and values: Own, Slot, Each.
-/
namespace Go.Proofs.YtjmcpfckcajnjaaGreatDoor.T9
set_option maxRecDepth 100000

open Go.RowKit

/-! ### A list of one's own that grows -/
abbrev EC (α : Type) := RP → α → List Value → Prop
def Mono {α : Type} (C : EC α) : Prop := ∀ {R R' : RP}, (∀ e size v n xs, R e size v n xs → R' e size v n xs) → ∀ a cs, C R a cs → C R' a cs
theorem mono_m (d : Nat) : Mono fun R => MAt R d := fun h a cs => MAt.imp h d a cs
theorem mono_v (d : Nat) : Mono fun R => VAt R d := fun h a cs => vAt.imp h (fun m cs => MAt.imp h d m cs) a cs
theorem mono_s (d : Nat) : Mono fun R => SAt' R d := fun h a cs => sAt.imp h (fun m cs => MAt.imp h d m cs) a cs
/-- The slice v is a row of one's own, of the list l, and no row below it is this one. -/
structure Grow {α : Type} (C : EC α) (e : TypeId) (size b : Nat) (w : World) (v : Value) (l : List α) (xs : List Value) : Prop where
  own : w.ownsRow b e size v l.length xs
  rows : Rows (C (Ap b v.ownBlock w)) l xs
section

variable {α : Type} {C : EC α} {e : TypeId} {size b : Nat} {w w' : World} {v : Value} {l : List α} {xs : List Value}

theorem Grow.nil (C : EC α) (e : TypeId) (size b : Nat) (w : World) : Grow C e size b w (.slice none 0 0) [] [] := ⟨World.ownsRow_nil _ _ _ _, rfl⟩
theorem Grow.on (hC : Mono C) (h : Grow C e size b w v l xs) (hb : Below w.heap.size w w') : Grow C e size b w' v l xs :=
  ⟨own_hi h.own (hi_below b hb), h.rows.imp (hC (Ap.on hb))⟩
theorem Grow.box (hC : Mono C) (h : Grow C e size b w v l xs) {g : Nat} (hg : w.grownBy w' (some g)) (hgb : g < b) : Grow C e size b w' v l xs :=
  ⟨own_hi h.own (hi_grown hg hgb), h.rows.imp (hC (Ap.box hg hgb))⟩
theorem Grow.less (hC : Mono C) (h : Grow C e size b w v l xs) {b' : Nat} (hb : b' ≤ b) : Grow C e size b' w v l xs :=
  ⟨own_less h.own hb, h.rows.imp (hC fun e size v n xs h => ⟨own_less h.1 hb, h.2⟩)⟩
theorem Grow.lt (h : Grow C e size b w v l xs) (k : Nat) (hk : v.ownBlock = some k) : k < w.heap.size := (own_blk h.own k hk).2
theorem Grow.ge (h : Grow C e size b w v l xs) (k : Nat) (hk : v.ownBlock = some k) : b ≤ k := (own_blk h.own k hk).1
/-- Behind an append of an element whose own rows are newer than all. -/
theorem Grow.app (hC : Mono C) (h : Grow C e size b w v l xs) {a : α} {cs : List Value} {b' : Nat} (hbb : b ≤ b') (hv : ∀ k, v.ownBlock = some k → k < b') (ha : C (Ow b' w) a cs) {g cap : Nat}
    (hrow : w'.ownsRow b e size (.slice (some ⟨g, 0, none⟩) (l.length + 1) cap) (l.length + 1) (xs ++ cs)) (hg : w.grownBy w' v.ownBlock) (hat : v.ownBlock = some g ∨ w.heap.size ≤ g) : Grow C e size b w' (.slice (some ⟨g, 0, none⟩) (l.length + 1) cap) (l ++ [a]) (xs ++ cs) :=
  ⟨by rw [List.length_append]; exact hrow, (h.rows.imp (hC (Ap.grown hg hat))).append (Rows.single (hC (Ap.grown hg hat) _ _ (hC (Ap.of hbb hv) _ _ ha)))⟩
theorem Grow.ow (hC : Mono C) (h : Grow C e size b w v l xs) (hl : l.length ≤ 10000000000000) : LsAt (Ow b w) e size (C (Ow b w)) l v := ⟨xs, ⟨h.own, hl⟩, h.rows.imp (hC Ap.ow)⟩
end

theorem sAt.oneA {b : Nat} {r : Option Nat} {w : World} {G : Mg → List Value → Prop} (v : So) (cs : List Value) (h : sAt (Ow b w) G v cs) : ∀ u ∈ cs, u.oneCell' = true := sAt.oneO v cs h
theorem one_msg_ow {b : Nat} {w : World} {d : Nat} {m : Mg} {x : Value} (h : MAt (Ow b w) d m [x]) : ∀ u ∈ [x], u.oneCell' = true := MAt.oneO m [x] h

/-- truffleref09.Own, of messages within so many levels. -/
def ROwnH (B d : Nat) : Prop := ∀ (m : Mg) (u : Value) (w : World), B ≤ w.heap.size → MRd B w d m u → m.cnt ≤ 1000000000 → ∀ b, b ≤ w.heap.size → Calls Tryz.prog 11 #[.agg #[u]] w fun e w' => ∃ x1, e = .returned (.agg #[x1]) ∧ MAt (Ow b w') d m [x1] ∧ Below w.heap.size w w'
theorem cell3 {w : World} {g : Nat} {a b c : Value} {t : TypeId} (h : w.heap[g]? = some (.cells #[a, b, c] t (0, 0))) (x : Value) :
    (w.setCell ⟨g, 2, none⟩ x).heap[g]? = some (.cells #[a, b, x] t (0, 0)) ∧ w.grownBy (w.setCell ⟨g, 2, none⟩ x) (some g) :=
  ⟨heap_setCell_same w g 2 #[a, b, c] t x h, rfl, rfl, rfl, by simp, fun k _ hk => heap_setCell_other _ ⟨g, 2, none⟩ k _ (fun e => hk (by simp [e]))⟩
theorem box_far {w w' : World} {g : Nat} {t : TypeId} {cs : Array Value} {fr : Nat × Nat} {v : Value} {b e size n : Nat} {xs : List Value} (X : w.heap[g]? = some (.cells cs t fr)) (hg : w.grownBy w' v.ownBlock) (hown : w.ownsRow b e size v n xs) (hlt : g < b) : w'.heap[g]? = some (.cells cs t fr) :=
  (hg.block g (box_lt X) fun e => by have := (own_blk hown g e.symm).1; omega).trans X
theorem below_row {w w' : World} {v : Value} {b e size n B : Nat} {xs : List Value} (hg : w.grownBy w' v.ownBlock) (hown : w.ownsRow b e size v n xs) (hB : B ≤ b) (hs : B ≤ w.heap.size) : Below B w w' :=
  ⟨hg.os, hg.tape, hg.output, hg.size, fun k hk => hg.block k (by omega) fun e => by have := (own_blk hown k e.symm).1; omega⟩
theorem take_snoc {α : Type} {l : List α} {k : Nat} {a : α} (h : l[k]? = some a) : l.take k ++ [a] = l.take (k + 1) := by rw [List.take_add_one, h]; rfl
set_option maxRecDepth 1000000 in
set_option maxHeartbeats 8000000 in
theorem each_any {B d : Nat} (H : ROwnH B d) (l : List Vl') (u : Value) (w : World) (hB : B ≤ w.heap.size) (hl : LsAt (Rd B w) 31 3 (VAt (Rd B w) d) l u) (hsm : ∀ x ∈ l, cV x ≤ 1000000000) (hln : l.length ≤ 1000000000) (b : Nat) (hb : b ≤ w.heap.size) :
    Calls Tryz.prog 54 #[u] w fun e w' => ∃ q, e = .returned q ∧ LsAt (Ow b w') 31 3 (VAt (Ow b w') d) l q ∧ Below w.heap.size w w' := by
  obtain ⟨A, c, xs, rfl, hs, hbl, hr, hn⟩ := hl.open_
  obtain ⟨i0, hi, hz0, hz1, hz2⟩ := info_parts info_val
  obtain ⟨j0, hj, hy0, hy1, hy2⟩ := info_parts info_msg
  have HS := Lib.hid hs
  have HR := Lib.hid hr
  have HBB := Lib.hid hbl
  have HH := Lib.hid H
  have HSM := Lib.hid hsm
  clear hs hr hl hbl H hsm
  go_enter Tryz.func54, Tryz.ntmps54
  go_wp2
  go_loopw [3, 4, 5, 6] (fun o i _ _ wr => ∃ (k : Nat) (xs : List Value), i = .int .i64 k ∧ k ≤ l.length ∧ Grow (fun R => VAt R d) 31 3 w.heap.size wr o (l.take k) xs ∧ Below w.heap.size w wr) (fun _ i _ _ _ => l.length - (intOf i).toNat)
  case atStart => exact ⟨0, [], rfl, by omega, Grow.nil _ _ _ _ _, Below.refl _ _⟩
  case round =>
    obtain ⟨k, ys, rfl, hk, hgr, hbw⟩ := hrel
    by_cases hlt : k < l.length
    · obtain ⟨a, ha⟩ : ∃ a, l[k]? = some a := ⟨_, List.getElem?_eq_getElem hlt⟩
      obtain ⟨ad, x, y, z, rfl, hga, hcc, c0, c1, c2⟩ := row3 vAt.len (sl_low HS.out HBB.out (Lo.below hbw hB)) (HR.out.imp fun a cs h => VRd.low (Lo.below hbw hB) h) ha
      obtain ⟨um, hu, hlm⟩ := hcc
      simp only [List.cons.injEq, and_true] at hu
      obtain ⟨rfl, rfl, rfl⟩ := hu
      obtain ⟨AM, cM, xsM, rfl, hsM, hbM, hrM, hnM⟩ := hlm.open_
      have hml := cV_M a
      have hcv := HSM.out a (List.mem_of_getElem? ha)
      have hsM0 := Lib.hid hsM
      have HRMM := Lib.hid hrM
      have hbM0 := Lib.hid hbM
      have HA := Lib.hid ha
      have HG := Lib.hid hgr
      have HBW := Lib.hid hbw
      clear ha hgr hsM hrM hbM hlm hbw
      go_wp2
      have hS : wr.cell? (ad.add (k * 3)) = some (.int .i64 a.n) ∧ wr.cell? ⟨(ad.add (k * 3)).block, (ad.add (k * 3)).off + 1, none⟩ = some (.string (tx a.s)) := ⟨c0, c1⟩
      go_region_held3 (fun w' => w'.cell? (ad.add (k * 3)) = some (.int .i64 a.n) ∧ w'.cell? ⟨(ad.add (k * 3)).block, (ad.add (k * 3)).off + 1, none⟩ = some (.string (tx a.s)))
        (first | exact hS | exact ⟨cell_on (below_new wr _) hS.1, cell_on (below_new wr _) hS.2⟩ | go_keep)
        (fail)
      obtain ⟨w5, hw5⟩ : ∃ x, x = wr := ⟨_, rfl⟩
      subst hw5
      obtain ⟨G, hG⟩ : ∃ G, G = w5.heap.size := ⟨_, rfl⟩
      have X1 : (w5.alloc (.cells #[.int .i64 a.n, .string (tx a.s), .slice none 0 0] 31)).drew.heap[G]? = some (.cells #[.int .i64 a.n, .string (tx a.s), .slice none 0 0] 31 (0, 0)) := by rw [hG]; exact heap_alloc_new w5 _
      have LBD : Below G w5 (w5.alloc (.cells #[.int .i64 a.n, .string (tx a.s), .slice none 0 0] 31)).drew := by rw [hG]; exact (below_new w5 _).trans (Below.refl _ _).drew
      have hsz : (w5.alloc (.cells #[.int .i64 a.n, .string (tx a.s), .slice none 0 0] 31)).drew.heap.size = G + 1 := by rw [hG]; show (w5.alloc _).heap.size = _; simp
      rw [← hG]
      obtain ⟨W0, hW0⟩ : ∃ W, W = (w5.alloc (.cells #[.int .i64 a.n, .string (tx a.s), .slice none 0 0] 31)).drew := ⟨_, rfl⟩
      rw [← hW0] at X1 LBD hsz ⊢
      have C2 := Lib.hid c2
      have HAD := Lib.hid (show (ad.add (k * 3)).block < G by rw [hG, show (ad.add (k * 3)).block = ad.block from add_same_block _ _]; exact hga)
      have HSM2 := Lib.hid (fun wx (hx : Below G w5 wx) => sl_low hsM0.out hbM0.out (Lo.of (hx.mono (by rw [hG]; exact Nat.le_trans hB HBW.out.size))))
      have HGE := Lib.hid hG
      clear hS hW0 c0 c1 c2 hG
      go_wp2
      go_loopw [6] (fun j wx => ∃ (q : Nat) (v : Value) (zs : List Value), j = .int .i64 q ∧ q ≤ a.M.length ∧ wx.heap[G]? = some (.cells #[.int .i64 a.n, .string (tx a.s), v] 31 (0, 0)) ∧ Grow (fun R => MAt R d) 28 1 (G + 1) wx v (a.M.take q) zs ∧ Below G w5 wx ∧ G + 1 ≤ wx.heap.size) (fun j _ => a.M.length - (intOf j).toNat)
      case atStart => exact ⟨0, _, [], rfl, by omega, X1, Grow.nil _ _ _ _ _, LBD, by omega⟩
      case round =>
        obtain ⟨q, v, zs, rfl, hq, hX, hgx, hbx, hsx⟩ := hrel
        have k2 : wr.cell? ⟨(ad.add (k * 3)).block, (ad.add (k * 3)).off + 2, none⟩ = some (.slice AM a.M.length cM) := (hbx.cell (p := ⟨(ad.add (k * 3)).block, (ad.add (k * 3)).off + 2, none⟩) HAD.out).trans C2.out
        have HGX := Lib.hid hgx
        have HBX := Lib.hid hbx
        have HX := Lib.hid hX
        have hBw : B ≤ wr.heap.size := by have := HBW.out.size; have := hbx.size; omega
        clear hgx hbx
        by_cases hql : q < a.M.length
        · obtain ⟨x, hx⟩ : ∃ x, a.M[q]? = some x := ⟨_, List.getElem?_eq_getElem hql⟩
          have hlo : Lo B w5 wr := Lo.of (HBX.out.mono (by rw [HGE.out]; exact Nat.le_trans hB HBW.out.size))
          obtain ⟨am, ux, rfl, hgam, hcx, k0⟩ := row1 MAt.len (sl_low hsM0.out hbM0.out hlo) (HRMM.out.imp fun a cs h => MRd.low hlo h) hx
          have hcnt := cnt_le (List.mem_of_getElem? hx)
          have hD : Below wr.heap.size wr wr.drew := (Below.refl _ _).drew
          have HCX := Lib.hid (HH.out x ux wr.drew hBw (MRd.low (Lo.below hD hBw) hcx) (by omega) wr.heap.size (Nat.le_refl _))
          have HXX := Lib.hid hx
          have g2 := (bx3 hX).2.2
          have hlq : (a.M.take q).length = q := by rw [List.length_take]; omega
          clear hcx hx hlo hX
          go_wp2_with fail
          go_region_law
            (first
              | (refine step_append_lies _ rfl _ _ 29 rfl (G + 1) 28 j0 _ 1 24 Tryz.underlying29 hj hy0 hy1 hy2 rfl (by decide) v (a.M.take q).length zs (by simp [Act.eval, Act.put]) HG8.out.own ⟨w7.heap.size, 0, none⟩ 1 1 [x1] (by simp [Act.eval, Act.put]) rfl (World.news_of_block (heap_alloc_new _ _)) (one_msg_ow ho7) (by decide) (by unfold maxLen; omega) (by omega) (by simp; omega) w7.heap.size.succ (by simp) ?_; intro g8 cap8 w8 hown8 hg8 hat8 hlt8; have hX8 := Lib.hid (box_far (box_on HX7.out (below_new w7 (.cells #[x1] 28))) hg8 HG8.out.own (Nat.lt_succ_self G)); have f8 : w8.frozen? ⟨G, 2, none⟩ = false := (by simp [World.frozen?, hX8.out]); have c8 := (bx3 hX8.out).2.2)
              | (go_simp; refine HCX.out.mono ?_; rintro e w7 ⟨x1, rfl, ho7, hb7⟩; have hb7d := Lib.hid (hD.trans hb7); have HX7 := Lib.hid (box_on HX.out hb7d.out); have c7 := (bx3 HX7.out).2.2; have HG8 := Lib.hid ((HGX.out.on (mono_m d) hb7d.out).on (mono_m d) (below_new w7 (.cells #[x1] 28))); have hs7 : wr.heap.size ≤ w7.heap.size := hb7d.out.size; have hgl : G < w7.heap.size := Nat.lt_of_lt_of_le hsx hs7)
              | fail)
          all_goals
            obtain ⟨Z1, Z2⟩ := cell3 hX8.out (.slice (some ⟨g8, 0, none⟩) ((a.M.take q).length + 1) cap8)
            have hnew := (Grow.app (mono_m d) HG8.out (a := x) (b' := wr.heap.size) (by omega) (fun k hk => HGX.out.lt k hk) (MAt.imp (Ow.hi (hi_below _ (below_new w7 (.cells #[x1] 28)))) d _ _ ho7) hown8 hg8 (hat8.imp id fun h => by rw [h]; simp)).box (mono_m d) Z2 (Nat.lt_succ_self G)
            rw [take_snoc HXX.out] at hnew
            rw [hlq] at hnew Z1 Z2
            have hbz : Below G wr _ := ((hb7d.out.mono (by omega)).trans ((below_new w7 (.cells #[x1] 28)).mono (by omega))).trans ((below_row hg8 HG8.out.own (Nat.le_succ G) (by simp; omega)).trans (below_own Z2 (Nat.le_refl _) (by have := hg8.size; simp at this; omega)))
            try rw [hlq]
            go_wp2
            refine ⟨⟨q + 1, _, _, by go_num, by omega, Z1, hnew, HBX.out.trans hbz, by have := hbz.size; omega⟩, by simp [intOf]; omega⟩
        · obtain rfl : q = a.M.length := by omega
          obtain ⟨g0, g1, g2⟩ := bx3 hX
          have hlk : (l.take k).length = k := by rw [List.length_take]; omega
          have hw5 : Below w5.heap.size w5 wr := HGE.out ▸ HBX.out
          have HO := Lib.hid ((HG.out.on (mono_v d) hw5).on (mono_v d) (below_new wr (.cells #[.int .i64 a.n, .string (tx a.s), v] 31)))
          have hgx2 := HGX.out
          rw [List.take_length] at hgx2
          have HM := Lib.hid ((hgx2.on (mono_m d) (below_new wr (.cells #[.int .i64 a.n, .string (tx a.s), v] 31))).ow (mono_m d) hnM)
          have hwr : w.heap.size ≤ wr.heap.size := Nat.le_trans HBW.out.size hw5.size
          have h1c : ∀ u ∈ [Value.int .i64 a.n, .string (tx a.s), v], u.oneCell' = true := vAt.oneO a _ ⟨v, rfl, HM.out⟩
          have HV := Lib.hid (fun k hk => HG.out.lt k hk)
          have HBO := Lib.hid (below_then (HBW.out.trans (hw5.mono HBW.out.size)) (below_new wr (.cells #[.int .i64 a.n, .string (tx a.s), v] 31)))
          have HW5 := Lib.hid hw5
          clear hgx2 hX hw5 HGX
          go_wp2_with (at_builtin; refine wpList_append_lies _ rfl _ _ 34 rfl w.heap.size 31 i0 _ 3 48 Tryz.underlying34 hi hz0 hz1 hz2 rfl (by decide) _ (l.take k).length _ rfl HO.out.own ⟨wr.heap.size, 0, none⟩ 1 1 [.int .i64 a.n, .string (tx a.s), v] rfl rfl (World.news_of_block (heap_alloc_new _ _)) h1c (by decide) (by unfold maxLen; omega) (by omega) (by simp; omega) wr.heap.size.succ (by simp) ?_; intro g8 cap8 w8 hown8 hg8 hat8 hlt8)
          have hnew := Grow.app (mono_v d) HO.out (a := a) (b' := G + 1) (show w.heap.size ≤ G + 1 by rw [HGE.out]; exact Nat.le_succ_of_le HBW.out.size) (fun k hk => by have := HV.out k hk; rw [HGE.out]; omega) ⟨v, rfl, HM.out⟩ hown8 hg8 (hat8.imp id fun h => by rw [h]; simp)
          rw [take_snoc HA.out, hlk] at hnew
          exact ⟨⟨k + 1, _, by go_num, by omega, hnew, HBO.out.trans (below_row hg8 HO.out.own (Nat.le_refl _) HBO.out.size)⟩, by simp [intOf]; omega⟩
    · obtain rfl : k = l.length := by omega
      go_wp2
      go_ret
      have hq := hgr
      rw [List.take_length] at hq
      have hq2 := hq.ow (mono_v d) (by omega)
      exact ⟨_, rfl, hq2.imp (Ow.less hb) (fun a cs h => mono_v d (Ow.less hb) a cs h), hbw⟩
theorem rslot_end {w wl : World} {d b : Nat} {s : So} {q1 q2 : Value} {t : TypeId} {u0 u1 u2 : Value} (hb : b ≤ w.heap.size) (X : wl.heap[w.heap.size + 1]? = some (.cells #[u0, u1, u2] t (0, 0)))
    (hk : LsAt (Ow (w.heap.size + 2) wl) 31 3 (VAt (Ow (w.heap.size + 2) wl) d) s.K q1) (hv : LsAt (Ow (w.heap.size + 2) wl) 31 3 (VAt (Ow (w.heap.size + 2) wl) d) s.V q2) (hB : Below w.heap.size w wl) :
    ∃ w4, (((wl.setCell ⟨w.heap.size + 1, 0, none⟩ (.int .i64 s.no)).setCell ⟨w.heap.size + 1, 1, none⟩ q1).setCell ⟨w.heap.size + 1, 2, none⟩ q2) = w4 ∧ w4.heap[w.heap.size + 1]? = some (.cells #[.int .i64 s.no, q1, q2] t (0, 0)) ∧
      SAt' (Ow b w4) d s [.int .i64 s.no, q1, q2] ∧ Below w.heap.size w w4 := ownSlot_end hb X hk hv hB
set_option maxRecDepth 1000000 in
set_option maxHeartbeats 4000000 in
theorem rslot_any {B d : Nat} (H : ROwnH B d) (s : So) (u1 u2 : Value) (w : World) (hB : B ≤ w.heap.size) (hs : SAt' (Rd B w) d s [.int .i64 s.no, u1, u2]) (hsm : cS s ≤ 1000000000) (b : Nat) (hb : b ≤ w.heap.size) :
    Calls Tryz.prog 29 #[.agg #[.int .i64 s.no, u1, u2]] w fun e w' => ∃ x1 x2 x3, e = .returned (.agg #[x1, x2, x3]) ∧ SAt' (Ow b w') d s [x1, x2, x3] ∧ Below w.heap.size w w' := by
  obtain ⟨u1', u2', hu, hk, hv⟩ := hs
  simp only [List.cons.injEq, and_true, true_and] at hu
  obtain ⟨rfl, rfl⟩ := hu
  obtain ⟨X1, X2, LBD⟩ := two_boxesD w (.cells #[.int .i64 s.no, u1, u2] 36) (.cells #[.int .i64 0, .slice none 0 0, .slice none 0 0] 36)
  have LSZ := two_size w (.cells #[.int .i64 s.no, u1, u2] 36) (.cells #[.int .i64 0, .slice none 0 0, .slice none 0 0] 36)
  have hln := cS_len (s := s)
  have HK := Lib.hid (fun wx (hx : Below w.heap.size w wx) (hz : w.heap.size + 2 ≤ wx.heap.size) => each_any H s.K u1 wx (Nat.le_trans hB hx.size) (hk.low (Lo.below hx hB) fun a cs h => VRd.low (Lo.below hx hB) h) (fun x hx => by have := cV_le (s := s) (.inl hx); omega) (by omega) (w.heap.size + 2) hz)
  have HV := Lib.hid (fun wx (hx : Below w.heap.size w wx) (hz : w.heap.size + 2 ≤ wx.heap.size) => each_any H s.V u2 wx (Nat.le_trans hB hx.size) (hv.low (Lo.below hx hB) fun a cs h => VRd.low (Lo.below hx hB) h) (fun x hx => by have := cV_le (s := s) (.inr hx); omega) (by omega) (w.heap.size + 2) hz)
  clear hk hv H hsm hln
  go_enter Tryz.func29, Tryz.ntmps29
  go_wp2_with fail
  have hS := bx3 X1
  go_region_held3 (fun w' => w'.cell? ⟨w.heap.size, 0, none⟩ = some (.int .i64 s.no) ∧ w'.cell? ⟨w.heap.size, 1, none⟩ = some u1 ∧ w'.cell? ⟨w.heap.size, 2, none⟩ = some u2)
    (first | exact hS | exact bx3 (box_on (box_on X1 hbK) hbV) | exact bx3 (box_on (box_on X1 hbV) hbK) | exact bx3 (box_on X1 hbK) | exact bx3 (box_on X1 hbV) | go_keep)
    ((first
      | (go_at_call 54; (with_reducible refine (HK.out _ (by first | exact LBD | exact LBD.trans (hbV.mono LBD.size)) (by first | exact LSZ | exact Nat.le_trans LSZ hbV.size)).mono ?_); rintro e wK ⟨qK, rfl, hoK, hbK⟩; obtain ⟨zK, ⟨hownK, hzK⟩, hrK⟩ := id hoK; obtain ⟨AK, cK, rfl, -⟩ := Sl.of_own hownK; clear hownK hzK hrK; have X3 : wK.heap[w.heap.size + 1]? = some (.cells #[.int .i64 0, .slice none 0 0, .slice none 0 0] 36 (0, 0)) := (by first | exact box_on X2 hbK | exact box_on (box_on X2 hbV) hbK); obtain ⟨⟨y0, y1, y2⟩, y3, y4, y5⟩ := wr3 X3)
      | (go_at_call 54; (with_reducible refine (HV.out _ (by first | exact LBD | exact LBD.trans (hbK.mono LBD.size)) (by first | exact LSZ | exact Nat.le_trans LSZ hbK.size)).mono ?_); rintro e wV ⟨qV, rfl, hoV, hbV⟩; obtain ⟨zV', ⟨hownV, hzV⟩, hrV⟩ := id hoV; obtain ⟨AV, cV', rfl, -⟩ := Sl.of_own hownV; clear hownV hzV hrV; have X3 : wV.heap[w.heap.size + 1]? = some (.cells #[.int .i64 0, .slice none 0 0, .slice none 0 0] 36 (0, 0)) := (by first | exact box_on X2 hbV | exact box_on (box_on X2 hbK) hbV); obtain ⟨⟨y0, y1, y2⟩, y3, y4, y5⟩ := wr3 X3)))
  all_goals
    obtain ⟨w4, hw4, Z1, hat, hb4⟩ : ∃ w4, _ = w4 ∧ _ := by
      first
        | exact ownSlot_end hb (box_on (box_on X2 hbK) hbV) (vals_on hbV hoK) hoV (below_then (below_then LBD hbK) hbV)
        | exact ownSlot_end hb (box_on (box_on X2 hbV) hbK) hoK (vals_on hbK hoV) (below_then (below_then LBD hbV) hbK)
    rw [hw4]
    clear hw4
    go_wp2
    refine bodyPost_ret (results_cell_row rfl _ _ (w.heap.size + 1) _ _ (0, 0) _ rfl Z1 Tryz.underlying36 rfl sz_slot) rfl ?_
    exact ⟨_, _, _, rfl, hat, hb4⟩
theorem cell1 {w : World} {g : Nat} {a : Value} {t : TypeId} (h : w.heap[g]? = some (.cells #[a] t (0, 0))) (x : Value) :
    (w.setCell ⟨g, 0, none⟩ x).heap[g]? = some (.cells #[x] t (0, 0)) ∧ w.grownBy (w.setCell ⟨g, 0, none⟩ x) (some g) :=
  ⟨heap_setCell_same w g 0 #[a] t x h, rfl, rfl, rfl, by simp, fun k _ hk => heap_setCell_other _ ⟨g, 0, none⟩ k _ (fun e => hk (by simp [e]))⟩
set_option maxRecDepth 1000000 in
set_option maxHeartbeats 8000000 in
theorem rown_grow {B d : Nat} (H : ROwnH B d) (m : Mg) (u : Value) (w : World) (hB : B ≤ w.heap.size) (hm : MRd B w (d + 1) m u) (hsm : m.cnt ≤ 1000000000) (b : Nat) (hb : b ≤ w.heap.size) :
    Calls Tryz.prog 11 #[.agg #[u]] w fun e w' => ∃ x1 zs, e = .returned (.agg #[x1]) ∧ Grow (fun R => SAt' R d) 36 3 b w' x1 m.F zs ∧ m.F.length ≤ 10000000000000 ∧ Below w.heap.size w w' := by
  obtain ⟨u', hu, hl⟩ := hm
  simp only [List.cons.injEq, and_true] at hu
  subst hu
  obtain ⟨A, c, xs, rfl, hs, hbl, hr, hn⟩ := hl.open_
  obtain ⟨i0, hi, hz0, hz1, hz2⟩ := info_parts info_slot
  have hcf := cnt_F m
  obtain ⟨T1, T2, T3, L3⟩ := three_boxes w (.cells #[.slice A m.F.length c] 28) (.cells #[.slice none 0 0] 28) (.cells #[.slice none 0 0] 28)
  have hsz3 : (((w.alloc (.cells #[.slice A m.F.length c] 28)).alloc (.cells #[.slice none 0 0] 28)).alloc (.cells #[.slice none 0 0] 28)).heap.size = w.heap.size + 3 := by simp
  have HS := Lib.hid hs
  have HR := Lib.hid hr
  have HBB := Lib.hid hbl
  have HH := Lib.hid H
  clear hs hr hl hbl H
  go_enter Tryz.func11, Tryz.ntmps11
  go_wp2
  obtain ⟨W0, hW0⟩ : ∃ W, W = (((w.alloc (.cells #[.slice A m.F.length c] 28)).alloc (.cells #[.slice none 0 0] 28)).alloc (.cells #[.slice none 0 0] 28)) := ⟨_, rfl⟩
  rw [← hW0] at T1 T2 T3 L3 hsz3
  (try rw [← hW0])
  clear hW0
  go_loopw [4] (fun i wr => ∃ (k : Nat) (v : Value) (zs : List Value), i = .int .i64 k ∧ k ≤ m.F.length ∧ wr.heap[w.heap.size + 2]? = some (.cells #[v] 28 (0, 0)) ∧ Grow (fun R => SAt' R d) 36 3 (w.heap.size + 3) wr v (m.F.take k) zs ∧ Below (w.heap.size + 2) W0 wr ∧ w.heap.size + 3 ≤ wr.heap.size) (fun i _ => m.F.length - (intOf i).toNat)
  case atStart => exact ⟨0, _, [], rfl, by omega, T3, Grow.nil _ _ _ _ _, Below.refl _ _, by omega⟩
  case round =>
    obtain ⟨k, v, zs, rfl, hk, hX, hgx, hbx, hsx⟩ := hrel
    have hm1 := (hbx.block _ (show w.heap.size < w.heap.size + 2 by omega)).trans T1
    have hm2 := (hbx.block _ (show w.heap.size + 1 < w.heap.size + 2 by omega)).trans T2
    have k0 := bx1 hm1
    have g0 := bx1 hX
    have HGX := Lib.hid hgx
    have HBX := Lib.hid hbx
    have HX := Lib.hid hX
    have hBw : B ≤ wr.heap.size := by omega
    have hlo : Lo B w wr := Lo.of ((L3.trans (hbx.mono (by omega))).mono hB)
    clear hgx hbx hX
    by_cases hlt : k < m.F.length
    · obtain ⟨a, ha⟩ : ∃ a, m.F[k]? = some a := ⟨_, List.getElem?_eq_getElem hlt⟩
      obtain ⟨ad, x, y, z, rfl, hga, hcc, c0, c1, c2⟩ := row3 sAt.len (sl_low HS.out HBB.out hlo) (HR.out.imp fun a cs h => SRd.low hlo h) ha
      obtain ⟨B1, d1, B2, d2, hx, hy, hz⟩ := slot_shape hcc
      subst hx hy hz
      have hcs := cS_le (List.mem_of_getElem? ha)
      have hD : Below wr.heap.size wr wr.drew := (Below.refl _ _).drew
      have HCX := Lib.hid (rslot_any HH.out a _ _ wr.drew hBw (SRd.low (Lo.below hD hBw) hcc) (by omega) wr.heap.size (Nat.le_refl _))
      have HA := Lib.hid ha
      have hlq : (m.F.take k).length = k := by rw [List.length_take]; omega
      clear hcc ha hlo hm1 hm2
      go_wp2_with fail
      go_region_law
        (first
          | (refine step_append_lies _ rfl _ _ 26 rfl (w.heap.size + 3) 36 i0 _ 3 56 Tryz.underlying26 hi hz0 hz1 hz2 rfl (by decide) v (m.F.take k).length zs (by simp [Act.eval, Act.put]) HG8.out.own ⟨w7.heap.size, 0, none⟩ 1 1 [x1, x2, x3] (by simp [Act.eval, Act.put]) rfl (World.news_of_block (heap_alloc_new _ _)) (sAt.oneO _ _ ho7) (by decide) (by unfold maxLen; omega) (by omega) (by simp; omega) w7.heap.size.succ (by simp) ?_; intro g8 cap8 w8 hown8 hg8 hat8 hlt8; have hX8 := Lib.hid (box_far (box_on HX7.out (below_new w7 (.cells #[x1, x2, x3] 36))) hg8 HG8.out.own (Nat.lt_succ_self (w.heap.size + 2))); have f8 : w8.frozen? ⟨w.heap.size + 2, 0, none⟩ = false := (by simp [World.frozen?, hX8.out]); have c8 := bx1 hX8.out)
          | (go_simp; refine HCX.out.mono ?_; rintro e w7 ⟨x1, x2, x3, rfl, ho7, hb7⟩; have hb7d := Lib.hid (hD.trans hb7); have HX7 := Lib.hid (box_on HX.out hb7d.out); have c7 := bx1 HX7.out; have HG8 := Lib.hid ((HGX.out.on (mono_s d) hb7d.out).on (mono_s d) (below_new w7 (.cells #[x1, x2, x3] 36))); have hs7 : wr.heap.size ≤ w7.heap.size := hb7d.out.size; have hgl : w.heap.size + 2 < w7.heap.size := Nat.lt_of_lt_of_le hsx hs7)
          | fail)
      all_goals
        obtain ⟨Z1, Z2⟩ := cell1 hX8.out (.slice (some ⟨g8, 0, none⟩) ((m.F.take k).length + 1) cap8)
        have hnew := (Grow.app (mono_s d) HG8.out (a := a) (b' := wr.heap.size) (by omega) (fun k hk => HGX.out.lt k hk) (mono_s d (Ow.hi (hi_below _ (below_new w7 (.cells #[x1, x2, x3] 36)))) _ _ ho7) hown8 hg8 (hat8.imp id fun h => by rw [h]; simp)).box (mono_s d) Z2 (Nat.lt_succ_self (w.heap.size + 2))
        rw [take_snoc HA.out] at hnew
        rw [hlq] at hnew Z1 Z2
        have hbz : Below (w.heap.size + 2) wr _ := ((hb7d.out.mono (by omega)).trans ((below_new w7 (.cells #[x1, x2, x3] 36)).mono (by omega))).trans ((below_row hg8 HG8.out.own (Nat.le_succ _) (by simp; omega)).trans (below_own Z2 (Nat.le_refl _) (by have := hg8.size; simp at this; omega)))
        try rw [hlq]
        go_wp2
        refine ⟨⟨k + 1, _, _, by go_num, by omega, Z1, hnew, HBX.out.trans hbz, by have h1 := hbz.size; have h2 := hg8.size; simp at h1 h2 ⊢; omega⟩, by simp [intOf]; omega⟩
    · obtain rfl : k = m.F.length := by omega
      have r0 := bx1 hm2
      have r1 : wr.frozen? ⟨w.heap.size + 1, 0, none⟩ = false := by simp [World.frozen?, hm2]
      have hgx2 := HGX.out
      rw [List.take_length] at hgx2
      obtain ⟨Av, cv, rfl, -⟩ := Sl.of_own hgx2.own
      go_wp2
      obtain ⟨Z1, Z2⟩ := cell1 hm2 (.slice Av m.F.length cv)
      refine bodyPost_ret (results_cell_row rfl _ _ (w.heap.size + 1) _ _ (0, 0) _ rfl Z1 Tryz.underlying28 rfl sz_msg) rfl ?_
      exact ⟨_, _, rfl, (hgx2.box (mono_s d) Z2 (show w.heap.size + 1 < w.heap.size + 3 by omega)).less (mono_s d) (by omega), hn, (L3.trans (HBX.out.mono (by omega))).trans (below_own Z2 (by omega) (by omega))⟩
theorem rown_step {B d : Nat} (H : ROwnH B d) : ROwnH B (d + 1) := by
  intro m u w hB hm hsm b hb
  refine (rown_grow H m u w hB hm hsm b hb).mono ?_
  rintro e w' ⟨x1, zs, rfl, h1, h2, h3⟩
  exact ⟨x1, rfl, ⟨_, rfl, h1.ow (mono_s d) h2⟩, h3⟩
/-- truffleref09.Own, of any message. -/
theorem rown_any (B : Nat) : ∀ d, ROwnH B d
  | 0 => fun _ _ _ _ h _ => h.elim
  | d + 1 => rown_step (rown_any B d)
end Go.Proofs.YtjmcpfckcajnjaaGreatDoor.T9
/-
  Normal, and Is, of a message without anything that is told: their contracts, as the statements' first call asks for them.
-/
namespace Go.Proofs.YtjmcpfckcajnjaaGreatDoor.T9
set_option maxRecDepth 100000
open Go.Proofs.YtjmcpfckcajnjaaGreatDoor.T4
open Go.RowKit Go.Maps

def defB (v : Vl') : Bool := (v.n == 0) && (v.s.isEmpty && v.M.isEmpty)
def toldB (f : Df) (l : List Vl') : Bool := match l with
  | [] => false
  | v :: _ => f.rep || (f.key != -1 || (f.one != 0 || (f.kind == 9 || !defB v)))
set_option maxRecDepth 1000000 in
set_option maxHeartbeats 2000000 in
theorem isDefault_any (v : Vl') (A : Option Addr) (c : Nat) (w : World) :
    Calls Tryz.prog 101 #[.agg #[.int .i64 v.n, .string (tx v.s), .slice A v.M.length c]] w fun e w' => e = .returned (.bool (defB v)) ∧ Below w.heap.size w w' := by
  have LBD := below_new w (.cells #[.int .i64 v.n, .string (tx v.s), .slice A v.M.length c] 31)
  have HB : Hid (defB v = ((v.n == 0) && ((tx v.s).toList.isEmpty && ((v.M.length : Int) == 0)))) := Lib.hid (by unfold defB; rw [emp_str v.s, emp_len v.M])
  obtain ⟨d1, hd1⟩ : ∃ d, (v.n == 0) = d := ⟨_, rfl⟩
  obtain ⟨d2, hd2⟩ : ∃ d, (tx v.s).toList.isEmpty = d := ⟨_, rfl⟩
  obtain ⟨d3, hd3⟩ : ∃ d, ((v.M.length : Int) == 0) = d := ⟨_, rfl⟩
  rw [hd1, hd2, hd3] at HB
  cases d1 <;> cases d2 <;> cases d3
  all_goals
    go_enter Tryz.func101, Tryz.ntmps101
    go_wp2
    go_ret
    exact ⟨by rw [HB.out]; rfl, LBD⟩
set_option maxRecDepth 1000000 in
set_option maxHeartbeats 4000000 in
theorem isTold_any (B D : Nat) (f : Df) (l : List Vl') (u : Value) (w : World) (hB : B ≤ w.heap.size) (hl : LsAt (Rd B w) 31 3 (VAt (Rd B w) D) l u) :
    Calls Tryz.prog 56 #[.agg #[.int .i64 f.no, .string (txt f.name), .int .i64 f.kind, .int .i64 f.ref, .bool f.rep, .int .i64 f.key, .int .i64 f.one], u] w fun e w' => e = .returned (.bool (toldB f l)) ∧ Below w.heap.size w w' := by
  obtain ⟨A, c, xs, rfl, hs, hb, hr, hn⟩ := hl.open_
  have LBD := below_new w (dC f)
  have X1 := heap_alloc_new w (dC f)
  cases l with
  | nil =>
    go_enter Tryz.func56, Tryz.ntmps56
    go_wp2
    go_ret
    exact ⟨rfl, LBD⟩
  | cons v l =>
    have hlo : Lo B w (w.alloc (dC f)) := Lo.below LBD hB
    obtain ⟨ad, x, y, z, rfl, hg, hca, c0, c1, c2⟩ := row3 (k := 0) vAt.len (sl_low hs hb hlo) (hr.imp fun a cs h => VRd.low hlo h) (show (v :: l)[0]? = some v from rfl)
    rw [Nat.zero_mul, add_nothing] at c0 c1 c2
    obtain ⟨AM, cM, rfl, rfl, rfl⟩ := val_shape hca
    have HM := Lib.hid (fun wx => isMap_any f wx)
    have HDF := Lib.hid (fun wx => isDefault_any v AM cM wx)
    have HB : Hid (toldB f (v :: l) = (f.rep || (f.key != -1 || (f.one != 0 || (f.kind == 9 || !defB v))))) := Lib.hid rfl
    obtain ⟨n, hN⟩ : ∃ n, n = (v :: l).length := ⟨_, rfl⟩
    have hnz : ((n : Int) == 0) = false := by rw [hN, beq_eq_false_iff_ne]; simp; omega
    rw [← hN]
    have hX : (w.alloc (dC f)).cell? ⟨w.heap.size, 4, none⟩ = some (.bool f.rep) := by have := heap_cell X1 4; simpa using this
    have HX6 : Hid (∀ w1, Below (w.alloc (dC f)).heap.size (w.alloc (dC f)) w1 → w1.cell? ⟨w.heap.size, 6, none⟩ = some (.int .i64 f.one) ∧ w1.cell? ⟨w.heap.size, 2, none⟩ = some (.int .i64 f.kind)) := Lib.hid (fun w1 h => by
      have h6 := heap_cell (box_on X1 h) 6
      have h2 := heap_cell (box_on X1 h) 2
      simp at h6 h2
      exact ⟨h6, h2⟩)
    obtain ⟨d1, hd1⟩ : ∃ d, f.rep = d := ⟨_, rfl⟩
    obtain ⟨d2, hd2⟩ : ∃ d, (f.key != -1) = d := ⟨_, rfl⟩
    obtain ⟨d3, hd3⟩ : ∃ d, (f.one != 0) = d := ⟨_, rfl⟩
    obtain ⟨d4, hd4⟩ : ∃ d, (f.kind == 9) = d := ⟨_, rfl⟩
    obtain ⟨d5, hd5⟩ : ∃ d, defB v = d := ⟨_, rfl⟩
    rw [hd1, hd2, hd3, hd4, hd5] at HB
    rw [hd2, hd1] at HM
    rw [hd5] at HDF
    rw [hd1] at hX
    have HC := Lib.hid (And.intro c0 (And.intro c1 c2))
    clear hs hb hr hl hn hca hN hd2 hd5 hlo hd1
    have hlt : (0 : Int) < n := by rw [beq_eq_false_iff_ne] at hnz; omega
    have hlt2 : 0 < n := by omega
    cases d1 with
    | true =>
      go_enter Tryz.func56, Tryz.ntmps56
      go_wp2
      go_ret
      exact ⟨by rw [HB.out]; rfl, LBD⟩
    | false =>
      cases d2 with
      | true =>
        go_enter Tryz.func56, Tryz.ntmps56
        go_wp2_with (go_at_call 100; refine (HM.out _).mono ?_; rintro e w1 ⟨rfl, hb1⟩)
        go_ret
        exact ⟨by rw [HB.out]; rfl, below_then LBD hb1⟩
      | false =>
        cases d3 <;> cases d4 <;> cases d5
        all_goals
          go_enter Tryz.func56, Tryz.ntmps56
          go_wp2_with (first
            | (go_at_call 100; refine (HM.out _).mono ?_; rintro e w1 ⟨rfl, hb1⟩; obtain ⟨e6, e2⟩ := HX6.out _ hb1; have k0 := cell_on hb1 HC.out.1; have k1 := cell_on hb1 HC.out.2.1; have k2 := cell_on hb1 HC.out.2.2)
            | (go_at_call 101; refine (HDF.out _).mono ?_; rintro e w2 ⟨rfl, hb2⟩; have L2 := below_then hb1 hb2)
            | fail)
          go_ret
          exact ⟨by rw [HB.out]; rfl, by first | exact LBD.trans (L2.mono LBD.size) | exact below_then LBD hb1⟩
set_option maxRecDepth 1000000 in
set_option maxHeartbeats 4000000 in
theorem normal_none {s : Sc} (B D : Nat) (vM vE : Value) (m : Int) (x : Mg) (u : Value) (w : World) (hB : B ≤ w.heap.size) (hs : SAt B w s vM vE) (hx : MRd B w D x u) (hno : ∀ a ∈ x.F, ∃ f, byS s m a.no = some f ∧ toldB f a.V = false) :
    Calls Tryz.prog 30 #[.agg #[vM, vE], .int .i64 m, .agg #[u]] w fun e w' => e = .returned (.agg #[.slice none 0 0]) ∧ Below w.heap.size w w' := by
  cases D with
  | zero => exact hx.elim
  | succ D =>
  obtain ⟨A1, q1, A2, q2, rfl, rfl⟩ := sat_shape hs
  obtain ⟨u', hu, hl⟩ := hx
  simp only [List.cons.injEq, and_true] at hu
  subst hu
  obtain ⟨A, c, xs, rfl, hsl, hbl, hr, hn⟩ := hl.open_
  obtain ⟨X1, X2, X3, X4, LBD⟩ := four_new w (.cells #[.slice A1 s.M.length q1, .slice A2 s.E.length q2] 25) (.cells #[.slice A x.F.length c] 28) (.cells #[.slice none 0 0] 28) (.cells #[.slice none 0 0] 28)
  obtain ⟨W0, hW0⟩ : ∃ W, W = (((w.alloc (.cells #[.slice A1 s.M.length q1, .slice A2 s.E.length q2] 25)).alloc (.cells #[.slice A x.F.length c] 28)).alloc (.cells #[.slice none 0 0] 28)).alloc (.cells #[.slice none 0 0] 28) := ⟨_, rfl⟩
  have HSL := Lib.hid hsl
  have HR := Lib.hid hr
  have HBB := Lib.hid hbl
  have HSA := Lib.hid hs
  have HNO := Lib.hid hno
  have x3 := bx1 X2
  clear hsl hr hl hbl hs hno
  go_enter Tryz.func30, Tryz.ntmps30
  go_wp2
  rw [← hW0] at X1 X2 X3 X4 LBD ⊢
  have h4 : w.heap.size + 4 ≤ W0.heap.size := box_lt X4
  clear hW0 x3
  go_loopw [15] (fun i wr => ∃ k : Nat, i = .int .i64 k ∧ k ≤ x.F.length ∧ Below W0.heap.size W0 wr) (fun i _ => x.F.length - (intOf i).toNat)
  case atStart => exact ⟨0, rfl, by omega, Below.refl _ _⟩
  case round =>
    obtain ⟨k, rfl, hk, hbw⟩ := hrel
    have HBW := Lib.hid (LBD.trans (hbw.mono LBD.size))
    by_cases hlt : k < x.F.length
    · obtain ⟨a, ha⟩ : ∃ a, x.F[k]? = some a := ⟨_, List.getElem?_eq_getElem hlt⟩
      obtain ⟨ad, x0, y0, z0, rfl, hg, hca, c0, c1, c2⟩ := row3 sAt.len (sl_low HSL.out HBB.out (Lo.below HBW.out hB)) (HR.out.imp fun a cs h => SRd.low (Lo.below HBW.out hB) h) ha
      obtain ⟨B1, d1, B2, d2, rfl, rfl, rfl⟩ := slot_shape hca
      obtain ⟨f, hf, hto⟩ := HNO.out a (List.mem_of_getElem? ha)
      have N1 := below_new wr (.cells #[.int .i64 a.no, .slice B1 a.K.length d1, .slice B2 a.V.length d2] 36)
      have Z1 := heap_alloc_new wr (.cells #[.int .i64 a.no, .slice B1 a.K.length d1, .slice B2 a.V.length d2] 36)
      have hb1 := below_then HBW.out N1
      have HBY := Lib.hid (by_found hf _ (Nat.le_trans hB hb1.size) (SAt.lo HSA.out hb1 hB))
      obtain ⟨y1, y2⟩ := box2' (box_on (box_on X1 hbw) N1)
      obtain ⟨s0, s1, s2⟩ := bx3 Z1
      have HCA := Lib.hid hca
      have HBX := Lib.hid (And.intro hbw (And.intro N1 Z1))
      clear ha hca hbw N1 Z1 hb1 hf
      go_wp2_with fail
      refine HBY.out.mono ?_
      rintro e w2 ⟨rfl, hb2⟩
      have N2 := below_new w2 (dC f)
      have hb12 := HBX.out.2.1.trans ((below_then hb2 N2).mono HBX.out.2.1.size)
      obtain ⟨t0, t1, t2⟩ := bx3 (box_on HBX.out.2.2 (below_then hb2 N2))
      obtain ⟨u3, u4, hu, -, hV⟩ := HCA.out
      simp only [List.cons.injEq, and_true, true_and] at hu
      obtain ⟨-, rfl⟩ := hu
      have hlo : Lo B wr (w2.alloc (dC f)) := Lo.below hb12 (Nat.le_trans hB HBW.out.size)
      have HTO := Lib.hid (isTold_any B D f a.V _ (w2.alloc (dC f)) (Nat.le_trans hB (Nat.le_trans HBW.out.size hb12.size)) (hV.low hlo fun a cs h => VRd.low hlo h))
      rw [hto] at HTO
      have g3 := heap_cell (heap_alloc_new w2 (dC f))
      have f0 := g3 0
      have f1 := g3 1
      have f2 := g3 2
      have f3 := g3 3
      have f4 := g3 4
      have f5 := g3 5
      have f6 := g3 6
      simp at f0 f1 f2 f3 f4 f5 f6
      have HL := Lib.hid (HBX.out.1.trans (hb12.mono HBX.out.1.size))
      clear y1 y2 s0 s1 s2 hV hto N2 hb12 hb2 g3 hlo
      go_wp2_with fail
      refine HTO.out.mono ?_
      rintro e w3 ⟨rfl, hb3⟩
      go_wp2
      exact ⟨⟨k + 1, by go_num, by omega, below_then HL.out hb3⟩, by simp [intOf]; omega⟩
    · obtain rfl : k = x.F.length := by omega
      have x3 := bx1 (box_on X3 hbw)
      have x4 := bx1 (box_on X4 hbw)
      have Y3 := box_on X3 hbw
      have ff : wr.frozen? ⟨w.heap.size + 2, 0, none⟩ = false := by simp [World.frozen?, Y3]
      have HSF := Lib.hid (Tryz.slices_SortFunc_none_f58 (α := So) none 0 (.func (.func 59) #[] #[]) wr)
      go_wp2_with fail
      refine HSF.out.mono ?_
      rintro e w3 ⟨rfl, rfl⟩
      obtain ⟨Z1, Z2⟩ := cell1 Y3 (.slice none 0 0)
      go_wp2
      refine bodyPost_ret (results_cell_row rfl _ _ (w.heap.size + 2) _ _ (0, 0) _ rfl Z1 Tryz.underlying28 rfl sz_msg) rfl ?_
      exact ⟨rfl, HBW.out.trans (below_own Z2 (by omega) HBW.out.size)⟩
end Go.Proofs.YtjmcpfckcajnjaaGreatDoor.T9
/-
  Normal and Is, as their inner call tells; and the statements' first call.
-/
namespace Go.Proofs.YtjmcpfckcajnjaaGreatDoor.T9
set_option maxRecDepth 100000
open Go.Proofs.YtjmcpfckcajnjaaGreatDoor.T4
open Go.RowKit Go.Maps

theorem three_szd (w : World) (o1 o2 o3 : Obj) : (((w.alloc o1).alloc o2).alloc o3).heap.size = w.heap.size + 3 := by simp
set_option maxRecDepth 1000000 in
set_option maxHeartbeats 4000000 in
/-- Normal. -/
theorem tnormal_of {s : Sc} (hin : ScIn s) (B D : Nat) (vM vE : Value) (m : Int) (x : Mg) (u : Value) (w : World) (hB : B ≤ w.heap.size) (hs : SAt B w s vM vE) (hx : MRd B w D x u) (hi : MIn x) (hc : x.cnt ≤ 100000) (T : Tabs w)
    (Q : Value → World → Prop) (hQ : ∀ v wa wb, Q v wa → wa.grownBy wb (some (w.heap.size + 2)) → Q v wb)
    (HN : mayT s m x = true → ∀ wx, Below w.heap.size w wx → w.heap.size + 3 ≤ wx.heap.size → Calls Tryz.prog 30 #[.agg #[vM, vE], .int .i64 m, .agg #[u]] wx fun e w' => ∃ A n c, e = .returned (.agg #[.slice A n c]) ∧ Q (.slice A n c) w' ∧ Below wx.heap.size wx w') :
    Calls Tryz.prog 12 #[.agg #[vM, vE], .int .i64 m, .agg #[u]] w fun e w' => ∃ A n c, e = .returned (.tuple #[.agg #[.slice A n c], .bool (mayT s m x)]) ∧ (mayT s m x = false → A = none ∧ n = 0 ∧ c = 0) ∧ (mayT s m x = true → Q (.slice A n c) w') ∧ Below w.heap.size w w' := by
  obtain ⟨T1, T2, T3, L3⟩ := three_boxes w (.cells #[vM, vE] 25) (.cells #[u] 28) (.cells #[.slice none 0 0] 28)
  have hsz := three_szd w (.cells #[vM, vE] 25) (.cells #[u] 28) (.cells #[.slice none 0 0] 28)
  obtain ⟨W0, hW0⟩ : ∃ W, W = ((w.alloc (.cells #[vM, vE] 25)).alloc (.cells #[u] 28)).alloc (.cells #[.slice none 0 0] 28) := ⟨_, rfl⟩
  obtain ⟨A1, q1, A2, q2, rfl, rfl⟩ := sat_shape hs
  obtain ⟨A, c, rfl⟩ := rd_shape hx
  rw [← hW0] at T1 T2 T3 L3 hsz
  have hBW : B ≤ W0.heap.size := Nat.le_trans hB L3.size
  have hmay := tmay_any hin B D _ _ m x _ W0 hBW (SAt.lo hs L3 hB) (MRd.low (Lo.below L3 hB) hx) hi hc (T.on L3)
  have HX := Lib.hid (And.intro T1 (And.intro T2 T3))
  have HNN := Lib.hid HN
  have HQ := Lib.hid hQ
  have HL := Lib.hid L3
  have HZ := Lib.hid hsz
  obtain ⟨d, hd⟩ : ∃ d, mayT s m x = d := ⟨_, rfl⟩
  rw [hd] at hmay HNN ⊢
  have HM := Lib.hid hmay
  obtain ⟨x1, x2⟩ := box2' T1
  have x3 := bx1 T2
  clear hs hx hi hc T HN hQ hmay T1 T2 T3 L3 hd hsz
  cases d with
  | false =>
    go_enter Tryz.func12, Tryz.ntmps12
    simp only [hW0] at x1 x2 x3
    go_wp2_with fail
    rw [← hW0]
    clear hW0 x1 x2 x3
    refine HM.out.mono ?_
    rintro e w1 ⟨rfl, hb1⟩
    have Y3 := box_on HX.out.2.2 hb1
    have ff : w1.frozen? ⟨w.heap.size + 2, 0, none⟩ = false := by simp [World.frozen?, Y3]
    have y3 := bx1 Y3
    obtain ⟨Z1, Z2⟩ := cell1 Y3 (.slice none 0 0)
    have hlt := box_lt Y3
    go_wp2
    refine bodyPost_ret (results_pair rfl _ _ (w.heap.size + 2) _ _ (0, 0) _ rfl Z1 Tryz.underlying28 rfl sz_msg) rfl ?_
    exact ⟨none, 0, 0, rfl, fun _ => ⟨rfl, rfl, rfl⟩, fun h => by simp at h, (below_then HL.out hb1).trans (below_own Z2 (by omega) (by omega))⟩
  | true =>
    go_enter Tryz.func12, Tryz.ntmps12
    simp only [hW0] at x1 x2 x3
    go_wp2_with fail
    rw [← hW0]
    clear hW0 x1 x2 x3
    refine HM.out.mono ?_
    rintro e w1 ⟨rfl, hb1⟩
    obtain ⟨z1, z2⟩ := box2' (box_on HX.out.1 hb1)
    have z3 := bx1 (box_on HX.out.2.1 hb1)
    have Y3 := box_on HX.out.2.2 hb1
    have hb01 := below_then HL.out hb1
    have HC := Lib.hid (HNN.out (by trivial) w1 hb01 (box_lt Y3))
    clear HNN HM
    go_wp2_with fail
    refine HC.out.mono ?_
    rintro e w2 ⟨A9, n9, c9, rfl, hq, hb2⟩
    have Y4 := box_on Y3 hb2
    have ff : w2.frozen? ⟨w.heap.size + 2, 0, none⟩ = false := by simp [World.frozen?, Y4]
    have y3 := bx1 Y4
    obtain ⟨Z1, Z2⟩ := cell1 Y4 (.slice A9 n9 c9)
    have hlt := box_lt Y4
    have HQQ := Lib.hid (HQ.out _ _ _ hq Z2)
    clear Y3 hq
    go_wp2
    refine bodyPost_ret (results_pair rfl _ _ (w.heap.size + 2) _ _ (0, 0) _ rfl Z1 Tryz.underlying28 rfl sz_msg) rfl ?_
    exact ⟨A9, n9, c9, rfl, fun h => by simp at h, fun _ => HQQ.out, (below_then hb01 hb2).trans (below_own Z2 (by omega) (by omega))⟩
set_option maxRecDepth 1000000 in
set_option maxHeartbeats 4000000 in
/-- Is. -/
theorem tis_of {s : Sc} (B D Dn : Nat) (vM vE : Value) (m : Int) (x nx : Mg) (u : Value) (w : World) (hB : B ≤ w.heap.size) (hs : SAt B w s vM vE) (hx : MRd B w D x u)
    (HN : ∀ wx, Below w.heap.size w wx → Calls Tryz.prog 12 #[.agg #[vM, vE], .int .i64 m, .agg #[u]] wx fun e w' => ∃ A n c, e = .returned (.tuple #[.agg #[.slice A n c], .bool (mayT s m x)]) ∧ (mayT s m x = true → MRd w'.heap.size w' Dn nx (.slice A n c)) ∧ Below wx.heap.size wx w') :
    Calls Tryz.prog 17 #[.agg #[vM, vE], .int .i64 m, .agg #[u]] w fun e w' => e = .returned (.bool (mayT s m x && eqB nx x)) ∧ Below w.heap.size w w' := by
  obtain ⟨X1, X2, LBD⟩ := two_boxes w (.cells #[vM, vE] 25) (.cells #[u] 28)
  obtain ⟨A1, q1, A2, q2, rfl, rfl⟩ := sat_shape hs
  obtain ⟨A, c, rfl⟩ := rd_shape hx
  obtain ⟨x1, x2⟩ := box2' X1
  have x3 := bx1 X2
  have HC := Lib.hid (HN _ LBD)
  have HX := Lib.hid hx
  obtain ⟨d, hd⟩ : ∃ d, mayT s m x = d := ⟨_, rfl⟩
  rw [hd] at HC ⊢
  have HL := Lib.hid LBD
  clear HN hx hs hd
  cases d with
  | false =>
    go_enter Tryz.func17, Tryz.ntmps17
    go_wp2_with fail
    refine HC.out.mono ?_
    rintro e w1 ⟨A9, n9, c9, rfl, -, hb1⟩
    go_wp2
    go_ret
    exact ⟨rfl, below_lit (below_then HL.out hb1) _⟩
  | true =>
    go_enter Tryz.func17, Tryz.ntmps17
    go_wp2_with fail
    refine HC.out.mono ?_
    rintro e w1 ⟨A9, n9, c9, rfl, hm, hb1⟩
    have hm1 := hm (by trivial)
    have N1 := below_new w1 (.cells #[.slice A9 n9 c9] 28)
    have hb01 := below_then (below_then HL.out hb1) N1
    have z3 := bx1 (box_on X2 (below_then hb1 N1))
    have z4 := bx1 (heap_alloc_new w1 (.cells #[.slice A9 n9 c9] 28))
    have hup := MAt.more (Nat.le_max_left Dn D) _ _ (rd_up N1 hm1)
    have hxp : MRd _ _ (max Dn D) x _ := MAt.more (Nat.le_max_right Dn D) _ _ (MRd.mono (Nat.le_trans hB hb01.size) (MRd.low (Lo.below hb01 hB) HX.out))
    have HSM := Lib.hid (same_any9 _ (max Dn D) nx x _ _ _ (Nat.le_refl _) hup hxp)
    obtain ⟨d2, hd2⟩ : ∃ d, eqB nx x = d := ⟨_, rfl⟩
    rw [hd2] at HSM
    have HD2 := Lib.hid hd2
    clear hd2 x1 x2 x3 hm hm1 hup hxp
    go_wp2_with fail
    refine HSM.out.mono ?_
    rintro e w2 ⟨rfl, hb2⟩
    go_wp2
    go_ret
    exact ⟨by rw [HD2.out]; simp, below_then hb01 hb2⟩
end Go.Proofs.YtjmcpfckcajnjaaGreatDoor.T9
/-
  Is a file, or a schema, not too great: the contracts.
-/
namespace Go.Proofs.YtjmcpfckcajnjaaGreatDoor
set_option maxRecDepth 100000

open Go.RowKit

def fewM (m : Ms) : Bool := decide (m.F.length ≤ 40) && decide (m.ones.length ≤ 40) && decide (m.res.length ≤ 40)
def fewE (e : En) : Bool := decide (e.V.length ≤ 40)
def fewF (f : Fl) : Bool := decide (f.M.length ≤ 30) && decide (f.E.length ≤ 30) && f.M.all fewM && f.E.all fewE
theorem all_next {α : Type} {g : α → Bool} {l : List α} {k : Nat} {x : α} (h : l[k]? = some x) : (l.take (k + 1)).all g = ((l.take k).all g && g x) := by
  rw [List.take_add_one, h]; simp [List.all_append]
theorem all_part {α : Type} {g : α → Bool} {l : List α} {k : Nat} (h : (l.take k).all g = false) : l.all g = false := by
  rw [← List.take_append_drop k l, List.all_append, h, Bool.false_and]
theorem few_end {α : Type} {g : α → Bool} {c : Bool} {l : List α} {k : Nat} (h : false = (c && (l.take k).all g)) : (c && l.all g) = false := by
  cases c with
  | false => rfl
  | true =>
    rw [Bool.true_and] at h ⊢
    exact all_part h.symm
end Go.Proofs.YtjmcpfckcajnjaaGreatDoor
