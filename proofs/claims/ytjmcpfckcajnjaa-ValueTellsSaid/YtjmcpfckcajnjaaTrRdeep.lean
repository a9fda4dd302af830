/-
  The document's own Deep of a tree.
-/
import Derived.Test.YtjmcpfckcajnjaaTrLaw
namespace Go.Proofs.Ytjmcpfckcajnjaa.T9
set_option maxRecDepth 100000

open Go.RowKit

theorem dS_split (s : So) : dS s = mx ((s.K ++ s.V).map dV) := by
  unfold dS
  rw [List.map_append, mx_append]
theorem cnt_in2 {m : Mg} {s : So} {v : Vl'} {x : Mg} (hs : s ∈ m.F) (hv : v ∈ s.K ++ s.V) (hx : x ∈ v.M) : x.cnt ≤ m.cnt := by
  have h1 := cS_le hs
  have h2 := cV_le (List.mem_append.1 hv)
  have h3 := cnt_le hx
  omega
theorem mx_ge {l : List Nat} {n : Nat} (h : n ∈ l) : n ≤ mx l := by
  induction l with
  | nil => cases h
  | cons a l ih =>
    rcases List.mem_cons.1 h with rfl | h
    · simp only [mx]; omega
    · have := ih h; simp only [mx]; omega
theorem deep_in {m : Mg} {s : So} {v : Vl'} {x : Mg} (hs : s ∈ m.F) (hv : v ∈ s.K ++ s.V) (hx : x ∈ v.M) : x.deep < m.deep := by
  have h1 : dS s ≤ mx (m.F.map dS) := mx_ge (List.mem_map_of_mem (f := dS) hs)
  have h2 : dV v ≤ dS s := by rw [dS_split]; exact mx_ge (List.mem_map_of_mem (f := dV) hv)
  have h3 : x.deep ≤ dV v := mx_ge (List.mem_map_of_mem (f := Mg.deep) hx)
  rw [m.deep_eq]
  omega
/-- truffleref09.Deep, of messages within so many levels. -/
def RDeepH (B D : Nat) : Prop := ∀ (m : Mg) (u : Value) (w : World), B ≤ w.heap.size → MRd B w D m u → m.cnt ≤ 100000 ∧ m.deep ≤ 100000 → Calls Try.prog 16 #[.agg #[u]] w fun e w' => e = .returned (.int .i64 (m.deep : Nat)) ∧ Below w.heap.size w w'
set_option maxRecDepth 1000000 in
set_option maxHeartbeats 8000000 in
theorem rdeep_step {B D : Nat} (H : RDeepH B D) : RDeepH B (D + 1) := by
  rintro m u w hB ⟨u', hu, hl⟩ hcm
  simp only [List.cons.injEq, and_true] at hu
  subst hu
  obtain ⟨A, c, xs, rfl, hs, hbl, hr, hn⟩ := hl.open_
  have X1 := heap_alloc_new w (.cells #[.slice A m.F.length c] 24)
  have LBD := below_new w (.cells #[.slice A m.F.length c] 24)
  have HS := Lib.hid hs
  have HR := Lib.hid hr
  have HBB := Lib.hid hbl
  have HH := Lib.hid H
  clear hs hr hl hbl H
  go_enter Try.func16, Try.ntmps16
  go_wp2
  obtain ⟨W0, hW0⟩ : ∃ W, W = w.alloc (.cells #[.slice A m.F.length c] 24) := ⟨_, rfl⟩
  rw [← hW0] at X1 LBD ⊢
  have hX := box_lt X1
  clear hW0
  have hsz : mx (m.F.map dS) ≤ 100000 := by have h1 := hcm.2; rw [Mg.deep_eq] at h1; omega
  go_loopw [3, 4, 5, 6, 7, 8] (fun n i l k j h wr => ∃ p : Nat, i = .int .i64 p ∧ p ≤ m.F.length ∧ n = .int .i64 ((mx ((m.F.take p).map dS) : Nat) : Int) ∧ Below W0.heap.size W0 wr) (fun _ i _ _ _ _ _ => m.F.length - (intOf i).toNat)
  case atStart => exact ⟨0, rfl, by omega, rfl, Below.refl _ _⟩
  case round =>
    obtain ⟨p, rfl, hp, rfl, hbw⟩ := hrel
    have g0 := bx1 (box_on X1 hbw)
    have HBW := Lib.hid (LBD.trans (hbw.mono LBD.size))
    by_cases hlt : p < m.F.length
    · obtain ⟨s, hs⟩ : ∃ s, m.F[p]? = some s := ⟨_, List.getElem?_eq_getElem hlt⟩
      obtain ⟨ad, x, y, z, rfl, hga, hcc, c0, c1, c2⟩ := row3 sAt.len (sl_low HS.out HBB.out (Lo.below HBW.out hB)) (HR.out.imp fun a cs h => SRd.low (Lo.below HBW.out hB) h) hs
      have HCC := Lib.hid hcc
      obtain ⟨u1, u2, hu, hlk, hlv⟩ := hcc
      simp only [List.cons.injEq, and_true] at hu
      obtain ⟨rfl, rfl, rfl⟩ := hu
      obtain ⟨AK, cK, xsK, rfl, -, -, -, hnK⟩ := hlk.open_
      obtain ⟨AV, cV_, xsV, rfl, -, -, -, hnV⟩ := hlv.open_
      have hcs := cS_le (List.mem_of_getElem? hs)
      have hcl := cS_len (s := s)
      have hc1 := hcm.1
      have hlL : (s.K ++ s.V).length ≤ 100000 := by rw [List.length_append]; omega
      have HB7 := Lib.hid (both_any B D s _ _ wr (Nat.le_trans hB HBW.out.size) HCC.out (by omega) (by omega))
      have hst := mx_take_next dS hs
      have hle := mx_take_le m.F (p + 1) dS
      rw [dS_split] at hst
      have HCN := Lib.hid (fun v x (hv : v ∈ s.K ++ s.V) (hx : x ∈ v.M) => And.intro (Nat.le_trans (cnt_in2 (List.mem_of_getElem? hs) hv hx) hcm.1) (Nat.le_trans (Nat.le_of_lt (deep_in (List.mem_of_getElem? hs) hv hx)) hcm.2))
      obtain ⟨N, hN⟩ : ∃ N, N = mx ((m.F.take p).map dS) := ⟨_, rfl⟩
      have hN' : mx (List.take p (List.map dS m.F)) = N := by rw [hN, List.map_take]
      rw [← hN] at hst
      (try rw [hN']); (try rw [← hN])
      clear hN hN' hlk hlv hs hcs hcl
      go_wp2_with fail
      refine HB7.out.mono ?_
      rintro e w2 ⟨v7, ys, rfl, ho7, hr7, hb2⟩
      obtain ⟨L, hL⟩ : ∃ L, s.K ++ s.V = L := ⟨_, rfl⟩
      rw [hL] at ho7 hr7 hst HCN hlL
      have HST := Lib.hid hst
      have hmx : max N (mx (L.map dV)) ≤ 100000 := by omega
      obtain ⟨A7, c7, rfl, hs7⟩ := Sl.of_own ho7
      have HS7 := Lib.hid hs7
      have HR7 := Lib.hid hr7
      have HB2 := Lib.hid (below_then HBW.out hb2)
      have HB3 := Lib.hid (below_then hbw hb2)
      clear ho7 hr7 hs7 hL hb2 g0 c0 c1 c2 hbw HB7 hst hle
      go_wp2
      go_loopw [3, 6, 7, 8] (fun n k j h wx => ∃ q : Nat, k = .int .i64 q ∧ q ≤ L.length ∧ n = .int .i64 ((max N (mx ((L.take q).map dV)) : Nat) : Int) ∧ Below w2.heap.size w2 wx) (fun _ k _ _ _ => L.length - (intOf k).toNat)
      case atStart => exact ⟨0, rfl, by omega, by simp [mx], Below.refl _ _⟩
      case round =>
        obtain ⟨q, rfl, hq, rfl, hbx⟩ := hrel
        by_cases hql : q < L.length
        · obtain ⟨v, hv⟩ : ∃ v, L[q]? = some v := ⟨_, List.getElem?_eq_getElem hql⟩
          obtain ⟨a7, x, y, z, rfl, hga7, hcc, c0, c1, c2⟩ := row3 vAt.len (HS7.out.on hbx) (HR7.out.imp fun a cs h => VRd.low (Lo.below hbx (Nat.le_trans hB HB2.out.size)) h) hv
          obtain ⟨um, hu, hlm⟩ := hcc
          simp only [List.cons.injEq, and_true] at hu
          obtain ⟨rfl, rfl, rfl⟩ := hu
          obtain ⟨AM, cM, xsM, rfl, hsM, hbM, hrM, hnM⟩ := hlm.open_
          have HSM := Lib.hid hsM
          have HRM := Lib.hid hrM
          have HBM := Lib.hid hbM
          have hst2 := mx_take_next dV hv
          have hle2 := mx_take_le L (q + 1) dV
          have HCM := Lib.hid (fun x hx => HCN.out v x (List.mem_of_getElem? hv) hx)
          have HBX := Lib.hid hbx
          have C2 := Lib.hid c2
          have hlt7 : a7.block < wr.heap.size := hga7
          obtain ⟨M0, hM0⟩ : ∃ M0, M0 = max N (mx ((L.take q).map dV)) := ⟨_, rfl⟩
          have hM0' : max N (mx (List.take q (List.map dV L))) = M0 := by rw [hM0, List.map_take]
          have HS2 := Lib.hid (show max N (mx ((L.take (q + 1)).map dV)) = max M0 (mx (v.M.map Mg.deep)) by rw [hst2, hM0]; show max N (max _ (mx (v.M.map Mg.deep))) = _; omega)
          have hmx2 : max M0 (mx (v.M.map Mg.deep)) ≤ 100000 := by rw [← HS2.out]; omega
          (try rw [hM0']); (try rw [← hM0])
          clear hsM hrM hbM hlm hv c0 c1 hbx hst2 hle2 hM0 hM0'
          go_wp2
          go_loopw [3, 7, 8] (fun n j h wy => ∃ t : Nat, j = .int .i64 t ∧ t ≤ v.M.length ∧ n = .int .i64 ((max M0 (mx ((v.M.take t).map Mg.deep)) : Nat) : Int) ∧ Below wr.heap.size wr wy) (fun _ j _ _ => v.M.length - (intOf j).toNat)
          case atStart => exact ⟨0, rfl, by omega, by simp [mx], Below.refl _ _⟩
          case round =>
            obtain ⟨t, rfl, ht, rfl, hby⟩ := hrel
            have k2 := cell_on hby C2.out
            clear c2
            by_cases htl : t < v.M.length
            · obtain ⟨x, hx⟩ : ∃ x, v.M[t]? = some x := ⟨_, List.getElem?_eq_getElem htl⟩
              obtain ⟨am, ux, rfl, hgam, hcx, k0⟩ := row1 MAt.len (sl_low HSM.out HBM.out (Lo.below hby (Nat.le_trans hB (Nat.le_trans HB2.out.size HBX.out.size)))) (HRM.out.imp fun a cs h => MRd.low (Lo.below hby (Nat.le_trans hB (Nat.le_trans HB2.out.size HBX.out.size))) h) hx
              have HCX := Lib.hid (HH.out x ux wr (Nat.le_trans hB (Nat.le_trans HB2.out.size (Nat.le_trans HBX.out.size hby.size))) hcx (HCM.out x (List.mem_of_getElem? hx)))
              have hst3 := mx_take_next Mg.deep hx
              have hle3 := mx_take_le v.M (t + 1) Mg.deep
              obtain ⟨P0, hP0⟩ : ∃ P0, P0 = max M0 (mx ((v.M.take t).map Mg.deep)) := ⟨_, rfl⟩
              have hP0' : max M0 (mx (List.take t (List.map Mg.deep v.M))) = P0 := by rw [hP0, List.map_take]
              have HS3 := Lib.hid (show max M0 (mx ((v.M.take (t + 1)).map Mg.deep)) = max P0 x.deep by rw [hst3, hP0]; omega)
              have hb3 : max P0 x.deep ≤ 100000 := by rw [← HS3.out]; omega
              have HBY := Lib.hid hby
              (try rw [hP0']); (try rw [← hP0])
              clear hcx hx hby hst3 hle3 hP0 hP0'
              by_cases hgt : P0 < x.deep
              · have e1 : decide ((P0 : Int) < (x.deep : Int)) = true := by rw [decide_eq_true_iff]; omega
                have e2 : decide (P0 < x.deep) = true := by rw [decide_eq_true_iff]; omega
                go_wp2_with (go_at_call 16; refine HCX.out.mono ?_; rintro e w9 ⟨rfl, hb9⟩)
                refine ⟨⟨t + 1, by go_num, by omega, ?_, HBY.out.trans (hb9.mono HBY.out.size)⟩, by simp [intOf]; omega⟩
                rw [HS3.out, Nat.max_eq_right (Nat.le_of_lt hgt)]
              · have e1 : decide ((P0 : Int) < (x.deep : Int)) = false := by rw [decide_eq_false_iff_not]; omega
                have e2 : decide (P0 < x.deep) = false := by rw [decide_eq_false_iff_not]; omega
                go_wp2_with (go_at_call 16; refine HCX.out.mono ?_; rintro e w9 ⟨rfl, hb9⟩)
                refine ⟨⟨t + 1, by go_num, by omega, ?_, HBY.out.trans (hb9.mono HBY.out.size)⟩, by simp [intOf]; omega⟩
                rw [HS3.out, Nat.max_eq_left (Nat.le_of_not_lt hgt)]
            · obtain rfl : t = v.M.length := by omega
              go_wp2
              refine ⟨⟨q + 1, by go_num, by omega, ?_, HBX.out.trans (hby.mono HBX.out.size)⟩, by simp [intOf]; omega⟩
              rw [HS2.out]
              (try rw [List.take_length])
              (try rfl)
        · obtain rfl : q = L.length := by omega
          go_wp2
          refine ⟨⟨p + 1, by go_num, by omega, ?_, HB3.out.trans (hbx.mono HB3.out.size)⟩, by simp [intOf]; omega⟩
          rw [HST.out]
          (try rw [List.take_length])
          (try go_num)
    · obtain rfl : p = m.F.length := by omega
      go_wp2
      go_ret
      exact ⟨by rw [Mg.deep_eq]; (try rw [List.take_length]); go_num, HBW.out⟩
/-- truffleref09.Deep, of any message. -/
theorem rdeep_any (B : Nat) : ∀ D, RDeepH B D
  | 0 => fun _ _ _ _ h _ => h.elim
  | D + 1 => rdeep_step (rdeep_any B D)
end Go.Proofs.Ytjmcpfckcajnjaa.T9
