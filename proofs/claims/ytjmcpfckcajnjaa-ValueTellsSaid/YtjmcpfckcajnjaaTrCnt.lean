/-
  The document's own count of a tree, and whether it is not too great (truffleref09.count, Few).
-/
import Derived.Test.YtjmcpfckcajnjaaTrCount
namespace Go.Proofs.Ytjmcpfckcajnjaa.T9
set_option maxRecDepth 100000

open Go.RowKit

/-- count, of messages within so many levels. -/
def CountH (B D : Nat) : Prop := ∀ (m : Mg) (u : Value) (d : Nat) (w : World), B ≤ w.heap.size → MRd B w D m u → d ≤ 1000 → Calls Try.prog 40 #[.agg #[u], .int .i64 d] w fun e w' => ∃ n : Nat, e = .returned (.int .i64 n) ∧ n ≤ NB d ∧ (n ≤ 3000 → m.cnt ≤ n ∧ m.deep ≤ d) ∧ Below w.heap.size w w'
set_option maxRecDepth 1000000 in
set_option maxHeartbeats 8000000 in
theorem count_step {B D : Nat} (H : CountH B D) : CountH B (D + 1) := by
  rintro m u d w hB ⟨u', hu, hl⟩ hd
  simp only [List.cons.injEq, and_true] at hu
  subst hu
  obtain ⟨A, c, xs, rfl, hs, hbl, hr, hn⟩ := hl.open_
  have X1 := heap_alloc_new w (.cells #[.slice A m.F.length c] 24)
  have LBD := below_new w (.cells #[.slice A m.F.length c] 24)
  have HS := Lib.hid hs
  have HR := Lib.hid hr
  have HBB := Lib.hid hbl
  have HH := Lib.hid H
  clear hs hr hl hbl H
  by_cases hd0 : d = 0
  · subst hd0
    go_enter Try.func40, Try.ntmps40
    go_wp2
    go_ret
    exact ⟨10000, rfl, by unfold NB; omega, fun h => by omega, LBD⟩
  · have hd1 : 1 ≤ d := by omega
    have hdl : decide ((d : Int) ≤ 0) = false := by rw [decide_eq_false_iff_not]; omega
    by_cases hF : m.F.length ≤ 3000
    · have hfl : decide ((3000 : Int) < (m.F.length : Int)) = false := by rw [decide_eq_false_iff_not]; omega
      have hfl2 : decide (3000 < m.F.length) = false := by rw [decide_eq_false_iff_not]; omega
      clear hd0
      go_enter Try.func40, Try.ntmps40
      go_wp2
      obtain ⟨W0, hW0⟩ : ∃ W, W = w.alloc (.cells #[.slice A m.F.length c] 24) := ⟨_, rfl⟩
      rw [← hW0] at X1 LBD ⊢
      have hX := box_lt X1
      clear hW0
      go_loopw [5, 6, 7, 8, 9] (fun n i l k j wr => ∃ (p N : Nat), i = .int .i64 p ∧ p ≤ m.F.length ∧ n = .int .i64 N ∧ N ≤ NB d ∧ So1 m d p N ∧ Below W0.heap.size W0 wr) (fun _ i _ _ _ _ => m.F.length - (intOf i).toNat)
      case atStart => exact ⟨0, m.F.length, rfl, by omega, rfl, by unfold NB; omega, So1.start m d, Below.refl _ _⟩
      case round =>
        obtain ⟨p, N, rfl, hp, rfl, hNB, hso, hbw⟩ := hrel
        have HSO := Lib.hid hso
        have g0 := bx1 (box_on X1 hbw)
        have HBW := Lib.hid (LBD.trans (hbw.mono LBD.size))
        clear hso
        by_cases hlt : p < m.F.length
        · by_cases hN : N ≤ 3000
          · have hN3 : decide ((N : Int) ≤ 3000) = true := by rw [decide_eq_true_iff]; omega
            have hN4 : decide (N ≤ 3000) = true := by rw [decide_eq_true_iff]; omega
            obtain ⟨s, hs⟩ : ∃ s, m.F[p]? = some s := ⟨_, List.getElem?_eq_getElem hlt⟩
            obtain ⟨ad, x, y, z, rfl, hga, hcc, c0, c1, c2⟩ := row3 sAt.len (sl_low HS.out HBB.out (Lo.below HBW.out hB)) (HR.out.imp fun a cs h => SRd.low (Lo.below HBW.out hB) h) hs
            have HCC := Lib.hid hcc
            obtain ⟨u1, u2, hu, hlk, hlv⟩ := hcc
            simp only [List.cons.injEq, and_true] at hu
            obtain ⟨rfl, rfl, rfl⟩ := hu
            obtain ⟨AK, cK, xsK, rfl, -⟩ := hlk.open_
            obtain ⟨AV, cV_, xsV, rfl, -⟩ := hlv.open_
            have HSs := Lib.hid hs
            clear hlk hlv hs
            by_cases hK : s.K.length ≤ 3000
            · have hK1 : decide ((3000 : Int) < (s.K.length : Int)) = false := by rw [decide_eq_false_iff_not]; omega
              have hK2 : decide (3000 < s.K.length) = false := by rw [decide_eq_false_iff_not]; omega
              by_cases hV : s.V.length ≤ 3000
              · have hV1 : decide ((3000 : Int) < (s.V.length : Int)) = false := by rw [decide_eq_false_iff_not]; omega
                have hV2 : decide (3000 < s.V.length) = false := by rw [decide_eq_false_iff_not]; omega
                have HB7 := Lib.hid (both_any B D s _ _ wr (Nat.le_trans hB HBW.out.size) HCC.out (by omega) (by omega))
                have HLL := Lib.hid (show (s.K ++ s.V).length ≤ 6000 by rw [List.length_append]; omega)
                go_wp2_with fail
                refine HB7.out.mono ?_
                rintro e w2 ⟨v7, ys, rfl, ho7, hr7, hb2⟩
                have HSO2 := Lib.hid (fun q M => @So2.done m d p s q M)
                have HST := Lib.hid (So2.start (L := s.K ++ s.V) HSO.out hN)
                obtain ⟨L, hL⟩ : ∃ L, s.K ++ s.V = L := ⟨_, rfl⟩
                rw [hL] at ho7 hr7 HSO2 HST HLL
                obtain ⟨A7, c7, rfl, hs7⟩ := Sl.of_own ho7
                have HS7 := Lib.hid hs7
                have HR7 := Lib.hid hr7
                have HB2 := Lib.hid (below_then HBW.out hb2)
                have HB3 := Lib.hid (below_then hbw hb2)
                have hll := HLL.out
                have hw1 : IntKind.i64.wrap ((N : Int) + (L.length : Int)) = ((N + L.length : Nat) : Int) := by rw [IntKind.wrap_i64]; omega
                have hn2 : N + L.length ≤ NB d := by unfold NB; omega
                clear ho7 hr7 hs7 hL hb2 g0 c0 c1 c2 hK hK1 hK2 hV hV1 hV2 hbw hN3 hN4 HB7
                go_wp2
                go_loopw [5, 8, 9] (fun n k j wx => ∃ (q M : Nat), k = .int .i64 q ∧ q ≤ L.length ∧ n = .int .i64 M ∧ M ≤ NB d ∧ So2 m d p L q M ∧ Below w2.heap.size w2 wx) (fun _ k _ _ => L.length - (intOf k).toNat)
                case atStart => exact ⟨0, N + L.length, rfl, by omega, by go_num, hn2, HST.out, Below.refl _ _⟩
                case round =>
                  obtain ⟨q, M, rfl, hq, rfl, hMB, hso2, hbx⟩ := hrel
                  have HSOX := Lib.hid hso2
                  clear hso2
                  by_cases hql : q < L.length
                  · by_cases hM : M ≤ 3000
                    · have hM3 : decide ((M : Int) ≤ 3000) = true := by rw [decide_eq_true_iff]; omega
                      have hM4 : decide (M ≤ 3000) = true := by rw [decide_eq_true_iff]; omega
                      obtain ⟨v, hv⟩ : ∃ v, L[q]? = some v := ⟨_, List.getElem?_eq_getElem hql⟩
                      obtain ⟨a7, x, y, z, rfl, hga7, hcc, c0, c1, c2⟩ := row3 vAt.len (HS7.out.on hbx) (HR7.out.imp fun a cs h => VRd.low (Lo.below hbx (Nat.le_trans hB HB2.out.size)) h) hv
                      obtain ⟨um, hu, hlm⟩ := hcc
                      simp only [List.cons.injEq, and_true] at hu
                      obtain ⟨rfl, rfl, rfl⟩ := hu
                      obtain ⟨AM, cM, xsM, rfl, hsM, hbM, hrM, hnM⟩ := hlm.open_
                      have HSM := Lib.hid hsM
                      have HRM := Lib.hid hrM
                      have HBM := Lib.hid hbM
                      have HVV := Lib.hid hv
                      have HST3 := Lib.hid (So3.start (M := v.M) HSOX.out hM)
                      have HBX := Lib.hid hbx
                      have hw3 : IntKind.i64.wrap ((M : Int) + (v.M.length : Int)) = ((M + v.M.length : Nat) : Int) := by rw [IntKind.wrap_i64]; omega
                      have hn3 : M + v.M.length ≤ NB d := by unfold NB; omega
                      have C2 := Lib.hid c2
                      have hlt7 : a7.block < wr.heap.size := hga7
                      clear hsM hrM hbM hlm hv c0 c1 hbx
                      go_wp2
                      go_loopw [5, 9] (fun n j wy => ∃ (t M3 : Nat), j = .int .i64 t ∧ t ≤ v.M.length ∧ n = .int .i64 M3 ∧ M3 ≤ NB d ∧ So3 m d p L q v.M t M3 ∧ Below wr.heap.size wr wy) (fun _ j _ => v.M.length - (intOf j).toNat)
                      case atStart => exact ⟨0, M + v.M.length, rfl, by omega, by go_num, hn3, HST3.out, Below.refl _ _⟩
                      case round =>
                        obtain ⟨t, M3, rfl, ht, rfl, hM3B, hso3, hby⟩ := hrel
                        have HSO3 := Lib.hid hso3
                        have k2 := cell_on hby C2.out
                        clear hso3 c2
                        by_cases htl : t < v.M.length
                        · by_cases hM5 : M3 ≤ 3000
                          · have hM6 : decide ((M3 : Int) ≤ 3000) = true := by rw [decide_eq_true_iff]; omega
                            have hM7 : decide (M3 ≤ 3000) = true := by rw [decide_eq_true_iff]; omega
                            obtain ⟨x, hx⟩ : ∃ x, v.M[t]? = some x := ⟨_, List.getElem?_eq_getElem htl⟩
                            obtain ⟨am, ux, rfl, hgam, hcx, k0⟩ := row1 MAt.len (sl_low HSM.out HBM.out (Lo.below hby (Nat.le_trans hB (Nat.le_trans HB2.out.size HBX.out.size)))) (HRM.out.imp fun a cs h => MRd.low (Lo.below hby (Nat.le_trans hB (Nat.le_trans HB2.out.size HBX.out.size))) h) hx
                            have HCX := Lib.hid (HH.out x ux (d - 1) wr (Nat.le_trans hB (Nat.le_trans HB2.out.size (Nat.le_trans HBX.out.size hby.size))) hcx (by omega))
                            have hw4 : IntKind.i64.wrap ((d : Int) - 1) = ((d - 1 : Nat) : Int) := by rw [IntKind.wrap_i64]; omega
                            have HX := Lib.hid hx
                            have HBY := Lib.hid hby
                            clear hcx hx hby
                            go_wp2_with (go_at_call 40; refine HCX.out.mono ?_; rintro e w9 ⟨cn, rfl, hcn, hcf, hb9⟩; have hw5 : IntKind.i64.wrap ((M3 : Int) + (cn : Int)) = ((M3 + cn : Nat) : Int) := (by unfold NB at hcn; rw [IntKind.wrap_i64]; omega))
                            refine ⟨⟨t + 1, M3 + cn, by go_num, by omega, by go_num, by unfold NB at hcn ⊢; omega, So3.next HSO3.out hM5 HX.out (fun h => hcf h) hd1, HBY.out.trans (hb9.mono HBY.out.size)⟩, by simp [intOf]; omega⟩
                          · have hM6 : decide ((M3 : Int) ≤ 3000) = false := by rw [decide_eq_false_iff_not]; omega
                            have hM7 : decide (M3 ≤ 3000) = false := by rw [decide_eq_false_iff_not]; omega
                            go_wp2
                            exact ⟨⟨q + 1, M3, by go_num, by omega, rfl, hM3B, So3.done HSO3.out HVV.out (fun h => absurd h hM5), HBX.out.trans (hby.mono HBX.out.size)⟩, by simp [intOf]; omega⟩
                        · obtain rfl : t = v.M.length := by omega
                          go_wp2
                          exact ⟨⟨q + 1, M3, by go_num, by omega, rfl, hM3B, So3.done HSO3.out HVV.out (fun _ => rfl), HBX.out.trans (hby.mono HBX.out.size)⟩, by simp [intOf]; omega⟩
                    · have hM6 : decide ((M : Int) ≤ 3000) = false := by rw [decide_eq_false_iff_not]; omega
                      have hM7 : decide (M ≤ 3000) = false := by rw [decide_eq_false_iff_not]; omega
                      go_wp2
                      exact ⟨⟨p + 1, M, by go_num, by omega, rfl, hMB, HSO2.out q M HSOX.out HSs.out (fun h => absurd h hM), HB3.out.trans (hbx.mono HB3.out.size)⟩, by simp [intOf]; omega⟩
                  · obtain rfl : q = L.length := by omega
                    go_wp2
                    exact ⟨⟨p + 1, M, by go_num, by omega, rfl, hMB, HSO2.out _ M HSOX.out HSs.out (fun _ => rfl), HB3.out.trans (hbx.mono HB3.out.size)⟩, by simp [intOf]; omega⟩
              · have hV1 : decide ((3000 : Int) < (s.V.length : Int)) = true := by rw [decide_eq_true_iff]; omega
                have hV2 : decide (3000 < s.V.length) = true := by rw [decide_eq_true_iff]; omega
                go_wp2
                go_ret
                exact ⟨10000, rfl, by unfold NB; omega, fun h => by omega, HBW.out⟩
            · have hK1 : decide ((3000 : Int) < (s.K.length : Int)) = true := by rw [decide_eq_true_iff]; omega
              have hK2 : decide (3000 < s.K.length) = true := by rw [decide_eq_true_iff]; omega
              go_wp2
              go_ret
              exact ⟨10000, rfl, by unfold NB; omega, fun h => by omega, HBW.out⟩
          · have hN3 : decide ((N : Int) ≤ 3000) = false := by rw [decide_eq_false_iff_not]; omega
            have hN4 : decide (N ≤ 3000) = false := by rw [decide_eq_false_iff_not]; omega
            go_wp2
            go_ret
            exact ⟨N, rfl, hNB, So1.done HSO.out (fun h => absurd h hN) hd1, HBW.out⟩
        · obtain rfl : p = m.F.length := by omega
          go_wp2
          go_ret
          exact ⟨N, rfl, hNB, So1.done HSO.out (fun _ => rfl) hd1, HBW.out⟩
    · have hfl : decide ((3000 : Int) < (m.F.length : Int)) = true := by rw [decide_eq_true_iff]; omega
      have hfl2 : decide (3000 < m.F.length) = true := by rw [decide_eq_true_iff]; omega
      clear hd0
      go_enter Try.func40, Try.ntmps40
      go_wp2
      go_ret
      exact ⟨10000, rfl, by unfold NB; omega, fun h => by omega, LBD⟩
/-- truffleref09.count, of any message. -/
theorem count_any (B : Nat) : ∀ D, CountH B D
  | 0 => fun _ _ _ _ _ h _ => h.elim
  | D + 1 => count_step (count_any B D)
end Go.Proofs.Ytjmcpfckcajnjaa.T9
