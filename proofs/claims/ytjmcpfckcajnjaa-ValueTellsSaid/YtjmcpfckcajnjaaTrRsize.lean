/-
  The document's own Size of a tree.
-/
import Derived.Test.YtjmcpfckcajnjaaTrLaw
namespace Go.Proofs.Ytjmcpfckcajnjaa.T9
set_option maxRecDepth 100000

open Go.RowKit

def g9 (v : Vl') : Nat := sm (v.M.map Mg.size)
theorem zV_g (v : Vl') : zV v = 1 + g9 v := rfl
theorem zS_split (s : So) : zS s = (s.K ++ s.V).length + sm ((s.K ++ s.V).map g9) := by
  unfold zS
  rw [← sm_append, ← List.map_append, ← sm_one (s.K ++ s.V), ← sm_add]
  rfl
theorem cnt_in {m : Mg} {s : So} {v : Vl'} {x : Mg} (hs : s ∈ m.F) (hv : v ∈ s.K ++ s.V) (hx : x ∈ v.M) : x.cnt ≤ m.cnt := by
  have h1 := cS_le hs
  have h2 := cV_le (List.mem_append.1 hv)
  have h3 := cnt_le hx
  omega
/-- truffleref09.Size, of messages within so many levels. -/
def RSizeH (B D : Nat) : Prop := ∀ (m : Mg) (u : Value) (w : World), B ≤ w.heap.size → MRd B w D m u → m.cnt ≤ 100000 → Calls Try.prog 18 #[.agg #[u]] w fun e w' => e = .returned (.int .i64 (m.size : Nat)) ∧ Below w.heap.size w w'
set_option maxRecDepth 1000000 in
set_option maxHeartbeats 8000000 in
theorem rsize_step {B D : Nat} (H : RSizeH B D) : RSizeH B (D + 1) := by
  rintro m u w hB ⟨u', hu, hl⟩ hcm
  simp only [List.cons.injEq, and_true] at hu
  subst hu
  obtain ⟨A, c, xs, rfl, hs, hbl, hr, hn⟩ := hl.open_
  have X1 := heap_alloc_new w (.cells #[.slice A m.F.length c] 24)
  have LBD := below_new w (.cells #[.slice A m.F.length c] 24)
  have HS := Lib.hid hs
  have HR := Lib.hid hr
  have HBB := Lib.hid hbl
  have HH := Lib.hid H
  clear hs hr hl hbl H
  go_enter Try.func18, Try.ntmps18
  go_wp2
  obtain ⟨W0, hW0⟩ : ∃ W, W = w.alloc (.cells #[.slice A m.F.length c] 24) := ⟨_, rfl⟩
  rw [← hW0] at X1 LBD ⊢
  have hX := box_lt X1
  clear hW0
  have hsz : sm (m.F.map zS) ≤ 100000 := by have h1 := size_le_cnt m; rw [Mg.size_eq] at h1; omega
  go_loopw [3, 4, 5, 6, 7] (fun n i l k j wr => ∃ p : Nat, i = .int .i64 p ∧ p ≤ m.F.length ∧ n = .int .i64 ((sm ((m.F.take p).map zS) : Nat) : Int) ∧ Below W0.heap.size W0 wr) (fun _ i _ _ _ _ => m.F.length - (intOf i).toNat)
  case atStart => exact ⟨0, rfl, by omega, rfl, Below.refl _ _⟩
  case round =>
    obtain ⟨p, rfl, hp, rfl, hbw⟩ := hrel
    have g0 := bx1 (box_on X1 hbw)
    have HBW := Lib.hid (LBD.trans (hbw.mono LBD.size))
    by_cases hlt : p < m.F.length
    · obtain ⟨s, hs⟩ : ∃ s, m.F[p]? = some s := ⟨_, List.getElem?_eq_getElem hlt⟩
      obtain ⟨ad, x, y, z, rfl, hga, hcc, c0, c1, c2⟩ := row3 sAt.len (sl_low HS.out HBB.out (Lo.below HBW.out hB)) (HR.out.imp fun a cs h => SRd.low (Lo.below HBW.out hB) h) hs
      have HCC := Lib.hid hcc
      obtain ⟨u1, u2, hu, hlk, hlv⟩ := hcc
      simp only [List.cons.injEq, and_true] at hu
      obtain ⟨rfl, rfl, rfl⟩ := hu
      obtain ⟨AK, cK, xsK, rfl, -, -, -, hnK⟩ := hlk.open_
      obtain ⟨AV, cV_, xsV, rfl, -, -, -, hnV⟩ := hlv.open_
      have hcs := cS_le (List.mem_of_getElem? hs)
      have hcl := cS_len (s := s)
      have HB7 := Lib.hid (both_any B D s _ _ wr (Nat.le_trans hB HBW.out.size) HCC.out (by omega) (by omega))
      have hst := sm_take_next zS hs
      have hle := sm_take_le m.F (p + 1) zS
      rw [zS_split] at hst
      have HCN := Lib.hid (fun v x (hv : v ∈ s.K ++ s.V) (hx : x ∈ v.M) => Nat.le_trans (cnt_in (List.mem_of_getElem? hs) hv hx) hcm)
      obtain ⟨N, hN⟩ : ∃ N, N = sm ((m.F.take p).map zS) := ⟨_, rfl⟩
      have hN' : sm (List.take p (List.map zS m.F)) = N := by rw [hN, List.map_take]
      rw [← hN] at hst
      (try rw [hN']); (try rw [← hN])
      clear hN hN' hlk hlv hs hcs hcl
      go_wp2_with fail
      refine HB7.out.mono ?_
      rintro e w2 ⟨v7, ys, rfl, ho7, hr7, hb2⟩
      obtain ⟨L, hL⟩ : ∃ L, s.K ++ s.V = L := ⟨_, rfl⟩
      rw [hL] at ho7 hr7 hst HCN
      have HST := Lib.hid hst
      have hmx : N + (L.length + sm (L.map g9)) ≤ 100000 := by omega
      obtain ⟨A7, c7, rfl, hs7⟩ := Sl.of_own ho7
      have HS7 := Lib.hid hs7
      have HR7 := Lib.hid hr7
      have HB2 := Lib.hid (below_then HBW.out hb2)
      have HB3 := Lib.hid (below_then hbw hb2)
      clear ho7 hr7 hs7 hL hb2 g0 c0 c1 c2 hbw HB7 hst hle
      go_wp2
      go_loopw [3, 6, 7] (fun n k j wx => ∃ q : Nat, k = .int .i64 q ∧ q ≤ L.length ∧ n = .int .i64 ((N + L.length + sm ((L.take q).map g9) : Nat) : Int) ∧ Below w2.heap.size w2 wx) (fun _ k _ _ => L.length - (intOf k).toNat)
      case atStart => exact ⟨0, rfl, by omega, by simp only [List.take_zero, List.map_nil, sm]; go_num, Below.refl _ _⟩
      case round =>
        obtain ⟨q, rfl, hq, rfl, hbx⟩ := hrel
        by_cases hql : q < L.length
        · obtain ⟨v, hv⟩ : ∃ v, L[q]? = some v := ⟨_, List.getElem?_eq_getElem hql⟩
          obtain ⟨a7, x, y, z, rfl, hga7, hcc, c0, c1, c2⟩ := row3 vAt.len (HS7.out.on hbx) (HR7.out.imp fun a cs h => VRd.low (Lo.below hbx (Nat.le_trans hB HB2.out.size)) h) hv
          obtain ⟨um, hu, hlm⟩ := hcc
          simp only [List.cons.injEq, and_true] at hu
          obtain ⟨rfl, rfl, rfl⟩ := hu
          obtain ⟨AM, cM, xsM, rfl, hsM, hbM, hrM, hnM⟩ := hlm.open_
          have HSM := Lib.hid hsM
          have HRM := Lib.hid hrM
          have HBM := Lib.hid hbM
          have hst2 := sm_take_next g9 hv
          have hle2 := sm_take_le L (q + 1) g9
          have HCM := Lib.hid (fun x hx => HCN.out v x (List.mem_of_getElem? hv) hx)
          have HBX := Lib.hid hbx
          have C2 := Lib.hid c2
          have hlt7 : a7.block < wr.heap.size := hga7
          obtain ⟨M0, hM0⟩ : ∃ M0, M0 = N + L.length + sm ((L.take q).map g9) := ⟨_, rfl⟩
          have hM0' : N + L.length + sm (List.take q (List.map g9 L)) = M0 := by rw [hM0, List.map_take]
          have HS2 := Lib.hid (show N + L.length + sm ((L.take (q + 1)).map g9) = M0 + sm (v.M.map Mg.size) by rw [hst2, hM0]; show N + L.length + (_ + sm (v.M.map Mg.size)) = _; omega)
          have hmx2 : M0 + sm (v.M.map Mg.size) ≤ 100000 := by rw [← HS2.out]; omega
          (try rw [hM0']); (try rw [← hM0])
          clear hsM hrM hbM hlm hv c0 c1 hbx hst2 hle2 hM0 hM0'
          go_wp2
          go_loopw [3, 7] (fun n j wy => ∃ t : Nat, j = .int .i64 t ∧ t ≤ v.M.length ∧ n = .int .i64 ((M0 + sm ((v.M.take t).map Mg.size) : Nat) : Int) ∧ Below wr.heap.size wr wy) (fun _ j _ => v.M.length - (intOf j).toNat)
          case atStart => exact ⟨0, rfl, by omega, rfl, Below.refl _ _⟩
          case round =>
            obtain ⟨t, rfl, ht, rfl, hby⟩ := hrel
            have k2 := cell_on hby C2.out
            clear c2
            by_cases htl : t < v.M.length
            · obtain ⟨x, hx⟩ : ∃ x, v.M[t]? = some x := ⟨_, List.getElem?_eq_getElem htl⟩
              obtain ⟨am, ux, rfl, hgam, hcx, k0⟩ := row1 MAt.len (sl_low HSM.out HBM.out (Lo.below hby (Nat.le_trans hB (Nat.le_trans HB2.out.size HBX.out.size)))) (HRM.out.imp fun a cs h => MRd.low (Lo.below hby (Nat.le_trans hB (Nat.le_trans HB2.out.size HBX.out.size))) h) hx
              have HCX := Lib.hid (HH.out x ux wr (Nat.le_trans hB (Nat.le_trans HB2.out.size (Nat.le_trans HBX.out.size hby.size))) hcx (HCM.out x (List.mem_of_getElem? hx)))
              have hst3 := sm_take_next Mg.size hx
              have hle3 := sm_take_le v.M (t + 1) Mg.size
              obtain ⟨P0, hP0⟩ : ∃ P0, P0 = sm ((v.M.take t).map Mg.size) := ⟨_, rfl⟩
              have hP0' : sm (List.take t (List.map Mg.size v.M)) = P0 := by rw [hP0, List.map_take]
              rw [← hP0] at hst3
              have HS3 := Lib.hid hst3
              have hb3 : M0 + (P0 + x.size) ≤ 100000 := by omega
              have HBY := Lib.hid hby
              (try rw [hP0']); (try rw [← hP0])
              clear hcx hx hby hst3 hle3 hP0 hP0'
              go_wp2_with (go_at_call 18; refine HCX.out.mono ?_; rintro e w9 ⟨rfl, hb9⟩)
              refine ⟨⟨t + 1, by go_num, by omega, ?_, HBY.out.trans (hb9.mono HBY.out.size)⟩, by simp [intOf]; omega⟩
              rw [HS3.out]
              go_num
            · obtain rfl : t = v.M.length := by omega
              go_wp2
              refine ⟨⟨q + 1, by go_num, by omega, ?_, HBX.out.trans (hby.mono HBX.out.size)⟩, by simp [intOf]; omega⟩
              rw [HS2.out]
              (try rw [List.take_length])
              (try rfl)
        · obtain rfl : q = L.length := by omega
          go_wp2
          refine ⟨⟨p + 1, by go_num, by omega, ?_, HB3.out.trans (hbx.mono HB3.out.size)⟩, by simp [intOf]; omega⟩
          rw [HST.out]
          (try rw [List.take_length])
          go_num
    · obtain rfl : p = m.F.length := by omega
      go_wp2
      go_ret
      exact ⟨by rw [Mg.size_eq]; (try rw [List.take_length]); (try rfl), HBW.out⟩
/-- truffleref09.Size, of any message. -/
theorem rsize_any (B : Nat) : ∀ D, RSizeH B D
  | 0 => fun _ _ _ _ h _ => h.elim
  | D + 1 => rsize_step (rsize_any B D)
end Go.Proofs.Ytjmcpfckcajnjaa.T9
