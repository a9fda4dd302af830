/-
  A message without one of its slots is one of it, too; with all of them gone it is normal: the walk.
-/
import Derived.Test.YtggcjdajmbkpiaaGreatDoorTyAwake
import Derived.Test.YtggcjdajmbkpiaaGreatDoorTnWalk
import Derived.Test.YtggcjdajmbkpiaaGreatDoorTokMath
import Derived.Deep.RegionHeld3
namespace Go.Proofs.YtggcjdajmbkpiaaGreatDoor.T9.lawTypedLess
set_option maxRecDepth 100000

open Go.ChangeShapes Go.WideShapes Go.ChangeAt Go.RowKit

open Go.Proofs.YtggcjdajmbkpiaaGreatDoor.T4

theorem sat_up {w w' : World} {s : Sc} {vM vE : Value} (h : SAt w.heap.size w s vM vE) (hb : Below w.heap.size w w') : SAt w'.heap.size w' s vM vE := SAt.mono (SAt.lo h hb (Nat.le_refl _)) hb.size
theorem may_parts {s : Sc} {m : Int} {x : Mg} (h : mayT s m x = true) : ScMay s ∧ isB s 64 m x = true := by
  unfold mayT at h
  rw [Bool.and_eq_true] at h
  exact ⟨(@decide_eq_true_iff _ (Classical.propDecidable _)).1 h.1, h.2⟩
theorem may_sub {s : Sc} {m : Int} {x y : Mg} (h : mayT s m x = true) (hs : y.F.Sublist x.F) : mayT s m y = true := by
  obtain ⟨h1, h2⟩ := may_parts h
  unfold mayT
  rw [Bool.and_eq_true]
  exact ⟨(@decide_eq_true_iff _ (Classical.propDecidable _)).2 h1, isB_sub h2 hs⟩
theorem less_in {x : Mg} (h : MIn x) (i : Nat) : MIn (lessM x i) := .of fun s hs => h.slot ((less_sub x i).subset hs)
theorem less_cnt (x : Mg) (i : Nat) : (lessM x i).cnt ≤ x.cnt := by
  rw [Mg.cnt_eq, x.cnt_eq]
  have h := sm_append (x.F.take i |>.map cS) (x.F.drop i |>.map cS)
  rw [← List.map_append, List.take_append_drop] at h
  show sm ((x.F.take i ++ x.F.drop (i + 1)).map cS) ≤ _
  rw [List.map_append, sm_append, h]
  have h2 := sm_append ((x.F.drop i).take 1 |>.map cS) ((x.F.drop i).drop 1 |>.map cS)
  rw [← List.map_append, List.take_append_drop, List.drop_drop] at h2
  omega
theorem less_len (x : Mg) {i : Nat} (h : i < x.F.length) : (lessM x i).F.length = i + (x.F.length - (i + 1)) := by
  show (x.F.take i ++ x.F.drop (i + 1)).length = _
  rw [List.length_append, List.length_take, List.length_drop]
  omega
/-- Get, where what comes out is of the call's own. -/
theorem get_ow (D : Nat) (m : Mg) (u : Value) (no : Int) (w : World) (hm : MRd w.heap.size w (D + 1) m u) (hcm : m.cnt ≤ 10000) :
    Calls Tryz.prog 30 #[.agg #[u], .int .i64 no] w fun e w' => ∃ A1 c1 A2 c2, e = .returned (.tuple #[.agg #[.int .i64 ((getM m no).getD so0).no, .slice A1 ((getM m no).getD so0).K.length c1, .slice A2 ((getM m no).getD so0).V.length c2], .bool (getM m no).isSome]) ∧
      SAt' (Ow w.heap.size w') D ((getM m no).getD so0) [.int .i64 ((getM m no).getD so0).no, .slice A1 ((getM m no).getD so0).K.length c1, .slice A2 ((getM m no).getD so0).V.length c2] ∧ Below w.heap.size w w' := by
  refine (get_any w.heap.size D m u no w (Nat.le_refl _) hm (by omega) w.heap.size (Nat.le_refl _)).mono ?_
  rintro e w' ⟨x1, x2, x3, rfl, h1, h2⟩
  have h3 : SAt' (Rd w'.heap.size w') D ((getM m no).getD so0) [x1, x2, x3] := mono_s D Rd.of_own _ _ h1
  obtain ⟨A1, c1, A2, c2, rfl, rfl, rfl⟩ := slot_shape h3
  exact ⟨A1, c1, A2, c2, rfl, h1, h2⟩
theorem onceL {P G : Prop} (f : Hid P → G) (h : P) : G := f (Lib.hid h)
theorem size_sc (g : Nat) : ∀ (vs : List Value) (o : Nat) (w : World), (w.setCells g o vs).heap.size = w.heap.size
  | [], _, _ => rfl
  | v :: vs, o, w => (size_sc g vs (o + 1) _).trans (by simp [World.setCell])
theorem setCells_block {w w' : World} {k : Nat} (h : w'.heap[k]? = w.heap[k]?) (g : Nat) : ∀ (vs : List Value) (o : Nat) (v v' : World), v'.heap[k]? = v.heap[k]? → (v'.setCells g o vs).heap[k]? = (v.setCells g o vs).heap[k]?
  | [], _, _, _, h => h
  | x :: vs, o, v, v', h => setCells_block h g vs (o + 1) _ _ (by simp only [World.setCell, Array.getElem?_modify, h])
theorem after_less {w3 w5 W6 : World} {D g cap n : Nat} {x : Mg} {zs : List Value} {u : Value} {t : TypeId} (hgr : Grow (fun R => SAt' R D) 36 3 w3.heap.size w5 (.slice (some ⟨g, 0, none⟩) x.F.length cap) x.F zs) (hlt : n < x.F.length) (hln : x.F.length ≤ 10000000000000) (hgw : w3.heap.size ≤ g) (hg5 : g < w5.heap.size) (hb5 : Below w3.heap.size w3 w5) (N5 : Below w5.heap.size w5 W6) (T5 : W6.heap[w5.heap.size]? = some (.cells #[u] t (0, 0))) (u' : Value) :
    ((W6.drew.setCells g (n * 3) (zs.drop ((n + 1) * 3))).setCell ⟨w5.heap.size, 0, none⟩ u').heap[w5.heap.size]? = some (.cells #[u'] t (0, 0)) ∧
    MRd ((W6.drew.setCells g (n * 3) (zs.drop ((n + 1) * 3))).setCell ⟨w5.heap.size, 0, none⟩ u').heap.size ((W6.drew.setCells g (n * 3) (zs.drop ((n + 1) * 3))).setCell ⟨w5.heap.size, 0, none⟩ u') (D + 1) (lessM x n) (.slice (some ⟨g, 0, none⟩) (n + (x.F.length - (n + 1))) cap) ∧
    Below w3.heap.size w3 ((W6.drew.setCells g (n * 3) (zs.drop ((n + 1) * 3))).setCell ⟨w5.heap.size, 0, none⟩ u') := by
  obtain ⟨h1, h2⟩ := hgr.erase (mono_s D) (fun R a cs h => sAt.len a cs h) hlt
  have h6 := ((hgr.on (mono_s D) N5).on (mono_s D) (Below.refl W6.heap.size W6).drew).erase (mono_s D) (fun R a cs h => sAt.len a cs h) hlt
  have hs6 := N5.size
  have h65 := box_lt T5
  have hz : (W6.drew.setCells g (n * 3) (zs.drop ((n + 1) * 3))).heap[w5.heap.size]? = some (.cells #[u] t (0, 0)) := (h6.2.block _ (show w5.heap.size < W6.heap.size from h65) (by simp; omega)).trans T5
  obtain ⟨Z1, Z2⟩ := cell1 hz u'
  have hsv : W6.heap.size ≤ (W6.drew.setCells g (n * 3) (zs.drop ((n + 1) * 3))).heap.size := h6.2.size
  refine ⟨Z1, ?_, ?_⟩
  · have hl := h1.ow (mono_s D) (show (x.F.take n ++ x.F.drop (n + 1)).length ≤ 10000000000000 by rw [List.length_append, List.length_take, List.length_drop]; omega)
    have hr := hl.imp Rd.of_own fun a cs h => mono_s D Rd.of_own a cs h
    have hlo : Lo (w5.setCells g (n * 3) (zs.drop ((n + 1) * 3))).heap.size (w5.setCells g (n * 3) (zs.drop ((n + 1) * 3))) ((W6.drew.setCells g (n * 3) (zs.drop ((n + 1) * 3))).setCell ⟨w5.heap.size, 0, none⟩ u') := by
      have e5 : (w5.setCells g (n * 3) (zs.drop ((n + 1) * 3))).heap.size = w5.heap.size := size_sc _ _ _ _
      refine ⟨by have := Z2.size; omega, fun k hk => ?_⟩
      rw [e5] at hk
      rw [Z2.block k (by omega) (by simp; omega)]
      exact setCells_block (w := w5) (w' := w5) (k := k) rfl g _ _ _ _ (N5.block k hk)
    have hsz : (w5.setCells g (n * 3) (zs.drop ((n + 1) * 3))).heap.size ≤ ((W6.drew.setCells g (n * 3) (zs.drop ((n + 1) * 3))).setCell ⟨w5.heap.size, 0, none⟩ u').heap.size := hlo.1
    exact ⟨_, rfl, ((hr.low hlo fun a cs h => SRd.low hlo h).imp (Rd.mono hsz) fun a cs h => SRd.mono hsz h)⟩
  · refine hb5.trans ((N5.mono hb5.size).trans ?_)
    have hb : Below w3.heap.size W6.drew (W6.drew.setCells g (n * 3) (zs.drop ((n + 1) * 3))) := below_own h6.2 hgw (show w3.heap.size ≤ W6.heap.size by have := hb5.size; omega)
    exact (Below.refl _ _).drew.trans (hb.trans (below_own Z2 hb5.size (by have := hb5.size; omega)))
set_option maxRecDepth 1000000 in
set_option maxHeartbeats 8000000 in
theorem walk (w : World) (T : Tabs w) (s : Sc) (vM vE : Value) (hs0 : SAt w.heap.size w s vM vE) (hin : ScIn s) (m : Int) (hm1 : -9223372036854775808 ≤ m) (hm2 : m ≤ 9223372036854775807)
    (x : Mg) (ux : Value) (D : Nat) (hx0 : MAt (Rd w.heap.size w) D x [ux]) (hxi : MIn x) (i : Int) (hi1 : -9223372036854775808 ≤ i) (hi2 : i ≤ 9223372036854775807) :
    Calls Tryz.prog 6 #[.agg #[vM, vE], .int .i64 m, .agg #[ux], .int .i64 i] w fun e w' => e = .returned (.bool true) ∧ Below w.heap.size w w' := by
  obtain ⟨A1, q1, A2, q2, rfl, rfl⟩ := sat_shape hs0
  obtain ⟨Ax, cx, rfl⟩ := rd_shape hx0
  obtain ⟨X1, X2, LBD⟩ := two_boxes w (.cells #[.slice A1 s.M.length q1, .slice A2 s.E.length q2] 25) (.cells #[.slice Ax x.F.length cx] 28)
  have HS := Lib.hid (fun wx (h : Below w.heap.size w wx) => sat_up hs0 h)
  have HG := Lib.hid (fun wx (h : Below w.heap.size w wx) => MRd.mono h.size (MRd.low (Lo.below h (Nat.le_refl _)) (MAt.more (Nat.le_succ D) _ _ hx0)))
  have HT := Lib.hid T
  clear hx0 hs0 T hm1 hm2
  go_enter Tryz.func6, Tryz.ntmps6
  go_wp2_with fail
  refine (awake10_any _ (HT.out.on LBD)).mono ?_
  rintro e w1 ⟨rfl, hb1⟩
  have hb01 := below_then LBD hb1
  have Y1 := box_on X1 hb1
  have Y2 := box_on X2 hb1
  clear X1 X2 LBD hb1
  obtain ⟨y1, y2⟩ := box2' Y1
  have y0 := bx1 Y2
  go_wp2_with fail
  refine (few10_any _ (D + 1) s _ _ x _ w1 (Nat.le_refl _) (HS.out _ hb01) (HG.out _ hb01)).mono ?_
  rintro e w2 ⟨r, rfl, hfit, hb2⟩
  have hb02 := below_then hb01 hb2
  have Y1 := box_on Y1 hb2
  have Y2 := box_on Y2 hb2
  cases r with
  | false =>
    clear y1 y2 y0
    go_wp2
    go_ret
    exact ⟨rfl, hb02⟩
  | true =>
    obtain ⟨hcx, hdx⟩ := hfit (by trivial)
    clear y1 y2 y0 hfit hb2
    obtain ⟨y1, y2⟩ := box2' Y1
    have y0 := bx1 Y2
    have HM := Lib.hid (tmay_any hin _ (D + 1) _ _ m x _ w2 (Nat.le_refl _) (HS.out _ hb02) (HG.out _ hb02) hxi (by omega) (HT.out.on hb02))
    obtain ⟨d, hd⟩ : ∃ d, mayT s m x = d := ⟨_, rfl⟩
    rw [hd] at HM
    go_wp2_with fail
    refine HM.out.mono ?_
    rintro e w3 ⟨rfl, hb3⟩
    have hb03 := below_then hb02 hb3
    have Y1 := box_on Y1 hb3
    have Y2 := box_on Y2 hb3
    clear HM y1 y2 y0 hb3
    obtain ⟨y1, y2⟩ := box2' Y1
    have y0 := bx1 Y2
    cases d with
    | false =>
      go_wp2
      go_ret
      exact ⟨rfl, hb03⟩
    | true =>
      have hme : mayT s m (.mk []) = true := may_sub hd (List.nil_sublist _)
      have HE := Lib.hid (tis_any hin _ 1 _ _ m (.mk []) (.slice none 0 0) w3 (Nat.le_refl _) (HS.out _ hb03) (nil_rd w3) in_n0 (show (Mg.mk []).cnt ≤ 100000 by rw [Mg.cnt_eq]; simp [Mg.F, sm]) (HT.out.on hb03))
      rw [hme, show norB s 64 m (.mk []) = .mk [] from rfl, eqB_yes rfl] at HE
      by_cases hi0 : i < 0
      · have c1 : decide (i < 0) = true := decide_eq_true hi0
        clear hi0
        go_wp2_with fail
        refine HE.out.mono ?_
        rintro e w4 ⟨rfl, hb4⟩
        go_wp2
        go_ret
        exact ⟨rfl, below_then hb03 hb4⟩
      have c1 : decide (i < 0) = false := decide_eq_false hi0
      by_cases hin2 : (x.F.length : Int) ≤ i
      · have c2 : decide (i ≥ (x.F.length : Int)) = true := decide_eq_true hin2
        have c3 : decide ((x.F.length : Int) ≤ i) = true := decide_eq_true hin2
        clear hi0 hin2
        go_wp2_with fail
        refine HE.out.mono ?_
        rintro e w4 ⟨rfl, hb4⟩
        go_wp2
        go_ret
        exact ⟨rfl, below_then hb03 hb4⟩
      obtain ⟨n, rfl⟩ := Int.eq_ofNat_of_zero_le (show 0 ≤ i by omega)
      have hlt : n < x.F.length := by omega
      have c2 : decide ((n : Int) ≥ (x.F.length : Int)) = false := decide_eq_false hin2
      have c3 : decide ((x.F.length : Int) ≤ (n : Int)) = false := decide_eq_false hin2
      have c4 : decide (x.F.length ≤ n) = false := decide_eq_false (by omega)
      have HLT := Lib.hid hlt
      have HMAY := Lib.hid hd
      obtain ⟨a, ha⟩ : ∃ a, x.F[n]? = some a := ⟨_, List.getElem?_eq_getElem hlt⟩
      obtain ⟨adx, hc0, hAx⟩ : ∃ adx : Addr, w3.cell? (adx.add (n * 3)) = some (.int .i64 a.no) ∧ Ax = some adx := by
        obtain ⟨u', hu, hl⟩ := HG.out _ hb03
        simp only [List.cons.injEq, and_true] at hu
        subst hu
        obtain ⟨A, c, xs, e, hs, hbl, hr, hn⟩ := hl.open_
        simp only [Value.slice.injEq, true_and] at e
        obtain ⟨rfl, rfl⟩ := e
        obtain ⟨ad, p0, p1, p2, e, hg, hca, c0, c1, c2⟩ := row3 sAt.len hs hr ha
        obtain ⟨B1, d1, B2, d2, rfl, rfl, rfl⟩ := slot_shape hca
        exact ⟨ad, c0, e⟩
      subst hAx
      have HNO := Lib.hid (fun wx (hx : Below w3.heap.size w3 wx) => cell_on hx hc0)
      have HY := Lib.hid (fun wx (hx : Below w3.heap.size w3 wx) => And.intro (box2' (box_on Y1 hx)) (bx1 (box_on Y2 hx)))
      have HB3 := Lib.hid (fun wx (hx : Below w3.heap.size w3 wx) => below_then hb03 hx)
      obtain ⟨hsm, hib⟩ := may_parts hd
      obtain ⟨hk0, hcase⟩ := less_is (may_keys hsm) hib ha
      have hkm : mayT s m (lessM x n) = true := may_sub hd (less_sub x n)
      have gd := norB_good (may_keys hsm) 64
      have hncnt := gd.cnt _ _ hib
      have hkcnt := gd.cnt m (lessM x n) (by obtain ⟨_, h⟩ := may_parts hkm; exact h)
      have hlcnt := less_cnt x n
      have HOW := Lib.hid (rown_grow (rown_any _ D) x _ w3 (Nat.le_refl _) (HG.out _ hb03) (by omega) _ (Nat.le_refl _))
      clear HE hme hi0 hin2 hlt hi1 hi2 gd hib hsm hc0
      go_wp2_with fail
      refine HOW.out.mono ?_
      rintro e w5 ⟨x1, zs, rfl, hgr, hln, hb5⟩
      clear c1 c2 c3 c4
      obtain ⟨g, cap, rfl, hcap, hgw, hg5, hcells⟩ : ∃ g cap, x1 = .slice (some ⟨g, 0, none⟩) x.F.length cap ∧ x.F.length ≤ cap ∧ w3.heap.size ≤ g ∧ g < w5.heap.size ∧ ∀ j, j < x.F.length * 3 → (w5.cell? ⟨g, j, none⟩ = zs[j]? ∧ zs[j]?.isSome = true ∧ w5.frozen? ⟨g, j, none⟩ = false) := by
        rcases hgr.own with ⟨hl, ⟨-, h0⟩ | ⟨g, cap, cur, rfl, h1, h2, h3, h4, h5, h6⟩⟩
        · have := HLT.out; omega
        · refine ⟨g, cap, rfl, h3, h1, box_lt h2, fun j hj => ?_⟩
          have e : cur[j]? = zs[j]? := by
            rw [← h6, List.getElem?_take_of_lt hj, Array.getElem?_toList]
          exact ⟨(heap_cell h2 j).trans e, by rw [List.getElem?_eq_getElem (by omega)]; rfl, heap_free h2 j⟩
      have N5 := below_new w5 (.cells #[.slice (some ⟨g, 0, none⟩) x.F.length cap] 28)
      have T5 := heap_alloc_new w5 (.cells #[.slice (some ⟨g, 0, none⟩) x.F.length cap] 28)
      have y3 := bx1 T5
      have yf := heap_free T5 0
      have HZL := Lib.hid hgr.own.1
      obtain ⟨W6, hW6⟩ : ∃ W, W = w5.alloc (.cells #[.slice (some ⟨g, 0, none⟩) x.F.length cap] 28) := ⟨_, rfl⟩
      rw [← hW6] at N5 T5 y3 yf
      have hcells6 : ∀ j, j < x.F.length * 3 → (W6.cell? ⟨g, j, none⟩ = zs[j]? ∧ zs[j]?.isSome = true ∧ W6.frozen? ⟨g, j, none⟩ = false) := fun j hj => by
        obtain ⟨h1, h2, h3⟩ := hcells j hj
        have hbk := N5.block g hg5
        have hfz : W6.frozen? ⟨g, j, none⟩ = w5.frozen? ⟨g, j, none⟩ := by simp only [World.frozen?, hbk]
        exact ⟨(World.cell?_of_block hbk).trans h1, h2, hfz.trans h3⟩
      clear hcells
      have HLX := Lib.hid hcells6
      obtain ⟨A, hA, hnews⟩ : ∃ A : Addr, (if cap = n + 1 then some (⟨g, 0, none⟩ : Addr) else some ⟨g, (n + 1) * 3, none⟩) = some A ∧ Hid (∀ j u, (zs.drop ((n + 1) * 3))[j]? = some u → W6.drew.cell? (A.add j) = some u) := by
        by_cases h : cap = n + 1
        · refine ⟨⟨g, 0, none⟩, by simp [h], Lib.hid fun j u hu => ?_⟩
          have h0 : (zs.drop ((n + 1) * 3)).length = 0 := by have := HZL.out; have := HLT.out; rw [List.length_drop]; omega
          rw [List.length_eq_zero_iff.1 h0] at hu
          simp at hu
        · refine ⟨⟨g, (n + 1) * 3, none⟩, by simp [h], Lib.hid fun j u hu => ?_⟩
          rw [List.getElem?_drop] at hu
          have hj := (List.getElem?_eq_some_iff.1 hu).1
          rw [Addr.add_lit]
          exact (HLX.out _ (by have := HZL.out; omega)).1.trans hu
      have s1 : Hid ((zs.drop ((n + 1) * 3)).length = (x.F.length - (n + 1)) * 3) := Lib.hid (by have := HZL.out; rw [List.length_drop]; omega)
      have s2 : Hid (∀ u ∈ zs.drop ((n + 1) * 3), u.oneCell' = true) := Lib.hid fun u hu => by
        obtain ⟨q, hq⟩ := List.mem_iff_getElem?.1 (List.mem_of_mem_drop hu)
        exact Rows.one (fun a cs h => sAt.oneO a cs (sAt.imp Ap.ow (fun m cs h => MAt.imp Ap.ow D m cs h) _ _ h)) hgr.rows u (List.mem_of_getElem? hq)
      have s3 : Hid (∀ j, j < (zs.drop ((n + 1) * 3)).length → (W6.drew.cell? ⟨g, 0 + n * 3 + j, none⟩).isSome = true ∧ W6.drew.frozen? ⟨g, 0 + n * 3 + j, none⟩ = false) := Lib.hid fun j hj => by
        rw [s1.out] at hj
        obtain ⟨h1, h2, h3⟩ := HLX.out (0 + n * 3 + j) (by have := HLT.out; omega)
        exact ⟨by show (W6.cell? _).isSome = true; rw [h1]; exact h2, h3⟩
      have hic : n ≤ cap := by have := HLT.out; omega
      have hroom := Lib.hid (show n + (x.F.length - (n + 1)) ≤ cap by have := HLT.out; omega)
      have hxb := cnt_F x
      have hn3 : n < 9223372036854775807 := by have := HLT.out; omega
      have hwr : IntKind.i64.wrap ((n : Int) + 1) = (n : Int) + 1 := by rw [IntKind.wrap_i64]; omega
      have hp0 : (0 : Int) ≤ (n : Int) + 1 := by omega
      have hp1 : (n : Int) + 1 ≤ (x.F.length : Int) := by have := HLT.out; omega
      have hp2 : ((n : Int) + 1).toNat = n + 1 := by omega
      have HGR := Lib.hid hgr
      have z3 : (W6.drew.setCells g (n * 3) (zs.drop ((n + 1) * 3))).cell? ⟨w5.heap.size, 0, none⟩ = some (.slice (some ⟨g, 0, none⟩) x.F.length cap) := by
        rw [World.cell?_setCells_out g _ _ _ _ (fun hb _ => absurd (show w5.heap.size = g from hb) (by omega))]
        exact bx1 T5
      have zf : (W6.drew.setCells g (n * 3) (zs.drop ((n + 1) * 3))).frozen? ⟨w5.heap.size, 0, none⟩ = false := (World.frozen?_setCells g _ _ _ _).trans (heap_free T5 0)
      have z3' : (W6.drew.setCells g (0 + n * 3) (zs.drop ((n + 1) * 3))).cell? ⟨w5.heap.size, 0, none⟩ = some (.slice (some ⟨g, 0, none⟩) x.F.length cap) := by rw [Nat.zero_add]; exact z3
      have zf' : (W6.drew.setCells g (0 + n * 3) (zs.drop ((n + 1) * 3))).frozen? ⟨w5.heap.size, 0, none⟩ = false := by rw [Nat.zero_add]; exact zf
      clear hgr hcells6 hxb hn3
      clear y1 y2 y0
      simp only [hW6] at y3 yf
      go_wp2_with fail
      rw [← hW6] at y3 yf ⊢
      clear hW6
      apply once
      · intro HGO
        first | go_region_law (refine step_append_room rfl (.tmp 56) (.tmp 61) 26 rfl 36 _ 3 Tryz.underlying26 (info_parts info_slot).choose_spec.1 (info_parts info_slot).choose_spec.2.2.1 g 0 n cap (by simp [Act.eval, Act.put]) A (x.F.length - (n + 1)) (cap - (n + 1)) (zs.drop ((n + 1) * 3)) (by simp [Act.eval, Act.put]) s1.out hnews.out s2.out hroom.out s3.out ?_) | fail
        all_goals exact HGO.out
      obtain ⟨hy8, hyr, hb38⟩ := after_less HGR.out HLT.out hln hgw hg5 hb5 N5 T5 (.slice (some ⟨g, 0, none⟩) (n + (x.F.length - (n + 1))) cap)
      obtain ⟨W8, hW8⟩ : ∃ W, W = (W6.drew.setCells g (n * 3) (zs.drop ((n + 1) * 3))).setCell ⟨w5.heap.size, 0, none⟩ (.slice (some ⟨g, 0, none⟩) (n + (x.F.length - (n + 1))) cap) := ⟨_, rfl⟩
      rw [← hW8] at hy8 hyr hb38 ⊢
      clear hW8 z3 zf z3' zf' y3 yf T5 N5 hA hnews s1 s2 s3 hic hroom hwr hp0 hp1 hp2 HGR HLX HZL hcap hgw hg5 hln hb5
      have hb08 := HB3.out _ hb38
      obtain ⟨⟨y1, y2⟩, y0⟩ := HY.out _ hb38
      obtain ⟨nx, hnx⟩ : ∃ nx, norB s 64 m x = nx := ⟨_, rfl⟩
      obtain ⟨ky, hky⟩ : ∃ ky, norB s 64 m (lessM x n) = ky := ⟨_, rfl⟩
      have HN := Lib.hid (tnormal_any hin _ (D + 1) _ _ m x _ W8 (Nat.le_refl _) (HS.out _ hb08) (HG.out _ hb08) hxi (by omega) (HT.out.on hb08))
      rw [hd, hnx] at HN
      rw [hnx, hky] at hcase
      rw [hky] at hk0 hkcnt
      rw [hnx] at hncnt
      have HCASE := Lib.hid hcase
      clear hcase hd
      go_wp2_with fail
      refine HN.out.mono ?_
      rintro e w9 ⟨A9, n9, c9, rfl, -, hnr, hb9⟩
      have hnr := hnr (by trivial)
      obtain ⟨An, cn, hsh⟩ := rd_shape hnr
      rw [hsh] at hnr
      simp only [Value.slice.injEq] at hsh
      obtain ⟨rfl, rfl, rfl⟩ := hsh
      have N9 := below_new w9 (.cells #[.slice A9 nx.F.length c9] 28)
      have T9 := heap_alloc_new w9 (.cells #[.slice A9 nx.F.length c9] 28)
      have b89 := below_then hb9 N9
      have hb39 := hb38.trans (b89.mono hb38.size)
      have hb09 := HB3.out _ hb39
      have hy9 := box_on hy8 b89
      have hn9 := rd_up N9 hnr
      have hyr9 := rd_up b89 hyr
      have HK := Lib.hid (tnormal_any hin _ (D + 1) _ _ m (lessM x n) _ _ (Nat.le_refl _) (HS.out _ hb09) hyr9 (less_in hxi n) (by omega) (HT.out.on hb09))
      rw [hkm, hky] at HK
      clear y1 y2 y0 hnr hyr
      obtain ⟨⟨y1, y2⟩, y0⟩ := HY.out _ hb39
      have y3 := bx1 hy9
      go_wp2_with fail
      refine HK.out.mono ?_
      rintro e w10 ⟨A10, n10, c10, rfl, -, hkr, hb10⟩
      have hkr := hkr (by trivial)
      obtain ⟨Ak, ck, hsh⟩ := rd_shape hkr
      rw [hsh] at hkr
      simp only [Value.slice.injEq] at hsh
      obtain ⟨rfl, rfl, rfl⟩ := hsh
      have N10 := below_new w10 (.cells #[.slice A10 ky.F.length c10] 28)
      have T10 := heap_alloc_new w10 (.cells #[.slice A10 ky.F.length c10] 28)
      have b910 := below_then hb10 N10
      have hb310 := hb39.trans (b910.mono hb39.size)
      have Tn := box_on T9 b910
      have hn10 := rd_up b910 hn9
      have hk10 := rd_up N10 hkr
      obtain ⟨W10, hW10⟩ : ∃ W, W = w10.alloc (.cells #[.slice A10 ky.F.length c10] 28) := ⟨_, rfl⟩
      rw [← hW10] at T10 hb310 Tn hn10 hk10
      clear y1 y2 y0 y3 b910 N10 N9 b89 hb9 hb10 hkr hn9 hyr9 hy8 hy9 T9 hb39 hb09 hb38 hb08
      have hDx : Below W10.heap.size W10 W10.drew := (Below.refl _ _).drew
      have HSX : Hid (∀ wx, Below W10.heap.size W10 wx → wx.cell? ⟨w.heap.size + 1, 0, none⟩ = some (.slice (some adx) x.F.length cx) ∧ wx.cell? ⟨w9.heap.size, 0, none⟩ = some (.slice A9 nx.F.length c9) ∧ wx.cell? (adx.add (n * 3)) = some (.int .i64 a.no)) := Lib.hid (fun wx hx => by
        have h3 := hb310.trans (hx.mono hb310.size)
        exact ⟨(HY.out _ h3).2, bx1 (box_on Tn hx), HNO.out _ h3⟩)
      have hlt := HLT.out
      have hkb : decide ((n : Int) < (x.F.length : Int)) = true := decide_eq_true (by have := HLT.out; omega)
      have hkb0 : decide ((0 : Int) ≤ (n : Int)) = true := decide_eq_true (by omega)
      have hkb1 : decide (n < x.F.length) = true := decide_eq_true HLT.out
      obtain ⟨th, hth⟩ : ∃ th, (getM nx a.no).isSome = th := ⟨_, rfl⟩
      have HGN := Lib.hid (fun wx (hx : Below W10.heap.size W10 wx) => get_ow D nx _ a.no wx (rd_up hx hn10) (by omega))
      rw [hth] at HGN
      go_wp2_with fail
      rw [← hW10]
      clear hW10
      apply onceL
      · intro HGO
        refine wp_region_held_drew (S := (fun wx => wx.cell? ⟨w.heap.size + 1, 0, none⟩ = some (.slice (some adx) x.F.length cx) ∧ wx.cell? ⟨w9.heap.size, 0, none⟩ = some (.slice A9 nx.F.length c9) ∧ wx.cell? (adx.add (n * 3)) = some (.int .i64 a.no))) (by kernel_rfl) (HSX.out _ hDx) (fun hHeld => ?_)
        refine wpAnyH_take (i := 0) (oi := { dst := some 79, op := Go.Op.load 28 (Go.Operand.tmp 12), type := 28, pos := "law.go:112", after := #[], guard := none }) (v := ?_) rfl (by kernel_rfl) (by kernel_rfl) (by kernel_rfl) (fun _ _ _ h => h) (Or.inl ⟨by rfl, ?_⟩) hHeld ?_
        rotate_left
        · intro w hSw
          (try dsimp only at hSw)
          go_simp
          all_goals with_reducible rfl
        (try simp only [Act.put, List.setIfInBounds_toArray, List.set_cons_zero, List.set_cons_succ])
        refine wpAnyH_take (i := 1) (oi := { dst := some 80, op := Go.Op.fieldAddr 28 (Go.Operand.tmp 6) 0, type := 0, pos := "law.go:112", after := #[], guard := none }) (v := ?_) rfl (by kernel_rfl) (by kernel_rfl) (by kernel_rfl) (fun _ _ _ h => h) (Or.inl ⟨by rfl, ?_⟩) hHeld ?_
        rotate_left
        · intro w hSw
          (try dsimp only at hSw)
          go_simp
          all_goals with_reducible rfl
        (try simp only [Act.put, List.setIfInBounds_toArray, List.set_cons_zero, List.set_cons_succ])
        refine wpAnyH_take (i := 2) (oi := { dst := some 81, op := Go.Op.load 26 (Go.Operand.tmp 80), type := 26, pos := "law.go:112", after := #[{ on := 1, ground := Go.Ground.data }], guard := none }) (v := ?_) rfl (by kernel_rfl) (by kernel_rfl) (by kernel_rfl) (fun _ _ _ h => h) (Or.inl ⟨by rfl, ?_⟩) hHeld ?_
        rotate_left
        · intro w hSw
          (try dsimp only at hSw)
          go_simp
          all_goals with_reducible rfl
        (try simp only [Act.put, List.setIfInBounds_toArray, List.set_cons_zero, List.set_cons_succ])
        refine wpAnyH_take (i := 3) (oi := { dst := some 82, op := Go.Op.move (Go.Operand.tmp 3), type := 3, pos := "law.go:112", after := #[], guard := none }) (v := ?_) rfl (by kernel_rfl) (by kernel_rfl) (by kernel_rfl) (fun _ _ _ h => h) (Or.inl ⟨by rfl, ?_⟩) hHeld ?_
        rotate_left
        · intro w hSw
          (try dsimp only at hSw)
          go_simp
          all_goals with_reducible rfl
        (try simp only [Act.put, List.setIfInBounds_toArray, List.set_cons_zero, List.set_cons_succ])
        refine wpAnyH_take (i := 4) (oi := { dst := some 83, op := Go.Op.indexAddr 26 (Go.Operand.tmp 81) (Go.Operand.tmp 82), type := 0, pos := "law.go:112", after := #[{ on := 2, ground := Go.Ground.data }, { on := 3, ground := Go.Ground.data }], guard := none }) (v := ?_) rfl (by kernel_rfl) (by kernel_rfl) (by kernel_rfl) (fun _ _ _ h => h) (Or.inl ⟨by rfl, ?_⟩) hHeld ?_
        rotate_left
        · intro w hSw
          (try dsimp only at hSw)
          go_simp
          all_goals with_reducible rfl
        (try simp only [Act.put, List.setIfInBounds_toArray, List.set_cons_zero, List.set_cons_succ])
        refine wpAnyH_take (i := 5) (oi := { dst := some 84, op := Go.Op.fieldAddr 36 (Go.Operand.tmp 83) 0, type := 0, pos := "law.go:112", after := #[{ on := 4, ground := Go.Ground.data }], guard := none }) (v := ?_) rfl (by kernel_rfl) (by kernel_rfl) (by kernel_rfl) (fun _ _ _ h => h) (Or.inl ⟨by rfl, ?_⟩) hHeld ?_
        rotate_left
        · intro w hSw
          (try dsimp only at hSw)
          go_simp
          all_goals with_reducible rfl
        (try simp only [Act.put, List.setIfInBounds_toArray, List.set_cons_zero, List.set_cons_succ])
        refine wpAnyH_take (i := 6) (oi := { dst := some 85, op := Go.Op.load 3 (Go.Operand.tmp 84), type := 3, pos := "law.go:112", after := #[{ on := 5, ground := Go.Ground.data }], guard := none }) (v := ?_) rfl (by kernel_rfl) (by kernel_rfl) (by kernel_rfl) (fun _ _ _ h => h) (Or.inl ⟨by rfl, ?_⟩) hHeld ?_
        rotate_left
        · intro w hSw
          (try dsimp only at hSw)
          go_simp
          all_goals with_reducible rfl
        (try simp only [Act.put, List.setIfInBounds_toArray, List.set_cons_zero, List.set_cons_succ])
        refine wpAnyH_ready (rs := [7, 11]) (by kernel_rfl) (by simp) ?_
        refine AllReadyH.cons (o := { dst := some 86, op := Go.Op.call { callee := Go.Callee.value (Go.Operand.func 30), args := #[Go.Operand.tmp 79, Go.Operand.tmp 85], argTypes := #[28, 3] }, type := 47, pos := "law.go:112", after := #[{ on := 0, ground := Go.Ground.data }, { on := 6, ground := Go.Ground.data }], guard := none }) rfl (fun K hK => ?_) (AllReadyH.cons (o := { dst := some 16, op := Go.Op.alloc 36, type := 0, pos := "law.go:112", after := #[], guard := none }) rfl (fun K hK => ?_) AllReadyH.nil)
        · go_simp
          (go_at_call 30; (with_reducible refine (HGN.out _ hDx).mono ?_); rintro e w11 ⟨G1, g1, G2, g2, rfl, hgs, hb11⟩; have L11 := below_then hDx hb11)
          go_wp2_with fail
          refine hK.out _ _ (HSX.out _ L11) (fun hHeld => ?_)
          clear hK K
          (try simp only [Act.put, List.setIfInBounds_toArray, List.set_cons_zero, List.set_cons_succ])
          refine wpAnyH_take (i := 8) (oi := { dst := some 78, op := Go.Op.move (Go.Operand.tmp 86), type := 47, pos := "law.go:112", after := #[{ on := 7, ground := Go.Ground.data }], guard := none }) (v := ?_) rfl (by kernel_rfl) (by kernel_rfl) (by kernel_rfl) (fun _ _ _ h => h) (Or.inl ⟨by rfl, ?_⟩) hHeld ?_
          rotate_left
          · intro w hSw
            (try dsimp only at hSw)
            go_simp
            all_goals with_reducible rfl
          (try simp only [Act.put, List.setIfInBounds_toArray, List.set_cons_zero, List.set_cons_succ])
          refine wpAnyH_take (i := 9) (oi := { dst := some 87, op := Go.Op.extract (Go.Operand.tmp 78) 0, type := 36, pos := "law.go:112", after := #[{ on := 8, ground := Go.Ground.data }], guard := none }) (v := ?_) rfl (by kernel_rfl) (by kernel_rfl) (by kernel_rfl) (fun _ _ _ h => h) (Or.inl ⟨by rfl, ?_⟩) hHeld ?_
          rotate_left
          · intro w hSw
            (try dsimp only at hSw)
            go_simp
            all_goals with_reducible rfl
          (try simp only [Act.put, List.setIfInBounds_toArray, List.set_cons_zero, List.set_cons_succ])
          refine wpAnyH_take (i := 10) (oi := { dst := some 88, op := Go.Op.extract (Go.Operand.tmp 78) 1, type := 4, pos := "law.go:112", after := #[{ on := 8, ground := Go.Ground.data }, { on := 12, ground := Go.Ground.gcOnly Go.Departure.lateStores }], guard := none }) (v := ?_) rfl (by kernel_rfl) (by kernel_rfl) (by kernel_rfl) (fun _ _ _ h => h) (Or.inl ⟨by rfl, ?_⟩) hHeld ?_
          rotate_left
          · intro w hSw
            (try dsimp only at hSw)
            go_simp
            all_goals with_reducible rfl
          (try simp only [Act.put, List.setIfInBounds_toArray, List.set_cons_zero, List.set_cons_succ])
          refine wpAnyH_ready (rs := [11]) (by kernel_rfl) (by simp) ?_
          refine AllReadyH.cons (o := { dst := some 16, op := Go.Op.alloc 36, type := 0, pos := "law.go:112", after := #[], guard := none }) rfl (fun K hK => ?_) AllReadyH.nil
          go_simp
          refine hK.out _ _ (HSX.out _ (below_then L11 (below_new w11 (.cells #[.int .i64 0, .slice none 0 0, .slice none 0 0] 36)))) (fun hHeld => ?_)
          clear hK K
          (try simp only [Act.put, List.setIfInBounds_toArray, List.set_cons_zero, List.set_cons_succ])
          refine wpAnyH_ready (rs := [12]) (by kernel_rfl) (by simp) ?_
          refine AllReadyH.cons (o := { dst := none, op := Go.Op.store 36 (Go.Operand.tmp 16) (Go.Operand.tmp 87), type := 0, pos := "law.go:112", after := #[{ on := 11, ground := Go.Ground.data }, { on := 9, ground := Go.Ground.data }, { on := 7, ground := Go.Ground.chain }, { on := 0, ground := Go.Ground.phase }, { on := 1, ground := Go.Ground.phase }, { on := 2, ground := Go.Ground.phase }, { on := 3, ground := Go.Ground.phase }, { on := 4, ground := Go.Ground.phase }, { on := 5, ground := Go.Ground.phase }, { on := 6, ground := Go.Ground.phase }, { on := 7, ground := Go.Ground.phase }, { on := 8, ground := Go.Ground.phase }, { on := 9, ground := Go.Ground.phase }, { on := 10, ground := Go.Ground.textOnly Go.Departure.lateStores }, { on := 11, ground := Go.Ground.phase }], guard := none }) rfl (fun K hK => ?_) AllReadyH.nil
          go_simp
          refine hK.out _ _ (HSX.out _ (below_then L11 (below_new w11 (.cells #[.int .i64 ((getM nx a.no).getD so0).no, .slice G1 ((getM nx a.no).getD so0).K.length g1, .slice G2 ((getM nx a.no).getD so0).V.length g2] 36)))) (fun hHeld => ?_)
          clear hK K
          (try simp only [Act.put, List.setIfInBounds_toArray, List.set_cons_zero, List.set_cons_succ])
          refine wpAnyH_take (i := 13) (oi := { dst := some 17, op := Go.Op.assign (Go.Operand.tmp 88), type := 4, pos := "law.go:112", after := #[{ on := 10, ground := Go.Ground.data }, { on := 12, ground := Go.Ground.chain }, { on := 0, ground := Go.Ground.phase }, { on := 1, ground := Go.Ground.phase }, { on := 2, ground := Go.Ground.phase }, { on := 3, ground := Go.Ground.phase }, { on := 4, ground := Go.Ground.phase }, { on := 5, ground := Go.Ground.phase }, { on := 6, ground := Go.Ground.phase }, { on := 7, ground := Go.Ground.phase }, { on := 8, ground := Go.Ground.phase }, { on := 9, ground := Go.Ground.phase }, { on := 10, ground := Go.Ground.phase }, { on := 11, ground := Go.Ground.phase }, { on := 12, ground := Go.Ground.phase }], guard := none }) (v := ?_) rfl (by kernel_rfl) (by kernel_rfl) (by kernel_rfl) (fun _ _ _ h => h) (Or.inl ⟨by rfl, ?_⟩) hHeld ?_
          rotate_left
          · intro w hSw
            (try dsimp only at hSw)
            go_simp
            all_goals with_reducible rfl
          (try simp only [Act.put, List.setIfInBounds_toArray, List.set_cons_zero, List.set_cons_succ])
          refine wpAnyH_done (by kernel_rfl) ?_ _
          obtain ⟨W, hW⟩ : ∃ W, W = w11.alloc (.cells #[.int .i64 ((getM nx a.no).getD so0).no, .slice G1 ((getM nx a.no).getD so0).K.length g1, .slice G2 ((getM nx a.no).getD so0).V.length g2] 36) := ⟨_, rfl⟩
          obtain ⟨gs, hgs2⟩ : ∃ q, q = w11.heap.size := ⟨_, rfl⟩
          have F : Below W10.heap.size W10 W ∧ W.heap[gs]? = some (.cells #[.int .i64 ((getM nx a.no).getD so0).no, .slice G1 ((getM nx a.no).getD so0).K.length g1, .slice G2 ((getM nx a.no).getD so0).V.length g2] 36) ∧ SAt' (Rd W.heap.size W) D ((getM nx a.no).getD so0) [.int .i64 ((getM nx a.no).getD so0).no, .slice G1 ((getM nx a.no).getD so0).K.length g1, .slice G2 ((getM nx a.no).getD so0).V.length g2] := by rw [hW, hgs2]; exact ⟨below_then L11 (below_new _ _), heap_alloc_new _ _, mono_s D Rd.of_own _ _ (mono_s D (Ow.hi (hi_below _ (below_new w11 (.cells #[.int .i64 ((getM nx a.no).getD so0).no, .slice G1 ((getM nx a.no).getD so0).K.length g1, .slice G2 ((getM nx a.no).getD so0).V.length g2] 36)))) _ _ hgs)⟩
          rw [← hW, ← hgs2]
          clear hW hgs2 hHeld hgs hb11 L11
          revert G1 g1 G2 g2 W gs
          exact HGO.out
        · have hDa : Below W10.heap.size W10 (W10.alloc (.cells #[.int .i64 0, .slice none 0 0, .slice none 0 0] 36)).drew := (below_new W10 (.cells #[.int .i64 0, .slice none 0 0, .slice none 0 0] 36)).drew
          go_simp
          refine hK.out _ _ (HSX.out _ hDa) (fun hHeld => ?_)
          clear hK K
          (try simp only [Act.put, List.setIfInBounds_toArray, List.set_cons_zero, List.set_cons_succ])
          refine wpAnyH_ready (rs := [7]) (by kernel_rfl) (by simp) ?_
          refine AllReadyH.cons (o := { dst := some 86, op := Go.Op.call { callee := Go.Callee.value (Go.Operand.func 30), args := #[Go.Operand.tmp 79, Go.Operand.tmp 85], argTypes := #[28, 3] }, type := 47, pos := "law.go:112", after := #[{ on := 0, ground := Go.Ground.data }, { on := 6, ground := Go.Ground.data }], guard := none }) rfl (fun K hK => ?_) AllReadyH.nil
          go_simp
          (go_at_call 30; (with_reducible refine (HGN.out _ hDa).mono ?_); rintro e w11 ⟨G1, g1, G2, g2, rfl, hgs, hb11⟩; have L11 := below_then hDa hb11)
          go_wp2_with fail
          refine hK.out _ _ (HSX.out _ L11) (fun hHeld => ?_)
          clear hK K
          (try simp only [Act.put, List.setIfInBounds_toArray, List.set_cons_zero, List.set_cons_succ])
          refine wpAnyH_take (i := 8) (oi := { dst := some 78, op := Go.Op.move (Go.Operand.tmp 86), type := 47, pos := "law.go:112", after := #[{ on := 7, ground := Go.Ground.data }], guard := none }) (v := ?_) rfl (by kernel_rfl) (by kernel_rfl) (by kernel_rfl) (fun _ _ _ h => h) (Or.inl ⟨by rfl, ?_⟩) hHeld ?_
          rotate_left
          · intro w hSw
            (try dsimp only at hSw)
            go_simp
            all_goals with_reducible rfl
          (try simp only [Act.put, List.setIfInBounds_toArray, List.set_cons_zero, List.set_cons_succ])
          refine wpAnyH_take (i := 9) (oi := { dst := some 87, op := Go.Op.extract (Go.Operand.tmp 78) 0, type := 36, pos := "law.go:112", after := #[{ on := 8, ground := Go.Ground.data }], guard := none }) (v := ?_) rfl (by kernel_rfl) (by kernel_rfl) (by kernel_rfl) (fun _ _ _ h => h) (Or.inl ⟨by rfl, ?_⟩) hHeld ?_
          rotate_left
          · intro w hSw
            (try dsimp only at hSw)
            go_simp
            all_goals with_reducible rfl
          (try simp only [Act.put, List.setIfInBounds_toArray, List.set_cons_zero, List.set_cons_succ])
          refine wpAnyH_take (i := 10) (oi := { dst := some 88, op := Go.Op.extract (Go.Operand.tmp 78) 1, type := 4, pos := "law.go:112", after := #[{ on := 8, ground := Go.Ground.data }, { on := 12, ground := Go.Ground.gcOnly Go.Departure.lateStores }], guard := none }) (v := ?_) rfl (by kernel_rfl) (by kernel_rfl) (by kernel_rfl) (fun _ _ _ h => h) (Or.inl ⟨by rfl, ?_⟩) hHeld ?_
          rotate_left
          · intro w hSw
            (try dsimp only at hSw)
            go_simp
            all_goals with_reducible rfl
          (try simp only [Act.put, List.setIfInBounds_toArray, List.set_cons_zero, List.set_cons_succ])
          have T0 : w11.heap[W10.heap.size]? = some (.cells #[.int .i64 0, .slice none 0 0, .slice none 0 0] 36) := box_on (show (W10.alloc (.cells #[.int .i64 0, .slice none 0 0, .slice none 0 0] 36)).drew.heap[W10.heap.size]? = some (.cells #[.int .i64 0, .slice none 0 0, .slice none 0 0] 36) from heap_alloc_new W10 (.cells #[.int .i64 0, .slice none 0 0, .slice none 0 0] 36)) hb11
          have h1lt : W10.heap.size < (W10.alloc (.cells #[.int .i64 0, .slice none 0 0, .slice none 0 0] 36)).drew.heap.size := by show _ < (W10.alloc (.cells #[.int .i64 0, .slice none 0 0, .slice none 0 0] 36)).heap.size; simp
          obtain ⟨⟨p0, p1, p2⟩, p3, p4, p5⟩ := wr3 T0
          obtain ⟨Z1, Z2⟩ := three_set T0 (.int .i64 ((getM nx a.no).getD so0).no) (.slice G1 ((getM nx a.no).getD so0).K.length g1) (.slice G2 ((getM nx a.no).getD so0).V.length g2)
          refine wpAnyH_ready (rs := [12]) (by kernel_rfl) (by simp) ?_
          refine AllReadyH.cons (o := { dst := none, op := Go.Op.store 36 (Go.Operand.tmp 16) (Go.Operand.tmp 87), type := 0, pos := "law.go:112", after := #[{ on := 11, ground := Go.Ground.data }, { on := 9, ground := Go.Ground.data }, { on := 7, ground := Go.Ground.chain }, { on := 0, ground := Go.Ground.phase }, { on := 1, ground := Go.Ground.phase }, { on := 2, ground := Go.Ground.phase }, { on := 3, ground := Go.Ground.phase }, { on := 4, ground := Go.Ground.phase }, { on := 5, ground := Go.Ground.phase }, { on := 6, ground := Go.Ground.phase }, { on := 7, ground := Go.Ground.phase }, { on := 8, ground := Go.Ground.phase }, { on := 9, ground := Go.Ground.phase }, { on := 10, ground := Go.Ground.textOnly Go.Departure.lateStores }, { on := 11, ground := Go.Ground.phase }], guard := none }) rfl (fun K hK => ?_) AllReadyH.nil
          go_simp
          refine hK.out _ _ (HSX.out _ (L11.trans (below_own Z2 (Nat.le_refl _) L11.size))) (fun hHeld => ?_)
          clear hK K
          (try simp only [Act.put, List.setIfInBounds_toArray, List.set_cons_zero, List.set_cons_succ])
          clear p0 p1 p2 p3 p4 p5
          refine wpAnyH_take (i := 13) (oi := { dst := some 17, op := Go.Op.assign (Go.Operand.tmp 88), type := 4, pos := "law.go:112", after := #[{ on := 10, ground := Go.Ground.data }, { on := 12, ground := Go.Ground.chain }, { on := 0, ground := Go.Ground.phase }, { on := 1, ground := Go.Ground.phase }, { on := 2, ground := Go.Ground.phase }, { on := 3, ground := Go.Ground.phase }, { on := 4, ground := Go.Ground.phase }, { on := 5, ground := Go.Ground.phase }, { on := 6, ground := Go.Ground.phase }, { on := 7, ground := Go.Ground.phase }, { on := 8, ground := Go.Ground.phase }, { on := 9, ground := Go.Ground.phase }, { on := 10, ground := Go.Ground.phase }, { on := 11, ground := Go.Ground.phase }, { on := 12, ground := Go.Ground.phase }], guard := none }) (v := ?_) rfl (by kernel_rfl) (by kernel_rfl) (by kernel_rfl) (fun _ _ _ h => h) (Or.inl ⟨by rfl, ?_⟩) hHeld ?_
          rotate_left
          · intro w hSw
            (try dsimp only at hSw)
            go_simp
            all_goals with_reducible rfl
          (try simp only [Act.put, List.setIfInBounds_toArray, List.set_cons_zero, List.set_cons_succ])
          refine wpAnyH_done (by kernel_rfl) ?_ _
          obtain ⟨W, hW⟩ : ∃ W, W = ((w11.setCell ⟨W10.heap.size, 0, none⟩ (.int .i64 ((getM nx a.no).getD so0).no)).setCell ⟨W10.heap.size, 1, none⟩ (.slice G1 ((getM nx a.no).getD so0).K.length g1)).setCell ⟨W10.heap.size, 2, none⟩ (.slice G2 ((getM nx a.no).getD so0).V.length g2) := ⟨_, rfl⟩
          obtain ⟨gs, hgs2⟩ : ∃ q, q = W10.heap.size := ⟨_, rfl⟩
          have F : Below W10.heap.size W10 W ∧ W.heap[gs]? = some (.cells #[.int .i64 ((getM nx a.no).getD so0).no, .slice G1 ((getM nx a.no).getD so0).K.length g1, .slice G2 ((getM nx a.no).getD so0).V.length g2] 36) ∧ SAt' (Rd W.heap.size W) D ((getM nx a.no).getD so0) [.int .i64 ((getM nx a.no).getD so0).no, .slice G1 ((getM nx a.no).getD so0).K.length g1, .slice G2 ((getM nx a.no).getD so0).V.length g2] := by rw [hW, hgs2]; exact ⟨L11.trans (below_own Z2 (Nat.le_refl _) L11.size), Z1, mono_s D Rd.of_own _ _ (mono_s D (Ow.hi (hi_grown Z2 h1lt)) _ _ hgs)⟩
          rw [← hW, ← hgs2]
          clear hW hgs2 hHeld hgs hb11 L11 Z1 Z2
          revert G1 g1 G2 g2 W gs
          exact HGO.out
      intro G1 g1 G2 g2 W11 gs ⟨b1011, Ts, hsr⟩
      have hb311 := hb310.trans (b1011.mono hb310.size)
      have Tn := box_on Tn b1011
      have Tk := box_on T10 b1011
      have hn11 := rd_up b1011 hn10
      have hk11 := rd_up b1011 hk10
      clear HSX HGN hDx T10 hn10 hk10 b1011
      have hDx : Below W11.heap.size W11 W11.drew := (Below.refl _ _).drew
      have HSX2 : Hid (∀ wx, Below W11.heap.size W11 wx → wx.cell? ⟨w.heap.size + 1, 0, none⟩ = some (.slice (some adx) x.F.length cx) ∧ wx.cell? ⟨w10.heap.size, 0, none⟩ = some (.slice A10 ky.F.length c10) ∧ wx.cell? (adx.add (n * 3)) = some (.int .i64 a.no)) := Lib.hid (fun wx hx => by
        have h3 := hb311.trans (hx.mono hb311.size)
        exact ⟨(HY.out _ h3).2, bx1 (box_on Tk hx), HNO.out _ h3⟩)
      have HGK := Lib.hid (fun wx (hx : Below W11.heap.size W11 wx) => get_ow D ky _ a.no wx (rd_up hx hk11) (by omega))
      rw [show (getM ky a.no).isSome = false by rw [hk0]; rfl] at HGK
      clear hk0
      go_wp2_with fail
      apply onceL
      · intro HGO
        refine wp_region_held_drew (S := (fun wx => wx.cell? ⟨w.heap.size + 1, 0, none⟩ = some (.slice (some adx) x.F.length cx) ∧ wx.cell? ⟨w10.heap.size, 0, none⟩ = some (.slice A10 ky.F.length c10) ∧ wx.cell? (adx.add (n * 3)) = some (.int .i64 a.no))) (by kernel_rfl) (HSX2.out _ hDx) (fun hHeld => ?_)
        refine wpAnyH_take (i := 0) (oi := { dst := some 90, op := Go.Op.load 28 (Go.Operand.tmp 14), type := 28, pos := "law.go:113", after := #[], guard := none }) (v := ?_) rfl (by kernel_rfl) (by kernel_rfl) (by kernel_rfl) (fun _ _ _ h => h) (Or.inl ⟨by rfl, ?_⟩) hHeld ?_
        rotate_left
        · intro w hSw
          (try dsimp only at hSw)
          go_simp
          all_goals with_reducible rfl
        (try simp only [Act.put, List.setIfInBounds_toArray, List.set_cons_zero, List.set_cons_succ])
        refine wpAnyH_take (i := 1) (oi := { dst := some 91, op := Go.Op.fieldAddr 28 (Go.Operand.tmp 6) 0, type := 0, pos := "law.go:113", after := #[], guard := none }) (v := ?_) rfl (by kernel_rfl) (by kernel_rfl) (by kernel_rfl) (fun _ _ _ h => h) (Or.inl ⟨by rfl, ?_⟩) hHeld ?_
        rotate_left
        · intro w hSw
          (try dsimp only at hSw)
          go_simp
          all_goals with_reducible rfl
        (try simp only [Act.put, List.setIfInBounds_toArray, List.set_cons_zero, List.set_cons_succ])
        refine wpAnyH_take (i := 2) (oi := { dst := some 92, op := Go.Op.load 26 (Go.Operand.tmp 91), type := 26, pos := "law.go:113", after := #[{ on := 1, ground := Go.Ground.data }], guard := none }) (v := ?_) rfl (by kernel_rfl) (by kernel_rfl) (by kernel_rfl) (fun _ _ _ h => h) (Or.inl ⟨by rfl, ?_⟩) hHeld ?_
        rotate_left
        · intro w hSw
          (try dsimp only at hSw)
          go_simp
          all_goals with_reducible rfl
        (try simp only [Act.put, List.setIfInBounds_toArray, List.set_cons_zero, List.set_cons_succ])
        refine wpAnyH_take (i := 3) (oi := { dst := some 93, op := Go.Op.move (Go.Operand.tmp 3), type := 3, pos := "law.go:113", after := #[], guard := none }) (v := ?_) rfl (by kernel_rfl) (by kernel_rfl) (by kernel_rfl) (fun _ _ _ h => h) (Or.inl ⟨by rfl, ?_⟩) hHeld ?_
        rotate_left
        · intro w hSw
          (try dsimp only at hSw)
          go_simp
          all_goals with_reducible rfl
        (try simp only [Act.put, List.setIfInBounds_toArray, List.set_cons_zero, List.set_cons_succ])
        refine wpAnyH_take (i := 4) (oi := { dst := some 94, op := Go.Op.indexAddr 26 (Go.Operand.tmp 92) (Go.Operand.tmp 93), type := 0, pos := "law.go:113", after := #[{ on := 2, ground := Go.Ground.data }, { on := 3, ground := Go.Ground.data }], guard := none }) (v := ?_) rfl (by kernel_rfl) (by kernel_rfl) (by kernel_rfl) (fun _ _ _ h => h) (Or.inl ⟨by rfl, ?_⟩) hHeld ?_
        rotate_left
        · intro w hSw
          (try dsimp only at hSw)
          go_simp
          all_goals with_reducible rfl
        (try simp only [Act.put, List.setIfInBounds_toArray, List.set_cons_zero, List.set_cons_succ])
        refine wpAnyH_take (i := 5) (oi := { dst := some 95, op := Go.Op.fieldAddr 36 (Go.Operand.tmp 94) 0, type := 0, pos := "law.go:113", after := #[{ on := 4, ground := Go.Ground.data }], guard := none }) (v := ?_) rfl (by kernel_rfl) (by kernel_rfl) (by kernel_rfl) (fun _ _ _ h => h) (Or.inl ⟨by rfl, ?_⟩) hHeld ?_
        rotate_left
        · intro w hSw
          (try dsimp only at hSw)
          go_simp
          all_goals with_reducible rfl
        (try simp only [Act.put, List.setIfInBounds_toArray, List.set_cons_zero, List.set_cons_succ])
        refine wpAnyH_take (i := 6) (oi := { dst := some 96, op := Go.Op.load 3 (Go.Operand.tmp 95), type := 3, pos := "law.go:113", after := #[{ on := 5, ground := Go.Ground.data }], guard := none }) (v := ?_) rfl (by kernel_rfl) (by kernel_rfl) (by kernel_rfl) (fun _ _ _ h => h) (Or.inl ⟨by rfl, ?_⟩) hHeld ?_
        rotate_left
        · intro w hSw
          (try dsimp only at hSw)
          go_simp
          all_goals with_reducible rfl
        (try simp only [Act.put, List.setIfInBounds_toArray, List.set_cons_zero, List.set_cons_succ])
        refine wpAnyH_ready (rs := [7, 11]) (by kernel_rfl) (by simp) ?_
        refine AllReadyH.cons (o := { dst := some 97, op := Go.Op.call { callee := Go.Callee.value (Go.Operand.func 30), args := #[Go.Operand.tmp 90, Go.Operand.tmp 96], argTypes := #[28, 3] }, type := 47, pos := "law.go:113", after := #[{ on := 0, ground := Go.Ground.data }, { on := 6, ground := Go.Ground.data }], guard := none }) rfl (fun K hK => ?_) (AllReadyH.cons (o := { dst := some 18, op := Go.Op.alloc 36, type := 0, pos := "law.go:113", after := #[], guard := none }) rfl (fun K hK => ?_) AllReadyH.nil)
        · go_simp
          (go_at_call 30; (with_reducible refine (HGK.out _ hDx).mono ?_); rintro e w11 ⟨G1, g1, G2, g2, rfl, hgs, hb11⟩; have L11 := below_then hDx hb11)
          go_wp2_with fail
          refine hK.out _ _ (HSX2.out _ L11) (fun hHeld => ?_)
          clear hK K
          (try simp only [Act.put, List.setIfInBounds_toArray, List.set_cons_zero, List.set_cons_succ])
          refine wpAnyH_take (i := 8) (oi := { dst := some 89, op := Go.Op.move (Go.Operand.tmp 97), type := 47, pos := "law.go:113", after := #[{ on := 7, ground := Go.Ground.data }], guard := none }) (v := ?_) rfl (by kernel_rfl) (by kernel_rfl) (by kernel_rfl) (fun _ _ _ h => h) (Or.inl ⟨by rfl, ?_⟩) hHeld ?_
          rotate_left
          · intro w hSw
            (try dsimp only at hSw)
            go_simp
            all_goals with_reducible rfl
          (try simp only [Act.put, List.setIfInBounds_toArray, List.set_cons_zero, List.set_cons_succ])
          refine wpAnyH_take (i := 9) (oi := { dst := some 98, op := Go.Op.extract (Go.Operand.tmp 89) 0, type := 36, pos := "law.go:113", after := #[{ on := 8, ground := Go.Ground.data }], guard := none }) (v := ?_) rfl (by kernel_rfl) (by kernel_rfl) (by kernel_rfl) (fun _ _ _ h => h) (Or.inl ⟨by rfl, ?_⟩) hHeld ?_
          rotate_left
          · intro w hSw
            (try dsimp only at hSw)
            go_simp
            all_goals with_reducible rfl
          (try simp only [Act.put, List.setIfInBounds_toArray, List.set_cons_zero, List.set_cons_succ])
          refine wpAnyH_take (i := 10) (oi := { dst := some 99, op := Go.Op.extract (Go.Operand.tmp 89) 1, type := 4, pos := "law.go:113", after := #[{ on := 8, ground := Go.Ground.data }, { on := 12, ground := Go.Ground.gcOnly Go.Departure.lateStores }], guard := none }) (v := ?_) rfl (by kernel_rfl) (by kernel_rfl) (by kernel_rfl) (fun _ _ _ h => h) (Or.inl ⟨by rfl, ?_⟩) hHeld ?_
          rotate_left
          · intro w hSw
            (try dsimp only at hSw)
            go_simp
            all_goals with_reducible rfl
          (try simp only [Act.put, List.setIfInBounds_toArray, List.set_cons_zero, List.set_cons_succ])
          refine wpAnyH_ready (rs := [11]) (by kernel_rfl) (by simp) ?_
          refine AllReadyH.cons (o := { dst := some 18, op := Go.Op.alloc 36, type := 0, pos := "law.go:113", after := #[], guard := none }) rfl (fun K hK => ?_) AllReadyH.nil
          go_simp
          refine hK.out _ _ (HSX2.out _ (below_then L11 (below_new w11 (.cells #[.int .i64 0, .slice none 0 0, .slice none 0 0] 36)))) (fun hHeld => ?_)
          clear hK K
          (try simp only [Act.put, List.setIfInBounds_toArray, List.set_cons_zero, List.set_cons_succ])
          refine wpAnyH_ready (rs := [12]) (by kernel_rfl) (by simp) ?_
          refine AllReadyH.cons (o := { dst := none, op := Go.Op.store 36 (Go.Operand.tmp 18) (Go.Operand.tmp 98), type := 0, pos := "law.go:113", after := #[{ on := 11, ground := Go.Ground.data }, { on := 9, ground := Go.Ground.data }, { on := 7, ground := Go.Ground.chain }, { on := 0, ground := Go.Ground.phase }, { on := 1, ground := Go.Ground.phase }, { on := 2, ground := Go.Ground.phase }, { on := 3, ground := Go.Ground.phase }, { on := 4, ground := Go.Ground.phase }, { on := 5, ground := Go.Ground.phase }, { on := 6, ground := Go.Ground.phase }, { on := 7, ground := Go.Ground.phase }, { on := 8, ground := Go.Ground.phase }, { on := 9, ground := Go.Ground.phase }, { on := 10, ground := Go.Ground.textOnly Go.Departure.lateStores }, { on := 11, ground := Go.Ground.phase }], guard := none }) rfl (fun K hK => ?_) AllReadyH.nil
          go_simp
          refine hK.out _ _ (HSX2.out _ (below_then L11 (below_new w11 (.cells #[.int .i64 ((getM ky a.no).getD so0).no, .slice G1 ((getM ky a.no).getD so0).K.length g1, .slice G2 ((getM ky a.no).getD so0).V.length g2] 36)))) (fun hHeld => ?_)
          clear hK K
          (try simp only [Act.put, List.setIfInBounds_toArray, List.set_cons_zero, List.set_cons_succ])
          refine wpAnyH_take (i := 13) (oi := { dst := some 19, op := Go.Op.assign (Go.Operand.tmp 99), type := 4, pos := "law.go:113", after := #[{ on := 10, ground := Go.Ground.data }, { on := 12, ground := Go.Ground.chain }, { on := 0, ground := Go.Ground.phase }, { on := 1, ground := Go.Ground.phase }, { on := 2, ground := Go.Ground.phase }, { on := 3, ground := Go.Ground.phase }, { on := 4, ground := Go.Ground.phase }, { on := 5, ground := Go.Ground.phase }, { on := 6, ground := Go.Ground.phase }, { on := 7, ground := Go.Ground.phase }, { on := 8, ground := Go.Ground.phase }, { on := 9, ground := Go.Ground.phase }, { on := 10, ground := Go.Ground.phase }, { on := 11, ground := Go.Ground.phase }, { on := 12, ground := Go.Ground.phase }], guard := none }) (v := ?_) rfl (by kernel_rfl) (by kernel_rfl) (by kernel_rfl) (fun _ _ _ h => h) (Or.inl ⟨by rfl, ?_⟩) hHeld ?_
          rotate_left
          · intro w hSw
            (try dsimp only at hSw)
            go_simp
            all_goals with_reducible rfl
          (try simp only [Act.put, List.setIfInBounds_toArray, List.set_cons_zero, List.set_cons_succ])
          refine wpAnyH_done (by kernel_rfl) ?_ _
          obtain ⟨W, hW⟩ : ∃ W, W = w11.alloc (.cells #[.int .i64 ((getM ky a.no).getD so0).no, .slice G1 ((getM ky a.no).getD so0).K.length g1, .slice G2 ((getM ky a.no).getD so0).V.length g2] 36) := ⟨_, rfl⟩
          obtain ⟨gs, hgs2⟩ : ∃ q, q = w11.heap.size := ⟨_, rfl⟩
          have F : Below W11.heap.size W11 W ∧ W.heap[gs]? = some (.cells #[.int .i64 ((getM ky a.no).getD so0).no, .slice G1 ((getM ky a.no).getD so0).K.length g1, .slice G2 ((getM ky a.no).getD so0).V.length g2] 36) ∧ SAt' (Rd W.heap.size W) D ((getM ky a.no).getD so0) [.int .i64 ((getM ky a.no).getD so0).no, .slice G1 ((getM ky a.no).getD so0).K.length g1, .slice G2 ((getM ky a.no).getD so0).V.length g2] := by rw [hW, hgs2]; exact ⟨below_then L11 (below_new _ _), heap_alloc_new _ _, mono_s D Rd.of_own _ _ (mono_s D (Ow.hi (hi_below _ (below_new w11 (.cells #[.int .i64 ((getM ky a.no).getD so0).no, .slice G1 ((getM ky a.no).getD so0).K.length g1, .slice G2 ((getM ky a.no).getD so0).V.length g2] 36)))) _ _ hgs)⟩
          rw [← hW, ← hgs2]
          clear hW hgs2 hHeld hgs hb11 L11
          revert G1 g1 G2 g2 W gs
          exact HGO.out
        · have hDa : Below W11.heap.size W11 (W11.alloc (.cells #[.int .i64 0, .slice none 0 0, .slice none 0 0] 36)).drew := (below_new W11 (.cells #[.int .i64 0, .slice none 0 0, .slice none 0 0] 36)).drew
          go_simp
          refine hK.out _ _ (HSX2.out _ hDa) (fun hHeld => ?_)
          clear hK K
          (try simp only [Act.put, List.setIfInBounds_toArray, List.set_cons_zero, List.set_cons_succ])
          refine wpAnyH_ready (rs := [7]) (by kernel_rfl) (by simp) ?_
          refine AllReadyH.cons (o := { dst := some 97, op := Go.Op.call { callee := Go.Callee.value (Go.Operand.func 30), args := #[Go.Operand.tmp 90, Go.Operand.tmp 96], argTypes := #[28, 3] }, type := 47, pos := "law.go:113", after := #[{ on := 0, ground := Go.Ground.data }, { on := 6, ground := Go.Ground.data }], guard := none }) rfl (fun K hK => ?_) AllReadyH.nil
          go_simp
          (go_at_call 30; (with_reducible refine (HGK.out _ hDa).mono ?_); rintro e w11 ⟨G1, g1, G2, g2, rfl, hgs, hb11⟩; have L11 := below_then hDa hb11)
          go_wp2_with fail
          refine hK.out _ _ (HSX2.out _ L11) (fun hHeld => ?_)
          clear hK K
          (try simp only [Act.put, List.setIfInBounds_toArray, List.set_cons_zero, List.set_cons_succ])
          refine wpAnyH_take (i := 8) (oi := { dst := some 89, op := Go.Op.move (Go.Operand.tmp 97), type := 47, pos := "law.go:113", after := #[{ on := 7, ground := Go.Ground.data }], guard := none }) (v := ?_) rfl (by kernel_rfl) (by kernel_rfl) (by kernel_rfl) (fun _ _ _ h => h) (Or.inl ⟨by rfl, ?_⟩) hHeld ?_
          rotate_left
          · intro w hSw
            (try dsimp only at hSw)
            go_simp
            all_goals with_reducible rfl
          (try simp only [Act.put, List.setIfInBounds_toArray, List.set_cons_zero, List.set_cons_succ])
          refine wpAnyH_take (i := 9) (oi := { dst := some 98, op := Go.Op.extract (Go.Operand.tmp 89) 0, type := 36, pos := "law.go:113", after := #[{ on := 8, ground := Go.Ground.data }], guard := none }) (v := ?_) rfl (by kernel_rfl) (by kernel_rfl) (by kernel_rfl) (fun _ _ _ h => h) (Or.inl ⟨by rfl, ?_⟩) hHeld ?_
          rotate_left
          · intro w hSw
            (try dsimp only at hSw)
            go_simp
            all_goals with_reducible rfl
          (try simp only [Act.put, List.setIfInBounds_toArray, List.set_cons_zero, List.set_cons_succ])
          refine wpAnyH_take (i := 10) (oi := { dst := some 99, op := Go.Op.extract (Go.Operand.tmp 89) 1, type := 4, pos := "law.go:113", after := #[{ on := 8, ground := Go.Ground.data }, { on := 12, ground := Go.Ground.gcOnly Go.Departure.lateStores }], guard := none }) (v := ?_) rfl (by kernel_rfl) (by kernel_rfl) (by kernel_rfl) (fun _ _ _ h => h) (Or.inl ⟨by rfl, ?_⟩) hHeld ?_
          rotate_left
          · intro w hSw
            (try dsimp only at hSw)
            go_simp
            all_goals with_reducible rfl
          (try simp only [Act.put, List.setIfInBounds_toArray, List.set_cons_zero, List.set_cons_succ])
          have T0 : w11.heap[W11.heap.size]? = some (.cells #[.int .i64 0, .slice none 0 0, .slice none 0 0] 36) := box_on (show (W11.alloc (.cells #[.int .i64 0, .slice none 0 0, .slice none 0 0] 36)).drew.heap[W11.heap.size]? = some (.cells #[.int .i64 0, .slice none 0 0, .slice none 0 0] 36) from heap_alloc_new W11 (.cells #[.int .i64 0, .slice none 0 0, .slice none 0 0] 36)) hb11
          have h1lt : W11.heap.size < (W11.alloc (.cells #[.int .i64 0, .slice none 0 0, .slice none 0 0] 36)).drew.heap.size := by show _ < (W11.alloc (.cells #[.int .i64 0, .slice none 0 0, .slice none 0 0] 36)).heap.size; simp
          obtain ⟨⟨p0, p1, p2⟩, p3, p4, p5⟩ := wr3 T0
          obtain ⟨Z1, Z2⟩ := three_set T0 (.int .i64 ((getM ky a.no).getD so0).no) (.slice G1 ((getM ky a.no).getD so0).K.length g1) (.slice G2 ((getM ky a.no).getD so0).V.length g2)
          refine wpAnyH_ready (rs := [12]) (by kernel_rfl) (by simp) ?_
          refine AllReadyH.cons (o := { dst := none, op := Go.Op.store 36 (Go.Operand.tmp 18) (Go.Operand.tmp 98), type := 0, pos := "law.go:113", after := #[{ on := 11, ground := Go.Ground.data }, { on := 9, ground := Go.Ground.data }, { on := 7, ground := Go.Ground.chain }, { on := 0, ground := Go.Ground.phase }, { on := 1, ground := Go.Ground.phase }, { on := 2, ground := Go.Ground.phase }, { on := 3, ground := Go.Ground.phase }, { on := 4, ground := Go.Ground.phase }, { on := 5, ground := Go.Ground.phase }, { on := 6, ground := Go.Ground.phase }, { on := 7, ground := Go.Ground.phase }, { on := 8, ground := Go.Ground.phase }, { on := 9, ground := Go.Ground.phase }, { on := 10, ground := Go.Ground.textOnly Go.Departure.lateStores }, { on := 11, ground := Go.Ground.phase }], guard := none }) rfl (fun K hK => ?_) AllReadyH.nil
          go_simp
          refine hK.out _ _ (HSX2.out _ (L11.trans (below_own Z2 (Nat.le_refl _) L11.size))) (fun hHeld => ?_)
          clear hK K
          (try simp only [Act.put, List.setIfInBounds_toArray, List.set_cons_zero, List.set_cons_succ])
          clear p0 p1 p2 p3 p4 p5
          refine wpAnyH_take (i := 13) (oi := { dst := some 19, op := Go.Op.assign (Go.Operand.tmp 99), type := 4, pos := "law.go:113", after := #[{ on := 10, ground := Go.Ground.data }, { on := 12, ground := Go.Ground.chain }, { on := 0, ground := Go.Ground.phase }, { on := 1, ground := Go.Ground.phase }, { on := 2, ground := Go.Ground.phase }, { on := 3, ground := Go.Ground.phase }, { on := 4, ground := Go.Ground.phase }, { on := 5, ground := Go.Ground.phase }, { on := 6, ground := Go.Ground.phase }, { on := 7, ground := Go.Ground.phase }, { on := 8, ground := Go.Ground.phase }, { on := 9, ground := Go.Ground.phase }, { on := 10, ground := Go.Ground.phase }, { on := 11, ground := Go.Ground.phase }, { on := 12, ground := Go.Ground.phase }], guard := none }) (v := ?_) rfl (by kernel_rfl) (by kernel_rfl) (by kernel_rfl) (fun _ _ _ h => h) (Or.inl ⟨by rfl, ?_⟩) hHeld ?_
          rotate_left
          · intro w hSw
            (try dsimp only at hSw)
            go_simp
            all_goals with_reducible rfl
          (try simp only [Act.put, List.setIfInBounds_toArray, List.set_cons_zero, List.set_cons_succ])
          refine wpAnyH_done (by kernel_rfl) ?_ _
          obtain ⟨W, hW⟩ : ∃ W, W = ((w11.setCell ⟨W11.heap.size, 0, none⟩ (.int .i64 ((getM ky a.no).getD so0).no)).setCell ⟨W11.heap.size, 1, none⟩ (.slice G1 ((getM ky a.no).getD so0).K.length g1)).setCell ⟨W11.heap.size, 2, none⟩ (.slice G2 ((getM ky a.no).getD so0).V.length g2) := ⟨_, rfl⟩
          obtain ⟨gs, hgs2⟩ : ∃ q, q = W11.heap.size := ⟨_, rfl⟩
          have F : Below W11.heap.size W11 W ∧ W.heap[gs]? = some (.cells #[.int .i64 ((getM ky a.no).getD so0).no, .slice G1 ((getM ky a.no).getD so0).K.length g1, .slice G2 ((getM ky a.no).getD so0).V.length g2] 36) ∧ SAt' (Rd W.heap.size W) D ((getM ky a.no).getD so0) [.int .i64 ((getM ky a.no).getD so0).no, .slice G1 ((getM ky a.no).getD so0).K.length g1, .slice G2 ((getM ky a.no).getD so0).V.length g2] := by rw [hW, hgs2]; exact ⟨L11.trans (below_own Z2 (Nat.le_refl _) L11.size), Z1, mono_s D Rd.of_own _ _ (mono_s D (Ow.hi (hi_grown Z2 h1lt)) _ _ hgs)⟩
          rw [← hW, ← hgs2]
          clear hW hgs2 hHeld hgs hb11 L11 Z1 Z2
          revert G1 g1 G2 g2 W gs
          exact HGO.out
      intro K1 k1 K2 k2 W12 gt ⟨b1112, _, _⟩
      have hb312 := hb311.trans (b1112.mono hb311.size)
      have Tn := box_on Tn b1112
      have Tk := box_on Tk b1112
      have Ts := box_on Ts b1112
      have hn12 := rd_up b1112 hn11
      have hk12 := rd_up b1112 hk11
      have hs12 := srd_up b1112 hsr
      clear HSX2 HGK hDx hn11 hk11 b1112 hsr
      obtain ⟨b0, hb0⟩ : ∃ b0, (getM nx a.no).getD so0 = b0 := ⟨_, rfl⟩
      rw [hb0] at Ts hs12
      have tn := bx1 Tn
      have tk := bx1 Tk
      have HB12 := Lib.hid (fun wx (hx : Below W12.heap.size W12 wx) => HB3.out _ (hb312.trans (hx.mono hb312.size)))
      cases th with
      | false =>
        have e : ky = nx := by
          rcases HCASE.out with ⟨-, h⟩ | ⟨b, h, -⟩
          · exact h
          · rw [h] at hth; cases hth
        have HSA := Lib.hid (rsame_any9 _ (D + 1) ky nx _ _ W12 (Nat.le_refl _) hk12 hn12)
        rw [eqB_yes e] at HSA
        clear e hnx hky hb0 hth
        go_wp2_with fail
        refine HSA.out.mono ?_
        rintro e w13 ⟨rfl, hb13⟩
        go_wp2
        go_ret
        exact ⟨rfl, HB12.out _ hb13⟩
      | true =>
        obtain ⟨hset, hcb⟩ : setM ky b0 = nx ∧ cS b0 ≤ cS a := by
          rcases HCASE.out with ⟨h, -⟩ | ⟨b, h, h2, h3⟩
          · rw [h] at hth; cases hth
          · rw [h] at hb0
            have : b = b0 := hb0
            subst this
            exact ⟨h2, h3⟩
        have hca := cS_le (List.mem_of_getElem? ha)
        clear hnx hky hb0 hth
        have hDx : Below W12.heap.size W12 W12.drew := (Below.refl _ _).drew
        have HSX : Hid (∀ wx, Below W12.heap.size W12 wx → wx.cell? ⟨w9.heap.size, 0, none⟩ = some (.slice A9 nx.F.length c9) ∧ wx.cell? ⟨w10.heap.size, 0, none⟩ = some (.slice A10 ky.F.length c10) ∧ (wx.cell? ⟨gs, 0, none⟩ = some (.int .i64 b0.no) ∧ wx.cell? ⟨gs, 1, none⟩ = some (.slice G1 b0.K.length g1) ∧ wx.cell? ⟨gs, 2, none⟩ = some (.slice G2 b0.V.length g2))) := Lib.hid (fun wx hx => ⟨bx1 (box_on Tn hx), bx1 (box_on Tk hx), bx3 (box_on Ts hx)⟩)
        have HSE := Lib.hid (fun wx (hx : Below W12.heap.size W12 wx) => set_rd D ky b0 _ _ _ wx (rd_up hx hk12) (srd_up hx hs12) (by omega) (by omega))
        rw [hset] at HSE
        clear hset
        have HSA := Lib.hid (fun wx (u : Value) (hx : Below W12.heap.size W12 wx) (hu : MRd wx.heap.size wx (D + 1) nx u) => rsame_any9 _ (D + 1) nx nx _ _ wx (Nat.le_refl _) hu (rd_up hx hn12))
        rw [eqB_yes rfl] at HSA
        go_wp2_with fail
        refine wp_region_held_drew (S := (fun wx => wx.cell? ⟨w9.heap.size, 0, none⟩ = some (.slice A9 nx.F.length c9) ∧ wx.cell? ⟨w10.heap.size, 0, none⟩ = some (.slice A10 ky.F.length c10) ∧ (wx.cell? ⟨gs, 0, none⟩ = some (.int .i64 b0.no) ∧ wx.cell? ⟨gs, 1, none⟩ = some (.slice G1 b0.K.length g1) ∧ wx.cell? ⟨gs, 2, none⟩ = some (.slice G2 b0.V.length g2)))) (by kernel_rfl) (HSX.out _ hDx) (fun hHeld => ?_)
        refine wpAnyH_take (i := 0) (oi := { dst := some 110, op := Go.Op.load 28 (Go.Operand.tmp 14), type := 28, pos := "law.go:118", after := #[], guard := none }) (v := ?_) rfl (by kernel_rfl) (by kernel_rfl) (by kernel_rfl) (fun _ _ _ h => h) (Or.inl ⟨by rfl, ?_⟩) hHeld ?_
        rotate_left
        · intro w hSw
          (try dsimp only at hSw)
          go_simp
          all_goals with_reducible rfl
        (try simp only [Act.put, List.setIfInBounds_toArray, List.set_cons_zero, List.set_cons_succ])
        refine wpAnyH_take (i := 1) (oi := { dst := some 111, op := Go.Op.load 36 (Go.Operand.tmp 16), type := 36, pos := "law.go:118", after := #[], guard := none }) (v := ?_) rfl (by kernel_rfl) (by kernel_rfl) (by kernel_rfl) (fun _ _ _ h => h) (Or.inl ⟨by rfl, ?_⟩) hHeld ?_
        rotate_left
        · intro w hSw
          (try dsimp only at hSw)
          go_simp
          all_goals with_reducible rfl
        (try simp only [Act.put, List.setIfInBounds_toArray, List.set_cons_zero, List.set_cons_succ])
        refine wpAnyH_take (i := 3) (oi := { dst := some 113, op := Go.Op.load 28 (Go.Operand.tmp 12), type := 28, pos := "law.go:118", after := #[], guard := none }) (v := ?_) rfl (by kernel_rfl) (by kernel_rfl) (by kernel_rfl) (fun _ _ _ h => h) (Or.inl ⟨by rfl, ?_⟩) hHeld ?_
        rotate_left
        · intro w hSw
          (try dsimp only at hSw)
          go_simp
          all_goals with_reducible rfl
        (try simp only [Act.put, List.setIfInBounds_toArray, List.set_cons_zero, List.set_cons_succ])
        refine wpAnyH_ready (rs := [2]) (by kernel_rfl) (by simp) ?_
        refine AllReadyH.cons (o := { dst := some 112, op := Go.Op.call { callee := Go.Callee.value (Go.Operand.func 31), args := #[Go.Operand.tmp 110, Go.Operand.tmp 111], argTypes := #[28, 36] }, type := 28, pos := "law.go:118", after := #[{ on := 0, ground := Go.Ground.data }, { on := 1, ground := Go.Ground.data }], guard := none }) rfl (fun K hK => ?_) AllReadyH.nil
        go_simp
        (go_at_call 31; (with_reducible refine (HSE.out _ hDx).mono ?_); rintro e w13 ⟨S1, s1, rfl, hr13, hb13⟩; have L13 := below_then hDx hb13)
        go_wp2_with fail
        refine hK.out _ _ (HSX.out _ L13) (fun hHeld => ?_)
        clear hK K
        (try simp only [Act.put, List.setIfInBounds_toArray, List.set_cons_zero, List.set_cons_succ])
        refine wpAnyH_ready (rs := [4]) (by kernel_rfl) (by simp) ?_
        refine AllReadyH.cons (o := { dst := some 114, op := Go.Op.call { callee := Go.Callee.value (Go.Operand.func 20), args := #[Go.Operand.tmp 112, Go.Operand.tmp 113], argTypes := #[28, 28] }, type := 4, pos := "law.go:118", after := #[{ on := 2, ground := Go.Ground.data }, { on := 3, ground := Go.Ground.data }, { on := 2, ground := Go.Ground.chain }], guard := none }) rfl (fun K hK => ?_) AllReadyH.nil
        go_simp
        (go_at_call 20; (with_reducible refine (HSA.out _ _ L13 hr13).mono ?_); rintro e w14 ⟨rfl, hb14⟩; have L14 := below_then L13 hb14)
        go_wp2_with fail
        refine hK.out _ _ (HSX.out _ L14) (fun hHeld => ?_)
        clear hK K
        (try simp only [Act.put, List.setIfInBounds_toArray, List.set_cons_zero, List.set_cons_succ])
        refine wpAnyH_take (i := 5) (oi := { dst := some 8, op := Go.Op.assign (Go.Operand.tmp 114), type := 4, pos := "law.go:118", after := #[{ on := 4, ground := Go.Ground.data }, { on := 4, ground := Go.Ground.chain }, { on := 0, ground := Go.Ground.phase }, { on := 1, ground := Go.Ground.phase }, { on := 2, ground := Go.Ground.phase }, { on := 3, ground := Go.Ground.phase }, { on := 4, ground := Go.Ground.phase }], guard := none }) (v := ?_) rfl (by kernel_rfl) (by kernel_rfl) (by kernel_rfl) (fun _ _ _ h => h) (Or.inl ⟨by rfl, ?_⟩) hHeld ?_
        rotate_left
        · intro w hSw
          (try dsimp only at hSw)
          go_simp
          all_goals with_reducible rfl
        (try simp only [Act.put, List.setIfInBounds_toArray, List.set_cons_zero, List.set_cons_succ])
        refine wpAnyH_done (by kernel_rfl) ?_ _
        go_wp2
        go_ret
        exact ⟨rfl, HB12.out _ L14⟩
end Go.Proofs.YtggcjdajmbkpiaaGreatDoor.T9.lawTypedLess
