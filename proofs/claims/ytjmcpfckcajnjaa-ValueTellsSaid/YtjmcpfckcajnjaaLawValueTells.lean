/-
  Any trees are the same, or not, have the depth, and size, and any slot is got, and set, as the document says: the statement ValueTells.
-/
import Derived.Test.YtjmcpfckcajnjaaTrRset
import Derived.Deep.RegionHeld3
import Derived.Deep.DeepHandedRow
import Derived.MakeChecks
import Derived.Lay
import Derived.Test.YtjmcpfckcajnjaaTrRdeep
import Derived.Test.YtjmcpfckcajnjaaTrRsize
import Derived.Test.YtjmcpfckcajnjaaTrRsame
import Derived.Test.YtjmcpfckcajnjaaTrRget
import Derived.Test.YtjmcpfckcajnjaaTrIn
import Derived.Test.YtjmcpfckcajnjaaTrLess
import Derived.Test.YtjmcpfckcajnjaaTrRless
namespace Go.Proofs.Ytjmcpfckcajnjaa.T9.lawValueTells
set_option maxRecDepth 100000

open Go.ChangeShapes Go.WideShapes Go.ChangeAt Go.RowKit

theorem val_more {R : RP} {d e : Nat} (h : d ≤ e) {v : Vl'} {cs : List Value} (hv : VAt R d v cs) : VAt R e v cs := vAt.imp (fun _ _ _ _ _ h => h) (fun m cs hm => MAt.more h m cs hm) _ _ hv
theorem vrd_up {D : Nat} {w w' : World} {v : Vl'} {cs : List Value} (hb : Below w.heap.size w w') (h : VAt (Rd w.heap.size w) D v cs) : VAt (Rd w'.heap.size w') D v cs := VRd.mono hb.size (VRd.low (Lo.below hb (Nat.le_refl _)) h)
theorem val_shape {B D : Nat} {w : World} {v : Vl'} {x y z : Value} (h : VAt (Rd B w) D v [x, y, z]) : ∃ A c, x = .int .i64 v.n ∧ y = .string (tx v.s) ∧ z = .slice A v.M.length c := by
  obtain ⟨u, hu, hl⟩ := h
  simp only [List.cons.injEq, and_true] at hu
  obtain ⟨rfl, rfl, rfl⟩ := hu
  obtain ⟨A, c, xs, rfl, -⟩ := hl.open_
  exact ⟨A, c, rfl, rfl, rfl⟩
theorem five_new (w : World) (o1 o2 o3 o4 o5 : Obj) : let W := ((((w.alloc o1).alloc o2).alloc o3).alloc o4).alloc o5
    W.heap[w.heap.size]? = some o1 ∧ W.heap[w.heap.size + 1]? = some o2 ∧ W.heap[w.heap.size + 2]? = some o3 ∧ W.heap[w.heap.size + 3]? = some o4 ∧ W.heap[w.heap.size + 4]? = some o5 ∧ Below w.heap.size w W := by
  intro W
  obtain ⟨h1, h2, h3, h4, L4⟩ := four_newS w o1 o2 o3 o4
  have e4 : ((((w.alloc o1).alloc o2).alloc o3).alloc o4).heap.size = w.heap.size + 4 := by simp
  have L5 := below_new ((((w.alloc o1).alloc o2).alloc o3).alloc o4) o5
  have h5 := heap_alloc_new ((((w.alloc o1).alloc o2).alloc o3).alloc o4) o5
  rw [e4] at h5
  exact ⟨box_on h1 L5, box_on h2 L5, box_on h3 L5, box_on h4 L5, h5, below_then L4 L5⟩
/-- The boxes of the arguments, cell by cell. -/
structure Args (g : Nat) (va vb : Value) (s0 s1 s2 x0 x1 x2 y0 y1 y2 : Value) (w : World) : Prop where
  a : w.cell? ⟨g, 0, none⟩ = some va
  b : w.cell? ⟨g + 1, 0, none⟩ = some vb
  s : w.cell? ⟨g + 2, 0, none⟩ = some s0 ∧ w.cell? ⟨g + 2, 1, none⟩ = some s1 ∧ w.cell? ⟨g + 2, 2, none⟩ = some s2
  x : w.cell? ⟨g + 3, 0, none⟩ = some x0 ∧ w.cell? ⟨g + 3, 1, none⟩ = some x1 ∧ w.cell? ⟨g + 3, 2, none⟩ = some x2
  y : w.cell? ⟨g + 4, 0, none⟩ = some y0 ∧ w.cell? ⟨g + 4, 1, none⟩ = some y1 ∧ w.cell? ⟨g + 4, 2, none⟩ = some y2
theorem Args.on {g : Nat} {va vb s0 s1 s2 x0 x1 x2 y0 y1 y2 : Value} {w w' : World} (h : Args g va vb s0 s1 s2 x0 x1 x2 y0 y1 y2 w) (hb : Below w.heap.size w w') : Args g va vb s0 s1 s2 x0 x1 x2 y0 y1 y2 w' :=
  ⟨cell_on hb h.a, cell_on hb h.b, ⟨cell_on hb h.s.1, cell_on hb h.s.2.1, cell_on hb h.s.2.2⟩, ⟨cell_on hb h.x.1, cell_on hb h.x.2.1, cell_on hb h.x.2.2⟩, ⟨cell_on hb h.y.1, cell_on hb h.y.2.1, cell_on hb h.y.2.2⟩⟩
theorem rset_rd (D : Nat) (m : Mg) (s : So) (u u1 u2 : Value) (w : World) (hm : MRd w.heap.size w (D + 1) m u) (hs : SAt' (Rd w.heap.size w) D s [.int .i64 s.no, u1, u2]) (hcm : m.cnt ≤ 10000) (hcs : cS s ≤ 10000) :
    Calls Try.prog 12 #[.agg #[u], .agg #[.int .i64 s.no, u1, u2]] w fun e w' => ∃ A c, e = .returned (.agg #[.slice A (setM m s).F.length c]) ∧ MRd w'.heap.size w' (D + 1) (setM m s) (.slice A (setM m s).F.length c) ∧ Below w.heap.size w w' := by
  refine (rset_grow w.heap.size D m s u u1 u2 w (Nat.le_refl _) hm hs (by omega) (by omega) w.heap.size (Nat.le_refl _)).mono ?_
  rintro e w' ⟨x1, zs, rfl, h1, h2⟩
  have h3 := cnt_set m s
  have h4 := cnt_F (setM m s)
  have h5 : MRd w'.heap.size w' (D + 1) (setM m s) x1 := own_rd (b := w.heap.size) ⟨_, rfl, h1.ow (mono_s D) (by omega)⟩
  obtain ⟨A, c, rfl⟩ := rd_shape h5
  exact ⟨A, c, rfl, h5, h2⟩
theorem vown_rd (D : Nat) (m : Mg) (u : Value) (w : World) (hm : MRd w.heap.size w (D + 1) m u) (hc : m.cnt ≤ 1000000000) :
    Calls Try.prog 14 #[.agg #[u]] w fun e w' => ∃ x, e = .returned (.agg #[x]) ∧ MRd w'.heap.size w' (D + 1) m x ∧ Below w.heap.size w w' := by
  refine (own_any9 _ (D + 1) m u w (Nat.le_refl _) hm hc _ (Nat.le_refl _)).mono ?_
  rintro e w' ⟨x, rfl, h1, h2⟩
  exact ⟨x, rfl, own_rd h1, h2⟩
/-- A slot with two values. -/
def pairS (x y : Vl') : So := ⟨0, [], [x, y]⟩
theorem pair_at {D g : Nat} {w : World} {x y : Vl'} {a b : Value} {t : TypeId} {fr : Nat × Nat} (hx : VAt (Rd w.heap.size w) D x [.int .i64 x.n, .string (tx x.s), a]) (hy : VAt (Rd w.heap.size w) D y [.int .i64 y.n, .string (tx y.s), b]) (h : w.heap[g]? = some (.cells #[.int .i64 x.n, .string (tx x.s), a, .int .i64 y.n, .string (tx y.s), b] t fr)) :
    SAt' (Rd w.heap.size w) D (pairS x y) [.int .i64 0, .slice none 0 0, .slice (some ⟨g, 0, none⟩) 2 2] :=
  ⟨_, _, rfl, ⟨[], ⟨Rr.nil _ _ _, Nat.zero_le _⟩, rfl⟩, ⟨_, lit_row (n := 2) (size := 3) (xs := [.int .i64 x.n, .string (tx x.s), a, .int .i64 y.n, .string (tx y.s), b]) h rfl (by decide) (box_lt h) _, (Rows.single hx).append (Rows.single hy)⟩⟩
set_option maxRecDepth 1000000 in
set_option maxHeartbeats 8000000 in
theorem walk (w : World) (a : Mg) (ua : Value) (ka : Nat) (ha : MRd w.heap.size w ka a ua) (b : Mg) (ub : Value) (kb : Nat) (hb : MRd w.heap.size w kb b ub) (no : Int) (hn1 : -9223372036854775808 ≤ no) (hn2 : no ≤ 9223372036854775807)
    (s : So) (u1 u2 : Value) (ks : Nat) (hs : SAt' (Rd w.heap.size w) ks s [.int .i64 s.no, u1, u2]) (x : Vl') (ux : Value) (kx : Nat) (hx : VAt (Rd w.heap.size w) kx x [.int .i64 x.n, .string (tx x.s), ux]) (hxi : VIn x) (y : Vl') (uy : Value) (ky : Nat) (hy : VAt (Rd w.heap.size w) ky y [.int .i64 y.n, .string (tx y.s), uy]) (hyi : VIn y) :
    Calls Try.prog 3 #[.agg #[ua], .agg #[ub], .int .i64 no, .agg #[.int .i64 s.no, u1, u2], .agg #[.int .i64 x.n, .string (tx x.s), ux], .agg #[.int .i64 y.n, .string (tx y.s), uy]] w fun e w' => e = .returned (.bool true) ∧ Below w.heap.size w w' := by
  obtain ⟨D, hD⟩ : ∃ D, D = max (max ka kb) (max ks (max kx ky)) := ⟨_, rfl⟩
  have ha0 : MRd w.heap.size w (D + 1) a ua := MAt.more (by omega) _ _ ha
  have hb0 : MRd w.heap.size w (D + 1) b ub := MAt.more (by omega) _ _ hb
  have hs0 : SAt' (Rd w.heap.size w) D s [.int .i64 s.no, u1, u2] := slot_more (by omega) hs
  have hx0 := val_more (show kx ≤ D by omega) hx
  have hy0 := val_more (show ky ≤ D by omega) hy
  clear ha hb hs hx hy hD
  obtain ⟨Aa, ca, rfl⟩ := rd_shape ha0
  obtain ⟨Ab, cb, rfl⟩ := rd_shape hb0
  obtain ⟨A1, c1, A2, c2, -, rfl, rfl⟩ := slot_shape hs0
  obtain ⟨Ax, cx, -, -, rfl⟩ := val_shape hx0
  obtain ⟨Ay, cy, -, -, rfl⟩ := val_shape hy0
  obtain ⟨X1, X2, X3, X4, X5, LBD⟩ := five_new w (.cells #[.slice Aa a.F.length ca] 24) (.cells #[.slice Ab b.F.length cb] 24) (.cells #[.int .i64 s.no, .slice A1 s.K.length c1, .slice A2 s.V.length c2] 27) (.cells #[.int .i64 x.n, .string (tx x.s), .slice Ax x.M.length cx] 30) (.cells #[.int .i64 y.n, .string (tx y.s), .slice Ay y.M.length cy] 30)
  have HA := Lib.hid (fun wx (h : Below w.heap.size w wx) => rd_up h ha0)
  have HB := Lib.hid (fun wx (h : Below w.heap.size w wx) => rd_up h hb0)
  have HS := Lib.hid (fun wx (h : Below w.heap.size w wx) => srd_up h hs0)
  have HX := Lib.hid (fun wx (h : Below w.heap.size w wx) => vrd_up h hx0)
  have HY := Lib.hid (fun wx (h : Below w.heap.size w wx) => vrd_up h hy0)
  have hAR : Args w.heap.size _ _ _ _ _ _ _ _ _ _ _ _ := ⟨bx1 X1, bx1 X2, bx3 X3, bx3 X4, bx3 X5⟩
  clear ha0 hb0 hs0 hx0 hy0 X1 X2 X3 X4 X5
  go_enter Try.func3, Try.ntmps3
  go_wp2_with fail
  refine (awake9_any _).mono ?_
  rintro e w1 ⟨rfl, hb1⟩
  have hb01 := below_then LBD hb1
  have HR1 := Lib.hid (hAR.on hb1)
  have y1 := HR1.out.a
  have y2 := HR1.out.b
  obtain ⟨p0, p1, p2⟩ := HR1.out.s
  obtain ⟨q0, q1, q2⟩ := HR1.out.x
  obtain ⟨r0, r1, r2⟩ := HR1.out.y
  clear hAR LBD hb1
  obtain ⟨T1, T2, T3, L3⟩ := three_boxes w1 (.cells #[.int .i64 x.n, .string (tx x.s), .slice Ax x.M.length cx, .int .i64 y.n, .string (tx y.s), .slice Ay y.M.length cy] 30) (.cells #[.int .i64 s.no, .slice A1 s.K.length c1, .slice A2 s.V.length c2, .int .i64 0, .slice none 0 0, .slice (some ⟨w1.heap.size, 0, none⟩) 2 2] 27) (.cells #[.slice Aa a.F.length ca, .slice Ab b.F.length cb, .slice (some ⟨w1.heap.size + 1, 0, none⟩) 2 2] 24)
  have hb03 := below_then hb01 L3
  have HF := Lib.hid (few_all _ (D + 1) [a, b, .mk [s, pairS x y]] _ _ (Nat.le_refl _) (msgs3_rd (HA.out _ hb03) (HB.out _ hb03) (two_rd (HS.out _ hb03) (pair_at (HX.out _ hb03) (HY.out _ hb03) T1) T2) T3))
  have HR3 := Lib.hid (HR1.out.on L3)
  clear T1 T2 T3 L3 hb01
  go_wp2_with fail
  refine HF.out.mono ?_
  rintro e w2 ⟨r, rfl, hfit, hb2⟩
  have HR2 := Lib.hid (HR3.out.on hb2)
  have hb02 := below_then hb03 hb2
  have HFI := Lib.hid hfit
  clear y1 y2 p0 p1 p2 q0 q1 q2 r0 r1 r2 HF HR3 HR1 hb03 hb2 hfit
  cases r with
  | false =>
    go_wp2
    go_ret
    exact ⟨rfl, hb02⟩
  | true =>
    have y1 := HR2.out.a
    have y2 := HR2.out.b
    obtain ⟨p0, p1, p2⟩ := HR2.out.s
    obtain ⟨q0, q1, q2⟩ := HR2.out.x
    obtain ⟨r0, r1, r2⟩ := HR2.out.y
    have hfa := HFI.out rfl a (by simp)
    have hfb := HFI.out rfl b (by simp)
    have hfs := (HFI.out rfl (.mk [s, pairS x y]) (by simp)).cnt
    rw [cnt_two] at hfs
    have hca := hfa.cnt
    have hda := hfa.deep
    clear HFI
    go_wp2_with fail
    refine (rown_any _ (D + 1) a _ w2 (Nat.le_refl _) (HA.out _ hb02) (by omega) _ (Nat.le_refl _)).mono ?_
    rintro e w3 ⟨uo, rfl, ho3, hb3⟩
    have ho := own_rd ho3
    obtain ⟨Aw, cw, rfl⟩ := rd_shape ho
    have X3 := heap_alloc_new w3 (.cells #[.slice Aw a.F.length cw] 24)
    have N3 := below_new w3 (.cells #[.slice Aw a.F.length cw] 24)
    obtain ⟨W4, hW4⟩ : ∃ W, W = w3.alloc (.cells #[.slice Aw a.F.length cw] 24) := ⟨_, rfl⟩
    have HR4 := Lib.hid (HR2.out.on (below_then hb3 (by rw [← hW4] at N3; exact N3)))
    have hb04 : Below w.heap.size w W4 := below_then hb02 (below_then hb3 (by rw [← hW4] at N3; exact N3))
    have HO := Lib.hid (show MRd W4.heap.size W4 (D + 1) a (.slice Aw a.F.length cw) by rw [hW4]; exact rd_up N3 ho)
    rw [← hW4] at X3
    clear y1 y2 p0 p1 p2 q0 q1 q2 r0 r1 r2 HR2 hb02 ho ho3 hb3 N3
    have y1 := HR4.out.a
    have y2 := HR4.out.b
    obtain ⟨p0, p1, p2⟩ := HR4.out.s
    obtain ⟨q0, q1, q2⟩ := HR4.out.x
    obtain ⟨r0, r1, r2⟩ := HR4.out.y
    have v0 := bx1 X3
    rw [hW4] at y1 y2 p0 p1 p2 q0 q1 q2 r0 r1 r2 v0
    go_wp2_with fail
    rw [← hW4] at y1 y2 p0 p1 p2 q0 q1 q2 r0 r1 r2 v0 ⊢
    clear hW4
    refine (get_rd D a _ no W4 (HA.out _ hb04) (by omega)).mono ?_
    rintro e w5 ⟨E1, e1, E2, e2, rfl, hsc, hb5⟩
    have HG2 := Lib.hid (fun wx (h : Below w.heap.size w wx) => rget_any wx.heap.size D a _ no wx (Nat.le_refl _) (HA.out _ h))
    obtain ⟨so, hso⟩ : ∃ so, (getM a no).getD so0 = so := ⟨_, rfl⟩
    obtain ⟨fl, hfl⟩ : ∃ fl, (getM a no).isSome = fl := ⟨_, rfl⟩
    rw [hso, hfl] at HG2
    rw [hso] at hsc
    simp only [hso, hfl]
    clear hso hfl y1 y2 p0 p1 p2 q0 q1 q2 r0 r1 r2 v0
    obtain ⟨W6, hW6⟩ : ∃ W, W = w5.alloc (.cells #[.int .i64 so.no, .slice E1 so.K.length e1, .slice E2 so.V.length e2] 27) := ⟨_, rfl⟩
    have N5 : Below w5.heap.size w5 W6 := by rw [hW6]; exact below_new _ _
    have X5 : W6.heap[w5.heap.size]? = some (.cells #[.int .i64 so.no, .slice E1 so.K.length e1, .slice E2 so.V.length e2] 27 (0, 0)) := by rw [hW6]; exact heap_alloc_new _ _
    have hb46 := below_then hb5 N5
    have HR6 := Lib.hid (HR4.out.on hb46)
    have HO6 := Lib.hid (rd_up hb46 HO.out)
    have XO6 := box_on X3 hb46
    have hsc6 := srd_up N5 hsc
    have hb06 := below_then hb04 hb46
    have y1 := HR6.out.a
    rw [hW6] at y1
    clear HR4 HO X3 hsc hb04 hb5 hb46 N5
    go_wp2_with fail
    rw [← hW6] at y1 ⊢
    clear hW6 y1
    refine (HG2.out W6 hb06).mono ?_
    rintro e w7 ⟨g1, g2, g3, rfl, hsd, hb7⟩
    obtain ⟨F1, f1, F2, f2, rfl, rfl, rfl⟩ := slot_shape hsd
    obtain ⟨W8, hW8⟩ : ∃ W, W = w7.alloc (.cells #[.int .i64 so.no, .slice F1 so.K.length f1, .slice F2 so.V.length f2] 27) := ⟨_, rfl⟩
    have N7 : Below w7.heap.size w7 W8 := by rw [hW8]; exact below_new _ _
    have X7 : W8.heap[w7.heap.size]? = some (.cells #[.int .i64 so.no, .slice F1 so.K.length f1, .slice F2 so.V.length f2] 27 (0, 0)) := by rw [hW8]; exact heap_alloc_new _ _
    have hb68 := below_then hb7 N7
    have HR8 := Lib.hid (HR6.out.on hb68)
    have HO8 := Lib.hid (rd_up hb68 HO6.out)
    have XO8 := box_on XO6 hb68
    have HC8 := Lib.hid (srd_up hb68 hsc6)
    have HD8 := Lib.hid (show SAt' (Rd W8.heap.size W8) D so _ from SRd.mono hb68.size (SRd.low (Lo.below N7 hb7.size) hsd))
    have X58 := box_on X5 hb68
    have hb08 := below_then hb06 hb68
    clear HR6 HO6 XO6 hsc6 hsd X5 hb06 hb7 hb68 N7 HG2
    have y1 := HR8.out.a
    have y2 := HR8.out.b
    obtain ⟨p0, p1, p2⟩ := HR8.out.s
    obtain ⟨q0, q1, q2⟩ := HR8.out.x
    obtain ⟨r0, r1, r2⟩ := HR8.out.y
    have v0 := bx1 XO8
    obtain ⟨a0, a1, a2⟩ := bx3 X58
    obtain ⟨d0, d1, d2⟩ := bx3 X7
    rw [hW8] at y1 y2 p0 p1 p2 q0 q1 q2 r0 r1 r2 v0 a0 a1 a2 d0 d1 d2
    go_wp2_with fail
    rw [← hW8] at y1 y2 p0 p1 p2 q0 q1 q2 r0 r1 r2 v0 a0 a1 a2 d0 d1 d2 ⊢
    have e8 : W8.heap.size = w7.heap.size + 1 := by rw [hW8]; simp
    obtain ⟨T1, T2, LT⟩ := two_boxes W8 (.cells #[.int .i64 so.no, .slice E1 so.K.length e1, .slice E2 so.V.length e2] 27) (.cells #[.int .i64 so.no, .slice F1 so.K.length f1, .slice F2 so.V.length f2] 27)
    rw [e8] at T1 T2
    have hsm := rsame_any9 _ (D + 1) (.mk [so]) (.mk [so]) _ _ _ (Nat.le_refl _) (one_rd (srd_up LT HC8.out) T1) (one_rd (srd_up LT HD8.out) T2)
    rw [eqB_yes rfl] at hsm
    refine hsm.mono ?_
    rintro e w10 ⟨rfl, hb10⟩
    have hb810 := below_then LT hb10
    have HR10 := Lib.hid (HR8.out.on hb810)
    have HO10 := Lib.hid (rd_up hb810 HO8.out)
    have XO10 := box_on XO8 hb810
    have hb010 := below_then hb08 hb810
    clear HR8 HO8 XO8 HC8 HD8 X58 X7 T1 T2 LT hsm e8 hW8 hb10 hb810 hb08 y1 y2 p0 p1 p2 q0 q1 q2 r0 r1 r2 v0 a0 a1 a2 d0 d1 d2
    have y1 := HR10.out.a
    have y2 := HR10.out.b
    obtain ⟨p0, p1, p2⟩ := HR10.out.s
    obtain ⟨q0, q1, q2⟩ := HR10.out.x
    obtain ⟨r0, r1, r2⟩ := HR10.out.y
    have v0 := bx1 XO10
    go_wp2_with fail
    have HSX := Lib.hid (fun wx (h : Below w10.heap.size w10 wx) => And.intro (HR10.out.on h).a (HR10.out.on h).s)
    have hD : Below w10.heap.size w10 w10.drew := (Below.refl _ _).drew
    have HS1 := Lib.hid (fun wx (h : Below w10.heap.size w10 wx) => set_rd D a s _ _ _ wx (HA.out _ (below_then hb010 h)) (HS.out _ (below_then hb010 h)) (by omega) (by omega))
    have HS2 := Lib.hid (fun wx (h : Below w10.heap.size w10 wx) => rset_rd D a s _ _ _ wx (HA.out _ (below_then hb010 h)) (HS.out _ (below_then hb010 h)) (by omega) (by omega))
    have HS3 := Lib.hid (fun wx u v (h1 : MRd wx.heap.size wx (D + 1) (setM a s) u) (h2 : MRd wx.heap.size wx (D + 1) (setM a s) v) => rsame_any9 _ (D + 1) (setM a s) (setM a s) u v wx (Nat.le_refl _) h1 h2)
    rw [eqB_yes rfl] at HS3
    clear y1 y2 p0 p1 p2 q0 q1 q2 r0 r1 r2 v0
    refine wp_region_held_drew (S := (fun w' => w'.cell? ⟨w.heap.size, 0, none⟩ = some (.slice Aa a.F.length ca) ∧ (w'.cell? ⟨w.heap.size + 2, 0, none⟩ = some (.int .i64 s.no) ∧ w'.cell? ⟨w.heap.size + 2, 1, none⟩ = some (.slice A1 s.K.length c1) ∧ w'.cell? ⟨w.heap.size + 2, 2, none⟩ = some (.slice A2 s.V.length c2)))) (by kernel_rfl) (HSX.out _ hD) (fun hHeld => ?_)
    refine wpAnyH_take (i := 0) (oi := { dst := some 68, op := Go.Op.load 24 (Go.Operand.tmp 6), type := 24, pos := "law.go:38", after := #[], guard := none }) (v := ?_) rfl (by kernel_rfl) (by kernel_rfl) (by kernel_rfl) (fun _ _ _ h => h) (Or.inl ⟨by rfl, ?_⟩) hHeld ?_
    rotate_left
    · intro w hSw
      (try dsimp only at hSw)
      go_simp
      all_goals with_reducible rfl
    (try simp only [Act.put, List.setIfInBounds_toArray, List.set_cons_zero, List.set_cons_succ])
    refine wpAnyH_take (i := 1) (oi := { dst := some 69, op := Go.Op.load 27 (Go.Operand.tmp 9), type := 27, pos := "law.go:38", after := #[], guard := none }) (v := ?_) rfl (by kernel_rfl) (by kernel_rfl) (by kernel_rfl) (fun _ _ _ h => h) (Or.inl ⟨by rfl, ?_⟩) hHeld ?_
    rotate_left
    · intro w hSw
      (try dsimp only at hSw)
      go_simp
      all_goals with_reducible rfl
    (try simp only [Act.put, List.setIfInBounds_toArray, List.set_cons_zero, List.set_cons_succ])
    refine wpAnyH_take (i := 3) (oi := { dst := some 71, op := Go.Op.load 24 (Go.Operand.tmp 6), type := 24, pos := "law.go:38", after := #[], guard := none }) (v := ?_) rfl (by kernel_rfl) (by kernel_rfl) (by kernel_rfl) (fun _ _ _ h => h) (Or.inl ⟨by rfl, ?_⟩) hHeld ?_
    rotate_left
    · intro w hSw
      (try dsimp only at hSw)
      go_simp
      all_goals with_reducible rfl
    (try simp only [Act.put, List.setIfInBounds_toArray, List.set_cons_zero, List.set_cons_succ])
    refine wpAnyH_take (i := 4) (oi := { dst := some 72, op := Go.Op.load 27 (Go.Operand.tmp 9), type := 27, pos := "law.go:38", after := #[], guard := none }) (v := ?_) rfl (by kernel_rfl) (by kernel_rfl) (by kernel_rfl) (fun _ _ _ h => h) (Or.inl ⟨by rfl, ?_⟩) hHeld ?_
    rotate_left
    · intro w hSw
      (try dsimp only at hSw)
      go_simp
      all_goals with_reducible rfl
    (try simp only [Act.put, List.setIfInBounds_toArray, List.set_cons_zero, List.set_cons_succ])
    refine wpAnyH_ready (rs := [2]) (by kernel_rfl) (by simp) ?_
    refine AllReadyH.cons (o := { dst := some 70, op := Go.Op.call { callee := Go.Callee.value (Go.Operand.func 11), args := #[Go.Operand.tmp 68, Go.Operand.tmp 69], argTypes := #[24, 27] }, type := 24, pos := "law.go:38", after := #[{ on := 0, ground := Go.Ground.data }, { on := 1, ground := Go.Ground.data }], guard := none }) rfl (fun K hK => ?_) AllReadyH.nil
    go_simp
    (go_at_call 11; (with_reducible refine (HS1.out _ hD).mono ?_); rintro e w11 ⟨G1, g1, rfl, hr1, hb11⟩; have L1 := below_then hD hb11)
    go_wp2_with fail
    refine hK.out _ _ (HSX.out _ L1) (fun hHeld => ?_)
    clear hK K
    (try simp only [Act.put, List.setIfInBounds_toArray, List.set_cons_zero, List.set_cons_succ])
    refine wpAnyH_ready (rs := [5]) (by kernel_rfl) (by simp) ?_
    refine AllReadyH.cons (o := { dst := some 73, op := Go.Op.call { callee := Go.Callee.value (Go.Operand.func 12), args := #[Go.Operand.tmp 71, Go.Operand.tmp 72], argTypes := #[24, 27] }, type := 24, pos := "law.go:38", after := #[{ on := 3, ground := Go.Ground.data }, { on := 4, ground := Go.Ground.data }, { on := 2, ground := Go.Ground.chain }], guard := none }) rfl (fun K hK => ?_) AllReadyH.nil
    go_simp
    (go_at_call 12; (with_reducible refine (HS2.out _ L1).mono ?_); rintro e w12 ⟨G2, g2, rfl, hr2, hb12⟩; have L2 := below_then L1 hb12)
    go_wp2_with fail
    refine hK.out _ _ (HSX.out _ L2) (fun hHeld => ?_)
    clear hK K
    (try simp only [Act.put, List.setIfInBounds_toArray, List.set_cons_zero, List.set_cons_succ])
    refine wpAnyH_ready (rs := [6]) (by kernel_rfl) (by simp) ?_
    refine AllReadyH.cons (o := { dst := some 74, op := Go.Op.call { callee := Go.Callee.value (Go.Operand.func 10), args := #[Go.Operand.tmp 70, Go.Operand.tmp 73], argTypes := #[24, 24] }, type := 4, pos := "law.go:38", after := #[{ on := 2, ground := Go.Ground.data }, { on := 5, ground := Go.Ground.data }, { on := 5, ground := Go.Ground.chain }], guard := none }) rfl (fun K hK => ?_) AllReadyH.nil
    go_simp
    (go_at_call 10; (with_reducible refine (HS3.out w12 _ _ (rd_up hb12 hr1) hr2).mono ?_); rintro e w13 ⟨rfl, hb13⟩; have L3 := below_then L2 hb13)
    go_wp2_with fail
    refine hK.out _ _ (HSX.out _ L3) (fun hHeld => ?_)
    clear hK K
    (try simp only [Act.put, List.setIfInBounds_toArray, List.set_cons_zero, List.set_cons_succ])
    refine wpAnyH_take (i := 7) (oi := { dst := some 21, op := Go.Op.assign (Go.Operand.tmp 74), type := 4, pos := "law.go:38", after := #[{ on := 6, ground := Go.Ground.data }, { on := 6, ground := Go.Ground.chain }, { on := 0, ground := Go.Ground.phase }, { on := 1, ground := Go.Ground.phase }, { on := 2, ground := Go.Ground.phase }, { on := 3, ground := Go.Ground.phase }, { on := 4, ground := Go.Ground.phase }, { on := 5, ground := Go.Ground.phase }, { on := 6, ground := Go.Ground.phase }], guard := none }) (v := ?_) rfl (by kernel_rfl) (by kernel_rfl) (by kernel_rfl) (fun _ _ _ h => h) (Or.inl ⟨by rfl, ?_⟩) hHeld ?_
    rotate_left
    · intro w hSw
      (try dsimp only at hSw)
      go_simp
      all_goals with_reducible rfl
    (try simp only [Act.put, List.setIfInBounds_toArray, List.set_cons_zero, List.set_cons_succ])
    refine wpAnyH_done (by kernel_rfl) ?_ _
    clear hr1 hr2 HS1 HS2 HSX hD hHeld L1 L2 hb11 hb12 hb13
    have HR13 := Lib.hid (HR10.out.on L3)
    have HO13 := Lib.hid (rd_up L3 HO10.out)
    have XO13 := box_on XO10 L3
    have hb013 := below_then hb010 L3
    clear HR10 HO10 XO10 hb010 L3
    have y1 := HR13.out.a
    have y2 := HR13.out.b
    obtain ⟨p0, p1, p2⟩ := HR13.out.s
    obtain ⟨q0, q1, q2⟩ := HR13.out.x
    obtain ⟨r0, r1, r2⟩ := HR13.out.y
    have v0 := bx1 XO13
    go_wp2_with fail
    obtain ⟨bb, hbb⟩ : ∃ bb, eqB a b = bb := ⟨_, rfl⟩
    have hsz := size_le_cnt a
    have HSX := Lib.hid (fun wx (h : Below w13.heap.size w13 wx) => And.intro (HR13.out.on h).a (HR13.out.on h).b)
    have hD : Below w13.heap.size w13 w13.drew := (Below.refl _ _).drew
    have HAX := Lib.hid (fun wx (h : Below w13.heap.size w13 wx) => HA.out _ (below_then hb013 h))
    have H1 := Lib.hid (fun wx (h : Below w13.heap.size w13 wx) => same_any9 _ (D + 1) a b _ _ wx (Nat.le_refl _) (HA.out _ (below_then hb013 h)) (HB.out _ (below_then hb013 h)))
    have H2 := Lib.hid (fun wx (h : Below w13.heap.size w13 wx) => rsame_any9 _ (D + 1) a b _ _ wx (Nat.le_refl _) (HA.out _ (below_then hb013 h)) (HB.out _ (below_then hb013 h)))
    rw [hbb] at H1 H2
    have H3 := Lib.hid (fun wx (h : Below w13.heap.size w13 wx) => vown_rd D a _ wx (HA.out _ (below_then hb013 h)) (by omega))
    have H4 := Lib.hid (fun wx u (h : Below w13.heap.size w13 wx) (hu : MRd wx.heap.size wx (D + 1) a u) => rsame_any9 _ (D + 1) a a u _ wx (Nat.le_refl _) hu (HA.out _ (below_then hb013 h)))
    rw [eqB_yes rfl] at H4
    have H5 := Lib.hid (fun wx (h : Below w13.heap.size w13 wx) => deep_any _ (D + 1) a _ wx (Nat.le_refl _) (HA.out _ (below_then hb013 h)) (by omega))
    have H6 := Lib.hid (fun wx (h : Below w13.heap.size w13 wx) => rdeep_any _ (D + 1) a _ wx (Nat.le_refl _) (HA.out _ (below_then hb013 h)) ⟨by omega, by omega⟩)
    have H7 := Lib.hid (fun wx (h : Below w13.heap.size w13 wx) => size_any _ (D + 1) a _ wx (Nat.le_refl _) (HA.out _ (below_then hb013 h)) (by omega))
    have H8 := Lib.hid (fun wx (h : Below w13.heap.size w13 wx) => rsize_any _ (D + 1) a _ wx (Nat.le_refl _) (HA.out _ (below_then hb013 h)) (by omega))
    obtain ⟨dd, hdd⟩ : ∃ d, a.deep = d := ⟨_, rfl⟩
    obtain ⟨zz, hzz⟩ : ∃ z, a.size = z := ⟨_, rfl⟩
    rw [hdd] at H5 H6
    rw [hzz] at H7 H8
    clear hbb hdd hzz hsz y1 y2 p0 p1 p2 q0 q1 q2 r0 r1 r2 v0
    refine wp_region_held_drew (S := (fun w' => w'.cell? ⟨w.heap.size, 0, none⟩ = some (.slice Aa a.F.length ca) ∧ w'.cell? ⟨w.heap.size + 1, 0, none⟩ = some (.slice Ab b.F.length cb))) (by kernel_rfl) (HSX.out _ hD) (fun hHeld => ?_)
    refine wpAnyH_take (i := 0) (oi := { dst := some 75, op := Go.Op.load 24 (Go.Operand.tmp 6), type := 24, pos := "law.go:39", after := #[], guard := none }) (v := ?_) rfl (by kernel_rfl) (by kernel_rfl) (by kernel_rfl) (fun _ _ _ h => h) (Or.inl ⟨by rfl, ?_⟩) hHeld ?_
    rotate_left
    · intro w hSw
      (try dsimp only at hSw)
      go_simp
      all_goals with_reducible rfl
    (try simp only [Act.put, List.setIfInBounds_toArray, List.set_cons_zero, List.set_cons_succ])
    refine wpAnyH_take (i := 1) (oi := { dst := some 76, op := Go.Op.load 24 (Go.Operand.tmp 7), type := 24, pos := "law.go:39", after := #[], guard := none }) (v := ?_) rfl (by kernel_rfl) (by kernel_rfl) (by kernel_rfl) (fun _ _ _ h => h) (Or.inl ⟨by rfl, ?_⟩) hHeld ?_
    rotate_left
    · intro w hSw
      (try dsimp only at hSw)
      go_simp
      all_goals with_reducible rfl
    (try simp only [Act.put, List.setIfInBounds_toArray, List.set_cons_zero, List.set_cons_succ])
    refine wpAnyH_take (i := 3) (oi := { dst := some 78, op := Go.Op.load 24 (Go.Operand.tmp 6), type := 24, pos := "law.go:39", after := #[], guard := none }) (v := ?_) rfl (by kernel_rfl) (by kernel_rfl) (by kernel_rfl) (fun _ _ _ h => h) (Or.inl ⟨by rfl, ?_⟩) hHeld ?_
    rotate_left
    · intro w hSw
      (try dsimp only at hSw)
      go_simp
      all_goals with_reducible rfl
    (try simp only [Act.put, List.setIfInBounds_toArray, List.set_cons_zero, List.set_cons_succ])
    refine wpAnyH_take (i := 4) (oi := { dst := some 79, op := Go.Op.load 24 (Go.Operand.tmp 7), type := 24, pos := "law.go:39", after := #[], guard := none }) (v := ?_) rfl (by kernel_rfl) (by kernel_rfl) (by kernel_rfl) (fun _ _ _ h => h) (Or.inl ⟨by rfl, ?_⟩) hHeld ?_
    rotate_left
    · intro w hSw
      (try dsimp only at hSw)
      go_simp
      all_goals with_reducible rfl
    (try simp only [Act.put, List.setIfInBounds_toArray, List.set_cons_zero, List.set_cons_succ])
    refine wpAnyH_ready (rs := [2]) (by kernel_rfl) (by simp) ?_
    refine AllReadyH.cons (o := { dst := some 77, op := Go.Op.call { callee := Go.Callee.value (Go.Operand.func 13), args := #[Go.Operand.tmp 75, Go.Operand.tmp 76], argTypes := #[24, 24] }, type := 4, pos := "law.go:39", after := #[{ on := 0, ground := Go.Ground.data }, { on := 1, ground := Go.Ground.data }], guard := none }) rfl (fun K hK => ?_) AllReadyH.nil
    go_simp
    (go_at_call 13; (with_reducible refine (H1.out _ hD).mono ?_); rintro e w14 ⟨rfl, hb14⟩; have L1 := below_then hD hb14)
    go_wp2_with fail
    refine hK.out _ _ (HSX.out _ L1) (fun hHeld => ?_)
    clear hK K
    (try simp only [Act.put, List.setIfInBounds_toArray, List.set_cons_zero, List.set_cons_succ])
    refine wpAnyH_ready (rs := [5]) (by kernel_rfl) (by simp) ?_
    refine AllReadyH.cons (o := { dst := some 80, op := Go.Op.call { callee := Go.Callee.value (Go.Operand.func 10), args := #[Go.Operand.tmp 78, Go.Operand.tmp 79], argTypes := #[24, 24] }, type := 4, pos := "law.go:39", after := #[{ on := 3, ground := Go.Ground.data }, { on := 4, ground := Go.Ground.data }, { on := 2, ground := Go.Ground.chain }], guard := none }) rfl (fun K hK => ?_) AllReadyH.nil
    go_simp
    (go_at_call 10; (with_reducible refine (H2.out _ L1).mono ?_); rintro e w15 ⟨rfl, hb15⟩; have L2 := below_then L1 hb15)
    go_wp2_with fail
    refine hK.out _ _ (HSX.out _ L2) (fun hHeld => ?_)
    clear hK K
    (try simp only [Act.put, List.setIfInBounds_toArray, List.set_cons_zero, List.set_cons_succ])
    refine wpAnyH_take (i := 6) (oi := { dst := some 81, op := Go.Op.binOp Go.BinOp.eql 4 (Go.Operand.tmp 77) (Go.Operand.tmp 80) 4, type := 4, pos := "law.go:39", after := #[{ on := 2, ground := Go.Ground.data }, { on := 5, ground := Go.Ground.data }], guard := none }) (v := ?_) rfl (by kernel_rfl) (by kernel_rfl) (by kernel_rfl) (fun _ _ _ h => h) (Or.inl ⟨by rfl, ?_⟩) hHeld ?_
    rotate_left
    · intro w hSw
      (try dsimp only at hSw)
      go_simp
      all_goals with_reducible rfl
    (try simp only [Act.put, List.setIfInBounds_toArray, List.set_cons_zero, List.set_cons_succ])
    refine wpAnyH_take (i := 7) (oi := { dst := some 82, op := Go.Op.move (Go.Operand.tmp 81), type := 4, pos := "law.go:39", after := #[{ on := 6, ground := Go.Ground.data }, { on := 5, ground := Go.Ground.chain }], guard := none }) (v := ?_) rfl (by kernel_rfl) (by kernel_rfl) (by kernel_rfl) (fun _ _ _ h => h) (Or.inl ⟨by rfl, ?_⟩) hHeld ?_
    rotate_left
    · intro w hSw
      (try dsimp only at hSw)
      go_simp
      all_goals with_reducible rfl
    (try simp only [Act.put, List.setIfInBounds_toArray, List.set_cons_zero, List.set_cons_succ])
    refine wpAnyH_take (i := 8) (oi := { dst := some 83, op := Go.Op.load 24 (Go.Operand.tmp 6), type := 24, pos := "law.go:39", after := #[{ on := 7, ground := Go.Ground.guard }], guard := some (7, true) }) (v := ?_) rfl (by kernel_rfl) (by kernel_rfl) (by kernel_rfl) (fun _ _ _ h => h) (Or.inl ⟨by rfl, ?_⟩) hHeld ?_
    rotate_left
    · intro w hSw
      (try dsimp only at hSw)
      go_simp
      all_goals with_reducible rfl
    (try simp only [Act.put, List.setIfInBounds_toArray, List.set_cons_zero, List.set_cons_succ])
    refine wpAnyH_take (i := 10) (oi := { dst := some 85, op := Go.Op.load 24 (Go.Operand.tmp 6), type := 24, pos := "law.go:39", after := #[{ on := 7, ground := Go.Ground.guard }], guard := some (7, true) }) (v := ?_) rfl (by kernel_rfl) (by kernel_rfl) (by kernel_rfl) (fun _ _ _ h => h) (Or.inl ⟨by rfl, ?_⟩) hHeld ?_
    rotate_left
    · intro w hSw
      (try dsimp only at hSw)
      go_simp
      all_goals with_reducible rfl
    (try simp only [Act.put, List.setIfInBounds_toArray, List.set_cons_zero, List.set_cons_succ])
    refine wpAnyH_ready (rs := [9]) (by kernel_rfl) (by simp) ?_
    refine AllReadyH.cons (o := { dst := some 84, op := Go.Op.call { callee := Go.Callee.value (Go.Operand.func 14), args := #[Go.Operand.tmp 83], argTypes := #[24] }, type := 24, pos := "law.go:39", after := #[{ on := 8, ground := Go.Ground.data }, { on := 7, ground := Go.Ground.chain }, { on := 7, ground := Go.Ground.guard }], guard := some (7, true) }) rfl (fun K hK => ?_) AllReadyH.nil
    go_simp
    (go_at_call 14; (with_reducible refine (H3.out _ L2).mono ?_); rintro e w16 ⟨G1, rfl, ho1, hb16⟩; have L3 := below_then L2 hb16)
    go_wp2_with fail
    refine hK.out _ _ (HSX.out _ L3) (fun hHeld => ?_)
    clear hK K
    (try simp only [Act.put, List.setIfInBounds_toArray, List.set_cons_zero, List.set_cons_succ])
    refine wpAnyH_ready (rs := [11]) (by kernel_rfl) (by simp) ?_
    refine AllReadyH.cons (o := { dst := some 86, op := Go.Op.call { callee := Go.Callee.value (Go.Operand.func 10), args := #[Go.Operand.tmp 84, Go.Operand.tmp 85], argTypes := #[24, 24] }, type := 4, pos := "law.go:39", after := #[{ on := 9, ground := Go.Ground.data }, { on := 10, ground := Go.Ground.data }, { on := 9, ground := Go.Ground.chain }, { on := 7, ground := Go.Ground.guard }], guard := some (7, true) }) rfl (fun K hK => ?_) AllReadyH.nil
    go_simp
    (go_at_call 10; (with_reducible refine (H4.out _ _ L3 ho1).mono ?_); rintro e w17 ⟨rfl, hb17⟩; have L4 := below_then L3 hb17)
    go_wp2_with fail
    refine hK.out _ _ (HSX.out _ L4) (fun hHeld => ?_)
    clear hK K
    (try simp only [Act.put, List.setIfInBounds_toArray, List.set_cons_zero, List.set_cons_succ])
    refine wpAnyH_take (i := 12) (oi := { dst := some 87, op := Go.Op.pick (Go.Operand.tmp 82) (Go.Operand.tmp 86) (Go.Operand.const (Go.Value.bool false)), type := 4, pos := "law.go:39", after := #[{ on := 7, ground := Go.Ground.data }, { on := 11, ground := Go.Ground.data }], guard := none }) (v := ?_) rfl (by kernel_rfl) (by kernel_rfl) (by kernel_rfl) (fun _ _ _ h => h) (Or.inl ⟨by rfl, ?_⟩) hHeld ?_
    rotate_left
    · intro w hSw
      (try dsimp only at hSw)
      go_simp
      all_goals with_reducible rfl
    (try simp only [Act.put, List.setIfInBounds_toArray, List.set_cons_zero, List.set_cons_succ])
    refine wpAnyH_take (i := 13) (oi := { dst := some 88, op := Go.Op.move (Go.Operand.tmp 87), type := 4, pos := "law.go:39", after := #[{ on := 12, ground := Go.Ground.data }, { on := 11, ground := Go.Ground.chain }], guard := none }) (v := ?_) rfl (by kernel_rfl) (by kernel_rfl) (by kernel_rfl) (fun _ _ _ h => h) (Or.inl ⟨by rfl, ?_⟩) hHeld ?_
    rotate_left
    · intro w hSw
      (try dsimp only at hSw)
      go_simp
      all_goals with_reducible rfl
    (try simp only [Act.put, List.setIfInBounds_toArray, List.set_cons_zero, List.set_cons_succ])
    refine wpAnyH_take (i := 14) (oi := { dst := some 89, op := Go.Op.load 24 (Go.Operand.tmp 6), type := 24, pos := "law.go:39", after := #[{ on := 13, ground := Go.Ground.guard }], guard := some (13, true) }) (v := ?_) rfl (by kernel_rfl) (by kernel_rfl) (by kernel_rfl) (fun _ _ _ h => h) (Or.inl ⟨by rfl, ?_⟩) hHeld ?_
    rotate_left
    · intro w hSw
      (try dsimp only at hSw)
      go_simp
      all_goals with_reducible rfl
    (try simp only [Act.put, List.setIfInBounds_toArray, List.set_cons_zero, List.set_cons_succ])
    refine wpAnyH_take (i := 16) (oi := { dst := some 91, op := Go.Op.load 24 (Go.Operand.tmp 6), type := 24, pos := "law.go:39", after := #[{ on := 13, ground := Go.Ground.guard }], guard := some (13, true) }) (v := ?_) rfl (by kernel_rfl) (by kernel_rfl) (by kernel_rfl) (fun _ _ _ h => h) (Or.inl ⟨by rfl, ?_⟩) hHeld ?_
    rotate_left
    · intro w hSw
      (try dsimp only at hSw)
      go_simp
      all_goals with_reducible rfl
    (try simp only [Act.put, List.setIfInBounds_toArray, List.set_cons_zero, List.set_cons_succ])
    refine wpAnyH_ready (rs := [15]) (by kernel_rfl) (by simp) ?_
    refine AllReadyH.cons (o := { dst := some 90, op := Go.Op.call { callee := Go.Callee.value (Go.Operand.func 15), args := #[Go.Operand.tmp 89], argTypes := #[24] }, type := 3, pos := "law.go:39", after := #[{ on := 14, ground := Go.Ground.data }, { on := 13, ground := Go.Ground.chain }, { on := 13, ground := Go.Ground.guard }], guard := some (13, true) }) rfl (fun K hK => ?_) AllReadyH.nil
    go_simp
    (go_at_call 15; (with_reducible refine (H5.out _ L4).mono ?_); rintro e w18 ⟨rfl, hb18⟩; have L5 := below_then L4 hb18)
    go_wp2_with fail
    refine hK.out _ _ (HSX.out _ L5) (fun hHeld => ?_)
    clear hK K
    (try simp only [Act.put, List.setIfInBounds_toArray, List.set_cons_zero, List.set_cons_succ])
    refine wpAnyH_ready (rs := [17]) (by kernel_rfl) (by simp) ?_
    refine AllReadyH.cons (o := { dst := some 92, op := Go.Op.call { callee := Go.Callee.value (Go.Operand.func 16), args := #[Go.Operand.tmp 91], argTypes := #[24] }, type := 3, pos := "law.go:39", after := #[{ on := 16, ground := Go.Ground.data }, { on := 15, ground := Go.Ground.chain }, { on := 13, ground := Go.Ground.guard }], guard := some (13, true) }) rfl (fun K hK => ?_) AllReadyH.nil
    go_simp
    (go_at_call 16; (with_reducible refine (H6.out _ L5).mono ?_); rintro e w19 ⟨rfl, hb19⟩; have L6 := below_then L5 hb19)
    go_wp2_with fail
    refine hK.out _ _ (HSX.out _ L6) (fun hHeld => ?_)
    clear hK K
    (try simp only [Act.put, List.setIfInBounds_toArray, List.set_cons_zero, List.set_cons_succ])
    refine wpAnyH_take (i := 18) (oi := { dst := some 93, op := Go.Op.binOp Go.BinOp.eql 3 (Go.Operand.tmp 90) (Go.Operand.tmp 92) 3, type := 4, pos := "law.go:39", after := #[{ on := 15, ground := Go.Ground.data }, { on := 17, ground := Go.Ground.data }, { on := 13, ground := Go.Ground.guard }], guard := some (13, true) }) (v := ?_) rfl (by kernel_rfl) (by kernel_rfl) (by kernel_rfl) (fun _ _ _ h => h) (Or.inl ⟨by rfl, ?_⟩) hHeld ?_
    rotate_left
    · intro w hSw
      (try dsimp only at hSw)
      go_simp
      all_goals with_reducible rfl
    (try simp only [Act.put, List.setIfInBounds_toArray, List.set_cons_zero, List.set_cons_succ])
    refine wpAnyH_take (i := 19) (oi := { dst := some 94, op := Go.Op.pick (Go.Operand.tmp 88) (Go.Operand.tmp 93) (Go.Operand.const (Go.Value.bool false)), type := 4, pos := "law.go:39", after := #[{ on := 13, ground := Go.Ground.data }, { on := 18, ground := Go.Ground.data }], guard := none }) (v := ?_) rfl (by kernel_rfl) (by kernel_rfl) (by kernel_rfl) (fun _ _ _ h => h) (Or.inl ⟨by rfl, ?_⟩) hHeld ?_
    rotate_left
    · intro w hSw
      (try dsimp only at hSw)
      go_simp
      all_goals with_reducible rfl
    (try simp only [Act.put, List.setIfInBounds_toArray, List.set_cons_zero, List.set_cons_succ])
    refine wpAnyH_take (i := 20) (oi := { dst := some 95, op := Go.Op.move (Go.Operand.tmp 94), type := 4, pos := "law.go:39", after := #[{ on := 19, ground := Go.Ground.data }, { on := 17, ground := Go.Ground.chain }], guard := none }) (v := ?_) rfl (by kernel_rfl) (by kernel_rfl) (by kernel_rfl) (fun _ _ _ h => h) (Or.inl ⟨by rfl, ?_⟩) hHeld ?_
    rotate_left
    · intro w hSw
      (try dsimp only at hSw)
      go_simp
      all_goals with_reducible rfl
    (try simp only [Act.put, List.setIfInBounds_toArray, List.set_cons_zero, List.set_cons_succ])
    refine wpAnyH_take (i := 21) (oi := { dst := some 96, op := Go.Op.load 24 (Go.Operand.tmp 6), type := 24, pos := "law.go:39", after := #[{ on := 20, ground := Go.Ground.guard }], guard := some (20, true) }) (v := ?_) rfl (by kernel_rfl) (by kernel_rfl) (by kernel_rfl) (fun _ _ _ h => h) (Or.inl ⟨by rfl, ?_⟩) hHeld ?_
    rotate_left
    · intro w hSw
      (try dsimp only at hSw)
      go_simp
      all_goals with_reducible rfl
    (try simp only [Act.put, List.setIfInBounds_toArray, List.set_cons_zero, List.set_cons_succ])
    refine wpAnyH_take (i := 23) (oi := { dst := some 98, op := Go.Op.load 24 (Go.Operand.tmp 6), type := 24, pos := "law.go:39", after := #[{ on := 20, ground := Go.Ground.guard }], guard := some (20, true) }) (v := ?_) rfl (by kernel_rfl) (by kernel_rfl) (by kernel_rfl) (fun _ _ _ h => h) (Or.inl ⟨by rfl, ?_⟩) hHeld ?_
    rotate_left
    · intro w hSw
      (try dsimp only at hSw)
      go_simp
      all_goals with_reducible rfl
    (try simp only [Act.put, List.setIfInBounds_toArray, List.set_cons_zero, List.set_cons_succ])
    refine wpAnyH_ready (rs := [22]) (by kernel_rfl) (by simp) ?_
    refine AllReadyH.cons (o := { dst := some 97, op := Go.Op.call { callee := Go.Callee.value (Go.Operand.func 17), args := #[Go.Operand.tmp 96], argTypes := #[24] }, type := 3, pos := "law.go:39", after := #[{ on := 21, ground := Go.Ground.data }, { on := 20, ground := Go.Ground.chain }, { on := 20, ground := Go.Ground.guard }], guard := some (20, true) }) rfl (fun K hK => ?_) AllReadyH.nil
    go_simp
    (go_at_call 17; (with_reducible refine (H7.out _ L6).mono ?_); rintro e w20 ⟨rfl, hb20⟩; have L7 := below_then L6 hb20)
    go_wp2_with fail
    refine hK.out _ _ (HSX.out _ L7) (fun hHeld => ?_)
    clear hK K
    (try simp only [Act.put, List.setIfInBounds_toArray, List.set_cons_zero, List.set_cons_succ])
    refine wpAnyH_ready (rs := [24]) (by kernel_rfl) (by simp) ?_
    refine AllReadyH.cons (o := { dst := some 99, op := Go.Op.call { callee := Go.Callee.value (Go.Operand.func 18), args := #[Go.Operand.tmp 98], argTypes := #[24] }, type := 3, pos := "law.go:39", after := #[{ on := 23, ground := Go.Ground.data }, { on := 22, ground := Go.Ground.chain }, { on := 20, ground := Go.Ground.guard }], guard := some (20, true) }) rfl (fun K hK => ?_) AllReadyH.nil
    go_simp
    (go_at_call 18; (with_reducible refine (H8.out _ L7).mono ?_); rintro e w21 ⟨rfl, hb21⟩; have L8 := below_then L7 hb21)
    go_wp2_with fail
    refine hK.out _ _ (HSX.out _ L8) (fun hHeld => ?_)
    clear hK K
    (try simp only [Act.put, List.setIfInBounds_toArray, List.set_cons_zero, List.set_cons_succ])
    refine wpAnyH_take (i := 25) (oi := { dst := some 100, op := Go.Op.binOp Go.BinOp.eql 3 (Go.Operand.tmp 97) (Go.Operand.tmp 99) 3, type := 4, pos := "law.go:39", after := #[{ on := 22, ground := Go.Ground.data }, { on := 24, ground := Go.Ground.data }, { on := 20, ground := Go.Ground.guard }], guard := some (20, true) }) (v := ?_) rfl (by kernel_rfl) (by kernel_rfl) (by kernel_rfl) (fun _ _ _ h => h) (Or.inl ⟨by rfl, ?_⟩) hHeld ?_
    rotate_left
    · intro w hSw
      (try dsimp only at hSw)
      go_simp
      all_goals with_reducible rfl
    (try simp only [Act.put, List.setIfInBounds_toArray, List.set_cons_zero, List.set_cons_succ])
    refine wpAnyH_take (i := 26) (oi := { dst := some 101, op := Go.Op.pick (Go.Operand.tmp 95) (Go.Operand.tmp 100) (Go.Operand.const (Go.Value.bool false)), type := 4, pos := "law.go:39", after := #[{ on := 20, ground := Go.Ground.data }, { on := 25, ground := Go.Ground.data }], guard := none }) (v := ?_) rfl (by kernel_rfl) (by kernel_rfl) (by kernel_rfl) (fun _ _ _ h => h) (Or.inl ⟨by rfl, ?_⟩) hHeld ?_
    rotate_left
    · intro w hSw
      (try dsimp only at hSw)
      go_simp
      all_goals with_reducible rfl
    (try simp only [Act.put, List.setIfInBounds_toArray, List.set_cons_zero, List.set_cons_succ])
    refine wpAnyH_take (i := 27) (oi := { dst := some 22, op := Go.Op.assign (Go.Operand.tmp 101), type := 4, pos := "law.go:39", after := #[{ on := 26, ground := Go.Ground.data }, { on := 24, ground := Go.Ground.chain }, { on := 0, ground := Go.Ground.phase }, { on := 1, ground := Go.Ground.phase }, { on := 2, ground := Go.Ground.phase }, { on := 3, ground := Go.Ground.phase }, { on := 4, ground := Go.Ground.phase }, { on := 5, ground := Go.Ground.phase }, { on := 6, ground := Go.Ground.phase }, { on := 7, ground := Go.Ground.phase }, { on := 8, ground := Go.Ground.phase }, { on := 9, ground := Go.Ground.phase }, { on := 10, ground := Go.Ground.phase }, { on := 11, ground := Go.Ground.phase }, { on := 12, ground := Go.Ground.phase }, { on := 13, ground := Go.Ground.phase }, { on := 14, ground := Go.Ground.phase }, { on := 15, ground := Go.Ground.phase }, { on := 16, ground := Go.Ground.phase }, { on := 17, ground := Go.Ground.phase }, { on := 18, ground := Go.Ground.phase }, { on := 19, ground := Go.Ground.phase }, { on := 20, ground := Go.Ground.phase }, { on := 21, ground := Go.Ground.phase }, { on := 22, ground := Go.Ground.phase }, { on := 23, ground := Go.Ground.phase }, { on := 24, ground := Go.Ground.phase }, { on := 25, ground := Go.Ground.phase }, { on := 26, ground := Go.Ground.phase }], guard := none }) (v := ?_) rfl (by kernel_rfl) (by kernel_rfl) (by kernel_rfl) (fun _ _ _ h => h) (Or.inl ⟨by rfl, ?_⟩) hHeld ?_
    rotate_left
    · intro w hSw
      (try dsimp only at hSw)
      go_simp
      all_goals with_reducible rfl
    (try simp only [Act.put, List.setIfInBounds_toArray, List.set_cons_zero, List.set_cons_succ])
    refine wpAnyH_done (by kernel_rfl) ?_ _
    clear H1 H2 H3 H4 H5 H6 H7 H8 HSX hD hHeld ho1
    have HR21 := Lib.hid (HR13.out.on L8)
    have HO21 := Lib.hid (rd_up L8 HO13.out)
    have XO21 := box_on XO13 L8
    have hb021 := below_then hb013 L8
    clear HR13 HO13 XO13 hb013 L1 L2 L3 L4 L5 L6 L7 L8 hb14 hb15 hb16 hb17 hb18 hb19 hb20 hb21
    have y1 := HR21.out.a
    obtain ⟨q0, q1, q2⟩ := HR21.out.x
    obtain ⟨r0, r1, r2⟩ := HR21.out.y
    have v0 := bx1 XO21
    go_wp2_with fail
    obtain ⟨lt, hlt⟩ : ∃ lt, lessV x y = lt := ⟨_, rfl⟩
    have HSX := Lib.hid (fun wx (h : Below w21.heap.size w21 wx) => And.intro (HR21.out.on h).a (And.intro (HR21.out.on h).x (And.intro (HR21.out.on h).y (cell_on h (bx1 XO21)))))
    have hD : Below w21.heap.size w21 w21.drew := (Below.refl _ _).drew
    have H1 := Lib.hid (fun wx => less_any x y (.slice Ax x.M.length cx) (.slice Ay y.M.length cy) wx)
    have H2 := Lib.hid (fun wx => rlessV_any x y (.slice Ax x.M.length cx) (.slice Ay y.M.length cy) hxi.1.2 hyi.1.2 wx)
    rw [hlt] at H1 H2
    have H3 := Lib.hid (fun wx (h : Below w21.heap.size w21 wx) => rsame_any9 _ (D + 1) a a _ _ wx (Nat.le_refl _) (HA.out _ (below_then hb021 h)) (rd_up h HO21.out))
    rw [eqB_yes rfl] at H3
    clear hlt y1 q0 q1 q2 r0 r1 r2 v0
    refine wp_region_held_drew (S := (fun w' => w'.cell? ⟨w.heap.size, 0, none⟩ = some (.slice Aa a.F.length ca) ∧ (w'.cell? ⟨w.heap.size + 3, 0, none⟩ = some (.int .i64 x.n) ∧ w'.cell? ⟨w.heap.size + 3, 1, none⟩ = some (.string (tx x.s)) ∧ w'.cell? ⟨w.heap.size + 3, 2, none⟩ = some (.slice Ax x.M.length cx)) ∧ (w'.cell? ⟨w.heap.size + 4, 0, none⟩ = some (.int .i64 y.n) ∧ w'.cell? ⟨w.heap.size + 4, 1, none⟩ = some (.string (tx y.s)) ∧ w'.cell? ⟨w.heap.size + 4, 2, none⟩ = some (.slice Ay y.M.length cy)) ∧ w'.cell? ⟨w3.heap.size, 0, none⟩ = some (.slice Aw a.F.length cw))) (by kernel_rfl) (HSX.out _ hD) (fun hHeld => ?_)
    refine wpAnyH_take (i := 0) (oi := { dst := some 102, op := Go.Op.move (Go.Operand.tmp 20), type := 4, pos := "law.go:40", after := #[], guard := none }) (v := ?_) rfl (by kernel_rfl) (by kernel_rfl) (by kernel_rfl) (fun _ _ _ h => h) (Or.inl ⟨by rfl, ?_⟩) hHeld ?_
    rotate_left
    · intro w hSw
      (try dsimp only at hSw)
      go_simp
      all_goals with_reducible rfl
    (try simp only [Act.put, List.setIfInBounds_toArray, List.set_cons_zero, List.set_cons_succ])
    refine wpAnyH_take (i := 1) (oi := { dst := some 103, op := Go.Op.move (Go.Operand.tmp 102), type := 4, pos := "law.go:40", after := #[{ on := 0, ground := Go.Ground.data }], guard := none }) (v := ?_) rfl (by kernel_rfl) (by kernel_rfl) (by kernel_rfl) (fun _ _ _ h => h) (Or.inl ⟨by rfl, ?_⟩) hHeld ?_
    rotate_left
    · intro w hSw
      (try dsimp only at hSw)
      go_simp
      all_goals with_reducible rfl
    (try simp only [Act.put, List.setIfInBounds_toArray, List.set_cons_zero, List.set_cons_succ])
    refine wpAnyH_take (i := 2) (oi := { dst := some 104, op := Go.Op.move (Go.Operand.tmp 21), type := 4, pos := "law.go:40", after := #[{ on := 1, ground := Go.Ground.guard }], guard := some (1, true) }) (v := ?_) rfl (by kernel_rfl) (by kernel_rfl) (by kernel_rfl) (fun _ _ _ h => h) (Or.inl ⟨by rfl, ?_⟩) hHeld ?_
    rotate_left
    · intro w hSw
      (try dsimp only at hSw)
      go_simp
      all_goals with_reducible rfl
    (try simp only [Act.put, List.setIfInBounds_toArray, List.set_cons_zero, List.set_cons_succ])
    refine wpAnyH_take (i := 3) (oi := { dst := some 105, op := Go.Op.pick (Go.Operand.tmp 103) (Go.Operand.tmp 104) (Go.Operand.const (Go.Value.bool false)), type := 4, pos := "law.go:40", after := #[{ on := 1, ground := Go.Ground.data }, { on := 2, ground := Go.Ground.data }], guard := none }) (v := ?_) rfl (by kernel_rfl) (by kernel_rfl) (by kernel_rfl) (fun _ _ _ h => h) (Or.inl ⟨by rfl, ?_⟩) hHeld ?_
    rotate_left
    · intro w hSw
      (try dsimp only at hSw)
      go_simp
      all_goals with_reducible rfl
    (try simp only [Act.put, List.setIfInBounds_toArray, List.set_cons_zero, List.set_cons_succ])
    refine wpAnyH_take (i := 4) (oi := { dst := some 106, op := Go.Op.move (Go.Operand.tmp 105), type := 4, pos := "law.go:40", after := #[{ on := 3, ground := Go.Ground.data }, { on := 1, ground := Go.Ground.chain }], guard := none }) (v := ?_) rfl (by kernel_rfl) (by kernel_rfl) (by kernel_rfl) (fun _ _ _ h => h) (Or.inl ⟨by rfl, ?_⟩) hHeld ?_
    rotate_left
    · intro w hSw
      (try dsimp only at hSw)
      go_simp
      all_goals with_reducible rfl
    (try simp only [Act.put, List.setIfInBounds_toArray, List.set_cons_zero, List.set_cons_succ])
    refine wpAnyH_take (i := 5) (oi := { dst := some 107, op := Go.Op.move (Go.Operand.tmp 22), type := 4, pos := "law.go:40", after := #[{ on := 4, ground := Go.Ground.guard }], guard := some (4, true) }) (v := ?_) rfl (by kernel_rfl) (by kernel_rfl) (by kernel_rfl) (fun _ _ _ h => h) (Or.inl ⟨by rfl, ?_⟩) hHeld ?_
    rotate_left
    · intro w hSw
      (try dsimp only at hSw)
      go_simp
      all_goals with_reducible rfl
    (try simp only [Act.put, List.setIfInBounds_toArray, List.set_cons_zero, List.set_cons_succ])
    refine wpAnyH_take (i := 6) (oi := { dst := some 108, op := Go.Op.pick (Go.Operand.tmp 106) (Go.Operand.tmp 107) (Go.Operand.const (Go.Value.bool false)), type := 4, pos := "law.go:40", after := #[{ on := 4, ground := Go.Ground.data }, { on := 5, ground := Go.Ground.data }], guard := none }) (v := ?_) rfl (by kernel_rfl) (by kernel_rfl) (by kernel_rfl) (fun _ _ _ h => h) (Or.inl ⟨by rfl, ?_⟩) hHeld ?_
    rotate_left
    · intro w hSw
      (try dsimp only at hSw)
      go_simp
      all_goals with_reducible rfl
    (try simp only [Act.put, List.setIfInBounds_toArray, List.set_cons_zero, List.set_cons_succ])
    refine wpAnyH_take (i := 7) (oi := { dst := some 109, op := Go.Op.move (Go.Operand.tmp 108), type := 4, pos := "law.go:40", after := #[{ on := 6, ground := Go.Ground.data }, { on := 4, ground := Go.Ground.chain }], guard := none }) (v := ?_) rfl (by kernel_rfl) (by kernel_rfl) (by kernel_rfl) (fun _ _ _ h => h) (Or.inl ⟨by rfl, ?_⟩) hHeld ?_
    rotate_left
    · intro w hSw
      (try dsimp only at hSw)
      go_simp
      all_goals with_reducible rfl
    (try simp only [Act.put, List.setIfInBounds_toArray, List.set_cons_zero, List.set_cons_succ])
    refine wpAnyH_take (i := 8) (oi := { dst := some 110, op := Go.Op.load 30 (Go.Operand.tmp 10), type := 30, pos := "law.go:40", after := #[{ on := 7, ground := Go.Ground.guard }], guard := some (7, true) }) (v := ?_) rfl (by kernel_rfl) (by kernel_rfl) (by kernel_rfl) (fun _ _ _ h => h) (Or.inl ⟨by rfl, ?_⟩) hHeld ?_
    rotate_left
    · intro w hSw
      (try dsimp only at hSw)
      go_simp
      all_goals with_reducible rfl
    (try simp only [Act.put, List.setIfInBounds_toArray, List.set_cons_zero, List.set_cons_succ])
    refine wpAnyH_take (i := 9) (oi := { dst := some 111, op := Go.Op.load 30 (Go.Operand.tmp 11), type := 30, pos := "law.go:40", after := #[{ on := 7, ground := Go.Ground.guard }], guard := some (7, true) }) (v := ?_) rfl (by kernel_rfl) (by kernel_rfl) (by kernel_rfl) (fun _ _ _ h => h) (Or.inl ⟨by rfl, ?_⟩) hHeld ?_
    rotate_left
    · intro w hSw
      (try dsimp only at hSw)
      go_simp
      all_goals with_reducible rfl
    (try simp only [Act.put, List.setIfInBounds_toArray, List.set_cons_zero, List.set_cons_succ])
    refine wpAnyH_take (i := 11) (oi := { dst := some 113, op := Go.Op.load 30 (Go.Operand.tmp 10), type := 30, pos := "law.go:40", after := #[{ on := 7, ground := Go.Ground.guard }], guard := some (7, true) }) (v := ?_) rfl (by kernel_rfl) (by kernel_rfl) (by kernel_rfl) (fun _ _ _ h => h) (Or.inl ⟨by rfl, ?_⟩) hHeld ?_
    rotate_left
    · intro w hSw
      (try dsimp only at hSw)
      go_simp
      all_goals with_reducible rfl
    (try simp only [Act.put, List.setIfInBounds_toArray, List.set_cons_zero, List.set_cons_succ])
    refine wpAnyH_take (i := 12) (oi := { dst := some 114, op := Go.Op.load 30 (Go.Operand.tmp 11), type := 30, pos := "law.go:40", after := #[{ on := 7, ground := Go.Ground.guard }], guard := some (7, true) }) (v := ?_) rfl (by kernel_rfl) (by kernel_rfl) (by kernel_rfl) (fun _ _ _ h => h) (Or.inl ⟨by rfl, ?_⟩) hHeld ?_
    rotate_left
    · intro w hSw
      (try dsimp only at hSw)
      go_simp
      all_goals with_reducible rfl
    (try simp only [Act.put, List.setIfInBounds_toArray, List.set_cons_zero, List.set_cons_succ])
    refine wpAnyH_ready (rs := [10]) (by kernel_rfl) (by simp) ?_
    refine AllReadyH.cons (o := { dst := some 112, op := Go.Op.call { callee := Go.Callee.value (Go.Operand.func 19), args := #[Go.Operand.tmp 110, Go.Operand.tmp 111], argTypes := #[30, 30] }, type := 4, pos := "law.go:40", after := #[{ on := 8, ground := Go.Ground.data }, { on := 9, ground := Go.Ground.data }, { on := 7, ground := Go.Ground.chain }, { on := 7, ground := Go.Ground.guard }], guard := some (7, true) }) rfl (fun K hK => ?_) AllReadyH.nil
    go_simp
    (go_at_call 19; (with_reducible refine (H1.out _).mono ?_); rintro e w22 ⟨rfl, hb22⟩; have M1 := below_then hD hb22)
    go_wp2_with fail
    refine hK.out _ _ (HSX.out _ M1) (fun hHeld => ?_)
    clear hK K
    (try simp only [Act.put, List.setIfInBounds_toArray, List.set_cons_zero, List.set_cons_succ])
    refine wpAnyH_ready (rs := [13]) (by kernel_rfl) (by simp) ?_
    refine AllReadyH.cons (o := { dst := some 115, op := Go.Op.call { callee := Go.Callee.value (Go.Operand.func 20), args := #[Go.Operand.tmp 113, Go.Operand.tmp 114], argTypes := #[30, 30] }, type := 4, pos := "law.go:40", after := #[{ on := 11, ground := Go.Ground.data }, { on := 12, ground := Go.Ground.data }, { on := 10, ground := Go.Ground.chain }, { on := 7, ground := Go.Ground.guard }], guard := some (7, true) }) rfl (fun K hK => ?_) AllReadyH.nil
    go_simp
    (go_at_call 20; (with_reducible refine (H2.out _).mono ?_); rintro e w23 ⟨rfl, hb23⟩; have M2 := below_then M1 hb23)
    go_wp2_with fail
    refine hK.out _ _ (HSX.out _ M2) (fun hHeld => ?_)
    clear hK K
    (try simp only [Act.put, List.setIfInBounds_toArray, List.set_cons_zero, List.set_cons_succ])
    refine wpAnyH_take (i := 14) (oi := { dst := some 116, op := Go.Op.binOp Go.BinOp.eql 4 (Go.Operand.tmp 112) (Go.Operand.tmp 115) 4, type := 4, pos := "law.go:40", after := #[{ on := 10, ground := Go.Ground.data }, { on := 13, ground := Go.Ground.data }, { on := 7, ground := Go.Ground.guard }], guard := some (7, true) }) (v := ?_) rfl (by kernel_rfl) (by kernel_rfl) (by kernel_rfl) (fun _ _ _ h => h) (Or.inl ⟨by rfl, ?_⟩) hHeld ?_
    rotate_left
    · intro w hSw
      (try dsimp only at hSw)
      go_simp
      all_goals with_reducible rfl
    (try simp only [Act.put, List.setIfInBounds_toArray, List.set_cons_zero, List.set_cons_succ])
    refine wpAnyH_take (i := 15) (oi := { dst := some 117, op := Go.Op.pick (Go.Operand.tmp 109) (Go.Operand.tmp 116) (Go.Operand.const (Go.Value.bool false)), type := 4, pos := "law.go:40", after := #[{ on := 7, ground := Go.Ground.data }, { on := 14, ground := Go.Ground.data }], guard := none }) (v := ?_) rfl (by kernel_rfl) (by kernel_rfl) (by kernel_rfl) (fun _ _ _ h => h) (Or.inl ⟨by rfl, ?_⟩) hHeld ?_
    rotate_left
    · intro w hSw
      (try dsimp only at hSw)
      go_simp
      all_goals with_reducible rfl
    (try simp only [Act.put, List.setIfInBounds_toArray, List.set_cons_zero, List.set_cons_succ])
    refine wpAnyH_take (i := 16) (oi := { dst := some 118, op := Go.Op.move (Go.Operand.tmp 117), type := 4, pos := "law.go:40", after := #[{ on := 15, ground := Go.Ground.data }, { on := 13, ground := Go.Ground.chain }], guard := none }) (v := ?_) rfl (by kernel_rfl) (by kernel_rfl) (by kernel_rfl) (fun _ _ _ h => h) (Or.inl ⟨by rfl, ?_⟩) hHeld ?_
    rotate_left
    · intro w hSw
      (try dsimp only at hSw)
      go_simp
      all_goals with_reducible rfl
    (try simp only [Act.put, List.setIfInBounds_toArray, List.set_cons_zero, List.set_cons_succ])
    refine wpAnyH_take (i := 17) (oi := { dst := some 119, op := Go.Op.load 24 (Go.Operand.tmp 6), type := 24, pos := "law.go:40", after := #[{ on := 16, ground := Go.Ground.guard }], guard := some (16, true) }) (v := ?_) rfl (by kernel_rfl) (by kernel_rfl) (by kernel_rfl) (fun _ _ _ h => h) (Or.inl ⟨by rfl, ?_⟩) hHeld ?_
    rotate_left
    · intro w hSw
      (try dsimp only at hSw)
      go_simp
      all_goals with_reducible rfl
    (try simp only [Act.put, List.setIfInBounds_toArray, List.set_cons_zero, List.set_cons_succ])
    refine wpAnyH_take (i := 18) (oi := { dst := some 120, op := Go.Op.load 24 (Go.Operand.tmp 15), type := 24, pos := "law.go:40", after := #[{ on := 16, ground := Go.Ground.guard }], guard := some (16, true) }) (v := ?_) rfl (by kernel_rfl) (by kernel_rfl) (by kernel_rfl) (fun _ _ _ h => h) (Or.inl ⟨by rfl, ?_⟩) hHeld ?_
    rotate_left
    · intro w hSw
      (try dsimp only at hSw)
      go_simp
      all_goals with_reducible rfl
    (try simp only [Act.put, List.setIfInBounds_toArray, List.set_cons_zero, List.set_cons_succ])
    refine wpAnyH_ready (rs := [19]) (by kernel_rfl) (by simp) ?_
    refine AllReadyH.cons (o := { dst := some 121, op := Go.Op.call { callee := Go.Callee.value (Go.Operand.func 10), args := #[Go.Operand.tmp 119, Go.Operand.tmp 120], argTypes := #[24, 24] }, type := 4, pos := "law.go:40", after := #[{ on := 17, ground := Go.Ground.data }, { on := 18, ground := Go.Ground.data }, { on := 16, ground := Go.Ground.chain }, { on := 16, ground := Go.Ground.guard }], guard := some (16, true) }) rfl (fun K hK => ?_) AllReadyH.nil
    go_simp
    (go_at_call 10; (with_reducible refine (H3.out _ M2).mono ?_); rintro e w24 ⟨rfl, hb24⟩; have M3 := below_then M2 hb24)
    go_wp2_with fail
    refine hK.out _ _ (HSX.out _ M3) (fun hHeld => ?_)
    clear hK K
    (try simp only [Act.put, List.setIfInBounds_toArray, List.set_cons_zero, List.set_cons_succ])
    refine wpAnyH_take (i := 20) (oi := { dst := some 122, op := Go.Op.pick (Go.Operand.tmp 118) (Go.Operand.tmp 121) (Go.Operand.const (Go.Value.bool false)), type := 4, pos := "law.go:40", after := #[{ on := 16, ground := Go.Ground.data }, { on := 19, ground := Go.Ground.data }], guard := none }) (v := ?_) rfl (by kernel_rfl) (by kernel_rfl) (by kernel_rfl) (fun _ _ _ h => h) (Or.inl ⟨by rfl, ?_⟩) hHeld ?_
    rotate_left
    · intro w hSw
      (try dsimp only at hSw)
      go_simp
      all_goals with_reducible rfl
    (try simp only [Act.put, List.setIfInBounds_toArray, List.set_cons_zero, List.set_cons_succ])
    refine wpAnyH_take (i := 21) (oi := { dst := some 12, op := Go.Op.assign (Go.Operand.tmp 122), type := 4, pos := "law.go:40", after := #[{ on := 20, ground := Go.Ground.data }, { on := 19, ground := Go.Ground.chain }, { on := 0, ground := Go.Ground.phase }, { on := 1, ground := Go.Ground.phase }, { on := 2, ground := Go.Ground.phase }, { on := 3, ground := Go.Ground.phase }, { on := 4, ground := Go.Ground.phase }, { on := 5, ground := Go.Ground.phase }, { on := 6, ground := Go.Ground.phase }, { on := 7, ground := Go.Ground.phase }, { on := 8, ground := Go.Ground.phase }, { on := 9, ground := Go.Ground.phase }, { on := 10, ground := Go.Ground.phase }, { on := 11, ground := Go.Ground.phase }, { on := 12, ground := Go.Ground.phase }, { on := 13, ground := Go.Ground.phase }, { on := 14, ground := Go.Ground.phase }, { on := 15, ground := Go.Ground.phase }, { on := 16, ground := Go.Ground.phase }, { on := 17, ground := Go.Ground.phase }, { on := 18, ground := Go.Ground.phase }, { on := 19, ground := Go.Ground.phase }, { on := 20, ground := Go.Ground.phase }], guard := none }) (v := ?_) rfl (by kernel_rfl) (by kernel_rfl) (by kernel_rfl) (fun _ _ _ h => h) (Or.inl ⟨by rfl, ?_⟩) hHeld ?_
    rotate_left
    · intro w hSw
      (try dsimp only at hSw)
      go_simp
      all_goals with_reducible rfl
    (try simp only [Act.put, List.setIfInBounds_toArray, List.set_cons_zero, List.set_cons_succ])
    refine wpAnyH_done (by kernel_rfl) ?_ _
    go_wp2
    go_ret
    exact ⟨rfl, below_then hb021 M3⟩
theorem contract (H : Type) (enc : TypeId × Value → H) (W : World) (base : Nat) (args : Array Value) (ds gs : List (DataW H)) (before : List MemPlace)
    (hval0 : ∀ (j : Nat) t v, Try.f3.params[j]? = some t → args[j]? = some v → Value.okWide Try.prog W .any base t v)
    (hW : DataW.Whole enc Try.prog Try.f3.params.toList Rows.valueTellsSpec.vars false W args.toList ds gs before) (hsz : (DataW.weightsEach Try.prog (Try.f3.params.toList ++ (OpenSpec.ofChange Rows.valueTellsSpec).bare.plain.varTypes Try.prog) (ds ++ gs)).all (· ≤ reachBytes) = true) (hL : laidMetH Try.prog Rows.valueTellsRow.laid W) :
    Calls Try.prog 3 args W fun e W2 => ∃ v, e = .returned v ∧ Rows.valueTellsSpec.post enc Try.prog Try.f3 false true false false W args v W2 := by
  have hval : ∀ (j : Nat) t v, Try.f3.params[j]? = some t → args[j]? = some v → Value.okWide Try.prog W .any base t v := hval0
  have hW2 := hW
  obtain ⟨p, q, hA0, hV, rfl, hfz, hnd⟩ := hW
  have hA : DataW.TrodAll enc Try.prog W 0 (fun _ => true) true Try.f3.params.toList args.toList ds p := hA0
  rw [Try.params3] at hA hval
  obtain ⟨v0, vs0, d0, ds0, p0, q0, hargs, rfl, rfl, h0, r0⟩ := trodAll_cons hA
  obtain ⟨v1, vs1, d1, ds1, p1, q1, rfl, rfl, rfl, h1, r1⟩ := trodAll_cons r0
  obtain ⟨v2, vs2, d2, ds2, p2, q2, rfl, rfl, rfl, h2, r2⟩ := trodAll_cons r1
  obtain ⟨v3, vs3, d3, ds3, p3, q3, rfl, rfl, rfl, h3, r3⟩ := trodAll_cons r2
  obtain ⟨v4, vs4, d4, ds4, p4, q4, rfl, rfl, rfl, h4, r4⟩ := trodAll_cons r3
  obtain ⟨v5, vs5, d5, ds5, p5, q5, rfl, rfl, rfl, h5, r5⟩ := trodAll_cons r4
  obtain ⟨rfl, rfl, rfl⟩ := trodAll_nil r5
  obtain rfl : args = #[v0, v1, v2, v3, v4, v5] := by cases args; simp_all
  obtain ⟨rfl, rfl⟩ := trodVars_none hV
  obtain ⟨mg0, u0, k0, rfl, hm0⟩ := open_msg (hval 0 24 v0 rfl rfl) h0 (szd_each (fun k hk => of_decide_eq_true (List.all_eq_true.1 hsz k hk)) 0 _ _ rfl rfl)
  obtain ⟨mg1, u1, k1, rfl, hm1⟩ := open_msg (hval 1 24 v1 rfl rfl) h1 (szd_each (fun k hk => of_decide_eq_true (List.all_eq_true.1 hsz k hk)) 1 _ _ rfl rfl)
  obtain ⟨i2, rfl, b2, c2⟩ := open_i64 (hval 2 3 v2 rfl rfl) h2
  obtain ⟨sl3, u3, t3, k3, rfl, hm3⟩ := open_sl (hval 3 27 v3 rfl rfl) h3 (szd_each (fun k hk => of_decide_eq_true (List.all_eq_true.1 hsz k hk)) 3 _ _ rfl rfl)
  obtain ⟨va4, u4, k4, rfl, hm4, hi4⟩ := open_vaI (hval 4 30 v4 rfl rfl) h4 (szd_each (fun k hk => of_decide_eq_true (List.all_eq_true.1 hsz k hk)) 4 _ _ rfl rfl)
  obtain ⟨va5, u5, k5, rfl, hm5, hi5⟩ := open_vaI (hval 5 30 v5 rfl rfl) h5 (szd_each (fun k hk => of_decide_eq_true (List.all_eq_true.1 hsz k hk)) 5 _ _ rfl rfl)
  refine (walk W mg0 u0 k0 hm0 mg1 u1 k1 hm1 i2 b2 c2 sl3 u3 t3 k3 hm3 va4 u4 k4 hm4 hi4 va5 u5 k5 hm5 hi5).mono fun e W2 ⟨he, hb⟩ => ?_
  subst he
  exact ⟨_, rfl, law_post (by kernel_rfl) rfl rfl (by decide +kernel) hW2 hb⟩
theorem laid_met (os : Os) : laidMetH Try.prog Rows.valueTellsRow.laid ((World.laidAll Try.prog os Rows.valueTellsRow.laid).forCall (fun _ _ => 0) ⟨#[], #[.agg #[.slice none 0 0], .agg #[.slice none 0 0], .int .i64 0, .agg #[.int .i64 0, .slice none 0 0, .slice none 0 0], .agg #[.int .i64 0, .string .empty, .slice none 0 0], .agg #[.int .i64 0, .string .empty, .slice none 0 0]], []⟩).memory := by
  rw [MakeChecks.laidMetH_plain _ _ _ (by kernel_rfl)]
  exact laidMet_laidAll _ (by kernel_rfl) (by kernel_rfl)
theorem reads (os : Os) {H : Type} (enc : TypeId × Value → H) : ∃ places, DataW.whole enc Try.prog ((World.laidAll Try.prog os Rows.valueTellsRow.laid).forCall (fun _ _ => 0) ⟨#[], #[.agg #[.slice none 0 0], .agg #[.slice none 0 0], .int .i64 0, .agg #[.int .i64 0, .slice none 0 0, .slice none 0 0], .agg #[.int .i64 0, .string .empty, .slice none 0 0], .agg #[.int .i64 0, .string .empty, .slice none 0 0]], []⟩).memory Try.f3.params.toList Rows.valueTellsSpec.vars false (#[.agg #[.slice none 0 0], .agg #[.slice none 0 0], .int .i64 0, .agg #[.int .i64 0, .slice none 0 0, .slice none 0 0], .agg #[.int .i64 0, .string .empty, .slice none 0 0], .agg #[.int .i64 0, .string .empty, .slice none 0 0]] : Array Value).toList 8 = some ([.agg [.nil], .agg [.nil], .lit (.int .i64 0), .agg [.lit (.int .i64 0), .nil, .nil], .agg [.lit (.int .i64 0), .lit (.string []), .nil], .agg [.lit (.int .i64 0), .lit (.string []), .nil]], [], places) := ⟨[], by kernel_rfl⟩
set_option maxRecDepth 100000 in
theorem lifted (os : Os) (started : os.Started) (H : Type) (enc : TypeId × Value → H) (F : Stop.Interp) :
    ReturnsInHanded {} Try.checked os 3 .any ((OpenSpec.ofChange Rows.valueTellsSpec).preRow enc Try.prog Try.f3 Rows.valueTellsRow.domain false Rows.valueTellsRow.laid) (((OpenSpec.ofChange Rows.valueTellsSpec).at F).post enc Try.prog Try.f3 false true false false) := by
  obtain ⟨places, hx⟩ := reads os enc
  refine returnsInHanded_of_row (C := Try.checked) (s := OpenSpec.ofChange Rows.valueTellsSpec) own started (by kernel_rfl) Try.func3
    (witness_row_at (enc := enc) (C := Try.checked) false (World.laidAll Try.prog os Rows.valueTellsRow.laid) #[.agg #[.slice none 0 0], .agg #[.slice none 0 0], .int .i64 0, .agg #[.int .i64 0, .slice none 0 0, .slice none 0 0], .agg #[.int .i64 0, .string .empty, .slice none 0 0], .agg #[.int .i64 0, .string .empty, .slice none 0 0]] (World.laidAll_os _ _ _) (by kernel_rfl) (by kernel_rfl) (by kernel_rfl)
      (OpenSpec.preRow_of_cond 8 hx (by kernel_rfl) (fun k hk => by cases hk) (by kernel_rfl) (laid_met os))) ?_
  intro W base args ds gs before hval hW _ _ hsz hL _ _
  exact contract H enc W base args ds gs before hval hW hsz hL
theorem said : Rows.ValueTellsSaid :=
  OpenClaim.holds_of_cond 3 Try.f3 rfl rfl rfl rfl rfl rfl rfl ⟨rfl, rfl, rfl, rfl, rfl⟩ rfl rfl rfl rfl rfl (by kernel_rfl) Try.func3 (by kernel_rfl)
    (of_decide_eq_true (by kernel_rfl)) (by unfold Func.isWrapper; first | (rw [if_pos (by decide +kernel)]; kernel_rfl) | (rw [if_neg (by decide +kernel)]; exact ⟨rfl, rfl⟩))
    (fun os started H enc _ F => by rw [OpenClaim.pre_eq_preRow]; exact lifted os started H enc F)
theorem proved : Rows.ValueTellsSaid := said

end Go.Proofs.Ytjmcpfckcajnjaa.T9.lawValueTells
