/-
  Two slots of two numbers are set in either order; the one that is set last stands, of one number: the statement ValueTwo, for every message and two slots.
-/
import Derived.Test.YtaepmccfiliiiaaTrLaw
import Derived.Deep.DeepHandedRow
import Derived.MakeChecks
import Derived.Lay
import Derived.BigQuiet
import Derived.Deep.DeepCutAuto
namespace Go.Proofs.Ytaepmccfiliiiaa.lawValueTwo
set_option maxRecDepth 100000

open Go.ChangeShapes Go.WideShapes Go.ChangeAt Go.RowKit

/-- Do a message's slots rise? -/
def Rise (l : List So) : Prop := ∀ i x y, l[i]? = some x → l[i + 1]? = some y → x.no < y.no
theorem Rise.tail {x : So} {l : List So} (h : Rise (x :: l)) : Rise l := fun i a b ha hb => h (i + 1) a b (by simpa using ha) (by simpa using hb)
theorem Rise.all {x : So} : ∀ {l : List So}, Rise (x :: l) → ∀ y ∈ l, x.no < y.no
  | [], _, y, hy => by cases hy
  | z :: l, h, y, hy => by
    have h1 : x.no < z.no := h 0 x z rfl rfl
    rcases List.mem_cons.1 hy with rfl | hy
    · exact h1
    · exact Int.lt_trans h1 (Rise.all h.tail y hy)
theorem rest_cons_ne {x : So} {l : List So} {n : Int} (h : x.no ≠ n) : rest (x :: l) n = x :: rest l n := by unfold rest; rw [List.filter_cons_of_pos (by simp [h])]
theorem rest_cons_eq {x : So} {l : List So} {n : Int} (h : x.no = n) : rest (x :: l) n = rest l n := by unfold rest; rw [List.filter_cons_of_neg (by simp [h])]
theorem rest_swap (l : List So) (a b : Int) : rest (rest l a) b = rest (rest l b) a := by
  unfold rest
  rw [List.filter_filter, List.filter_filter]
  congr 1
  funext s
  exact Bool.and_comm _ _
/-- Where all are greater a slot goes ahead. -/
theorem put_head {s : So} : ∀ {l : List So}, (∀ y ∈ l, s.no < y.no) → putS l s = s :: l
  | [], _ => putS_nil s
  | x :: l, h => by rw [putS_cons, if_pos (h x (by simp))]
theorem rest_put_other {s : So} {n : Int} (h : s.no ≠ n) : ∀ {l : List So}, Rise l → rest (putS l s) n = putS (rest l n) s
  | [], _ => by rw [putS_nil]; show rest [s] n = putS [] s; rw [putS_nil, rest_cons_ne h]; rfl
  | x :: l, hr => by
    rw [putS_cons]
    by_cases hlt : s.no < x.no
    · rw [if_pos hlt, rest_cons_ne h]
      symm
      refine put_head fun y hy => ?_
      have hy2 : y ∈ x :: l := (List.mem_filter.1 hy).1
      rcases List.mem_cons.1 hy2 with rfl | hy2
      · exact hlt
      · exact Int.lt_trans hlt (hr.all y hy2)
    · rw [if_neg hlt]
      by_cases hx : x.no = n
      · rw [rest_cons_eq hx, rest_cons_eq hx]
        exact rest_put_other h hr.tail
      · rw [rest_cons_ne hx, rest_cons_ne hx, putS_cons, if_neg hlt, rest_put_other h hr.tail]
theorem put_swap {s t : So} (h : s.no ≠ t.no) : ∀ (l : List So), putS (putS l s) t = putS (putS l t) s
  | [] => by
    rw [putS_nil, putS_nil, putS_cons, putS_cons, putS_nil, putS_nil]
    by_cases h1 : t.no < s.no
    · rw [if_pos h1, if_neg (by omega)]
    · rw [if_neg h1, if_pos (by omega)]
  | x :: l => by
    rw [putS_cons, putS_cons]
    by_cases h1 : s.no < x.no
    · rw [if_pos h1]
      by_cases h2 : t.no < x.no
      · rw [if_pos h2, putS_cons, putS_cons, putS_cons, putS_cons, if_pos h1, if_pos h2]
        by_cases h3 : t.no < s.no
        · rw [if_pos h3, if_neg (by omega)]
        · rw [if_neg h3, if_pos (by omega)]
      · rw [if_neg h2, putS_cons, putS_cons, putS_cons, if_pos h1, if_neg (by omega), if_neg h2]
    · rw [if_neg h1]
      by_cases h2 : t.no < x.no
      · rw [if_pos h2, putS_cons, putS_cons, putS_cons, if_pos h2, if_neg (by omega), if_neg h1]
      · rw [if_neg h2, putS_cons, putS_cons, if_neg h1, if_neg h2, put_swap h l]
theorem Rise.rest {l : List So} (h : Rise l) (n : Int) : Rise (rest l n) := by
  induction l with
  | nil => intro i a b ha; simp [Go.Proofs.Ytaepmccfiliiiaa.rest] at ha
  | cons x l ih =>
    by_cases hx : x.no = n
    · rw [rest_cons_eq hx]; exact ih h.tail
    · rw [rest_cons_ne hx]
      intro i a b ha hb
      cases i with
      | zero =>
        obtain rfl : x = a := by simpa using ha
        have hb2 : b ∈ Go.Proofs.Ytaepmccfiliiiaa.rest l n := List.mem_of_getElem? (by simpa using hb)
        exact h.all b (List.mem_filter.1 hb2).1
      | succ i => exact ih h.tail i a b (by simpa using ha) (by simpa using hb)
/-- Two slots of two numbers, in either order. -/
theorem two_sets {m : Mg} {s t : So} (h : s.no ≠ t.no) (hr : Rise m.F) : setM (setM m s) t = setM (setM m t) s := by
  have e1 : ∀ (x y : So), x.no ≠ y.no → rest (setM m x).F y.no = if x.V = [] then rest (rest m.F x.no) y.no else putS (rest (rest m.F x.no) y.no) x := fun x y hxy => by
    unfold setM Mg.F
    simp only
    split
    · rfl
    · exact rest_put_other hxy (hr.rest _)
  have e2 := e1 s t h
  have e3 := e1 t s (fun e => h e.symm)
  unfold setM at e2 e3 ⊢
  rw [e2, e3, rest_swap m.F t.no s.no]
  congr 1
  by_cases hs : s.V = []
  · by_cases ht : t.V = []
    · rw [if_pos ht, if_pos hs, if_pos hs, if_pos ht]
    · rw [if_neg ht, if_pos hs, if_pos hs, if_neg ht]
  · by_cases ht : t.V = []
    · rw [if_pos ht, if_neg hs, if_neg hs, if_pos ht]
    · rw [if_neg ht, if_neg hs, if_neg hs, if_neg ht, put_swap h]
theorem Rise.next {l : List So} {k : Nat} {x y : So} (h : ∀ i a b, i + 1 < k + 1 → l[i]? = some a → l[i + 1]? = some b → a.no < b.no) (hx : l[k]? = some x) (hy : l[k + 1]? = some y) (hlt : x.no < y.no) : ∀ i a b, i + 1 < k + 1 + 1 → l[i]? = some a → l[i + 1]? = some b → a.no < b.no := fun i a b hi ha hb => by
  by_cases e : i = k
  · subst e
    rw [hx] at ha
    rw [hy] at hb
    obtain rfl := Option.some.inj ha
    obtain rfl := Option.some.inj hb
    exact hlt
  · exact h i a b (by omega) ha hb
set_option maxRecDepth 1000000 in
set_option maxHeartbeats 4000000 in
theorem rising_any (B D : Nat) (m : Mg) (u : Value) (w : World) (hB : B ≤ w.heap.size) (hm : MRd B w (D + 1) m u) :
    Calls Try.prog 27 #[.agg #[u]] w fun e w' => ∃ r : Bool, e = .returned (.bool r) ∧ (r = true → Rise m.F) ∧ Below w.heap.size w w' := by
  obtain ⟨u', hu, hl⟩ := hm
  simp only [List.cons.injEq, and_true] at hu
  subst hu
  obtain ⟨A, c, xs, rfl, hs, hb, hr, hn⟩ := hl.open_
  have X1 := heap_alloc_new w (.cells #[.slice A m.F.length c] 24)
  have LBD := below_new w (.cells #[.slice A m.F.length c] 24)
  have HS := Lib.hid hs
  have HR := Lib.hid hr
  have HBB := Lib.hid hb
  clear hs hr hl hb
  go_enter Try.func27, Try.ntmps27
  go_wp2
  obtain ⟨W0, hW0⟩ : ∃ W, W = w.alloc (.cells #[.slice A m.F.length c] 24) := ⟨_, rfl⟩
  rw [← hW0] at X1 LBD ⊢
  clear hW0
  go_loopw [3] (fun i wr => ∃ k : Nat, i = .int .i64 ((k + 1 : Nat) : Int) ∧ k ≤ m.F.length ∧ (∀ i a b, i + 1 < k + 1 → m.F[i]? = some a → m.F[i + 1]? = some b → a.no < b.no) ∧ Below W0.heap.size W0 wr) (fun i _ => m.F.length + 1 - (intOf i).toNat)
  case atStart => exact ⟨0, rfl, by omega, fun i a b hi => by omega, Below.refl _ _⟩
  case round =>
    obtain ⟨k, rfl, hk, hq, hbw⟩ := hrel
    have HQ := Lib.hid hq
    have g0 := bx1 (box_on X1 hbw)
    have HBW := Lib.hid (LBD.trans (hbw.mono LBD.size))
    clear hq
    by_cases hlt : k + 1 < m.F.length
    · obtain ⟨a, ha⟩ : ∃ a, m.F[k]? = some a := ⟨_, List.getElem?_eq_getElem (by omega)⟩
      obtain ⟨b, hb⟩ : ∃ a, m.F[k + 1]? = some a := ⟨_, List.getElem?_eq_getElem hlt⟩
      obtain ⟨ad, x, y, z, rfl, hg, hca, c0, c1, c2⟩ := row3 sAt.len (sl_low HS.out HBB.out (Lo.below HBW.out hB)) (HR.out.imp fun a cs h => SRd.low (Lo.below HBW.out hB) h) ha
      obtain ⟨ad2, x2, y2, z2, had, hg2, hcb, d0, d1, d2⟩ := row3 sAt.len (sl_low HS.out HBB.out (Lo.below HBW.out hB)) (HR.out.imp fun a cs h => SRd.low (Lo.below HBW.out hB) h) hb
      obtain rfl := Option.some.inj had
      have hx := hca.head
      have hx2 := hcb.head
      subst hx hx2
      have HA := Lib.hid ha
      have HB := Lib.hid hb
      have hw1 : IntKind.i64.wrap (((k + 1 : Nat) : Int) - 1) = (k : Int) := by rw [IntKind.wrap_i64]; omega
      have hw2 : IntKind.i64.wrap (((k : Int) + 1) - 1) = (k : Int) := by rw [IntKind.wrap_i64]; omega
      clear hca hcb ha hb c1 c2 d1 d2
      by_cases hge : a.no < b.no
      · have h1 : decide (b.no ≤ a.no) = false := by rw [decide_eq_false_iff_not]; omega
        go_wp2_with fail
        go_quiet (fail)
        go_wp2
        refine ⟨⟨k + 1, ?_, by omega, Rise.next HQ.out HA.out HB.out hge, below_draws hbw _⟩, by simp [intOf]; omega⟩
        go_num
      · have h1 : decide (b.no ≤ a.no) = true := by rw [decide_eq_true_iff]; omega
        go_wp2_with fail
        go_quiet (fail)
        go_wp2
        go_ret
        exact ⟨false, rfl, (fun h => by cases h), below_draws HBW.out _⟩
    · have hlen : ¬ ((k : Int) + 1 < (m.F.length : Int)) := by omega
      go_wp2
      go_ret
      exact .inr ⟨rfl, fun i a b ha hb => HQ.out i a b (by have := (List.getElem?_eq_some_iff.1 hb).1; omega) ha hb, HBW.out⟩
/-- A box that holds a message that is read, in a world that has grown. -/
def MRel (D : Nat) (W0 : World) (m : Mg) (p : Value) (wx : World) : Prop := ∃ g A c, p = .pointer (some ⟨g, 0, none⟩) ∧ wx.heap[g]? = some (.cells #[.slice A m.F.length c] 24 (0, 0)) ∧ MRd wx.heap.size wx (D + 1) m (.slice A m.F.length c) ∧ Below W0.heap.size W0 wx
/-- Set, whose answer lies above all that was there. -/
theorem set_ow (D : Nat) (m : Mg) (s : So) (u u1 u2 : Value) (w : World) (hm : MRd w.heap.size w (D + 1) m u) (hs : SAt' (Rd w.heap.size w) D s [.int .i64 s.no, u1, u2]) (hcm : m.cnt ≤ 10000) (hcs : cS s ≤ 10000) :
    Calls Try.prog 16 #[.agg #[u], .agg #[.int .i64 s.no, u1, u2]] w fun e w' => ∃ A c, e = .returned (.agg #[.slice A (setM m s).F.length c]) ∧ MAt (Ow w.heap.size w') (D + 1) (setM m s) [.slice A (setM m s).F.length c] ∧ Below w.heap.size w w' := by
  refine (set_any w.heap.size D m s u u1 u2 w (Nat.le_refl _) hm hs (by omega) (by omega) w.heap.size (Nat.le_refl _)).mono ?_
  rintro e w' ⟨x1, rfl, h1, h2⟩
  obtain ⟨A, c, rfl⟩ := msg_shape h1
  exact ⟨A, c, rfl, h1, h2⟩
/-- Three boxes are as they were. -/
def C7 (g : Nat) (v a b c a' b' c' : Value) (w : World) : Prop := w.cell? ⟨g, 0, none⟩ = some v ∧ (w.cell? ⟨g + 1, 0, none⟩ = some a ∧ w.cell? ⟨g + 1, 1, none⟩ = some b ∧ w.cell? ⟨g + 1, 2, none⟩ = some c) ∧ w.cell? ⟨g + 1 + 1, 0, none⟩ = some a' ∧ w.cell? ⟨g + 1 + 1, 1, none⟩ = some b' ∧ w.cell? ⟨g + 1 + 1, 2, none⟩ = some c'
theorem C7.on {g : Nat} {v a b c a' b' c' : Value} {w w' : World} (h : C7 g v a b c a' b' c' w) (hb : Below w.heap.size w w') : C7 g v a b c a' b' c' w' :=
  ⟨cell_on hb h.1, ⟨cell_on hb h.2.1.1, cell_on hb h.2.1.2.1, cell_on hb h.2.1.2.2⟩, cell_on hb h.2.2.1, cell_on hb h.2.2.2.1, cell_on hb h.2.2.2.2⟩
theorem C7.set {g k : Nat} {v a b c a' b' c' x : Value} {w : World} (h : C7 g v a b c a' b' c' w) (hk : g + 2 < k) : C7 g v a b c a' b' c' (w.setCell ⟨k, 0, none⟩ x) := by
  have e : ∀ (j o : Nat) (y : Value), j ≤ g + 2 → w.cell? ⟨j, o, none⟩ = some y → (w.setCell ⟨k, 0, none⟩ x).cell? ⟨j, o, none⟩ = some y := fun j o y hj hy => (World.cell?_setCell_other _ _ _ _ (by intro h; injection h with h1; omega)).trans hy
  exact ⟨e _ _ _ (by omega) h.1, ⟨e _ _ _ (by omega) h.2.1.1, e _ _ _ (by omega) h.2.1.2.1, e _ _ _ (by omega) h.2.1.2.2⟩, e _ _ _ (by omega) h.2.2.1, e _ _ _ (by omega) h.2.2.2.1, e _ _ _ (by omega) h.2.2.2.2⟩
theorem froz {w : World} {g : Nat} {cs : Array Value} {t : TypeId} (h : w.heap[g]? = some (.cells cs t (0, 0))) (j : Nat) : w.frozen? ⟨g, j, none⟩ = false := by simp [World.frozen?, h]
theorem rel_last {D : Nat} {W0 w4 : World} {m : Mg} {A : Option Addr} {c b : Nat} (h : MAt (Ow b w4) (D + 1) m [.slice A m.F.length c]) (L : Below W0.heap.size W0 w4) : MRel D W0 m (.pointer (some ⟨w4.heap.size, 0, none⟩)) (w4.alloc (.cells #[.slice A m.F.length c] 24)) :=
  ⟨_, _, _, rfl, heap_alloc_new w4 _, rd_up (below_new w4 _) (own_rd h), below_lit L _⟩
theorem rel_set {D : Nat} {W0 w4 : World} {m : Mg} {A : Option Addr} {c b g : Nat} {x : Value} (h : MAt (Ow b w4) (D + 1) m [.slice A m.F.length c]) (L : Below W0.heap.size W0 w4) (X : w4.heap[g]? = some (.cells #[x] 24 (0, 0))) (hg : W0.heap.size ≤ g) (hb : g < b) : MRel D W0 m (.pointer (some ⟨g, 0, none⟩)) (w4.setCell ⟨g, 0, none⟩ (.slice A m.F.length c)) := by
  obtain ⟨Z1, Z2⟩ := one_set X (.slice A m.F.length c)
  exact ⟨_, _, _, rfl, Z1, own_rd (msg_moved (hi_grown Z2 hb) (Nat.le_refl _) h), L.trans (below_own Z2 hg L.size)⟩
set_option maxRecDepth 1000000 in
set_option maxHeartbeats 8000000 in
theorem walk (w : World) (m : Mg) (u : Value) (k : Nat) (hm : MRd w.heap.size w k m u) (s : So) (u1 u2 : Value) (k' : Nat) (hs : SAt' (Rd w.heap.size w) k' s [.int .i64 s.no, u1, u2]) (t : So) (u3 u4 : Value) (k'' : Nat) (ht : SAt' (Rd w.heap.size w) k'' t [.int .i64 t.no, u3, u4]) :
    Calls Try.prog 8 #[.agg #[u], .agg #[.int .i64 s.no, u1, u2], .agg #[.int .i64 t.no, u3, u4]] w fun e w' => e = .returned (.bool true) ∧ Below w.heap.size w w' := by
  obtain ⟨D, hD⟩ : ∃ D, D = max k (max k' k'') := ⟨_, rfl⟩
  have hm0 : MRd w.heap.size w (D + 1) m u := MAt.more (by omega) _ _ hm
  have hs0 : SAt' (Rd w.heap.size w) D s [.int .i64 s.no, u1, u2] := slot_more (by omega) hs
  have ht0 : SAt' (Rd w.heap.size w) D t [.int .i64 t.no, u3, u4] := slot_more (by omega) ht
  clear hm hs ht hD
  obtain ⟨Am, cm, rfl⟩ := rd_shape hm0
  obtain ⟨A1, c1, A2, c2, -, rfl, rfl⟩ := slot_shape hs0
  obtain ⟨A3, c3, A4, c4, -, rfl, rfl⟩ := slot_shape ht0
  obtain ⟨X1, X2, X3, LBD⟩ := three_boxes w (.cells #[.slice Am m.F.length cm] 24) (.cells #[.int .i64 s.no, .slice A1 s.K.length c1, .slice A2 s.V.length c2] 27) (.cells #[.int .i64 t.no, .slice A3 t.K.length c3, .slice A4 t.V.length c4] 27)
  have HM := Lib.hid (fun wx (hx : Below w.heap.size w wx) => rd_up hx hm0)
  have HS := Lib.hid (fun wx (hx : Below w.heap.size w wx) => srd_up hx hs0)
  have HT := Lib.hid (fun wx (hx : Below w.heap.size w wx) => srd_up hx ht0)
  clear hm0 hs0 ht0
  go_enter Try.func8, Try.ntmps8
  go_wp2_with fail
  refine (awake9_any _).mono ?_
  rintro e w1 ⟨rfl, hb1⟩
  have hb01 := below_then LBD hb1
  have Y1 := box_on X1 hb1
  have Y2 := box_on X2 hb1
  have Y3 := box_on X3 hb1
  clear X1 X2 X3 LBD hb1
  have y1 := bx1 Y1
  obtain ⟨p0, p1, p2⟩ := bx3 Y2
  obtain ⟨q0, q1, q2⟩ := bx3 Y3
  obtain ⟨T1, T2, L1⟩ := two_boxes w1 (.cells #[.int .i64 s.no, .slice A1 s.K.length c1, .slice A2 s.V.length c2, .int .i64 t.no, .slice A3 t.K.length c3, .slice A4 t.V.length c4] 27) (.cells #[.slice Am m.F.length cm, .slice (some ⟨w1.heap.size, 0, none⟩) 2 2] 24)
  have HF := Lib.hid (few_all _ (D + 1) [m, .mk [s, t]] _ _ (Nat.le_refl _) (msgs2_rd (HM.out _ (below_then hb01 L1)) (two_rd (HS.out _ (below_then hb01 L1)) (HT.out _ (below_then hb01 L1)) T1) T2))
  clear T1 T2
  go_wp2_with fail
  refine HF.out.mono ?_
  rintro e w2 ⟨r, rfl, hfit, hb2⟩
  have hb02 := below_then (below_then hb01 L1) hb2
  have Z1 := box_on Y1 (below_then L1 hb2)
  have Z2 := box_on Y2 (below_then L1 hb2)
  have Z3 := box_on Y3 (below_then L1 hb2)
  clear y1 p0 p1 p2 q0 q1 q2 Y1 Y2 Y3 L1 hb2 hb01 HF
  cases r with
  | false =>
    go_wp2
    go_ret
    exact ⟨rfl, hb02⟩
  | true =>
    have hfm := (hfit rfl m (by simp)).cnt
    have hfs := (hfit rfl (.mk [s, t]) (by simp)).cnt
    rw [cnt_two] at hfs
    clear hfit
    have hca := cnt_set m s
    have hcb := cnt_set m t
    have hcc := cnt_set (setM m s) t
    have hcd := cnt_set (setM m t) s
    have B1 : Hid (m.cnt ≤ 3000 ∧ cS s ≤ 3000 ∧ cS t ≤ 3000 ∧ (setM m s).cnt ≤ 6000 ∧ (setM m t).cnt ≤ 6000 ∧ (setM (setM m s) t).cnt ≤ 9000 ∧ (setM (setM m t) s).cnt ≤ 9000) := Lib.hid (by omega)
    clear hfm hfs hca hcb hcc hcd
    have y1 := bx1 Z1
    obtain ⟨p0, p1, p2⟩ := bx3 Z2
    obtain ⟨q0, q1, q2⟩ := bx3 Z3
    go_upto_region 5 with fail
    go_cut [9] (fun p wx => MRel D w2 (setM (setM m s) t) p wx)
    case first =>
      have hS : C7 w.heap.size (.slice Am m.F.length cm) (.int .i64 s.no) (.slice A1 s.K.length c1) (.slice A2 s.V.length c2) (.int .i64 t.no) (.slice A3 t.K.length c3) (.slice A4 t.V.length c4) w2.drew := ⟨y1, ⟨p0, p1, p2⟩, q0, q1, q2⟩
      have hlt2 : w.heap.size + 2 < w2.heap.size := box_lt Z3
      have HC1 := Lib.hid (fun wx (hx : Below w2.heap.size w2 wx) => set_ow D m s _ _ _ wx (HM.out _ (below_then hb02 hx)) (HS.out _ (below_then hb02 hx)) (by have := B1.out; omega) (by have := B1.out; omega))
      have HC2 := Lib.hid (fun A c wx (hx : Below w2.heap.size w2 wx) (hq : MRd wx.heap.size wx (D + 1) (setM m s) (.slice A (setM m s).F.length c)) => set_ow D (setM m s) t _ _ _ wx hq (HT.out _ (below_then hb02 hx)) (by have := B1.out; omega) (by have := B1.out; omega))
      have LD : Below w2.heap.size w2 w2.drew := (Below.refl _ _).drew
      have LDA : Below w2.heap.size w2 (w2.alloc (.cells #[.slice none 0 0] 24)).drew := (below_new w2 _).trans (Below.refl _ _).drew
      have XA : (w2.alloc (.cells #[.slice none 0 0] 24)).drew.heap[w2.heap.size]? = some (.cells #[.slice none 0 0] 24 (0, 0)) := heap_alloc_new w2 (.cells #[.slice none 0 0] 24)
      have hSA : C7 w.heap.size (.slice Am m.F.length cm) (.int .i64 s.no) (.slice A1 s.K.length c1) (.slice A2 s.V.length c2) (.int .i64 t.no) (.slice A3 t.K.length c3) (.slice A4 t.V.length c4) (w2.alloc (.cells #[.slice none 0 0] 24)).drew := C7.on (w := w2) ⟨y1, ⟨p0, p1, p2⟩, q0, q1, q2⟩ LDA
      clear y1 p0 p1 p2 q0 q1 q2 Z1 Z2 Z3
      go_region_held3 (fun w' => w'.cell? ⟨w.heap.size, 0, none⟩ = some (.slice Am m.F.length cm) ∧ (w'.cell? ⟨w.heap.size + 1, 0, none⟩ = some (.int .i64 s.no) ∧ w'.cell? ⟨w.heap.size + 1, 1, none⟩ = some (.slice A1 s.K.length c1) ∧ w'.cell? ⟨w.heap.size + 1, 2, none⟩ = some (.slice A2 s.V.length c2)) ∧ w'.cell? ⟨w.heap.size + 1 + 1, 0, none⟩ = some (.int .i64 t.no) ∧ w'.cell? ⟨w.heap.size + 1 + 1, 1, none⟩ = some (.slice A3 t.K.length c3) ∧ w'.cell? ⟨w.heap.size + 1 + 1, 2, none⟩ = some (.slice A4 t.V.length c4))
        (first
          | exact hS
          | exact hSA
          | exact hS3
          | exact hS3.on (below_new _ _)
          | exact hS4
          | exact hS4.on (below_new _ _)
          | exact hS4.set (by omega)
          | exact (hS4.on (below_new _ _)).set (by omega)
          | go_keep)
        ((first
          | (go_at_call 16; (with_reducible refine (HC1.out _ (by first | exact LD | exact LDA)).mono ?_); rintro e w3 ⟨Aa, ca, rfl, ha, h1⟩
             have L3 : Below w2.heap.size w2 w3 := by first | exact below_then LD h1 | exact below_then LDA h1
             have hS3 : C7 w.heap.size (.slice Am m.F.length cm) (.int .i64 s.no) (.slice A1 s.K.length c1) (.slice A2 s.V.length c2) (.int .i64 t.no) (.slice A3 t.K.length c3) (.slice A4 t.V.length c4) w3 := by first | exact hS.on h1 | exact hSA.on h1
             have hlt3 : w.heap.size + 2 < w3.heap.size := Nat.lt_of_lt_of_le hlt2 L3.size
             try have XA3 := box_on XA h1
             try have kA := bx1 XA3
             try have fA := froz XA3 0)
          | (go_at_call 16; (with_reducible refine (HC2.out _ _ _ (by first | exact L3 | exact L3.alloc L3.size _) (by first | exact own_rd ha | exact rd_up (below_new w3 _) (own_rd ha))).mono ?_); rintro e w4 ⟨Ab, cb, rfl, hb, h2⟩
             have L4 : Below w2.heap.size w2 w4 := by first | exact below_then L3 h2 | exact below_then (L3.alloc L3.size _) h2
             have hS4 : C7 w.heap.size (.slice Am m.F.length cm) (.int .i64 s.no) (.slice A1 s.K.length c1) (.slice A2 s.V.length c2) (.int .i64 t.no) (.slice A3 t.K.length c3) (.slice A4 t.V.length c4) w4 := by first | exact hS3.on h2 | exact (hS3.on (below_new _ _)).on h2
             have hlt4 : w.heap.size + 2 < w4.heap.size := Nat.lt_of_lt_of_le hlt2 L4.size
             try have XA4 := box_on XA3 h2
             try have XA4 := box_on (heap_alloc_new w3 (.cells #[.slice none 0 0] 24)) h2
             try have kB := bx1 XA4
             try have fB := froz XA4 0)
          | fail))
      all_goals
        go_wp2_with fail
        go_meet
      all_goals first
        | exact rel_last hb L4
        | exact rel_set hb L4 XA4 L3.size (by simp)
        | exact rel_set hb L4 XA4 (Nat.le_refl _) (box_lt XA3)
    case rest =>
    obtain ⟨g9, A9, c9, rfl, X9, hm9, L9⟩ := hcut
    have hb0c := below_then hb02 L9
    have V1 := box_on Z1 L9
    have V2 := box_on Z2 L9
    have V3 := box_on Z3 L9
    clear y1 p0 p1 p2 q0 q1 q2 Z1 Z2 Z3 L9 hb02
    have Z1 := V1
    have Z2 := V2
    have Z3 := V3
    clear V1 V2 V3
    have y1 := bx1 Z1
    obtain ⟨p0, p1, p2⟩ := bx3 Z2
    obtain ⟨q0, q1, q2⟩ := bx3 Z3
    have HM9 := Lib.hid hm9
    clear hm9
    go_upto_region 6 with fail
    go_cut [10] (fun p wx => MRel D wc (setM (setM m t) s) p wx)
    case first =>
      have hS : C7 w.heap.size (.slice Am m.F.length cm) (.int .i64 s.no) (.slice A1 s.K.length c1) (.slice A2 s.V.length c2) (.int .i64 t.no) (.slice A3 t.K.length c3) (.slice A4 t.V.length c4) wc.drew := ⟨y1, ⟨p0, p1, p2⟩, q0, q1, q2⟩
      have hlt2 : w.heap.size + 2 < wc.heap.size := box_lt Z3
      have HC1 := Lib.hid (fun wx (hx : Below wc.heap.size wc wx) => set_ow D m t _ _ _ wx (HM.out _ (below_then hb0c hx)) (HT.out _ (below_then hb0c hx)) (by have := B1.out; omega) (by have := B1.out; omega))
      have HC2 := Lib.hid (fun A c wx (hx : Below wc.heap.size wc wx) (hq : MRd wx.heap.size wx (D + 1) (setM m t) (.slice A (setM m t).F.length c)) => set_ow D (setM m t) s _ _ _ wx hq (HS.out _ (below_then hb0c hx)) (by have := B1.out; omega) (by have := B1.out; omega))
      have LD : Below wc.heap.size wc wc.drew := (Below.refl _ _).drew
      have LDA : Below wc.heap.size wc (wc.alloc (.cells #[.slice none 0 0] 24)).drew := (below_new wc _).trans (Below.refl _ _).drew
      have XA : (wc.alloc (.cells #[.slice none 0 0] 24)).drew.heap[wc.heap.size]? = some (.cells #[.slice none 0 0] 24 (0, 0)) := heap_alloc_new wc (.cells #[.slice none 0 0] 24)
      have hSA : C7 w.heap.size (.slice Am m.F.length cm) (.int .i64 s.no) (.slice A1 s.K.length c1) (.slice A2 s.V.length c2) (.int .i64 t.no) (.slice A3 t.K.length c3) (.slice A4 t.V.length c4) (wc.alloc (.cells #[.slice none 0 0] 24)).drew := C7.on (w := wc) ⟨y1, ⟨p0, p1, p2⟩, q0, q1, q2⟩ LDA
      clear y1 p0 p1 p2 q0 q1 q2 Z1 Z2 Z3 X9
      go_region_held3 (fun w' => w'.cell? ⟨w.heap.size, 0, none⟩ = some (.slice Am m.F.length cm) ∧ (w'.cell? ⟨w.heap.size + 1, 0, none⟩ = some (.int .i64 s.no) ∧ w'.cell? ⟨w.heap.size + 1, 1, none⟩ = some (.slice A1 s.K.length c1) ∧ w'.cell? ⟨w.heap.size + 1, 2, none⟩ = some (.slice A2 s.V.length c2)) ∧ w'.cell? ⟨w.heap.size + 1 + 1, 0, none⟩ = some (.int .i64 t.no) ∧ w'.cell? ⟨w.heap.size + 1 + 1, 1, none⟩ = some (.slice A3 t.K.length c3) ∧ w'.cell? ⟨w.heap.size + 1 + 1, 2, none⟩ = some (.slice A4 t.V.length c4))
        (first
          | exact hS
          | exact hSA
          | exact hS3
          | exact hS3.on (below_new _ _)
          | exact hS4
          | exact hS4.on (below_new _ _)
          | exact hS4.set (by omega)
          | exact (hS4.on (below_new _ _)).set (by omega)
          | go_keep)
        ((first
          | (go_at_call 16; (with_reducible refine (HC1.out _ (by first | exact LD | exact LDA)).mono ?_); rintro e w3 ⟨Aa, ca, rfl, ha, h1⟩
             have L3 : Below wc.heap.size wc w3 := by first | exact below_then LD h1 | exact below_then LDA h1
             have hS3 : C7 w.heap.size (.slice Am m.F.length cm) (.int .i64 s.no) (.slice A1 s.K.length c1) (.slice A2 s.V.length c2) (.int .i64 t.no) (.slice A3 t.K.length c3) (.slice A4 t.V.length c4) w3 := by first | exact hS.on h1 | exact hSA.on h1
             have hlt3 : w.heap.size + 2 < w3.heap.size := Nat.lt_of_lt_of_le hlt2 L3.size
             try have XA3 := box_on XA h1
             try have kA := bx1 XA3
             try have fA := froz XA3 0)
          | (go_at_call 16; (with_reducible refine (HC2.out _ _ _ (by first | exact L3 | exact L3.alloc L3.size _) (by first | exact own_rd ha | exact rd_up (below_new w3 _) (own_rd ha))).mono ?_); rintro e w4 ⟨Ab, cb, rfl, hb, h2⟩
             have L4 : Below wc.heap.size wc w4 := by first | exact below_then L3 h2 | exact below_then (L3.alloc L3.size _) h2
             have hS4 : C7 w.heap.size (.slice Am m.F.length cm) (.int .i64 s.no) (.slice A1 s.K.length c1) (.slice A2 s.V.length c2) (.int .i64 t.no) (.slice A3 t.K.length c3) (.slice A4 t.V.length c4) w4 := by first | exact hS3.on h2 | exact (hS3.on (below_new _ _)).on h2
             have hlt4 : w.heap.size + 2 < w4.heap.size := Nat.lt_of_lt_of_le hlt2 L4.size
             try have XA4 := box_on XA3 h2
             try have XA4 := box_on (heap_alloc_new w3 (.cells #[.slice none 0 0] 24)) h2
             try have kB := bx1 XA4
             try have fB := froz XA4 0)
          | fail))
      all_goals
        go_wp2_with fail
        go_meet
      all_goals first
        | exact rel_last hb L4
        | exact rel_set hb L4 XA4 L3.size (by simp)
        | exact rel_set hb L4 XA4 (Nat.le_refl _) (box_lt XA3)
    case rest =>
    obtain ⟨g10, A10, c10, rfl, X10, hm10, L10⟩ := hcut
    have hb0d := below_then hb0c L10
    have z9 := bx1 (box_on X9 L10)
    have z10 := bx1 X10
    have ha := rd_up L10 HM9.out
    have v1 := cell_on L10 y1
    have r0 := cell_on L10 p0
    have r1 := cell_on L10 p1
    have r2 := cell_on L10 p2
    have t0 := cell_on L10 q0
    have t1 := cell_on L10 q1
    have t2 := cell_on L10 q2
    clear y1 p0 p1 p2 q0 q1 q2 Z1 Z2 Z3 X9 X10 L10 hb0c HM9
    by_cases hno : s.no = t.no
    · have hq : (s.no == t.no) = true := by simp [hno]
      have e1 : setM (setM m s) t = setM m t := set_set m s t hno.symm
      have e2 : setM (setM m t) s = setM m s := set_set m t s hno
      have H1 := Lib.hid (fun wx (hx : Below wc.heap.size wc wx) => set_rd D m t _ _ _ wx (HM.out _ (below_then hb0d hx)) (HT.out _ (below_then hb0d hx)) (by have := B1.out; omega) (by have := B1.out; omega))
      have H2 := Lib.hid (fun wx (hx : Below wc.heap.size wc wx) => set_rd D m s _ _ _ wx (HM.out _ (below_then hb0d hx)) (HS.out _ (below_then hb0d hx)) (by have := B1.out; omega) (by have := B1.out; omega))
      have H3 := Lib.hid (fun u wx (hx : Below wc.heap.size wc wx) (hq : MRd wx.heap.size wx (D + 1) (setM m t) u) => same_any9 wx.heap.size (D + 1) (setM (setM m s) t) (setM m t) _ u wx (Nat.le_refl _) (rd_up hx ha) hq)
      have H4 := Lib.hid (fun u wx (hx : Below wc.heap.size wc wx) (hq : MRd wx.heap.size wx (D + 1) (setM m s) u) => same_any9 wx.heap.size (D + 1) (setM (setM m t) s) (setM m s) _ u wx (Nat.le_refl _) (rd_up hx hm10) hq)
      rw [eqB_yes e1] at H3
      rw [eqB_yes e2] at H4
      clear hno e1 e2 ha hm10
      go_wp2_with fail
      have hS : C7 w.heap.size (.slice Am m.F.length cm) (.int .i64 s.no) (.slice A1 s.K.length c1) (.slice A2 s.V.length c2) (.int .i64 t.no) (.slice A3 t.K.length c3) (.slice A4 t.V.length c4) wc.drew := ⟨v1, ⟨r0, r1, r2⟩, t0, t1, t2⟩
      have hT : wc.drew.cell? ⟨g9, 0, none⟩ = some (.slice A9 (setM (setM m s) t).F.length c9) := z9
      have hU : wc.drew.cell? ⟨g10, 0, none⟩ = some (.slice A10 (setM (setM m t) s).F.length c10) := z10
      have L0 : Below wc.heap.size wc wc.drew := (Below.refl _ _).drew
      clear v1 r0 r1 r2 t0 t1 t2 z9 z10
      go_region_held3 (fun w' => (w'.cell? ⟨w.heap.size, 0, none⟩ = some (.slice Am m.F.length cm) ∧ (w'.cell? ⟨w.heap.size + 1, 0, none⟩ = some (.int .i64 s.no) ∧ w'.cell? ⟨w.heap.size + 1, 1, none⟩ = some (.slice A1 s.K.length c1) ∧ w'.cell? ⟨w.heap.size + 1, 2, none⟩ = some (.slice A2 s.V.length c2)) ∧ w'.cell? ⟨w.heap.size + 1 + 1, 0, none⟩ = some (.int .i64 t.no) ∧ w'.cell? ⟨w.heap.size + 1 + 1, 1, none⟩ = some (.slice A3 t.K.length c3) ∧ w'.cell? ⟨w.heap.size + 1 + 1, 2, none⟩ = some (.slice A4 t.V.length c4)) ∧ w'.cell? ⟨g9, 0, none⟩ = some (.slice A9 (setM (setM m s) t).F.length c9) ∧ w'.cell? ⟨g10, 0, none⟩ = some (.slice A10 (setM (setM m t) s).F.length c10))
        (first
          | exact ⟨hS, hT, hU⟩
          | exact ⟨hS.on h1, cell_on h1 hT, cell_on h1 hU⟩
          | exact ⟨(hS.on h1).on h2, cell_on h2 (cell_on h1 hT), cell_on h2 (cell_on h1 hU)⟩
          | exact ⟨((hS.on h1).on h2).on h3, cell_on h3 (cell_on h2 (cell_on h1 hT)), cell_on h3 (cell_on h2 (cell_on h1 hU))⟩
          | exact ⟨(((hS.on h1).on h2).on h3).on h4, cell_on h4 (cell_on h3 (cell_on h2 (cell_on h1 hT))), cell_on h4 (cell_on h3 (cell_on h2 (cell_on h1 hU)))⟩
          | go_keep)
        ((first
          | (go_at_call 16; (with_reducible refine (H1.out _ L0).mono ?_); rintro e w11 ⟨Ar, cr, rfl, hr1, h1⟩; have L1 := below_then L0 h1)
          | (go_at_call 18; (with_reducible refine (H3.out _ _ L1 hr1).mono ?_); rintro e w12 ⟨rfl, h2⟩; have L2 := below_then L1 h2)
          | (go_at_call 16; (with_reducible refine (H2.out _ L2).mono ?_); rintro e w13 ⟨As, cs, rfl, hr2, h3⟩; have L3 := below_then L2 h3)
          | (go_at_call 18; (with_reducible refine (H4.out _ _ L3 hr2).mono ?_); rintro e w14 ⟨rfl, h4⟩; have L4 := below_then L3 h4)
          | fail))
      all_goals
        go_wp2
        go_ret
        exact ⟨rfl, below_then hb0d L4⟩
    · have hq : (s.no == t.no) = false := by simp [hno]
      have HR := Lib.hid (rising_any wc.heap.size D m _ wc (Nat.le_refl _) (HM.out _ hb0d))
      have HE := Lib.hid (fun h => eqB_yes (two_sets (m := m) hno h))
      have H3 := Lib.hid (fun wx (hx : Below wc.heap.size wc wx) => same_any9 wc.heap.size (D + 1) (setM (setM m s) t) (setM (setM m t) s) _ _ wx hx.size (rd_on hx (Nat.le_refl _) ha) (rd_on hx (Nat.le_refl _) hm10))
      clear hno ha hm10
      go_wp2_with fail
      refine HR.out.mono ?_
      rintro e w6 ⟨r, rfl, hri, hb6⟩
      have z9' := cell_on hb6 z9
      have z10' := cell_on hb6 z10
      clear v1 r0 r1 r2 t0 t1 t2 z9 z10
      cases r with
      | false =>
        go_wp2
        go_ret
        exact ⟨rfl, below_then hb0d hb6⟩
      | true =>
        have e := HE.out (hri rfl)
        rw [e] at H3
        clear hri e
        go_wp2_with fail
        refine (H3.out _ hb6).mono ?_
        rintro e w7 ⟨rfl, hb7⟩
        go_wp2
        go_ret
        exact ⟨rfl, below_then (below_then hb0d hb6) hb7⟩
theorem contract (H : Type) (enc : TypeId × Value → H) (W : World) (base : Nat) (args : Array Value) (ds gs : List (DataW H)) (before : List MemPlace)
    (hval0 : ∀ (j : Nat) t v, Try.f8.params[j]? = some t → args[j]? = some v → Value.okWide Try.prog W .any base t v)
    (hW : DataW.Whole enc Try.prog Try.f8.params.toList Rows.valueTwoSpec.vars false W args.toList ds gs before) (hsz : (DataW.weightsEach Try.prog (Try.f8.params.toList ++ (OpenSpec.ofChange Rows.valueTwoSpec).bare.plain.varTypes Try.prog) (ds ++ gs)).all (· ≤ reachBytes) = true) (hL : laidMetH Try.prog Rows.valueTwoRow.laid W) :
    Calls Try.prog 8 args W fun e W2 => ∃ v, e = .returned v ∧ Rows.valueTwoSpec.post enc Try.prog Try.f8 false true false false W args v W2 := by
  have hval : ∀ (j : Nat) t v, Try.f8.params[j]? = some t → args[j]? = some v → Value.okWide Try.prog W .any base t v := hval0
  have hW2 := hW
  obtain ⟨p, q, hA0, hV, rfl, hfz, hnd⟩ := hW
  have hA : DataW.TrodAll enc Try.prog W 0 (fun _ => true) true Try.f8.params.toList args.toList ds p := hA0
  rw [Try.params8] at hA hval
  obtain ⟨v0, vs0, d0, ds0, p0, q0, hargs, rfl, rfl, h0, r0⟩ := trodAll_cons hA
  obtain ⟨v1, vs1, d1, ds1, p1, q1, rfl, rfl, rfl, h1, r1⟩ := trodAll_cons r0
  obtain ⟨v2, vs2, d2, ds2, p2, q2, rfl, rfl, rfl, h2, r2⟩ := trodAll_cons r1
  obtain ⟨rfl, rfl, rfl⟩ := trodAll_nil r2
  obtain rfl : args = #[v0, v1, v2] := by cases args; simp_all
  obtain ⟨rfl, rfl⟩ := trodVars_none hV
  obtain ⟨mg0, u0, k0, rfl, hm0⟩ := open_msg (hval 0 24 v0 rfl rfl) h0 (szd_each (fun k hk => of_decide_eq_true (List.all_eq_true.1 hsz k hk)) 0 _ _ rfl rfl)
  obtain ⟨sl1, u1, t1, k1, rfl, hm1⟩ := open_sl (hval 1 27 v1 rfl rfl) h1 (szd_each (fun k hk => of_decide_eq_true (List.all_eq_true.1 hsz k hk)) 1 _ _ rfl rfl)
  obtain ⟨sl2, u2, t2, k2, rfl, hm2⟩ := open_sl (hval 2 27 v2 rfl rfl) h2 (szd_each (fun k hk => of_decide_eq_true (List.all_eq_true.1 hsz k hk)) 2 _ _ rfl rfl)
  refine (walk W mg0 u0 k0 hm0 sl1 u1 t1 k1 hm1 sl2 u2 t2 k2 hm2).mono fun e W2 ⟨he, hb⟩ => ?_
  subst he
  exact ⟨_, rfl, law_post (by kernel_rfl) rfl rfl (by decide +kernel) hW2 hb⟩
theorem laid_met (os : Os) : laidMetH Try.prog Rows.valueTwoRow.laid ((World.laidAll Try.prog os Rows.valueTwoRow.laid).forCall (fun _ _ => 0) ⟨#[], #[.agg #[.slice none 0 0], .agg #[.int .i64 0, .slice none 0 0, .slice none 0 0], .agg #[.int .i64 0, .slice none 0 0, .slice none 0 0]], []⟩).memory := by
  rw [MakeChecks.laidMetH_plain _ _ _ (by kernel_rfl)]
  exact laidMet_laidAll _ (by kernel_rfl) (by kernel_rfl)
theorem reads (os : Os) {H : Type} (enc : TypeId × Value → H) : ∃ places, DataW.whole enc Try.prog ((World.laidAll Try.prog os Rows.valueTwoRow.laid).forCall (fun _ _ => 0) ⟨#[], #[.agg #[.slice none 0 0], .agg #[.int .i64 0, .slice none 0 0, .slice none 0 0], .agg #[.int .i64 0, .slice none 0 0, .slice none 0 0]], []⟩).memory Try.f8.params.toList Rows.valueTwoSpec.vars false (#[.agg #[.slice none 0 0], .agg #[.int .i64 0, .slice none 0 0, .slice none 0 0], .agg #[.int .i64 0, .slice none 0 0, .slice none 0 0]] : Array Value).toList 8 = some ([.agg [.nil], .agg [.lit (.int .i64 0), .nil, .nil], .agg [.lit (.int .i64 0), .nil, .nil]], [], places) := ⟨[], by kernel_rfl⟩
set_option maxRecDepth 100000 in
theorem lifted (os : Os) (started : os.Started) (H : Type) (enc : TypeId × Value → H) (F : Stop.Interp) :
    ReturnsInHanded {} Try.checked os 8 .any ((OpenSpec.ofChange Rows.valueTwoSpec).preRow enc Try.prog Try.f8 Rows.valueTwoRow.domain false Rows.valueTwoRow.laid) (((OpenSpec.ofChange Rows.valueTwoSpec).at F).post enc Try.prog Try.f8 false true false false) := by
  obtain ⟨places, hx⟩ := reads os enc
  refine returnsInHanded_of_row (C := Try.checked) (s := OpenSpec.ofChange Rows.valueTwoSpec) own started (by kernel_rfl) Try.func8
    (witness_row_at (enc := enc) (C := Try.checked) false (World.laidAll Try.prog os Rows.valueTwoRow.laid) #[.agg #[.slice none 0 0], .agg #[.int .i64 0, .slice none 0 0, .slice none 0 0], .agg #[.int .i64 0, .slice none 0 0, .slice none 0 0]] (World.laidAll_os _ _ _) (by kernel_rfl) (by kernel_rfl) (by kernel_rfl)
      (OpenSpec.preRow_of_cond 8 hx (by kernel_rfl) (fun k hk => by cases hk) (by kernel_rfl) (laid_met os))) ?_
  intro W base args ds gs before hval hW _ _ hsz hL _ _
  exact contract H enc W base args ds gs before hval hW hsz hL
theorem said : Rows.ValueTwoSaid :=
  OpenClaim.holds_of_cond 8 Try.f8 rfl rfl rfl rfl rfl rfl rfl ⟨rfl, rfl, rfl, rfl, rfl⟩ rfl rfl rfl rfl rfl (by kernel_rfl) Try.func8 (by kernel_rfl)
    (of_decide_eq_true (by kernel_rfl)) (by unfold Func.isWrapper; first | (rw [if_pos (by decide +kernel)]; kernel_rfl) | (rw [if_neg (by decide +kernel)]; exact ⟨rfl, rfl⟩))
    (fun os started H enc _ F => by rw [OpenClaim.pre_eq_preRow]; exact lifted os started H enc F)
theorem proved : Rows.ValueTwoSaid := said

end Go.Proofs.Ytaepmccfiliiiaa.lawValueTwo
