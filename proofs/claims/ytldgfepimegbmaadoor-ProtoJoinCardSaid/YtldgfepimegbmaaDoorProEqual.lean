/-
  Rows are held against each other, element by element: the contracts.
-/
import Derived.Test.YtldgfepimegbmaaDoorProSame
namespace Go.Proofs.YtldgfepimegbmaaDoor
set_option maxRecDepth 100000
open Go.RowKit

def EqRel {α : Type} (f : α → α → Bool) (l m : List α) (w : World) (i : Value) (wr : World) : Prop := ∃ k : Nat, i = .int .i64 k ∧ k ≤ l.length ∧ (∀ (j : Nat) (a b : α), j < k → l[j]? = some a → m[j]? = some b → f a b = true) ∧ Below w.heap.size w wr
theorem EqRel.mk {α : Type} {f : α → α → Bool} {l m : List α} {w wr : World} {i : Value} (k : Nat) (h1 : i = .int .i64 k) (h2 : k ≤ l.length) (h3 : ∀ (j : Nat) (a b : α), j < k → l[j]? = some a → m[j]? = some b → f a b = true) (h4 : Below w.heap.size w wr) : EqRel f l m w i wr := ⟨k, h1, h2, h3, h4⟩
theorem eq_next {α : Type} {f : α → α → Bool} {l m : List α} {k : Nat} {a b : α} (ha : l[k]? = some a) (hb : m[k]? = some b) (h : f a b = true) (h3 : ∀ (j : Nat) (a b : α), j < k → l[j]? = some a → m[j]? = some b → f a b = true) : ∀ (j : Nat) (a b : α), j < k + 1 → l[j]? = some a → m[j]? = some b → f a b = true := by
  intro j x y hj hx hy
  rcases Nat.lt_or_ge j k with h1 | h1
  · exact h3 j x y h1 hx hy
  · obtain rfl : j = k := by omega
    rw [ha] at hx
    rw [hb] at hy
    cases hx; cases hy; exact h
def fnOf (k : Nat) : Value := .func (.func k) #[] #[]
set_option maxHeartbeats 4000000 in
theorem eqfd_any (v v' : Value) (l m : List Fd) (w : World) (h1 : w.ownsRow 0 36 7 v l.length (fdv l)) (h2 : w.ownsRow 0 36 7 v' m.length (fdv m)) (hl : l.length ≤ 1000000) :
    Calls Tryd.prog 32 #[v, v', fnOf 33] w fun e w' => e = .returned (.bool (alike sameFd l m)) ∧ Below w.heap.size w w' := by
  have HV : Hid (fnOf 33 = .func (.func 33) #[] #[]) := Lib.hid rfl
  rw [HV.out]
  obtain ⟨A, c, e1, -⟩ := Sl.of_own h1
  obtain ⟨A', c', e2, -⟩ := Sl.of_own h2
  subst e1 e2
  have H1 := Lib.hid h1
  have H2 := Lib.hid h2
  clear h1 h2
  by_cases hlen : l.length = m.length
  · have hb : ((l.length : Int) != (m.length : Int)) = false := by simp [hlen]
    go_enter Tryd.func32, Tryd.ntmps32
    have HL := Lib.hid hlen
    clear hlen
    go_wp2
    clear hb
    go_loopw [17] (fun i wr => EqRel sameFd l m w i wr) (fun i _ => l.length - (intOf i).toNat)
    case atStart => exact EqRel.mk 0 rfl (by omega) (fun j a b hj => absurd hj (by omega)) (Below.refl _ _)
    case round =>
      obtain ⟨k, rfl, hk, hall, hb⟩ := hrel
      have HA := Lib.hid hall
      have HB := Lib.hid hb
      have hsz := hb.size
      clear hall hb
      by_cases hlt : k < l.length
      · have hlm : k < m.length := by have := HL.out; omega
        obtain ⟨a, ha⟩ : ∃ a, l[k]? = some a := ⟨_, List.getElem?_eq_getElem hlt⟩
        obtain ⟨b, hbk⟩ : ∃ b, m[k]? = some b := ⟨_, List.getElem?_eq_getElem hlm⟩
        obtain ⟨g, cap, hv, hg, c0, c1, c2, c3, c4, c5, c6⟩ := fd_at (own_below H1.out HB.out) ha
        injection hv with hA1 hn1 hc1
        subst hA1 hc1
        obtain ⟨g', cap', hv', hg', d0, d1, d2, d3, d4, d5, d6⟩ := fd_at (own_below H2.out HB.out) hbk
        injection hv' with hA2 hn2 hc2
        subst hA2 hc2
        have HAK := Lib.hid ha
        have HBK := Lib.hid hbk
        clear ha hbk
        have HC := Lib.hid (samefd_any a b ((wr.alloc (.cells #[.string (txt a.type), .string (txt a.key), .bool a.rep, .int .i64 a.one, .string (txt a.name), .int .i64 a.no, .int .i64 a.at_] 36)).alloc (.cells #[.string (txt b.type), .string (txt b.key), .bool b.rep, .int .i64 b.one, .string (txt b.name), .int .i64 b.no, .int .i64 b.at_] 36)))
        change Hid (Calls _ _ #[.agg #[.string (txt a.type), .string (txt a.key), .bool a.rep, .int .i64 a.one, .string (txt a.name), .int .i64 a.no, .int .i64 a.at_], .agg #[.string (txt b.type), .string (txt b.key), .bool b.rep, .int .i64 b.one, .string (txt b.name), .int .i64 b.no, .int .i64 b.at_]] _ _) at HC
        clear hn1 hn2
        cases hs : sameFd a b
        · rw [hs] at HC
          have HF := Lib.hid (alike_no HAK.out HBK.out hs)
          clear hs
          go_wp2_with fail
          refine HC.out.mono ?_
          rintro e w8 ⟨rfl, hb8⟩
          go_wp2
          go_ret
          exact ⟨by rw [HF.out]; rfl, HB.out.trans ((below_lit (below_new _ _) _ |>.trans (hb8.mono (by simp; omega))).mono hsz)⟩
        · rw [hs] at HC
          have HN := Lib.hid (eq_next HAK.out HBK.out hs HA.out)
          clear hs
          go_wp2_with fail
          refine HC.out.mono ?_
          rintro e w8 ⟨rfl, hb8⟩
          go_wp2
          exact ⟨EqRel.mk (k + 1) (by go_num) (by omega) HN.out (HB.out.trans ((below_lit (below_new _ _) _ |>.trans (hb8.mono (by simp; omega))).mono hsz)), by simp [intOf]; omega⟩
      · obtain rfl : k = l.length := by omega
        have HF := Lib.hid (alike_all (f := sameFd) HL.out (fun j a b ha hb => HA.out j a b (List.getElem?_eq_some_iff.1 ha).1 ha hb))
        go_wp2
        go_ret
        exact ⟨by rw [HF.out]; rfl, HB.out⟩
  · have hb : ((l.length : Int) != (m.length : Int)) = true := by rw [bne_iff_ne]; omega
    have HF := Lib.hid (alike_ne (f := sameFd) hlen)
    clear hlen
    go_enter Tryd.func32, Tryd.ntmps32
    go_wp2
    go_ret
    exact ⟨by rw [HF.out]; rfl, Below.refl _ _⟩
set_option maxHeartbeats 2000000 in
theorem samevl_any (a b : Vl) (w : World) : Calls Tryd.prog 37 #[.agg #[.string (txt a.name), .int .i64 a.n, .int .i64 a.at_], .agg #[.string (txt b.name), .int .i64 b.n, .int .i64 b.at_]] w fun e w' => e = .returned (.bool (sameVl a b)) ∧ Below w.heap.size w w' := by
  obtain ⟨a1, a2, a3⟩ := a
  obtain ⟨b1, b2, b3⟩ := b
  simp only
  by_cases heq : Vl.bare ⟨a1, a2, a3⟩ = Vl.bare ⟨b1, b2, b3⟩
  · have HF : Hid (sameVl ⟨a1, a2, a3⟩ ⟨b1, b2, b3⟩ = true) := Lib.hid (decide_eq_true heq)
    simp only [Vl.bare, Vl.mk.injEq] at heq
    obtain ⟨rfl, rfl, _⟩ := heq
    go_enter Tryd.func37, Tryd.ntmps37
    go_wp2
    go_ret
    exact ⟨by rw [HF.out]; first | rfl | simp, below_lit (below_new _ _) _⟩
  · have HF : Hid (sameVl ⟨a1, a2, a3⟩ ⟨b1, b2, b3⟩ = false) := Lib.hid (decide_eq_false heq)
    have hd : (((txt a1).toList == (txt b1).toList) = false) ∨ (a1 = b1 ∧ (a2 == b2) = false) := by
      simp only [Vl.bare, Vl.mk.injEq] at heq
      by_cases e1 : a1 = b1
      · right
        refine ⟨e1, ?_⟩
        rw [beq_eq_false_iff_ne]
        intro e2
        exact heq ⟨e1, e2, trivial⟩
      · left; exact txt_ne e1
    clear heq
    rcases hd with d1 | ⟨rfl, d2⟩
    all_goals
      go_enter Tryd.func37, Tryd.ntmps37
      go_wp2
      go_ret
      exact ⟨by rw [HF.out]; first | rfl | simp, below_lit (below_new _ _) _⟩
set_option maxHeartbeats 4000000 in
theorem eqvl_any (v v' : Value) (l m : List Vl) (w : World) (h1 : w.ownsRow 0 83 3 v l.length (vlv l)) (h2 : w.ownsRow 0 83 3 v' m.length (vlv m)) (hl : l.length ≤ 1000000) :
    Calls Tryd.prog 36 #[v, v', fnOf 37] w fun e w' => e = .returned (.bool (alike sameVl l m)) ∧ Below w.heap.size w w' := by
  have HV : Hid (fnOf 37 = .func (.func 37) #[] #[]) := Lib.hid rfl
  rw [HV.out]
  obtain ⟨A, c, e1, -⟩ := Sl.of_own h1
  obtain ⟨A', c', e2, -⟩ := Sl.of_own h2
  subst e1 e2
  have H1 := Lib.hid h1
  have H2 := Lib.hid h2
  clear h1 h2
  by_cases hlen : l.length = m.length
  · have hb : ((l.length : Int) != (m.length : Int)) = false := by simp [hlen]
    go_enter Tryd.func36, Tryd.ntmps36
    have HL := Lib.hid hlen
    clear hlen
    go_wp2
    clear hb
    go_loopw [17] (fun i wr => EqRel sameVl l m w i wr) (fun i _ => l.length - (intOf i).toNat)
    case atStart => exact EqRel.mk 0 rfl (by omega) (fun j a b hj => absurd hj (by omega)) (Below.refl _ _)
    case round =>
      obtain ⟨k, rfl, hk, hall, hb⟩ := hrel
      have HA := Lib.hid hall
      have HB := Lib.hid hb
      have hsz := hb.size
      clear hall hb
      by_cases hlt : k < l.length
      · have hlm : k < m.length := by have := HL.out; omega
        obtain ⟨a, ha⟩ : ∃ a, l[k]? = some a := ⟨_, List.getElem?_eq_getElem hlt⟩
        obtain ⟨b, hbk⟩ : ∃ b, m[k]? = some b := ⟨_, List.getElem?_eq_getElem hlm⟩
        obtain ⟨g, cap, hv, hg, c0, c1, c2⟩ := vl_at (own_below H1.out HB.out) ha
        injection hv with hA1 hn1 hc1
        subst hA1 hc1
        obtain ⟨g', cap', hv', hg', d0, d1, d2⟩ := vl_at (own_below H2.out HB.out) hbk
        injection hv' with hA2 hn2 hc2
        subst hA2 hc2
        have HAK := Lib.hid ha
        have HBK := Lib.hid hbk
        clear ha hbk
        have HC := Lib.hid (samevl_any a b ((wr.alloc (.cells #[.string (txt a.name), .int .i64 a.n, .int .i64 a.at_] 83)).alloc (.cells #[.string (txt b.name), .int .i64 b.n, .int .i64 b.at_] 83)))
        change Hid (Calls _ _ #[.agg #[.string (txt a.name), .int .i64 a.n, .int .i64 a.at_], .agg #[.string (txt b.name), .int .i64 b.n, .int .i64 b.at_]] _ _) at HC
        clear hn1 hn2
        cases hs : sameVl a b
        · rw [hs] at HC
          have HF := Lib.hid (alike_no HAK.out HBK.out hs)
          clear hs
          go_wp2_with fail
          refine HC.out.mono ?_
          rintro e w8 ⟨rfl, hb8⟩
          go_wp2
          go_ret
          exact ⟨by rw [HF.out]; rfl, HB.out.trans ((below_lit (below_new _ _) _ |>.trans (hb8.mono (by simp; omega))).mono hsz)⟩
        · rw [hs] at HC
          have HN := Lib.hid (eq_next HAK.out HBK.out hs HA.out)
          clear hs
          go_wp2_with fail
          refine HC.out.mono ?_
          rintro e w8 ⟨rfl, hb8⟩
          go_wp2
          exact ⟨EqRel.mk (k + 1) (by go_num) (by omega) HN.out (HB.out.trans ((below_lit (below_new _ _) _ |>.trans (hb8.mono (by simp; omega))).mono hsz)), by simp [intOf]; omega⟩
      · obtain rfl : k = l.length := by omega
        have HF := Lib.hid (alike_all (f := sameVl) HL.out (fun j a b ha hb => HA.out j a b (List.getElem?_eq_some_iff.1 ha).1 ha hb))
        go_wp2
        go_ret
        exact ⟨by rw [HF.out]; rfl, HB.out⟩
  · have hb : ((l.length : Int) != (m.length : Int)) = true := by rw [bne_iff_ne]; omega
    have HF := Lib.hid (alike_ne (f := sameVl) hlen)
    clear hlen
    go_enter Tryd.func36, Tryd.ntmps36
    go_wp2
    go_ret
    exact ⟨by rw [HF.out]; rfl, Below.refl _ _⟩
theorem take_next2 {α : Type} {l m : List α} {k : Nat} {x : α} (hx : l[k]? = some x) (hy : m[k]? = some x) (h : l.take k = m.take k) : l.take (k + 1) = m.take (k + 1) := by
  rw [List.take_add_one, List.take_add_one, h, hx, hy]
set_option maxHeartbeats 4000000 in
theorem eqstr_any (v v' : Value) (l m : List (List UInt8)) (w : World) (h1 : w.ownsRow 0 9 1 v l.length (strv l)) (h2 : w.ownsRow 0 9 1 v' m.length (strv m)) (hl : l.length ≤ 1000000) :
    Calls Tryd.prog 34 #[v, v'] w fun e w' => e = .returned (.bool (decide (l = m))) ∧ Below w.heap.size w w' := by
  obtain ⟨A, c, e1, -⟩ := Sl.of_own h1
  obtain ⟨A', c', e2, -⟩ := Sl.of_own h2
  subst e1 e2
  have H1 := Lib.hid h1
  have H2 := Lib.hid h2
  clear h1 h2
  by_cases hlen : l.length = m.length
  · have hb : ((l.length : Int) != (m.length : Int)) = false := by simp [hlen]
    go_enter Tryd.func34, Tryd.ntmps34
    have HL := Lib.hid hlen
    clear hlen
    go_wp2
    clear hb
    go_loopw [13] (fun i wr => ∃ k d : Nat, i = .int .i64 k ∧ k ≤ l.length ∧ l.take k = m.take k ∧ wr = w.drewN d) (fun i _ => l.length - (intOf i).toNat)
    case atStart => exact ⟨0, 0, rfl, by omega, rfl, rfl⟩
    case round =>
      obtain ⟨k, d, rfl, hk, ht, rfl⟩ := hrel
      have HT := Lib.hid ht
      clear ht
      by_cases hlt : k < l.length
      · have hlm : k < m.length := by have := HL.out; omega
        obtain ⟨a, ha⟩ : ∃ a, l[k]? = some a := ⟨_, List.getElem?_eq_getElem hlt⟩
        obtain ⟨b, hbk⟩ : ∃ b, m[k]? = some b := ⟨_, List.getElem?_eq_getElem hlm⟩
        obtain ⟨g, cap, hv, hg, c0⟩ := strrow_at H1.out ha
        injection hv with hA1 hn1 hc1
        subst hA1 hc1
        obtain ⟨g', cap', hv', hg', d0⟩ := strrow_at H2.out hbk
        injection hv' with hA2 hn2 hc2
        subst hA2 hc2
        have HAK := Lib.hid ha
        have HBK := Lib.hid hbk
        clear ha hbk hn1 hn2
        by_cases hab : a = b
        · subst hab
          go_wp2
          go_quiet (fail)
          go_wp2
          exact ⟨⟨k + 1, d + nq, by go_num, by omega, take_next2 HAK.out HBK.out HT.out, rfl⟩, by simp [intOf]; omega⟩
        · have HF : Hid (decide (l = m) = false) := Lib.hid (decide_eq_false (by rintro rfl; have := HAK.out.symm.trans HBK.out; exact hab (by injection this)))
          have hne : ((txt a).toList == (txt b).toList) = false := txt_ne hab
          clear hab
          go_wp2
          go_quiet (fail)
          go_wp2
          go_ret
          exact ⟨by rw [HF.out]; rfl, (by repeat (first | exact Below.refl _ _ | assumption | refine below_draws ?_ _ | refine Below.drew ?_))⟩
      · obtain rfl : k = l.length := by omega
        have HF : Hid (decide (l = m) = true) := Lib.hid (decide_eq_true (by
          have h := HT.out
          rw [List.take_length, HL.out, List.take_length] at h
          exact h))
        go_wp2
        go_ret
        exact ⟨by rw [HF.out]; rfl, (by repeat (first | exact Below.refl _ _ | assumption | refine below_draws ?_ _ | refine Below.drew ?_))⟩
  · have hb : ((l.length : Int) != (m.length : Int)) = true := by rw [bne_iff_ne]; omega
    have HF : Hid (decide (l = m) = false) := Lib.hid (decide_eq_false (by rintro rfl; exact hlen rfl))
    clear hlen
    go_enter Tryd.func34, Tryd.ntmps34
    go_wp2
    go_ret
    exact ⟨by rw [HF.out]; rfl, Below.refl _ _⟩
set_option maxHeartbeats 4000000 in
theorem eqint_any (v v' : Value) (l m : List Int) (w : World) (h1 : w.ownsRow 0 2 1 v l.length (intv l)) (h2 : w.ownsRow 0 2 1 v' m.length (intv m)) (hl : l.length ≤ 1000000) :
    Calls Tryd.prog 35 #[v, v'] w fun e w' => e = .returned (.bool (decide (l = m))) ∧ Below w.heap.size w w' := by
  obtain ⟨A, c, e1, -⟩ := Sl.of_own h1
  obtain ⟨A', c', e2, -⟩ := Sl.of_own h2
  subst e1 e2
  have H1 := Lib.hid h1
  have H2 := Lib.hid h2
  clear h1 h2
  by_cases hlen : l.length = m.length
  · have hb : ((l.length : Int) != (m.length : Int)) = false := by simp [hlen]
    go_enter Tryd.func35, Tryd.ntmps35
    have HL := Lib.hid hlen
    clear hlen
    go_wp2
    clear hb
    go_loopw [13] (fun i wr => ∃ k d : Nat, i = .int .i64 k ∧ k ≤ l.length ∧ l.take k = m.take k ∧ wr = w.drewN d) (fun i _ => l.length - (intOf i).toNat)
    case atStart => exact ⟨0, 0, rfl, by omega, rfl, rfl⟩
    case round =>
      obtain ⟨k, d, rfl, hk, ht, rfl⟩ := hrel
      have HT := Lib.hid ht
      clear ht
      by_cases hlt : k < l.length
      · have hlm : k < m.length := by have := HL.out; omega
        obtain ⟨a, ha⟩ : ∃ a, l[k]? = some a := ⟨_, List.getElem?_eq_getElem hlt⟩
        obtain ⟨b, hbk⟩ : ∃ b, m[k]? = some b := ⟨_, List.getElem?_eq_getElem hlm⟩
        obtain ⟨g, cap, hv, hg, c0⟩ := int_at H1.out ha
        injection hv with hA1 hn1 hc1
        subst hA1 hc1
        obtain ⟨g', cap', hv', hg', d0⟩ := int_at H2.out hbk
        injection hv' with hA2 hn2 hc2
        subst hA2 hc2
        have HAK := Lib.hid ha
        have HBK := Lib.hid hbk
        clear ha hbk hn1 hn2
        by_cases hab : a = b
        · subst hab
          go_wp2
          go_quiet (fail)
          go_wp2
          exact ⟨⟨k + 1, d + nq, by go_num, by omega, take_next2 HAK.out HBK.out HT.out, rfl⟩, by simp [intOf]; omega⟩
        · have HF : Hid (decide (l = m) = false) := Lib.hid (decide_eq_false (by rintro rfl; have := HAK.out.symm.trans HBK.out; exact hab (by injection this)))
          have hne : (a == b) = false := by rw [beq_eq_false_iff_ne]; exact hab
          clear hab
          go_wp2
          go_quiet (fail)
          go_wp2
          go_ret
          exact ⟨by rw [HF.out]; rfl, (by repeat (first | exact Below.refl _ _ | assumption | refine below_draws ?_ _ | refine Below.drew ?_))⟩
      · obtain rfl : k = l.length := by omega
        have HF : Hid (decide (l = m) = true) := Lib.hid (decide_eq_true (by
          have h := HT.out
          rw [List.take_length, HL.out, List.take_length] at h
          exact h))
        go_wp2
        go_ret
        exact ⟨by rw [HF.out]; rfl, (by repeat (first | exact Below.refl _ _ | assumption | refine below_draws ?_ _ | refine Below.drew ?_))⟩
  · have hb : ((l.length : Int) != (m.length : Int)) = true := by rw [bne_iff_ne]; omega
    have HF : Hid (decide (l = m) = false) := Lib.hid (decide_eq_false (by rintro rfl; exact hlen rfl))
    clear hlen
    go_enter Tryd.func35, Tryd.ntmps35
    go_wp2
    go_ret
    exact ⟨by rw [HF.out]; rfl, Below.refl _ _⟩
end Go.Proofs.YtldgfepimegbmaaDoor
