/-
  Two schemas are held against each other: the contracts.
-/
import Derived.Test.YtciiemomfniecaaGreatDoorTabMay
import Derived.Test.YtciiemomfniecaaGreatDoorRawOpen
import Derived.BigQuiet
namespace Go.Proofs.YtciiemomfniecaaGreatDoor
set_option maxRecDepth 100000

open Go.RowKit Go.Maps

theorem takeN {α : Type} {l m : List α} {k : Nat} {x : α} (hx : l[k]? = some x) (hy : m[k]? = some x) (h : l.take k = m.take k) : l.take (k + 1) = m.take (k + 1) := by
  rw [List.take_add_one, List.take_add_one, h, hx, hy]
theorem takeE {α : Type} {l m : List α} (hl : l.length = m.length) (h : l.take l.length = m.take l.length) : l = m := by
  rw [List.take_length, hl, List.take_length] at h
  exact h
theorem ne_at {α : Type} [DecidableEq α] {l m : List α} {k : Nat} {x y : α} (hx : l[k]? = some x) (hy : m[k]? = some y) (hne : x ≠ y) : decide (l = m) = false :=
  decide_eq_false (by rintro rfl; rw [hx] at hy; exact hne (by injection hy))
theorem ne_len {α : Type} [DecidableEq α] {l m : List α} (h : l.length ≠ m.length) : decide (l = m) = false := decide_eq_false (by rintro rfl; exact h rfl)
theorem lenI {a b : Nat} (h : a = b) : ((a : Int) != (b : Int)) = false := by simp [h]
theorem lenN {a b : Nat} (h : a ≠ b) : ((a : Int) != (b : Int)) = true := by rw [bne_iff_ne]; omega
set_option maxRecDepth 1000000 in
set_option maxHeartbeats 4000000 in
theorem eqDf_any (A A' : Option Addr) (c c' : Nat) (l m : List Df) (w : World) (h1 : Sl w A l.length c 7 (dfv l)) (h2 : Sl w A' m.length c' 7 (dfv m)) :
    Calls Tryz.prog 103 #[.slice A l.length c, .slice A' m.length c'] w fun e w' => e = .returned (.bool (decide (l = m))) ∧ Below w.heap.size w w' := by
  have hsm : l.length ≤ 9223372036854775807 := by have h3 := h1.le; have h2 := h1.cap; unfold maxLen at h2; omega
  have H1 := Lib.hid h1
  have H2 := Lib.hid h2
  clear h1 h2
  by_cases hlen : l.length = m.length
  · have hb := lenI hlen
    go_enter Tryz.func103, Tryz.ntmps103
    have HL := Lib.hid hlen
    clear hlen
    go_wp2
    clear hb
    go_loopw [13] (fun i wr => ∃ k d : Nat, i = .int .i64 k ∧ k ≤ l.length ∧ l.take k = m.take k ∧ wr = w.drewN d) (fun i _ => l.length - (intOf i).toNat)
    case atStart => exact ⟨0, 0, rfl, by omega, rfl, rfl⟩
    case round =>
      obtain ⟨k, d, rfl, hk, ht, rfl⟩ := hrel
      have HT := Lib.hid ht
      clear ht
      by_cases hlt : k < l.length
      · have hlm : k < m.length := by have := HL.out; omega
        obtain ⟨a, ha⟩ : ∃ a, l[k]? = some a := ⟨_, List.getElem?_eq_getElem hlt⟩
        obtain ⟨b, hbk⟩ : ∃ b, m[k]? = some b := ⟨_, List.getElem?_eq_getElem hlm⟩
        obtain ⟨ad, rfl, _, p0, p1, p2, p3, p4, p5, p6⟩ := dfr_at H1.out ha
        obtain ⟨ad2, rfl, _, r0, r1, r2, r3, r4, r5, r6⟩ := dfr_at H2.out hbk
        have HAK := Lib.hid ha
        have HBK := Lib.hid hbk
        clear ha hbk
        by_cases hab : a = b
        · subst hab
          go_wp2
          go_quiet (fail)
          go_wp2
          exact ⟨⟨k + 1, d + nq, by go_num, by omega, takeN HAK.out HBK.out HT.out, rfl⟩, by simp [intOf]; omega⟩
        · have HF := Lib.hid (ne_at HAK.out HBK.out hab)
          obtain ⟨a1, a2, a3, a4, a5, a6, a7⟩ := a
          obtain ⟨b1, b2, b3, b4, b5, b6, b7⟩ := b
          simp only at p0 p1 p2 p3 p4 p5 p6 r0 r1 r2 r3 r4 r5 r6
          have hd : ((a1 == b1) = false) ∨ (a1 = b1 ∧ ((txt a2).toList == (txt b2).toList) = false) ∨ (a1 = b1 ∧ a2 = b2 ∧ (a3 == b3) = false) ∨ (a1 = b1 ∧ a2 = b2 ∧ a3 = b3 ∧ (a4 == b4) = false) ∨
              (a1 = b1 ∧ a2 = b2 ∧ a3 = b3 ∧ a4 = b4 ∧ (a5 == b5) = false) ∨ (a1 = b1 ∧ a2 = b2 ∧ a3 = b3 ∧ a4 = b4 ∧ a5 = b5 ∧ (a6 == b6) = false) ∨ (a1 = b1 ∧ a2 = b2 ∧ a3 = b3 ∧ a4 = b4 ∧ a5 = b5 ∧ a6 = b6 ∧ (a7 == b7) = false) := by
            simp only [Df.mk.injEq] at hab
            by_cases e1 : a1 = b1
            · right
              by_cases e2 : a2 = b2
              · right
                by_cases e3 : a3 = b3
                · right
                  by_cases e4 : a4 = b4
                  · right
                    by_cases e5 : a5 = b5
                    · right
                      by_cases e6 : a6 = b6
                      · right
                        exact ⟨e1, e2, e3, e4, e5, e6, beq_eq_false_iff_ne.2 fun e7 => hab ⟨e1, e2, e3, e4, e5, e6, e7⟩⟩
                      · left; exact ⟨e1, e2, e3, e4, e5, beq_eq_false_iff_ne.2 e6⟩
                    · left; exact ⟨e1, e2, e3, e4, beq_eq_false_iff_ne.2 e5⟩
                  · left; exact ⟨e1, e2, e3, beq_eq_false_iff_ne.2 e4⟩
                · left; exact ⟨e1, e2, beq_eq_false_iff_ne.2 e3⟩
              · left; exact ⟨e1, txt_ne e2⟩
            · left; exact beq_eq_false_iff_ne.2 e1
          clear hab
          rcases hd with d1 | ⟨rfl, d1⟩ | ⟨rfl, rfl, d1⟩ | ⟨rfl, rfl, rfl, d1⟩ | ⟨rfl, rfl, rfl, rfl, d1⟩ | ⟨rfl, rfl, rfl, rfl, rfl, d1⟩ | ⟨rfl, rfl, rfl, rfl, rfl, rfl, d1⟩
          all_goals
            go_wp2
            go_quiet (fail)
            go_wp2
            go_ret
            exact ⟨by rw [HF.out]; rfl, (by repeat (first | exact Below.refl _ _ | assumption | refine below_draws ?_ _ | refine Below.drew ?_))⟩
      · obtain rfl : k = l.length := by omega
        have HF := Lib.hid (decide_eq_true (takeE HL.out HT.out))
        go_wp2
        go_ret
        exact ⟨by rw [HF.out]; rfl, (by repeat (first | exact Below.refl _ _ | assumption | refine below_draws ?_ _ | refine Below.drew ?_))⟩
  · have hb := lenN hlen
    have HF := Lib.hid (ne_len hlen)
    clear hlen
    go_enter Tryz.func103, Tryz.ntmps103
    go_wp2
    go_ret
    exact ⟨by rw [HF.out]; rfl, Below.refl _ _⟩
set_option maxRecDepth 1000000 in
set_option maxHeartbeats 4000000 in
theorem eqStr_any (A A' : Option Addr) (c c' : Nat) (l m : List (List UInt8)) (w : World) (h1 : Sl w A l.length c 1 (strv l)) (h2 : Sl w A' m.length c' 1 (strv m)) :
    Calls Tryz.prog 104 #[.slice A l.length c, .slice A' m.length c'] w fun e w' => e = .returned (.bool (decide (l = m))) ∧ Below w.heap.size w w' := by
  have hsm : l.length ≤ 9223372036854775807 := by have h3 := h1.le; have h2 := h1.cap; unfold maxLen at h2; omega
  have H1 := Lib.hid h1
  have H2 := Lib.hid h2
  clear h1 h2
  by_cases hlen : l.length = m.length
  · have hb := lenI hlen
    go_enter Tryz.func104, Tryz.ntmps104
    have HL := Lib.hid hlen
    clear hlen
    go_wp2
    clear hb
    go_loopw [13] (fun i wr => ∃ k d : Nat, i = .int .i64 k ∧ k ≤ l.length ∧ l.take k = m.take k ∧ wr = w.drewN d) (fun i _ => l.length - (intOf i).toNat)
    case atStart => exact ⟨0, 0, rfl, by omega, rfl, rfl⟩
    case round =>
      obtain ⟨k, d, rfl, hk, ht, rfl⟩ := hrel
      have HT := Lib.hid ht
      clear ht
      by_cases hlt : k < l.length
      · have hlm : k < m.length := by have := HL.out; omega
        obtain ⟨a, ha⟩ : ∃ a, l[k]? = some a := ⟨_, List.getElem?_eq_getElem hlt⟩
        obtain ⟨b, hbk⟩ : ∃ b, m[k]? = some b := ⟨_, List.getElem?_eq_getElem hlm⟩
        obtain ⟨ad, rfl, _, p0⟩ := strr_at H1.out ha
        obtain ⟨ad2, rfl, _, r0⟩ := strr_at H2.out hbk
        have HAK := Lib.hid ha
        have HBK := Lib.hid hbk
        clear ha hbk
        by_cases hab : a = b
        · subst hab
          go_wp2
          go_quiet (fail)
          go_wp2
          exact ⟨⟨k + 1, d + nq, by go_num, by omega, takeN HAK.out HBK.out HT.out, rfl⟩, by simp [intOf]; omega⟩
        · have HF := Lib.hid (ne_at HAK.out HBK.out hab)
          have hne := txt_ne hab
          clear hab
          go_wp2
          go_quiet (fail)
          go_wp2
          go_ret
          exact ⟨by rw [HF.out]; rfl, (by repeat (first | exact Below.refl _ _ | assumption | refine below_draws ?_ _ | refine Below.drew ?_))⟩
      · obtain rfl : k = l.length := by omega
        have HF := Lib.hid (decide_eq_true (takeE HL.out HT.out))
        go_wp2
        go_ret
        exact ⟨by rw [HF.out]; rfl, (by repeat (first | exact Below.refl _ _ | assumption | refine below_draws ?_ _ | refine Below.drew ?_))⟩
  · have hb := lenN hlen
    have HF := Lib.hid (ne_len hlen)
    clear hlen
    go_enter Tryz.func104, Tryz.ntmps104
    go_wp2
    go_ret
    exact ⟨by rw [HF.out]; rfl, Below.refl _ _⟩
set_option maxRecDepth 1000000 in
set_option maxHeartbeats 4000000 in
theorem eqInt_any (A A' : Option Addr) (c c' : Nat) (l m : List Int) (w : World) (h1 : Sl w A l.length c 1 (intv l)) (h2 : Sl w A' m.length c' 1 (intv m)) :
    Calls Tryz.prog 105 #[.slice A l.length c, .slice A' m.length c'] w fun e w' => e = .returned (.bool (decide (l = m))) ∧ Below w.heap.size w w' := by
  have hsm : l.length ≤ 9223372036854775807 := by have h3 := h1.le; have h2 := h1.cap; unfold maxLen at h2; omega
  have H1 := Lib.hid h1
  have H2 := Lib.hid h2
  clear h1 h2
  by_cases hlen : l.length = m.length
  · have hb := lenI hlen
    go_enter Tryz.func105, Tryz.ntmps105
    have HL := Lib.hid hlen
    clear hlen
    go_wp2
    clear hb
    go_loopw [13] (fun i wr => ∃ k d : Nat, i = .int .i64 k ∧ k ≤ l.length ∧ l.take k = m.take k ∧ wr = w.drewN d) (fun i _ => l.length - (intOf i).toNat)
    case atStart => exact ⟨0, 0, rfl, by omega, rfl, rfl⟩
    case round =>
      obtain ⟨k, d, rfl, hk, ht, rfl⟩ := hrel
      have HT := Lib.hid ht
      clear ht
      by_cases hlt : k < l.length
      · have hlm : k < m.length := by have := HL.out; omega
        obtain ⟨a, ha⟩ : ∃ a, l[k]? = some a := ⟨_, List.getElem?_eq_getElem hlt⟩
        obtain ⟨b, hbk⟩ : ∃ b, m[k]? = some b := ⟨_, List.getElem?_eq_getElem hlm⟩
        obtain ⟨ad, rfl, _, p0⟩ := intr_at H1.out ha
        obtain ⟨ad2, rfl, _, r0⟩ := intr_at H2.out hbk
        have HAK := Lib.hid ha
        have HBK := Lib.hid hbk
        clear ha hbk
        by_cases hab : a = b
        · subst hab
          go_wp2
          go_quiet (fail)
          go_wp2
          exact ⟨⟨k + 1, d + nq, by go_num, by omega, takeN HAK.out HBK.out HT.out, rfl⟩, by simp [intOf]; omega⟩
        · have HF := Lib.hid (ne_at HAK.out HBK.out hab)
          have hne : (a == b) = false := beq_eq_false_iff_ne.2 hab
          clear hab
          go_wp2
          go_quiet (fail)
          go_wp2
          go_ret
          exact ⟨by rw [HF.out]; rfl, (by repeat (first | exact Below.refl _ _ | assumption | refine below_draws ?_ _ | refine Below.drew ?_))⟩
      · obtain rfl : k = l.length := by omega
        have HF := Lib.hid (decide_eq_true (takeE HL.out HT.out))
        go_wp2
        go_ret
        exact ⟨by rw [HF.out]; rfl, (by repeat (first | exact Below.refl _ _ | assumption | refine below_draws ?_ _ | refine Below.drew ?_))⟩
  · have hb := lenN hlen
    have HF := Lib.hid (ne_len hlen)
    clear hlen
    go_enter Tryz.func105, Tryz.ntmps105
    go_wp2
    go_ret
    exact ⟨by rw [HF.out]; rfl, Below.refl _ _⟩
end Go.Proofs.YtciiemomfniecaaGreatDoor
/-
  Two messages, two enums, two schemas are held against each other: the contracts.
-/
namespace Go.Proofs.YtciiemomfniecaaGreatDoor
set_option maxRecDepth 100000

open Go.RowKit Go.Maps

theorem cellLt {w : World} {p : Addr} {v : Value} (h : w.cell? p = some v) : p.block < w.heap.size := by
  unfold World.cell? at h
  by_cases hb : p.block < w.heap.size
  · exact hb
  · rw [Array.getElem?_eq_none (by omega)] at h
    cases h
theorem md_dec (a b : Md) : decide (a = b) = (decide (a.name = b.name) && decide (a.F = b.F)) := by
  obtain ⟨a1, a2⟩ := a
  obtain ⟨b1, b2⟩ := b
  rw [Bool.eq_iff_iff]; simp
theorem ed_dec (a b : Ed) : decide (a = b) = (decide (a.name = b.name) && decide (a.V = b.V) && decide (a.N = b.N)) := by
  obtain ⟨a1, a2, a3⟩ := a
  obtain ⟨b1, b2, b3⟩ := b
  rw [Bool.eq_iff_iff]; simp [and_assoc]
theorem sc_dec (a b : Sc) : decide (a = b) = (decide (a.M = b.M) && decide (a.E = b.E)) := by
  obtain ⟨a1, a2⟩ := a
  obtain ⟨b1, b2⟩ := b
  rw [Bool.eq_iff_iff]; simp
theorem eqDf_rb (B : Nat) (v v' : Value) (l m : List Df) (w : World) (h1 : Rb B w v l.length 7 (dfv l)) (h2 : Rb B w v' m.length 7 (dfv m)) : Calls Tryz.prog 103 #[v, v'] w fun e w' => e = .returned (.bool (decide (l = m))) ∧ Below w.heap.size w w' := by
  obtain ⟨A, c, rfl, s, -⟩ := h1
  obtain ⟨A', c', rfl, s', -⟩ := h2
  exact eqDf_any A A' c c' l m w s s'
theorem eqStr_rb (B : Nat) (v v' : Value) (l m : List (List UInt8)) (w : World) (h1 : Rb B w v l.length 1 (strv l)) (h2 : Rb B w v' m.length 1 (strv m)) : Calls Tryz.prog 104 #[v, v'] w fun e w' => e = .returned (.bool (decide (l = m))) ∧ Below w.heap.size w w' := by
  obtain ⟨A, c, rfl, s, -⟩ := h1
  obtain ⟨A', c', rfl, s', -⟩ := h2
  exact eqStr_any A A' c c' l m w s s'
theorem eqInt_rb (B : Nat) (v v' : Value) (l m : List Int) (w : World) (h1 : Rb B w v l.length 1 (intv l)) (h2 : Rb B w v' m.length 1 (intv m)) : Calls Tryz.prog 105 #[v, v'] w fun e w' => e = .returned (.bool (decide (l = m))) ∧ Below w.heap.size w w' := by
  obtain ⟨A, c, rfl, s, -⟩ := h1
  obtain ⟨A', c', rfl, s', -⟩ := h2
  exact eqInt_any A A' c c' l m w s s'
set_option maxHeartbeats 4000000 in
theorem samemd_any (B : Nat) (a b : Md) (vF vF' : Value) (w : World) (hB : B ≤ w.heap.size) (ha : Rb B w vF a.F.length 7 (dfv a.F)) (hb : Rb B w vF' b.F.length 7 (dfv b.F)) :
    Calls Tryz.prog 55 #[.agg #[.string (txt a.name), vF], .agg #[.string (txt b.name), vF']] w fun e w' => e = .returned (.bool (decide (a = b))) ∧ Below w.heap.size w w' := by
  have HS := Lib.hid (md_dec a b)
  have H1 := Lib.hid (fun (w2 : World) (hb2 : Below w.heap.size w w2) => eqDf_rb B vF vF' a.F b.F w2 (ha.low (Low.below hb2 hB)) (hb.low (Low.below hb2 hB)))
  obtain ⟨A1, q1, rfl, -, -⟩ := ha
  obtain ⟨A2, q2, rfl, -, -⟩ := hb
  have HB0 := Lib.hid (below_lit (below_new w (.cells #[.string (txt a.name), .slice A1 a.F.length q1] 56)) (.cells #[.string (txt b.name), .slice A2 b.F.length q2] 56))
  by_cases hn : a.name = b.name
  · rw [decide_eq_true hn, Bool.true_and] at HS
    rw [hn] at HB0 ⊢
    clear hn
    go_enter Tryz.func55, Tryz.ntmps55
    go_wp2_with fail
    refine (H1.out _ HB0.out).mono ?_
    rintro e w3 ⟨rfl, hb3⟩
    generalize decide (a.F = b.F) = b1 at *
    have HB3 := Lib.hid (below_then HB0.out hb3)
    go_wp2
    go_ret
    exact ⟨by rw [HS.out]; rfl, HB3.out⟩
  · rw [decide_eq_false hn, Bool.false_and] at HS
    have hne := txt_ne hn
    clear hn
    go_enter Tryz.func55, Tryz.ntmps55
    go_wp2
    go_ret
    exact ⟨by rw [HS.out]; rfl, HB0.out⟩
set_option maxHeartbeats 4000000 in
theorem sameed_any (B : Nat) (a b : Ed) (vV vN vV' vN' : Value) (w : World) (hB : B ≤ w.heap.size) (ha : Rb B w vV a.V.length 1 (strv a.V)) (ha2 : Rb B w vN a.N.length 1 (intv a.N)) (hb : Rb B w vV' b.V.length 1 (strv b.V)) (hb2 : Rb B w vN' b.N.length 1 (intv b.N)) :
    Calls Tryz.prog 57 #[.agg #[.string (txt a.name), vV, vN], .agg #[.string (txt b.name), vV', vN']] w fun e w' => e = .returned (.bool (decide (a = b))) ∧ Below w.heap.size w w' := by
  have HS := Lib.hid (ed_dec a b)
  have H1 := Lib.hid (fun (w2 : World) (hx : Below w.heap.size w w2) => eqStr_rb B vV vV' a.V b.V w2 (ha.low (Low.below hx hB)) (hb.low (Low.below hx hB)))
  have H2 := Lib.hid (fun (w2 : World) (hx : Below w.heap.size w w2) => eqInt_rb B vN vN' a.N b.N w2 (ha2.low (Low.below hx hB)) (hb2.low (Low.below hx hB)))
  obtain ⟨A1, q1, rfl, -, -⟩ := ha
  obtain ⟨A2, q2, rfl, -, -⟩ := hb
  obtain ⟨A3, q3, rfl, -, -⟩ := ha2
  obtain ⟨A4, q4, rfl, -, -⟩ := hb2
  have HB0 := Lib.hid (below_lit (below_new w (.cells #[.string (txt a.name), .slice A1 a.V.length q1, .slice A3 a.N.length q3] 68)) (.cells #[.string (txt b.name), .slice A2 b.V.length q2, .slice A4 b.N.length q4] 68))
  have HBA := Lib.hid (heap_first w (.cells #[.string (txt a.name), .slice A1 a.V.length q1, .slice A3 a.N.length q3] 68) (.cells #[.string (txt b.name), .slice A2 b.V.length q2, .slice A4 b.N.length q4] 68) rfl)
  have HBB := Lib.hid (heap_second w (.cells #[.string (txt a.name), .slice A1 a.V.length q1, .slice A3 a.N.length q3] 68) (.cells #[.string (txt b.name), .slice A2 b.V.length q2, .slice A4 b.N.length q4] 68))
  by_cases hn : a.name = b.name
  · rw [decide_eq_true hn, Bool.true_and] at HS
    rw [hn] at HB0 HBA HBB ⊢
    clear hn
    go_enter Tryz.func57, Tryz.ntmps57
    go_wp2_with fail
    refine (H1.out _ HB0.out).mono ?_
    rintro e w3 ⟨rfl, hb3⟩
    have ga := (hb3.block w.heap.size (by simp; omega)).trans HBA.out
    have gb := (hb3.block (w.heap.size + 1) (by simp)).trans HBB.out
    have c2 := heap_cell ga 2
    have d2 := heap_cell gb 2
    simp at c2 d2
    have HB3 := Lib.hid (below_then HB0.out hb3)
    clear ga gb hb3
    generalize decide (a.V = b.V) = b1 at *
    cases b1 with
    | false =>
      go_wp2
      go_ret
      exact ⟨by rw [HS.out]; rfl, HB3.out⟩
    | true =>
      go_wp2_with fail
      refine (H2.out _ HB3.out).mono ?_
      rintro e w4 ⟨rfl, hb4⟩
      have HB4 := Lib.hid (below_then HB3.out hb4)
      clear hb4
      generalize decide (a.N = b.N) = b2 at *
      go_wp2
      go_ret
      exact ⟨by rw [HS.out]; rfl, HB4.out⟩
  · rw [decide_eq_false hn, Bool.false_and] at HS
    have hne := txt_ne hn
    clear hn
    go_enter Tryz.func57, Tryz.ntmps57
    go_wp2
    go_ret
    exact ⟨by rw [HS.out]; rfl, HB0.out⟩
set_option maxRecDepth 1000000 in
set_option maxHeartbeats 4000000 in
theorem eqMds_any (B : Nat) (v v' : Value) (l m : List Md) (xs ys : List Value) (w : World) (hB : B ≤ w.heap.size) (h1 : Rb B w v l.length 2 xs) (k1 : MdsAt B w l xs) (h2 : Rb B w v' m.length 2 ys) (k2 : MdsAt B w m ys) :
    Calls Tryz.prog 54 #[v, v', .func (.func 55) #[] #[]] w fun e w' => e = .returned (.bool (decide (l = m))) ∧ Below w.heap.size w w' := by
  obtain ⟨A, c, rfl, s1, b1⟩ := h1
  obtain ⟨A', c', rfl, s2, b2⟩ := h2
  have hsm : l.length ≤ 9223372036854775807 := by have h3 := s1.le; have h2 := s1.cap; unfold maxLen at h2; omega
  have H1 := Lib.hid s1
  have H2 := Lib.hid s2
  have K1 := Lib.hid k1
  have K2 := Lib.hid k2
  clear s1 s2 k1 k2
  by_cases hlen : l.length = m.length
  · have hb := lenI hlen
    go_enter Tryz.func54, Tryz.ntmps54
    have HL := Lib.hid hlen
    clear hlen
    go_wp2
    clear hb
    go_loopw [17] (fun i wr => ∃ k : Nat, i = .int .i64 k ∧ k ≤ l.length ∧ l.take k = m.take k ∧ Below w.heap.size w wr) (fun i _ => l.length - (intOf i).toNat)
    case atStart => exact ⟨0, rfl, by omega, rfl, Below.refl _ _⟩
    case round =>
      obtain ⟨k, rfl, hk, ht, hb⟩ := hrel
      have HT := Lib.hid ht
      have HB := Lib.hid hb
      clear ht
      by_cases hlt : k < l.length
      · have hlm : k < m.length := by have := HL.out; omega
        obtain ⟨a, ha⟩ : ∃ a, l[k]? = some a := ⟨_, List.getElem?_eq_getElem hlt⟩
        obtain ⟨b, hbk⟩ : ∃ b, m[k]? = some b := ⟨_, List.getElem?_eq_getElem hlm⟩
        obtain ⟨ad, vF, rfl, _, hr, c0, c1⟩ := mdr_at (H1.out.low b1 (Low.below hb hB)) (K1.out.low (Low.below hb hB)) ha
        obtain ⟨ad2, vF2, rfl, _, hr2, d0, d1⟩ := mdr_at (H2.out.low b2 (Low.below hb hB)) (K2.out.low (Low.below hb hB)) hbk
        have HAK := Lib.hid ha
        have HBK := Lib.hid hbk
        clear ha hbk hb
        have HB2 := Lib.hid (below_lit (below_lit HB.out (.cells #[.string (txt a.name), vF] 56)) (.cells #[.string (txt b.name), vF2] 56))
        have hl := (Low.alloc wr (.cells #[.string (txt a.name), vF] 56) (Nat.le_trans hB HB.out.size)).trans (Low.alloc (wr.alloc (.cells #[.string (txt a.name), vF] 56)) (.cells #[.string (txt b.name), vF2] 56) (Nat.le_trans hB (Nat.le_trans HB.out.size (by simp))))
        have HC := Lib.hid (samemd_any B a b vF vF2 _ (Nat.le_trans hB HB2.out.size) (hr.low hl) (hr2.low hl))
        obtain ⟨AF, cF, rfl, -, -⟩ := hr
        obtain ⟨AF2, cF2, rfl, -, -⟩ := hr2
        have d0' := ((below_new wr (.cells #[.string (txt a.name), .slice AF a.F.length cF] 56)).cell (cellLt d0)).trans d0
        have d1' := ((below_new wr (.cells #[.string (txt a.name), .slice AF a.F.length cF] 56)).cell (cellLt d1)).trans d1
        clear hl d0 d1
        by_cases hab : a = b
        · have HN := Lib.hid (fun (h : decide (a = b) = true) => takeN HAK.out (show m[k]? = some a by rw [hab]; exact HBK.out) HT.out)
          have hd : decide (a = b) = true := decide_eq_true hab
          rw [hd] at HC
          have HN2 := Lib.hid (HN.out hd)
          clear hab hd
          go_wp2_with fail
          refine HC.out.mono ?_
          rintro e w8 ⟨rfl, hb8⟩
          go_wp2
          exact ⟨⟨k + 1, by go_num, by omega, HN2.out, below_then HB2.out hb8⟩, by simp [intOf]; omega⟩
        · have HF := Lib.hid (ne_at HAK.out HBK.out hab)
          have hd : decide (a = b) = false := decide_eq_false hab
          rw [hd] at HC
          clear hab hd
          go_wp2_with fail
          refine HC.out.mono ?_
          rintro e w8 ⟨rfl, hb8⟩
          go_wp2
          go_ret
          exact ⟨by rw [HF.out]; rfl, below_then HB2.out hb8⟩
      · obtain rfl : k = l.length := by omega
        have HF := Lib.hid (decide_eq_true (takeE HL.out HT.out))
        go_wp2
        go_ret
        exact ⟨by rw [HF.out]; rfl, HB.out⟩
  · have hb := lenN hlen
    have HF := Lib.hid (ne_len hlen)
    clear hlen
    go_enter Tryz.func54, Tryz.ntmps54
    go_wp2
    go_ret
    exact ⟨by rw [HF.out]; rfl, Below.refl _ _⟩
set_option maxRecDepth 1000000 in
set_option maxHeartbeats 4000000 in
theorem eqEds_any (B : Nat) (v v' : Value) (l m : List Ed) (xs ys : List Value) (w : World) (hB : B ≤ w.heap.size) (h1 : Rb B w v l.length 3 xs) (k1 : EdsAt B w l xs) (h2 : Rb B w v' m.length 3 ys) (k2 : EdsAt B w m ys) :
    Calls Tryz.prog 56 #[v, v', .func (.func 57) #[] #[]] w fun e w' => e = .returned (.bool (decide (l = m))) ∧ Below w.heap.size w w' := by
  obtain ⟨A, c, rfl, s1, b1⟩ := h1
  obtain ⟨A', c', rfl, s2, b2⟩ := h2
  have hsm : l.length ≤ 9223372036854775807 := by have h3 := s1.le; have h2 := s1.cap; unfold maxLen at h2; omega
  have H1 := Lib.hid s1
  have H2 := Lib.hid s2
  have K1 := Lib.hid k1
  have K2 := Lib.hid k2
  clear s1 s2 k1 k2
  by_cases hlen : l.length = m.length
  · have hb := lenI hlen
    go_enter Tryz.func56, Tryz.ntmps56
    have HL := Lib.hid hlen
    clear hlen
    go_wp2
    clear hb
    go_loopw [17] (fun i wr => ∃ k : Nat, i = .int .i64 k ∧ k ≤ l.length ∧ l.take k = m.take k ∧ Below w.heap.size w wr) (fun i _ => l.length - (intOf i).toNat)
    case atStart => exact ⟨0, rfl, by omega, rfl, Below.refl _ _⟩
    case round =>
      obtain ⟨k, rfl, hk, ht, hb⟩ := hrel
      have HT := Lib.hid ht
      have HB := Lib.hid hb
      clear ht
      by_cases hlt : k < l.length
      · have hlm : k < m.length := by have := HL.out; omega
        obtain ⟨a, ha⟩ : ∃ a, l[k]? = some a := ⟨_, List.getElem?_eq_getElem hlt⟩
        obtain ⟨b, hbk⟩ : ∃ b, m[k]? = some b := ⟨_, List.getElem?_eq_getElem hlm⟩
        obtain ⟨ad, vV, vN, rfl, _, hr, hs, c0, c1, c2⟩ := edr_at (H1.out.low b1 (Low.below hb hB)) (K1.out.low (Low.below hb hB)) ha
        obtain ⟨ad2, vV2, vN2, rfl, _, hr2, hs2, d0, d1, d2⟩ := edr_at (H2.out.low b2 (Low.below hb hB)) (K2.out.low (Low.below hb hB)) hbk
        have HAK := Lib.hid ha
        have HBK := Lib.hid hbk
        clear ha hbk hb
        have HB2 := Lib.hid (below_lit (below_lit HB.out (.cells #[.string (txt a.name), vV, vN] 68)) (.cells #[.string (txt b.name), vV2, vN2] 68))
        have hl := (Low.alloc wr (.cells #[.string (txt a.name), vV, vN] 68) (Nat.le_trans hB HB.out.size)).trans (Low.alloc (wr.alloc (.cells #[.string (txt a.name), vV, vN] 68)) (.cells #[.string (txt b.name), vV2, vN2] 68) (Nat.le_trans hB (Nat.le_trans HB.out.size (by simp))))
        have HC := Lib.hid (sameed_any B a b vV vN vV2 vN2 _ (Nat.le_trans hB HB2.out.size) (hr.low hl) (hs.low hl) (hr2.low hl) (hs2.low hl))
        obtain ⟨AV, cV, rfl, -, -⟩ := hr
        obtain ⟨AV2, cV2, rfl, -, -⟩ := hr2
        obtain ⟨AN, cN, rfl, -, -⟩ := hs
        obtain ⟨AN2, cN2, rfl, -, -⟩ := hs2
        have d0' := ((below_new wr (.cells #[.string (txt a.name), .slice AV a.V.length cV, .slice AN a.N.length cN] 68)).cell (cellLt d0)).trans d0
        have d1' := ((below_new wr (.cells #[.string (txt a.name), .slice AV a.V.length cV, .slice AN a.N.length cN] 68)).cell (cellLt d1)).trans d1
        have d2' := ((below_new wr (.cells #[.string (txt a.name), .slice AV a.V.length cV, .slice AN a.N.length cN] 68)).cell (cellLt d2)).trans d2
        clear hl d0 d1 d2
        by_cases hab : a = b
        · have HN := Lib.hid (fun (h : decide (a = b) = true) => takeN HAK.out (show m[k]? = some a by rw [hab]; exact HBK.out) HT.out)
          have hd : decide (a = b) = true := decide_eq_true hab
          rw [hd] at HC
          have HN2 := Lib.hid (HN.out hd)
          clear hab hd
          go_wp2_with fail
          refine HC.out.mono ?_
          rintro e w8 ⟨rfl, hb8⟩
          go_wp2
          exact ⟨⟨k + 1, by go_num, by omega, HN2.out, below_then HB2.out hb8⟩, by simp [intOf]; omega⟩
        · have HF := Lib.hid (ne_at HAK.out HBK.out hab)
          have hd : decide (a = b) = false := decide_eq_false hab
          rw [hd] at HC
          clear hab hd
          go_wp2_with fail
          refine HC.out.mono ?_
          rintro e w8 ⟨rfl, hb8⟩
          go_wp2
          go_ret
          exact ⟨by rw [HF.out]; rfl, below_then HB2.out hb8⟩
      · obtain rfl : k = l.length := by omega
        have HF := Lib.hid (decide_eq_true (takeE HL.out HT.out))
        go_wp2
        go_ret
        exact ⟨by rw [HF.out]; rfl, HB.out⟩
  · have hb := lenN hlen
    have HF := Lib.hid (ne_len hlen)
    clear hlen
    go_enter Tryz.func56, Tryz.ntmps56
    go_wp2
    go_ret
    exact ⟨by rw [HF.out]; rfl, Below.refl _ _⟩
set_option maxHeartbeats 4000000 in
theorem sameT_any (B : Nat) (s t : Sc) (vM vE vM' vE' : Value) (w : World) (hB : B ≤ w.heap.size) (hs : SAt B w s vM vE) (ht : SAt B w t vM' vE') :
    Calls Tryz.prog 27 #[.agg #[vM, vE], .agg #[vM', vE']] w fun e w' => e = .returned (.bool (decide (s = t))) ∧ Below w.heap.size w w' := by
  have HS := Lib.hid (sc_dec s t)
  obtain ⟨xs, ys, h1, h2, h3, h4⟩ := hs
  obtain ⟨xs', ys', k1, k2, k3, k4⟩ := ht
  have H1 := Lib.hid (fun (w2 : World) (hb2 : Below w.heap.size w w2) => eqMds_any B vM vM' s.M t.M xs xs' w2 (Nat.le_trans hB hb2.size) (h1.low (Low.below hb2 hB)) (h2.low (Low.below hb2 hB)) (k1.low (Low.below hb2 hB)) (k2.low (Low.below hb2 hB)))
  have H2 := Lib.hid (fun (w2 : World) (hb2 : Below w.heap.size w w2) => eqEds_any B vE vE' s.E t.E ys ys' w2 (Nat.le_trans hB hb2.size) (h3.low (Low.below hb2 hB)) (h4.low (Low.below hb2 hB)) (k3.low (Low.below hb2 hB)) (k4.low (Low.below hb2 hB)))
  obtain ⟨A1, q1, rfl, -, -⟩ := h1
  obtain ⟨A2, q2, rfl, -, -⟩ := h3
  obtain ⟨A3, q3, rfl, -, -⟩ := k1
  obtain ⟨A4, q4, rfl, -, -⟩ := k3
  clear h2 h4 k2 k4
  have HB0 := Lib.hid (below_lit (below_new w (.cells #[.slice A1 s.M.length q1, .slice A2 s.E.length q2] 29)) (.cells #[.slice A3 t.M.length q3, .slice A4 t.E.length q4] 29))
  have HBA := Lib.hid (heap_first w (.cells #[.slice A1 s.M.length q1, .slice A2 s.E.length q2] 29) (.cells #[.slice A3 t.M.length q3, .slice A4 t.E.length q4] 29) rfl)
  have HBB := Lib.hid (heap_second w (.cells #[.slice A1 s.M.length q1, .slice A2 s.E.length q2] 29) (.cells #[.slice A3 t.M.length q3, .slice A4 t.E.length q4] 29))
  go_enter Tryz.func27, Tryz.ntmps27
  go_wp2_with fail
  refine (H1.out _ HB0.out).mono ?_
  rintro e w3 ⟨rfl, hb3⟩
  have ga := (hb3.block w.heap.size (by simp; omega)).trans HBA.out
  have gb := (hb3.block (w.heap.size + 1) (by simp)).trans HBB.out
  have c1 := heap_cell ga 1
  have d1 := heap_cell gb 1
  simp at c1 d1
  have HB3 := Lib.hid (below_then HB0.out hb3)
  clear ga gb hb3
  generalize decide (s.M = t.M) = b1 at *
  cases b1 with
  | false =>
    go_wp2
    go_ret
    exact ⟨by rw [HS.out]; rfl, HB3.out⟩
  | true =>
    go_wp2_with fail
    refine (H2.out _ HB3.out).mono ?_
    rintro e w4 ⟨rfl, hb4⟩
    have HB4 := Lib.hid (below_then HB3.out hb4)
    clear hb4
    generalize decide (s.E = t.E) = b2 at *
    go_wp2
    go_ret
    exact ⟨by rw [HS.out]; rfl, HB4.out⟩
end Go.Proofs.YtciiemomfniecaaGreatDoor
