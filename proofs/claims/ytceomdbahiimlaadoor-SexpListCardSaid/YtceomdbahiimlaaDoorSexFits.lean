/-
  Whether a node fits where it stands.
-/
import Derived.Test.YtceomdbahiimlaaDoorSexTok
namespace Go.Proofs.YtceomdbahiimlaaDoor.T14
set_option maxRecDepth 100000

open Go.RowKit

set_option maxRecDepth 1000000 in
set_option maxHeartbeats 4000000 in
theorem fits_any (d : Nat) (x : Nd) (u : Value) (i : Nat) (B : Nat) (w : World) (hx : NAt (Rd B w) d x [.int .i64 x.kind, .string (tx x.text), .int .i64 x.num, .int .i64 x.at_, u]) (hs : x.text.length ≤ 1000000) (LV : Laid w) :
    Calls Tryd.prog 26 #[.agg #[.int .i64 x.kind, .string (tx x.text), .int .i64 x.num, .int .i64 x.at_, u], .int .i64 i] w fun e w' => e = .returned (.bool (fitB Lib.itoa x i)) ∧ Below w.heap.size w w' := by
  obtain ⟨A, c, hu⟩ : ∃ A c, u = .slice A x.l.length c := by
    cases d with
    | zero => exact hx.elim
    | succ d =>
      obtain ⟨u', e, hl⟩ := hx
      obtain ⟨A, c, xs, h1, -⟩ := hl.open_
      simp only [List.cons.injEq, and_true, true_and] at e
      exact ⟨A, c, e.trans h1⟩
  subst hu
  clear hx
  have hN1 := heap_alloc_new w (.cells #[.int .i64 x.kind, .string (tx x.text), .int .i64 x.num, .int .i64 x.at_, .slice A x.l.length c] 24)
  obtain ⟨n0, n1, n2, n3, n4⟩ := five_cells hN1
  have hB1 := below_new w (.cells #[.int .i64 x.kind, .string (tx x.text), .int .i64 x.num, .int .i64 x.at_, .slice A x.l.length c] 24)
  have HT := Lib.hid (isToken_any x (.slice A x.l.length c) _ hs (LV.on hB1))
  have HB1 := Lib.hid hB1
  have htl : (tx x.text).toList = x.text := txt_toList _
  obtain ⟨xl, hxl⟩ : ∃ xl, x.l.length = xl := ⟨_, rfl⟩
  have hle : x.l.isEmpty = decide (xl = 0) := by rw [← hxl]; cases x.l <;> simp
  rw [hxl] at n0 n1 n2 n3 n4 HT HB1 ⊢
  have HF : Hid (fitB Lib.itoa x i = if x.kind = 4 then decide (x.text = []) && decide (x.num = 0) && decide (i < 16) else decide (xl = 0) && (if x.kind = 0 ∨ x.kind = 1 then tokB Lib.itoa x else if x.kind = 2 then decide (x.num = 0) else if x.kind = 3 then decide (x.text = [46]) && decide (x.num = 0) else false)) := Lib.hid (by unfold fitB leafB; rw [hle])
  generalize fitB Lib.itoa x i = RB at *
  rw [← htl] at HF
  generalize tokB Lib.itoa x = TB at *
  clear hB1 hN1 hle hxl htl hs LV
  generalize x.kind = ks at *
  generalize x.num = ns at *
  generalize tx x.text = ts at *
  by_cases k4 : ks = 4
  · subst k4
    by_cases ht : ts.toList = []
    · have et : ts.toList.isEmpty = true := by rw [ht]; rfl
      have et2 : ts.toList = [] := ht
      by_cases hn : ns = 0
      · subst hn
        by_cases hi : i < 16
        · have ei : decide ((i : Int) < 16) = true := decide_eq_true (by omega)
          have ei2 : (i : Int) < 16 := by omega
          have hRB : Hid (RB = true) := Lib.hid (by rw [HF.out]; rw [if_pos rfl]; simp [ht, hi])
          clear HF
          go_enter Tryd.func26, Tryd.ntmps26
          go_wp2_with fail
          go_ret
          exact ⟨by rw [hRB.out]; rfl, HB1.out⟩
        · have ei : decide ((i : Int) < 16) = false := decide_eq_false (by omega)
          have ei2 : ¬ (i : Int) < 16 := by omega
          have hRB : Hid (RB = false) := Lib.hid (by rw [HF.out]; rw [if_pos rfl]; simp [hi])
          clear HF
          go_enter Tryd.func26, Tryd.ntmps26
          go_wp2_with fail
          go_ret
          exact ⟨by rw [hRB.out]; rfl, HB1.out⟩
      · have en : (ns == 0) = false := beq_eq_false_iff_ne.2 hn
        have hRB : Hid (RB = false) := Lib.hid (by rw [HF.out]; rw [if_pos rfl]; simp [hn])
        clear HF
        go_enter Tryd.func26, Tryd.ntmps26
        go_wp2_with fail
        go_ret
        exact ⟨by rw [hRB.out]; rfl, HB1.out⟩
    · have et : ts.toList.isEmpty = false := by simpa using ht
      have et2 : ¬ ts.toList = [] := ht
      have hRB : Hid (RB = false) := Lib.hid (by rw [HF.out]; rw [if_pos rfl]; simp [ht])
      clear HF
      go_enter Tryd.func26, Tryd.ntmps26
      go_wp2_with fail
      go_ret
      exact ⟨by rw [hRB.out]; rfl, HB1.out⟩
  · have e4 : (ks == 4) = false := beq_eq_false_iff_ne.2 k4
    by_cases h0 : xl = 0
    · subst h0
      by_cases k0 : ks = 0
      · subst k0
        have hRB : Hid (RB = TB) := Lib.hid (by rw [HF.out]; rw [if_neg (by omega), if_pos (.inl rfl)]; simp)
        clear HF
        go_enter Tryd.func26, Tryd.ntmps26
        go_wp2_with fail
        refine HT.out.mono ?_
        rintro e w2 ⟨rfl, hb2⟩
        go_wp2
        go_ret
        exact ⟨by rw [hRB.out]; rfl, HB1.out.trans (hb2.mono HB1.out.size)⟩
      · have e0 : (ks == 0) = false := beq_eq_false_iff_ne.2 k0
        by_cases k1 : ks = 1
        · subst k1
          have hRB : Hid (RB = TB) := Lib.hid (by rw [HF.out]; rw [if_neg (by omega), if_pos (.inr rfl)]; simp)
          clear HF
          go_enter Tryd.func26, Tryd.ntmps26
          go_wp2_with fail
          refine HT.out.mono ?_
          rintro e w2 ⟨rfl, hb2⟩
          go_wp2
          go_ret
          exact ⟨by rw [hRB.out]; rfl, HB1.out.trans (hb2.mono HB1.out.size)⟩
        · have e1 : (ks == 1) = false := beq_eq_false_iff_ne.2 k1
          by_cases k2 : ks = 2
          · subst k2
            by_cases hn : ns = 0
            · subst hn
              have hRB : Hid (RB = true) := Lib.hid (by rw [HF.out]; rw [if_neg (by omega), if_neg (by omega), if_pos rfl]; simp)
              clear HF
              go_enter Tryd.func26, Tryd.ntmps26
              go_wp2_with fail
              go_ret
              exact ⟨by rw [hRB.out]; rfl, HB1.out⟩
            · have en : (ns == 0) = false := beq_eq_false_iff_ne.2 hn
              have hRB : Hid (RB = false) := Lib.hid (by rw [HF.out]; rw [if_neg (by omega), if_neg (by omega), if_pos rfl]; simp [hn])
              clear HF
              go_enter Tryd.func26, Tryd.ntmps26
              go_wp2_with fail
              go_ret
              exact ⟨by rw [hRB.out]; rfl, HB1.out⟩
          · have e2 : (ks == 2) = false := beq_eq_false_iff_ne.2 k2
            by_cases k3 : ks = 3
            · subst k3
              by_cases ht : ts.toList = [46]
              · have et : (ts.toList == [46]) = true := by rw [ht]; rfl
                have et2 : ts.toList = [46] := ht
                by_cases hn : ns = 0
                · subst hn
                  have hRB : Hid (RB = true) := Lib.hid (by rw [HF.out]; rw [if_neg (by omega), if_neg (by omega), if_neg (by omega), if_pos rfl]; simp [ht])
                  clear HF
                  go_enter Tryd.func26, Tryd.ntmps26
                  go_wp2_with fail
                  go_ret
                  exact ⟨by rw [hRB.out]; rfl, HB1.out⟩
                · have en : (ns == 0) = false := beq_eq_false_iff_ne.2 hn
                  have hRB : Hid (RB = false) := Lib.hid (by rw [HF.out]; rw [if_neg (by omega), if_neg (by omega), if_neg (by omega), if_pos rfl]; simp [hn])
                  clear HF
                  go_enter Tryd.func26, Tryd.ntmps26
                  go_wp2_with fail
                  go_ret
                  exact ⟨by rw [hRB.out]; rfl, HB1.out⟩
              · have et : (ts.toList == [46]) = false := by simpa using ht
                have et2 : ¬ ts.toList = [46] := ht
                have hRB : Hid (RB = false) := Lib.hid (by rw [HF.out]; rw [if_neg (by omega), if_neg (by omega), if_neg (by omega), if_pos rfl]; simp [ht])
                clear HF
                go_enter Tryd.func26, Tryd.ntmps26
                go_wp2_with fail
                go_ret
                exact ⟨by rw [hRB.out]; rfl, HB1.out⟩
            · have e3 : (ks == 3) = false := beq_eq_false_iff_ne.2 k3
              have hRB : Hid (RB = false) := Lib.hid (by rw [HF.out]; rw [if_neg (by omega), if_neg (by omega), if_neg (by omega), if_neg (by omega)]; simp)
              clear HF
              go_enter Tryd.func26, Tryd.ntmps26
              go_wp2_with fail
              go_ret
              exact ⟨by rw [hRB.out]; rfl, HB1.out⟩
    · have el : decide ((0 : Int) < (xl : Int)) = true := decide_eq_true (by omega)
      have el2 : 0 < xl := by omega
      have hRB : Hid (RB = false) := Lib.hid (by rw [HF.out]; rw [if_neg (by omega)]; simp [h0])
      clear HF
      go_enter Tryd.func26, Tryd.ntmps26
      go_wp2_with fail
      go_ret
      exact ⟨by rw [hRB.out]; rfl, HB1.out⟩
end Go.Proofs.YtceomdbahiimlaaDoor.T14
