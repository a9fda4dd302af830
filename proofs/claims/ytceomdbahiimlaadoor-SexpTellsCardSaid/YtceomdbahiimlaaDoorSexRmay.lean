/-
  The document's own May of nodes.
-/
import Derived.Test.YtceomdbahiimlaaDoorSexRsame
import Derived.BigQuiet
namespace Go.Proofs.YtceomdbahiimlaaDoor.T14
set_option maxRecDepth 100000

open Go.RowKit

/-- One within so many lists, whole. -/
def mayI (x : Nd) (i : Nat) : Bool := (x.pre i).all fun y => fitB Lib.itoa y.1 y.2
theorem all_flat {α : Type} (p : α → Bool) : ∀ L : List (List α), L.flatten.all p = L.all fun l => l.all p
  | [] => rfl
  | l :: L => by rw [List.flatten_cons, List.all_append, List.all_cons, all_flat p L]
theorem mayI_eq (x : Nd) (i : Nat) : mayI x i = (fitB Lib.itoa x i && x.l.all fun y => mayI y (i + 1)) := by
  unfold mayI
  rw [Nd.pre_eq, List.all_cons, all_flat, List.all_map]
  rfl
theorem mayI_leaf {x : Nd} {i : Nat} (h : x.kind ≠ 4) : mayI x i = leafB Lib.itoa x := by
  rw [mayI_eq]
  unfold fitB
  rw [if_neg h]
  cases hl : x.l with
  | nil => simp
  | cons y l => simp [leafB, hl]
theorem tok_err {it : Int → List UInt8} {L : List UInt8} (h : allE it L ≠ 0) : allT it L = [] := by
  rcases all_cases (it := it) L with ⟨h1, _⟩ | ⟨h1, _⟩
  · exact absurd h1 h
  · exact h1
def RMayH (B d : Nat) : Prop := ∀ (x : Nd) (u : Value) (i : Nat) (w : World), B ≤ w.heap.size → NAt (Rd B w) d x [.int .i64 x.kind, .string (tx x.text), .int .i64 x.num, .int .i64 x.at_, u] → Sm 1000000 x → i ≤ 100000 →
  Calls Tryd.prog 27 #[.agg #[.int .i64 x.kind, .string (tx x.text), .int .i64 x.num, .int .i64 x.at_, u], .int .i64 i] w fun e w' => e = .returned (.bool (mayI x i)) ∧ Below w.heap.size w w'
set_option maxRecDepth 1000000 in
set_option maxHeartbeats 8000000 in
theorem rmay_leaf {B d : Nat} (x : Nd) (u : Value) (i : Nat) (w : World) (hB : B ≤ w.heap.size) (hx : NAt (Rd B w) (d + 1) x [.int .i64 x.kind, .string (tx x.text), .int .i64 x.num, .int .i64 x.at_, u]) (hsm : Sm 1000000 x) (h4 : x.kind ≠ 4) :
    Calls Tryd.prog 27 #[.agg #[.int .i64 x.kind, .string (tx x.text), .int .i64 x.num, .int .i64 x.at_, u], .int .i64 i] w fun e w' => e = .returned (.bool (leafB Lib.itoa x)) ∧ Below w.heap.size w w' := by
  obtain ⟨A, c, rfl⟩ := NAt.shape hx
  have HT : Hid (leafB Lib.itoa x = (x.l.isEmpty && (if x.kind = 0 ∨ x.kind = 1 then tokB Lib.itoa x else if x.kind = 2 then decide (x.num = 0) else if x.kind = 3 then decide (x.text = [46]) && decide (x.num = 0) else false))) := Lib.hid rfl
  have hTK : Hid (tokB Lib.itoa x = match allT Lib.itoa x.text with | [t] => decide ((t.kind : Int) = x.kind) && decide (t.text = x.text) && decide (t.num = x.num) && decide (t.at_ = 0) | _ => false) := Lib.hid rfl
  have hE : x.l.isEmpty = decide (x.l.length = 0) := by cases x.l <;> rfl
  have hst := hsm.head
  have HALL := Lib.hid (fun W => rall_any (tx x.text) (by rw [size_tx]; exact hst) W)
  rw [tx_list] at HALL
  have hter := tok_err (it := Lib.itoa) (L := x.text)
  rw [hE] at HT
  generalize leafB Lib.itoa x = LB at *
  generalize tokB Lib.itoa x = TB at *
  generalize allT Lib.itoa x.text = TT at *
  generalize allAt Lib.itoa x.text = AA at *
  generalize allE Lib.itoa x.text = EE at *
  generalize x.l.length = m at *
  generalize x.kind = k at *
  generalize x.num = nu at *
  generalize x.text = te at *
  generalize x.at_ = pa at *
  have HX := Lib.hid (heap_alloc_new w (.cells #[.int .i64 k, .string (tx te), .int .i64 nu, .int .i64 pa, .slice A m c] 24))
  have HBW := Lib.hid (below_new w (.cells #[.int .i64 k, .string (tx te), .int .i64 nu, .int .i64 pa, .slice A m c] 24))
  have HTE := Lib.hid hter
  clear hsm hx hE hst hter
  by_cases hl : m = 0
  · subst hl
    by_cases hk0 : k < 0
    · have hf : Hid (LB = false) := Lib.hid (by rw [HT.out, if_neg (by omega), if_neg (by omega), if_neg (by omega)]; simp)
      have e1 : (k == 4) = false := by rw [beq_eq_false_iff_ne]; omega
      have e2 : decide (k < 0) = true := by rw [decide_eq_true_eq]; omega
      go_enter Tryd.func27, Tryd.ntmps27
      go_wp2
      go_ret
      exact ⟨by rw [hf.out]; rfl, HBW.out⟩
    · have e2 : decide (k < 0) = false := by rw [decide_eq_false_iff_not]; omega
      by_cases hk4 : 4 < k
      · have hf : Hid (LB = false) := Lib.hid (by rw [HT.out, if_neg (by omega), if_neg (by omega), if_neg (by omega)]; simp)
        have e1 : (k == 4) = false := by rw [beq_eq_false_iff_ne]; omega
        have e3 : decide (4 < k) = true := by rw [decide_eq_true_eq]; omega
        go_enter Tryd.func27, Tryd.ntmps27
        go_wp2
        go_ret
        exact ⟨by rw [hf.out]; rfl, HBW.out⟩
      · have e3 : decide (4 < k) = false := by rw [decide_eq_false_iff_not]; omega
        by_cases hk2 : k = 2
        · subst hk2
          have hf : Hid (LB = decide (nu = 0)) := Lib.hid (by rw [HT.out, if_neg (by omega), if_pos rfl]; rfl)
          by_cases hnu : nu = 0
          · subst hnu
            go_enter Tryd.func27, Tryd.ntmps27
            go_wp2
            go_ret
            exact ⟨by rw [hf.out]; rfl, HBW.out⟩
          · have d1 : (nu == 0) = false := by rw [beq_eq_false_iff_ne]; exact hnu
            have hf : Hid (LB = false) := Lib.hid (by rw [hf.out]; simp [hnu])
            clear hnu
            go_enter Tryd.func27, Tryd.ntmps27
            go_wp2
            go_ret
            exact ⟨by rw [hf.out]; rfl, HBW.out⟩
        · by_cases hk3 : k = 3
          · subst hk3
            have hf : Hid (LB = (decide (nu = 0) && ((tx te).toList == [46]))) := Lib.hid (by
              rw [HT.out, if_neg (by omega), if_neg (by omega), if_pos rfl, show (tx te).toList = te from txt_toList _, Bool.eq_iff_iff]
              simp [and_comm])
            by_cases hnu : nu = 0
            · subst hnu
              go_enter Tryd.func27, Tryd.ntmps27
              go_wp2
              go_ret
              exact ⟨by rw [hf.out]; rfl, HBW.out⟩
            · have d1 : (nu == 0) = false := by rw [beq_eq_false_iff_ne]; exact hnu
              have hf : Hid (LB = false) := Lib.hid (by rw [hf.out]; simp [hnu])
              clear hnu
              go_enter Tryd.func27, Tryd.ntmps27
              go_wp2
              go_ret
              exact ⟨by rw [hf.out]; rfl, HBW.out⟩
          · have hk01 : k = 0 ∨ k = 1 := by omega
            have hLT : LB = TB := by rw [HT.out, if_pos hk01]; simp
            have k4 : (k == 4) = false := by rw [beq_eq_false_iff_ne]; omega
            have k2 : (k == 2) = false := by rw [beq_eq_false_iff_ne]; omega
            have k3 : (k == 3) = false := by rw [beq_eq_false_iff_ne]; omega
            clear hk0 hk4 hk2 hk3 HT
            by_cases hE : EE = 0
            · subst hE
              clear HTE
              by_cases h1 : TT.length = 1
              · obtain ⟨t, rfl⟩ : ∃ t, TT = [t] := List.length_eq_one_iff.1 h1
                have hTB : LB = (decide ((t.kind : Int) = k) && decide (t.text = te) && decide (t.num = nu) && decide (t.at_ = 0)) := by rw [hLT, hTK.out]
                clear h1 hLT hTK
                by_cases c1 : (t.kind : Int) = k
                · have e1 : ((t.kind : Int) == k) = true := by rw [beq_iff_eq]; exact c1
                  by_cases c2 : t.text = te
                  · have e2' : ((txt t.text).toList == (tx te).toList) = true := by rw [txt_toList, show (tx te).toList = te from txt_toList _, c2, beq_self_eq_true]
                    by_cases c3 : t.num = nu
                    · have e3' : (t.num == nu) = true := by rw [beq_iff_eq]; exact c3
                      have hf : Hid (LB = ((t.at_ : Int) == 0)) := Lib.hid (by rw [hTB]; simp only [c1, c2, c3, decide_true, Bool.true_and]; rw [Bool.eq_iff_iff]; simp)
                      clear c1 c2 c3 hTB
                      go_enter Tryd.func27, Tryd.ntmps27
                      go_wp2_with fail
                      refine (HALL.out _).mono ?_
                      rintro e w2 ⟨v, rfl, hown, hb2⟩
                      obtain ⟨AT, cT, rfl, hT⟩ := SlT.of_own hown
                      have HB3 := Lib.hid (below_then HBW.out hb2)
                      obtain ⟨m0, m1, m2, m3, m4⟩ := five_cells ((hb2.block _ (box_lt HX.out)).trans HX.out)
                      obtain ⟨ad, r, rfl, hadb, hr, t0, t1, t2, t3⟩ := SlT.at_ hT (k := 0) (by simp)
                      obtain rfl : t = r := by simpa using hr
                      rw [show ad.add (0 * 4) = ad from rfl] at t0 t1 t2 t3
                      clear hr hT hown hb2
                      go_wp2
                      go_quiet (fail)
                      go_wp2
                      go_ret
                      exact ⟨by rw [hf.out]; rfl, below_draws HB3.out _⟩
                    · have e3' : (t.num == nu) = false := by rw [beq_eq_false_iff_ne]; exact c3
                      have hf : Hid (LB = false) := Lib.hid (by rw [hTB]; simp [c3])
                      clear c1 c2 c3 hTB
                      go_enter Tryd.func27, Tryd.ntmps27
                      go_wp2_with fail
                      refine (HALL.out _).mono ?_
                      rintro e w2 ⟨v, rfl, hown, hb2⟩
                      obtain ⟨AT, cT, rfl, hT⟩ := SlT.of_own hown
                      have HB3 := Lib.hid (below_then HBW.out hb2)
                      obtain ⟨m0, m1, m2, m3, m4⟩ := five_cells ((hb2.block _ (box_lt HX.out)).trans HX.out)
                      obtain ⟨ad, r, rfl, hadb, hr, t0, t1, t2, t3⟩ := SlT.at_ hT (k := 0) (by simp)
                      obtain rfl : t = r := by simpa using hr
                      rw [show ad.add (0 * 4) = ad from rfl] at t0 t1 t2 t3
                      clear hr hT hown hb2
                      go_wp2
                      go_quiet (fail)
                      go_wp2
                      go_ret
                      exact ⟨by rw [hf.out]; rfl, below_draws HB3.out _⟩
                  · have e2' : ((txt t.text).toList == (tx te).toList) = false := by rw [txt_toList, show (tx te).toList = te from txt_toList _, beq_eq_false_iff_ne]; exact c2
                    have hf : Hid (LB = false) := Lib.hid (by rw [hTB]; simp [c2])
                    clear c1 c2 hTB
                    go_enter Tryd.func27, Tryd.ntmps27
                    go_wp2_with fail
                    refine (HALL.out _).mono ?_
                    rintro e w2 ⟨v, rfl, hown, hb2⟩
                    obtain ⟨AT, cT, rfl, hT⟩ := SlT.of_own hown
                    have HB3 := Lib.hid (below_then HBW.out hb2)
                    obtain ⟨m0, m1, m2, m3, m4⟩ := five_cells ((hb2.block _ (box_lt HX.out)).trans HX.out)
                    obtain ⟨ad, r, rfl, hadb, hr, t0, t1, t2, t3⟩ := SlT.at_ hT (k := 0) (by simp)
                    obtain rfl : t = r := by simpa using hr
                    rw [show ad.add (0 * 4) = ad from rfl] at t0 t1 t2 t3
                    clear hr hT hown hb2
                    go_wp2
                    go_quiet (fail)
                    go_wp2
                    go_ret
                    exact ⟨by rw [hf.out]; rfl, below_draws HB3.out _⟩
                · have e1 : ((t.kind : Int) == k) = false := by rw [beq_eq_false_iff_ne]; exact c1
                  have hf : Hid (LB = false) := Lib.hid (by rw [hTB]; simp [c1])
                  clear c1 hTB
                  go_enter Tryd.func27, Tryd.ntmps27
                  go_wp2_with fail
                  refine (HALL.out _).mono ?_
                  rintro e w2 ⟨v, rfl, hown, hb2⟩
                  obtain ⟨AT, cT, rfl, hT⟩ := SlT.of_own hown
                  have HB3 := Lib.hid (below_then HBW.out hb2)
                  obtain ⟨m0, m1, m2, m3, m4⟩ := five_cells ((hb2.block _ (box_lt HX.out)).trans HX.out)
                  obtain ⟨ad, r, rfl, hadb, hr, t0, t1, t2, t3⟩ := SlT.at_ hT (k := 0) (by simp)
                  obtain rfl : t = r := by simpa using hr
                  rw [show ad.add (0 * 4) = ad from rfl] at t0 t1 t2 t3
                  clear hr hT hown hb2
                  go_wp2
                  go_quiet (fail)
                  go_wp2
                  go_ret
                  exact ⟨by rw [hf.out]; rfl, below_draws HB3.out _⟩
              · have e1 : ((TT.length : Int) == 1) = false := by rw [beq_eq_false_iff_ne]; omega
                have hf : Hid (LB = false) := Lib.hid (by
                  rw [hLT, hTK.out]
                  match TT, h1 with
                  | [], _ => rfl
                  | [_], h => exact absurd rfl h
                  | _ :: _ :: _, _ => rfl)
                clear h1 hLT hTK
                go_enter Tryd.func27, Tryd.ntmps27
                go_wp2_with fail
                refine (HALL.out _).mono ?_
                rintro e w2 ⟨v, rfl, hown, hb2⟩
                obtain ⟨AT, cT, rfl, hT⟩ := SlT.of_own hown
                have HB3 := Lib.hid (below_then HBW.out hb2)
                obtain ⟨m0, m1, m2, m3, m4⟩ := five_cells ((hb2.block _ (box_lt HX.out)).trans HX.out)
                clear hT hown hb2
                go_wp2
                go_quiet (fail)
                go_wp2
                go_ret
                exact ⟨by rw [hf.out]; rfl, below_draws HB3.out _⟩
            · have e1 : ((EE : Int) == 0) = false := by rw [beq_eq_false_iff_ne]; omega
              have hT0 := HTE.out hE
              subst hT0
              have hf : Hid (LB = false) := Lib.hid (by rw [hLT, hTK.out])
              clear hE hLT hTK HTE
              go_enter Tryd.func27, Tryd.ntmps27
              go_wp2_with fail
              refine (HALL.out _).mono ?_
              rintro e w2 ⟨v, rfl, hown, hb2⟩
              obtain ⟨AT, cT, rfl, hT⟩ := SlT.of_own hown
              have HB3 := Lib.hid (below_then HBW.out hb2)
              obtain ⟨m0, m1, m2, m3, m4⟩ := five_cells ((hb2.block _ (box_lt HX.out)).trans HX.out)
              clear hT hown hb2
              go_wp2
              go_quiet (fail)
              go_wp2
              go_ret
              exact ⟨by rw [hf.out]; rfl, below_draws HB3.out _⟩
  · have dl : decide ((0 : Int) < (m : Int)) = true := by rw [decide_eq_true_eq]; omega
    have dl2 : decide (0 < m) = true := by rw [decide_eq_true_eq]; omega
    have e1 : (k == 4) = false := by rw [beq_eq_false_iff_ne]; omega
    have hf : Hid (LB = false) := Lib.hid (by rw [HT.out]; simp [hl])
    clear hl
    go_enter Tryd.func27, Tryd.ntmps27
    go_wp2
    all_goals (go_ret; exact ⟨by rw [hf.out]; rfl, HBW.out⟩)
end Go.Proofs.YtceomdbahiimlaaDoor.T14
