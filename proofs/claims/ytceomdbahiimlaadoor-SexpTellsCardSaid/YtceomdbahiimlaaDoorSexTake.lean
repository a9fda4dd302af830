/-
  The reader that makes a node of tokens: a token is read.
-/
import Derived.Test.YtceomdbahiimlaaDoorSexEnd
import Derived.Test.YtceomdbahiimlaaDoorTokAll
namespace Go.Proofs.YtceomdbahiimlaaDoor.T14
set_option maxRecDepth 100000

open Go.RowKit

def leafL (t : T) : LN := .mk t.kind t.text t.num t.at_ (.slice none 0 0) []
def psOf (o : List LN) (wh : Option LN) : Ps := ⟨o.map LN.bare, wh.map LN.bare⟩
def TakePost (b K g : Nat) (t : T) (o : List LN) (wh : Option LN) (w : World) (e : Ending) (w' : World) : Prop :=
  (∃ x, stepP t (psOf o wh) = .error x ∧ e = .returned (.int .i64 x) ∧ Below w.heap.size w w') ∨ (∃ o' wh', stepP t (psOf o wh) = .ok (psOf o' wh') ∧ e = .returned (.int .i64 0) ∧ RSt b (K + 1) w' g o' wh' ∧ Below b w w')
theorem leaf_bare (t : T) : (leafL t).bare = leaf t := by rw [LN.bare_eq]; rfl
theorem put_leaf (b K g : Nat) (t : T) (o : List LN) (w : World) (hb : b ≤ w.heap.size) (hK : K ≤ 1000000) (h : RSt b K w g o none) :
    Calls Tryd.prog 33 #[.pointer (some ⟨g, 0, none⟩), .agg #[.int .i64 t.kind, .string (txt t.text), .int .i64 t.num, .int .i64 t.at_, .slice none 0 0]] w fun e w' => e = .returned (.tuple #[]) ∧ (∃ o' wh', RSt b (K + 1) w' g o' wh' ∧ (psOf o' wh' = putP (o.map LN.bare) (leaf t))) ∧ Below b w w' := by
  obtain ⟨⟨vo, hX, hL, hg⟩, hbg⟩ := h
  have hp : (rowsP vo o [leafL t]).Perm (rwN (leafL t) :: rowsP vo o []) := by
    unfold rowsP
    rw [show rowsL [leafL t] = [rwN (leafL t)] by simp [rowsL, LN.rows_eq, leafL, LN.l]]
    rw [show rowsL ([] : List LN) = [] from rfl, List.append_nil]
    exact (List.perm_append_comm (l₁ := rwO vo o :: rowsL o) (l₂ := [rwN (leafL t)]))
  have hL2 : Lies b K w (rowsP vo o [leafL t]) := (hL.cons (r := rwN (leafL t)) (World.ownsRow_nil _ _ _ _) (Nat.zero_le _) (fun k hk _ => by simp [rwN, leafL, LN.g, Value.ownBlock] at hk)).perm hp.symm
  have hg2 : g ∉ blocks (rowsP vo o [leafL t]) := fun hm => by
    have hm := (blocks_perm hp).1 hm
    rcases List.mem_filterMap.1 hm with ⟨y, hy, hyk⟩
    rcases List.mem_cons.1 hy with rfl | hy
    · simp [rwN, leafL, LN.g, Value.ownBlock] at hyk
    · exact hg (mem_blocks hy hyk)
  refine (put_any b K g vo (leafL t) o w hb hbg hK (stN o none) (fun hne => ?_) hX hL2 hg2).mono ?_
  · unfold stN
    cases o with
    | nil => exact absurd rfl hne
    | cons _ _ => rfl
  · rintro e w' ⟨he, ⟨o', wh', h1, h2⟩, h3⟩
    exact ⟨he, ⟨o', wh', h1, by rw [← leaf_bare]; exact h2⟩, h3⟩
theorem txt_toList (l : List UInt8) : (txt l).toList = l := by
  simp [txt]
set_option maxRecDepth 1000000 in
set_option maxHeartbeats 4000000 in
theorem take_any (b K g : Nat) (t : T) (o : List LN) (wh : Option LN) (w : World) (hb : b ≤ w.heap.size) (hK : K ≤ 1000000) (h : RSt b K w g o wh) :
    Calls Tryd.prog 21 #[.pointer (some ⟨g, 0, none⟩), .agg #[.int .i64 t.kind, .string (txt t.text), .int .i64 t.num, .int .i64 t.at_]] w (TakePost b K g t o wh w) := by
  have hX := h.lay.choose_spec.1
  have hgw := box_lt hX
  obtain ⟨a0, a1, a2, a3, a4, a5, a6⟩ := seven_cells hX
  have HH := Lib.hid h
  have hN1 := heap_alloc_new w (.cells #[.int .i64 t.kind, .string (txt t.text), .int .i64 t.num, .int .i64 t.at_] 45)
  obtain ⟨n0, n1, n2, n3⟩ : (w.alloc (.cells #[.int .i64 t.kind, .string (txt t.text), .int .i64 t.num, .int .i64 t.at_] 45)).cell? ⟨w.heap.size, 0, none⟩ = some (.int .i64 t.kind) ∧ (w.alloc (.cells #[.int .i64 t.kind, .string (txt t.text), .int .i64 t.num, .int .i64 t.at_] 45)).cell? ⟨w.heap.size, 1, none⟩ = some (.string (txt t.text)) ∧ (w.alloc (.cells #[.int .i64 t.kind, .string (txt t.text), .int .i64 t.num, .int .i64 t.at_] 45)).cell? ⟨w.heap.size, 2, none⟩ = some (.int .i64 t.num) ∧ (w.alloc (.cells #[.int .i64 t.kind, .string (txt t.text), .int .i64 t.num, .int .i64 t.at_] 45)).cell? ⟨w.heap.size, 3, none⟩ = some (.int .i64 t.at_) := ⟨box_cell hN1 0, box_cell hN1 1, box_cell hN1 2, box_cell hN1 3⟩
  clear hX h hN1 a1 a2 a3 a4 a5 a6
  cases wh with
  | some x =>
    have e0 : stN o (some x) = 2 := rfl
    rw [e0] at a0
    clear e0
    go_enter Tryd.func21, Tryd.ntmps21
    go_wp2_with fail
    go_ret
    exact .inl ⟨4, by simp [stepP, psOf], rfl, below_new w _⟩
  | none =>
    have e0 : stN o none = 0 ∨ stN o none = 1 := by unfold stN; cases o <;> simp
    obtain ⟨st, hst⟩ : ∃ st, stN o none = st := ⟨_, rfl⟩
    rw [hst] at a0 e0
    have d2 : (st == 2) = false := beq_eq_false_iff_ne.2 (by omega)
    have htl : (txt t.text).toList = t.text := txt_toList _
    obtain ⟨w1, hw1⟩ : ∃ x, x = w.alloc (.cells #[.int .i64 t.kind, .string (txt t.text), .int .i64 t.num, .int .i64 t.at_] 45) := ⟨_, rfl⟩
    have hB1 : Below w.heap.size w w1 := by rw [hw1]; exact below_new _ _
    have h1 : RSt b K w1 g o none := by
      obtain ⟨⟨vo, q1, q2, q3⟩, q4⟩ := HH.out
      exact ⟨⟨vo, (hB1.block g hgw).trans q1, q2.on hB1, q3⟩, q4⟩
    have hb1 : b ≤ w1.heap.size := Nat.le_trans hb hB1.size
    by_cases c1 : t.kind = 3
    · have e1 : (((t.kind : Nat) : Int) != 3) = false := by simp [c1]
      by_cases c2 : t.text = [46]
      · have e2 : ((txt t.text).toList == [46]) = true := by rw [htl, c2]; rfl
        have HP := Lib.hid (put_leaf b K g t o w1 hb1 hK h1)
        have HS : Hid (stepP t (psOf o none) = .ok (putP (o.map LN.bare) (leaf t))) := Lib.hid (by simp [stepP, psOf, c2])
        clear c1 c2 h1 htl hB1 hst
        go_enter Tryd.func21, Tryd.ntmps21
        go_wp2_with fail
        rw [← hw1]
        refine HP.out.mono ?_
        rintro e w2 ⟨rfl, ⟨o', wh', p1, p2⟩, p3⟩
        go_wp2
        go_ret
        exact .inr ⟨o', wh', by rw [HS.out, ← p2], rfl, p1, ((by rw [hw1]; exact below_new w _ : Below w.heap.size w w1).mono hb).trans p3⟩
      · have e2 : ((txt t.text).toList == [46]) = false := by rw [htl]; simpa using c2
        by_cases c3 : t.text = [40]
        · have e3 : ((txt t.text).toList == [40]) = true := by rw [htl, c3]; rfl
          by_cases c4 : o.length = 16
          · have HP := Lib.hid (begin_full b K g o t.at_ w1 h1 c4)
            have HS : Hid (stepP t (psOf o none) = .error 2) := Lib.hid (by simp [stepP, psOf, c1, c3, c4])
            clear c1 c2 c3 c4 h1 htl hB1 hst
            go_enter Tryd.func21, Tryd.ntmps21
            go_wp2_with fail
            rw [← hw1]
            refine HP.out.mono ?_
            rintro e w2 ⟨rfl, p1⟩
            rw [p1, hw1]
            go_wp2
            go_ret
            exact .inl ⟨2, HS.out, rfl, below_new w _⟩
          · have HP := Lib.hid (begin_ok b K g o t.at_ w1 hb1 hK h1 c4)
            have HS : Hid (stepP t (psOf o none) = .ok (psOf (newL t.at_ :: o) none)) := Lib.hid (by simp [stepP, psOf, c1, c3, c4, newL, LN.bare_eq, LN.kind, LN.text, LN.num, LN.at_, LN.l])
            clear c1 c2 c3 c4 h1 htl hB1 hst
            go_enter Tryd.func21, Tryd.ntmps21
            go_wp2_with fail
            rw [← hw1]
            refine HP.out.mono ?_
            rintro e w2 ⟨rfl, p1, p2⟩
            go_wp2
            go_ret
            exact .inr ⟨_, none, HS.out, rfl, p1, ((by rw [hw1]; exact below_new w _ : Below w.heap.size w w1).mono hb).trans p2⟩
        · have e3 : ((txt t.text).toList == [40]) = false := by rw [htl]; simpa using c3
          by_cases c5 : t.text = [41]
          · have e5 : ((txt t.text).toList == [41]) = true := by rw [htl, c5]; rfl
            have e5' : (txt t.text).toList = [41] := by rw [htl, c5]
            cases o with
            | nil =>
              have e6 : st = 0 := by rw [← hst]; rfl
              subst e6
              have HS : Hid (stepP t (psOf [] none) = .error 4) := Lib.hid (by simp [stepP, psOf, c1, c5])
              clear c1 c2 c3 c5 h1 htl hB1 hst hw1
              go_enter Tryd.func21, Tryd.ntmps21
              go_wp2_with fail
              go_ret
              exact .inl ⟨4, HS.out, rfl, below_new w _⟩
            | cons q r =>
              have e6 : st = 1 := by rw [← hst]; rfl
              subst e6
              have HP := Lib.hid (end_any b K g q r w1 hb1 hK h1)
              have HS : Hid (stepP t (psOf (q :: r) none) = .ok (putP (r.map LN.bare) q.bare)) := Lib.hid (by simp [stepP, psOf, c1, c5])
              clear c1 c2 c3 c5 h1 htl hB1 hst
              go_enter Tryd.func21, Tryd.ntmps21
              go_wp2_with fail
              rw [← hw1]
              refine HP.out.mono ?_
              rintro e w2 ⟨rfl, ⟨o', wh', p1, p2⟩, p3⟩
              go_wp2
              go_ret
              exact .inr ⟨o', wh', by rw [HS.out]; exact congrArg Except.ok (show psOf o' wh' = _ from p2).symm, rfl, p1, ((by rw [hw1]; exact below_new w _ : Below w.heap.size w w1).mono hb).trans p3⟩
          · have e5 : ((txt t.text).toList == [41]) = false := by rw [htl]; simpa using c5
            have e5' : ¬ (txt t.text).toList = [41] := by rw [htl]; exact c5
            have HS : Hid (stepP t (psOf o none) = .error 4) := Lib.hid (by simp [stepP, psOf, c1, c2, c3, c5])
            clear c1 c2 c3 c5 h1 htl hB1 hst hw1
            go_enter Tryd.func21, Tryd.ntmps21
            go_wp2_with fail
            go_ret
            exact .inl ⟨4, HS.out, rfl, below_new w _⟩
    · have e1 : (((t.kind : Nat) : Int) != 3) = true := bne_iff_ne.2 (by omega)
      have HP := Lib.hid (put_leaf b K g t o w1 hb1 hK h1)
      have HS : Hid (stepP t (psOf o none) = .ok (putP (o.map LN.bare) (leaf t))) := Lib.hid (by simp [stepP, psOf, c1])
      clear c1 h1 htl hB1 hst
      go_enter Tryd.func21, Tryd.ntmps21
      go_wp2_with fail
      rw [← hw1]
      refine HP.out.mono ?_
      rintro e w2 ⟨rfl, ⟨o', wh', p1, p2⟩, p3⟩
      go_wp2
      go_ret
      exact .inr ⟨o', wh', by rw [HS.out, ← p2], rfl, p1, ((by rw [hw1]; exact below_new w _ : Below w.heap.size w w1).mono hb).trans p3⟩
end Go.Proofs.YtceomdbahiimlaaDoor.T14
