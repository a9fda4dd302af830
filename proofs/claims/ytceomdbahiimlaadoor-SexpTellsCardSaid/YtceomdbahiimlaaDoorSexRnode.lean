/-
  The document's own reader of nodes (truffleref14.is, place, node).
-/
import Derived.Test.YtceomdbahiimlaaDoorSlWalk
namespace Go.Proofs.YtceomdbahiimlaaDoor.T14
set_option maxRecDepth 100000

open Go.RowKit

def isB (l : List T) (k : Nat) (s : List UInt8) : Bool :=
  match l[k]? with
  | some t => decide (t.kind = 3) && decide (t.text = s)
  | none => false
set_option maxRecDepth 1000000 in
set_option maxHeartbeats 4000000 in
theorem is_any (l : List T) (A : Option Addr) (c : Nat) (k : Nat) (s : List UInt8) (w : World) (h : SlT w A c l) :
    Calls Tryd.prog 38 #[.slice A l.length c, .int .i64 k, .string (tx s)] w fun e w' => e = .returned (.bool (isB l k s)) ∧ w = w' := by
  by_cases hk : k < l.length
  · obtain ⟨ad, t, rfl, hadb, ht, t0, t1, t2, t3⟩ := SlT.at_ h hk
    have HB : Hid (isB l k s = (decide (t.kind = 3) && ((txt t.text).toList == (tx s).toList))) := Lib.hid (by
      unfold isB
      rw [ht, txt_toList, show (tx s).toList = s from txt_toList _]
      show (decide (t.kind = 3) && decide (t.text = s)) = _
      rw [Bool.eq_iff_iff]
      simp)
    clear h ht
    go_enter Tryd.func38, Tryd.ntmps38
    by_cases h3 : t.kind = 3
    · rw [h3] at t0 HB
      go_wp2
      go_ret
      exact ⟨by rw [HB.out]; rfl, by first | rfl | trivial⟩
    · have h4 : ((t.kind : Int) == 3) = false := by rw [beq_eq_false_iff_ne]; omega
      have HB2 : Hid (isB l k s = false) := Lib.hid (by rw [HB.out]; simp [h3])
      clear HB
      go_wp2
      go_ret
      exact ⟨by rw [HB2.out]; rfl, by first | rfl | trivial⟩
  · have HB : Hid (isB l k s = false) := Lib.hid (by unfold isB; rw [List.getElem?_eq_none (by omega)])
    clear h
    go_enter Tryd.func38, Tryd.ntmps38
    go_wp2
    go_ret
    exact ⟨by rw [HB.out]; rfl, by first | rfl | trivial⟩
set_option maxRecDepth 1000000 in
set_option maxHeartbeats 4000000 in
theorem place_any (l : List T) (A : Option Addr) (c : Nat) (k n : Nat) (w : World) (h : SlT w A c l) :
    Calls Tryd.prog 24 #[.slice A l.length c, .int .i64 k, .int .i64 n] w fun e w' => e = .returned (.int .i64 (match l[k]? with | some t => (t.at_ : Int) | none => (n : Int))) ∧ w = w' := by
  by_cases hk : k < l.length
  · obtain ⟨ad, t, rfl, hadb, ht, t0, t1, t2, t3⟩ := SlT.at_ h hk
    rw [ht]
    clear h ht
    go_enter Tryd.func24, Tryd.ntmps24
    go_wp2
    go_ret
    exact ⟨rfl, by first | rfl | trivial⟩
  · rw [List.getElem?_eq_none (by omega)]
    clear h
    go_enter Tryd.func24, Tryd.ntmps24
    go_wp2
    go_ret
    exact ⟨rfl, by first | rfl | trivial⟩
/-- A node more at the end of a list of one's own, whose own box is apart. -/
theorem list_pushK {G k g8 c8 K : Nat} {p : Int} {wr WX w8 : World} {Av : Option Addr} {cv : Nat} {Xs : List LN} {Y : LN} {Ay : Option Addr} {m cy : Nat} (hlX : Lies (G + 1) K WX (LN.mk 4 [] 0 p (.slice Av k cv) Xs).rows) (hlY : Lies wr.heap.size K WX Y.rows)
    (hL : Lies (G + 1) K wr (LN.mk 4 [] 0 p (.slice Av k cv) Xs).rows) (hwr : wr.heap.size ≤ WX.heap.size) (hG : G < wr.heap.size) (hXl : Xs.length = k) (hgy : Y.g = .slice Ay m cy) (hk : k + 1 ≤ K)
    (ho : w8.ownsRow (G + 1) 24 5 (.slice (some ⟨g8, 0, none⟩) (k + 1) c8) (k + 1) (Xs.flatMap LN.cells ++ [.int .i64 Y.kind, .string (tx Y.text), .int .i64 Y.num, .int .i64 Y.at_, .slice Ay m cy])) (hg : WX.grownBy w8 (Value.slice Av k cv).ownBlock) (hat : (Value.slice Av k cv).ownBlock = some g8 ∨ WX.heap.size ≤ g8) (u : Value) :
    Lies (G + 1) K (w8.setCell ⟨G, 4, none⟩ u) (LN.mk 4 [] 0 p (.slice (some ⟨g8, 0, none⟩) (k + 1) c8) (Xs ++ [Y])).rows := by
  have e1 : (LN.mk 4 [] 0 p (.slice Av k cv) Xs).rows = rwN (LN.mk 4 [] 0 p (.slice Av k cv) Xs) :: rowsL Xs := by rw [LN.rows_eq]; rfl
  have h1 := hlX.app (hlY.less hG) (fun i hi hm => by
    have := (hL.old hi).2
    have := (hlY.old hm).1
    omega)
  rw [e1, List.cons_append] at h1
  have h2 := Lies.push (l1 := []) (K' := K) h1 hg (n' := k + 1) ho hat hk (Nat.le_refl _)
  have e2 : (LN.mk 4 [] 0 p (.slice (some ⟨g8, 0, none⟩) (k + 1) c8) (Xs ++ [Y])).rows = [] ++ (⟨24, 5, .slice (some ⟨g8, 0, none⟩) (k + 1) c8, k + 1, Xs.flatMap LN.cells ++ [.int .i64 Y.kind, .string (tx Y.text), .int .i64 Y.num, .int .i64 Y.at_, .slice Ay m cy]⟩ : Rw) :: (rowsL Xs ++ Y.rows) := by
    rw [LN.rows_eq]
    show rwN _ :: rowsL (Xs ++ [Y]) = _
    rw [rowsL_append, rowsL_cons, show rowsL ([] : List LN) = [] from rfl, List.append_nil, List.nil_append]
    congr 1
    simp only [rwN, LN.l, LN.g, List.length_append, hXl, List.length_cons, List.length_nil, List.flatMap_append, List.flatMap_cons, List.flatMap_nil, List.append_nil, LN.cells, ← hgy]
  rw [e2]
  exact h2.kept fun j hj => set_far (by have := (h2.old hj).1; omega)
/-- What node tells: a node and the place behind it, or an error and where it stands. -/
def NdR (TT : List T) (a i : Nat) (n : Nd) (nx er : Nat) : Prop :=
  (er = 0 ∧ a < nx ∧ nx ≤ TT.length ∧ ∀ o : List Nd, o.length = i → runP (TT.drop a) ⟨o, none⟩ = runP (TT.drop nx) (putP o n)) ∨
  (er ≠ 0 ∧ n = Nd.zero ∧ ∀ o : List Nd, o.length = i → (∀ t, TT[nx]? = some t → runP (TT.drop a) ⟨o, none⟩ = .error (er, t.at_)) ∧ (TT[nx]? = none → er = 4 ∧ ∃ p, runP (TT.drop a) ⟨o, none⟩ = .ok p ∧ p.w = none))
def NodePost (TT : List T) (a i : Nat) (w : World) (e : Ending) (w' : World) : Prop :=
  ∃ (X : LN) (nx er : Nat), e = .returned (.tuple #[X.val, .int .i64 nx, .int .i64 er]) ∧ Lies w.heap.size 1200 w' X.rows ∧ Below w.heap.size w w' ∧ NdR TT a i X.bare nx er ∧ nx ≤ TT.length
def NodeH (TT : List T) (f : Nat) : Prop := ∀ (a i : Nat) (w : World) (A : Option Addr) (c : Nat), a ≤ TT.length → TT.length - a < f → i ≤ 16 → (i ≠ 0 → isB TT a [41] = false) → SlT w A c TT →
  Calls Tryd.prog 23 #[.slice A TT.length c, .int .i64 a, .int .i64 i] w (NodePost TT a i w)
theorem drop_cons {l : List T} {k : Nat} {t : T} (h : l[k]? = some t) : l.drop k = t :: l.drop (k + 1) := drop_at_cons h
theorem run_leaf {TT : List T} {a : Nat} {t : T} (h : TT[a]? = some t) (hs : t.kind ≠ 3 ∨ t.text = [46]) (o : List Nd) : runP (TT.drop a) ⟨o, none⟩ = runP (TT.drop (a + 1)) (putP o (leaf t)) := by
  rw [drop_cons h, runP]
  have : stepP t ⟨o, none⟩ = .ok (putP o (leaf t)) := by simp [stepP, hs]
  rw [this]
theorem run_open {TT : List T} {a : Nat} {t : T} (h : TT[a]? = some t) (h3 : t.kind = 3) (h4 : t.text = [40]) (o : List Nd) (ho : o.length < 16) : runP (TT.drop a) ⟨o, none⟩ = runP (TT.drop (a + 1)) ⟨.mk 4 [] 0 t.at_ [] :: o, none⟩ := by
  rw [drop_cons h, runP]
  have : stepP t ⟨o, none⟩ = .ok ⟨.mk 4 [] 0 t.at_ [] :: o, none⟩ := by
    have : o.length ≠ 16 := by omega
    simp [stepP, h3, h4, this]
  rw [this]
theorem run_deep {TT : List T} {a : Nat} {t : T} (h : TT[a]? = some t) (h3 : t.kind = 3) (h4 : t.text = [40]) (o : List Nd) (ho : o.length = 16) : runP (TT.drop a) ⟨o, none⟩ = .error (2, t.at_) := by
  rw [drop_cons h, runP]
  have : stepP t ⟨o, none⟩ = .error 2 := by simp [stepP, h3, h4, ho]
  rw [this]
theorem run_close {TT : List T} {a : Nat} {t : T} (h : TT[a]? = some t) (h3 : t.kind = 3) (h4 : t.text = [41]) (q : Nd) (o : List Nd) : runP (TT.drop a) ⟨q :: o, none⟩ = runP (TT.drop (a + 1)) (putP o q) := by
  rw [drop_cons h, runP]
  have : stepP t ⟨q :: o, none⟩ = .ok (putP o q) := by simp [stepP, h3, h4]
  rw [this]
theorem run_bad {TT : List T} {a : Nat} {t : T} (h : TT[a]? = some t) (h3 : t.kind = 3) (h4 : t.text ≠ [46]) (h5 : t.text ≠ [40]) (o : List Nd) (h6 : o ≠ [] → t.text ≠ [41]) : runP (TT.drop a) ⟨o, none⟩ = .error (4, t.at_) := by
  rw [drop_cons h, runP]
  have : stepP t ⟨o, none⟩ = .error 4 := by
    by_cases h7 : t.text = [41]
    · cases o with
      | nil => simp [stepP, h3, h7]
      | cons q r => exact absurd h7 (h6 (by simp))
    · simp [stepP, h3, h4, h5, h7]
  rw [this]
end Go.Proofs.YtceomdbahiimlaaDoor.T14
