/-
  The records from one place to another one, handed on one by one: the function that makes the iterator, and what it hands on to whatever loop ranges over it.
-/
import Derived.RangeFuncNested
import Derived.RangeFuncBound
import Derived.RangeFuncCalls
import Derived.RangeFuncLeaves
import Derived.Shelf.Abstract
import Derived.Shelf.RegionOpen
import Derived.OwnWalkIn
import Derived.TacticsInMore
import Derived.LoopNIn
import Derived.LoopIn
import Derived.Test.YtpaggpcpflmpcaaDoorRecRall
namespace Go.Proofs.YtpaggpcpflmpcaaDoor
open Go.RowKit Go.Shelf

attribute [local go_sem] Oper.semAt_some

theorem next_err {l : List UInt8} {a u : Int} {r : Rc} {p x : Nat} (h : nextR l a u = (r, p, x)) (hx : x ≠ 0) : r = Rc.zero ∧ p = 0 := by
  unfold nextR restR runR at h
  split at h
  · split at h
    · split at h
      · split at h
        · simp only [Prod.mk.injEq] at h; omega
        · simp only [Prod.mk.injEq] at h; exact ⟨h.1.symm, h.2.1.symm⟩
      · simp only [Prod.mk.injEq] at h; omega
    · simp only [Prod.mk.injEq] at h; exact ⟨h.1.symm, h.2.1.symm⟩
  · simp only [Prod.mk.injEq] at h; exact ⟨h.1.symm, h.2.1.symm⟩

/-- What is handed on: the records, and, where one has an error, that, beside a record of nothing. -/
def pairsR (X : List Rc × Nat) : List (Rc × Nat) := X.1.map (fun r => (r, 0)) ++ (if X.2 = 0 then [] else [(Rc.zero, X.2)])
def encR (x : Rc × Nat) : Array Value := #[RV x.1, .int .i64 x.2]
theorem pairs_end {l : List UInt8} {u a : Nat} (h : ¬ a < u) : pairsR (recs l u a) = [] := by rw [recs_end h]; rfl
theorem pairs_step {l : List UInt8} {u a : Nat} {r : Rc} {p : Nat} (h : a < u) (hn : nextR l a u = (r, p, 0)) : pairsR (recs l u a) = (r, 0) :: pairsR (recs l u p) := by
  rw [recs_step h hn]; simp [pairsR]
theorem pairs_stop {l : List UInt8} {u a : Nat} {r : Rc} {p e : Nat} (h : a < u) (hn : nextR l a u = (r, p, e)) (he : e ≠ 0) : pairsR (recs l u a) = [(r, e)] := by
  rw [recs_stop h hn he, (next_err hn he).1]; simp [pairsR, he]

theorem each_any (A : Option Addr) (c : Nat) (l : List UInt8) (a u : Int) (w : World) :
    Calls Tryd.prog 23 #[.slice A l.length c, .int .i64 a, .int .i64 u] w fun e w' =>
      e = .returned (.func (.func 35) #[] #[.pointer (some ⟨w.heap.size + 1, 0, none⟩), .pointer (some ⟨w.heap.size + 2, 0, none⟩), .pointer (some ⟨w.heap.size, 0, none⟩)]) ∧
      w' = ((w.alloc (.cells #[.slice A l.length c] 22)).alloc (.cells #[.int .i64 a] 3)).alloc (.cells #[.int .i64 u] 3) := by
  have hmf : ∀ (fn : Fn) (first cap : Array Value) (w : World), (Instr.makeFunc fn first cap).run Tryd.prog w = .ok (.func fn first cap) w := fun _ _ _ _ => rfl
  go_enter Tryd.func23, Tryd.ntmps23
  go_wp2
  go_ret
  exact ⟨rfl, rfl⟩

/-- What lay below n lies as it lay, and so do the blocks from m to k. -/
def Kept (n m k : Nat) (W W' : World) : Prop := Below n W W' ∧ ∀ j, m ≤ j → j < k → W'.heap[j]? = W.heap[j]?
theorem Kept.refl (n m k : Nat) (W : World) : Kept n m k W W := ⟨Below.refl _ _, fun _ _ _ => rfl⟩
theorem Kept.trans {n m k : Nat} {A B C : World} (h : Kept n m k A B) (g : Kept n m k B C) : Kept n m k A C := ⟨h.1.trans g.1, fun j hm hk => (g.2 j hm hk).trans (h.2 j hm hk)⟩
theorem Kept.of_below {n m k B : Nat} {W W' : World} (h : Below B W W') (hn : n ≤ B) (hk : k ≤ B) : Kept n m k W W' := ⟨h.mono hn, fun j _ hj => h.block j (by omega)⟩
theorem Kept.cell {n m k b : Nat} {W W' : World} {v : Value} (h : Kept n m k W W') (hm : m ≤ b) (hk : b < k) (hc : W.cell? ⟨b, 0, none⟩ = some v) : W'.cell? ⟨b, 0, none⟩ = some v := by
  simp only [World.cell?, h.2 b hm hk] at hc ⊢
  exact hc
theorem Kept.put {n m k : Nat} {w : World} (hn : n ≤ w.heap.size) (hk : k ≤ w.heap.size) (W : World) (l : Nat) (o o' : Obj) (hl : w.heap.size ≤ l) (h : W.heap[l]? = some o) (h1 : o.isCells = false) (h2 : o.isWalk = false) : Kept n m k W (W.putObj l o') :=
  ⟨belowK_b hn W l o o' hl h h1 h2, fun j _ hj => World.putObj_heap_other (by omega)⟩
theorem Kept.own {β : Type} {n m k : Nat} {W0 : World} (hn : n ≤ W0.heap.size) (hk : k ≤ W0.heap.size) : OwnFrom W0.heap.size (fun (_ : β) W => Kept n m k W0 W) := fun s X Y row hs hg hr =>
  ⟨ownFrom_below (β := Unit) hn hn () X Y row hs.1 hg hr, fun j hm hj => (hg.block j (by have := hs.1.size; omega) (fun e => by have := (hr j e.symm).1; omega)).trans (hs.2 j hm hj)⟩

set_option maxRecDepth 1000000 in
set_option maxHeartbeats 2000000 in
/-- The iterator, for every loop that keeps what lay below n₀. -/
theorem each1_in (n : Nat) (lp Ba Bu Bb n₀ m₀ k₀ : Nat) (hba : m₀ ≤ Ba ∧ Ba < k₀) (hbu : m₀ ≤ Bu ∧ Bu < k₀) (hbb : m₀ ≤ Bb ∧ Bb < k₀) (A : Option Addr) (c : Nat) (l : List UInt8) (a u : Nat) (hl : l.length ≤ 1000000) (hau : a ≤ u) (hul : u ≤ l.length) (J Jx : List (Rc × Nat) → World → Prop)
    (W : World) (hn₀ : n₀ ≤ W.heap.size) (hk₀ : k₀ ≤ W.heap.size)
    (hJ : AbidesFrom W.heap.size J)
    (hY : ∀ pre x W1, J pre W1 → pre.length < (pairsR (recs l u a)).length → YieldAt Fence.wide (n - 1) Tryd.prog lp (encR x) W1 fun e W' =>
      (e = .returned (.bool true) ∧ J (pre ++ [x]) W' ∧ Kept n₀ m₀ k₀ W1 W') ∨ (e = .returned (.bool false) ∧ Jx (pre ++ [x]) W'))
    (cBa : W.cell? ⟨Ba, 0, none⟩ = some (.int .i64 a)) (cBu : W.cell? ⟨Bu, 0, none⟩ = some (.int .i64 u)) (cBb : W.cell? ⟨Bb, 0, none⟩ = some (.slice A l.length c))
    (h1 : ∀ W', Below n₀ W W' → SlB W' A c l ∧ Wires W') (h0 : J [] W) :
    CallsIn Fence.wide n Tryd.prog 35 #[.func (.yield lp) #[] #[], .pointer (some ⟨Ba, 0, none⟩), .pointer (some ⟨Bu, 0, none⟩), .pointer (some ⟨Bb, 0, none⟩)] W fun e W' => (∃ v, e = .returned v) ∧
      ((∃ ys, ys = pairsR (recs l u a) ∧ J ys W') ∨ (∃ pre, pre <+: pairsR (recs l u a) ∧ Jx pre W')) := by
  refine callsIn_of_wp Tryd.func35 rfl trivial ?_ rfl
  simp only [Tryd.ntmps35, List.size_toArray, List.length_cons, List.length_nil, Nat.reduceAdd, Nat.reduceSub, Array.replicate_succ, Array.replicate_zero, List.push_toArray, List.append_toArray, List.nil_append, List.cons_append]
  generalize hX : pairsR (recs l u a) = X at *
  gi_wp2
  gi_loopw [5] (fun i wr => ∃ (p : Nat) (pre : List (Rc × Nat)), i = .int .i64 p ∧ a ≤ p ∧ p ≤ u ∧ X = pre ++ pairsR (recs l u p) ∧ J pre wr ∧ Kept n₀ m₀ k₀ W wr) (fun i _ => u - (intOf i).toNat)
  case atStart => exact ⟨a, [], rfl, by omega, by omega, by rw [← hX]; rfl, h0, Kept.refl _ _ _ _⟩
  case round =>
    obtain ⟨p, pre, rfl, hap, hpu, hx, hJs, hb⟩ := hrel
    have cu := hb.cell hbu.1 hbu.2 cBu
    have cb := hb.cell hbb.1 hbb.2 cBb
    obtain ⟨hs, hT⟩ := h1 _ hb.1
    by_cases hlt : p < u
    · obtain ⟨r, q, x, hn⟩ : ∃ r q x, nextR l p u = (r, q, x) := ⟨_, _, _, rfl⟩
      have HN := Lib.hid hn
      gi_wp2_with fail
      refine ⟨trivial, fun h => absurd h (by simp [Fence.wide]), (callsIn_wide.2 (next_any A c l p u (by omega) _ hs hT)).mono ?_⟩
      rw [HN.out]
      rintro e w2 ⟨rfl, hb2⟩
      unfold NV RV
      have hb3 : Below wr.heap.size wr (w2.alloc (.cells #[.int .i64 r.no, .int .i64 r.wire, .int .u64 r.num, .int .i64 r.frm, .int .i64 r.upto] 25)) := below_lit hb2 _
      have hJ3 : J pre (w2.alloc (.cells #[.int .i64 r.no, .int .i64 r.wire, .int .u64 r.num, .int .i64 r.frm, .int .i64 r.upto] 25)) :=
        hJ _ _ _ none hJs ⟨hb3.os, hb3.tape, hb3.output, hb3.size, fun k hk _ => hb3.block k hk⟩ (fun r h => by cases h)
      have hlen : pre.length < X.length := by
        by_cases h0 : x = 0
        · subst h0
          rw [hx, pairs_step hlt hn]; simp
        · rw [hx, pairs_stop hlt hn h0]; simp
      obtain ⟨fn, tmps, assign, body, hy, hR⟩ := hY pre (r, x) _ hJ3 hlen
      dsimp only [encR, RV] at hy
      clear hJ3
      have hb4 : Kept n₀ m₀ k₀ wr (w2.alloc (.cells #[.int .i64 r.no, .int .i64 r.wire, .int .u64 r.num, .int .i64 r.frm, .int .i64 r.upto] 25)) := Kept.of_below hb3 (Nat.le_trans hn₀ hb.1.size) (Nat.le_trans hk₀ hb.1.size)
      by_cases h0 : x = 0
      · subst h0
        have HX : Hid (X = pre ++ [(r, 0)] ++ pairsR (recs l u q)) := Lib.hid (by rw [hx, pairs_step hlt hn]; simp)
        obtain ⟨-, hk1, hk2, -, -, -, -⟩ := next_ok hn
        clear hn hx hX
        rw [show ((0 : Nat) : Int) = 0 from rfl] at hy
        gi_wp2
        refine ⟨fun h => absurd h (by simp [Fence.wide]), hR.mono ?_⟩
        rintro e W3 (⟨rfl, hJ3, hk3⟩ | ⟨rfl, hJx3⟩)
        · gi_wp2
          go_roundw
          case rel => exact ⟨q, pre ++ [(r, 0)], rfl, by omega, by omega, HX.out, hJ3, (hb.trans hb4).trans hk3⟩
          case measure => simp [intOf]; omega
        · gi_wp2
          refine bodyPost_ret (results_none rfl _ _ _) rfl ?_
          exact ⟨⟨_, rfl⟩, .inr ⟨pre ++ [(r, 0)], ⟨_, HX.out.symm⟩, hJx3⟩⟩
      · have HX : Hid (X = pre ++ [(r, x)]) := Lib.hid (by rw [hx, pairs_stop hlt hn h0])
        have hx0 : ((x : Int) != 0) = true := by simp; omega
        clear hn hx hX h0
        gi_wp2
        refine ⟨fun h => absurd h (by simp [Fence.wide]), hR.mono ?_⟩
        rintro e W3 (⟨rfl, hJ3, hk3⟩ | ⟨rfl, hJx3⟩)
        · gi_wp2
          refine bodyPost_ret (results_none rfl _ _ _) rfl ?_
          exact ⟨⟨_, rfl⟩, .inl ⟨_, HX.out.symm, hJ3⟩⟩
        · gi_wp2
          refine bodyPost_ret (results_none rfl _ _ _) rfl ?_
          exact ⟨⟨_, rfl⟩, .inr ⟨pre ++ [(r, x)], ⟨[], by rw [HX.out]; simp⟩, hJx3⟩⟩
    · have hx' : X = pre := by rw [hx, pairs_end hlt]; simp
      gi_wp2
      go_end0
      exact ⟨⟨_, rfl⟩, .inl ⟨pre, hx'.symm, hJs⟩⟩
theorem each_stops (n : Nat) (Ba Bu Bb n₀ m₀ k₀ : Nat) (A : Option Addr) (c : Nat) (l : List UInt8) (a u : Nat) (hl : l.length ≤ 1000000) (hau : a ≤ u) (hul : u ≤ l.length) (w : World)
    (hba : m₀ ≤ Ba ∧ Ba < k₀) (hbu : m₀ ≤ Bu ∧ Bu < k₀) (hbb : m₀ ≤ Bb ∧ Bb < k₀) (hn₀ : n₀ ≤ w.heap.size) (hk₀ : k₀ ≤ w.heap.size)
    (cBa : w.cell? ⟨Ba, 0, none⟩ = some (.int .i64 a)) (cBu : w.cell? ⟨Bu, 0, none⟩ = some (.int .i64 u)) (cBb : w.cell? ⟨Bb, 0, none⟩ = some (.slice A l.length c)) (h1 : ∀ W', Below n₀ w W' → SlB W' A c l ∧ Wires W') :
    SeqStopsK Fence.wide n Tryd.prog 35 #[.pointer (some ⟨Ba, 0, none⟩), .pointer (some ⟨Bu, 0, none⟩), .pointer (some ⟨Bb, 0, none⟩)] encR (Kept n₀ m₀ k₀)
      (fun ys => ys = pairsR (recs l u a)) (fun pre => pre <+: pairsR (recs l u a)) (pairsR (recs l u a)).length w := fun lp J Jx W hW hJ _ hY h0 =>
  each1_in n lp Ba Bu Bb n₀ m₀ k₀ hba hbu hbb A c l a u hl hau hul J Jx W (Nat.le_trans hn₀ hW.size) (Nat.le_trans hk₀ hW.size) hJ hY ((hW.cell (p := ⟨Ba, 0, none⟩) (Nat.lt_of_lt_of_le hba.2 hk₀)).trans cBa) ((hW.cell (p := ⟨Bu, 0, none⟩) (Nat.lt_of_lt_of_le hbu.2 hk₀)).trans cBu) ((hW.cell (p := ⟨Bb, 0, none⟩) (Nat.lt_of_lt_of_le hbb.2 hk₀)).trans cBb)
    (fun W' hb => h1 W' ((hW.mono hn₀).trans hb)) h0
end Go.Proofs.YtpaggpcpflmpcaaDoor
