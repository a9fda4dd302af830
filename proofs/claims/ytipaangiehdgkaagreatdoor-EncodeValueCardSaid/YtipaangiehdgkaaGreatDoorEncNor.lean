/-
  A record's bytes: the contract of the document's own function that puts them.
-/
import Derived.Test.YtipaangiehdgkaaGreatDoorRecPut
import Derived.BigQuiet
import Derived.RangeFuncNested
import Derived.RangeFuncBound
import Derived.RangeFuncCalls
import Derived.RangeFuncLeaves
import Derived.Shelf.Abstract
import Derived.Shelf.RegionOpen
import Derived.OwnWalkIn
import Derived.TacticsInMore
import Derived.LoopNIn
import Derived.LoopIn
import Derived.Test.YtipaangiehdgkaaGreatDoorTrIn
import Derived.Test.YtipaangiehdgkaaGreatDoorTagKnown
namespace Go.Proofs.YtipaangiehdgkaaGreatDoor
set_option maxRecDepth 100000

open Go.RowKit

end Go.Proofs.YtipaangiehdgkaaGreatDoor
/-
  Slices of records that read as lists; the contract of the function that holds two of them against each other.
-/
namespace Go.Proofs.YtipaangiehdgkaaGreatDoor
set_option maxRecDepth 100000

open Go.RowKit

def rs (l : List Rc) : List Value := l.flatMap RC
theorem rs_append (a b : List Rc) : rs (a ++ b) = rs a ++ rs b := by simp [rs]
theorem rs_cons (r : Rc) (l : List Rc) : rs (r :: l) = RC r ++ rs l := by simp [rs]
theorem rs_get : ∀ (l : List Rc) (k j : Nat) (r : Rc), l[k]? = some r → j < 5 → (rs l)[k * 5 + j]? = (RC r)[j]?
  | [], k, j, r, h, _ => by simp at h
  | x :: l, 0, j, r, h, hj => by
    obtain rfl : x = r := by simpa using h
    rw [rs_cons, Nat.zero_mul, Nat.zero_add, List.getElem?_append_left (by simp [RC]; omega)]
  | x :: l, k + 1, j, r, h, hj => by
    rw [rs_cons, List.getElem?_append_right (by simp [RC]; omega)]
    rw [show (k + 1) * 5 + j - (RC x).length = k * 5 + j by simp [RC]; omega]
    exact rs_get l k j r (by simpa using h) hj
theorem rs_one (a : List Rc) : ∀ u ∈ rs a, u.oneCell' = true := by
  intro u hu
  obtain ⟨r, _, hr⟩ := List.mem_flatMap.1 hu
  simp only [RC, List.mem_cons, List.not_mem_nil, or_false] at hr
  rcases hr with rfl | rfl | rfl | rfl | rfl <;> rfl
/-- A slice of records that reads as the list l. -/
def SlR (w : World) (A : Option Addr) (c : Nat) (l : List Rc) : Prop := Sl w A l.length c 5 (rs l)
theorem SlR.on {w w' : World} {A : Option Addr} {c : Nat} {l : List Rc} (h : SlR w A c l) (hb : Below w.heap.size w w') : SlR w' A c l := Sl.on h hb
theorem SlR.nil (w : World) : SlR w none 0 [] := Sl.nothing w 5
theorem SlR.small {w : World} {A : Option Addr} {c : Nat} {l : List Rc} (h : SlR w A c l) : l.length ≤ 9223372036854775807 ∧ c ≤ 9223372036854775807 := by
  have h1 := Sl.le h
  have h2 := Sl.cap h
  unfold maxLen at h2
  omega
theorem SlR.of_own {w : World} {base : Nat} {e : TypeId} {v : Value} {l : List Rc} (h : w.ownsRow base e 5 v l.length (rs l)) : ∃ A c, v = .slice A l.length c ∧ SlR w A c l := Sl.of_own h
/-- The record at k: its address, and its cells. -/
theorem SlR.at_ {w : World} {A : Option Addr} {c : Nat} {l : List Rc} (h : SlR w A c l) {k : Nat} (hk : k < l.length) : ∃ ad r, A = some ad ∧ ad.block < w.heap.size ∧ l[k]? = some r ∧
    w.cell? (ad.add (k * 5)) = some (.int .i64 r.no) ∧ w.cell? ⟨(ad.add (k * 5)).block, (ad.add (k * 5)).off + 1, none⟩ = some (.int .i64 r.wire) ∧ w.cell? ⟨(ad.add (k * 5)).block, (ad.add (k * 5)).off + 2, none⟩ = some (.int .u64 r.num) ∧
    w.cell? ⟨(ad.add (k * 5)).block, (ad.add (k * 5)).off + 3, none⟩ = some (.int .i64 r.frm) ∧ w.cell? ⟨(ad.add (k * 5)).block, (ad.add (k * 5)).off + 4, none⟩ = some (.int .i64 r.upto) := by
  obtain ⟨ad, rfl, hb, hcell⟩ := Sl.there h (by omega)
  have hg : l[k]? = some l[k] := List.getElem?_eq_getElem hk
  have hadd : ∀ j : Nat, 0 < j → (⟨(ad.add (k * 5)).block, (ad.add (k * 5)).off + j, none⟩ : Addr) = ad.add (k * 5 + j) := fun j hj => by
    rw [← add_twice]
    cases j with
    | zero => omega
    | succ j => simp [Addr.add]
  refine ⟨ad, l[k], rfl, hb, hg, ?_, ?_, ?_, ?_, ?_⟩
  · exact hcell (k * 5) _ (by have := rs_get l k 0 _ hg (by omega); rw [Nat.add_zero] at this; rw [this]; rfl)
  · rw [hadd 1 (by omega)]; exact hcell _ _ (by rw [rs_get l k 1 _ hg (by omega)]; rfl)
  · rw [hadd 2 (by omega)]; exact hcell _ _ (by rw [rs_get l k 2 _ hg (by omega)]; rfl)
  · rw [hadd 3 (by omega)]; exact hcell _ _ (by rw [rs_get l k 3 _ hg (by omega)]; rfl)
  · rw [hadd 4 (by omega)]; exact hcell _ _ (by rw [rs_get l k 4 _ hg (by omega)]; rfl)

/-- A record is loaded. -/
theorem load_rec (w : World) (a : Addr) (r : Rc) (h : ∀ j v, (RC r)[j]? = some v → w.cell? (a.add j) = some v) : (Instr.loadAt 62 (.pointer (some a))).run Tryz.prog w = .ok (RV r) w := by
  have hl : (loadCells a 5).run Tryz.prog w = .ok (RC r).toArray w := run_loadCells_list (P := Tryz.prog) w a (RC r) h
  have hi := infoRec
  cases hq : Tryz.prog.info? 62 with
  | none => simp [hq] at hi
  | some i =>
    have hs : i.size = 5 := by simpa [hq] using hi
    have hagg : (isAgg 62).run Tryz.prog w = .ok true w := by
      unfold isAgg
      rw [Sem.run_bind, run_underlying Tryz.underlying62 w]
      simp
    simp only [Instr.loadAt, Instr.sureAddr, Sem.run_bind, Sem.run_pure, Result.andThen_ok]
    simp [loadVar, Sem.run_bind, hagg, sizeOf, typeInfo, hq, hs, hl, RV, RC]
theorem SlR.load {w : World} {A : Option Addr} {c : Nat} {l : List Rc} (h : SlR w A c l) {k : Nat} (hk : k < l.length) : ∃ ad r, A = some ad ∧ ad.block < w.heap.size ∧ l[k]? = some r ∧
    ∀ w' : World, w'.heap = w.heap → (Instr.loadAt 62 (.pointer (some (ad.add (k * 5))))).run Tryz.prog w' = .ok (RV r) w' := by
  obtain ⟨ad, rfl, hb, hcell⟩ := Sl.there h (by omega)
  have hg : l[k]? = some l[k] := List.getElem?_eq_getElem hk
  refine ⟨ad, l[k], rfl, hb, hg, fun w' hw' => load_rec w' _ _ fun j v hv => ?_⟩
  have hj : j < 5 := by have := (List.getElem?_eq_some_iff.1 hv).1; simpa [RC] using this
  rw [add_twice]
  have := hcell (k * 5 + j) v (by rw [rs_get l k j _ hg hj]; exact hv)
  simp only [World.cell?, hw'] at this ⊢
  exact this

end Go.Proofs.YtipaangiehdgkaaGreatDoor
/-
  All records from one place to another one, by the document's own function: its contract.
-/
namespace Go.Proofs.YtipaangiehdgkaaGreatDoor
set_option maxRecDepth 100000

open Go.RowKit

theorem infoRecs : (Tryz.prog.info? 62).map (fun i => (i.zero, i.size, i.bytes)) = some (some (.agg #[.int .i64 0, .int .i64 0, .int .u64 0, .int .i64 0, .int .i64 0]), 5, 40) := by kernel_rfl
/-- A literal of one record. -/
theorem lit_rec (w : World) (r : Rc) : Sl (w.alloc (.cells #[.int .i64 r.no, .int .i64 r.wire, .int .u64 r.num, .int .i64 r.frm, .int .i64 r.upto] 62)) (some ⟨w.heap.size, 0, none⟩) 1 1 5 (rs [r]) := by
  refine ⟨by simp [rs, RC], Nat.le_refl _, by unfold maxLen; omega, by simp, fun ad ha _ => ?_, fun ad ha k u hu => ?_⟩
  · obtain rfl := Option.some.inj ha
    simp
  · obtain rfl := Option.some.inj ha
    rw [Addr.add_lit, World.cell?_alloc_at _ _ _ _ rfl]
    simpa [rs, RC] using hu
end Go.Proofs.YtipaangiehdgkaaGreatDoor
/-
  The records from one place to another one, handed on one by one: the function that makes the iterator, and what it hands on to whatever loop ranges over it.
-/
namespace Go.Proofs.YtipaangiehdgkaaGreatDoor
set_option maxRecDepth 100000

open Go.RowKit Go.Shelf

attribute [local go_sem] Oper.semAt_some

theorem next_err {l : List UInt8} {a u : Int} {r : Rc} {p x : Nat} (h : nextR l a u = (r, p, x)) (hx : x ≠ 0) : r = Rc.zero ∧ p = 0 := by
  unfold nextR restR runR at h
  split at h
  · split at h
    · split at h
      · split at h
        · simp only [Prod.mk.injEq] at h; omega
        · simp only [Prod.mk.injEq] at h; exact ⟨h.1.symm, h.2.1.symm⟩
      · simp only [Prod.mk.injEq] at h; omega
    · simp only [Prod.mk.injEq] at h; exact ⟨h.1.symm, h.2.1.symm⟩
  · simp only [Prod.mk.injEq] at h; exact ⟨h.1.symm, h.2.1.symm⟩

/-- What is handed on: the records, and, where one has an error, that, beside a record of nothing. -/
def pairsR (X : List Rc × Nat) : List (Rc × Nat) := X.1.map (fun r => (r, 0)) ++ (if X.2 = 0 then [] else [(Rc.zero, X.2)])
def encR (x : Rc × Nat) : Array Value := #[RV x.1, .int .i64 x.2]
theorem pairs_end {l : List UInt8} {u a : Nat} (h : ¬ a < u) : pairsR (recs l u a) = [] := by rw [recs_end h]; rfl
theorem pairs_step {l : List UInt8} {u a : Nat} {r : Rc} {p : Nat} (h : a < u) (hn : nextR l a u = (r, p, 0)) : pairsR (recs l u a) = (r, 0) :: pairsR (recs l u p) := by
  rw [recs_step h hn]; simp [pairsR]
theorem pairs_stop {l : List UInt8} {u a : Nat} {r : Rc} {p e : Nat} (h : a < u) (hn : nextR l a u = (r, p, e)) (he : e ≠ 0) : pairsR (recs l u a) = [(r, e)] := by
  rw [recs_stop h hn he, (next_err hn he).1]; simp [pairsR, he]

theorem each_any (A : Option Addr) (c : Nat) (l : List UInt8) (a u : Int) (w : World) :
    Calls Tryz.prog 35 #[.slice A l.length c, .int .i64 a, .int .i64 u] w fun e w' =>
      e = .returned (.func (.func 64) #[] #[.pointer (some ⟨w.heap.size + 1, 0, none⟩), .pointer (some ⟨w.heap.size + 2, 0, none⟩), .pointer (some ⟨w.heap.size, 0, none⟩)]) ∧
      w' = ((w.alloc (.cells #[.slice A l.length c] 22)).alloc (.cells #[.int .i64 a] 3)).alloc (.cells #[.int .i64 u] 3) := by
  have hmf : ∀ (fn : Fn) (first cap : Array Value) (w : World), (Instr.makeFunc fn first cap).run Tryz.prog w = .ok (.func fn first cap) w := fun _ _ _ _ => rfl
  go_enter Tryz.func35, Tryz.ntmps35
  go_wp2
  go_ret
  exact ⟨rfl, rfl⟩

/-- What lay below n lies as it lay, and so do the blocks from m to k. -/
def Kept (n m k : Nat) (W W' : World) : Prop := Below n W W' ∧ ∀ j, m ≤ j → j < k → W'.heap[j]? = W.heap[j]?
theorem Kept.refl (n m k : Nat) (W : World) : Kept n m k W W := ⟨Below.refl _ _, fun _ _ _ => rfl⟩
theorem Kept.trans {n m k : Nat} {A B C : World} (h : Kept n m k A B) (g : Kept n m k B C) : Kept n m k A C := ⟨h.1.trans g.1, fun j hm hk => (g.2 j hm hk).trans (h.2 j hm hk)⟩
theorem Kept.of_below {n m k B : Nat} {W W' : World} (h : Below B W W') (hn : n ≤ B) (hk : k ≤ B) : Kept n m k W W' := ⟨h.mono hn, fun j _ hj => h.block j (by omega)⟩
theorem Kept.cell {n m k b : Nat} {W W' : World} {v : Value} (h : Kept n m k W W') (hm : m ≤ b) (hk : b < k) (hc : W.cell? ⟨b, 0, none⟩ = some v) : W'.cell? ⟨b, 0, none⟩ = some v := by
  simp only [World.cell?, h.2 b hm hk] at hc ⊢
  exact hc
theorem Kept.put {n m k : Nat} {w : World} (hn : n ≤ w.heap.size) (hk : k ≤ w.heap.size) (W : World) (l : Nat) (o o' : Obj) (hl : w.heap.size ≤ l) (h : W.heap[l]? = some o) (h1 : o.isCells = false) (h2 : o.isWalk = false) : Kept n m k W (W.putObj l o') :=
  ⟨belowK_b hn W l o o' hl h h1 h2, fun j _ hj => World.putObj_heap_other (by omega)⟩
theorem Kept.own {β : Type} {n m k : Nat} {W0 : World} (hn : n ≤ W0.heap.size) (hk : k ≤ W0.heap.size) : OwnFrom W0.heap.size (fun (_ : β) W => Kept n m k W0 W) := fun s X Y row hs hg hr =>
  ⟨ownFrom_below (β := Unit) hn hn () X Y row hs.1 hg hr, fun j hm hj => (hg.block j (by have := hs.1.size; omega) (fun e => by have := (hr j e.symm).1; omega)).trans (hs.2 j hm hj)⟩

set_option maxRecDepth 1000000 in
set_option maxHeartbeats 2000000 in
/-- The iterator, for every loop that keeps what lay below n₀. -/
theorem each1_in (n : Nat) (lp Ba Bu Bb n₀ m₀ k₀ : Nat) (hba : m₀ ≤ Ba ∧ Ba < k₀) (hbu : m₀ ≤ Bu ∧ Bu < k₀) (hbb : m₀ ≤ Bb ∧ Bb < k₀) (A : Option Addr) (c : Nat) (l : List UInt8) (a u : Nat) (hl : l.length ≤ 1000000) (hau : a ≤ u) (hul : u ≤ l.length) (J Jx : List (Rc × Nat) → World → Prop)
    (W : World) (hn₀ : n₀ ≤ W.heap.size) (hk₀ : k₀ ≤ W.heap.size)
    (hJ : AbidesFrom W.heap.size J)
    (hY : ∀ pre x W1, J pre W1 → pre.length < (pairsR (recs l u a)).length → YieldAt Fence.wide (n - 1) Tryz.prog lp (encR x) W1 fun e W' =>
      (e = .returned (.bool true) ∧ J (pre ++ [x]) W' ∧ Kept n₀ m₀ k₀ W1 W') ∨ (e = .returned (.bool false) ∧ Jx (pre ++ [x]) W'))
    (cBa : W.cell? ⟨Ba, 0, none⟩ = some (.int .i64 a)) (cBu : W.cell? ⟨Bu, 0, none⟩ = some (.int .i64 u)) (cBb : W.cell? ⟨Bb, 0, none⟩ = some (.slice A l.length c))
    (h1 : ∀ W', Below n₀ W W' → SlB W' A c l ∧ Wires W') (h0 : J [] W) :
    CallsIn Fence.wide n Tryz.prog 64 #[.func (.yield lp) #[] #[], .pointer (some ⟨Ba, 0, none⟩), .pointer (some ⟨Bu, 0, none⟩), .pointer (some ⟨Bb, 0, none⟩)] W fun e W' => (∃ v, e = .returned v) ∧
      ((∃ ys, ys = pairsR (recs l u a) ∧ J ys W') ∨ (∃ pre, pre <+: pairsR (recs l u a) ∧ Jx pre W')) := by
  refine callsIn_of_wp Tryz.func64 rfl trivial ?_ rfl
  simp only [Tryz.ntmps64, List.size_toArray, List.length_cons, List.length_nil, Nat.reduceAdd, Nat.reduceSub, Array.replicate_succ, Array.replicate_zero, List.push_toArray, List.append_toArray, List.nil_append, List.cons_append]
  generalize hX : pairsR (recs l u a) = X at *
  gi_wp2
  gi_loopw [5] (fun i wr => ∃ (p : Nat) (pre : List (Rc × Nat)), i = .int .i64 p ∧ a ≤ p ∧ p ≤ u ∧ X = pre ++ pairsR (recs l u p) ∧ J pre wr ∧ Kept n₀ m₀ k₀ W wr) (fun i _ => u - (intOf i).toNat)
  case atStart => exact ⟨a, [], rfl, by omega, by omega, by rw [← hX]; rfl, h0, Kept.refl _ _ _ _⟩
  case round =>
    obtain ⟨p, pre, rfl, hap, hpu, hx, hJs, hb⟩ := hrel
    have cu := hb.cell hbu.1 hbu.2 cBu
    have cb := hb.cell hbb.1 hbb.2 cBb
    obtain ⟨hs, hT⟩ := h1 _ hb.1
    by_cases hlt : p < u
    · obtain ⟨r, q, x, hn⟩ : ∃ r q x, nextR l p u = (r, q, x) := ⟨_, _, _, rfl⟩
      have HN := Lib.hid hn
      gi_wp2_with fail
      refine ⟨trivial, fun h => absurd h (by simp [Fence.wide]), (callsIn_wide.2 (next_any A c l p u (by omega) _ hs hT)).mono ?_⟩
      rw [HN.out]
      rintro e w2 ⟨rfl, hb2⟩
      unfold NV RV
      have hb3 : Below wr.heap.size wr (w2.alloc (.cells #[.int .i64 r.no, .int .i64 r.wire, .int .u64 r.num, .int .i64 r.frm, .int .i64 r.upto] 62)) := below_lit hb2 _
      have hJ3 : J pre (w2.alloc (.cells #[.int .i64 r.no, .int .i64 r.wire, .int .u64 r.num, .int .i64 r.frm, .int .i64 r.upto] 62)) :=
        hJ _ _ _ none hJs ⟨hb3.os, hb3.tape, hb3.output, hb3.size, fun k hk _ => hb3.block k hk⟩ (fun r h => by cases h)
      have hlen : pre.length < X.length := by
        by_cases h0 : x = 0
        · subst h0
          rw [hx, pairs_step hlt hn]; simp
        · rw [hx, pairs_stop hlt hn h0]; simp
      obtain ⟨fn, tmps, assign, body, hy, hR⟩ := hY pre (r, x) _ hJ3 hlen
      dsimp only [encR, RV] at hy
      clear hJ3
      have hb4 : Kept n₀ m₀ k₀ wr (w2.alloc (.cells #[.int .i64 r.no, .int .i64 r.wire, .int .u64 r.num, .int .i64 r.frm, .int .i64 r.upto] 62)) := Kept.of_below hb3 (Nat.le_trans hn₀ hb.1.size) (Nat.le_trans hk₀ hb.1.size)
      by_cases h0 : x = 0
      · subst h0
        have HX : Hid (X = pre ++ [(r, 0)] ++ pairsR (recs l u q)) := Lib.hid (by rw [hx, pairs_step hlt hn]; simp)
        obtain ⟨-, hk1, hk2, -, -, -, -⟩ := next_ok hn
        clear hn hx hX
        rw [show ((0 : Nat) : Int) = 0 from rfl] at hy
        gi_wp2
        refine ⟨fun h => absurd h (by simp [Fence.wide]), hR.mono ?_⟩
        rintro e W3 (⟨rfl, hJ3, hk3⟩ | ⟨rfl, hJx3⟩)
        · gi_wp2
          go_roundw
          case rel => exact ⟨q, pre ++ [(r, 0)], rfl, by omega, by omega, HX.out, hJ3, (hb.trans hb4).trans hk3⟩
          case measure => simp [intOf]; omega
        · gi_wp2
          refine bodyPost_ret (results_none rfl _ _ _) rfl ?_
          exact ⟨⟨_, rfl⟩, .inr ⟨pre ++ [(r, 0)], ⟨_, HX.out.symm⟩, hJx3⟩⟩
      · have HX : Hid (X = pre ++ [(r, x)]) := Lib.hid (by rw [hx, pairs_stop hlt hn h0])
        have hx0 : ((x : Int) != 0) = true := by simp; omega
        clear hn hx hX h0
        gi_wp2
        refine ⟨fun h => absurd h (by simp [Fence.wide]), hR.mono ?_⟩
        rintro e W3 (⟨rfl, hJ3, hk3⟩ | ⟨rfl, hJx3⟩)
        · gi_wp2
          refine bodyPost_ret (results_none rfl _ _ _) rfl ?_
          exact ⟨⟨_, rfl⟩, .inl ⟨_, HX.out.symm, hJ3⟩⟩
        · gi_wp2
          refine bodyPost_ret (results_none rfl _ _ _) rfl ?_
          exact ⟨⟨_, rfl⟩, .inr ⟨pre ++ [(r, x)], ⟨[], by rw [HX.out]; simp⟩, hJx3⟩⟩
    · have hx' : X = pre := by rw [hx, pairs_end hlt]; simp
      gi_wp2
      go_end0
      exact ⟨⟨_, rfl⟩, .inl ⟨pre, hx'.symm, hJs⟩⟩
theorem each_stops (n : Nat) (Ba Bu Bb n₀ m₀ k₀ : Nat) (A : Option Addr) (c : Nat) (l : List UInt8) (a u : Nat) (hl : l.length ≤ 1000000) (hau : a ≤ u) (hul : u ≤ l.length) (w : World)
    (hba : m₀ ≤ Ba ∧ Ba < k₀) (hbu : m₀ ≤ Bu ∧ Bu < k₀) (hbb : m₀ ≤ Bb ∧ Bb < k₀) (hn₀ : n₀ ≤ w.heap.size) (hk₀ : k₀ ≤ w.heap.size)
    (cBa : w.cell? ⟨Ba, 0, none⟩ = some (.int .i64 a)) (cBu : w.cell? ⟨Bu, 0, none⟩ = some (.int .i64 u)) (cBb : w.cell? ⟨Bb, 0, none⟩ = some (.slice A l.length c)) (h1 : ∀ W', Below n₀ w W' → SlB W' A c l ∧ Wires W') :
    SeqStopsK Fence.wide n Tryz.prog 64 #[.pointer (some ⟨Ba, 0, none⟩), .pointer (some ⟨Bu, 0, none⟩), .pointer (some ⟨Bb, 0, none⟩)] encR (Kept n₀ m₀ k₀)
      (fun ys => ys = pairsR (recs l u a)) (fun pre => pre <+: pairsR (recs l u a)) (pairsR (recs l u a)).length w := fun lp J Jx W hW hJ _ hY h0 =>
  each1_in n lp Ba Bu Bb n₀ m₀ k₀ hba hbu hbb A c l a u hl hau hul J Jx W (Nat.le_trans hn₀ hW.size) (Nat.le_trans hk₀ hW.size) hJ hY ((hW.cell (p := ⟨Ba, 0, none⟩) (Nat.lt_of_lt_of_le hba.2 hk₀)).trans cBa) ((hW.cell (p := ⟨Bu, 0, none⟩) (Nat.lt_of_lt_of_le hbu.2 hk₀)).trans cBu) ((hW.cell (p := ⟨Bb, 0, none⟩) (Nat.lt_of_lt_of_le hbb.2 hk₀)).trans cBb)
    (fun W' hb => h1 W' ((hW.mono hn₀).trans hb)) h0
end Go.Proofs.YtipaangiehdgkaaGreatDoor
/-
  All records from one place to another one: the contract of the function that ranges over what is handed on.
-/
namespace Go.Proofs.YtipaangiehdgkaaGreatDoor
set_option maxRecDepth 100000

open Go.RowKit Go.Shelf

attribute [local go_sem] Oper.semAt_some

theorem recsF_len (l : List UInt8) (u : Nat) : ∀ f a, (recsF l u f a).1.length ≤ f
  | 0, _ => by simp [recsF]
  | f + 1, a => by
    unfold recsF
    split
    · split
      · have := recsF_len l u f (nextR l a u).2.1
        simp only [List.length_cons]
        omega
      · simp
    · simp
theorem recs_len (l : List UInt8) (u a : Nat) : (recs l u a).1.length ≤ u - a := recsF_len l u _ _
theorem pairs_len (l : List UInt8) (u a : Nat) : (pairsR (recs l u a)).length ≤ u - a + 1 := by
  have := recs_len l u a
  unfold pairsR
  rw [List.length_append, List.length_map]
  split <;> simp <;> omega
theorem pairs_done {X : List Rc × Nat} (h : ∀ y ∈ pairsR X, y.2 = 0) : X.2 = 0 ∧ (pairsR X).map (·.1) = X.1 := by
  unfold pairsR at *
  by_cases h0 : X.2 = 0
  · exact ⟨h0, by simp [h0, Function.comp_def]⟩
  · rw [if_neg h0] at h
    have := h (Rc.zero, X.2) (by simp)
    exact absurd this h0
theorem pairs_left {X : List Rc × Nat} {pre : List (Rc × Nat)} {z : Rc × Nat} (h : pre ++ [z] <+: pairsR X) (h0 : z.2 ≠ 0) : X.2 = z.2 ∧ pre.map (·.1) = X.1 := by
  obtain ⟨t, ht⟩ := h
  unfold pairsR at ht
  have hmem : z ∈ pre ++ [z] ++ t := by simp
  rw [ht] at hmem
  rcases List.mem_append.1 hmem with hm | hm
  · obtain ⟨r, _, hr⟩ := List.mem_map.1 hm
    rw [← hr] at h0
    exact absurd rfl h0
  · by_cases hX : X.2 = 0
    · rw [if_pos hX] at hm; simp at hm
    · rw [if_neg hX] at hm ht
      obtain rfl : z = (Rc.zero, X.2) := by simpa using hm
      refine ⟨rfl, ?_⟩
      -- the place of the error is the last one
      rcases Nat.lt_or_ge pre.length X.1.length with hlt | hge
      · have h1 : (pre ++ [(Rc.zero, X.2)] ++ t)[pre.length]? = some (Rc.zero, X.2) := by simp
        rw [ht, List.getElem?_append_left (by simpa using hlt), List.getElem?_map] at h1
        obtain ⟨r, _, hr⟩ := Option.map_eq_some_iff.1 h1
        have hs := congrArg Prod.snd hr
        exact absurd hs.symm h0
      · have hl := congrArg List.length ht
        simp only [List.length_append, List.length_map, List.length_cons, List.length_nil] at hl
        have h2 : t = [] := List.eq_nil_of_length_eq_zero (by omega)
        subst h2
        rw [List.append_nil] at ht
        have h3 := List.append_inj ht (by simp only [List.length_map]; omega)
        rw [h3.1, List.map_map]
        simp [Function.comp_def]

theorem Kept.set {n m k b : Nat} (W : World) (v : Value) (hn : n ≤ b) (hm : b < m) : Kept n m k W (W.setCell ⟨b, 0, none⟩ v) :=
  ⟨(Below.refl _ _).setCell (p := ⟨b, 0, none⟩) hn _, fun j hj _ => Below.heap_setCell _ _ _ j (fun e => by have : j = b := e; omega)⟩
theorem own_set5 {W : World} {B : Nat} {t e : TypeId} {u v x : Value} {base size k : Nat} {xs : List Value} (h : W.ownsRow base e size v k xs) (hb : Boxed W B t u) (hte : t ≠ e) : (W.setCell ⟨B, 0, none⟩ x).ownsRow base e size v k xs :=
  h.kept (grownBy_setCell' W B x) (.inr (hb.not_row hte h).symm)
/-- What a box of another type holds it holds behind an append onto a row of the call's own. -/
theorem boxed_past {W w1 : World} {B : Nat} {t e : TypeId} {u v : Value} {base size k : Nat} {xs : List Value} {tmp : Obj} (hb : Boxed W B t u) (hte : t ≠ e) (h : W.ownsRow base e size v k xs) (hg : (W.alloc tmp).grownBy w1 v.ownBlock) : Boxed w1 B t u :=
  (hb.alloc tmp).kept hg (hb.not_row hte h)

/-- Between two rounds: what has come lies in the slice that is gathered. -/
def AllI (w W0 : World) (pre : List (Rc × Nat)) (W : World) : Prop :=
  ((∀ y ∈ pre, y.2 = 0) ∧ ((∃ v, Boxed W (w.heap.size + 1 + 1) 57 v ∧ W.ownsRow w.heap.size 62 5 v pre.length (rs (pre.map (·.1))) ∧ True) ∧ (Boxed W w.heap.size 57 (.slice none 0 0) ∧ Boxed W (w.heap.size + 1) 25 (.int .i64 0)))) ∧ Kept w.heap.size (w.heap.size + 3) (w.heap.size + 6) W0 W
theorem AllI.mk {w W0 W : World} {pre : List (Rc × Nat)} (h : ((∀ y ∈ pre, y.2 = 0) ∧ ((∃ v, Boxed W (w.heap.size + 1 + 1) 57 v ∧ W.ownsRow w.heap.size 62 5 v pre.length (rs (pre.map (·.1))) ∧ True) ∧ (Boxed W w.heap.size 57 (.slice none 0 0) ∧ Boxed W (w.heap.size + 1) 25 (.int .i64 0)))) ∧ Kept w.heap.size (w.heap.size + 3) (w.heap.size + 6) W0 W) : AllI w W0 pre W := h
theorem AllI.own {w W0 : World} (h : W0.heap.size = w.heap.size + 6) : OwnFrom W0.heap.size (AllI w W0) :=
  OwnFrom.and (OwnFrom.and (ownFrom_pure _ (fun pre : List (Rc × Nat) => ∀ y ∈ pre, y.2 = 0)) (OwnFrom.and (Own.from (holdsRow_own w.heap.size (w.heap.size + 1 + 1) 57 62 5 (fun pre : List (Rc × Nat) => pre.length) (fun pre => rs (pre.map (·.1))) (fun _ _ => True)) _) (OwnFrom.and (Own.from (boxed_own _ _ (fun _ => .slice none 0 0)) _) (Own.from (boxed_own _ _ (fun _ => .int .i64 0)) _)))) (Kept.own (by omega) (by omega))
/-- A round has left: what had come, and an error. -/
def AllIx (w W0 : World) (cd : Code) (pre : List (Rc × Nat)) (W : World) : Prop :=
  (cd = .ret ∧ ∃ pre' z, pre = pre' ++ [z] ∧ z.2 ≠ 0 ∧ ((∃ v, Boxed W w.heap.size 57 v ∧ W.ownsRow w.heap.size 62 5 v pre'.length (rs (pre'.map (·.1))) ∧ True) ∧ Boxed W (w.heap.size + 1) 25 (.int .i64 z.2))) ∧ Kept w.heap.size (w.heap.size + 3) (w.heap.size + 6) W0 W
theorem AllIx.mk {w W0 W : World} {cd : Code} {pre : List (Rc × Nat)} (h : (cd = .ret ∧ ∃ pre' z, pre = pre' ++ [z] ∧ z.2 ≠ 0 ∧ ((∃ v, Boxed W w.heap.size 57 v ∧ W.ownsRow w.heap.size 62 5 v pre'.length (rs (pre'.map (·.1))) ∧ True) ∧ Boxed W (w.heap.size + 1) 25 (.int .i64 z.2))) ∧ Kept w.heap.size (w.heap.size + 3) (w.heap.size + 6) W0 W) : AllIx w W0 cd pre W := h
theorem AllIx.own {w W0 : World} (h : W0.heap.size = w.heap.size + 6) (cd : Code) : OwnFrom W0.heap.size (AllIx w W0 cd) :=
  OwnFrom.and (fun s X Y row hs hg hr => by
    obtain ⟨rfl, pre', z, hp, hz, hh, hb⟩ := hs
    exact ⟨rfl, pre', z, hp, hz, holdsRow_own w.heap.size w.heap.size 57 62 5 (fun pre : List (Rc × Nat) => pre.length) (fun pre => rs (pre.map (·.1))) (fun _ _ => True) pre' X Y row hh hg (fun r e => (hr r e).2),
      boxed_own _ _ (fun (_ : Unit) => Value.int .i64 z.2) () X Y row hb hg (fun r e => (hr r e).2)⟩) (Kept.own (by omega) (by omega))

/-- Both ways out end so: the two results lie in their boxes. -/
theorem all_out {w W : World} {D n c' : Nat} {A' : Option Addr} {X : List Rc × Nat} {tmps : Array Value} (hn : n = X.1.length)
    (t6 : tmps.getD 6 undef = .pointer (some ⟨w.heap.size, 0, none⟩)) (t7 : tmps.getD 7 undef = .pointer (some ⟨w.heap.size + 1, 0, none⟩))
    (h6 : Boxed W w.heap.size 57 (.slice A' n c')) (h7 : Boxed W (w.heap.size + 1) 25 (.int .i64 X.2)) (hown : W.ownsRow w.heap.size 62 5 (.slice A' n c') n (rs X.1))
    (hK : W.heap[D]? = some (.deferred (some []))) (hD : w.heap.size ≤ D) (hb : Below w.heap.size w W) :
    bodyPostM Fence.wide 4 Tryz.prog Tryz.f19 (fun e w' => ∃ A' c', e = .returned (.tuple #[.slice A' X.1.length c', .int .i64 X.2]) ∧ SlR w' A' c' X.1 ∧ Below w.heap.size w w') .ret { tmps := tmps, defers := [{ target := Target.collected D, args := #[] }] } W := by
  subst hn
  refine ⟨by simp [Fence.wide], .inl ⟨_, _, rfl, run_takeDeferred hK, ?_⟩⟩
  have c6 := cell_kept h6.cell (grownBy_putObj' W D (.deferred none)) (fun r e => by cases e; exact ⟨_, hK, rfl⟩)
  have c7 := cell_kept h7.cell (grownBy_putObj' W D (.deferred none)) (fun r e => by cases e; exact ⟨_, hK, rfl⟩)
  have t6' : tmps[6]?.getD undef = .pointer (some ⟨w.heap.size, 0, none⟩) := by simpa using t6
  have t7' : tmps[7]?.getD undef = .pointer (some ⟨w.heap.size + 1, 0, none⟩) := by simpa using t7
  refine ⟨.tuple #[.slice A' X.1.length c', .int .i64 X.2], ?_, A', c', rfl, ?_, hb.trans (belowK_b (w := w) (Nat.le_refl _) W D _ _ hD hK rfl rfl)⟩
  · simp [results, Tryz.f19, go_sem, t6', t7', c6, c7]
  · obtain ⟨A2, c2, hv, hr⟩ := SlR.of_own (ownsRow_putObj hown (.deferred none) hK rfl)
    cases hv
    exact hr

set_option maxRecDepth 1000000 in
set_option maxHeartbeats 4000000 in
theorem all_in (A : Option Addr) (c : Nat) (l : List UInt8) (a u : Nat) (hl : l.length ≤ 1000000) (hau : a ≤ u) (hul : u ≤ l.length) (w : World) (h1 : SlB w A c l) (T : Wires w) :
    CallsIn Fence.wide 4 Tryz.prog 19 #[.slice A l.length c, .int .i64 a, .int .i64 u] w fun e w' => ∃ A' c', e = .returned (.tuple #[.slice A' (recs l u a).1.length c', .int .i64 (recs l u a).2]) ∧ SlR w' A' c' (recs l u a).1 ∧ Below w.heap.size w w' := by
  obtain ⟨i0, hi, hz0, hz1, hz2⟩ := info_parts infoRecs
  have d0 : decide ((a : Int) < 0) = false := by simp
  have d1 : decide (u < a) = false := by simp; omega
  have d2 : decide (l.length < u) = false := by simp; omega
  refine callsIn_of_wp_marks Tryz.func19 rfl trivial ?_ rfl
  simp only [Tryz.ntmps19, List.size_toArray, List.length_cons, List.length_nil, Nat.reduceAdd, Nat.reduceSub, Array.replicate_succ, Array.replicate_zero, List.push_toArray, List.append_toArray, List.nil_append, List.cons_append]
  gi_wp2_with fail
  refine ⟨trivial, (callsIn_wide.2 (each_any A c l a u _)).mono ?_⟩
  rintro e w2 ⟨rfl, rfl⟩
  gi_wp2
  have b6 := (((((Boxed.new w 57 (.slice none 0 0)).alloc (.cells #[.int .i64 0] 25)).alloc (.cells #[.slice none 0 0] 57)).alloc (.cells #[.slice A l.length c] 22)).alloc (.cells #[.int .i64 a] 3)).alloc (.cells #[.int .i64 u] 3)
  have b7 := ((((Boxed.new (w.alloc (.cells #[.slice none 0 0] 57)) 25 (.int .i64 0)).alloc (.cells #[.slice none 0 0] 57)).alloc (.cells #[.slice A l.length c] 22)).alloc (.cells #[.int .i64 a] 3)).alloc (.cells #[.int .i64 u] 3)
  have b8 := (((Boxed.new ((w.alloc (.cells #[.slice none 0 0] 57)).alloc (.cells #[.int .i64 0] 25)) 57 (.slice none 0 0)).alloc (.cells #[.slice A l.length c] 22)).alloc (.cells #[.int .i64 a] 3)).alloc (.cells #[.int .i64 u] 3)
  have bB := ((Boxed.new (((w.alloc (.cells #[.slice none 0 0] 57)).alloc (.cells #[.int .i64 0] 25)).alloc (.cells #[.slice none 0 0] 57)) 22 (.slice A l.length c)).alloc (.cells #[.int .i64 a] 3)).alloc (.cells #[.int .i64 u] 3)
  have bA := (Boxed.new ((((w.alloc (.cells #[.slice none 0 0] 57)).alloc (.cells #[.int .i64 0] 25)).alloc (.cells #[.slice none 0 0] 57)).alloc (.cells #[.slice A l.length c] 22)) 3 (.int .i64 a)).alloc (.cells #[.int .i64 u] 3)
  have bU := Boxed.new (((((w.alloc (.cells #[.slice none 0 0] 57)).alloc (.cells #[.int .i64 0] 25)).alloc (.cells #[.slice none 0 0] 57)).alloc (.cells #[.slice A l.length c] 22)).alloc (.cells #[.int .i64 a] 3)) 3 (.int .i64 u)
  simp only [World.size_alloc] at b7 b8 bB bA bU
  have hB0 := below_lit (below_lit (below_lit (below_lit (below_lit (below_new w (.cells #[.slice none 0 0] 57)) (.cells #[.int .i64 0] 25)) (.cells #[.slice none 0 0] 57)) (.cells #[.slice A l.length c] 22)) (.cells #[.int .i64 a] 3)) (.cells #[.int .i64 u] 3)
  have hsz : ((((((w.alloc (.cells #[.slice none 0 0] 57)).alloc (.cells #[.int .i64 0] 25)).alloc (.cells #[.slice none 0 0] 57)).alloc (.cells #[.slice A l.length c] 22)).alloc (.cells #[.int .i64 a] 3)).alloc (.cells #[.int .i64 u] 3)).heap.size = w.heap.size + 6 := by simp
  generalize (((((w.alloc (.cells #[.slice none 0 0] 57)).alloc (.cells #[.int .i64 0] 25)).alloc (.cells #[.slice none 0 0] 57)).alloc (.cells #[.slice A l.length c] 22)).alloc (.cells #[.int .i64 a] 3)).alloc (.cells #[.int .i64 u] 3) = W0 at *
  have hN := pairs_len l u a
  refine wpIn_rangeFunc_ownH rfl (by omega) (gf := 64) (lb := #[.pointer (some ⟨w.heap.size + 1 + 1 + 1 + 1, 0, none⟩), .pointer (some ⟨w.heap.size + 1 + 1 + 1 + 2, 0, none⟩), .pointer (some ⟨w.heap.size + 1 + 1 + 1, 0, none⟩)]) rfl trivial (enters_of Tryz.func64 (by kernel_rfl) rfl)
    (each_stops (4 - 1) (w.heap.size + 1 + 1 + 1 + 1) (w.heap.size + 1 + 1 + 1 + 2) (w.heap.size + 1 + 1 + 1) w.heap.size (w.heap.size + 3) (w.heap.size + 6) A c l a u hl hau hul W0 (by omega) (by omega) (by omega) (by omega) (by omega) bA.cell bU.cell bB.cell (fun W' hb => ⟨h1.on (hB0.trans hb), T.on (hB0.trans hb)⟩)) Kept.trans (Kept.put (by omega) (by omega)) (Below.refl _ _) (fun _ => rfl)
    (AllI w W0)
    (AllIx w W0)
    (AllI.own hsz) (AllIx.own hsz)
    (AllI.mk ⟨⟨by simp, ⟨_, b8, World.ownsRow_nil _ _ _ _, trivial⟩, b6, b7⟩, Kept.refl _ _ _ _⟩)
    (fun x a' W => ∃ Bx, w.heap.size + 5 < Bx ∧ W.heap[Bx]? = some (.cells #[.int .i64 x.1.no, .int .i64 x.1.wire, .int .u64 x.1.num, .int .i64 x.1.frm, .int .i64 x.1.upto] 62 (0, 0)) ∧ a' = { tmps := #[.slice A l.length c, .int .i64 a, .int .i64 u, undef, undef, undef, .pointer (some ⟨w.heap.size, 0, none⟩), .pointer (some ⟨w.heap.size + 1, 0, none⟩), .pointer (some ⟨w.heap.size + 1 + 1, 0, none⟩), .pointer (some ⟨Bx, 0, none⟩), .int .i64 x.2, .int .i64 a,
      .bool false, .bool false, .int .i64 a, .int .i64 u, .bool false, .bool false, .bool false, .int .i64 u, .slice A l.length c, .int .i64 l.length, .bool false, .bool false, .slice A l.length c, .int .i64 a, .int .i64 u,
      .func (.func 64) #[] #[.pointer (some ⟨w.heap.size + 1 + 1 + 1 + 1, 0, none⟩), .pointer (some ⟨w.heap.size + 1 + 1 + 1 + 2, 0, none⟩), .pointer (some ⟨w.heap.size + 1 + 1 + 1, 0, none⟩)], RV x.1, .int .i64 x.2, undef, undef, undef, undef, undef, undef, undef, undef, undef], defers := [] })
    (fun x a' _ X Y row hs hg hr => by
      obtain ⟨Bx, q1, q2, q3⟩ := hs
      refine ⟨Bx, q1, (hg.block Bx (Array.getElem?_eq_some_iff.1 q2).1 fun e => ?_).trans q2, q3⟩
      obtain ⟨_, o, ho, hc⟩ := hr Bx e.symm
      rw [q2] at ho; cases ho; cases hc)
    ?assign ?body ?done ?stop
  case assign =>
    rintro lp pre x W K ⟨⟨hp, ⟨v, hv8, hown, -⟩, hv6, hv7⟩, hB⟩ hK
    have hsW := hB.1.size
    unfold encR RV
    gi_wp2
    have hk1 : Kept w.heap.size (w.heap.size + 3) (w.heap.size + 6) W (W.alloc (.cells #[.int .i64 x.1.no, .int .i64 x.1.wire, .int .u64 x.1.num, .int .i64 x.1.frm, .int .i64 x.1.upto] 62)) := Kept.of_below (below_new W _) (by omega) (by omega)
    exact hK _ _ ((KeepsOthers.alloc _ _).from _) hk1 (AllI.mk ⟨⟨hp, ⟨v, hv8.alloc _, hown.alloc _, trivial⟩, hv6.alloc _, hv7.alloc _⟩, hB.trans hk1⟩) ⟨W.heap.size, by omega, World.alloc_heap_new W _, rfl⟩
  case body =>
    rintro lp pre x a' W - - ⟨⟨hp, ⟨v, hv8, hown, -⟩, hv6, hv7⟩, hB⟩ ⟨Bx, hBx, hX, rfl⟩ hlt
    have hsW := hB.1.size
    obtain ⟨q0, q1, q2, q3, q4⟩ := heap_cells hX
    have c8 := hv8.cell
    have c7 := hv7.cell
    have c6 := hv6.cell
    have f7 := hv7.frozen
    have f6 := hv6.frozen
    by_cases hx : x.2 = 0
    · have hx0 : ((x.2 : Int) != 0) = false := by simp [hx]
      have E1 : Hid (pre.length + 1 = (pre ++ [x]).length) := Lib.hid (by simp)
      have E2 : Hid (rs (pre.map (·.1)) ++ rs [x.1] = rs ((pre ++ [x]).map (·.1))) := Lib.hid (by rw [← rs_append]; simp)
      have hp' : ∀ y ∈ pre ++ [x], y.2 = 0 := fun y hy => by
        rcases List.mem_append.1 hy with h | h
        · exact hp y h
        · obtain rfl : y = x := by simpa using h
          exact hx
      clear hx
      have hnr : ∀ j, w.heap.size + 3 ≤ j → j < w.heap.size + 6 → some j ≠ v.ownBlock := by
        intro j hm hj
        rcases (show j = w.heap.size + 1 + 1 + 1 ∨ j = w.heap.size + 1 + 1 + 1 + 1 ∨ j = w.heap.size + 1 + 1 + 1 + 1 + 1 by omega) with rfl | rfl | rfl
        · exact Boxed.not_row ((hB.2 _ hm hj).trans bB) (by decide) hown
        · exact Boxed.not_row ((hB.2 _ hm hj).trans bA) (by decide) hown
        · exact Boxed.not_row ((hB.2 _ hm hj).trans bU) (by decide) hown
      gi_wp2_with (gi_at_builtin; refine wpListIn_append_own _ rfl _ _ 57 rfl w.heap.size 62 i0 _ 5 40 Tryz.underlying57 hi hz0 hz1 hz2 rfl (by omega) v _ _ rfl (hown.alloc _) ⟨W.heap.size, 0, none⟩ 1 1 (rs [x.1]) rfl (by simp [rs, RC]) ((lit_rec W x.1).cell _ rfl) (rs_one [x.1]) (by unfold maxLen; omega) (by omega) (by simp; omega) ?_; intro v' w1 hown' hgrow _; obtain ⟨g', cap', rfl⟩ := ownsRow_succ hown'; obtain ⟨hv1, hv2, hr2, hk2, hb2⟩ := hv8.appended (by decide) hown (by omega) (by omega) hown' hgrow; have hc1 := hv1.cell; have hf1 := hv1.frozen)
      have k6 := (boxed_past hv6 (by decide) hown hgrow).other (B' := w.heap.size + 1 + 1) (by omega) (.slice (some ⟨g', 0, none⟩) (pre.length + 1) cap')
      have k7 := (boxed_past hv7 (by decide) hown hgrow).other (B' := w.heap.size + 1 + 1) (by omega) (.slice (some ⟨g', 0, none⟩) (pre.length + 1) cap')
      have hkk : Kept w.heap.size (w.heap.size + 3) (w.heap.size + 6) W (w1.setCell ⟨w.heap.size + 1 + 1, 0, none⟩ (.slice (some ⟨g', 0, none⟩) (pre.length + 1) cap')) := ⟨hb2, fun j hm hj => by
        rw [Below.heap_setCell _ _ _ j (fun e => by have : j = w.heap.size + 1 + 1 := e; omega), hgrow.block j (by simp; omega) (hnr j hm hj), (below_new _ _).block _ (by omega)]⟩
      rw [E2.out] at hr2
      exact ⟨hk2.from _, hkk, AllI.mk ⟨⟨hp', ⟨_, hv2, by rw [← E1.out]; exact hr2, trivial⟩, k6, k7⟩, hB.trans hkk⟩⟩
    · have hx0 : ((x.2 : Int) != 0) = true := by simp; omega
      obtain ⟨A', c', rfl, hr⟩ := Sl.of_own hown
      gi_wp2
      refine ⟨((KeepsOthers.setCell _ _ _).trans (KeepsOthers.setCell _ _ _)).from _, AllIx.mk ⟨⟨rfl, pre, x, rfl, hx, ⟨_, (hv6.set _).other (by omega) _, own_set5 (own_set5 hown hv6 (by decide)) (hv7.other (by omega) _) (by decide), trivial⟩, (hv7.other (by omega) _).set _⟩, ?_⟩⟩
      exact (hB.trans (Kept.set _ _ (by omega) (by omega))).trans (Kept.set _ _ (by omega) (by omega))
  case done =>
    rintro D ys W hD rfl ⟨⟨hp, ⟨v, hv8, hown, -⟩, hv6, hv7⟩, hB⟩ hK
    obtain ⟨hX0, hX1⟩ := pairs_done hp
    have hlen : (pairsR (recs l u a)).length = (recs l u a).1.length := by rw [← hX1, List.length_map]
    rw [hX1, hlen] at hown
    obtain ⟨A', c', rfl, hr⟩ := Sl.of_own hown
    have c8 := hv8.cell
    have c7 := hv7.cell
    have c6 := hv6.cell
    have f7 := hv7.frozen
    have f6 := hv6.frozen
    have HX0 := Lib.hid hX0
    clear hX0
    gi_wp2
    have e6 : Boxed ((W.setCell ⟨w.heap.size, 0, none⟩ (.slice A' (recs l u a).1.length c')).setCell ⟨w.heap.size + 1, 0, none⟩ (.int .i64 0)) w.heap.size 57 (.slice A' (recs l u a).1.length c') := (hv6.set _).other (by omega) _
    have e7 : Boxed ((W.setCell ⟨w.heap.size, 0, none⟩ (.slice A' (recs l u a).1.length c')).setCell ⟨w.heap.size + 1, 0, none⟩ (.int .i64 0)) (w.heap.size + 1) 25 (.int .i64 0) := (hv7.other (by omega) _).set _
    have eo : ((W.setCell ⟨w.heap.size, 0, none⟩ (.slice A' (recs l u a).1.length c')).setCell ⟨w.heap.size + 1, 0, none⟩ (.int .i64 0)).ownsRow w.heap.size 62 5 (.slice A' (recs l u a).1.length c') (recs l u a).1.length (rs (recs l u a).1) := own_set5 (own_set5 hown hv6 (by decide)) (hv7.other (B' := w.heap.size) (by omega) _) (by decide)
    have eb : Below w.heap.size w ((W.setCell ⟨w.heap.size, 0, none⟩ (.slice A' (recs l u a).1.length c')).setCell ⟨w.heap.size + 1, 0, none⟩ (.int .i64 0)) := ((hB0.trans hB.1).setCell (p := ⟨w.heap.size, 0, none⟩) (Nat.le_refl _) _).setCell (p := ⟨w.heap.size + 1, 0, none⟩) (Nat.le_succ _) _
    have eK := (KeepsOthers.setCell (W.setCell ⟨w.heap.size, 0, none⟩ (.slice A' (recs l u a).1.length c')) ⟨w.heap.size + 1, 0, none⟩ (.int .i64 0)).same D _ ((KeepsOthers.setCell W ⟨w.heap.size, 0, none⟩ (.slice A' (recs l u a).1.length c')).same D _ hK rfl) rfl
    generalize (W.setCell ⟨w.heap.size, 0, none⟩ (.slice A' (recs l u a).1.length c')).setCell ⟨w.heap.size + 1, 0, none⟩ (.int .i64 0) = W2 at *
    exact all_out rfl rfl rfl e6 (by rw [HX0.out]; exact e7) eo eK (by omega) eb
  case stop =>
    rintro D cd pre W hD hS ⟨⟨rfl, pre', z, rfl, hz, ⟨v, hv6, hown, -⟩, hv7⟩, hB⟩ hK
    obtain ⟨hX0, hX1⟩ := pairs_left hS hz
    rw [hX1] at hown
    obtain ⟨A', c', rfl, hr⟩ := Sl.of_own hown
    have hlen : pre'.length = (recs l u a).1.length := by rw [← hX1, List.length_map]
    gi_wp2
    exact all_out hlen rfl rfl hv6 (by rw [hX0]; exact hv7) hown hK (by omega) (hB0.trans hB.1)

set_option maxRecDepth 1000000 in
theorem all_any5 (A : Option Addr) (c : Nat) (l : List UInt8) (a u : Int) (hl : l.length ≤ 1000000) (w : World) (h1 : SlB w A c l) (T : Wires w) :
    Calls Tryz.prog 19 #[.slice A l.length c, .int .i64 a, .int .i64 u] w fun e w' => ∃ A' c', e = .returned (.tuple #[.slice A' (allR l a u).1.length c', .int .i64 (allR l a u).2]) ∧ SlR w' A' c' (allR l a u).1 ∧ Below w.heap.size w w' := by
  by_cases hm : mayB a u l.length = true
  · have hR : allR l a u = recs l u.toNat a.toNat := by unfold allR; rw [if_pos hm]
    rw [hR]
    have h' := mayB_true.1 hm
    obtain ⟨an, rfl⟩ := Int.eq_ofNat_of_zero_le h'.1
    obtain ⟨un, rfl⟩ := Int.eq_ofNat_of_zero_le (show 0 ≤ u by omega)
    exact callsIn_wide.1 (all_in A c l an un hl (by omega) (by omega) w h1 T)
  · have hm : mayB a u l.length = false := by simpa using hm
    have hR : allR l a u = ([], 1) := by unfold allR; rw [hm]; rfl
    rw [hR]
    have hl2 := h1.small.1
    have h' := mayB_false.1 hm
    have hd : (decide (a < 0) = true) ∨ (decide (a < 0) = false ∧ decide (u < a) = true) ∨ (decide (a < 0) = false ∧ decide (u < a) = false ∧ decide ((l.length : Int) < u) = true) := by
      simp only [decide_eq_true_eq, decide_eq_false_iff_not]
      omega
    clear h' hm hR
    rcases hd with d0 | ⟨d0, d1⟩ | ⟨d0, d1, d2⟩
    all_goals
      go_enter Tryz.func19, Tryz.ntmps19
      go_wp2
      refine bodyPost_ret (v := .tuple #[.slice none 0 0, .int .i64 1]) ?_ rfl ⟨none, 0, rfl, SlR.nil _, below_lit (below_new _ _) _⟩
      simp [results, Tryz.f19, go_sem]
end Go.Proofs.YtipaangiehdgkaaGreatDoor
/-
  What is told of a record hangs on the bytes from its place to the end alone; and, where there is no error, on its own bytes alone: facts on lists of bytes.
-/
namespace Go.Proofs.YtipaangiehdgkaaGreatDoor
set_option maxRecDepth 100000

open Go.RowKit

/-! ### The window -/

def wfix (d : List UInt8) (S : Nat) : Nat × Nat × Nat := if d.length < S then (0, 0, 6) else (fixn (d.take S), S, 0)
def wnum (wire : Nat) (d : List UInt8) : Nat × Nat × Nat := if wire = 1 then wfix d 8 else if wire = 5 then wfix d 4 else vget d
def wrun (no wire k n q : Nat) (len : Nat) : Rc × Nat × Nat :=
  if wire = 2 then (if n ≤ len - (k + q) then (⟨no, wire, n, k + q, k + q + n⟩, k + q + n, 0) else (Rc.zero, 0, 6)) else (⟨no, wire, n, k, k + q⟩, k + q, 0)
def wrest (no wire k : Nat) (len : Nat) (x : Nat × Nat × Nat) : Rc × Nat × Nat := if x.2.2 = 0 then wrun no wire k x.1 x.2.1 len else (Rc.zero, 0, x.2.2)
def wtell (t : Nat × Nat × Nat) (k : Nat) (d : List UInt8) : Rc × Nat × Nat := if t.2.2 = 0 then wrest t.1 t.2.1 k d.length (wnum t.2.1 (d.drop k)) else (Rc.zero, 0, t.2.2)
def wnext (d : List UInt8) : Rc × Nat × Nat := if (vget d).2.2 = 0 then wtell (tellsN (vget d).1) (vget d).2.1 d else (Rc.zero, 0, (vget d).2.2)
/-- Further on by a. -/
def shR (a : Nat) (x : Rc × Nat × Nat) : Rc × Nat × Nat := if x.2.2 = 0 then (⟨x.1.no, x.1.wire, x.1.num, a + x.1.frm, a + x.1.upto⟩, a + x.2.1, 0) else (Rc.zero, 0, x.2.2)

theorem getS_win (l : List UInt8) (a u : Nat) : getS l a u = ((vget ((l.drop a).take (u - a))).1, (if (vget ((l.drop a).take (u - a))).2.2 = 0 then a + (vget ((l.drop a).take (u - a))).2.1 else 0), (vget ((l.drop a).take (u - a))).2.2) := rfl
theorem win_drop (l : List UInt8) (a u k : Nat) : (l.drop (a + k)).take (u - (a + k)) = ((l.drop a).take (u - a)).drop k := by
  rw [List.drop_take, List.drop_drop, Nat.sub_sub]
theorem num_win (l : List UInt8) (a u wire : Nat) (hau : a ≤ u) (hu : u ≤ l.length) :
    numR l a u wire = ((wnum wire ((l.drop a).take (u - a))).1, (if (wnum wire ((l.drop a).take (u - a))).2.2 = 0 then a + (wnum wire ((l.drop a).take (u - a))).2.1 else 0), (wnum wire ((l.drop a).take (u - a))).2.2) := by
  have hm : mayB a u l.length = true := by rw [mayB_true]; omega
  have hl : ((l.drop a).take (u - a)).length = u - a := by simp; omega
  have hf : ∀ S : Nat, S = 4 ∨ S = 8 → unfixR l a u S = ((wfix ((l.drop a).take (u - a)) S).1, (if (wfix ((l.drop a).take (u - a)) S).2.2 = 0 then a + (wfix ((l.drop a).take (u - a)) S).2.1 else 0), (wfix ((l.drop a).take (u - a)) S).2.2) := by
    intro S hS
    have hs : sizeB S = true := by rcases hS with rfl | rfl <;> rfl
    unfold unfixR unfixS wfix
    rw [hm, hs, hl]
    simp only [Bool.and_self, if_true, Int.toNat_natCast]
    split
    · rfl
    · simp only [if_true]
      rw [List.take_take, Nat.min_eq_left (by omega)]
  unfold numR wnum
  split
  · exact hf 8 (Or.inr rfl)
  · split
    · exact hf 4 (Or.inl rfl)
    · unfold getR
      rw [if_pos hm]
      simp only [Int.toNat_natCast]
      rfl
theorem vget_le {d : List UInt8} : (vget d).2.1 ≤ d.length := vget_bound d
theorem wfix_le {d : List UInt8} {S : Nat} : (wfix d S).2.1 ≤ d.length := by
  unfold wfix
  split
  · simp
  · simp only; omega
theorem wnum_le {wire : Nat} {d : List UInt8} : (wnum wire d).2.1 ≤ d.length := by
  unfold wnum
  split
  · exact wfix_le
  · split
    · exact wfix_le
    · exact vget_le
theorem sh_err {a e : Nat} (h : e ≠ 0) : shR a (Rc.zero, 0, e) = (Rc.zero, 0, e) := by unfold shR; rw [if_neg h]
theorem next_win (l : List UInt8) (a u : Nat) (hau : a ≤ u) (hu : u ≤ l.length) : nextR l a u = shR a (wnext ((l.drop a).take (u - a))) := by
  have hm : mayB a u l.length = true := by rw [mayB_true]; omega
  have hl : ((l.drop a).take (u - a)).length = u - a := by simp; omega
  have hg : getR l a u = getS l a u := by unfold getR; rw [if_pos hm]; simp only [Int.toNat_natCast]
  have hk := vget_le (d := (l.drop a).take (u - a))
  unfold nextR tgetR
  rw [hg, getS_win]
  unfold wnext
  by_cases h0 : (vget ((l.drop a).take (u - a))).2.2 = 0
  · simp only [h0, if_true]
    unfold wtell
    by_cases h1 : (tellsN (vget ((l.drop a).take (u - a))).1).2.2 = 0
    · simp only [h1, if_true]
      rw [hl] at hk
      rw [num_win l _ u _ (by omega) hu, win_drop]
      unfold restR wrest
      by_cases h2 : (wnum (tellsN (vget ((l.drop a).take (u - a))).1).2.1 (((l.drop a).take (u - a)).drop (vget ((l.drop a).take (u - a))).2.1)).2.2 = 0
      · simp only [h2, if_true]
        unfold runR wrun shR
        rw [hl]
        by_cases h3 : (tellsN (vget ((l.drop a).take (u - a))).1).2.1 = 2
        · simp only [h3, if_true]
          have hq := wnum_le (wire := 2) (d := ((l.drop a).take (u - a)).drop (vget ((l.drop a).take (u - a))).2.1)
          rw [List.length_drop, hl] at hq
          generalize (wnum 2 (((l.drop a).take (u - a)).drop (vget ((l.drop a).take (u - a))).2.1)) = x at hq ⊢
          generalize (vget ((l.drop a).take (u - a))).2.1 = k at *
          obtain ⟨n, q, e⟩ := x
          simp only
          by_cases h4 : (n : Int) ≤ (u : Int) - ((a + k + q : Nat) : Int)
          · rw [if_pos h4, if_pos (show n ≤ u - a - (k + q) by omega)]
            simp only [if_true, Prod.mk.injEq, Rc.mk.injEq, true_and, and_true]
            omega
          · rw [if_neg h4, if_neg (show ¬ n ≤ u - a - (k + q) by have hq' : q ≤ u - a - k := hq; omega)]
            exact (sh_err (by omega)).symm
        · simp only [h3, if_false, if_true]
          simp only [Prod.mk.injEq, Rc.mk.injEq, true_and, and_true]
          omega
      · simp only [h2, if_false]
        exact (sh_err h2).symm
    · simp only [h1, if_false]
      exact (sh_err h1).symm
  · simp only [h0, if_false]
    unfold shR
    simp [h0]

/-! ### What is told without an error hangs on its own bytes alone -/

/-- .. and the parts make it. -/
theorem wnext_of {d : List UInt8} {m k n q no wire : Nat} (hv : vget d = (m, k, 0)) (ht : tellsN m = (no, wire, 0)) (hn : wnum wire (d.drop k) = (n, q, 0)) : wnext d = wrun no wire k n q d.length := by
  unfold wnext
  rw [hv]
  simp only [if_true]
  unfold wtell
  rw [ht]
  simp only [if_true]
  unfold wrest
  rw [hn]
  simp
end Go.Proofs.YtipaangiehdgkaaGreatDoor
/-
  What is put is told, and told to be cut off where it is cut: facts on lists of bytes.
-/
namespace Go.Proofs.YtipaangiehdgkaaGreatDoor
set_option maxRecDepth 100000

open Go.RowKit

def numQ (wire : Nat) (num : Nat) (run : List UInt8) : Nat := if wire = 2 then run.length else if wire = 5 then num % 4294967296 else num
def headL (no wire : Int) (run : List UInt8) : Nat := (putL no wire).length + (if wire = 2 then (vput run.length).length else 0)

theorem tells_put {no wire : Nat} (h : putB no wire = true) : tellsN (putN no wire) = (no, wire, 0) := by
  obtain ⟨h1, h2, h3⟩ := tellsN_yes h
  generalize tellsN (putN no wire) = x at *
  obtain ⟨a, b, c⟩ := x
  simp only [Prod.mk.injEq]
  simp only at h1 h2 h3
  omega
theorem wire_nat {wire : Nat} {no : Nat} (h : putB no wire = true) : wire = 0 ∨ wire = 1 ∨ wire = 2 ∨ wire = 5 := by
  have := (putB_iff.1 h).2
  omega
/-- The number behind what is ahead of a field. -/
theorem wnum_put {wire num : Nat} {run t : List UInt8} (hw : wire = 0 ∨ wire = 1 ∨ wire = 5) (hn : num < 18446744073709551616) : wnum wire (restL wire num run ++ t) = (numQ wire num run, (restL wire num run).length, 0) := by
  rcases hw with rfl | rfl | rfl
  · have hr : restL ((0 : Nat) : Int) num run = vput num := by simp [restL]
    rw [hr]
    unfold wnum numQ
    rw [if_neg (by decide), if_neg (by decide), if_neg (by decide), if_neg (by decide)]
    exact vget_vput hn t
  · have hr : restL ((1 : Nat) : Int) num run = fixb num 8 := by simp [restL]
    rw [hr]
    unfold wnum numQ wfix
    rw [if_pos rfl, if_neg (show ¬ (fixb num 8 ++ t).length < 8 by rw [List.length_append, fixb_length]; omega), if_neg (by decide), if_neg (by decide), List.take_left' (fixb_length _ _), fixn_fixb, fixb_length]
    rw [Nat.mod_eq_of_lt (by omega)]
  · have hr : restL ((5 : Nat) : Int) num run = fixb num 4 := by simp [restL]
    rw [hr]
    unfold wnum numQ wfix
    rw [if_neg (show ¬ 5 = 1 by decide), if_pos rfl, if_neg (show ¬ (fixb num 4 ++ t).length < 4 by rw [List.length_append, fixb_length]; omega), if_neg (show ¬ 5 = 2 by decide), if_pos rfl, List.take_left' (fixb_length _ _), fixn_fixb, fixb_length]
theorem wnext_put {no wire : Nat} (h : putB no wire = true) {num : Nat} (hn : num < 18446744073709551616) {run : List UInt8} (hr : run.length < 18446744073709551616) (t : List UInt8) :
    wnext (recL no wire num run ++ t) = (⟨no, wire, numQ wire num run, headL no wire run, (recL no wire num run).length⟩, (recL no wire num run).length, 0) := by
  have hl := putN_lt h
  have ht := tells_put h
  rw [recL_yes h]
  have hp : putL no wire = vput (putN no wire) := putL_yes h
  have hv : vget (putL no wire ++ restL wire num run ++ t) = (putN no wire, (putL no wire).length, 0) := by
    rw [hp, List.append_assoc]; exact vget_vput (by omega) _
  have hd : (putL no wire ++ restL wire num run ++ t).drop (putL no wire).length = restL wire num run ++ t := by rw [List.append_assoc, List.drop_left]
  by_cases h2 : wire = 2
  · subst h2
    have hq : restL ((2 : Nat) : Int) num run = vput run.length ++ run := by simp [restL]
    have hw : wnum 2 ((putL no (2 : Nat) ++ restL (2 : Nat) num run ++ t).drop (putL no (2 : Nat)).length) = (run.length, (vput run.length).length, 0) := by
      rw [hd, hq]
      unfold wnum
      rw [if_neg (by decide), if_neg (by decide), List.append_assoc]
      exact vget_vput hr _
    rw [wnext_of hv ht hw]
    have e1 : numQ 2 num run = run.length := by simp [numQ]
    have e2 : headL no (2 : Nat) run = (putL no (2 : Nat)).length + (vput run.length).length := by simp [headL]
    unfold wrun
    rw [e1, e2, if_pos rfl, hq, if_pos (by simp only [List.length_append]; omega)]
    simp only [Prod.mk.injEq, Rc.mk.injEq, true_and, and_true, List.length_append]
    omega
  · have h3 : wire = 0 ∨ wire = 1 ∨ wire = 5 := by have := wire_nat h; omega
    have hw : wnum wire ((putL no wire ++ restL wire num run ++ t).drop (putL no wire).length) = (numQ wire num run, (restL wire num run).length, 0) := by
      rw [hd]; exact wnum_put h3 hn
    rw [wnext_of hv ht hw]
    have e2 : headL no wire run = (putL no wire).length := by unfold headL; rw [if_neg (by omega)]; rfl
    unfold wrun
    rw [e2, if_neg h2]
    simp only [Prod.mk.injEq, Rc.mk.injEq, true_and, and_true, List.length_append]
/-- What is put stands anywhere, and is told there. -/
theorem next_back {no wire : Nat} (h : putB no wire = true) {num : Nat} (hn : num < 18446744073709551616) {run : List UInt8} (hr : run.length < 18446744073709551616) (a t : List UInt8) :
    nextR (a ++ (recL no wire num run ++ t)) a.length (a ++ (recL no wire num run ++ t)).length = (⟨no, wire, numQ wire num run, a.length + headL no wire run, a.length + (recL no wire num run).length⟩, a.length + (recL no wire num run).length, 0) := by
  rw [next_win _ _ _ (by simp) (Nat.le_refl _), List.drop_left, List.take_of_length_le (by simp), wnext_put h hn hr t]
  rfl
end Go.Proofs.YtipaangiehdgkaaGreatDoor
/-
  Two records have the same bytes just if they are of the same number and wire type, with the same number, as far as it goes, or the same run.
-/
namespace Go.Proofs.YtipaangiehdgkaaGreatDoor
set_option maxRecDepth 100000

open Go.RowKit

theorem fixb_congr : ∀ (k n m : Nat), n % 256 ^ k = m % 256 ^ k → fixb n k = fixb m k
  | 0, _, _, _ => rfl
  | k + 1, n, m, h => by
    rw [Nat.pow_succ', Nat.mod_mul, Nat.mod_mul] at h
    have h1 := Nat.mod_lt n (show 0 < 256 by omega)
    have h2 := Nat.mod_lt m (show 0 < 256 by omega)
    rw [fixb, fixb, fixb_congr k (n / 256) (m / 256) (by omega), show n % 256 = m % 256 by omega]
def oneQ (wire : Int) (n m : Nat) (x y : List UInt8) : Prop := if wire = 2 then x = y else if wire = 5 then n % 4294967296 = m % 4294967296 else n = m
theorem recL_iff {no wire no' wire' : Nat} (h : putB no wire = true) (k : putB no' wire' = true) {n m : Nat} (hn : n < 18446744073709551616) (hm : m < 18446744073709551616) {x y : List UInt8} (hx : x.length < 18446744073709551616) (hy : y.length < 18446744073709551616) :
    recL no wire n x = recL no' wire' m y ↔ ((no : Int) = no' ∧ (wire : Int) = wire' ∧ oneQ wire n m x y) := by
  constructor
  · intro e
    have h1 := wnext_put h hn hx []
    have h2 := wnext_put k hm hy []
    rw [e] at h1
    rw [h1] at h2
    simp only [Prod.mk.injEq, Rc.mk.injEq] at h2
    obtain ⟨⟨rfl, rfl, hq, -, -⟩, -, -⟩ := h2
    refine ⟨rfl, rfl, ?_⟩
    unfold oneQ
    unfold numQ at hq
    by_cases w2 : wire = 2
    · rw [if_pos w2, if_pos w2] at hq
      rw [if_pos (by omega)]
      rw [recL_yes h, recL_yes k] at e
      have e := List.append_cancel_left e
      unfold restL at e
      rw [if_pos (by omega), if_pos (by omega), hq] at e
      exact List.append_cancel_left e
    · rw [if_neg w2, if_neg w2] at hq
      rw [if_neg (by omega)]
      by_cases w5 : wire = 5
      · rw [if_pos w5, if_pos w5] at hq
        rw [if_pos (by omega)]
        exact hq
      · rw [if_neg w5, if_neg w5] at hq
        rw [if_neg (by omega)]
        exact hq
  · rintro ⟨h1, h2, h3⟩
    obtain rfl : no = no' := by omega
    obtain rfl : wire = wire' := by omega
    unfold oneQ at h3
    rw [recL_yes h, recL_yes h]
    congr 1
    unfold restL
    by_cases w2 : (wire : Int) = 2
    · rw [if_pos w2] at h3
      rw [if_pos w2, if_pos w2, h3]
    · rw [if_neg w2] at h3
      rw [if_neg w2, if_neg w2]
      by_cases w1 : (wire : Int) = 1
      · rw [if_neg (by omega)] at h3
        rw [if_pos w1, if_pos w1, h3]
      · rw [if_neg w1, if_neg w1]
        by_cases w5 : (wire : Int) = 5
        · rw [if_pos w5] at h3
          rw [if_pos w5, if_pos w5]
          exact fixb_congr 4 n m (by simpa using h3)
        · rw [if_neg w5] at h3
          rw [if_neg w5, if_neg w5, h3]
end Go.Proofs.YtipaangiehdgkaaGreatDoor
/-
  Numbers of kinds, their bits, and back: on integers alone.
-/
namespace Go.Proofs.YtipaangiehdgkaaGreatDoor
set_option maxRecDepth 100000

theorem seven_cnt {k : Int} (h : cnt k = true) : k = 0 ∨ k = 1 ∨ k = 2 ∨ k = 3 ∨ k = 4 ∨ k = 5 ∨ k = 6 := by
  simp [cnt] at h
  exact seven h
theorem fits_cnt {k n : Int} (h : fitsB k n = true) : cnt k = true := by
  by_cases hk : 0 ≤ k ∧ k < 7
  · simp [cnt, hk]
  · unfold fitsB at h
    rw [if_neg (by omega), if_neg (by omega), if_neg (by omega), if_neg (by omega), if_neg (by omega), if_neg (by omega), if_neg (by omega)] at h
    cases h
theorem bitsI_bound (k : Int) {n : Int} (h0 : -9223372036854775808 ≤ n) (h1 : n ≤ 9223372036854775807) : 0 ≤ bitsI k n ∧ bitsI k n < 18446744073709551616 := by
  unfold bitsI zigI U64
  repeat' split
  all_goals omega
theorem of_bits {k n : Int} (h0 : -9223372036854775808 ≤ n) (h1 : n ≤ 9223372036854775807) (h : fitsB k n = true) : ofI k (bitsI k n) = n := by
  unfold bitsI
  rw [if_pos h]
  rcases seven_cnt (fits_cnt h) with rfl | rfl | rfl | rfl | rfl | rfl | rfl
  · simp only [ofI, S64, U64]; simp; split <;> split <;> omega
  · simp only [ofI, unzigI, zigI]; simp; split <;> split <;> omega
  · simp [fitsB] at h; simp only [ofI, U64]; simp; split <;> omega
  · simp [fitsB] at h; simp only [ofI, U64]; simp; rcases h with rfl | rfl <;> simp
  · simp [fitsB] at h; simp only [ofI, U64]; simp; split <;> omega
  · simp only [ofI, S64, U64]; simp; split <;> split <;> omega
  · simp [fitsB] at h; simp only [ofI, U64, S32]; simp; split <;> split <;> omega
theorem bits_one {k n m : Int} (n0 : -9223372036854775808 ≤ n) (n1 : n ≤ 9223372036854775807) (m0 : -9223372036854775808 ≤ m) (m1 : m ≤ 9223372036854775807)
    (h : fitsB k n = true) (h' : fitsB k m = true) : (bitsI k n == bitsI k m) = (n == m) := by
  by_cases e : n = m
  · subst e; simp
  · have e2 : bitsI k n ≠ bitsI k m := by
      intro hb
      have h1 := of_bits n0 n1 h
      rw [hb, of_bits m0 m1 h'] at h1
      exact e h1.symm
    have a1 : (n == m) = false := by simpa using e
    have a2 : (bitsI k n == bitsI k m) = false := by simpa using e2
    rw [a1, a2]
end Go.Proofs.YtipaangiehdgkaaGreatDoor
/-
  Messages as bytes, by plain functions: what a value, a field and a message are as bytes, and how long that is.
-/
namespace Go.Proofs.YtipaangiehdgkaaGreatDoor.T12
set_option maxRecDepth 100000

open Go.Proofs.YtipaangiehdgkaaGreatDoor.T9 Go.Proofs.YtipaangiehdgkaaGreatDoor.T4

/-- A run's bytes, as a record. -/
def runL (no : Int) (l : List UInt8) : List UInt8 := recL no 2 0 l
/-- A number's bytes, as a record. -/
def encN (kind no n : Int) : List UInt8 := recL no (wireI kind) (bitsI kind n).toNat []
def bareN (kind n : Int) : List UInt8 := (encN kind 1 n).drop 1
/-- A value's bytes, as a record; G: a message's bytes. -/
def valL (G : Int → Mg → List UInt8) (kind ref no : Int) (v : Vl') : List UInt8 :=
  if kind = 9 then runL no (G ref (v.M.headD (.mk []))) else if kind = 7 ∨ kind = 8 then runL no v.s else encN kind no v.n
def entL (G : Int → Mg → List UInt8) (f : Df) (p : Vl' × Vl') : List UInt8 := runL f.no (valL G f.key 0 1 p.1 ++ valL G f.kind f.ref 2 p.2)
def fieldL (G : Int → Mg → List UInt8) (f : Df) (a : So) : List UInt8 :=
  if f.key = -1 then (if f.rep && cnt f.kind then runL f.no (a.V.map fun v => bareN f.kind v.n).flatten else (a.V.map (valL G f.kind f.ref f.no)).flatten)
  else ((a.K.zip a.V).map (entL G f)).flatten
def slotL (fd : Int → Option Df) (G : Int → Mg → List UInt8) (a : So) : List UInt8 := match fd a.no with | none => [] | some f => fieldL G f a
def encG (s : Sc) (G : Int → Mg → List UInt8) (m : Int) (x : Mg) : List UInt8 := (x.F.map (slotL (byS s m) G)).flatten
/-- A message's bytes, within so many levels. -/
def encB (s : Sc) : Nat → Int → Mg → List UInt8
  | 0 => fun _ _ => []
  | d + 1 => encG s (encB s d)

/-! ### How many bytes all texts have -/

def Mg.txt (m : Mg) : Nat := sm (m.F.attach.map fun ⟨s, hs⟩ => sm (s.K.attach.map fun ⟨v, hv⟩ => v.s.length + sm (v.M.attach.map fun ⟨x, hx⟩ => Mg.txt x)) + sm (s.V.attach.map fun ⟨v, hv⟩ => v.s.length + sm (v.M.attach.map fun ⟨x, hx⟩ => Mg.txt x)))
termination_by SizeOf.sizeOf m
decreasing_by
  · exact Mg.sz hs (.inl hv) hx
  · exact Mg.sz hs (.inr hv) hx
def tV (v : Vl') : Nat := v.s.length + sm (v.M.map Mg.txt)
def tS (s : So) : Nat := sm (s.K.map tV) + sm (s.V.map tV)
theorem Mg.txt_eq (m : Mg) : Mg.txt m = sm (m.F.map tS) := by
  rw [Mg.txt, att m.F tS]
  rintro ⟨s, hs⟩
  show _ + _ = tS s
  unfold tS
  rw [att s.K tV, att s.V tV]
  · rintro ⟨v, hv⟩
    exact congrArg (v.s.length + ·) (congrArg sm (att v.M Mg.txt _ fun x => rfl))
  · rintro ⟨v, hv⟩
    exact congrArg (v.s.length + ·) (congrArg sm (att v.M Mg.txt _ fun x => rfl))

/-! ### How long the bytes are -/

theorem flat_len (l : List (List UInt8)) : l.flatten.length = sm (l.map List.length) := by
  induction l with
  | nil => rfl
  | cons x l ih => rw [List.flatten_cons, List.length_append, ih]; rfl
theorem rest_len (wire : Int) (num : Nat) (run : List UInt8) (hn : num < 18446744073709551616) (hr : run.length < 18446744073709551616) : (restL wire num run).length ≤ 10 + run.length := by
  unfold restL
  have h1 := vput_len10 hn
  have h2 := vput_len10 hr
  split
  · rw [List.length_append]; omega
  · split
    · rw [fixb_length]; omega
    · split
      · rw [fixb_length]; omega
      · omega
theorem rec_len (no wire : Int) (num : Nat) (run : List UInt8) (hn : num < 18446744073709551616) (hr : run.length < 18446744073709551616) : (recL no wire num run).length ≤ 15 + run.length := by
  unfold recL
  split
  · have := putL_le5 (no := no) (wire := wire)
    have := rest_len wire num run hn hr
    rw [List.length_append]; omega
  · simp
theorem run_len (no : Int) (l : List UInt8) (h : l.length < 18446744073709551616) : (runL no l).length ≤ 15 + l.length := rec_len _ _ _ _ (by omega) h
theorem bits_nat (k n : Int) (h : inI n) : (bitsI k n).toNat < 18446744073709551616 := by
  have := bitsI_bound k (n := n) h.1 h.2
  omega
theorem encN_len (kind no n : Int) (h : inI n) : (encN kind no n).length ≤ 15 := rec_len _ _ _ [] (bits_nat kind n h) (by simp)
theorem sm_mem {α : Type} {l : List α} {g : α → Nat} {x : α} (h : x ∈ l) : g x ≤ sm (l.map g) := le_sm (List.mem_map_of_mem h)
theorem zip_le (K V : List Vl') (f g : Vl' → Nat) : sm ((K.zip V).map fun p => f p.1 + g p.2) ≤ sm (K.map f) + sm (V.map g) := by
  induction K generalizing V with
  | nil => simp [sm]
  | cons k K ih =>
    cases V with
    | nil => simp [sm]
    | cons v V =>
      have := ih V
      simp only [List.zip_cons_cons, List.map_cons, sm]
      omega
def LenOk (G : Int → Mg → List UInt8) : Prop := ∀ m x, MIn x → 40 * x.cnt + Mg.txt x ≤ 70368744177664 → (G m x).length ≤ 40 * x.cnt + Mg.txt x
theorem val_len {G : Int → Mg → List UInt8} (H : LenOk G) (kind ref no : Int) (v : Vl') (hi : VIn v) (h : 40 * cV v + tV v ≤ 70368744177664) : (valL G kind ref no v).length + 20 ≤ 40 * cV v + tV v := by
  have hs : v.s.length ≤ tV v := by unfold tV; omega
  have hc : 1 ≤ cV v := by unfold cV; omega
  unfold valL
  split
  · obtain ⟨n, s, M⟩ := v
    cases M with
    | nil =>
      have h0 := H ref (.mk []) (.of fun s hs => by cases hs) (by rw [Mg.cnt_eq, Mg.txt_eq]; simp [Mg.F, sm])
      have h1 := run_len no (G ref (.mk [])) (by rw [Mg.cnt_eq, Mg.txt_eq] at h0; simp [Mg.F, sm] at h0; rw [h0]; simp)
      rw [Mg.cnt_eq, Mg.txt_eq] at h0
      simp [Mg.F, sm] at h0
      show (runL no (G ref (Mg.mk []))).length + 20 ≤ _
      rw [h0] at h1 ⊢
      simp at h1
      omega
    | cons x M =>
      have e1 : cV (⟨n, s, x :: M⟩ : Vl') = 1 + ((1 + x.cnt) + sm (M.map fun x => 1 + x.cnt)) := rfl
      have e2 : tV (⟨n, s, x :: M⟩ : Vl') = s.length + (Mg.txt x + sm (M.map Mg.txt)) := rfl
      have h0 := H ref x (hi.2 x (by simp)) (by omega)
      have h1 := run_len no (G ref x) (by omega)
      show (runL no (G ref x)).length + 20 ≤ _
      omega
  · split
    · have := run_len no v.s (by omega)
      omega
    · have := encN_len kind no v.n hi.1.1
      omega
theorem fl_len (c t : Nat) {α : Type} (l : List α) (e : α → List UInt8) (f g : α → Nat) (hc : sm (l.map f) ≤ c) (ht : sm (l.map g) ≤ t) (h : ∀ a ∈ l, (e a).length ≤ 40 * f a + g a) : (l.map e).flatten.length ≤ 40 * c + t := by
  rw [flat_len, List.map_map]
  have h1 : sm (l.map (List.length ∘ e)) ≤ sm (l.map fun a => 40 * f a + g a) := sm_mono h
  have h2 : sm (l.map fun a => 40 * f a + g a) = sm (l.map fun a => 40 * f a) + sm (l.map g) := sm_add l _ _
  have h3 : ∀ l : List α, sm (l.map fun a => 40 * f a) = 40 * sm (l.map f) := fun l => by
    induction l with
    | nil => rfl
    | cons x l ih => simp only [List.map_cons, sm, ih]; omega
  rw [h3] at h2
  omega
theorem field_len {G : Int → Mg → List UInt8} (H : LenOk G) (f : Df) (a : So) (hi : SIn a) (h : 40 * cS a + tS a ≤ 70368744177664) : (fieldL G f a).length ≤ 40 * cS a + tS a := by
  have ec : cS a = 1 + (sm (a.K.map cV) + sm (a.V.map cV)) := rfl
  have et : tS a = sm (a.K.map tV) + sm (a.V.map tV) := rfl
  have hV : ∀ v ∈ a.V, 40 * cV v + tV v ≤ 70368744177664 := fun v hv => by
    have h1 := sm_mem (g := cV) hv
    have h2 := sm_mem (g := tV) hv
    omega
  have hK : ∀ v ∈ a.K, 40 * cV v + tV v ≤ 70368744177664 := fun v hv => by
    have h1 := sm_mem (g := cV) hv
    have h2 := sm_mem (g := tV) hv
    omega
  unfold fieldL
  split
  · split
    · have h1 : (a.V.map fun v => bareN f.kind v.n).flatten.length ≤ 40 * sm (a.V.map cV) + 0 := fl_len _ 0 a.V _ cV (fun _ => 0) (Nat.le_refl _) (by
          have : ∀ l : List Vl', sm (l.map fun _ => 0) = 0 := fun l => by induction l with | nil => rfl | cons x l ih => simp only [List.map_cons, sm, ih]
          rw [this]; exact Nat.le_refl 0) fun v hv => by
        have := encN_len f.kind 1 v.n (hi.2 v (.inr hv)).1.1
        have hc : 1 ≤ cV v := by unfold cV; omega
        unfold bareN
        rw [List.length_drop]
        omega
      have := run_len f.no _ (show (a.V.map fun v => bareN f.kind v.n).flatten.length < 18446744073709551616 by omega)
      omega
    · have := fl_len _ _ a.V (valL G f.kind f.ref f.no) cV tV (Nat.le_refl _) (Nat.le_refl _) fun v hv => by
        have := val_len H f.kind f.ref f.no v (hi.2 v (.inr hv)) (hV v hv)
        omega
      omega
  · have := fl_len _ _ (a.K.zip a.V) (entL G f) (fun p => cV p.1 + cV p.2) (fun p => tV p.1 + tV p.2) (zip_le a.K a.V cV cV) (zip_le a.K a.V tV tV) fun p hp => by
      obtain ⟨k, v⟩ := p
      have hk := List.of_mem_zip hp
      have h1 := val_len H f.key 0 1 k (hi.2 k (.inl hk.1)) (hK k hk.1)
      have h2 := val_len H f.kind f.ref 2 v (hi.2 v (.inr hk.2)) (hV v hk.2)
      have h3 := hK k hk.1
      have h4 := hV v hk.2
      have := run_len f.no (valL G f.key 0 1 k ++ valL G f.kind f.ref 2 v) (by rw [List.length_append]; omega)
      rw [List.length_append] at this
      show (runL f.no (valL G f.key 0 1 k ++ valL G f.kind f.ref 2 v)).length ≤ 40 * (cV k + cV v) + (tV k + tV v)
      omega
    omega
theorem enc_len (s : Sc) : ∀ d, LenOk (encB s d)
  | 0 => fun _ _ _ _ => Nat.zero_le _
  | d + 1 => fun m x hi h => by
    rw [Mg.cnt_eq, Mg.txt_eq] at h ⊢
    refine fl_len _ _ x.F (slotL (byS s m) (encB s d)) cS tS (Nat.le_refl _) (Nat.le_refl _) fun a ha => ?_
    have h1 := sm_mem (g := cS) ha
    have h2 := sm_mem (g := tS) ha
    unfold slotL
    split
    · simp
    · exact field_len (enc_len s d) _ a (hi.slot ha) (by omega)
end Go.Proofs.YtipaangiehdgkaaGreatDoor.T12
/-
  What is normal has no longer texts; of a normal message each slot alone is normal, and its bytes are some.
-/
namespace Go.Proofs.YtipaangiehdgkaaGreatDoor.T12
set_option maxRecDepth 100000

open Go.Proofs.YtipaangiehdgkaaGreatDoor.T9 Go.Proofs.YtipaangiehdgkaaGreatDoor.T4

def TxtOk (G : Int → Mg → Bool) (N : Int → Mg → Mg) : Prop := ∀ r x, G r x = true → Mg.txt (N r x) ≤ Mg.txt x
theorem txt_val {G : Int → Mg → Bool} {N : Int → Mg → Mg} (g : TxtOk G N) {kind ref : Int} {v : Vl'} (h : askG G kind ref v = true) : tV (norV N ref v) ≤ tV v := by
  by_cases h9 : kind = 9
  · subst h9
    obtain ⟨n, s, M⟩ := v
    obtain ⟨h1, h2, x, h3, hx⟩ := ask_nine h
    simp only at h1 h2 h3
    subst h1 h2 h3
    have := g _ _ hx
    simp only [tV, norV, List.map_cons, List.map_nil, sm]; omega
  · have hM := ask_of h h9
    obtain ⟨n, s, M⟩ := v
    simp only at hM
    subst hM
    exact Nat.le_refl _
theorem txt_slot {G : Int → Mg → Bool} {N : Int → Mg → Mg} (g : TxtOk G N) {f : Df} {a : So} (h : fillG G f a = true) : tS (norS N f a) ≤ tS a := by
  unfold fillG at h
  simp only [Bool.and_eq_true, List.all_eq_true] at h
  obtain ⟨h1, h2, h3⟩ := h
  have hv : ∀ v ∈ a.V, tV (norV N f.ref v) ≤ tV v := fun v hv => txt_val g (h3 v hv)
  unfold norS tS
  split
  · have e : sm ((a.V.map (norV N f.ref)).map tV) ≤ sm (a.V.map tV) := by
      rw [List.map_map]
      exact sm_mono hv
    show sm [] + sm ((a.V.map (norV N f.ref)).map tV) ≤ _
    simp only [sm]
    omega
  · rename_i hk
    unfold manyB at h1
    rw [if_neg hk] at h1
    exact meas_map (beq_iff_eq.1 h1) tV (fun v => by simp [tV, bare, sm]) hv
theorem txtN_step {s : Sc} {G : Int → Mg → Bool} {N : Int → Mg → Mg} (g : TxtOk G N) : TxtOk (isG s G) (norG s N) := by
  intro m x h
  unfold isG at h
  rw [Bool.and_eq_true] at h
  obtain ⟨h0, h⟩ := h
  have hno := slots_no h
  obtain ⟨h1, -, h3⟩ := slots_iff.1 h
  have slot : ∀ b ∈ (norG s N m x).F, ∃ a ∈ x.F, ∃ f, byS s m a.no = some f ∧ fillG G f a = true ∧ b = norS N f a := by
    intro b hb
    obtain ⟨a, ha, e⟩ := (mem_norF hno).1 hb
    obtain ⟨f, hf, ht, rfl⟩ := norO_some e
    obtain ⟨f', hf', gs⟩ := h1 a ha
    rw [hf] at hf'
    obtain rfl := Option.some.inj hf'
    exact ⟨a, ha, f, hf, gs, rfl⟩
  rw [Mg.txt_eq, Mg.txt_eq]
  refine sm_inj _ _ (fun b => (x.F.find? fun s => s.no == b.no).getD b) _ _ (fun b hb => ?_) ?_
  · obtain ⟨a, ha, f, hf, gs, rfl⟩ := slot b hb
    simp only [norS_no, find_no hno ha, Option.getD_some]
    exact ⟨ha, txt_slot g gs⟩
  · refine List.Pairwise.imp_of_mem (fun {b c} hb hc hbc => ?_) (rise_norF (byS s m) N x.F)
    obtain ⟨a, ha, f, hf, gs, rfl⟩ := slot b hb
    obtain ⟨a', ha', f', hf', gs', rfl⟩ := slot c hc
    simp only [norS_no, find_no hno ha, find_no hno ha', Option.getD_some]
    intro e
    subst e
    simp [ltNo, norS_no] at hbc
theorem nor_txt (s : Sc) : ∀ d, TxtOk (isB s d) (norB s d)
  | 0 => fun _ _ h => by cases h
  | d + 1 => txtN_step (nor_txt s d)

/-! ### Each slot of a normal message, alone -/

theorem norO_self {s : Sc} {d : Nat} {m : Int} {x : Mg} (h : isB s (d + 1) m x = true) (hn : norB s (d + 1) m x = x) {a : So} (ha : a ∈ x.F) : norO (byS s m) (norB s d) a = some a := by
  have hno := slots_no (isB_slots h)
  have e : norF (byS s m) (norB s d) x.F = x.F := congrArg Mg.F hn
  have hb : a ∈ norF (byS s m) (norB s d) x.F := by rw [e]; exact ha
  obtain ⟨b, hb1, hb2⟩ := (mem_norF hno).1 hb
  have en := norO_no hb2
  have : a = b := by
    have h1 := find_no hno ha
    have h2 := find_no hno hb1
    rw [← en, h1] at h2
    exact Option.some.inj h2
  rw [← this] at hb2
  exact hb2
theorem enc_alone (s : Sc) (m : Int) (a : So) : encB s 64 m (.mk [a]) = slotL (byS s m) (encB s 63) a := by
  show ([a].map (slotL (byS s m) (encB s 63))).flatten = _
  simp
/-! ### No field that is there is without bytes -/

theorem rec_ne {no wire : Int} {num : Nat} {run : List UInt8} (h : putB no wire = true) : 2 ≤ (recL no wire num run).length := by
  have h1 : ∀ n, 1 ≤ (vput n).length := fun n => by rw [vput_length]; unfold vlong; split <;> omega
  rw [recL_yes h, putL_yes h, List.length_append]
  have h2 := h1 (putN no wire)
  have h3 : 1 ≤ (restL wire num run).length := by
    unfold restL
    split
    · have := h1 run.length
      rw [List.length_append]; omega
    · split
      · rw [fixb_length]; omega
      · split
        · rw [fixb_length]; omega
        · exact h1 num
  omega
theorem wire_known {k : Int} (h : cnt k = true) : knownB (wireI k) = true := by
  rcases seven_cnt h with rfl | rfl | rfl | rfl | rfl | rfl | rfl <;> rfl
theorem put_run {no : Int} (h : 1 ≤ no ∧ no ≤ 536870911) : putB no 2 = true := by unfold putB knownB; simp [h]
theorem put_num {no k : Int} (h : 1 ≤ no ∧ no ≤ 536870911) (hk : cnt k = true) : putB no (wireI k) = true := by unfold putB; rw [wire_known hk]; simp [h]
theorem ask_cnt {G : Int → Mg → Bool} {kind ref : Int} {v : Vl'} (h : askG G kind ref v = true) (h7 : kind ≠ 7) (h8 : kind ≠ 8) (h9 : kind ≠ 9) : cnt kind = true := by
  unfold askG at h
  rw [if_neg h7, if_neg h8, if_neg h9] at h
  simp only [Bool.and_eq_true] at h
  exact fits_cnt h.1
theorem fno_ok {s : Sc} (h : ScMay s) {m no : Int} {f : Df} (hf : byS s m no = some f) : (1 ≤ f.no ∧ f.no ≤ 536870911) ∧ f.no = no := by
  unfold byS msgAt at hf
  split at hf
  · simp at hf
  · cases hm : s.M[m.toNat]? with
    | none => rw [hm] at hf; simp at hf
    | some d =>
      rw [hm] at hf
      simp only [Option.bind_some] at hf
      have h1 := ((h.M d (List.mem_of_getElem? hm)).each f (List.mem_of_find?_eq_some hf)).num
      have h2 := List.find?_some hf
      unfold numberB at h1
      simp only [Bool.and_eq_true, decide_eq_true_eq] at h1
      exact ⟨h1.1, by simpa using h2⟩
end Go.Proofs.YtipaangiehdgkaaGreatDoor.T12
