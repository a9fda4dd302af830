/-
  Slices of records that read as lists; the contract of the function that holds two of them against each other.
-/
import Derived.Test.YtpaggpcpflmpcaaDoorRecRput
import Derived.BigQuiet
namespace Go.Proofs.YtpaggpcpflmpcaaDoor
open Go.RowKit

def rs (l : List Rc) : List Value := l.flatMap RC
theorem rs_append (a b : List Rc) : rs (a ++ b) = rs a ++ rs b := by simp [rs]
theorem rs_length (a : List Rc) : (rs a).length = a.length * 5 := by
  induction a with
  | nil => rfl
  | cons r a ih => simp only [rs, List.flatMap_cons, List.length_append, List.length_cons] at *; rw [ih]; simp [RC]; omega
theorem rs_cons (r : Rc) (l : List Rc) : rs (r :: l) = RC r ++ rs l := by simp [rs]
theorem rs_get : ∀ (l : List Rc) (k j : Nat) (r : Rc), l[k]? = some r → j < 5 → (rs l)[k * 5 + j]? = (RC r)[j]?
  | [], k, j, r, h, _ => by simp at h
  | x :: l, 0, j, r, h, hj => by
    obtain rfl : x = r := by simpa using h
    rw [rs_cons, Nat.zero_mul, Nat.zero_add, List.getElem?_append_left (by simp [RC]; omega)]
  | x :: l, k + 1, j, r, h, hj => by
    rw [rs_cons, List.getElem?_append_right (by simp [RC]; omega)]
    rw [show (k + 1) * 5 + j - (RC x).length = k * 5 + j by simp [RC]; omega]
    exact rs_get l k j r (by simpa using h) hj
theorem rs_one (a : List Rc) : ∀ u ∈ rs a, u.oneCell' = true := by
  intro u hu
  obtain ⟨r, _, hr⟩ := List.mem_flatMap.1 hu
  simp only [RC, List.mem_cons, List.not_mem_nil, or_false] at hr
  rcases hr with rfl | rfl | rfl | rfl | rfl <;> rfl
/-- A slice of records that reads as the list l. -/
def SlR (w : World) (A : Option Addr) (c : Nat) (l : List Rc) : Prop := Sl w A l.length c 5 (rs l)
theorem SlR.on {w w' : World} {A : Option Addr} {c : Nat} {l : List Rc} (h : SlR w A c l) (hb : Below w.heap.size w w') : SlR w' A c l := Sl.on h hb
theorem SlR.nil (w : World) : SlR w none 0 [] := Sl.nothing w 5
theorem SlR.small {w : World} {A : Option Addr} {c : Nat} {l : List Rc} (h : SlR w A c l) : l.length ≤ 9223372036854775807 ∧ c ≤ 9223372036854775807 := by
  have h1 := Sl.le h
  have h2 := Sl.cap h
  unfold maxLen at h2
  omega
theorem SlR.of_own {w : World} {base : Nat} {e : TypeId} {v : Value} {l : List Rc} (h : w.ownsRow base e 5 v l.length (rs l)) : ∃ A c, v = .slice A l.length c ∧ SlR w A c l := Sl.of_own h
/-- The record at k: its address, and its cells. -/
theorem SlR.at_ {w : World} {A : Option Addr} {c : Nat} {l : List Rc} (h : SlR w A c l) {k : Nat} (hk : k < l.length) : ∃ ad r, A = some ad ∧ ad.block < w.heap.size ∧ l[k]? = some r ∧
    w.cell? (ad.add (k * 5)) = some (.int .i64 r.no) ∧ w.cell? ⟨(ad.add (k * 5)).block, (ad.add (k * 5)).off + 1, none⟩ = some (.int .i64 r.wire) ∧ w.cell? ⟨(ad.add (k * 5)).block, (ad.add (k * 5)).off + 2, none⟩ = some (.int .u64 r.num) ∧
    w.cell? ⟨(ad.add (k * 5)).block, (ad.add (k * 5)).off + 3, none⟩ = some (.int .i64 r.frm) ∧ w.cell? ⟨(ad.add (k * 5)).block, (ad.add (k * 5)).off + 4, none⟩ = some (.int .i64 r.upto) := by
  obtain ⟨ad, rfl, hb, hcell⟩ := Sl.there h (by omega)
  have hg : l[k]? = some l[k] := List.getElem?_eq_getElem hk
  have hadd : ∀ j : Nat, 0 < j → (⟨(ad.add (k * 5)).block, (ad.add (k * 5)).off + j, none⟩ : Addr) = ad.add (k * 5 + j) := fun j hj => by
    rw [← add_twice]
    cases j with
    | zero => omega
    | succ j => simp [Addr.add]
  refine ⟨ad, l[k], rfl, hb, hg, ?_, ?_, ?_, ?_, ?_⟩
  · exact hcell (k * 5) _ (by have := rs_get l k 0 _ hg (by omega); rw [Nat.add_zero] at this; rw [this]; rfl)
  · rw [hadd 1 (by omega)]; exact hcell _ _ (by rw [rs_get l k 1 _ hg (by omega)]; rfl)
  · rw [hadd 2 (by omega)]; exact hcell _ _ (by rw [rs_get l k 2 _ hg (by omega)]; rfl)
  · rw [hadd 3 (by omega)]; exact hcell _ _ (by rw [rs_get l k 3 _ hg (by omega)]; rfl)
  · rw [hadd 4 (by omega)]; exact hcell _ _ (by rw [rs_get l k 4 _ hg (by omega)]; rfl)

/-- A record is loaded. -/
theorem load_rec (w : World) (a : Addr) (r : Rc) (h : ∀ j v, (RC r)[j]? = some v → w.cell? (a.add j) = some v) : (Instr.loadAt 25 (.pointer (some a))).run Tryd.prog w = .ok (RV r) w := by
  have hl : (loadCells a 5).run Tryd.prog w = .ok (RC r).toArray w := run_loadCells_list (P := Tryd.prog) w a (RC r) h
  have hi := infoRec
  cases hq : Tryd.prog.info? 25 with
  | none => simp [hq] at hi
  | some i =>
    have hs : i.size = 5 := by simpa [hq] using hi
    have hagg : (isAgg 25).run Tryd.prog w = .ok true w := by
      unfold isAgg
      rw [Sem.run_bind, run_underlying Tryd.underlying25 w]
      simp
    simp only [Instr.loadAt, Instr.sureAddr, Sem.run_bind, Sem.run_pure, Result.andThen_ok]
    simp [loadVar, Sem.run_bind, hagg, sizeOf, typeInfo, hq, hs, hl, RV, RC]
theorem SlR.load {w : World} {A : Option Addr} {c : Nat} {l : List Rc} (h : SlR w A c l) {k : Nat} (hk : k < l.length) : ∃ ad r, A = some ad ∧ ad.block < w.heap.size ∧ l[k]? = some r ∧
    ∀ w' : World, w'.heap = w.heap → (Instr.loadAt 25 (.pointer (some (ad.add (k * 5))))).run Tryd.prog w' = .ok (RV r) w' := by
  obtain ⟨ad, rfl, hb, hcell⟩ := Sl.there h (by omega)
  have hg : l[k]? = some l[k] := List.getElem?_eq_getElem hk
  refine ⟨ad, l[k], rfl, hb, hg, fun w' hw' => load_rec w' _ _ fun j v hv => ?_⟩
  have hj : j < 5 := by have := (List.getElem?_eq_some_iff.1 hv).1; simpa [RC] using this
  rw [add_twice]
  have := hcell (k * 5 + j) v (by rw [rs_get l k j _ hg hj]; exact hv)
  simp only [World.cell?, hw'] at this ⊢
  exact this

theorem rtake_ne {l m : List Rc} {k : Nat} {x y : Rc} (hx : l[k]? = some x) (hy : m[k]? = some y) (hne : x ≠ y) : l ≠ m := by
  rintro rfl
  rw [hx] at hy
  exact hne (by injection hy)
theorem rtake_next {l m : List Rc} {k : Nat} {x : Rc} (hx : l[k]? = some x) (hy : m[k]? = some x) (h : l.take k = m.take k) : l.take (k + 1) = m.take (k + 1) := by
  rw [List.take_add_one, List.take_add_one, h, hx, hy]

set_option maxRecDepth 1000000 in
set_option maxHeartbeats 2000000 in
theorem recs_any (A A' : Option Addr) (c c' : Nat) (l m : List Rc) (w : World) (hl : l.length ≤ 1000000000) (hm : m.length ≤ 1000000000) (h1 : SlR w A c l) (h2 : SlR w A' c' m) :
    Calls Tryd.prog 14 #[.slice A l.length c, .slice A' m.length c'] w fun e w' => e = .returned (.bool (decide (l = m))) ∧ Below w.heap.size w w' := by
  by_cases hlen : l.length = m.length
  · have hb : ((l.length : Int) != (m.length : Int)) = false := by simp [hlen]
    go_enter Tryd.func14, Tryd.ntmps14
    have HL := Lib.hid hlen
    clear hlen
    go_wp2
    clear hb
    go_loopw [5] (fun i wr => ∃ k d : Nat, i = .int .i64 k ∧ k ≤ l.length ∧ l.take k = m.take k ∧ wr = w.drewN d) (fun i _ => l.length - (intOf i).toNat)
    case atStart => exact ⟨0, 0, rfl, by omega, rfl, rfl⟩
    case round =>
      obtain ⟨k, d, rfl, hk, ht, rfl⟩ := hrel
      have HT := Lib.hid ht
      clear ht
      by_cases hlt : k < l.length
      · obtain ⟨ad, x, rfl, _, hx0, p0, p1, p2, p3, p4⟩ := h1.at_ hlt
        obtain ⟨ad', y, rfl, _, hy0, q0, q1, q2, q3, q4⟩ := h2.at_ (k := k) (by have := HL.out; omega)
        have HX := Lib.hid hx0
        have HY := Lib.hid hy0
        have hlt' : k < m.length := by have := HL.out; omega
        clear hx0 hy0 h1 h2
        by_cases hxy : x = y
        · subst hxy
          go_wp2
          go_quiet (fail)
          go_wp2
          exact ⟨⟨k + 1, d + nq, by go_num, by omega, rtake_next HX.out HY.out HT.out, rfl⟩, by simp [intOf]; omega⟩
        · have HF : Hid (decide (l = m) = false) := Lib.hid (decide_eq_false (rtake_ne HX.out HY.out hxy))
          obtain ⟨a1, a2, a3, a4, a5⟩ := x
          obtain ⟨b1, b2, b3, b4, b5⟩ := y
          have hd : (¬ (a1 : Int) = b1) ∨ (a1 = b1 ∧ ¬ (a2 : Int) = b2) ∨ (a1 = b1 ∧ a2 = b2 ∧ ¬ (a3 : Int) = b3) ∨ (a1 = b1 ∧ a2 = b2 ∧ a3 = b3 ∧ ¬ (a4 : Int) = b4) ∨ (a1 = b1 ∧ a2 = b2 ∧ a3 = b3 ∧ a4 = b4 ∧ ¬ (a5 : Int) = b5) := by
            simp only [Rc.mk.injEq] at hxy
            omega
          clear hxy HX HY
          simp only at p0 p1 p2 p3 p4 q0 q1 q2 q3 q4
          rcases hd with d1 | ⟨rfl, d2⟩ | ⟨rfl, rfl, d3⟩ | ⟨rfl, rfl, rfl, d4⟩ | ⟨rfl, rfl, rfl, rfl, d5⟩
          all_goals
            go_wp2
            go_quiet (fail)
            go_wp2
            go_ret
            exact ⟨by rw [HF.out]; rfl, (by repeat (first | exact Below.refl _ _ | assumption | refine below_draws ?_ _ | refine Below.drew ?_))⟩
      · obtain rfl : k = l.length := by omega
        have HF : Hid (decide (l = m) = true) := Lib.hid (decide_eq_true (by
          have h := HT.out
          rw [List.take_length, HL.out, List.take_length] at h
          exact h))
        clear h1 h2 HT HL
        go_wp2
        go_ret
        exact ⟨by rw [HF.out]; rfl, (by repeat (first | exact Below.refl _ _ | assumption | refine below_draws ?_ _ | refine Below.drew ?_))⟩
  · have hb : ((l.length : Int) != (m.length : Int)) = true := by rw [bne_iff_ne]; omega
    have HF : Hid (decide (l = m) = false) := Lib.hid (decide_eq_false (by rintro rfl; exact hlen rfl))
    clear hlen
    go_enter Tryd.func14, Tryd.ntmps14
    go_wp2
    go_ret
    exact ⟨by rw [HF.out]; rfl, Below.refl _ _⟩
end Go.Proofs.YtpaggpcpflmpcaaDoor
