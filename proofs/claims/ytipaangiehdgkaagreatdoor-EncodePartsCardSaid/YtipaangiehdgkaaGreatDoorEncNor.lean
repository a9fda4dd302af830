/-
  What stands ahead of a field: the contract of the function that puts it, and of the document's own.
-/
import Derived.Test.YtipaangiehdgkaaGreatDoorVarPuts
import Derived.Test.YtipaangiehdgkaaGreatDoorTyMath
import Derived.Deep.QuietTactic
import Derived.BigQuiet
import Derived.Great.BuildSlice
import Derived.Deep.WholeRow
import Derived.Laws.CopyOwn
import Derived.Test.YtipaangiehdgkaaGreatDoorVarRget
namespace Go.Proofs.YtipaangiehdgkaaGreatDoor
set_option maxRecDepth 100000

open Go.RowKit

theorem own_mono5 {w : World} {base base' : Nat} {e : TypeId} {size : Nat} {v : Value} {n : Nat} {xs : List Value} (h : w.ownsRow base e size v n xs) (hb : base' ≤ base) : w.ownsRow base' e size v n xs := by
  rcases h with ⟨hl, ⟨rfl, rfl⟩ | ⟨g, cap, cur, rfl, h1, h2⟩⟩
  · exact ⟨hl, .inl ⟨rfl, rfl⟩⟩
  · exact ⟨hl, .inr ⟨g, cap, cur, rfl, Nat.le_trans hb h1, h2⟩⟩
def putB (no wire : Int) : Bool := decide (1 ≤ no ∧ no ≤ 536870911) && knownB wire
def putN (no wire : Int) : Nat := (8 * no + wire).toNat
def putL (no wire : Int) : List UInt8 := if putB no wire then vput (putN no wire) else []
theorem putB_iff {no wire : Int} : putB no wire = true ↔ (1 ≤ no ∧ no ≤ 536870911) ∧ (wire = 0 ∨ wire = 1 ∨ wire = 2 ∨ wire = 5) := by simp [putB, knownB]
theorem putL_yes {no wire : Int} (h : putB no wire = true) : putL no wire = vput (putN no wire) := by unfold putL; rw [if_pos h]
theorem putL_no {no wire : Int} (h : putB no wire = false) : putL no wire = [] := by unfold putL; rw [if_neg (by simp [h])]
theorem putN_lt {no wire : Int} (h : putB no wire = true) : putN no wire < 4294967296 := by
  have := putB_iff.1 h
  unfold putN
  omega
/-- The number that the code reckons, which may wrap round. -/
theorem wrap_nat (x : Int) : ∃ k : Nat, IntKind.u64.wrap x = (k : Int) ∧ k < 18446744073709551616 ∧ (k : Int) = x % 18446744073709551616 := by
  have hw : IntKind.u64.wrap x = x % 18446744073709551616 := by simp [IntKind.wrap, IntKind.signed, IntKind.bits]
  exact ⟨(x % 18446744073709551616).toNat, by omega, by omega, by omega⟩

theorem tellsN_yes {no wire : Int} (h : putB no wire = true) : (((tellsN (putN no wire)).1 : Nat) : Int) = no ∧ (((tellsN (putN no wire)).2.1 : Nat) : Int) = wire ∧ (tellsN (putN no wire)).2.2 = 0 := by
  have hp := putB_iff.1 h
  have h1 : ¬ (putN no wire / 8 = 0 ∨ 536870911 < putN no wire / 8) := by unfold putN; omega
  have hr : ((putN no wire % 8 : Nat) : Int) = wire := by unfold putN; omega
  have h2 : knownB ((putN no wire % 8 : Nat) : Int) = true := by rw [hr]; simpa [knownB] using hp.2
  unfold tellsN
  rw [if_neg h1, if_pos h2]
  refine ⟨?_, hr, rfl⟩
  unfold putN; simp only; omega
theorem tellsN_no {no wire : Int} (h : putB no wire = false) (n : Nat) (h1 : (((tellsN n).1 : Nat) : Int) = no) (h2 : (((tellsN n).2.1 : Nat) : Int) = wire) : (tellsN n).2.2 ≠ 0 := by
  intro h3
  rw [← Bool.not_eq_true, putB_iff] at h
  apply h
  clear h
  unfold tellsN at h1 h2 h3
  split at h1
  · rename_i hc
    rw [if_pos hc] at h3
    simp at h3
  · rename_i hc
    rw [if_neg hc] at h2 h3
    split at h1
    · rename_i hk
      rw [if_pos hk] at h2
      simp only at h1 h2
      rw [h2] at hk
      exact ⟨by omega, by simpa [knownB] using hk⟩
    · rename_i hk
      rw [if_neg hk] at h3
      simp at h3

set_option maxRecDepth 1000000 in
theorem tput_own (no wire : Int) (hn1 : -9223372036854775808 ≤ no) (hn2 : no ≤ 9223372036854775807) (hw1 : -9223372036854775808 ≤ wire) (hw2 : wire ≤ 9223372036854775807) (w : World) (T : Wires w) :
    Calls Tryz.prog 175 #[.int .i64 no, .int .i64 wire] w fun e w' => ∃ v, e = .returned (.tuple #[v, .bool (putB no wire)]) ∧ w'.ownsRow w.heap.size 5 1 v (putL no wire).length (bs (putL no wire)) ∧ Below w.heap.size w w' := by
  obtain ⟨k, hk, bk, ek⟩ := wrap_nat (IntKind.u64.wrap (8 * IntKind.u64.wrap no) + IntKind.u64.wrap wire)
  have ek2 : (k : Int) = (8 * no + wire) % 18446744073709551616 := by
    obtain ⟨a, ha, _, ea⟩ := wrap_nat no
    obtain ⟨b, hb, _, eb⟩ := wrap_nat wire
    rw [ha, hb] at ek
    obtain ⟨m, hm, _, em⟩ := wrap_nat (8 * (a : Int))
    rw [hm] at ek
    omega
  clear ek
  by_cases hB : putB no wire = true
  · have hkn : k = putN no wire := by have := putN_lt hB; have := putB_iff.1 hB; unfold putN at *; omega
    obtain ⟨t1, t2, t3⟩ := tellsN_yes hB
    rw [← hkn] at t1 t2 t3
    have hT : TV (tellsN k) = .agg #[.int .i64 no, .int .i64 wire, .int .i64 0] := by unfold TV; rw [t1, t2, t3]; rfl
    rw [putL_yes hB, hB, ← hkn]
    clear t1 t2 t3 hkn ek2
    go_enter Tryz.func175, Tryz.ntmps175
    go_wp2_with fail
    refine (tells_any k bk w T).mono ?_
    rintro e w1 ⟨rfl, hb⟩
    rw [hT]
    go_wp2_with fail
    refine (put_any k bk _).mono ?_
    rintro e w2 ⟨v, rfl, hown, hb2⟩
    go_wp2
    go_ret2
    exact ⟨v, rfl, own_mono5 hown hb.size, below_then hb hb2⟩
  · have hB : putB no wire = false := by simpa using hB
    have hT := tellsN_no hB k
    rw [putL_no hB, hB]
    have hG : ∃ x y z : Int, TV (tellsN k) = .agg #[.int .i64 x, .int .i64 y, .int .i64 z] ∧ (x = no → y = wire → z ≠ 0) := ⟨_, _, _, rfl, fun h1 h2 h3 => hT h1 h2 (by omega)⟩
    obtain ⟨x, y, z, hx, hne⟩ := hG
    clear hT ek2
    go_enter Tryz.func175, Tryz.ntmps175
    go_wp2_with fail
    refine (tells_any k bk w T).mono ?_
    rintro e w1 ⟨rfl, hb⟩
    rw [hx]
    go_wp2
    all_goals go_ret2
    all_goals exact ⟨_, rfl, World.ownsRow_nil _ _ _ _, hb⟩

/-- A row of the call's own stays where nothing old turns. -/
theorem own_below5 {w w' : World} {base : Nat} {e : TypeId} {size : Nat} {v : Value} {n : Nat} {xs : List Value} (h : w.ownsRow base e size v n xs) (hb : Below w.heap.size w w') : w'.ownsRow base e size v n xs := by
  rcases h with ⟨hl, ⟨rfl, rfl⟩ | ⟨g, cap, cur, rfl, h1, h2, h3⟩⟩
  · exact ⟨hl, .inl ⟨rfl, rfl⟩⟩
  · exact ⟨hl, .inr ⟨g, cap, cur, rfl, h1, (hb.block g (Array.getElem?_eq_some_iff.1 h2).1).trans h2, h3⟩⟩
theorem tput_any (no wire : Int) (hn1 : -9223372036854775808 ≤ no) (hn2 : no ≤ 9223372036854775807) (hw1 : -9223372036854775808 ≤ wire) (hw2 : wire ≤ 9223372036854775807) (w : World) (T : Wires w) :
    Calls Tryz.prog 175 #[.int .i64 no, .int .i64 wire] w fun e w' => ∃ A c, e = .returned (.tuple #[.slice A (putL no wire).length c, .bool (putB no wire)]) ∧ SlB w' A c (putL no wire) ∧ Below w.heap.size w w' := by
  refine (tput_own no wire hn1 hn2 hw1 hw2 w T).mono ?_
  rintro e w' ⟨v, rfl, hown, hb⟩
  obtain ⟨A, c, rfl, hr⟩ := SlB.of_own hown
  exact ⟨A, c, rfl, hr, hb⟩
end Go.Proofs.YtipaangiehdgkaaGreatDoor
/-
  Records of bytes as lists: what is told at a place, and of all places from one to another one.
-/
namespace Go.Proofs.YtipaangiehdgkaaGreatDoor
set_option maxRecDepth 100000

open Go.RowKit

structure Rc where
  no : Nat
  wire : Nat
  num : Nat
  frm : Nat
  upto : Nat
  deriving DecidableEq

def Rc.zero : Rc := ⟨0, 0, 0, 0, 0⟩
def RC (r : Rc) : List Value := [.int .i64 r.no, .int .i64 r.wire, .int .u64 r.num, .int .i64 r.frm, .int .i64 r.upto]
def RV (r : Rc) : Value := .agg #[.int .i64 r.no, .int .i64 r.wire, .int .u64 r.num, .int .i64 r.frm, .int .i64 r.upto]

/-- The number behind what stands ahead of a field, by its wire type. -/
def numR (l : List UInt8) (a u : Int) (wire : Nat) : Nat × Nat × Nat :=
  if wire = 1 then unfixR l a u 8 else if wire = 5 then unfixR l a u 4 else getR l a u
/-- What is told of a number n that ends at p. -/
def runR (no wire f n p : Nat) (u : Int) : Rc × Nat × Nat :=
  if wire = 2 then (if (n : Int) ≤ u - p then (⟨no, wire, n, p, p + n⟩, p + n, 0) else (Rc.zero, 0, 6)) else (⟨no, wire, n, f, p⟩, p, 0)
def restR (no wire f : Nat) (u : Int) (x : Nat × Nat × Nat) : Rc × Nat × Nat :=
  if x.2.2 = 0 then runR no wire f x.1 x.2.1 u else (Rc.zero, 0, x.2.2)
def nextR (l : List UInt8) (a u : Int) : Rc × Nat × Nat :=
  if (tgetR l a u).2.2.2 = 0 then restR (tgetR l a u).1 (tgetR l a u).2.1 (tgetR l a u).2.2.1 u (numR l (tgetR l a u).2.2.1 u (tgetR l a u).2.1)
  else (Rc.zero, 0, (tgetR l a u).2.2.2)
def NV (x : Rc × Nat × Nat) : Value := .tuple #[RV x.1, .int .i64 x.2.1, .int .i64 x.2.2]

theorem lead_lt {l : List UInt8} (h : ¬ lead (l.take 10) = 10) (h2 : ¬ lead (l.take 10) = l.length) : lead (l.take 10) + 1 ≤ l.length := by
  have := lead_le (l.take 10)
  rw [List.length_take] at this
  omega
theorem get_ok {l : List UInt8} {a u : Int} {n p : Nat} (h : getR l a u = (n, p, 0)) : 0 ≤ a ∧ a < p ∧ (p : Int) ≤ u ∧ u ≤ l.length ∧ n < 18446744073709551616 ∧ (p : Int) ≤ a + 10 := by
  have hn := get_lt l a u
  rw [h] at hn
  unfold getR at h
  split at h
  · rename_i hm
    have hm := mayB_true.1 hm
    obtain ⟨an, rfl⟩ := Int.eq_ofNat_of_zero_le hm.1
    obtain ⟨un, rfl⟩ := Int.eq_ofNat_of_zero_le (show 0 ≤ u by omega)
    unfold getS at h
    simp only [Int.toNat_natCast] at h
    have hL : ((l.drop an).take (un - an)).length = un - an := by simp; omega
    generalize (l.drop an).take (un - an) = d at *
    have h2 := congrArg (·.2.1) h
    have h3 := congrArg (·.2.2) h
    simp only at h2 h3
    rw [if_pos h3] at h2
    unfold vget at h3 h2
    by_cases c1 : lead (d.take 10) = 10
    · rw [if_pos c1] at h3; simp at h3
    · rw [if_neg c1] at h3 h2
      by_cases c2 : lead (d.take 10) = d.length
      · rw [if_pos c2] at h3; simp at h3
      · rw [if_neg c2] at h2
        simp only at h2
        have := lead_lt c1 c2
        have h10 := lead_le (d.take 10)
        rw [List.length_take] at h10
        simp only at hn
        omega
  · simp at h
theorem unfix_ok {l : List UInt8} {a u s : Int} {n p : Nat} (h : unfixR l a u s = (n, p, 0)) : 0 ≤ a ∧ (p : Int) = a + s ∧ (s = 4 ∨ s = 8) ∧ (p : Int) ≤ u ∧ u ≤ l.length ∧ n < 18446744073709551616 := by
  unfold unfixR at h
  split at h
  · rename_i hm
    rw [Bool.and_eq_true] at hm
    have hs : s = 4 ∨ s = 8 := by simpa [sizeB] using hm.2
    have hm := mayB_true.1 hm.1
    obtain ⟨an, rfl⟩ := Int.eq_ofNat_of_zero_le hm.1
    obtain ⟨un, rfl⟩ := Int.eq_ofNat_of_zero_le (show 0 ≤ u by omega)
    obtain ⟨sn, rfl⟩ := Int.eq_ofNat_of_zero_le (show 0 ≤ s by omega)
    simp only [Int.toNat_natCast] at h
    unfold unfixS at h
    split at h
    · simp at h
    · simp only [Prod.mk.injEq] at h
      have := fix_lt l an sn (by omega)
      omega
  · simp at h
theorem num_ok {l : List UInt8} {a u : Int} {w n p : Nat} (h : numR l a u w = (n, p, 0)) : 0 ≤ a ∧ a < p ∧ (p : Int) ≤ u ∧ u ≤ l.length ∧ n < 18446744073709551616 := by
  unfold numR at h
  split at h
  · have := unfix_ok h; omega
  · split at h
    · have := unfix_ok h; omega
    · have := get_ok h; omega
theorem tells_le (n : Nat) : (tellsN n).1 ≤ 536870911 ∧ (tellsN n).2.1 ≤ 7 := by
  unfold tellsN
  split
  · simp
  · split
    · simp only; omega
    · simp
theorem tget_ok {l : List UInt8} {a u : Int} {no w p : Nat} (h : tgetR l a u = (no, w, p, 0)) : 0 ≤ a ∧ a < p ∧ (p : Int) ≤ u ∧ u ≤ l.length ∧ (p : Int) ≤ a + 10 ∧ putB no w = true ∧ ∃ n, getR l a u = (n, p, 0) ∧ tellsN n = (no, w, 0) := by
  unfold tgetR at h
  split at h
  · rename_i h1
    split at h
    · rename_i h2
      simp only [Prod.mk.injEq] at h
      have hg : getR l a u = ((getR l a u).1, p, 0) := by rw [← h.2.2.1, ← h1]
      have ht : tellsN (getR l a u).1 = (no, w, 0) := by rw [← h.1, ← h.2.1, ← h2]
      have := get_ok hg
      refine ⟨by omega, by omega, by omega, by omega, by omega, ?_, _, hg, ht⟩
      have h0 := tells_le (getR l a u).1
      rw [ht] at h0
      by_cases hp : putB (no : Int) (w : Int) = true
      · exact hp
      · have := tellsN_no (by simpa using hp) (getR l a u).1 (by rw [ht]) (by rw [ht])
        rw [ht] at this
        exact absurd rfl this
    · rename_i h2
      simp only [Prod.mk.injEq] at h
      exact absurd h.2.2.2 h2
  · rename_i h1
    simp only [Prod.mk.injEq] at h
    exact absurd h.2.2.2 h1
theorem next_ok {l : List UInt8} {a u : Int} {r : Rc} {p : Nat} (h : nextR l a u = (r, p, 0)) : 0 ≤ a ∧ a + 2 ≤ p ∧ (p : Int) ≤ u ∧ u ≤ l.length ∧ r.upto = p ∧ a < r.frm ∧ r.frm ≤ r.upto := by
  unfold nextR at h
  split at h
  · rename_i h1
    obtain ⟨no, w, f, ht⟩ : ∃ no w f, tgetR l a u = (no, w, f, 0) := ⟨_, _, _, by rw [← h1]⟩
    rw [ht] at h
    have h2 := tget_ok ht
    simp only at h
    unfold restR at h
    split at h
    · rename_i h3
      obtain ⟨n, q, hn⟩ : ∃ n q, numR l f u w = (n, q, 0) := ⟨_, _, by rw [← h3]⟩
      rw [hn] at h
      have h4 := num_ok hn
      unfold runR at h
      simp only at h
      split at h
      · split at h
        · simp only [Prod.mk.injEq] at h
          obtain ⟨rfl, rfl, _⟩ := h
          exact ⟨by omega, by omega, by omega, by omega, rfl, by show a < (q : Int); omega, by show q ≤ q + n; omega⟩
        · simp at h
      · simp only [Prod.mk.injEq] at h
        obtain ⟨rfl, rfl, _⟩ := h
        exact ⟨by omega, by omega, by omega, by omega, rfl, by show a < (f : Int); omega, by show f ≤ q; omega⟩
    · simp only [Prod.mk.injEq] at h
      omega
  · simp only [Prod.mk.injEq] at h
    omega

/-! ### All records from one place to another one -/

def recsF (l : List UInt8) (u : Nat) : Nat → Nat → List Rc × Nat
  | 0, _ => ([], 0)
  | f + 1, a => if a < u then (if (nextR l a u).2.2 = 0 then ((nextR l a u).1 :: (recsF l u f (nextR l a u).2.1).1, (recsF l u f (nextR l a u).2.1).2) else ([], (nextR l a u).2.2)) else ([], 0)
theorem recsF_more (l : List UInt8) (u : Nat) : ∀ f g a, u - a ≤ f → u - a ≤ g → recsF l u f a = recsF l u g a
  | 0, 0, _, _, _ => rfl
  | 0, g + 1, a, h, _ => by
    have : ¬ a < u := by omega
    simp [recsF, this]
  | f + 1, 0, a, _, h => by
    have : ¬ a < u := by omega
    simp [recsF, this]
  | f + 1, g + 1, a, hf, hg => by
    unfold recsF
    by_cases ha : a < u
    · rw [if_pos ha, if_pos ha]
      by_cases h0 : (nextR l a u).2.2 = 0
      · rw [if_pos h0, if_pos h0]
        have h1 := next_ok (r := (nextR l a u).1) (p := (nextR l a u).2.1) (show nextR l a u = _ by rw [← h0])
        rw [recsF_more l u f g _ (by omega) (by omega)]
      · rw [if_neg h0, if_neg h0]
    · rw [if_neg ha, if_neg ha]
def recs (l : List UInt8) (u a : Nat) : List Rc × Nat := recsF l u (u - a) a
theorem recs_end {l : List UInt8} {u a : Nat} (h : ¬ a < u) : recs l u a = ([], 0) := by
  unfold recs
  rw [recsF_more l u _ 1 a (by omega) (by omega)]
  simp [recsF, h]
theorem recs_step {l : List UInt8} {u a : Nat} {r : Rc} {p : Nat} (h : a < u) (hn : nextR l a u = (r, p, 0)) : recs l u a = (r :: (recs l u p).1, (recs l u p).2) := by
  have h1 := next_ok hn
  unfold recs
  obtain ⟨f, hf⟩ : ∃ f, u - a = f + 1 := ⟨u - a - 1, by omega⟩
  rw [hf, recsF, if_pos h, hn, if_pos rfl, recsF_more l u f (u - p) p (by omega) (by omega)]
theorem recs_stop {l : List UInt8} {u a : Nat} {r : Rc} {p e : Nat} (h : a < u) (hn : nextR l a u = (r, p, e)) (he : e ≠ 0) : recs l u a = ([], e) := by
  unfold recs
  obtain ⟨f, hf⟩ : ∃ f, u - a = f + 1 := ⟨u - a - 1, by omega⟩
  rw [hf, recsF, if_pos h, hn]
  simp only
  rw [if_neg he]
def allR (l : List UInt8) (a u : Int) : List Rc × Nat := if mayB a u l.length then recs l u.toNat a.toNat else ([], 1)
end Go.Proofs.YtipaangiehdgkaaGreatDoor
/-
  The contract of the function that holds two slices of bytes against each other.
-/
namespace Go.Proofs.YtipaangiehdgkaaGreatDoor
set_option maxRecDepth 100000

open Go.RowKit

theorem take_ne {l m : List UInt8} {k : Nat} {x y : UInt8} (hx : l[k]? = some x) (hy : m[k]? = some y) (hne : x ≠ y) : l ≠ m := by
  rintro rfl
  rw [hx] at hy
  exact hne (by injection hy)
theorem take_next5 {l m : List UInt8} {k : Nat} {x : UInt8} (hx : l[k]? = some x) (hy : m[k]? = some x) (h : l.take k = m.take k) : l.take (k + 1) = m.take (k + 1) := by
  rw [List.take_add_one, List.take_add_one, h, hx, hy]

set_option maxRecDepth 100000 in
theorem bytes_any (A A' : Option Addr) (c c' : Nat) (l m : List UInt8) (w : World) (hl : l.length ≤ 1000000000) (hm : m.length ≤ 1000000000) (h1 : SlB w A c l) (h2 : SlB w A' c' m) :
    Calls Tryz.prog 14 #[.slice A l.length c, .slice A' m.length c'] w fun e w' => e = .returned (.bool (decide (l = m))) ∧ Below w.heap.size w w' := by
  by_cases hlen : l.length = m.length
  · have hb : ((l.length : Int) != (m.length : Int)) = false := by simp [hlen]
    go_enter Tryz.func14, Tryz.ntmps14
    have HL := Lib.hid hlen
    clear hlen
    go_wp2
    clear hb
    go_loopw [5] (fun i wr => ∃ k d : Nat, i = .int .i64 k ∧ k ≤ l.length ∧ l.take k = m.take k ∧ wr = w.drewN d) (fun i _ => l.length - (intOf i).toNat)
    case atStart => exact ⟨0, 0, rfl, by omega, rfl, rfl⟩
    case round =>
      obtain ⟨k, d, rfl, hk, ht, rfl⟩ := hrel
      have HT := Lib.hid ht
      clear ht
      by_cases hlt : k < l.length
      · obtain ⟨ad, x, rfl, _, hx0, hc⟩ := h1.at_ hlt
        obtain ⟨ad', y, rfl, _, hy0, hc'⟩ := h2.at_ (k := k) (by have := HL.out; omega)
        have HX := Lib.hid hx0
        have HY := Lib.hid hy0
        have hlt' : k < m.length := by have := HL.out; omega
        clear hx0 hy0 h1 h2
        by_cases hxy : x = y
        · subst hxy
          go_wp2
          go_quiet (fail)
          go_wp2
          exact ⟨⟨k + 1, d + nq, by go_num, by omega, take_next5 HX.out HY.out HT.out, rfl⟩, by simp [intOf]; omega⟩
        · have hne : ((x.toNat : Int) != (y.toNat : Int)) = true := by
            rw [bne_iff_ne]
            intro h
            exact hxy (UInt8.toNat_inj.1 (by omega))
          have HF : Hid (decide (l = m) = false) := Lib.hid (decide_eq_false (take_ne HX.out HY.out hxy))
          clear hxy
          go_wp2
          go_quiet (fail)
          go_wp2
          go_ret
          exact ⟨by rw [HF.out]; rfl, (by repeat (first | exact Below.refl _ _ | assumption | refine below_draws ?_ _ | refine Below.drew ?_))⟩
      · obtain rfl : k = l.length := by omega
        have HF : Hid (decide (l = m) = true) := Lib.hid (decide_eq_true (by
          have h := HT.out
          rw [List.take_length, HL.out, List.take_length] at h
          exact h))
        clear h1 h2 HT HL
        go_wp2
        go_ret
        exact ⟨by rw [HF.out]; rfl, (by repeat (first | exact Below.refl _ _ | assumption | refine below_draws ?_ _ | refine Below.drew ?_))⟩
  · have hb : ((l.length : Int) != (m.length : Int)) = true := by rw [bne_iff_ne]; omega
    have HF : Hid (decide (l = m) = false) := Lib.hid (decide_eq_false (by rintro rfl; exact hlen rfl))
    clear hlen
    go_enter Tryz.func14, Tryz.ntmps14
    go_wp2
    go_ret
    exact ⟨by rw [HF.out]; rfl, Below.refl _ _⟩
theorem bytes_at (A A' : Option Addr) (k k' c c' : Nat) (l m : List UInt8) (hk : k = l.length) (hk' : k' = m.length) (w : World) (hl : l.length ≤ 1000000000) (hm : m.length ≤ 1000000000) (h1 : SlB w A c l) (h2 : SlB w A' c' m) :
    Calls Tryz.prog 14 #[.slice A k c, .slice A' k' c'] w fun e w' => e = .returned (.bool (decide (l = m))) ∧ Below w.heap.size w w' := by
  subst hk hk'
  exact bytes_any A A' c c' l m w hl hm h1 h2
end Go.Proofs.YtipaangiehdgkaaGreatDoor
/-
  The contract of the document's own way to get a number out of four or eight bytes, and of the chapter's examples.
-/
namespace Go.Proofs.YtipaangiehdgkaaGreatDoor
set_option maxRecDepth 100000

open Go.RowKit

def RUnfixRel (l : List UInt8) (a : Nat) (S : Nat) (n i : Value) : Prop :=
  ∃ k : Nat, i = .int .i64 ((k : Int) - 1) ∧ k ≤ S ∧ n = .int .u64 ((fixn (((l.drop a).take S).drop k) : Nat) : Int)

theorem fix_lt8 (l : List UInt8) (hl : l.length ≤ 8) : fixn l < 18446744073709551616 := by
  have h := fixn_lt l
  have h2 : (256 : Nat) ^ l.length ≤ 256 ^ 8 := Nat.pow_le_pow_right (by omega) hl
  omega

end Go.Proofs.YtipaangiehdgkaaGreatDoor
/-
  The record that begins at a place: the contracts of the two functions that tell it, and of the one that tells its number.
-/
namespace Go.Proofs.YtipaangiehdgkaaGreatDoor
set_option maxRecDepth 100000

open Go.RowKit

theorem infoRec : (Tryz.prog.info? 62).map (·.size) = some 5 := by kernel_rfl
theorem results_row_tmp25 {P : Program} {fn : Func} {p u v : Tmp} {ty : TypeId} (h : fn.results = #[.cell p ty, .tmp u, .tmp v]) (tmps : Array Value) (w : World) (g : Nat) (t : TypeId) (cs : Array Value) (fr : Nat × Nat) (d : TypeDesc)
    (hp : tmps.getD p undef = .pointer (some ⟨g, 0, none⟩)) (hg : w.heap[g]? = some (.cells cs t fr))
    (hu : P.underlying ty = some d) (hd : (match d with | .struct _ | .array _ _ => true | _ => false) = true) (hi : (P.info? ty).map (·.size) = some cs.size) :
    (results fn tmps).run P w = .ok (.tuple #[.agg cs, tmps.getD u undef, tmps.getD v undef]) w := by
  have hp' : tmps[p]?.getD undef = .pointer (some ⟨g, 0, none⟩) := by simpa using hp
  simp [results, h, hp', asAddr, run_loadVar_row w g t ty cs fr d hg hu hd hi]

/-- A record is stored where one lies. -/
theorem wpList_store_rec {ops : Array Oper} {rest : List Oper} {o : Oper} {a : Act} {w : World} {Q : Exit → Act → World → Prop} (hgd : o.guard = none) (x y : Operand) (ho : o.op = .store 62 x y)
    (hd : o.dst = none) (g : Nat) (n1 n2 n3 n4 n5 o1 o2 o3 o4 o5 : Int) (hx : a.eval x = .pointer (some ⟨g, 0, none⟩)) (hy : a.eval y = .agg #[.int .i64 n1, .int .i64 n2, .int .u64 n3, .int .i64 n4, .int .i64 n5])
    (t : TypeId) (hg : w.heap[g]? = some (.cells #[.int .i64 o1, .int .i64 o2, .int .u64 o3, .int .i64 o4, .int .i64 o5] t (0, 0)))
    (h : wpList Tryz.prog ops Q rest a (w.setRow g #[.int .i64 n1, .int .i64 n2, .int .u64 n3, .int .i64 n4, .int .i64 n5])) : wpList Tryz.prog ops Q (o :: rest) a w :=
  wpList_store_rowTo hgd 62 x y ho hd g _ hx hy t _ hg infoRec rfl (by simp [Value.oneCell']) h
/-- Three results, of which the first is a record that lies in a block. -/
theorem results_rec {fn : Func} {p u v : Tmp} (h : fn.results = #[.cell p 62, .tmp u, .tmp v]) (tmps : Array Value) (w : World) (g : Nat) (t : TypeId) (n1 n2 n3 n4 n5 : Int) (fr : Nat × Nat)
    (hp : tmps.getD p undef = .pointer (some ⟨g, 0, none⟩)) (hg : w.heap[g]? = some (.cells #[.int .i64 n1, .int .i64 n2, .int .u64 n3, .int .i64 n4, .int .i64 n5] t fr)) :
    (results fn tmps).run Tryz.prog w = .ok (.tuple #[.agg #[.int .i64 n1, .int .i64 n2, .int .u64 n3, .int .i64 n4, .int .i64 n5], tmps.getD u undef, tmps.getD v undef]) w :=
  results_row_tmp25 h tmps w g t _ fr _ hp hg Tryz.underlying62 rfl infoRec

theorem number_any (A : Option Addr) (c : Nat) (l : List UInt8) (a u : Int) (wire : Nat) (hl : l.length ≤ 1000000000) (w : World) (h1 : SlB w A c l) :
    Calls Tryz.prog 112 #[.slice A l.length c, .int .i64 a, .int .i64 u, .int .i64 wire] w fun e w' => e = .returned (V3 (numR l a u wire)) ∧ w = w' := by
  by_cases h8 : wire = 1
  · have hn : numR l a u wire = unfixR l a u 8 := by unfold numR; rw [if_pos h8]
    obtain ⟨x, y, z, hx⟩ : ∃ x y z, unfixR l a u 8 = (x, y, z) := ⟨_, _, _, rfl⟩
    rw [hn, hx]
    subst h8
    go_enter Tryz.func112, Tryz.ntmps112
    go_wp2_with fail
    refine (unfix_any A c l a u 8 hl w h1).mono ?_
    rintro e w1 ⟨rfl, rfl⟩
    rw [hx]
    unfold V3
    go_wp2
    go_ret3
    exact ⟨rfl, rfl⟩
  · have b8 : ((wire : Int) == 1) = false := by simp; omega
    by_cases h4 : wire = 5
    · have hn : numR l a u wire = unfixR l a u 4 := by unfold numR; rw [if_neg h8, if_pos h4]
      obtain ⟨x, y, z, hx⟩ : ∃ x y z, unfixR l a u 4 = (x, y, z) := ⟨_, _, _, rfl⟩
      rw [hn, hx]
      subst h4
      go_enter Tryz.func112, Tryz.ntmps112
      go_wp2_with fail
      refine (unfix_any A c l a u 4 hl w h1).mono ?_
      rintro e w1 ⟨rfl, rfl⟩
      rw [hx]
      unfold V3
      go_wp2
      go_ret3
      exact ⟨rfl, rfl⟩
    · have b4 : ((wire : Int) == 5) = false := by simp; omega
      have hn : numR l a u wire = getR l a u := by unfold numR; rw [if_neg h8, if_neg h4]
      obtain ⟨x, y, z, hx⟩ : ∃ x y z, getR l a u = (x, y, z) := ⟨_, _, _, rfl⟩
      rw [hn, hx]
      clear h8 h4
      go_enter Tryz.func112, Tryz.ntmps112
      go_wp2_with fail
      refine (get_any A c l a u hl w h1).mono ?_
      rintro e w1 ⟨rfl, rfl⟩
      rw [hx]
      unfold V3
      go_wp2
      go_ret3
      exact ⟨rfl, rfl⟩

set_option maxRecDepth 1000000 in
theorem next_any (A : Option Addr) (c : Nat) (l : List UInt8) (a u : Int) (hl : l.length ≤ 1000000000) (w : World) (h1 : SlB w A c l) (T : Wires w) :
    Calls Tryz.prog 65 #[.slice A l.length c, .int .i64 a, .int .i64 u] w fun e w' => e = .returned (NV (nextR l a u)) ∧ Below w.heap.size w w' := by
  obtain ⟨no, wire, f, x, ht⟩ : ∃ no wire f x, tgetR l a u = (no, wire, f, x) := ⟨_, _, _, _, rfl⟩
  have hN : nextR l a u = if x = 0 then restR no wire f u (numR l f u wire) else (Rc.zero, 0, x) := by unfold nextR; rw [ht]
  rw [hN]
  by_cases hx : x = 0
  · rw [if_pos hx]
    subst hx
    obtain ⟨n, p, y, hn⟩ : ∃ n p y, numR l f u wire = (n, p, y) := ⟨_, _, _, rfl⟩
    have hR : restR no wire f u (numR l f u wire) = if y = 0 then runR no wire f n p u else (Rc.zero, 0, y) := by unfold restR; rw [hn]
    rw [hR]
    by_cases hy : y = 0
    · rw [if_pos hy]
      subst hy
      have hk := num_ok hn
      by_cases hw : wire = 2
      · have hr : runR no wire f n p u = if (n : Int) ≤ u - p then (⟨no, wire, n, p, p + n⟩, p + n, 0) else (Rc.zero, 0, 6) := by unfold runR; rw [if_pos hw]
        rw [hr]
        have bw : ((wire : Int) == 2) = true := by simp [hw]
        have ec : IntKind.u64.wrap (IntKind.i64.wrap (u - p)) = u - p := by simp [IntKind.wrap, IntKind.signed, IntKind.bits]; omega
        have e1 : IntKind.i64.wrap (u - p) = u - p := by simp [IntKind.wrap, IntKind.signed, IntKind.bits]; split <;> omega
        have e1' : IntKind.u64.wrap (u - p) = u - p := by simp [IntKind.wrap, IntKind.signed, IntKind.bits]; omega
        by_cases hc : (n : Int) ≤ u - p
        · rw [if_pos hc]
          have bc : decide (u - p < (n : Int)) = false := by simp; omega
          have e2 : IntKind.i64.wrap (n : Int) = n := by simp [IntKind.wrap, IntKind.signed, IntKind.bits]; split <;> omega
          have e3 : IntKind.i64.wrap ((p : Int) + n) = ((p + n : Nat) : Int) := by simp [IntKind.wrap, IntKind.signed, IntKind.bits]; split <;> omega
          generalize hq : p + n = q at *
          clear hk hq hc hr hR hN hw
          go_enter Tryz.func65, Tryz.ntmps65
          go_wp2_with fail
          refine (tget_any A c l a u hl _ (h1.lit _) (T.on (below_new _ _))).mono ?_
          rintro e w1 ⟨rfl, hb1⟩
          rw [ht]
          unfold V4
          have hg1 := hb1.block w.heap.size (by simp)
          rw [heap_alloc_new] at hg1
          go_wp2_with fail
          refine (number_any A c l f u wire hl _ ((h1.lit _).on hb1)).mono ?_
          rintro e w2 ⟨rfl, rfl⟩
          rw [hn]
          unfold V3
          go_wp2_with (refine wpList_store_rec rfl _ _ rfl rfl w.heap.size _ _ _ _ _ _ _ _ _ _ rfl rfl _ hg1 ?_)
          refine bodyPost_ret (results_rec rfl _ _ w.heap.size _ _ _ _ _ _ (0, 0) rfl (setRow_heap _ _ _ _ _ _ hg1)) rfl ?_
          exact ⟨rfl, below_setRow (below_then (below_new _ _) hb1) (Nat.le_refl _) _⟩
        · rw [if_neg hc]
          have bc : decide (u - p < (n : Int)) = true := by simp; omega
          clear hk hc hr hR hN hw
          go_enter Tryz.func65, Tryz.ntmps65
          go_wp2_with fail
          refine (tget_any A c l a u hl _ (h1.lit _) (T.on (below_new _ _))).mono ?_
          rintro e w1 ⟨rfl, hb1⟩
          rw [ht]
          unfold V4
          have hg1 := hb1.block w.heap.size (by simp)
          rw [heap_alloc_new] at hg1
          go_wp2_with fail
          refine (number_any A c l f u wire hl _ ((h1.lit _).on hb1)).mono ?_
          rintro e w2 ⟨rfl, rfl⟩
          rw [hn]
          unfold V3
          go_wp2_with (refine wpList_store_rec rfl _ _ rfl rfl w.heap.size _ _ _ _ _ _ _ _ _ _ rfl rfl _ hg1 ?_)
          refine bodyPost_ret (results_rec rfl _ _ w.heap.size _ _ _ _ _ _ (0, 0) rfl (setRow_heap _ _ _ _ _ _ hg1)) rfl ?_
          exact ⟨rfl, below_setRow (below_then (below_new _ _) hb1) (Nat.le_refl _) _⟩
      · have hr : runR no wire f n p u = (⟨no, wire, n, f, p⟩, p, 0) := by unfold runR; rw [if_neg hw]
        rw [hr]
        have bw : ((wire : Int) == 2) = false := by simp; omega
        clear hk hr hR hN hw
        go_enter Tryz.func65, Tryz.ntmps65
        go_wp2_with fail
        refine (tget_any A c l a u hl _ (h1.lit _) (T.on (below_new _ _))).mono ?_
        rintro e w1 ⟨rfl, hb1⟩
        rw [ht]
        unfold V4
        have hg1 := hb1.block w.heap.size (by simp)
        rw [heap_alloc_new] at hg1
        go_wp2_with fail
        refine (number_any A c l f u wire hl _ ((h1.lit _).on hb1)).mono ?_
        rintro e w2 ⟨rfl, rfl⟩
        rw [hn]
        unfold V3
        go_wp2_with (refine wpList_store_rec rfl _ _ rfl rfl w.heap.size _ _ _ _ _ _ _ _ _ _ rfl rfl _ hg1 ?_)
        refine bodyPost_ret (results_rec rfl _ _ w.heap.size _ _ _ _ _ _ (0, 0) rfl (setRow_heap _ _ _ _ _ _ hg1)) rfl ?_
        exact ⟨rfl, below_setRow (below_then (below_new _ _) hb1) (Nat.le_refl _) _⟩
    · rw [if_neg hy]
      have by' : ((y : Int) != 0) = true := by simp; omega
      clear hR hN
      go_enter Tryz.func65, Tryz.ntmps65
      go_wp2_with fail
      refine (tget_any A c l a u hl _ (h1.lit _) (T.on (below_new _ _))).mono ?_
      rintro e w1 ⟨rfl, hb1⟩
      rw [ht]
      unfold V4
      have hg1 := hb1.block w.heap.size (by simp)
      rw [heap_alloc_new] at hg1
      go_wp2_with fail
      refine (number_any A c l f u wire hl _ ((h1.lit _).on hb1)).mono ?_
      rintro e w2 ⟨rfl, rfl⟩
      rw [hn]
      unfold V3
      go_wp2_with (refine wpList_store_rec rfl _ _ rfl rfl w.heap.size _ _ _ _ _ _ _ _ _ _ rfl rfl _ hg1 ?_)
      refine bodyPost_ret (results_rec rfl _ _ w.heap.size _ _ _ _ _ _ (0, 0) rfl (setRow_heap _ _ _ _ _ _ hg1)) rfl ?_
      exact ⟨rfl, below_setRow (below_then (below_new _ _) hb1) (Nat.le_refl _) _⟩
  · rw [if_neg hx]
    have bx : ((x : Int) != 0) = true := by simp; omega
    clear hN
    go_enter Tryz.func65, Tryz.ntmps65
    go_wp2_with fail
    refine (tget_any A c l a u hl _ (h1.lit _) (T.on (below_new _ _))).mono ?_
    rintro e w1 ⟨rfl, hb1⟩
    rw [ht]
    unfold V4
    have hg1 := hb1.block w.heap.size (by simp)
    rw [heap_alloc_new] at hg1
    go_wp2_with (refine wpList_store_rec rfl _ _ rfl rfl w.heap.size _ _ _ _ _ _ _ _ _ _ rfl rfl _ hg1 ?_)
    refine bodyPost_ret (results_rec rfl _ _ w.heap.size _ _ _ _ _ _ (0, 0) rfl (setRow_heap _ _ _ _ _ _ hg1)) rfl ?_
    exact ⟨rfl, below_setRow (below_then (below_new _ _) hb1) (Nat.le_refl _) _⟩
end Go.Proofs.YtipaangiehdgkaaGreatDoor
/-
  The record that begins at a place, by the document's own function: its contract.
-/
namespace Go.Proofs.YtipaangiehdgkaaGreatDoor
set_option maxRecDepth 100000

open Go.RowKit

theorem rnum_ok (l : List UInt8) (f : Int) (u : Int) (wire : Nat) : numR l f u wire = if wire = 1 then unfixR l f u 8 else if wire = 5 then unfixR l f u 4 else getR l f u := rfl

end Go.Proofs.YtipaangiehdgkaaGreatDoor
/-
  A record's bytes: the contract of the function that puts them.
-/
namespace Go.Proofs.YtipaangiehdgkaaGreatDoor
set_option maxRecDepth 100000

open Go.RowKit

/-- What stands behind what is ahead of a field. -/
def restL (wire : Int) (num : Nat) (run : List UInt8) : List UInt8 :=
  if wire = 2 then vput run.length ++ run else if wire = 1 then fixb num 8 else if wire = 5 then fixb num 4 else vput num
def recL (no wire : Int) (num : Nat) (run : List UInt8) : List UInt8 := if putB no wire then putL no wire ++ restL wire num run else []
def ZV (no wire : Int) (num : Nat) (f u : Int) : Value := .agg #[.int .i64 no, .int .i64 wire, .int .u64 num, .int .i64 f, .int .i64 u]
theorem recL_yes {no wire : Int} {num : Nat} {run : List UInt8} (h : putB no wire = true) : recL no wire num run = putL no wire ++ restL wire num run := by unfold recL; rw [if_pos h]
theorem recL_no {no wire : Int} {num : Nat} {run : List UInt8} (h : putB no wire = false) : recL no wire num run = [] := by unfold recL; rw [if_neg (by simp [h])]
theorem putL_le5 {no wire : Int} : (putL no wire).length ≤ 5 := by
  by_cases h : putB no wire = true
  · have hl := putN_lt h
    rw [putL_yes h, vput_length]
    exact vlong_le 4 (by omega)
  · rw [putL_no (by simpa using h)]; simp

theorem fixed_at (n S : Nat) (hS : S = 4 ∨ S = 8) (hn : n < 18446744073709551616) (x : List UInt8) (hx : fixb n S = x) (w : World) :
    Calls Tryz.prog 177 #[.int .u64 n, .int .i64 S] w fun e w' => ∃ A c, e = .returned (.slice A S c) ∧ SlB w' A c x ∧ Below w.heap.size w w' := by
  have hl : x.length = S := by rw [← hx]; exact fixb_length _ _
  go_enter Tryz.func177, Tryz.ntmps177
  go_wp2_with fail
  refine (fix_yes n S hS hn _).mono ?_
  rintro e w1 ⟨v, rfl, hown, hb⟩
  rw [hx] at hown
  clear hS hx
  subst hl
  obtain ⟨A, c, rfl, hr⟩ := SlB.of_own hown
  go_wp2
  go_ret
  exact ⟨A, c, rfl, hr, hb⟩
theorem fixed_any (n S : Nat) (hS : S = 4 ∨ S = 8) (hn : n < 18446744073709551616) (w : World) :
    Calls Tryz.prog 177 #[.int .u64 n, .int .i64 S] w fun e w' => ∃ A c, e = .returned (.slice A S c) ∧ SlB w' A c (fixb n S) ∧ Below w.heap.size w w' := fixed_at n S hS hn _ rfl w

theorem heap_cells {w : World} {g : Nat} {n1 n2 n3 n4 n5 : Int} {t : TypeId} {fr : Nat × Nat} (hg : w.heap[g]? = some (.cells #[.int .i64 n1, .int .i64 n2, .int .u64 n3, .int .i64 n4, .int .i64 n5] t fr)) :
    w.cell? ⟨g, 0, none⟩ = some (.int .i64 n1) ∧ w.cell? ⟨g, 1, none⟩ = some (.int .i64 n2) ∧ w.cell? ⟨g, 2, none⟩ = some (.int .u64 n3) ∧ w.cell? ⟨g, 3, none⟩ = some (.int .i64 n4) ∧ w.cell? ⟨g, 4, none⟩ = some (.int .i64 n5) := by
  refine ⟨?_, ?_, ?_, ?_, ?_⟩ <;> simp [World.cell?, hg]

set_option maxRecDepth 1000000 in
set_option maxHeartbeats 4000000 in
theorem rcput_any (no wire : Int) (num : Nat) (f u : Int) (A : Option Addr) (c : Nat) (run : List UInt8) (hn1 : -9223372036854775808 ≤ no) (hn2 : no ≤ 9223372036854775807) (hw1 : -9223372036854775808 ≤ wire) (hw2 : wire ≤ 9223372036854775807)
    (hnum : num < 18446744073709551616) (hl : run.length ≤ 140737488351232) (w : World) (h1 : SlB w A c run) (T : Wires w) :
    Calls Tryz.prog 154 #[ZV no wire num f u, .slice A run.length c] w fun e w' => ∃ A' c', e = .returned (.tuple #[.slice A' (recL no wire num run).length c', .bool (putB no wire)]) ∧ SlB w' A' c' (recL no wire num run) ∧ Below w.heap.size w w' := by
  obtain ⟨i0, hi, hz0, hz1, hz2⟩ := info_parts info_u8
  unfold ZV
  have h5 := putL_le5 (no := no) (wire := wire)
  by_cases hB : putB no wire = true
  · rw [recL_yes hB, hB]
    have hk := putB_iff.1 hB
    have hv10 := vput_len10 hnum
    have hr10 := vput_len10 (n := run.length) (by omega)
    have HB := Lib.hid hB
    clear hB
    generalize hP : putL no wire = P at *
    have HP := Lib.hid hP
    clear hP
    rcases hk with ⟨_, rfl | rfl | rfl | rfl⟩
    · -- a number
      have hR : restL 0 num run = vput num := by unfold restL; simp
      rw [hR]
      generalize hV : vput num = V at *
      have HV := Lib.hid hV
      clear hV hR
      have E1 : Hid (P.length + V.length = (P ++ V).length) := Lib.hid (by rw [List.length_append])
      have E2 : Hid (bs P ++ bs V = bs (P ++ V)) := Lib.hid (by rw [bs_append])
      generalize P ++ V = X at *
      go_enter Tryz.func154, Tryz.ntmps154
      go_wp2_with fail
      refine (tput_own no 0 hn1 hn2 hw1 hw2 _ (T.on (below_new _ _))).mono ?_
      rw [HP.out, HB.out]
      rintro e w1 ⟨v1, rfl, hown1, hb1⟩
      have hg1 := hb1.block w.heap.size (by simp)
      rw [heap_alloc_new] at hg1
      obtain ⟨q0, q1, q2, _, _⟩ := heap_cells hg1
      have hb1 := below_then (below_new w _) hb1
      go_wp2_with fail
      refine (put_reads num hnum _).mono ?_
      rw [HV.out]
      rintro e w2 ⟨A2, c2, rfl, hr2, hb2⟩
      have hown2 := own_mono5 (own_below5 hown1 hb2) (show w.heap.size ≤ _ by simp)
      have hb2 := below_then hb1 hb2
      go_wp2_with (at_builtin; refine wpList_app_sl rfl _ _ 22 rfl w.heap.size 5 i0 (.int .u8 0) 1 1 Tryz.underlying22 hi hz0 hz1 hz2 rfl (by omega) v1 P.length (bs P) rfl hown2 A2 V.length c2 (bs V) rfl hr2 (bs_one V) (by unfold maxLen; omega) (by omega) hb2.size ?_; intro v3 w3 hown3 hg3; have hb3 : Below w.heap.size w w3 := hb2.grown hg3 hb2.size (own_ge hown2); rw [E1.out, E2.out] at hown3; obtain ⟨A4, c4, rfl, hr4⟩ := SlB.of_own hown3)
      go_ret2
      exact ⟨A4, c4, rfl, hr4, hb3⟩
    · -- eight bytes
      have hR : restL 1 num run = fixb num 8 := by unfold restL; simp
      rw [hR]
      have hVl : (fixb num 8).length = 8 := fixb_length _ _
      generalize hV : fixb num 8 = V at *
      have HV := Lib.hid hV
      clear hV hR
      have E1 : Hid (P.length + 8 = (P ++ V).length) := Lib.hid (by rw [List.length_append, hVl])
      have E2 : Hid (bs P ++ bs V = bs (P ++ V)) := Lib.hid (by rw [bs_append])
      have hRD : ∀ (w : World) A c, SlB w A c V → Sl w A 8 c 1 (bs V) := fun w A c h => by unfold SlB at h; rw [hVl] at h; exact h
      clear hVl
      generalize P ++ V = X at *
      go_enter Tryz.func154, Tryz.ntmps154
      go_wp2_with fail
      refine (tput_own no 1 hn1 hn2 hw1 hw2 _ (T.on (below_new _ _))).mono ?_
      rw [HP.out, HB.out]
      rintro e w1 ⟨v1, rfl, hown1, hb1⟩
      have hg1 := hb1.block w.heap.size (by simp)
      rw [heap_alloc_new] at hg1
      obtain ⟨q0, q1, q2, _, _⟩ := heap_cells hg1
      have hb1 := below_then (below_new w _) hb1
      go_wp2_with fail
      refine (fixed_any num 8 (by omega) hnum _).mono ?_
      rw [HV.out]
      rintro e w2 ⟨A2, c2, rfl, hr2, hb2⟩
      have hown2 := own_mono5 (own_below5 hown1 hb2) (show w.heap.size ≤ _ by simp)
      have hb2 := below_then hb1 hb2
      have hr2' := hRD _ _ _ hr2
      clear hr2 hRD
      go_wp2_with (at_builtin; refine wpList_app_sl rfl _ _ 22 rfl w.heap.size 5 i0 (.int .u8 0) 1 1 Tryz.underlying22 hi hz0 hz1 hz2 rfl (by omega) v1 P.length (bs P) rfl hown2 A2 8 c2 (bs V) rfl hr2' (bs_one V) (by unfold maxLen; omega) (by omega) hb2.size ?_; intro v3 w3 hown3 hg3; have hb3 : Below w.heap.size w w3 := hb2.grown hg3 hb2.size (own_ge hown2); rw [E1.out, E2.out] at hown3; obtain ⟨A4, c4, rfl, hr4⟩ := SlB.of_own hown3)
      go_ret2
      exact ⟨A4, c4, rfl, hr4, hb3⟩
    · -- a run
      have hR : restL 2 num run = vput run.length ++ run := by unfold restL; simp
      rw [hR]
      have ew : IntKind.u64.wrap (run.length : Int) = run.length := by simp [IntKind.wrap, IntKind.signed, IntKind.bits]; omega
      generalize hV : vput run.length = V at *
      have HV := Lib.hid hV
      clear hV hR
      have E1 : Hid (P.length + V.length + run.length = (P ++ (V ++ run)).length) := Lib.hid (by simp only [List.length_append]; omega)
      have E2 : Hid (bs P ++ bs V ++ bs run = bs (P ++ (V ++ run))) := Lib.hid (by simp only [bs_append, List.append_assoc])
      generalize P ++ (V ++ run) = X at *
      go_enter Tryz.func154, Tryz.ntmps154
      go_wp2_with fail
      refine (tput_own no 2 hn1 hn2 hw1 hw2 _ (T.on (below_new _ _))).mono ?_
      rw [HP.out, HB.out]
      rintro e w1 ⟨v1, rfl, hown1, hb1⟩
      have hg1 := hb1.block w.heap.size (by simp)
      rw [heap_alloc_new] at hg1
      obtain ⟨q0, q1, q2, _, _⟩ := heap_cells hg1
      have hb1 := below_then (below_new w _) hb1
      go_wp2_with fail
      refine (put_reads run.length (by omega) _).mono ?_
      rw [HV.out]
      rintro e w2 ⟨A2, c2, rfl, hr2, hb2⟩
      have hown2 := own_mono5 (own_below5 hown1 hb2) (show w.heap.size ≤ _ by simp)
      have hb2 := below_then hb1 hb2
      have h1' := h1
      clear h1
      go_wp2_with (first
        | (at_builtin; refine wpList_app_sl rfl _ _ 22 rfl w.heap.size 5 i0 (.int .u8 0) 1 1 Tryz.underlying22 hi hz0 hz1 hz2 rfl (by omega) v1 P.length (bs P) rfl hown2 A2 V.length c2 (bs V) rfl hr2 (bs_one V) (by unfold maxLen; omega) (by omega) hb2.size ?_; intro v3 w3 hown3 hg3; have hb3 : Below w.heap.size w w3 := hb2.grown hg3 hb2.size (own_ge hown2); have h3 := h1'.on hb3; clear hr2)
        | (at_builtin; refine wpList_app_sl rfl _ _ 22 rfl w.heap.size 5 i0 (.int .u8 0) 1 1 Tryz.underlying22 hi hz0 hz1 hz2 rfl (by omega) v3 (P.length + V.length) (bs P ++ bs V) rfl hown3 A run.length c (bs run) rfl h3 (bs_one run) (by unfold maxLen; omega) (by omega) hb3.size ?_; intro v4 w4 hown4 hg4; have hb4 : Below w.heap.size w w4 := hb3.grown hg4 hb3.size (own_ge hown3); rw [E1.out, E2.out] at hown4; obtain ⟨A4, c4, rfl, hr4⟩ := SlB.of_own hown4))
      go_ret2
      exact ⟨A4, c4, rfl, hr4, hb4⟩
    · -- four bytes
      have hR : restL 5 num run = fixb num 4 := by unfold restL; simp
      rw [hR]
      have hVl : (fixb num 4).length = 4 := fixb_length _ _
      generalize hV : fixb num 4 = V at *
      have HV := Lib.hid hV
      clear hV hR
      have E1 : Hid (P.length + 4 = (P ++ V).length) := Lib.hid (by rw [List.length_append, hVl])
      have E2 : Hid (bs P ++ bs V = bs (P ++ V)) := Lib.hid (by rw [bs_append])
      have hRD : ∀ (w : World) A c, SlB w A c V → Sl w A 4 c 1 (bs V) := fun w A c h => by unfold SlB at h; rw [hVl] at h; exact h
      clear hVl
      generalize P ++ V = X at *
      go_enter Tryz.func154, Tryz.ntmps154
      go_wp2_with fail
      refine (tput_own no 5 hn1 hn2 hw1 hw2 _ (T.on (below_new _ _))).mono ?_
      rw [HP.out, HB.out]
      rintro e w1 ⟨v1, rfl, hown1, hb1⟩
      have hg1 := hb1.block w.heap.size (by simp)
      rw [heap_alloc_new] at hg1
      obtain ⟨q0, q1, q2, _, _⟩ := heap_cells hg1
      have hb1 := below_then (below_new w _) hb1
      go_wp2_with fail
      refine (fixed_any num 4 (by omega) hnum _).mono ?_
      rw [HV.out]
      rintro e w2 ⟨A2, c2, rfl, hr2, hb2⟩
      have hown2 := own_mono5 (own_below5 hown1 hb2) (show w.heap.size ≤ _ by simp)
      have hb2 := below_then hb1 hb2
      have hr2' := hRD _ _ _ hr2
      clear hr2 hRD
      go_wp2_with (at_builtin; refine wpList_app_sl rfl _ _ 22 rfl w.heap.size 5 i0 (.int .u8 0) 1 1 Tryz.underlying22 hi hz0 hz1 hz2 rfl (by omega) v1 P.length (bs P) rfl hown2 A2 4 c2 (bs V) rfl hr2' (bs_one V) (by unfold maxLen; omega) (by omega) hb2.size ?_; intro v3 w3 hown3 hg3; have hb3 : Below w.heap.size w w3 := hb2.grown hg3 hb2.size (own_ge hown2); rw [E1.out, E2.out] at hown3; obtain ⟨A4, c4, rfl, hr4⟩ := SlB.of_own hown3)
      go_ret2
      exact ⟨A4, c4, rfl, hr4, hb3⟩
  · have hB : putB no wire = false := by simpa using hB
    rw [recL_no hB, hB]
    have HB := Lib.hid hB
    have hP := putL_no hB
    clear hB
    go_enter Tryz.func154, Tryz.ntmps154
    go_wp2_with fail
    refine (tput_own no wire hn1 hn2 hw1 hw2 _ (T.on (below_new _ _))).mono ?_
    rw [HB.out, hP]
    rintro e w1 ⟨v1, rfl, hown1, hb1⟩
    go_wp2
    go_ret2
    exact ⟨none, 0, rfl, SlB.nil _, below_then (below_new _ _) hb1⟩
end Go.Proofs.YtipaangiehdgkaaGreatDoor
/-
  Numbers of kinds, their bits, and back: on integers alone.
-/
namespace Go.Proofs.YtipaangiehdgkaaGreatDoor
set_option maxRecDepth 100000

theorem seven_cnt {k : Int} (h : cnt k = true) : k = 0 ∨ k = 1 ∨ k = 2 ∨ k = 3 ∨ k = 4 ∨ k = 5 ∨ k = 6 := by
  simp [cnt] at h
  exact seven h
theorem fits_cnt {k n : Int} (h : fitsB k n = true) : cnt k = true := by
  by_cases hk : 0 ≤ k ∧ k < 7
  · simp [cnt, hk]
  · unfold fitsB at h
    rw [if_neg (by omega), if_neg (by omega), if_neg (by omega), if_neg (by omega), if_neg (by omega), if_neg (by omega), if_neg (by omega)] at h
    cases h
theorem bitsI_bound (k : Int) {n : Int} (h0 : -9223372036854775808 ≤ n) (h1 : n ≤ 9223372036854775807) : 0 ≤ bitsI k n ∧ bitsI k n < 18446744073709551616 := by
  unfold bitsI zigI U64
  repeat' split
  all_goals omega
theorem ofI_bound (k : Int) {r : Int} (h0 : 0 ≤ r) (h1 : r < 18446744073709551616) : -9223372036854775808 ≤ ofI k r ∧ ofI k r ≤ 9223372036854775807 := by
  unfold ofI unzigI S64 S32
  repeat' split
  all_goals omega
theorem of_bits {k n : Int} (h0 : -9223372036854775808 ≤ n) (h1 : n ≤ 9223372036854775807) (h : fitsB k n = true) : ofI k (bitsI k n) = n := by
  unfold bitsI
  rw [if_pos h]
  rcases seven_cnt (fits_cnt h) with rfl | rfl | rfl | rfl | rfl | rfl | rfl
  · simp only [ofI, S64, U64]; simp; split <;> split <;> omega
  · simp only [ofI, unzigI, zigI]; simp; split <;> split <;> omega
  · simp [fitsB] at h; simp only [ofI, U64]; simp; split <;> omega
  · simp [fitsB] at h; simp only [ofI, U64]; simp; rcases h with rfl | rfl <;> simp
  · simp [fitsB] at h; simp only [ofI, U64]; simp; split <;> omega
  · simp only [ofI, S64, U64]; simp; split <;> split <;> omega
  · simp [fitsB] at h; simp only [ofI, U64, S32]; simp; split <;> split <;> omega
theorem fits_of {k r : Int} (h0 : 0 ≤ r) (h1 : r < 18446744073709551616) (h : cnt k = true) : fitsB k (ofI k r) = true := by
  rcases seven_cnt h with rfl | rfl | rfl | rfl | rfl | rfl | rfl
  · rfl
  · rfl
  · simp [fitsB, ofI]; omega
  · simp [fitsB, ofI]; omega
  · simp [fitsB, ofI]; omega
  · rfl
  · simp [fitsB, ofI, S32]; split <;> omega
theorem bits_one {k n m : Int} (n0 : -9223372036854775808 ≤ n) (n1 : n ≤ 9223372036854775807) (m0 : -9223372036854775808 ≤ m) (m1 : m ≤ 9223372036854775807)
    (h : fitsB k n = true) (h' : fitsB k m = true) : (bitsI k n == bitsI k m) = (n == m) := by
  by_cases e : n = m
  · subst e; simp
  · have e2 : bitsI k n ≠ bitsI k m := by
      intro hb
      have h1 := of_bits n0 n1 h
      rw [hb, of_bits m0 m1 h'] at h1
      exact e h1.symm
    have a1 : (n == m) = false := by simpa using e
    have a2 : (bitsI k n == bitsI k m) = false := by simpa using e2
    rw [a1, a2]
end Go.Proofs.YtipaangiehdgkaaGreatDoor
/-
  Messages as bytes, by plain functions: what a value, a field and a message are as bytes, and how long that is.
-/
namespace Go.Proofs.YtipaangiehdgkaaGreatDoor.T12
set_option maxRecDepth 100000

open Go.Proofs.YtipaangiehdgkaaGreatDoor.T9 Go.Proofs.YtipaangiehdgkaaGreatDoor.T4

/-- A run's bytes, as a record. -/
def runL (no : Int) (l : List UInt8) : List UInt8 := recL no 2 0 l
/-- A number's bytes, as a record. -/
def encN (kind no n : Int) : List UInt8 := recL no (wireI kind) (bitsI kind n).toNat []
def bareN (kind n : Int) : List UInt8 := (encN kind 1 n).drop 1
/-- A value's bytes, as a record; G: a message's bytes. -/
def valL (G : Int → Mg → List UInt8) (kind ref no : Int) (v : Vl') : List UInt8 :=
  if kind = 9 then runL no (G ref (v.M.headD (.mk []))) else if kind = 7 ∨ kind = 8 then runL no v.s else encN kind no v.n
def entL (G : Int → Mg → List UInt8) (f : Df) (p : Vl' × Vl') : List UInt8 := runL f.no (valL G f.key 0 1 p.1 ++ valL G f.kind f.ref 2 p.2)
def fieldL (G : Int → Mg → List UInt8) (f : Df) (a : So) : List UInt8 :=
  if f.key = -1 then (if f.rep && cnt f.kind then runL f.no (a.V.map fun v => bareN f.kind v.n).flatten else (a.V.map (valL G f.kind f.ref f.no)).flatten)
  else ((a.K.zip a.V).map (entL G f)).flatten
def slotL (fd : Int → Option Df) (G : Int → Mg → List UInt8) (a : So) : List UInt8 := match fd a.no with | none => [] | some f => fieldL G f a
def encG (s : Sc) (G : Int → Mg → List UInt8) (m : Int) (x : Mg) : List UInt8 := (x.F.map (slotL (byS s m) G)).flatten
/-- A message's bytes, within so many levels. -/
def encB (s : Sc) : Nat → Int → Mg → List UInt8
  | 0 => fun _ _ => []
  | d + 1 => encG s (encB s d)

/-! ### How many bytes all texts have -/

def Mg.txt (m : Mg) : Nat := sm (m.F.attach.map fun ⟨s, hs⟩ => sm (s.K.attach.map fun ⟨v, hv⟩ => v.s.length + sm (v.M.attach.map fun ⟨x, hx⟩ => Mg.txt x)) + sm (s.V.attach.map fun ⟨v, hv⟩ => v.s.length + sm (v.M.attach.map fun ⟨x, hx⟩ => Mg.txt x)))
termination_by SizeOf.sizeOf m
decreasing_by
  · exact Mg.sz hs (.inl hv) hx
  · exact Mg.sz hs (.inr hv) hx
def tV (v : Vl') : Nat := v.s.length + sm (v.M.map Mg.txt)
def tS (s : So) : Nat := sm (s.K.map tV) + sm (s.V.map tV)
theorem Mg.txt_eq (m : Mg) : Mg.txt m = sm (m.F.map tS) := by
  rw [Mg.txt, att m.F tS]
  rintro ⟨s, hs⟩
  show _ + _ = tS s
  unfold tS
  rw [att s.K tV, att s.V tV]
  · rintro ⟨v, hv⟩
    exact congrArg (v.s.length + ·) (congrArg sm (att v.M Mg.txt _ fun x => rfl))
  · rintro ⟨v, hv⟩
    exact congrArg (v.s.length + ·) (congrArg sm (att v.M Mg.txt _ fun x => rfl))

/-! ### How long the bytes are -/

theorem flat_len (l : List (List UInt8)) : l.flatten.length = sm (l.map List.length) := by
  induction l with
  | nil => rfl
  | cons x l ih => rw [List.flatten_cons, List.length_append, ih]; rfl
theorem rest_len (wire : Int) (num : Nat) (run : List UInt8) (hn : num < 18446744073709551616) (hr : run.length < 18446744073709551616) : (restL wire num run).length ≤ 10 + run.length := by
  unfold restL
  have h1 := vput_len10 hn
  have h2 := vput_len10 hr
  split
  · rw [List.length_append]; omega
  · split
    · rw [fixb_length]; omega
    · split
      · rw [fixb_length]; omega
      · omega
theorem rec_len (no wire : Int) (num : Nat) (run : List UInt8) (hn : num < 18446744073709551616) (hr : run.length < 18446744073709551616) : (recL no wire num run).length ≤ 15 + run.length := by
  unfold recL
  split
  · have := putL_le5 (no := no) (wire := wire)
    have := rest_len wire num run hn hr
    rw [List.length_append]; omega
  · simp
theorem run_len (no : Int) (l : List UInt8) (h : l.length < 18446744073709551616) : (runL no l).length ≤ 15 + l.length := rec_len _ _ _ _ (by omega) h
theorem bits_nat (k n : Int) (h : inI n) : (bitsI k n).toNat < 18446744073709551616 := by
  have := bitsI_bound k (n := n) h.1 h.2
  omega
theorem encN_len (kind no n : Int) (h : inI n) : (encN kind no n).length ≤ 15 := rec_len _ _ _ [] (bits_nat kind n h) (by simp)
theorem sm_mem {α : Type} {l : List α} {g : α → Nat} {x : α} (h : x ∈ l) : g x ≤ sm (l.map g) := le_sm (List.mem_map_of_mem h)
theorem zip_le (K V : List Vl') (f g : Vl' → Nat) : sm ((K.zip V).map fun p => f p.1 + g p.2) ≤ sm (K.map f) + sm (V.map g) := by
  induction K generalizing V with
  | nil => simp [sm]
  | cons k K ih =>
    cases V with
    | nil => simp [sm]
    | cons v V =>
      have := ih V
      simp only [List.zip_cons_cons, List.map_cons, sm]
      omega
def LenOk (G : Int → Mg → List UInt8) : Prop := ∀ m x, MIn x → 40 * x.cnt + Mg.txt x ≤ 70368744177664 → (G m x).length ≤ 40 * x.cnt + Mg.txt x
theorem val_len {G : Int → Mg → List UInt8} (H : LenOk G) (kind ref no : Int) (v : Vl') (hi : VIn v) (h : 40 * cV v + tV v ≤ 70368744177664) : (valL G kind ref no v).length + 20 ≤ 40 * cV v + tV v := by
  have hs : v.s.length ≤ tV v := by unfold tV; omega
  have hc : 1 ≤ cV v := by unfold cV; omega
  unfold valL
  split
  · obtain ⟨n, s, M⟩ := v
    cases M with
    | nil =>
      have h0 := H ref (.mk []) (.of fun s hs => by cases hs) (by rw [Mg.cnt_eq, Mg.txt_eq]; simp [Mg.F, sm])
      have h1 := run_len no (G ref (.mk [])) (by rw [Mg.cnt_eq, Mg.txt_eq] at h0; simp [Mg.F, sm] at h0; rw [h0]; simp)
      rw [Mg.cnt_eq, Mg.txt_eq] at h0
      simp [Mg.F, sm] at h0
      show (runL no (G ref (Mg.mk []))).length + 20 ≤ _
      rw [h0] at h1 ⊢
      simp at h1
      omega
    | cons x M =>
      have e1 : cV (⟨n, s, x :: M⟩ : Vl') = 1 + ((1 + x.cnt) + sm (M.map fun x => 1 + x.cnt)) := rfl
      have e2 : tV (⟨n, s, x :: M⟩ : Vl') = s.length + (Mg.txt x + sm (M.map Mg.txt)) := rfl
      have h0 := H ref x (hi.2 x (by simp)) (by omega)
      have h1 := run_len no (G ref x) (by omega)
      show (runL no (G ref x)).length + 20 ≤ _
      omega
  · split
    · have := run_len no v.s (by omega)
      omega
    · have := encN_len kind no v.n hi.1.1
      omega
theorem fl_len (c t : Nat) {α : Type} (l : List α) (e : α → List UInt8) (f g : α → Nat) (hc : sm (l.map f) ≤ c) (ht : sm (l.map g) ≤ t) (h : ∀ a ∈ l, (e a).length ≤ 40 * f a + g a) : (l.map e).flatten.length ≤ 40 * c + t := by
  rw [flat_len, List.map_map]
  have h1 : sm (l.map (List.length ∘ e)) ≤ sm (l.map fun a => 40 * f a + g a) := sm_mono h
  have h2 : sm (l.map fun a => 40 * f a + g a) = sm (l.map fun a => 40 * f a) + sm (l.map g) := sm_add l _ _
  have h3 : ∀ l : List α, sm (l.map fun a => 40 * f a) = 40 * sm (l.map f) := fun l => by
    induction l with
    | nil => rfl
    | cons x l ih => simp only [List.map_cons, sm, ih]; omega
  rw [h3] at h2
  omega
theorem field_len {G : Int → Mg → List UInt8} (H : LenOk G) (f : Df) (a : So) (hi : SIn a) (h : 40 * cS a + tS a ≤ 70368744177664) : (fieldL G f a).length ≤ 40 * cS a + tS a := by
  have ec : cS a = 1 + (sm (a.K.map cV) + sm (a.V.map cV)) := rfl
  have et : tS a = sm (a.K.map tV) + sm (a.V.map tV) := rfl
  have hV : ∀ v ∈ a.V, 40 * cV v + tV v ≤ 70368744177664 := fun v hv => by
    have h1 := sm_mem (g := cV) hv
    have h2 := sm_mem (g := tV) hv
    omega
  have hK : ∀ v ∈ a.K, 40 * cV v + tV v ≤ 70368744177664 := fun v hv => by
    have h1 := sm_mem (g := cV) hv
    have h2 := sm_mem (g := tV) hv
    omega
  unfold fieldL
  split
  · split
    · have h1 : (a.V.map fun v => bareN f.kind v.n).flatten.length ≤ 40 * sm (a.V.map cV) + 0 := fl_len _ 0 a.V _ cV (fun _ => 0) (Nat.le_refl _) (by
          have : ∀ l : List Vl', sm (l.map fun _ => 0) = 0 := fun l => by induction l with | nil => rfl | cons x l ih => simp only [List.map_cons, sm, ih]
          rw [this]; exact Nat.le_refl 0) fun v hv => by
        have := encN_len f.kind 1 v.n (hi.2 v (.inr hv)).1.1
        have hc : 1 ≤ cV v := by unfold cV; omega
        unfold bareN
        rw [List.length_drop]
        omega
      have := run_len f.no _ (show (a.V.map fun v => bareN f.kind v.n).flatten.length < 18446744073709551616 by omega)
      omega
    · have := fl_len _ _ a.V (valL G f.kind f.ref f.no) cV tV (Nat.le_refl _) (Nat.le_refl _) fun v hv => by
        have := val_len H f.kind f.ref f.no v (hi.2 v (.inr hv)) (hV v hv)
        omega
      omega
  · have := fl_len _ _ (a.K.zip a.V) (entL G f) (fun p => cV p.1 + cV p.2) (fun p => tV p.1 + tV p.2) (zip_le a.K a.V cV cV) (zip_le a.K a.V tV tV) fun p hp => by
      obtain ⟨k, v⟩ := p
      have hk := List.of_mem_zip hp
      have h1 := val_len H f.key 0 1 k (hi.2 k (.inl hk.1)) (hK k hk.1)
      have h2 := val_len H f.kind f.ref 2 v (hi.2 v (.inr hk.2)) (hV v hk.2)
      have h3 := hK k hk.1
      have h4 := hV v hk.2
      have := run_len f.no (valL G f.key 0 1 k ++ valL G f.kind f.ref 2 v) (by rw [List.length_append]; omega)
      rw [List.length_append] at this
      show (runL f.no (valL G f.key 0 1 k ++ valL G f.kind f.ref 2 v)).length ≤ 40 * (cV k + cV v) + (tV k + tV v)
      omega
    omega
theorem enc_len (s : Sc) : ∀ d, LenOk (encB s d)
  | 0 => fun _ _ _ _ => Nat.zero_le _
  | d + 1 => fun m x hi h => by
    rw [Mg.cnt_eq, Mg.txt_eq] at h ⊢
    refine fl_len _ _ x.F (slotL (byS s m) (encB s d)) cS tS (Nat.le_refl _) (Nat.le_refl _) fun a ha => ?_
    have h1 := sm_mem (g := cS) ha
    have h2 := sm_mem (g := tS) ha
    unfold slotL
    split
    · simp
    · exact field_len (enc_len s d) _ a (hi.slot ha) (by omega)
end Go.Proofs.YtipaangiehdgkaaGreatDoor.T12
/-
  What is normal has no longer texts; of a normal message each slot alone is normal, and its bytes are some.
-/
namespace Go.Proofs.YtipaangiehdgkaaGreatDoor.T12
set_option maxRecDepth 100000

open Go.Proofs.YtipaangiehdgkaaGreatDoor.T9 Go.Proofs.YtipaangiehdgkaaGreatDoor.T4

def TxtOk (G : Int → Mg → Bool) (N : Int → Mg → Mg) : Prop := ∀ r x, G r x = true → Mg.txt (N r x) ≤ Mg.txt x
theorem txt_val {G : Int → Mg → Bool} {N : Int → Mg → Mg} (g : TxtOk G N) {kind ref : Int} {v : Vl'} (h : askG G kind ref v = true) : tV (norV N ref v) ≤ tV v := by
  by_cases h9 : kind = 9
  · subst h9
    obtain ⟨n, s, M⟩ := v
    obtain ⟨h1, h2, x, h3, hx⟩ := ask_nine h
    simp only at h1 h2 h3
    subst h1 h2 h3
    have := g _ _ hx
    simp only [tV, norV, List.map_cons, List.map_nil, sm]; omega
  · have hM := ask_of h h9
    obtain ⟨n, s, M⟩ := v
    simp only at hM
    subst hM
    exact Nat.le_refl _
theorem txt_slot {G : Int → Mg → Bool} {N : Int → Mg → Mg} (g : TxtOk G N) {f : Df} {a : So} (h : fillG G f a = true) : tS (norS N f a) ≤ tS a := by
  unfold fillG at h
  simp only [Bool.and_eq_true, List.all_eq_true] at h
  obtain ⟨h1, h2, h3⟩ := h
  have hv : ∀ v ∈ a.V, tV (norV N f.ref v) ≤ tV v := fun v hv => txt_val g (h3 v hv)
  unfold norS tS
  split
  · have e : sm ((a.V.map (norV N f.ref)).map tV) ≤ sm (a.V.map tV) := by
      rw [List.map_map]
      exact sm_mono hv
    show sm [] + sm ((a.V.map (norV N f.ref)).map tV) ≤ _
    simp only [sm]
    omega
  · rename_i hk
    unfold manyB at h1
    rw [if_neg hk] at h1
    exact meas_map (beq_iff_eq.1 h1) tV (fun v => by simp [tV, bare, sm]) hv
theorem txtN_step {s : Sc} {G : Int → Mg → Bool} {N : Int → Mg → Mg} (g : TxtOk G N) : TxtOk (isG s G) (norG s N) := by
  intro m x h
  unfold isG at h
  rw [Bool.and_eq_true] at h
  obtain ⟨h0, h⟩ := h
  have hno := slots_no h
  obtain ⟨h1, -, h3⟩ := slots_iff.1 h
  have slot : ∀ b ∈ (norG s N m x).F, ∃ a ∈ x.F, ∃ f, byS s m a.no = some f ∧ fillG G f a = true ∧ b = norS N f a := by
    intro b hb
    obtain ⟨a, ha, e⟩ := (mem_norF hno).1 hb
    obtain ⟨f, hf, ht, rfl⟩ := norO_some e
    obtain ⟨f', hf', gs⟩ := h1 a ha
    rw [hf] at hf'
    obtain rfl := Option.some.inj hf'
    exact ⟨a, ha, f, hf, gs, rfl⟩
  rw [Mg.txt_eq, Mg.txt_eq]
  refine sm_inj _ _ (fun b => (x.F.find? fun s => s.no == b.no).getD b) _ _ (fun b hb => ?_) ?_
  · obtain ⟨a, ha, f, hf, gs, rfl⟩ := slot b hb
    simp only [norS_no, find_no hno ha, Option.getD_some]
    exact ⟨ha, txt_slot g gs⟩
  · refine List.Pairwise.imp_of_mem (fun {b c} hb hc hbc => ?_) (rise_norF (byS s m) N x.F)
    obtain ⟨a, ha, f, hf, gs, rfl⟩ := slot b hb
    obtain ⟨a', ha', f', hf', gs', rfl⟩ := slot c hc
    simp only [norS_no, find_no hno ha, find_no hno ha', Option.getD_some]
    intro e
    subst e
    simp [ltNo, norS_no] at hbc
theorem nor_txt (s : Sc) : ∀ d, TxtOk (isB s d) (norB s d)
  | 0 => fun _ _ h => by cases h
  | d + 1 => txtN_step (nor_txt s d)

/-! ### Each slot of a normal message, alone -/

theorem norO_self {s : Sc} {d : Nat} {m : Int} {x : Mg} (h : isB s (d + 1) m x = true) (hn : norB s (d + 1) m x = x) {a : So} (ha : a ∈ x.F) : norO (byS s m) (norB s d) a = some a := by
  have hno := slots_no (isB_slots h)
  have e : norF (byS s m) (norB s d) x.F = x.F := congrArg Mg.F hn
  have hb : a ∈ norF (byS s m) (norB s d) x.F := by rw [e]; exact ha
  obtain ⟨b, hb1, hb2⟩ := (mem_norF hno).1 hb
  have en := norO_no hb2
  have : a = b := by
    have h1 := find_no hno ha
    have h2 := find_no hno hb1
    rw [← en, h1] at h2
    exact Option.some.inj h2
  rw [← this] at hb2
  exact hb2
theorem alone_is {s : Sc} {m : Int} {x : Mg} (h : isB s 64 m x = true) {a : So} (ha : a ∈ x.F) : isB s 64 m (.mk [a]) = true := isB_sub h (List.singleton_sublist.2 ha)
theorem alone_nor {s : Sc} {m : Int} {x : Mg} (h : isB s 64 m x = true) (hn : norB s 64 m x = x) {a : So} (ha : a ∈ x.F) : norB s 64 m (.mk [a]) = .mk [a] := by
  have e := norO_self (d := 63) h hn ha
  refine Mg.ext ?_
  show srt ltNo ([a].filterMap (norO (byS s m) (norB s 63))) = [a]
  rw [filterMap_self (fun b hb => by rw [List.mem_singleton] at hb; rw [hb]; exact e)]
  rfl
theorem alone_mayT {s : Sc} {m : Int} {x : Mg} (h : mayT s m x = true) {a : So} (ha : a ∈ x.F) : mayT s m (.mk [a]) = true := by
  unfold mayT at h ⊢
  rw [Bool.and_eq_true] at h ⊢
  exact ⟨h.1, alone_is h.2 ha⟩
theorem enc_alone (s : Sc) (m : Int) (a : So) : encB s 64 m (.mk [a]) = slotL (byS s m) (encB s 63) a := by
  show ([a].map (slotL (byS s m) (encB s 63))).flatten = _
  simp
theorem enc_is (s : Sc) (m : Int) (x : Mg) : encB s 64 m x = (x.F.map (slotL (byS s m) (encB s 63))).flatten := rfl

/-! ### No field that is there is without bytes -/

theorem rec_ne {no wire : Int} {num : Nat} {run : List UInt8} (h : putB no wire = true) : 2 ≤ (recL no wire num run).length := by
  have h1 : ∀ n, 1 ≤ (vput n).length := fun n => by rw [vput_length]; unfold vlong; split <;> omega
  rw [recL_yes h, putL_yes h, List.length_append]
  have h2 := h1 (putN no wire)
  have h3 : 1 ≤ (restL wire num run).length := by
    unfold restL
    split
    · have := h1 run.length
      rw [List.length_append]; omega
    · split
      · rw [fixb_length]; omega
      · split
        · rw [fixb_length]; omega
        · exact h1 num
  omega
theorem wire_known {k : Int} (h : cnt k = true) : knownB (wireI k) = true := by
  rcases seven_cnt h with rfl | rfl | rfl | rfl | rfl | rfl | rfl <;> rfl
theorem put_run {no : Int} (h : 1 ≤ no ∧ no ≤ 536870911) : putB no 2 = true := by unfold putB knownB; simp [h]
theorem put_num {no k : Int} (h : 1 ≤ no ∧ no ≤ 536870911) (hk : cnt k = true) : putB no (wireI k) = true := by unfold putB; rw [wire_known hk]; simp [h]
theorem ask_cnt {G : Int → Mg → Bool} {kind ref : Int} {v : Vl'} (h : askG G kind ref v = true) (h7 : kind ≠ 7) (h8 : kind ≠ 8) (h9 : kind ≠ 9) : cnt kind = true := by
  unfold askG at h
  rw [if_neg h7, if_neg h8, if_neg h9] at h
  simp only [Bool.and_eq_true] at h
  exact fits_cnt h.1
theorem val_ne {G : Int → Mg → Bool} {E : Int → Mg → List UInt8} {kind ref no : Int} {v : Vl'} (h : askG G kind ref v = true) (hn : 1 ≤ no ∧ no ≤ 536870911) : 2 ≤ (valL E kind ref no v).length := by
  unfold valL
  by_cases h9 : kind = 9
  · rw [if_pos h9]
    exact rec_ne (put_run hn)
  · rw [if_neg h9]
    by_cases h78 : kind = 7 ∨ kind = 8
    · rw [if_pos h78]
      exact rec_ne (put_run hn)
    · rw [if_neg h78]
      exact rec_ne (put_num hn (ask_cnt h (fun e => h78 (.inl e)) (fun e => h78 (.inr e)) h9))
theorem flat_ne {α : Type} {l : List α} {g : α → List UInt8} (h0 : l ≠ []) (h : ∀ a ∈ l, 2 ≤ (g a).length) : 2 ≤ (l.map g).flatten.length := by
  cases l with
  | nil => exact absurd rfl h0
  | cons a l =>
    have := h a (by simp)
    simp only [List.map_cons, List.flatten_cons, List.length_append]
    omega
theorem field_ne {G : Int → Mg → Bool} {E : Int → Mg → List UInt8} {f : Df} {a : So} (h : fillG G f a = true) (hn : 1 ≤ f.no ∧ f.no ≤ 536870911) (hV : a.V ≠ []) : 2 ≤ (fieldL E f a).length := by
  unfold fillG at h
  simp only [Bool.and_eq_true, List.all_eq_true] at h
  obtain ⟨h1, h2, h3⟩ := h
  unfold fieldL
  split
  · split
    · exact rec_ne (put_run hn)
    · exact flat_ne hV fun v hv => val_ne (h3 v hv) hn
  · rename_i hk
    unfold manyB at h1
    rw [if_neg hk, beq_iff_eq] at h1
    refine flat_ne (fun e => hV ?_) fun p _ => rec_ne (put_run hn)
    have : (a.K.zip a.V).length = 0 := by rw [e]; rfl
    rw [List.length_zip, h1, Nat.min_self] at this
    exact List.eq_nil_of_length_eq_zero this
theorem fno_ok {s : Sc} (h : ScMay s) {m no : Int} {f : Df} (hf : byS s m no = some f) : (1 ≤ f.no ∧ f.no ≤ 536870911) ∧ f.no = no := by
  unfold byS msgAt at hf
  split at hf
  · simp at hf
  · cases hm : s.M[m.toNat]? with
    | none => rw [hm] at hf; simp at hf
    | some d =>
      rw [hm] at hf
      simp only [Option.bind_some] at hf
      have h1 := ((h.M d (List.mem_of_getElem? hm)).each f (List.mem_of_find?_eq_some hf)).num
      have h2 := List.find?_some hf
      unfold numberB at h1
      simp only [Bool.and_eq_true, decide_eq_true_eq] at h1
      exact ⟨h1.1, by simpa using h2⟩
/-- All that EncodeParts asks of a normal message. -/
theorem parts_are {s : Sc} {m : Int} {x : Mg} (h : mayT s m x = true) (hn : norB s 64 m x = x) {a : So} (ha : a ∈ x.F) :
    mayT s m (.mk [a]) = true ∧ norB s 64 m (.mk [a]) = .mk [a] ∧ encB s 64 m (.mk [a]) = slotL (byS s m) (encB s 63) a ∧ 2 ≤ (slotL (byS s m) (encB s 63) a).length := by
  have hm : ScMay s ∧ isB s 64 m x = true := by
    have h' := h
    unfold mayT at h'
    rw [Bool.and_eq_true] at h'
    exact ⟨@of_decide_eq_true _ (Classical.propDecidable _) h'.1, h'.2⟩
  obtain ⟨f, hf, ht, -⟩ := norO_some (norO_self (d := 63) hm.2 hn ha)
  obtain ⟨h1, -, -⟩ := slots_iff.1 (isB_slots (d := 63) hm.2)
  obtain ⟨f', hf', gs⟩ := h1 a ha
  rw [hf] at hf'
  obtain rfl := Option.some.inj hf'
  refine ⟨alone_mayT h ha, alone_nor hm.2 hn ha, enc_alone s m a, ?_⟩
  unfold slotL
  rw [hf]
  exact field_ne gs (fno_ok hm.1 hf).1 (told_ne ht)
end Go.Proofs.YtipaangiehdgkaaGreatDoor.T12
