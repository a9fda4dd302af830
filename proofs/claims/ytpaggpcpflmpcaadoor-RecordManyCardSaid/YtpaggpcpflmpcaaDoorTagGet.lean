/-
  What is told of the bytes ahead of a field: the contract of the function that gets it, and of the document's own.
-/
import Derived.Test.YtpaggpcpflmpcaaDoorTagTells
import Derived.Test.YtpaggpcpflmpcaaDoorVarBack
import Derived.BigQuiet
namespace Go.Proofs.YtpaggpcpflmpcaaDoor
open Go.RowKit

def tgetR (l : List UInt8) (a u : Int) : Nat × Nat × Nat × Nat :=
  if (getR l a u).2.2 = 0 then (if (tellsN (getR l a u).1).2.2 = 0 then ((tellsN (getR l a u).1).1, (tellsN (getR l a u).1).2.1, (getR l a u).2.1, 0) else (0, 0, 0, (tellsN (getR l a u).1).2.2)) else (0, 0, 0, (getR l a u).2.2)
def V4 (r : Nat × Nat × Nat × Nat) : Value := .tuple #[.int .i64 r.1, .int .i64 r.2.1, .int .i64 r.2.2.1, .int .i64 r.2.2.2]
theorem results_tmp4 {fn : Func} {t u v x : Tmp} (h : fn.results = #[.tmp t, .tmp u, .tmp v, .tmp x]) (tmps : Array Value) (P : Program) (w : World) :
    (results fn tmps).run P w = .ok (.tuple #[tmps.getD t undef, tmps.getD u undef, tmps.getD v undef, tmps.getD x undef]) w := by
  simp [results, h]

set_option maxRecDepth 1000000 in
theorem tget_any (A : Option Addr) (c : Nat) (l : List UInt8) (a u : Int) (hl : l.length ≤ 1000000000) (w : World) (h1 : SlB w A c l) (T : Wires w) :
    Calls Tryd.prog 18 #[.slice A l.length c, .int .i64 a, .int .i64 u] w fun e w' => e = .returned (V4 (tgetR l a u)) ∧ Below w.heap.size w w' := by
  obtain ⟨n, p, x, hg, hn⟩ : ∃ n p x, getR l a u = (n, p, x) ∧ n < 18446744073709551616 := ⟨_, _, _, rfl, get_lt l a u⟩
  have hR : tgetR l a u = if x = 0 then (if (tellsN n).2.2 = 0 then ((tellsN n).1, (tellsN n).2.1, p, 0) else (0, 0, 0, (tellsN n).2.2)) else (0, 0, 0, x) := by unfold tgetR; rw [hg]
  by_cases hx : x = 0
  · rw [if_pos hx] at hR
    subst hx
    obtain ⟨q, r, y, ht⟩ : ∃ q r y, tellsN n = (q, r, y) := ⟨_, _, _, rfl⟩
    rw [ht] at hR
    simp only at hR
    by_cases hy : y = 0
    · rw [if_pos hy] at hR
      subst hy
      rw [hR]
      go_enter Tryd.func18, Tryd.ntmps18
      go_wp2_with fail
      refine (get_any A c l a u hl w h1).mono ?_
      rintro e w1 ⟨rfl, rfl⟩
      rw [hg]
      unfold V3
      go_wp2_with fail
      refine (tells_any n hn w T).mono ?_
      rintro e w1 ⟨rfl, hb⟩
      rw [ht]
      unfold TV
      go_wp2
      go_quiet (fail)
      go_wp2
      refine bodyPost_ret (results_tmp4 rfl _ _ _) rfl ?_
      exact ⟨rfl, below_draws (below_lit hb _) _⟩
    · rw [if_neg hy] at hR
      rw [hR]
      have b1 : ((y : Int) != 0) = true := by simp; omega
      go_enter Tryd.func18, Tryd.ntmps18
      go_wp2_with fail
      refine (get_any A c l a u hl w h1).mono ?_
      rintro e w1 ⟨rfl, rfl⟩
      rw [hg]
      unfold V3
      go_wp2_with fail
      refine (tells_any n hn w T).mono ?_
      rintro e w1 ⟨rfl, hb⟩
      rw [ht]
      unfold TV
      go_wp2
      go_quiet (fail)
      go_wp2
      refine bodyPost_ret (results_tmp4 rfl _ _ _) rfl ?_
      exact ⟨rfl, below_draws (below_lit hb _) _⟩
  · rw [if_neg hx] at hR
    rw [hR]
    have b1 : ((x : Int) != 0) = true := by simp; omega
    go_enter Tryd.func18, Tryd.ntmps18
    go_wp2_with fail
    refine (get_any A c l a u hl w h1).mono ?_
    rintro e w1 ⟨rfl, rfl⟩
    rw [hg]
    unfold V3
    go_wp2
    refine bodyPost_ret (results_tmp4 rfl _ _ _) rfl ?_
    exact ⟨rfl, Below.refl _ _⟩

theorem rtget_any (A : Option Addr) (c : Nat) (l : List UInt8) (a u : Int) (hl : l.length ≤ 1000000000) (w : World) (h1 : SlB w A c l) :
    Calls Tryd.prog 20 #[.slice A l.length c, .int .i64 a, .int .i64 u] w fun e w' => e = .returned (V4 (tgetR l a u)) ∧ w = w' := by
  obtain ⟨n, p, x, hg, hn⟩ : ∃ n p x, getR l a u = (n, p, x) ∧ n < 18446744073709551616 := ⟨_, _, _, rfl, get_lt l a u⟩
  have hR : tgetR l a u = if x = 0 then (if (tellsN n).2.2 = 0 then ((tellsN n).1, (tellsN n).2.1, p, 0) else (0, 0, 0, (tellsN n).2.2)) else (0, 0, 0, x) := by unfold tgetR; rw [hg]
  by_cases hx : x = 0
  · rw [if_pos hx] at hR
    subst hx
    have hq : ∃ q r : Nat, q = n / 8 ∧ r = n % 8 ∧ q < 2305843009213693952 ∧ r < 8 := ⟨_, _, rfl, rfl, by omega, by omega⟩
    obtain ⟨q, r, hq, hr, hq1, hr1⟩ := hq
    have hqi : (n : Int) / 8 = (q : Int) := by omega
    have hri : (n : Int) % 8 = (r : Int) := by omega
    have hbig : decide ((4294967296 : Int) ≤ (n : Int)) = decide (536870911 < q) := by rw [Bool.eq_iff_iff]; simp; omega
    have hdef : tellsN n = if q = 0 ∨ 536870911 < q then (0, 0, 9) else if knownB ((r : Nat) : Int) then (q, r, 0) else (0, 0, 8) := by rw [hq, hr]; rfl
    clear hq hr
    by_cases h0 : q = 0 ∨ 536870911 < q
    · rw [if_pos h0] at hdef
      rw [hdef] at hR
      rw [hR]
      have hb : (decide ((4294967296 : Int) ≤ (n : Int)) || ((q : Int) == 0)) = true := by rw [hbig]; simp; omega
      by_cases h2 : 536870911 < q
      · have b1 : decide ((4294967296 : Int) ≤ (n : Int)) = true := by rw [hbig]; simpa using h2
        clear hb hbig
        go_enter Tryd.func20, Tryd.ntmps20
        go_wp2_with fail
        refine (rget_any A c l a u hl w h1).mono ?_
        rintro e w1 ⟨rfl, rfl⟩
        rw [hg]
        unfold V3
        go_wp2
        refine bodyPost_ret (results_tmp4 rfl _ _ _) rfl ?_
        exact ⟨rfl, rfl⟩
      · have b1 : decide ((4294967296 : Int) ≤ (n : Int)) = false := by rw [hbig]; simpa using h2
        have b2 : ((q : Int) == 0) = true := by simp; omega
        clear hb hbig
        go_enter Tryd.func20, Tryd.ntmps20
        go_wp2_with fail
        refine (rget_any A c l a u hl w h1).mono ?_
        rintro e w1 ⟨rfl, rfl⟩
        rw [hg]
        unfold V3
        go_wp2
        refine bodyPost_ret (results_tmp4 rfl _ _ _) rfl ?_
        exact ⟨rfl, rfl⟩
    · rw [if_neg h0] at hdef
      have b1 : decide ((4294967296 : Int) ≤ (n : Int)) = false := by rw [hbig]; simp; omega
      have b2 : ((q : Int) == 0) = false := by simp; omega
      clear hbig
      by_cases hk : knownB ((r : Nat) : Int) = true
      · rw [if_pos hk] at hdef
        rw [hdef] at hR
        simp only [if_true] at hR
        rw [hR]
        go_enter Tryd.func20, Tryd.ntmps20
        go_wp2_with fail
        refine (rget_any A c l a u hl w h1).mono ?_
        rintro e w1 ⟨rfl, rfl⟩
        rw [hg]
        unfold V3
        go_wp2_with fail
        refine (rknown_any _ _).mono ?_
        rintro e w1 ⟨rfl, rfl⟩
        rw [hk]
        go_wp2
        refine bodyPost_ret (results_tmp4 rfl _ _ _) rfl ?_
        exact ⟨rfl, rfl⟩
      · rw [if_neg hk] at hdef
        have hk : knownB ((r : Nat) : Int) = false := by simpa using hk
        rw [hdef] at hR
        simp only [if_neg (show ¬ 8 = 0 by decide)] at hR
        rw [hR]
        go_enter Tryd.func20, Tryd.ntmps20
        go_wp2_with fail
        refine (rget_any A c l a u hl w h1).mono ?_
        rintro e w1 ⟨rfl, rfl⟩
        rw [hg]
        unfold V3
        go_wp2_with fail
        refine (rknown_any _ _).mono ?_
        rintro e w1 ⟨rfl, rfl⟩
        rw [hk]
        go_wp2
        refine bodyPost_ret (results_tmp4 rfl _ _ _) rfl ?_
        exact ⟨rfl, rfl⟩
  · rw [if_neg hx] at hR
    rw [hR]
    have b1 : ((x : Int) != 0) = true := by simp; omega
    go_enter Tryd.func20, Tryd.ntmps20
    go_wp2_with fail
    refine (rget_any A c l a u hl w h1).mono ?_
    rintro e w1 ⟨rfl, rfl⟩
    rw [hg]
    unfold V3
    go_wp2
    refine bodyPost_ret (results_tmp4 rfl _ _ _) rfl ?_
    exact ⟨rfl, rfl⟩
end Go.Proofs.YtpaggpcpflmpcaaDoor
