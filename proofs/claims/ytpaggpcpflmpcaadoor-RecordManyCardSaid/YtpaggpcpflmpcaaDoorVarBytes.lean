/-
  The contract of the function that holds two slices of bytes against each other.
-/
import Derived.Test.YtpaggpcpflmpcaaDoorBytes
import Derived.Deep.QuietTactic
import Derived.BigQuiet
namespace Go.Proofs.YtpaggpcpflmpcaaDoor
open Go.RowKit

theorem take_ne {l m : List UInt8} {k : Nat} {x y : UInt8} (hx : l[k]? = some x) (hy : m[k]? = some y) (hne : x ≠ y) : l ≠ m := by
  rintro rfl
  rw [hx] at hy
  exact hne (by injection hy)
theorem take_next {l m : List UInt8} {k : Nat} {x : UInt8} (hx : l[k]? = some x) (hy : m[k]? = some x) (h : l.take k = m.take k) : l.take (k + 1) = m.take (k + 1) := by
  rw [List.take_add_one, List.take_add_one, h, hx, hy]

set_option maxRecDepth 100000 in
theorem bytes_any (A A' : Option Addr) (c c' : Nat) (l m : List UInt8) (w : World) (hl : l.length ≤ 1000000000) (hm : m.length ≤ 1000000000) (h1 : SlB w A c l) (h2 : SlB w A' c' m) :
    Calls Tryd.prog 17 #[.slice A l.length c, .slice A' m.length c'] w fun e w' => e = .returned (.bool (decide (l = m))) ∧ Below w.heap.size w w' := by
  by_cases hlen : l.length = m.length
  · have hb : ((l.length : Int) != (m.length : Int)) = false := by simp [hlen]
    go_enter Tryd.func17, Tryd.ntmps17
    have HL := Lib.hid hlen
    clear hlen
    go_wp2
    clear hb
    go_loopw [5] (fun i wr => ∃ k d : Nat, i = .int .i64 k ∧ k ≤ l.length ∧ l.take k = m.take k ∧ wr = w.drewN d) (fun i _ => l.length - (intOf i).toNat)
    case atStart => exact ⟨0, 0, rfl, by omega, rfl, rfl⟩
    case round =>
      obtain ⟨k, d, rfl, hk, ht, rfl⟩ := hrel
      have HT := Lib.hid ht
      clear ht
      by_cases hlt : k < l.length
      · obtain ⟨ad, x, rfl, _, hx0, hc⟩ := h1.at_ hlt
        obtain ⟨ad', y, rfl, _, hy0, hc'⟩ := h2.at_ (k := k) (by have := HL.out; omega)
        have HX := Lib.hid hx0
        have HY := Lib.hid hy0
        have hlt' : k < m.length := by have := HL.out; omega
        clear hx0 hy0 h1 h2
        by_cases hxy : x = y
        · subst hxy
          go_wp2
          go_quiet (fail)
          go_wp2
          exact ⟨⟨k + 1, d + nq, by go_num, by omega, take_next HX.out HY.out HT.out, rfl⟩, by simp [intOf]; omega⟩
        · have hne : ((x.toNat : Int) != (y.toNat : Int)) = true := by
            rw [bne_iff_ne]
            intro h
            exact hxy (UInt8.toNat_inj.1 (by omega))
          have HF : Hid (decide (l = m) = false) := Lib.hid (decide_eq_false (take_ne HX.out HY.out hxy))
          clear hxy
          go_wp2
          go_quiet (fail)
          go_wp2
          go_ret
          exact ⟨by rw [HF.out]; rfl, (by repeat (first | exact Below.refl _ _ | assumption | refine below_draws ?_ _ | refine Below.drew ?_))⟩
      · obtain rfl : k = l.length := by omega
        have HF : Hid (decide (l = m) = true) := Lib.hid (decide_eq_true (by
          have h := HT.out
          rw [List.take_length, HL.out, List.take_length] at h
          exact h))
        clear h1 h2 HT HL
        go_wp2
        go_ret
        exact ⟨by rw [HF.out]; rfl, (by repeat (first | exact Below.refl _ _ | assumption | refine below_draws ?_ _ | refine Below.drew ?_))⟩
  · have hb : ((l.length : Int) != (m.length : Int)) = true := by rw [bne_iff_ne]; omega
    have HF : Hid (decide (l = m) = false) := Lib.hid (decide_eq_false (by rintro rfl; exact hlen rfl))
    clear hlen
    go_enter Tryd.func17, Tryd.ntmps17
    go_wp2
    go_ret
    exact ⟨by rw [HF.out]; rfl, Below.refl _ _⟩
theorem bytes_at (A A' : Option Addr) (k k' c c' : Nat) (l m : List UInt8) (hk : k = l.length) (hk' : k' = m.length) (w : World) (hl : l.length ≤ 1000000000) (hm : m.length ≤ 1000000000) (h1 : SlB w A c l) (h2 : SlB w A' c' m) :
    Calls Tryd.prog 17 #[.slice A k c, .slice A' k' c'] w fun e w' => e = .returned (.bool (decide (l = m))) ∧ Below w.heap.size w w' := by
  subst hk hk'
  exact bytes_any A A' c c' l m w hl hm h1 h2
end Go.Proofs.YtpaggpcpflmpcaaDoor
