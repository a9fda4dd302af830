/-
  The contracts of the functions that get a number out of four or eight bytes; and those that get one, at any places.
-/
import Derived.Test.YtpaggpcpflmpcaaDoorVarGets
import Derived.Test.YtpaggpcpflmpcaaDoorVarFix
namespace Go.Proofs.YtpaggpcpflmpcaaDoor
open Go.RowKit

def unfixS (l : List UInt8) (a u S : Nat) : Nat × Nat × Nat := if u - a < S then (0, 0, 6) else (fixn ((l.drop a).take S), a + S, 0)
def unfixR (l : List UInt8) (a u s : Int) : Nat × Nat × Nat := if mayB a u l.length && sizeB s then unfixS l a.toNat u.toNat s.toNat else (0, 0, 1)
/-- Three numbers, as they are answered. -/

def UnfixRel (l : List UInt8) (a : Nat) (S : Nat) (n i : Value) : Prop :=
  ∃ k : Nat, i = .int .i64 k ∧ k ≤ S ∧ n = .int .u64 ((fixn ((l.drop a).take k) % 18446744073709551616 : Nat) : Int)

theorem fix_lt (l : List UInt8) (a k : Nat) (hk : k ≤ 8) : fixn ((l.drop a).take k) < 18446744073709551616 := by
  have h := fixn_lt ((l.drop a).take k)
  have h2 : (256 : Nat) ^ ((l.drop a).take k).length ≤ 256 ^ 8 := Nat.pow_le_pow_right (by omega) (by simp; omega)
  omega

set_option maxRecDepth 1000000 in
theorem unfix_yes (A : Option Addr) (c : Nat) (l : List UInt8) (a u S : Nat) (hS : S = 4 ∨ S = 8) (hau : a ≤ u) (hu : u ≤ l.length) (hl : l.length ≤ 1000000000) (w : World) (h1 : SlB w A c l) :
    Calls Tryd.prog 33 #[.slice A l.length c, .int .i64 a, .int .i64 u, .int .i64 S] w fun e w' => e = .returned (V3 (unfixS l a u S)) ∧ w = w' := by
  have hmay : mayB a u l.length = true := by rw [mayB_true]; omega
  have hsz : sizeB S = true := by rcases hS with rfl | rfl <;> rfl
  have hS8 : S ≤ 8 := by omega
  by_cases hcut : u - a < S
  · have HF : Hid (unfixS l a u S = (0, 0, 6)) := Lib.hid (by unfold unfixS; rw [if_pos hcut])
    have hd : (u : Int) - a < S := by omega
    clear hcut
    go_enter Tryd.func33, Tryd.ntmps33
    go_wp2_with (first
      | (go_at_call 38; refine (mayBe_any _ _ _ _ _ _ (by omega)).mono ?_; rintro e w' ⟨rfl, rfl⟩)
      | (go_at_call 40; refine (isSize_any _ _).mono ?_; rintro e w' ⟨rfl, rfl⟩))
    go_ret3
    exact ⟨by rw [HF.out]; rfl, rfl⟩
  · have HF : Hid (unfixS l a u S = (fixn ((l.drop a).take S), a + S, 0)) := Lib.hid (by unfold unfixS; rw [if_neg hcut])
    have hd : ¬ (u : Int) - a < S := by omega
    have haS : a + S ≤ u := by omega
    clear hcut
    go_enter Tryd.func33, Tryd.ntmps33
    go_wp2_with (first
      | (go_at_call 38; refine (mayBe_any _ _ _ _ _ _ (by omega)).mono ?_; rintro e w' ⟨rfl, rfl⟩)
      | (go_at_call 40; refine (isSize_any _ _).mono ?_; rintro e w' ⟨rfl, rfl⟩))
    go_loop [11, 29] (fun n i => UnfixRel l a S n i) (fun _ i => S - (intOf i).toNat)
    case atStart => exact ⟨0, rfl, by omega, rfl⟩
    case round =>
      obtain ⟨k, rfl, hk, rfl⟩ := hrel
      by_cases hlt : k < S
      · obtain ⟨ad, b, rfl, _, hb, hc⟩ := h1.at_ (k := a + k) (by omega)
        have hsn : (l.drop a).take (k + 1) = (l.drop a).take k ++ [b] := by rw [List.take_add_one, List.getElem?_drop, hb]; rfl
        have hlen : ((l.drop a).take k).length = k := by simp; omega
        have hvl := fixn_lt ((l.drop a).take k)
        have hvn := fixn_snoc ((l.drop a).take k) b
        rw [← hsn, hlen] at hvn
        rw [hlen, Nat.pow_mul 2 8 k |>.symm] at hvl
        have h64 := fix_lt l a k (by omega)
        rw [Nat.mod_eq_of_lt h64]
        have hor := or_wrap (fixn ((l.drop a).take k)) (8 * k) b.toNat hvl (by omega) h64
        rw [show fixn ((l.drop a).take k) + b.toNat * 2 ^ (8 * k) = fixn ((l.drop a).take (k + 1)) by rw [hvn, Nat.pow_mul, Nat.mul_comm]] at hor
        have HO := Lib.hid hor
        have hbl := b.toNat_lt
        clear hor hvn hvl hlen hsn hb h1
        generalize fixn ((l.drop a).take k) = X at *
        go_wp2
        exact ⟨⟨k + 1, by go_num, by omega, by rw [← HO.out]⟩, by simp [intOf]; omega⟩
      · obtain rfl : k = S := by omega
        rw [Nat.mod_eq_of_lt (fix_lt l a k hS8)]
        clear h1
        go_wp2
        go_ret3
        exact ⟨by rw [HF.out]; rfl, rfl⟩

theorem unfix_any (A : Option Addr) (c : Nat) (l : List UInt8) (a u s : Int) (hl : l.length ≤ 1000000000) (w : World) (h1 : SlB w A c l) :
    Calls Tryd.prog 33 #[.slice A l.length c, .int .i64 a, .int .i64 u, .int .i64 s] w fun e w' => e = .returned (V3 (unfixR l a u s)) ∧ w = w' := by
  by_cases h : mayB a u l.length = true
  · by_cases hz : sizeB s = true
    · have h' := mayB_true.1 h
      have hs : s = 4 ∨ s = 8 := by simpa [sizeB] using hz
      obtain ⟨an, rfl⟩ := Int.eq_ofNat_of_zero_le h'.1
      obtain ⟨un, rfl⟩ := Int.eq_ofNat_of_zero_le (show 0 ≤ u by omega)
      obtain ⟨sn, rfl⟩ := Int.eq_ofNat_of_zero_le (show 0 ≤ s by omega)
      refine (unfix_yes A c l an un sn (by omega) (by omega) (by omega) hl w h1).mono ?_
      rintro e w' ⟨rfl, rfl⟩
      exact ⟨by unfold unfixR; rw [h, hz]; rfl, rfl⟩
    · have hf : sizeB s = false := by simpa using hz
      have HF : Hid (unfixR l a u s = (0, 0, 1)) := Lib.hid (by unfold unfixR; rw [h, hf]; rfl)
      clear hz
      go_enter Tryd.func33, Tryd.ntmps33
      go_wp2_with (first
        | (go_at_call 38; refine (mayBe_any _ _ _ _ _ _ (by omega)).mono ?_; rintro e w' ⟨rfl, rfl⟩)
        | (go_at_call 40; refine (isSize_any _ _).mono ?_; rintro e w' ⟨rfl, rfl⟩))
      go_ret3
      exact ⟨by rw [HF.out]; rfl, rfl⟩
  · have hf : mayB a u l.length = false := by simpa using h
    have HF : Hid (unfixR l a u s = (0, 0, 1)) := Lib.hid (by unfold unfixR; rw [hf]; rfl)
    clear h
    go_enter Tryd.func33, Tryd.ntmps33
    go_wp2_with (go_at_call 38; refine (mayBe_any _ _ _ _ _ _ (by omega)).mono ?_; rintro e w' ⟨rfl, rfl⟩)
    go_ret3
    exact ⟨by rw [HF.out]; rfl, rfl⟩
end Go.Proofs.YtpaggpcpflmpcaaDoor
