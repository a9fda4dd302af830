/-
  The contracts of the functions that get a number of seven bits a byte, at any arguments.
-/
import Derived.Test.YtpaggpcpflmpcaaDoorVarRget
namespace Go.Proofs.YtpaggpcpflmpcaaDoor
open Go.RowKit

def getR (l : List UInt8) (a u : Int) : Nat × Nat × Nat := if mayB a u l.length then getS l a.toNat u.toNat else (0, 0, 1)
def V3 (r : Nat × Nat × Nat) : Value := .tuple #[.int .u64 r.1, .int .i64 r.2.1, .int .i64 r.2.2]

theorem get_any (A : Option Addr) (c : Nat) (l : List UInt8) (a u : Int) (hl : l.length ≤ 1000000000) (w : World) (h1 : SlB w A c l) :
    Calls Tryd.prog 31 #[.slice A l.length c, .int .i64 a, .int .i64 u] w fun e w' => e = .returned (V3 (getR l a u)) ∧ w = w' := by
  by_cases h : mayB a u l.length = true
  · have h' := mayB_true.1 h
    obtain ⟨an, rfl⟩ := Int.eq_ofNat_of_zero_le h'.1
    obtain ⟨un, rfl⟩ := Int.eq_ofNat_of_zero_le (show 0 ≤ u by omega)
    refine (get_yes A c l an un (by omega) (by omega) hl w h1).mono ?_
    rintro e w' ⟨rfl, rfl⟩
    exact ⟨by unfold getR; rw [if_pos h]; rfl, rfl⟩
  · have hf : mayB a u l.length = false := by simpa using h
    have HF : Hid (getR l a u = (0, 0, 1)) := Lib.hid (by unfold getR; rw [if_neg h])
    clear h
    go_enter Tryd.func31, Tryd.ntmps31
    go_wp2_with (go_at_call 38; refine (mayBe_any _ _ _ _ _ _ (by omega)).mono ?_; rintro e w' ⟨rfl, rfl⟩)
    go_ret3
    exact ⟨by rw [HF.out]; rfl, rfl⟩

theorem rget_any (A : Option Addr) (c : Nat) (l : List UInt8) (a u : Int) (hl : l.length ≤ 1000000000) (w : World) (h1 : SlB w A c l) :
    Calls Tryd.prog 22 #[.slice A l.length c, .int .i64 a, .int .i64 u] w fun e w' => e = .returned (V3 (getR l a u)) ∧ w = w' := by
  by_cases h : mayB a u l.length = true
  · have h' := mayB_true.1 h
    obtain ⟨an, rfl⟩ := Int.eq_ofNat_of_zero_le h'.1
    obtain ⟨un, rfl⟩ := Int.eq_ofNat_of_zero_le (show 0 ≤ u by omega)
    refine (rget_yes A c l an un (by omega) (by omega) hl w h1).mono ?_
    rintro e w' ⟨rfl, rfl⟩
    exact ⟨by unfold getR; rw [if_pos h]; rfl, rfl⟩
  · have hf : mayB a u l.length = false := by simpa using h
    have HF : Hid (getR l a u = (0, 0, 1)) := Lib.hid (by unfold getR; rw [if_neg h])
    clear h
    go_enter Tryd.func22, Tryd.ntmps22
    go_wp2_with (go_at_call 24; refine (may_any _ _ _ _ _ _ (by omega)).mono ?_; rintro e w' ⟨rfl, rfl⟩)
    go_ret3
    exact ⟨by rw [HF.out]; rfl, rfl⟩

end Go.Proofs.YtpaggpcpflmpcaaDoor
