/-
  The contracts of the functions that get a number out of bytes of seven bits.
-/
import Derived.Test.YtpaggpcpflmpcaaDoorVarPut
import Derived.Test.YtpaggpcpflmpcaaDoorVarMay
namespace Go.Proofs.YtpaggpcpflmpcaaDoor
open Go.RowKit

theorem ofNat_pow2 (b j : Nat) : (b : Int) * 2 ^ j = ((b * 2 ^ j : Nat) : Int) := by push_cast; rfl
theorem or_wrap (x j b : Nat) (hx : x < 2 ^ j) (hj : j ≤ 64) (hx64 : x < 18446744073709551616) :
    bits .or .u64 (x : Int) (IntKind.u64.wrap ((b : Int) * 2 ^ j)) = (((x + b * 2 ^ j) % 18446744073709551616 : Nat) : Int) := by
  have e : IntKind.u64.wrap ((b : Int) * 2 ^ j) = (((b * 2 ^ j) % 18446744073709551616 : Nat) : Int) := by
    rw [IntKind.wrap_u64, ofNat_pow2]; exact (Int.natCast_emod _ _).symm
  rw [e, u64_or_nat _ _ hx64 (Nat.mod_lt _ (by decide))]
  congr 1
  exact or_shift x j b hx hj

def GetRel (l : List UInt8) (a u : Nat) (n i : Value) : Prop :=
  ∃ k : Nat, i = .int .i64 k ∧ k ≤ u - a ∧ k ≤ 10 ∧ n = .int .u64 ((vnum (((l.drop a).take (u - a)).take k) % 18446744073709551616 : Nat) : Int) ∧
    (∀ j, j < k → ∃ c, ((l.drop a).take (u - a))[j]? = some c ∧ 128 ≤ c.toNat)

set_option maxRecDepth 1000000 in
theorem get_yes (A : Option Addr) (c : Nat) (l : List UInt8) (a u : Nat) (hau : a ≤ u) (hu : u ≤ l.length) (hl : l.length ≤ 1000000000) (w : World) (h1 : SlB w A c l) :
    Calls Tryd.prog 31 #[.slice A l.length c, .int .i64 a, .int .i64 u] w fun e w' =>
      e = .returned (.tuple #[.int .u64 (getS l a u).1, .int .i64 (getS l a u).2.1, .int .i64 (getS l a u).2.2]) ∧ w = w' := by
  have hmay : mayB a u l.length = true := by rw [mayB_true]; omega
  have hmin : ((u : Int) - (a : Int)) = ((u - a : Nat) : Int) := by omega
  by_cases h10 : 10 < u - a
  all_goals
    go_enter Tryd.func31, Tryd.ntmps31
    go_wp2_with (go_at_call 38; refine (mayBe_any _ _ _ _ _ _ (by omega)).mono ?_; rintro e w' ⟨rfl, rfl⟩)
    have HM := Lib.hid hmin
    clear hmin
    go_loop [9, 21] (fun n i => GetRel l a u n i) (fun _ i => 10 - (intOf i).toNat)
    case atStart => exact ⟨0, rfl, by omega, by omega, rfl, by omega⟩
    case round =>
      obtain ⟨k, rfl, hk, hk10, rfl, hall⟩ := hrel
      have HA := Lib.hid hall
      clear hall
      by_cases hlt : k < min (u - a) 10
      · have hlt1 : k < u - a := by omega
        have hlt2 : k < 10 := by omega
        obtain ⟨ad, b, rfl, _, hb, hc⟩ := h1.at_ (k := a + k) (by omega)
        have hb' : ((l.drop a).take (u - a))[k]? = some b := by rw [List.getElem?_take, if_pos hlt1, List.getElem?_drop]; exact hb
        have hsn : ((l.drop a).take (u - a)).take (k + 1) = ((l.drop a).take (u - a)).take k ++ [b] := by rw [List.take_add_one, hb']; rfl
        have hvl := vnum_lt (((l.drop a).take (u - a)).take k)
        have hlen : (((l.drop a).take (u - a)).take k).length = k := by simp; omega
        have hvn := vnum_snoc (((l.drop a).take (u - a)).take k) b
        rw [← hsn, hlen] at hvn
        rw [hlen] at hvl
        have hk9 : (128 : Nat) ^ k ≤ 128 ^ 9 := Nat.pow_le_pow_right (by omega) (by omega)
        rw [Nat.mod_eq_of_lt (show vnum (((l.drop a).take (u - a)).take k) < 18446744073709551616 by omega)]
        have hor := or_wrap (vnum (((l.drop a).take (u - a)).take k)) (7 * k) (b.toNat % 128) (by rw [Nat.pow_mul]; exact hvl) (by omega) (by omega)
        rw [show vnum (((l.drop a).take (u - a)).take k) + b.toNat % 128 * 2 ^ (7 * k) = vnum (((l.drop a).take (u - a)).take (k + 1)) by rw [hvn, Nat.pow_mul, Nat.mul_comm]] at hor
        rw [show ((b.toNat % 128 : Nat) : Int) = (b.toNat : Int) % 128 by omega] at hor
        have HO := Lib.hid hor
        have HB := Lib.hid hb'
        have hbl := b.toNat_lt
        clear hor hb' hvn hvl hlen hsn hb hk9 h1
        generalize vnum (((l.drop a).take (u - a)).take k) = X at *
        by_cases hb128 : b.toNat < 128
        · have HV := Lib.hid (vget_ok hlt2 HA.out HB.out hb128)
          go_wp2
          go_ret3
          refine ⟨?_, rfl⟩
          have hv := HV.out
          have ho := HO.out
          unfold getS
          rw [hv]
          exact ret3_int ho (by simp only [if_pos]; omega) rfl
        · go_wp2
          refine ⟨⟨k + 1, by go_num, by omega, by omega, ?_, ?_⟩, by simp [intOf]; omega⟩
          · have ho := HO.out
            rw [← ho]
          · intro j hj
            by_cases hjk : j = k
            · subst hjk
              exact ⟨b, HB.out, by omega⟩
            · exact HA.out j (by omega)
      · have hs : ((l.drop a).take (u - a)).length = u - a := by simp; omega
        by_cases hf : u - a < 10
        · have HV := Lib.hid (vget_cut (l := (l.drop a).take (u - a)) (by omega) (by rw [hs]; intro j hj; exact HA.out j (by omega)))
          clear h1 hs
          have hd : decide (((u - a : Nat) : Int) < 10) = true := by simp; omega
          have hm := HM.out
          try (exfalso; omega)
          all_goals go_wp2
          all_goals go_ret3
          all_goals exact ⟨by unfold getS; rw [HV.out]; rfl, rfl⟩
        · have HV := Lib.hid (vget_long (l := (l.drop a).take (u - a)) (by omega) (by intro j hj; exact HA.out j (by omega)))
          clear h1 hs
          have hm := HM.out
          have hd : decide (((u - a : Nat) : Int) < 10) = false := by simp; omega
          go_wp2
          go_ret3
          exact ⟨by unfold getS; rw [HV.out]; rfl, rfl⟩
end Go.Proofs.YtpaggpcpflmpcaaDoor
