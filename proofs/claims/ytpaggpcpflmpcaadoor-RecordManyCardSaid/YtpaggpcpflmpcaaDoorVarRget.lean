/-
  The contract of the document's own way to get a number out of bytes of seven bits.
-/
import Derived.Test.YtpaggpcpflmpcaaDoorVarGet
namespace Go.Proofs.YtpaggpcpflmpcaaDoor
open Go.RowKit

theorem acc_mod (m V P c : Nat) : (V % m + (P % m * c) % m) % m = (V + P * c) % m := by
  rw [Nat.mod_mul_mod, ← Nat.add_mod]
theorem cast_acc (m V P c : Nat) : (((V % m : Nat) : Int) + (((P % m : Nat) : Int) * (c : Int)) % (m : Int)) % (m : Int) = (((V + P * c) % m : Nat) : Int) := by
  rw [← acc_mod, ← Int.natCast_mul, ← Int.natCast_emod, ← Int.natCast_add, ← Int.natCast_emod]
theorem cast_mul (m P c : Nat) : (((P % m : Nat) : Int) * (c : Int)) % (m : Int) = ((P * c % m : Nat) : Int) := by
  rw [← Int.natCast_mul, ← Int.natCast_emod, Nat.mod_mul_mod]
theorem wrap_acc (V P b : Nat) : IntKind.u64.wrap (((V % 18446744073709551616 : Nat) : Int) + IntKind.u64.wrap (((P % 18446744073709551616 : Nat) : Int) * ((b : Int) % 128))) = (((V + P * (b % 128)) % 18446744073709551616 : Nat) : Int) := by
  rw [IntKind.wrap_u64, IntKind.wrap_u64, show ((b : Int) % 128) = ((b % 128 : Nat) : Int) by omega]
  exact cast_acc 18446744073709551616 V P (b % 128)
theorem wrap_mul (P : Nat) : IntKind.u64.wrap (((P % 18446744073709551616 : Nat) : Int) * 128) = (((P * 128) % 18446744073709551616 : Nat) : Int) := by
  rw [IntKind.wrap_u64]
  exact cast_mul 18446744073709551616 P 128

def RGet1 (l : List UInt8) (a u : Nat) (i : Value) : Prop :=
  ∃ k : Nat, i = .int .i64 k ∧ k ≤ u - a ∧ k ≤ 10 ∧ (∀ j, j < k → ∃ c, ((l.drop a).take (u - a))[j]? = some c ∧ 128 ≤ c.toNat)
def RGet2 (l : List UInt8) (a u K : Nat) (n pl i : Value) : Prop :=
  ∃ k : Nat, i = .int .i64 k ∧ k ≤ K + 1 ∧ n = .int .u64 ((vnum (((l.drop a).take (u - a)).take k) % 18446744073709551616 : Nat) : Int) ∧ pl = .int .u64 ((128 ^ k % 18446744073709551616 : Nat) : Int)

set_option maxRecDepth 1000000 in
theorem rget_yes (A : Option Addr) (c : Nat) (l : List UInt8) (a u : Nat) (hau : a ≤ u) (hu : u ≤ l.length) (hl : l.length ≤ 1000000000) (w : World) (h1 : SlB w A c l) :
    Calls Tryd.prog 22 #[.slice A l.length c, .int .i64 a, .int .i64 u] w fun e w' =>
      e = .returned (.tuple #[.int .u64 (getS l a u).1, .int .i64 (getS l a u).2.1, .int .i64 (getS l a u).2.2]) ∧ w = w' := by
  have hmay : mayB a u l.length = true := by rw [mayB_true]; omega
  have hs : ((l.drop a).take (u - a)).length = u - a := by simp; omega
  have HS := Lib.hid hs
  clear hs
  go_enter Tryd.func22, Tryd.ntmps22
  go_wp2_with (go_at_call 24; refine (may_any _ _ _ _ _ _ (by omega)).mono ?_; rintro e w' ⟨rfl, rfl⟩)
  go_loop [10] (fun i => RGet1 l a u i) (fun i => 10 - (intOf i).toNat)
  case atStart => exact ⟨0, rfl, by omega, by omega, by omega⟩
  case round =>
    obtain ⟨k, rfl, hk, hk10, hall⟩ := hrel
    have HA := Lib.hid hall
    clear hall
    by_cases hlt2 : k < 10
    · by_cases hlt1 : k < u - a
      · obtain ⟨ad, b, rfl, _, hb, hc⟩ := h1.at_ (k := a + k) (by omega)
        have hb' : ((l.drop a).take (u - a))[k]? = some b := by rw [List.getElem?_take, if_pos hlt1, List.getElem?_drop]; exact hb
        have HB := Lib.hid hb'
        clear hb' hb
        have hbl := b.toNat_lt
        have hak : (a : Int) + (k : Int) < u := by omega
        by_cases hb128 : 127 < b.toNat
        · clear h1
          go_wp2
          refine ⟨⟨k + 1, by go_num, by omega, by omega, ?_⟩, by simp [intOf]; omega⟩
          intro j hj
          by_cases hjk : j = k
          · subst hjk
            exact ⟨b, HB.out, by omega⟩
          · exact HA.out j (by omega)
        · have H1 := Lib.hid h1
          clear h1
          have hne1 : ((k : Int) == 10) = false := by simp; omega
          have hne2 : ((a : Int) + (k : Int) == (u : Int)) = false := by simp; omega
          have HV := Lib.hid (vget_ok hlt2 HA.out HB.out (by omega))
          go_wp2
          go_loop [11, 12, 13] (fun n p i => RGet2 l a u k n p i) (fun _ _ i => k + 1 - (intOf i).toNat)
          case atStart => exact ⟨0, rfl, by omega, rfl, rfl⟩
          case round =>
            obtain ⟨i, rfl, hi, rfl, rfl⟩ := hrel
            by_cases hik : i ≤ k
            · obtain ⟨ad2, b2, hadd, _, hb2, hc2⟩ := H1.out.at_ (k := a + i) (by omega)
              injection hadd with hadd
              subst hadd
              have hb2' : ((l.drop a).take (u - a))[i]? = some b2 := by rw [List.getElem?_take, if_pos (by omega), List.getElem?_drop]; exact hb2
              have HB2 := Lib.hid hb2'
              have hbl2 := b2.toNat_lt
              have hlen : (((l.drop a).take (u - a)).take i).length = i := by have := HS.out; simp at this; simp; omega
              have hvn := vnum_snoc (((l.drop a).take (u - a)).take i) b2
              rw [show ((l.drop a).take (u - a)).take i ++ [b2] = ((l.drop a).take (u - a)).take (i + 1) by rw [List.take_add_one, hb2']; rfl, hlen] at hvn
              have w1 := wrap_acc (vnum (((l.drop a).take (u - a)).take i)) (128 ^ i) b2.toNat
              have w2 := wrap_mul (128 ^ i)
              rw [← hvn] at w1
              rw [← Nat.pow_succ] at w2
              have hm1 : vnum (List.take i (List.take (u - a) (List.drop a l))) % 18446744073709551616 < 18446744073709551616 := Nat.mod_lt _ (by decide)
              have hm2 : 128 ^ i % 18446744073709551616 < 18446744073709551616 := Nat.mod_lt _ (by decide)
              have W1 := Lib.hid w1
              have W2 := Lib.hid w2
              clear hb2' hb2 hlen hvn w1 w2
              generalize vnum (List.take i (List.take (u - a) (List.drop a l))) % 18446744073709551616 = X at *
              generalize 128 ^ i % 18446744073709551616 = PL at *
              go_wp2
              exact ⟨⟨i + 1, by go_num, by omega, by rw [W1.out], by rw [W2.out]⟩, by simp [intOf]; omega⟩
            · obtain rfl : i = k + 1 := by omega
              go_wp2
              go_ret3
              refine ⟨?_, rfl⟩
              unfold getS
              rw [HV.out]
              exact ret3_int (Int.natCast_emod _ _).symm (by simp only [if_pos]; omega) rfl
      · have hk' : k = u - a := by omega
        have hne1 : ((k : Int) == 10) = false := by simp; omega
        have hne2 : ((a : Int) + (k : Int) == (u : Int)) = true := by simp; omega
        have hak : ¬ (a : Int) + (k : Int) < u := by omega
        have HV := Lib.hid (vget_cut (l := (l.drop a).take (u - a)) (by rw [HS.out]; omega) (by rw [HS.out]; intro j hj; exact HA.out j (by omega)))
        clear hk' h1
        go_wp2
        go_ret3
        exact ⟨by unfold getS; rw [HV.out]; rfl, rfl⟩
    · have hne1 : ((k : Int) == 10) = true := by simp; omega
      have HV := Lib.hid (vget_long (l := (l.drop a).take (u - a)) (by rw [HS.out]; omega) (by intro j hj; exact HA.out j (by omega)))
      clear h1
      go_wp2
      go_ret3
      exact ⟨by unfold getS; rw [HV.out]; rfl, rfl⟩
end Go.Proofs.YtpaggpcpflmpcaaDoor
