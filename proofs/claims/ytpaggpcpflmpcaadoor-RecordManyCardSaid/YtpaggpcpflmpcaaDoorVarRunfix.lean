/-
  The contract of the document's own way to get a number out of four or eight bytes, and of the chapter's examples.
-/
import Derived.Test.YtpaggpcpflmpcaaDoorVarUnfix
import Derived.Test.YtpaggpcpflmpcaaDoorVarRput
import Derived.Test.YtpaggpcpflmpcaaDoorVarBytes
namespace Go.Proofs.YtpaggpcpflmpcaaDoor
open Go.RowKit

def RUnfixRel (l : List UInt8) (a : Nat) (S : Nat) (n i : Value) : Prop :=
  ∃ k : Nat, i = .int .i64 ((k : Int) - 1) ∧ k ≤ S ∧ n = .int .u64 ((fixn (((l.drop a).take S).drop k) : Nat) : Int)

theorem fix_lt8 (l : List UInt8) (hl : l.length ≤ 8) : fixn l < 18446744073709551616 := by
  have h := fixn_lt l
  have h2 : (256 : Nat) ^ l.length ≤ 256 ^ 8 := Nat.pow_le_pow_right (by omega) hl
  omega

set_option maxRecDepth 1000000 in
theorem runfix_yes (A : Option Addr) (c : Nat) (l : List UInt8) (a u S : Nat) (hS : S = 4 ∨ S = 8) (hau : a ≤ u) (hu : u ≤ l.length) (hl : l.length ≤ 1000000000) (w : World) (h1 : SlB w A c l) :
    Calls Tryd.prog 21 #[.slice A l.length c, .int .i64 a, .int .i64 u, .int .i64 S] w fun e w' => e = .returned (V3 (unfixS l a u S)) ∧ w = w' := by
  have hmay : mayB a u l.length = true := by rw [mayB_true]; omega
  have hS8 : S ≤ 8 := by omega
  have h48 : ((S : Int) != 4) = true ∧ ((S : Int) != 8) = false ∨ ((S : Int) != 4) = false := by
    rcases hS with rfl | rfl
    · exact Or.inr rfl
    · exact Or.inl ⟨rfl, rfl⟩
  by_cases hcut : u - a < S
  · have HF : Hid (unfixS l a u S = (0, 0, 6)) := Lib.hid (by unfold unfixS; rw [if_pos hcut])
    have hd : (u : Int) < a + S := by omega
    clear hcut
    rcases h48 with ⟨h4, h8⟩ | h4
    all_goals
      go_enter Tryd.func21, Tryd.ntmps21
      go_wp2_with (go_at_call 24; refine (may_any _ _ _ _ _ _ (by omega)).mono ?_; rintro e w' ⟨rfl, rfl⟩)
      go_ret3
      exact ⟨by rw [HF.out]; rfl, rfl⟩
  · have HF : Hid (unfixS l a u S = (fixn ((l.drop a).take S), a + S, 0)) := Lib.hid (by unfold unfixS; rw [if_neg hcut])
    have hd : ¬ (u : Int) < a + S := by omega
    have haS : a + S ≤ u := by omega
    clear hcut
    have HSL : Hid (((l.drop a).take S).length = S) := Lib.hid (by simp; omega)
    rcases h48 with ⟨h4, h8⟩ | h4
    all_goals
      go_enter Tryd.func21, Tryd.ntmps21
      go_wp2_with (go_at_call 24; refine (may_any _ _ _ _ _ _ (by omega)).mono ?_; rintro e w' ⟨rfl, rfl⟩)
      go_loop [12, 13] (fun n i => RUnfixRel l a S n i) (fun _ i => (intOf i + 1).toNat)
      case atStart => exact ⟨S, rfl, by omega, by rw [List.drop_eq_nil_of_le (by rw [HSL.out]; omega)]; rfl⟩
      case round =>
        obtain ⟨k, rfl, hk, rfl⟩ := hrel
        rcases k with _ | k
        · clear h1
          go_wp2
          go_ret3
          exact ⟨by rw [HF.out]; rfl, rfl⟩
        · obtain ⟨ad, b, rfl, _, hb, hc⟩ := h1.at_ (k := a + k) (by omega)
          have hsn : ((l.drop a).take S).drop k = b :: ((l.drop a).take S).drop (k + 1) := by
            have hlen := HSL.out
            rw [List.drop_eq_getElem_cons (by omega)]
            congr 1
            have h2 : ((l.drop a).take S)[k]? = some b := by rw [List.getElem?_take, if_pos (by omega), List.getElem?_drop]; exact hb
            rw [List.getElem?_eq_getElem (by omega)] at h2
            exact Option.some.inj h2
          have hfx : fixn (((l.drop a).take S).drop k) = b.toNat + 256 * fixn (((l.drop a).take S).drop (k + 1)) := by rw [hsn]; rfl
          have h64 := fix_lt8 (((l.drop a).take S).drop k) (by simp; omega)
          rw [hfx] at h64
          have HFX := Lib.hid hfx
          have hbl := b.toNat_lt
          clear hfx hsn hb h1
          generalize fixn (((l.drop a).take S).drop (k + 1)) = X at *
          rw [show (((k + 1 : Nat) : Int) - 1) = (k : Int) by omega]
          go_wp2
          exact ⟨⟨k, rfl, by omega, by rw [HFX.out]; go_num⟩, by simp [intOf]⟩

theorem runfix_any (A : Option Addr) (c : Nat) (l : List UInt8) (a u s : Int) (hl : l.length ≤ 1000000000) (w : World) (h1 : SlB w A c l) :
    Calls Tryd.prog 21 #[.slice A l.length c, .int .i64 a, .int .i64 u, .int .i64 s] w fun e w' => e = .returned (V3 (unfixR l a u s)) ∧ w = w' := by
  by_cases h : mayB a u l.length = true
  · by_cases hz : sizeB s = true
    · have h' := mayB_true.1 h
      have hs : s = 4 ∨ s = 8 := by simpa [sizeB] using hz
      obtain ⟨an, rfl⟩ := Int.eq_ofNat_of_zero_le h'.1
      obtain ⟨un, rfl⟩ := Int.eq_ofNat_of_zero_le (show 0 ≤ u by omega)
      obtain ⟨sn, rfl⟩ := Int.eq_ofNat_of_zero_le (show 0 ≤ s by omega)
      refine (runfix_yes A c l an un sn (by omega) (by omega) (by omega) hl w h1).mono ?_
      rintro e w' ⟨rfl, rfl⟩
      exact ⟨by unfold unfixR; rw [h, hz]; rfl, rfl⟩
    · have hf : sizeB s = false := by simpa using hz
      have HF : Hid (unfixR l a u s = (0, 0, 1)) := Lib.hid (by unfold unfixR; rw [h, hf]; rfl)
      have hs : ¬ (s = 4 ∨ s = 8) := by simpa [sizeB] using hf
      have h4 : (s != 4) = true := by rw [bne_iff_ne]; omega
      have h8 : (s != 8) = true := by rw [bne_iff_ne]; omega
      clear hz hs
      go_enter Tryd.func21, Tryd.ntmps21
      go_wp2_with (go_at_call 24; refine (may_any _ _ _ _ _ _ (by omega)).mono ?_; rintro e w' ⟨rfl, rfl⟩)
      go_ret3
      exact ⟨by rw [HF.out]; rfl, rfl⟩
  · have hf : mayB a u l.length = false := by simpa using h
    have HF : Hid (unfixR l a u s = (0, 0, 1)) := Lib.hid (by unfold unfixR; rw [hf]; rfl)
    clear h
    go_enter Tryd.func21, Tryd.ntmps21
    go_wp2_with (go_at_call 24; refine (may_any _ _ _ _ _ _ (by omega)).mono ?_; rintro e w' ⟨rfl, rfl⟩)
    go_ret3
    exact ⟨by rw [HF.out]; rfl, rfl⟩
end Go.Proofs.YtpaggpcpflmpcaaDoor
