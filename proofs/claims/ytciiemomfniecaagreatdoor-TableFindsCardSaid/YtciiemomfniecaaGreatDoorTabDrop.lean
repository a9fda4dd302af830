/-
  Sets of names, and numbers, that may still be taken: the contracts of the functions that make them, take one, or drop some.
-/
import Derived.Test.YtciiemomfniecaaGreatDoorTabKit
import Derived.Test.YtciiemomfniecaaGreatDoorRawSch
namespace Go.Proofs.YtciiemomfniecaaGreatDoor
set_option maxRecDepth 100000

open Go.RowKit Go.Maps

abbrev FreeS (w : World) (b n : Nat) (p : List UInt8 → Bool) : Prop := Free 9 kS w b n p
abbrev FreeI (w : World) (b n : Nat) (p : Int → Bool) : Prop := Free 2 kI w b n p
theorem zero_unit (w : World) : (zeroValue 160).run Tryz.prog w = .ok (.agg #[]) w := by kernel_rfl

set_option maxHeartbeats 1000000 in
theorem takeS_any (b n : Nat) (p : List UInt8 → Bool) (x : List UInt8) (hx : x.length ≤ maxLen) (w : World) (h : FreeS w b n p) :
    Calls Tryz.prog 49 #[.map (some b), .string (txt x)] w fun e w' => e = .returned (.bool (p x)) ∧ FreeS w' b n (fun y => p y && decide (y ≠ x)) ∧ w.grownBy w' (some b) := by
  go_enter Tryz.func49, Tryz.ntmps49
  go_wp2_with (first
    | (at_lookup; refine wpList_free_look rfl _ _ 91 160 rfl kS_law Tryz.underlying91 (zero_unit _) b n p rfl h _ x rfl (kS_key hx) ?_)
    | (at_delete; refine wpList_free_del rfl _ _ 91 160 rfl kS_law Tryz.underlying91 kS_inj b n p rfl (h.alloc _) _ x rfl (kS_key hx) ?_; intro w1 h1 hg1))
  go_ret
  exact ⟨rfl, h1, (World.grownBy_alloc w _ _).trans hg1⟩
set_option maxHeartbeats 1000000 in
theorem takeI_any (b n : Nat) (p : Int → Bool) (x : Int) (hx : inr x) (w : World) (h : FreeI w b n p) :
    Calls Tryz.prog 77 #[.map (some b), .int .i64 x] w fun e w' => e = .returned (.bool (p x)) ∧ FreeI w' b n (fun y => p y && decide (y ≠ x)) ∧ w.grownBy w' (some b) := by
  go_enter Tryz.func77, Tryz.ntmps77
  go_wp2_with (first
    | (at_lookup; refine wpList_free_look rfl _ _ 132 160 rfl kI_law Tryz.underlying132 (zero_unit _) b n p rfl h _ x rfl (kI_key hx) ?_)
    | (at_delete; refine wpList_free_del rfl _ _ 132 160 rfl kI_law Tryz.underlying132 kI_inj b n p rfl (h.alloc _) _ x rfl (kI_key hx) ?_; intro w1 h1 hg1))
  go_ret
  exact ⟨rfl, h1, (World.grownBy_alloc w _ _).trans hg1⟩

end Go.Proofs.YtciiemomfniecaaGreatDoor
/-
  Some are dropped: the contracts.
-/
namespace Go.Proofs.YtciiemomfniecaaGreatDoor
set_option maxRecDepth 100000

open Go.RowKit Go.Maps

/-! ### Some are dropped -/

theorem drop_next {α : Type} [DecidableEq α] [BEq α] [LawfulBEq α] {p : α → Bool} {l : List α} {k : Nat} {x : α} (h : l[k]? = some x) : (fun y => (p y && !(l.take k).contains y) && decide (y ≠ x)) = fun y => p y && !(l.take (k + 1)).contains y := by
  funext y
  rw [List.take_add_one, h]
  by_cases hy : y = x
  · subst hy; simp
  · simp [hy]
theorem Sl.kept {w w' : World} {A : Option Addr} {n c size : Nat} {xs : List Value} {B b : Nat} (h : Sl w A n c size xs) (hA : ∀ ad, A = some ad → 0 < n → ad.block < B) (hB : B ≤ b) (hg : w.grownBy w' (some b)) : Sl w' A n c size xs := by
  refine ⟨h.len, h.le, h.cap, h.nil, fun ad ha hn => Nat.lt_of_lt_of_le (h.old ad ha hn) hg.size, fun ad ha k u hu => ?_⟩
  have hn : 0 < n := by
    rcases Nat.eq_zero_or_pos n with h0 | h0
    · have := h.len
      rw [h0, Nat.zero_mul] at this
      rw [List.eq_nil_of_length_eq_zero this] at hu
      simp at hu
    · exact h0
  have hk : w'.heap[(ad.add k).block]? = w.heap[(ad.add k).block]? := by
    rw [add_same_block]
    refine hg.block _ (h.old ad ha hn) (fun e => ?_)
    have := hA ad ha hn
    injection e with e
    omega
  exact (World.cell?_of_block hk).trans (h.cell ad ha k u hu)
theorem Rb.kept {w w' : World} {v : Value} {n size : Nat} {xs : List Value} {B b : Nat} (h : Rb B w v n size xs) (hB : B ≤ b) (hg : w.grownBy w' (some b)) : Rb B w' v n size xs := by
  obtain ⟨A, c, rfl, h1, h2⟩ := h
  exact ⟨A, c, rfl, h1.kept h2 hB hg, h2⟩
set_option maxHeartbeats 1000000 in
theorem dropS_any (b n B : Nat) (p : List UInt8 → Bool) (v : Value) (l : List (List UInt8)) (hl : ∀ x ∈ l, x.length ≤ maxLen) (w : World) (hB : B ≤ b) (hr : Rb B w v l.length 1 (strv l)) (h : FreeS w b n p) :
    Calls Tryz.prog 72 #[.map (some b), v] w fun e w' => e = .returned (.tuple #[]) ∧ FreeS w' b n (fun y => p y && !l.contains y) ∧ w.grownBy w' (some b) := by
  obtain ⟨A, c, rfl, hs, hA⟩ := hr
  go_enter Tryz.func72, Tryz.ntmps72
  have HS := Lib.hid hs
  have hsm : l.length ≤ 9223372036854775807 := by have h1 := hs.le; have h2 := hs.cap; unfold maxLen at h2; omega
  clear hs
  go_wp2
  go_loopw [8] (fun i wr => ∃ k : Nat, i = .int .i64 k ∧ k ≤ l.length ∧ FreeS wr b n (fun y => p y && !(l.take k).contains y) ∧ w.grownBy wr (some b)) (fun i _ => l.length - (intOf i).toNat)
  case atStart => exact ⟨0, rfl, by omega, by simpa using h, World.grownBy.refl _ _⟩
  case round =>
    obtain ⟨k, rfl, hk, hm, hg⟩ := hrel
    by_cases hlt : k < l.length
    · obtain ⟨x, hx⟩ : ∃ x, l[k]? = some x := ⟨_, List.getElem?_eq_getElem hlt⟩
      obtain ⟨ad, rfl, hab, hc⟩ := strr_at (HS.out.kept hA hB hg) hx
      have hxl := hl x (List.mem_of_getElem? hx)
      have HN := Lib.hid (drop_next (p := p) hx)
      clear hx
      go_wp2_with (at_delete; refine wpList_free_del rfl _ _ 91 160 rfl kS_law Tryz.underlying91 kS_inj b n _ rfl hm _ x rfl (kS_key hxl) ?_; intro w1 h1 hg1)
      exact ⟨⟨k + 1, by go_num, by omega, h1.eq HN.out, hg.trans hg1⟩, by simp [intOf]; omega⟩
    · obtain rfl : k = l.length := by omega
      rw [List.take_length] at hm
      go_wp2
      go_end0
      exact ⟨rfl, hm, hg⟩
set_option maxHeartbeats 1000000 in
theorem dropI_any (b n B : Nat) (p : Int → Bool) (v : Value) (l : List Int) (hl : ∀ x ∈ l, inr x) (w : World) (hB : B ≤ b) (hr : Rb B w v l.length 1 (intv l)) (h : FreeI w b n p) :
    Calls Tryz.prog 76 #[.map (some b), v] w fun e w' => e = .returned (.tuple #[]) ∧ FreeI w' b n (fun y => p y && !l.contains y) ∧ w.grownBy w' (some b) := by
  obtain ⟨A, c, rfl, hs, hA⟩ := hr
  go_enter Tryz.func76, Tryz.ntmps76
  have HS := Lib.hid hs
  have hsm : l.length ≤ 9223372036854775807 := by have h1 := hs.le; have h2 := hs.cap; unfold maxLen at h2; omega
  clear hs
  go_wp2
  go_loopw [8] (fun i wr => ∃ k : Nat, i = .int .i64 k ∧ k ≤ l.length ∧ FreeI wr b n (fun y => p y && !(l.take k).contains y) ∧ w.grownBy wr (some b)) (fun i _ => l.length - (intOf i).toNat)
  case atStart => exact ⟨0, rfl, by omega, by simpa using h, World.grownBy.refl _ _⟩
  case round =>
    obtain ⟨k, rfl, hk, hm, hg⟩ := hrel
    by_cases hlt : k < l.length
    · obtain ⟨x, hx⟩ : ∃ x, l[k]? = some x := ⟨_, List.getElem?_eq_getElem hlt⟩
      obtain ⟨ad, rfl, hab, hc⟩ := intr_at (HS.out.kept hA hB hg) hx
      have hxl := hl x (List.mem_of_getElem? hx)
      have HN := Lib.hid (drop_next (p := p) hx)
      clear hx
      go_wp2_with (at_delete; refine wpList_free_del rfl _ _ 132 160 rfl kI_law Tryz.underlying132 kI_inj b n _ rfl hm _ x rfl (kI_key hxl) ?_; intro w1 h1 hg1)
      exact ⟨⟨k + 1, by go_num, by omega, h1.eq HN.out, hg.trans hg1⟩, by simp [intOf]; omega⟩
    · obtain rfl : k = l.length := by omega
      rw [List.take_length] at hm
      go_wp2
      go_end0
      exact ⟨rfl, hm, hg⟩
end Go.Proofs.YtciiemomfniecaaGreatDoor
