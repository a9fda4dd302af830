/-
  The contracts of the functions that put a number into bytes of seven bits.
-/
import Derived.Test.YtpaggpcpflmpcaaDoorBytes
import Derived.Test.YtpaggpcpflmpcaaDoorVarMath
namespace Go.Proofs.YtpaggpcpflmpcaaDoor
open Go.RowKit

set_option maxRecDepth 1000000 in
theorem long_any (n : Nat) (hn : n < 18446744073709551616) (w : World) :
    Calls Tryd.prog 36 #[.int .u64 n] w fun e w' => e = .returned (.int .i64 (vlong n)) ∧ w = w' := by
  have hv := vlong_le10 hn
  go_enter Tryd.func36, Tryd.ntmps36
  go_wp2
  refine wp_scope_loop 0 (fun a' w' => w = w' ∧ ∃ (m k : Nat) (u4 u5 u6 u7 u8 u9 u10 : Value), a' = { tmps := #[.int .u64 m, undef, .int .i64 0, .int .i64 k, u4, u5, u6, u7, u8, u9, u10], defers := [] } ∧ k + vlong m = 1 + vlong n ∧ m < 18446744073709551616) (fun a' _ => (intOf (a'.tmps.getD 0 undef)).toNat) rfl ?_ ?_
  · go_wp2
    exact ⟨trivial, n, 1, _, _, _, _, _, _, _, rfl, rfl, hn⟩
  · rintro a' w' ⟨rfl, m, k, u4, u5, u6, u7, u8, u9, u10, rfl, hs, hm⟩
    have h1 := vlong_pos m
    have hk : k ≤ 10 := by omega
    have HS := Lib.hid hs
    clear hs
    go_wp2
    · have h : m < 128 := by omega
      simp only [Exit.jump]
      go_ret
      have := HS.out
      rw [vlong_small h] at this
      exact ⟨by simp; omega, rfl⟩
    · have h : ¬ m < 128 := by omega
      have hs := HS.out
      have := vlong_big h
      go_step3
      refine ⟨rfl, ⟨rfl, m / 128, k + 1, _, _, _, _, _, _, _, rfl, by omega, by omega⟩, ?_⟩
      simp [intOf]; omega

theorem or128_all : ∀ x : Fin 256, bits BinOp.or IntKind.u8 ((x.val : Nat) : Int) 128 = ((x.val % 128 + 128 : Nat) : Int) := by decide +kernel
theorem or128 (m : Nat) : bits BinOp.or IntKind.u8 ((m : Int) % 256) 128 = ((m % 128 + 128 : Nat) : Int) := by
  have h := or128_all ⟨m % 256, by omega⟩
  simp only at h
  rw [show ((m : Int) % 256) = ((m % 256 : Nat) : Int) by omega, h]
  congr 1; omega

def PutRel (w : World) (n : Nat) (a' : Act) (w' : World) : Prop :=
  ∃ (m : Nat) (v : Value) (xs : List UInt8) (u2 u4 u5 u6 u7 u8 u9 u10 u11 u12 u13 u14 u15 u16 u17 u18 u19 u20 u21 : Value), a' = { tmps := #[.int .u64 m, undef, u2, v, u4, u5, u6, u7, u8, u9, u10, u11, u12, u13, u14, u15, u16, u17, u18, u19, u20, u21], defers := [] } ∧
    w'.ownsRow w.heap.size 5 1 v xs.length (bs xs) ∧ Below w.heap.size w w' ∧ xs ++ vput m = vput n ∧ m < 18446744073709551616

set_option maxRecDepth 1000000 in
theorem put_any (n : Nat) (hn : n < 18446744073709551616) (w : World) :
    Calls Tryd.prog 26 #[.int .u64 n] w fun e w' => ∃ v, e = .returned v ∧ w'.ownsRow w.heap.size 5 1 v (vput n).length (bs (vput n)) ∧ Below w.heap.size w w' := by
  have hv := vlong_le10 hn
  obtain ⟨i0, hi, hz0, hz1, hz2⟩ := info_parts info_u8
  go_enter Tryd.func26, Tryd.ntmps26
  go_wp2
  refine wp_scope_loop 0 (PutRel w n) (fun a' _ => (intOf (a'.tmps.getD 0 undef)).toNat) rfl ?_ ?_
  · go_wp2_with (first
      | (go_at_call 36; refine (long_any _ hn _).mono ?_; rintro e w' ⟨rfl, rfl⟩)
      | (at_make; refine wpList_make_own _ rfl _ _ 22 rfl w.heap.size 5 i0 (.int .u8 0) 1 Tryd.underlying22 hi hz0 hz1 .i64 .i64 _ (vlong n) rfl rfl rfl (by rw [hz2]; omega) (by unfold maxLen; omega) (Nat.le_refl _) ?_; intro w0 hown0 hgrow0))
    exact ⟨n, _, [], _, _, _, _, _, _, _, _, _, _, _, _, _, _, _, _, _, _, _, rfl, hown0, (Below.refl _ _).grown hgrow0 (Nat.le_refl _) (by simp), rfl, hn⟩
  · rintro a' w1 ⟨m, v, xs, u2, u4, u5, u6, u7, u8, u9, u10, u11, u12, u13, u14, u15, u16, u17, u18, u19, u20, u21, rfl, hown, hb, hx, hm⟩
    have HX := Lib.hid hx
    clear hx
    have hz := hb.size
    have hlen : xs.length ≤ 10 := by
      have h1 := congrArg List.length HX.out
      rw [List.length_append, vput_length n] at h1
      omega
    go_wp2_with (at_builtin; refine wpList_app1 rfl _ _ 22 rfl w.heap.size 5 i0 (.int .u8 0) 1 Tryd.underlying22 hi hz0 hz1 hz2 rfl v xs.length (bs xs) rfl (hown.alloc _) w1.heap.size 1 _ rfl (World.cell?_alloc_at _ _ _ _ rfl) rfl (by unfold maxLen; omega) (by omega) (by simp; omega) ?_; intro v2 w2 hown2 hg2)
    · have h : m < 128 := by omega
      have hx := HX.out
      rw [vput_small h] at hx
      have he : bs xs ++ [#[Value.int IntKind.u8 (m : Int)][0]] = bs (vput n) := by rw [← hx, bs_append]; simp [bs, BV, ofNat_toNat (show m < 256 by omega)]
      have hl : xs.length + 1 = (vput n).length := by rw [← hx]; simp
      simp only [Exit.jump]
      go_ret
      rw [he, hl] at hown2
      exact ⟨_, rfl, hown2, (hb.alloc hz _).grown hg2 (by simp; omega) (own_ge hown)⟩
    · have h : ¬ m < 128 := by omega
      have hx := HX.out
      have he : bs xs ++ [#[Value.int IntKind.u8 (bits BinOp.or IntKind.u8 ((m : Int) % 256) 128)][0]] = bs (xs ++ [UInt8.ofNat (m % 128 + 128)]) := by
        rw [bs_append, or128]; simp [bs, BV]; omega
      have hl : xs.length + 1 = (xs ++ [UInt8.ofNat (m % 128 + 128)]).length := by simp
      rw [he, hl] at hown2
      have hx2 : (xs ++ [UInt8.ofNat (m % 128 + 128)]) ++ vput (m / 128) = vput n := by rw [← hx, vput_big h]; simp
      go_step3
      exact ⟨rfl, ⟨m / 128, v2, _, _, _, _, _, _, _, _, _, _, _, _, _, _, _, _, _, _, _, _, rfl, hown2, (hb.alloc hz _).grown hg2 (by simp; omega) (own_ge hown), hx2, by omega⟩, by simp [intOf]; omega⟩
theorem put_at (x : Int) (n : Nat) (hx : x = (n : Int)) (hn : n < 18446744073709551616) (w : World) :
    Calls Tryd.prog 26 #[.int .u64 x] w fun e w' => ∃ v, e = .returned v ∧ w'.ownsRow w.heap.size 5 1 v (vput n).length (bs (vput n)) ∧ Below w.heap.size w w' := by
  subst hx
  exact put_any n hn w
end Go.Proofs.YtpaggpcpflmpcaaDoor
