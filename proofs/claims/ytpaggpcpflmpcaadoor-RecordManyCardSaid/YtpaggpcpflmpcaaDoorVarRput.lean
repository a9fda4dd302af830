/-
  The contracts of the document's own way to put a number into bytes of seven bits.
-/
import Derived.Test.YtpaggpcpflmpcaaDoorVarPut
namespace Go.Proofs.YtpaggpcpflmpcaaDoor
open Go.RowKit

def RPutRel (w : World) (n : Nat) (m v : Value) (w' : World) : Prop :=
  ∃ (q : Nat) (xs : List UInt8), m = .int .u64 q ∧ q < 18446744073709551616 ∧ w'.ownsRow w.heap.size 5 1 v xs.length (bs xs) ∧ xs ++ vput q = vput n ∧ Below w.heap.size w w'

set_option maxRecDepth 1000000 in
theorem rput_any (n : Nat) (hn : n < 18446744073709551616) (w : World) :
    Calls Tryd.prog 29 #[.int .u64 n] w fun e w' => ∃ v, e = .returned v ∧ w'.ownsRow w.heap.size 5 1 v (vput n).length (bs (vput n)) ∧ Below w.heap.size w w' := by
  obtain ⟨i0, hi, hz0, hz1, hz2⟩ := info_parts info_u8
  have hv := vlong_le10 hn
  go_enter Tryd.func29, Tryd.ntmps29
  go_wp2
  go_loopw [0, 3] (fun m v wr => RPutRel w n m v wr) (fun m _ _ => (intOf m).toNat)
  case atStart => exact ⟨n, [], rfl, hn, World.ownsRow_nil _ _ _ _, rfl, Below.refl _ _⟩
  case round =>
    obtain ⟨q, xs, rfl, hq, hown, hx, hb⟩ := hrel
    have HX := Lib.hid hx
    have hz := hb.size
    have hlen : xs.length ≤ 10 := by
      have h1 := congrArg List.length hx
      rw [List.length_append, vput_length n] at h1
      omega
    clear hx
    by_cases hlt : q < 128
    · have hx := HX.out
      rw [vput_small hlt] at hx
      have HX2 := Lib.hid hx
      clear hx
      go_wp2_with (at_builtin; refine wpList_app1 rfl _ _ 22 rfl w.heap.size 5 i0 (.int .u8 0) 1 Tryd.underlying22 hi hz0 hz1 hz2 rfl _ xs.length (bs xs) rfl (hown.alloc _) wr.heap.size 1 _ rfl (World.cell?_alloc_at _ _ _ _ rfl) rfl (by unfold maxLen; omega) (by omega) (by simp; omega) ?_; intro v2 w2 hown2 hg2)
      have he : bs xs ++ [#[Value.int IntKind.u8 (q : Int)][0]] = bs (vput n) := by rw [← HX2.out, bs_append]; simp [bs, BV]; omega
      have hl : xs.length + 1 = (vput n).length := by rw [← HX2.out]; simp
      go_ret
      rw [he, hl] at hown2
      exact ⟨_, rfl, hown2, (hb.alloc hz _).grown hg2 (by simp; omega) (own_ge hown)⟩
    · go_wp2_with (at_builtin; refine wpList_app1 rfl _ _ 22 rfl w.heap.size 5 i0 (.int .u8 0) 1 Tryd.underlying22 hi hz0 hz1 hz2 rfl _ xs.length (bs xs) rfl (hown.alloc _) wr.heap.size 1 _ rfl (World.cell?_alloc_at _ _ _ _ rfl) rfl (by unfold maxLen; omega) (by omega) (by simp; omega) ?_; intro v2 w2 hown2 hg2)
      have he : bs xs ++ [#[Value.int IntKind.u8 ((q : Int) % 128 + 128)][0]] = bs (xs ++ [UInt8.ofNat (q % 128 + 128)]) := by simp [bs, BV]; omega
      have hl : xs.length + 1 = (xs ++ [UInt8.ofNat (q % 128 + 128)]).length := by simp
      rw [he, hl] at hown2
      exact ⟨⟨q / 128, _, rfl, by omega, hown2, by rw [← HX.out, vput_big hlt]; simp, (hb.alloc hz _).grown hg2 (by simp; omega) (own_ge hown)⟩, by simp [intOf]; omega⟩
end Go.Proofs.YtpaggpcpflmpcaaDoor
