/-
  More bits have no fewer bytes; a number below 2^(7k) has at most k: the statement VarintLong, for every two numbers.
-/
import Derived.Test.YthmnngojfllahaaVarAll
namespace Go.Proofs.Ythmnngojfllahaa.lawVarintLong
open Go.ChangeShapes Go.WideShapes Go.ChangeAt Go.RowKit

def LongRel (n : Nat) (k x : Value) : Prop := ∃ j m : Nat, k = .int .i64 j ∧ x = .int .u64 m ∧ m < 18446744073709551616 ∧ j ≤ 10 ∧ (j + (if m = 0 then 0 else vlong m)) = vlong n

set_option maxRecDepth 1000000 in
theorem walk0 (w : World) (n m n0 m0 : Nat) (hn : n < 18446744073709551616) (hm : m < 18446744073709551616) (hle : n ≤ m) (h : (n0 = n ∧ m0 = m) ∨ (n0 = m ∧ m0 = n ∧ n < m)) :
    Calls Try.prog 5 #[.int .u64 n0, .int .u64 m0] w fun e w' => e = .returned (.bool true) ∧ Below w.heap.size w w' := by
  have hv := vlong_le10 hn
  have hvm := vlong_mono m n hle
  have hm10 := vlong_le10 hm
  rcases h with ⟨rfl, rfl⟩ | ⟨rfl, rfl, hlt⟩
  · have hd : ¬ (m0 : Int) < (n0 : Int) := by omega
    go_enter Try.func5, Try.ntmps5
    go_wp2_with fail
    refine (awake_any _).mono ?_
    rintro e w1 ⟨rfl, hb1⟩
    go_wp2_with fail
    refine (long_any n0 hn _).mono ?_
    rintro e w2 ⟨rfl, rfl⟩
    go_wp2_with fail
    go_loop [7, 8] (fun k x => LongRel n0 k x) (fun _ x => (intOf x).toNat)
    case atStart => exact ⟨1, n0 / 128, rfl, rfl, by omega, by omega, by
      split
      · rw [vlong_small (by omega)]
      · rw [vlong_big (n := n0) (by omega)]; omega⟩
    case round =>
      obtain ⟨j, x, rfl, rfl, hx, hj, he⟩ := hrel
      have HE := Lib.hid he
      clear he
      by_cases h0 : x = 0
      · subst h0
        have hj' : j = vlong n0 := by have := HE.out; simpa using this
        have hq : ((vlong n0 : Int) == (j : Int)) = true := by simp [hj']
        have HJ := Lib.hid hj'
        clear hj'
        go_wp2_with fail
        refine (long_any m0 hm _).mono ?_
        rintro e w2 ⟨rfl, rfl⟩
        go_wp2_with fail
        refine (put_reads m0 hm _).mono ?_
        rintro e w5 ⟨A5, c5, rfl, hr5, hb5⟩
        go_wp2_with fail
        refine (long_any m0 hm _).mono ?_
        rintro e w2 ⟨rfl, rfl⟩
        have hl := vput_length m0
        go_wp2
        go_ret
        exact ⟨by simp, below_then hb1 hb5⟩
      · have hp := vlong_pos (x / 128)
        have hj9 : j + 1 ≤ 10 ∧ (j + 1 + (if x / 128 = 0 then 0 else vlong (x / 128))) = vlong n0 := by
          have h1 := HE.out
          rw [if_neg h0] at h1
          by_cases hs : x < 128
          · rw [vlong_small hs] at h1
            rw [if_pos (by omega)]
            omega
          · rw [vlong_big hs] at h1
            rw [if_neg (by omega)]
            omega
        have HJ := Lib.hid hj9
        clear hj9
        have hxp : 0 < x := by omega
        clear h0
        go_wp2
        have hj9 := HJ.out
        exact ⟨⟨j + 1, x / 128, by go_num, rfl, by omega, hj9.1, hj9.2⟩, by simp [intOf]; omega⟩
  · have hd : (m0 : Int) < (n0 : Int) := by omega
    go_enter Try.func5, Try.ntmps5
    go_wp2_with fail
    refine (awake_any _).mono ?_
    rintro e w1 ⟨rfl, hb1⟩
    go_wp2_with fail
    refine (long_any m0 hn _).mono ?_
    rintro e w2 ⟨rfl, rfl⟩
    go_wp2_with fail
    go_loop [7, 8] (fun k x => LongRel m0 k x) (fun _ x => (intOf x).toNat)
    case atStart => exact ⟨1, m0 / 128, rfl, rfl, by omega, by omega, by
      split
      · rw [vlong_small (by omega)]
      · rw [vlong_big (n := m0) (by omega)]; omega⟩
    case round =>
      obtain ⟨j, x, rfl, rfl, hx, hj, he⟩ := hrel
      have HE := Lib.hid he
      clear he
      by_cases h0 : x = 0
      · subst h0
        have hj' : j = vlong m0 := by have := HE.out; simpa using this
        have hq : ((vlong m0 : Int) == (j : Int)) = true := by simp [hj']
        have HJ := Lib.hid hj'
        clear hj'
        go_wp2_with fail
        refine (long_any n0 hm _).mono ?_
        rintro e w2 ⟨rfl, rfl⟩
        go_wp2_with fail
        refine (put_reads n0 hm _).mono ?_
        rintro e w5 ⟨A5, c5, rfl, hr5, hb5⟩
        go_wp2_with fail
        refine (long_any n0 hm _).mono ?_
        rintro e w2 ⟨rfl, rfl⟩
        have hl := vput_length n0
        go_wp2
        go_ret
        exact ⟨by simp, below_then hb1 hb5⟩
      · have hp := vlong_pos (x / 128)
        have hj9 : j + 1 ≤ 10 ∧ (j + 1 + (if x / 128 = 0 then 0 else vlong (x / 128))) = vlong m0 := by
          have h1 := HE.out
          rw [if_neg h0] at h1
          by_cases hs : x < 128
          · rw [vlong_small hs] at h1
            rw [if_pos (by omega)]
            omega
          · rw [vlong_big hs] at h1
            rw [if_neg (by omega)]
            omega
        have HJ := Lib.hid hj9
        clear hj9
        have hxp : 0 < x := by omega
        clear h0
        go_wp2
        have hj9 := HJ.out
        exact ⟨⟨j + 1, x / 128, by go_num, rfl, by omega, hj9.1, hj9.2⟩, by simp [intOf]; omega⟩

theorem walk (w : World) (n : Nat) (hn : n < 18446744073709551616) (m : Nat) (hm : m < 18446744073709551616) :
    Calls Try.prog 5 #[.int .u64 n, .int .u64 m] w fun e w' => e = .returned (.bool true) ∧ Below w.heap.size w w' := by
  by_cases h : n ≤ m
  · exact walk0 w n m n m hn hm h (Or.inl ⟨rfl, rfl⟩)
  · exact walk0 w m n n m hm hn (by omega) (Or.inr ⟨rfl, rfl, by omega⟩)

set_option maxRecDepth 100000 in
theorem lifted (os : Os) (started : os.Started) (H : Type) (enc : TypeId × Value → H) :
    ReturnsInHanded {} Try.checked os 5 .any (Rows.varintLongSpec.pre6 enc Try.prog Try.f5 Rows.varintLongRow.domain false) (Rows.varintLongSpec.post enc Try.prog Try.f5 false true false false) := by
  refine returnsInHanded_of_change (C := Try.checked) own started (by kernel_rfl) Try.func5
    (ChangeSpec.witness6 (enc := enc) (C := Try.checked) false ⟨#[], #[.int .u64 0, .int .u64 0], []⟩ 8 (by kernel_rfl) (by kernel_rfl) (by kernel_rfl) (by kernel_rfl)) ?_
  intro W base args ds gs before hval0 hW hcnd _
  have hval : ∀ (j : Nat) t v, Try.f5.params[j]? = some t → args[j]? = some v → Value.okWide Try.prog W .any base t v := hval0
  have hW2 := hW
  obtain ⟨p, q, hA0, hV, rfl, hfz, hnd⟩ := hW
  have hA : DataW.TrodAll enc Try.prog W 0 (fun _ => true) true Try.f5.params.toList args.toList ds p := hA0
  rw [Try.params5] at hA hval
  obtain ⟨v0, vs0, d0, ds0, p0, q0, hargs, rfl, rfl, h0, r0⟩ := trodAll_cons hA
  obtain ⟨v1, vs1, d1, ds1, p1, q1, rfl, rfl, rfl, h1, r1⟩ := trodAll_cons r0
  obtain ⟨rfl, rfl, rfl⟩ := trodAll_nil r1
  obtain rfl : args = #[v0, v1] := by cases args; simp_all
  obtain ⟨rfl, rfl⟩ := trodVars_none hV
  obtain ⟨n0, rfl, b0⟩ := open_nat (hval 0 22 v0 rfl rfl) h0
  obtain ⟨n1, rfl, b1⟩ := open_nat (hval 1 22 v1 rfl rfl) h1
  refine (walk W n0 b0 n1 b1).mono fun e W2 ⟨he, hb⟩ => ?_
  subst he
  exact ⟨_, rfl, law_post (by kernel_rfl) rfl rfl (by decide +kernel) hW2 hb⟩
theorem proved : Rows.VarintLongSaid :=
  OpenClaim.holds_of_wide 5 Try.f5 rfl rfl rfl rfl rfl rfl rfl ⟨rfl, rfl, rfl, rfl, rfl⟩ rfl rfl rfl rfl rfl (by kernel_rfl) Try.func5 (by kernel_rfl)
    (of_decide_eq_true (by kernel_rfl)) (by unfold Func.isWrapper; first | (rw [if_pos (by decide +kernel)]; kernel_rfl) | (rw [if_neg (by decide +kernel)]; exact ⟨rfl, rfl⟩))
    (fun os started H enc _ => lifted os started H enc)
end Go.Proofs.Ythmnngojfllahaa.lawVarintLong
