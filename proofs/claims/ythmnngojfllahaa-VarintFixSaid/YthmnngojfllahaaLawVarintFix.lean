/-
  What is put into four, or eight, bytes is got, as far as it goes; into others nothing is: the statement VarintFix, for every number and size.
-/
import Derived.Test.YthmnngojfllahaaVarAll
namespace Go.Proofs.Ythmnngojfllahaa.lawVarintFix
open Go.ChangeShapes Go.WideShapes Go.ChangeAt Go.RowKit

theorem unfix_whole (l : List UInt8) (S : Nat) (hl : l.length = S) (hS : S = 4 ∨ S = 8) : unfixR l 0 l.length S = (fixn l, S, 0) := by
  have hm : mayB 0 (l.length : Int) l.length = true := by rw [mayB_true]; omega
  have hz : sizeB (S : Int) = true := by rcases hS with rfl | rfl <;> rfl
  unfold unfixR
  rw [hm, hz]
  simp only [Bool.and_self, if_true, unfixS]
  rw [if_neg (by omega)]
  simp only [Int.toNat_natCast, Int.toNat_zero, List.drop_zero]
  rw [List.take_of_length_le (by omega)]
  simp
theorem unfix_short (l : List UInt8) (S : Nat) (hl : l.length = S) (hS : S = 4 ∨ S = 8) : unfixR l 1 l.length S = (0, 0, 6) := by
  have hm : mayB 1 (l.length : Int) l.length = true := by rw [mayB_true]; omega
  have hz : sizeB (S : Int) = true := by rcases hS with rfl | rfl <;> rfl
  unfold unfixR
  rw [hm, hz]
  simp only [Bool.and_self, if_true, unfixS]
  rw [if_pos (by omega)]

set_option maxRecDepth 1000000 in
theorem walk (w : World) (n : Nat) (hn : n < 18446744073709551616) (s : Int) (hs1 : -9223372036854775808 ≤ s) (hs2 : s ≤ 9223372036854775807) :
    Calls Try.prog 6 #[.int .u64 n, .int .i64 s] w fun e w' => e = .returned (.bool true) ∧ Below w.heap.size w w' := by
  by_cases h4 : s = 4
  · subst h4
    have hf : fixR n 4 = fixb n 4 := fixR_yes rfl
    have hl := fixb_length 4 n
    have h1 : unfixR (fixb n 4) 0 4 4 = (n % 4294967296, 4, 0) := by
      have h := unfix_whole (fixb n 4) 4 hl (by omega)
      rw [hl, fixn_fixb 4 n] at h
      exact h
    have h2 : unfixR (fixb n 4) 1 4 4 = (0, 0, 6) := by
      have h := unfix_short (fixb n 4) 4 hl (by omega)
      rw [hl] at h
      exact h
    go_enter Try.func6, Try.ntmps6
    have H1 := Lib.hid h1
    have H2 := Lib.hid h2
    clear h1 h2 hs1 hs2
    go_wp2_with fail
    refine (awake_any _).mono ?_
    rintro e w1 ⟨rfl, hb1⟩
    go_wp2_with fail
    refine (fix_any n 4 hn _).mono ?_
    rw [hf]
    rintro e w2 ⟨A, c, rfl, hr, hb2⟩
    go_wp2_with fail
    refine (unfix_any A c (fixb n 4) 0 4 4 (by omega) _ hr).mono ?_
    rw [H1.out]
    rintro e w3 ⟨rfl, rfl⟩
    unfold V3
    go_wp2_with fail
    refine (unfix_any A c (fixb n 4) 1 4 4 (by omega) _ hr).mono ?_
    rw [H2.out]
    rintro e w3 ⟨rfl, rfl⟩
    unfold V3
    go_wp2
    go_ret
    exact ⟨by simp, below_then hb1 hb2⟩
  by_cases h8 : s = 8
  · subst h8
    have hf : fixR n 8 = fixb n 8 := fixR_yes rfl
    have hl := fixb_length 8 n
    have h1 : unfixR (fixb n 8) 0 8 8 = (n % 18446744073709551616, 8, 0) := by
      have h := unfix_whole (fixb n 8) 8 hl (by omega)
      rw [hl, fixn_fixb 8 n] at h
      exact h
    have h2 : unfixR (fixb n 8) 1 8 8 = (0, 0, 6) := by
      have h := unfix_short (fixb n 8) 8 hl (by omega)
      rw [hl] at h
      exact h
    go_enter Try.func6, Try.ntmps6
    have H1 := Lib.hid h1
    have H2 := Lib.hid h2
    clear h1 h2 hs1 hs2
    go_wp2_with fail
    refine (awake_any _).mono ?_
    rintro e w1 ⟨rfl, hb1⟩
    go_wp2_with fail
    refine (fix_any n 8 hn _).mono ?_
    rw [hf]
    rintro e w2 ⟨A, c, rfl, hr, hb2⟩
    go_wp2_with fail
    refine (unfix_any A c (fixb n 8) 0 8 8 (by omega) _ hr).mono ?_
    rw [H1.out]
    rintro e w3 ⟨rfl, rfl⟩
    unfold V3
    go_wp2_with fail
    refine (unfix_any A c (fixb n 8) 1 8 8 (by omega) _ hr).mono ?_
    rw [H2.out]
    rintro e w3 ⟨rfl, rfl⟩
    unfold V3
    go_wp2
    go_ret
    exact ⟨by simp, below_then hb1 hb2⟩
  have hsz : sizeB s = false := by simp [sizeB, h4, h8]
  have hf : fixR n s = [] := fixR_no hsz
  have e4 : (s == 4) = false := by simp [h4]
  have e8 : (s == 8) = false := by simp [h8]
  have n4 : (s != 4) = true := by simp [h4]
  have n8 : (s != 8) = true := by simp [h8]
  clear h4 h8
  go_enter Try.func6, Try.ntmps6
  go_wp2_with fail
  refine (awake_any _).mono ?_
  rintro e w1 ⟨rfl, hb1⟩
  go_wp2_with fail
  refine (fix_any n s hn _).mono ?_
  rw [hf]
  rintro e w2 ⟨A, c, rfl, hr, hb2⟩
  go_wp2
  go_ret
  exact ⟨by simp, below_then hb1 hb2⟩

set_option maxRecDepth 100000 in
theorem lifted (os : Os) (started : os.Started) (H : Type) (enc : TypeId × Value → H) :
    ReturnsInHanded {} Try.checked os 6 .any (Rows.varintFixSpec.pre6 enc Try.prog Try.f6 Rows.varintFixRow.domain false) (Rows.varintFixSpec.post enc Try.prog Try.f6 false true false false) := by
  refine returnsInHanded_of_change (C := Try.checked) own started (by kernel_rfl) Try.func6
    (ChangeSpec.witness6 (enc := enc) (C := Try.checked) false ⟨#[], #[.int .u64 0, .int .i64 0], []⟩ 8 (by kernel_rfl) (by kernel_rfl) (by kernel_rfl) (by kernel_rfl)) ?_
  intro W base args ds gs before hval0 hW hcnd _
  have hval : ∀ (j : Nat) t v, Try.f6.params[j]? = some t → args[j]? = some v → Value.okWide Try.prog W .any base t v := hval0
  have hW2 := hW
  obtain ⟨p, q, hA0, hV, rfl, hfz, hnd⟩ := hW
  have hA : DataW.TrodAll enc Try.prog W 0 (fun _ => true) true Try.f6.params.toList args.toList ds p := hA0
  rw [Try.params6] at hA hval
  obtain ⟨v0, vs0, d0, ds0, p0, q0, hargs, rfl, rfl, h0, r0⟩ := trodAll_cons hA
  obtain ⟨v1, vs1, d1, ds1, p1, q1, rfl, rfl, rfl, h1, r1⟩ := trodAll_cons r0
  obtain ⟨rfl, rfl, rfl⟩ := trodAll_nil r1
  obtain rfl : args = #[v0, v1] := by cases args; simp_all
  obtain ⟨rfl, rfl⟩ := trodVars_none hV
  obtain ⟨n0, rfl, b0⟩ := open_nat (hval 0 22 v0 rfl rfl) h0
  obtain ⟨i1, rfl, b1, c1⟩ := open_i64 (hval 1 3 v1 rfl rfl) h1
  refine (walk W n0 b0 i1 b1 c1).mono fun e W2 ⟨he, hb⟩ => ?_
  subst he
  exact ⟨_, rfl, law_post (by kernel_rfl) rfl rfl (by decide +kernel) hW2 hb⟩
theorem proved : Rows.VarintFixSaid :=
  OpenClaim.holds_of_wide 6 Try.f6 rfl rfl rfl rfl rfl rfl rfl ⟨rfl, rfl, rfl, rfl, rfl⟩ rfl rfl rfl rfl rfl (by kernel_rfl) Try.func6 (by kernel_rfl)
    (of_decide_eq_true (by kernel_rfl)) (by unfold Func.isWrapper; first | (rw [if_pos (by decide +kernel)]; kernel_rfl) | (rw [if_neg (by decide +kernel)]; exact ⟨rfl, rfl⟩))
    (fun os started H enc _ => lifted os started H enc)
end Go.Proofs.Ythmnngojfllahaa.lawVarintFix
