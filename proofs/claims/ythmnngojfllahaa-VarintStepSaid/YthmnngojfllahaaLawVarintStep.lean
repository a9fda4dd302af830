/-
  A number from 128 on has one byte of its lowest seven bits, and 128, and then those of what is left; a lesser one is its byte: the statement VarintStep, for every number.
-/
import Derived.Test.YthmnngojfllahaaVarAwake
import Derived.Deep.RegionHeld3
namespace Go.Proofs.Ythmnngojfllahaa.lawVarintStep
open Go.ChangeShapes Go.WideShapes Go.ChangeAt Go.RowKit

set_option maxRecDepth 1000000 in
theorem walk (w : World) (n : Nat) (hn : n < 18446744073709551616) :
    Calls Try.prog 8 #[.int .u64 n] w fun e w' => e = .returned (.bool true) ∧ Below w.heap.size w w' := by
  go_enter Try.func8, Try.ntmps8
  go_wp2_with fail
  refine (awake_any _).mono ?_
  rintro e w1 ⟨rfl, hb1⟩
  go_wp2_with fail
  refine (put_any n hn _).mono ?_
  rintro e w2 ⟨v2, rfl, hown2, hb2⟩
  have hb12 := below_then hb1 hb2
  obtain ⟨A2, c2, rfl, hr2⟩ := SlB.of_own hown2
  clear hown2
  by_cases hlt : n < 128
  · rw [vput_small hlt] at *
    obtain ⟨ad, u, rfl, _, hx, hc⟩ := hr2.at_ (k := 0) (by simp)
    simp only [List.getElem?_cons_zero, Option.some.injEq] at hx
    subst hx
    rw [ofNat_toNat (by omega)] at hc
    simp only [add_nothing] at hc
    go_wp2
    go_ret
    exact ⟨by simp, hb12⟩
  · have hln := vput_length n
    have hpos := vlong_pos (n / 128)
    rw [vlong_big hlt] at hln
    have h10 := vlong_le10 hn
    rw [vlong_big hlt] at h10
    have hh := vput_big hlt
    obtain ⟨ad, u, rfl, _, hx, hc⟩ := hr2.at_ (k := 0) (by omega)
    rw [hh] at hx
    simp only [List.getElem?_cons_zero, Option.some.injEq] at hx
    subst hx
    rw [ofNat_toNat (by omega)] at hc
    simp only [add_nothing] at hc
    have HL := Lib.hid hln
    have HH := Lib.hid hh
    have hlen1 : 2 ≤ (vput n).length := by omega
    clear hln hh
    have hcast : ((n % 128 + 128 : Nat) : Int) = (n : Int) % 128 + 128 := by omega
    rw [hcast] at hc
    clear hcast
    have HB := Lib.hid hb12
    clear hb12
    have hn128 : n / 128 < 18446744073709551616 := by omega
    have hN0 : 0 < (vput n).length := by omega
    have hN1 : 1 ≤ (vput n).length := by omega
    have hN2 : (vput n).length ≤ c2 := hr2.le
    have HS : Hid (Sl w2 (some ad) (vput n).length c2 1 (bs (vput n))) := Lib.hid hr2
    clear hr2
    have hI0 : (0 : Int) < ((vput n).length : Int) := by omega
    have hI1 : (1 : Int) ≤ ((vput n).length : Int) := by omega
    have hI2 : ((vput n).length : Int) ≤ (c2 : Int) := by omega
    go_wp2_with fail
    have hw1 : IntKind.u64.wrap ((n : Int) % 128 + 128) = (n : Int) % 128 + 128 := IntWalk.u64_in _ (by omega)
    have hw2 : (n : Int).tmod 128 = (n : Int) % 128 := Int.tmod_eq_emod_of_nonneg (by omega)
    have hw3 : IntKind.u64.wrap ((n : Int).tdiv 128) = (n : Int) / 128 := IntWalk.u64_quo _ _ (by omega)
    have hw4 : IntKind.u64.wrap ((n : Int) / 128) = (n : Int) / 128 := IntWalk.u64_in _ (by omega)
    have hbk : ad.block < w2.heap.size := by assumption
    have hc1 : ¬ c2 = 1 := by omega
    have hl2 : (vput (n / 128)).length ≤ 10 := by have := vlong_le10 hn128; rw [vput_length]; exact this
    have hl1 : (vput n).length - 1 = (vput (n / 128)).length := by rw [HH.out]; rfl
    have HL1 := Lib.hid hl1
    have HC : Hid (∀ w3, Below w2.drew.heap.size w2.drew w3 → SlB w3 (some ⟨ad.block, ad.off + 1, none⟩) (c2 - 1) (vput (n / 128))) := Lib.hid (by
      intro w3 hb3
      obtain ⟨ad', hh, hcut⟩ := HS.out.from_ (k := 1) (by omega)
      obtain rfl := Option.some.inj hh
      have h1 := hcut.on (w' := w3) (below_then (Below.refl _ _).drew hb3)
      rw [HH.out] at h1
      exact h1)
    clear hl1
    go_region_held3 (fun w' => w'.cell? ad = some (.int .u8 ((n : Int) % 128 + 128)))
      (first | go_keep | (rw [Below.cell hb3 hbk]; assumption) | (rw [Below.cell hb4 (by have := hb3.size; simp at this; omega), Below.cell hb3 hbk]; assumption))
      ((first
        | (go_at_call 18; refine (put_at _ (n / 128) (by omega) hn128 _).mono ?_; rintro e w3 ⟨v3, rfl, hown3, hb3⟩; obtain ⟨A3, c3, rfl, hr3⟩ := SlB.of_own hown3; have HR3 := Lib.hid hr3; clear hr3 hown3)
        | (go_at_call 17; refine (bytes_at _ _ _ _ _ _ (vput (n / 128)) (vput (n / 128)) HL1.out rfl _ (by omega) (by omega) (HC.out _ hb3) HR3.out).mono ?_; rintro e w4 ⟨rfl, hb4⟩)))
    go_wp2
    go_ret
    exact ⟨by simp, below_then (below_then HB.out.drew hb3) hb4⟩

set_option maxRecDepth 100000 in
theorem lifted (os : Os) (started : os.Started) (H : Type) (enc : TypeId × Value → H) :
    ReturnsInHanded {} Try.checked os 8 .any (Rows.varintStepSpec.pre6 enc Try.prog Try.f8 Rows.varintStepRow.domain false) (Rows.varintStepSpec.post enc Try.prog Try.f8 false true false false) := by
  refine returnsInHanded_of_change (C := Try.checked) own started (by kernel_rfl) Try.func8
    (ChangeSpec.witness6 (enc := enc) (C := Try.checked) false ⟨#[], #[.int .u64 0], []⟩ 8 (by kernel_rfl) (by kernel_rfl) (by kernel_rfl) (by kernel_rfl)) ?_
  intro W base args ds gs before hval0 hW hcnd _
  have hval : ∀ (j : Nat) t v, Try.f8.params[j]? = some t → args[j]? = some v → Value.okWide Try.prog W .any base t v := hval0
  have hW2 := hW
  obtain ⟨p, q, hA0, hV, rfl, hfz, hnd⟩ := hW
  have hA : DataW.TrodAll enc Try.prog W 0 (fun _ => true) true Try.f8.params.toList args.toList ds p := hA0
  rw [Try.params8] at hA hval
  obtain ⟨v0, vs0, d0, ds0, p0, q0, hargs, rfl, rfl, h0, r0⟩ := trodAll_cons hA
  obtain ⟨rfl, rfl, rfl⟩ := trodAll_nil r0
  obtain rfl : args = #[v0] := by cases args; simp_all
  obtain ⟨rfl, rfl⟩ := trodVars_none hV
  obtain ⟨n0, rfl, b0⟩ := open_nat (hval 0 22 v0 rfl rfl) h0
  refine (walk W n0 b0).mono fun e W2 ⟨he, hb⟩ => ?_
  subst he
  exact ⟨_, rfl, law_post (by kernel_rfl) rfl rfl (by decide +kernel) hW2 hb⟩
theorem proved : Rows.VarintStepSaid :=
  OpenClaim.holds_of_wide 8 Try.f8 rfl rfl rfl rfl rfl rfl rfl ⟨rfl, rfl, rfl, rfl, rfl⟩ rfl rfl rfl rfl rfl (by kernel_rfl) Try.func8 (by kernel_rfl)
    (of_decide_eq_true (by kernel_rfl)) (by unfold Func.isWrapper; first | (rw [if_pos (by decide +kernel)]; kernel_rfl) | (rw [if_neg (by decide +kernel)]; exact ⟨rfl, rfl⟩))
    (fun os started H enc _ => lifted os started H enc)
end Go.Proofs.Ythmnngojfllahaa.lawVarintStep
