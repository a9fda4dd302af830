/-
  A number's bytes are read just as far as the first one below 128; ten that are not are none; fewer are cut off: the statement VarintEnds, for every slice of bytes.
-/
import Derived.Test.YthmnngojfllahaaVarAll
namespace Go.Proofs.Ythmnngojfllahaa.lawVarintEnds
open Go.ChangeShapes Go.WideShapes Go.ChangeAt Go.RowKit

def EndsRel (l : List UInt8) (i : Value) : Prop := ∃ k : Nat, i = .int .i64 k ∧ k ≤ l.length ∧ (∀ j, j < k → ∃ c, l[j]? = some c ∧ 128 ≤ c.toNat)

theorem get_whole (l : List UInt8) : getR l 0 l.length = ((vget l).1, (if (vget l).2.2 = 0 then (vget l).2.1 else 0), (vget l).2.2) := by
  have hm : mayB 0 (l.length : Int) l.length = true := by rw [mayB_true]; omega
  unfold getR getS
  rw [if_pos hm]
  simp
theorem get_ok {l : List UInt8} {k : Nat} {b : UInt8} (hk : k < 10) (h : ∀ j, j < k → ∃ c, l[j]? = some c ∧ 128 ≤ c.toNat) (hb : l[k]? = some b) (hlt : b.toNat < 128) :
    ∃ n, getR l 0 l.length = (n, k + 1, 0) := ⟨_, by rw [get_whole, vget_ok hk h hb hlt]; rfl⟩
theorem get_bad {l : List UInt8} (hl : 10 ≤ l.length) (h : ∀ j, j < 10 → ∃ c, l[j]? = some c ∧ 128 ≤ c.toNat) : getR l 0 l.length = (0, 0, 7) := by
  rw [get_whole, vget_long hl h]; rfl
theorem get_cut {l : List UInt8} (hl : l.length < 10) (h : ∀ j, j < l.length → ∃ c, l[j]? = some c ∧ 128 ≤ c.toNat) : getR l 0 l.length = (0, 0, 6) := by
  rw [get_whole, vget_cut hl h]; rfl

set_option maxRecDepth 100000 in
theorem walk (w : World) (A : Option Addr) (c : Nat) (l : List UInt8) (hr : SlB w A c l) :
    Calls Try.prog 7 #[.slice A l.length c] w fun e w' => e = .returned (.bool true) ∧ Below w.heap.size w w' := by
  have hml := hr.small.1
  by_cases hbig : l.length ≤ 20
  · go_enter Try.func7, Try.ntmps7
    go_wp2_with fail
    refine (awake_any _).mono ?_
    rintro e w1 ⟨rfl, hb1⟩
    have hr1 := hr.on hb1
    clear hr
    go_wp2_with fail
    go_loop [4] (fun k => EndsRel l k) (fun k => l.length - (intOf k).toNat)
    case atStart => exact ⟨0, rfl, by omega, by omega⟩
    case round =>
      obtain ⟨k, rfl, hk, hall⟩ := hrel
      have HA := Lib.hid hall
      clear hall
      by_cases hlt : k < l.length
      · obtain ⟨ad, b, rfl, _, hb, hcell⟩ := hr1.at_ hlt
        have HB := Lib.hid hb
        clear hb
        by_cases hb128 : 128 ≤ b.toNat
        · clear hr1
          go_wp2
          refine ⟨⟨k + 1, by go_num, by omega, ?_⟩, by simp [intOf]; omega⟩
          intro j hj
          by_cases hjk : j = k
          · subst hjk
            exact ⟨b, HB.out, hb128⟩
          · exact HA.out j (by omega)
        · by_cases hk10 : k < 10
          · obtain ⟨n, hg⟩ := get_ok hk10 HA.out HB.out (by omega)
            have HG := Lib.hid hg
            clear hg
            go_wp2_with fail
            refine (get_any (some ad) c l 0 l.length (by omega) _ hr1).mono ?_
            rw [HG.out]
            rintro e w2 ⟨rfl, rfl⟩
            unfold V3
            clear hr1
            go_wp2
            go_ret
            exact ⟨by simp; try omega, hb1⟩
          · have HG := Lib.hid (get_bad (l := l) (by omega) (fun j hj => HA.out j (by omega)))
            go_wp2_with fail
            refine (get_any (some ad) c l 0 l.length (by omega) _ hr1).mono ?_
            rw [HG.out]
            rintro e w2 ⟨rfl, rfl⟩
            unfold V3
            clear hr1
            go_wp2
            go_ret
            exact ⟨by simp; try omega, hb1⟩
      · obtain rfl : k = l.length := by omega
        by_cases hk10 : l.length < 10
        · have HG := Lib.hid (get_cut (l := l) hk10 HA.out)
          go_wp2_with fail
          refine (get_any A c l 0 l.length (by omega) _ hr1).mono ?_
          rw [HG.out]
          rintro e w2 ⟨rfl, rfl⟩
          unfold V3
          clear hr1
          go_wp2
          go_ret
          exact ⟨by simp; try omega, hb1⟩
        · have HG := Lib.hid (get_bad (l := l) (by omega) (fun j hj => HA.out j (by omega)))
          go_wp2_with fail
          refine (get_any A c l 0 l.length (by omega) _ hr1).mono ?_
          rw [HG.out]
          rintro e w2 ⟨rfl, rfl⟩
          unfold V3
          clear hr1
          go_wp2
          go_ret
          exact ⟨by simp; try omega, hb1⟩
  · go_enter Try.func7, Try.ntmps7
    go_wp2_with fail
    refine (awake_any _).mono ?_
    rintro e w1 ⟨rfl, hb1⟩
    go_wp2
    go_ret
    exact ⟨rfl, hb1⟩

set_option maxRecDepth 100000 in
theorem lifted (os : Os) (started : os.Started) (H : Type) (enc : TypeId × Value → H) :
    ReturnsInHanded {} Try.checked os 7 .any (Rows.varintEndsSpec.pre6 enc Try.prog Try.f7 Rows.varintEndsRow.domain false) (Rows.varintEndsSpec.post enc Try.prog Try.f7 false true false false) := by
  refine returnsInHanded_of_change (C := Try.checked) own started (by kernel_rfl) Try.func7
    (ChangeSpec.witness6 (enc := enc) (C := Try.checked) false ⟨#[], #[.slice none 0 0], []⟩ 8 (by kernel_rfl) (by kernel_rfl) (by kernel_rfl) (by kernel_rfl)) ?_
  intro W base args ds gs before hval0 hW hcnd _
  have hval : ∀ (j : Nat) t v, Try.f7.params[j]? = some t → args[j]? = some v → Value.okWide Try.prog W .any base t v := hval0
  have hW2 := hW
  obtain ⟨p, q, hA0, hV, rfl, hfz, hnd⟩ := hW
  have hA : DataW.TrodAll enc Try.prog W 0 (fun _ => true) true Try.f7.params.toList args.toList ds p := hA0
  rw [Try.params7] at hA hval
  obtain ⟨v0, vs0, d0, ds0, p0, q0, hargs, rfl, rfl, h0, r0⟩ := trodAll_cons hA
  obtain ⟨rfl, rfl, rfl⟩ := trodAll_nil r0
  obtain rfl : args = #[v0] := by cases args; simp_all
  obtain ⟨rfl, rfl⟩ := trodVars_none hV
  obtain ⟨A0, c0, l0, rfl, rd0⟩ := open_bytes (hval 0 23 v0 rfl rfl) h0
  refine (walk W A0 c0 l0 rd0).mono fun e W2 ⟨he, hb⟩ => ?_
  subst he
  exact ⟨_, rfl, law_post (by kernel_rfl) rfl rfl (by decide +kernel) hW2 hb⟩
theorem proved : Rows.VarintEndsSaid :=
  OpenClaim.holds_of_wide 7 Try.f7 rfl rfl rfl rfl rfl rfl rfl ⟨rfl, rfl, rfl, rfl, rfl⟩ rfl rfl rfl rfl rfl (by kernel_rfl) Try.func7 (by kernel_rfl)
    (of_decide_eq_true (by kernel_rfl)) (by unfold Func.isWrapper; first | (rw [if_pos (by decide +kernel)]; kernel_rfl) | (rw [if_neg (by decide +kernel)]; exact ⟨rfl, rfl⟩))
    (fun os started H enc _ => lifted os started H enc)
end Go.Proofs.Ythmnngojfllahaa.lawVarintEnds
