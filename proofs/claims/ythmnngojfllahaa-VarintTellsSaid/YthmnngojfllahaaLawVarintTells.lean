/-
  Any number has the bytes, and any bytes, from one place to another one, are the number, or have the error, that the document says: the statement VarintTells, for every number, slice of bytes, places and size.
-/
import Derived.Test.YthmnngojfllahaaVarAll
namespace Go.Proofs.Ythmnngojfllahaa.lawVarintTells
open Go.ChangeShapes Go.WideShapes Go.ChangeAt Go.RowKit

set_option maxRecDepth 100000 in
set_option maxHeartbeats 1000000 in
theorem walk (w : World) (n : Nat) (hn : n < 18446744073709551616) (A : Option Addr) (c : Nat) (l : List UInt8) (hr : SlB w A c l)
    (a : Int) (ha1 : -9223372036854775808 ≤ a) (ha2 : a ≤ 9223372036854775807) (u : Int) (hu1 : -9223372036854775808 ≤ u) (hu2 : u ≤ 9223372036854775807) (s : Int) (hs1 : -9223372036854775808 ≤ s) (hs2 : s ≤ 9223372036854775807) :
    Calls Try.prog 3 #[.int .u64 n, .slice A l.length c, .int .i64 a, .int .i64 u, .int .i64 s] w fun e w' => e = .returned (.bool true) ∧ Below w.heap.size w w' := by
  have hml := hr.small.1
  by_cases hbig : l.length ≤ 3000
  · have h10 := vput_len10 hn
    have h8 := fixR_length n s
    go_enter Try.func3, Try.ntmps3
    go_wp2_with fail
    refine (awake_any _).mono ?_
    rintro e w1 ⟨rfl, hb1⟩
    have hr1 := hr.on hb1
    go_wp2_with fail
    refine (get_any A c l a u (by omega) _ hr1).mono ?_
    rintro e w2 ⟨rfl, rfl⟩
    unfold V3
    go_wp2_with fail
    refine (rget_any A c l a u (by omega) _ hr1).mono ?_
    rintro e w2 ⟨rfl, rfl⟩
    unfold V3
    go_wp2_with fail
    refine (fix_any n s hn _).mono ?_
    rintro e w2 ⟨A2, c2, rfl, hr2, hb2⟩
    go_wp2_with fail
    refine (rfix_any n s hn _).mono ?_
    rintro e w3 ⟨A3, c3, rfl, hr3, hb3⟩
    have hr2 := hr2.on hb3
    have hr13 := (hr1.on hb2).on hb3
    go_wp2_with fail
    refine (unfix_any A c l a u s (by omega) _ hr13).mono ?_
    rintro e w4 ⟨rfl, rfl⟩
    unfold V3
    go_wp2_with fail
    refine (runfix_any A c l a u s (by omega) _ hr13).mono ?_
    rintro e w4 ⟨rfl, rfl⟩
    unfold V3
    go_wp2_with fail
    refine (bytes_any _ _ _ _ (fixR n s) (fixR n s) _ (by omega) (by omega) hr2 hr3).mono ?_
    rintro e w4 ⟨rfl, hb4⟩
    go_wp2_with fail
    refine (put_reads n hn _).mono ?_
    rintro e w5 ⟨A5, c5, rfl, hr5, hb5⟩
    go_wp2_with fail
    refine (rput_reads n hn _).mono ?_
    rintro e w6 ⟨A6, c6, rfl, hr6, hb6⟩
    go_wp2_with fail
    refine (bytes_any _ _ _ _ (vput n) (vput n) _ (by omega) (by omega) (hr5.on hb6) hr6).mono ?_
    rintro e w7 ⟨rfl, hb7⟩
    go_wp2_with fail
    refine (long_any n hn _).mono ?_
    rintro e w8 ⟨rfl, rfl⟩
    go_wp2_with fail
    refine (rlong_any n hn _).mono ?_
    rintro e w8 ⟨rfl, hb8⟩
    go_wp2
    go_ret
    exact ⟨by simp, below_then (below_then (below_then (below_then (below_then (below_then (below_then hb1 hb2) hb3) hb4) hb5) hb6) hb7) hb8⟩
  · go_enter Try.func3, Try.ntmps3
    go_wp2_with fail
    refine (awake_any _).mono ?_
    rintro e w1 ⟨rfl, hb1⟩
    go_wp2
    go_ret
    exact ⟨rfl, hb1⟩

set_option maxRecDepth 100000 in
theorem lifted (os : Os) (started : os.Started) (H : Type) (enc : TypeId × Value → H) :
    ReturnsInHanded {} Try.checked os 3 .any (Rows.varintTellsSpec.pre6 enc Try.prog Try.f3 Rows.varintTellsRow.domain false) (Rows.varintTellsSpec.post enc Try.prog Try.f3 false true false false) := by
  refine returnsInHanded_of_change (C := Try.checked) own started (by kernel_rfl) Try.func3
    (ChangeSpec.witness6 (enc := enc) (C := Try.checked) false ⟨#[], #[.int .u64 0, .slice none 0 0, .int .i64 0, .int .i64 0, .int .i64 0], []⟩ 8 (by kernel_rfl) (by kernel_rfl) (by kernel_rfl) (by kernel_rfl)) ?_
  intro W base args ds gs before hval0 hW hcnd _
  have hval : ∀ (j : Nat) t v, Try.f3.params[j]? = some t → args[j]? = some v → Value.okWide Try.prog W .any base t v := hval0
  have hW2 := hW
  obtain ⟨p, q, hA0, hV, rfl, hfz, hnd⟩ := hW
  have hA : DataW.TrodAll enc Try.prog W 0 (fun _ => true) true Try.f3.params.toList args.toList ds p := hA0
  rw [Try.params3] at hA hval
  obtain ⟨v0, vs0, d0, ds0, p0, q0, hargs, rfl, rfl, h0, r0⟩ := trodAll_cons hA
  obtain ⟨v1, vs1, d1, ds1, p1, q1, rfl, rfl, rfl, h1, r1⟩ := trodAll_cons r0
  obtain ⟨v2, vs2, d2, ds2, p2, q2, rfl, rfl, rfl, h2, r2⟩ := trodAll_cons r1
  obtain ⟨v3, vs3, d3, ds3, p3, q3, rfl, rfl, rfl, h3, r3⟩ := trodAll_cons r2
  obtain ⟨v4, vs4, d4, ds4, p4, q4, rfl, rfl, rfl, h4, r4⟩ := trodAll_cons r3
  obtain ⟨rfl, rfl, rfl⟩ := trodAll_nil r4
  obtain rfl : args = #[v0, v1, v2, v3, v4] := by cases args; simp_all
  obtain ⟨rfl, rfl⟩ := trodVars_none hV
  obtain ⟨n0, rfl, b0⟩ := open_nat (hval 0 22 v0 rfl rfl) h0
  obtain ⟨A1, c1, l1, rfl, rd1⟩ := open_bytes (hval 1 23 v1 rfl rfl) h1
  obtain ⟨i2, rfl, b2, c2⟩ := open_i64 (hval 2 3 v2 rfl rfl) h2
  obtain ⟨i3, rfl, b3, c3⟩ := open_i64 (hval 3 3 v3 rfl rfl) h3
  obtain ⟨i4, rfl, b4, c4⟩ := open_i64 (hval 4 3 v4 rfl rfl) h4
  refine (walk W n0 b0 A1 c1 l1 rd1 i2 b2 c2 i3 b3 c3 i4 b4 c4).mono fun e W2 ⟨he, hb⟩ => ?_
  subst he
  exact ⟨_, rfl, law_post (by kernel_rfl) rfl rfl (by decide +kernel) hW2 hb⟩
theorem proved : Rows.VarintTellsSaid :=
  OpenClaim.holds_of_wide 3 Try.f3 rfl rfl rfl rfl rfl rfl rfl ⟨rfl, rfl, rfl, rfl, rfl⟩ rfl rfl rfl rfl rfl (by kernel_rfl) Try.func3 (by kernel_rfl)
    (of_decide_eq_true (by kernel_rfl)) (by unfold Func.isWrapper; first | (rw [if_pos (by decide +kernel)]; kernel_rfl) | (rw [if_neg (by decide +kernel)]; exact ⟨rfl, rfl⟩))
    (fun os started H enc _ => lifted os started H enc)
end Go.Proofs.Ythmnngojfllahaa.lawVarintTells
