/-
  Of any number that is written ahead of a field just those are told that a number and a known wire type have; others are told why not: the statement TagWrong, for every number.
-/
import Derived.Test.YtpejhogcplokfaaDoorTagLaid
namespace Go.Proofs.YtpejhogcplokfaaDoor.lawTagWrong
open Go.ChangeShapes Go.WideShapes Go.ChangeAt Go.RowKit

theorem get_all {n : Nat} (hn : n < 18446744073709551616) : getR (vput n) 0 (vput n).length = (n, (vput n).length, 0) := by
  have := get_back hn [] []
  simpa using this
theorem tget_all {n : Nat} (hn : n < 18446744073709551616) :
    (tgetR (vput n) 0 (vput n).length = (0, 0, 0, 9) ∧ (4294967296 ≤ n ∨ n < 8)) ∨ (tgetR (vput n) 0 (vput n).length = (0, 0, 0, 8) ∧ ¬ (4294967296 ≤ n ∨ n < 8)) ∨
      (tgetR (vput n) 0 (vput n).length = (n / 8, n % 8, (vput n).length, 0) ∧ 1 ≤ n / 8 ∧ n / 8 ≤ 536870911) := by
  unfold tgetR
  rw [get_all hn]
  simp only [if_true]
  unfold tellsN
  by_cases h : n / 8 = 0 ∨ 536870911 < n / 8
  · rw [if_pos h]
    exact Or.inl ⟨rfl, by omega⟩
  · rw [if_neg h]
    by_cases hk : knownB ((n % 8 : Nat) : Int) = true
    · rw [if_pos hk]
      exact Or.inr (Or.inr ⟨rfl, by omega, by omega⟩)
    · rw [if_neg hk]
      exact Or.inr (Or.inl ⟨rfl, by omega⟩)

set_option maxRecDepth 1000000 in
set_option maxHeartbeats 1000000 in
theorem walk (w : World) (T : Wires w) (n : Nat) (hn : n < 18446744073709551616) :
    Calls Tryd.prog 5 #[.int .u64 n] w fun e w' => e = .returned (.bool true) ∧ Below w.heap.size w w' := by
  have h10 := vput_len10 hn
  have h := tget_all hn
  generalize hL : vput n = L at *
  have HL := Lib.hid hL
  have HN := Lib.hid hn
  clear hL
  rcases h with ⟨hx, hc⟩ | ⟨hx, hc⟩ | ⟨hx, hc1, hc2⟩
  · by_cases h1 : 4294967296 ≤ n
    · have B1 : Hid (decide ((4294967296 : Int) ≤ (n : Int)) = true) := Lib.hid (by simp; omega)
      have B2 : Hid True := Lib.hid trivial
      clear h1 hc
      have HX := Lib.hid hx
      clear hx
      go_enter Tryd.func5, Tryd.ntmps5
      go_wp2_with fail
      refine (awake_any _ T).mono ?_
      rintro e w1 ⟨rfl, hb1⟩
      have T1 := T.on hb1
      go_wp2_with fail
      refine (put_reads n hn _).mono ?_
      rw [HL.out]
      rintro e w2 ⟨A, c, rfl, hr, hb2⟩
      have T2 := T1.on hb2
      have hb2 := below_then hb1 hb2
      go_wp2_with fail
      refine (tget_any A c L 0 _ (by omega) _ hr T2).mono ?_
      rw [HX.out]
      rintro e w3 ⟨rfl, hb3⟩
      unfold V4
      clear hr hb1 T T1 T2 hn h10
      have b1 := B1.out
      have b2 := B2.out
      go_wp2
      go_ret
      exact ⟨rfl, below_then hb2 hb3⟩
    · have B1 : Hid (decide ((4294967296 : Int) ≤ (n : Int)) = false) := Lib.hid (by simp; omega)
      have B2 : Hid (decide ((n : Int) < 8) = true) := Lib.hid (by simp; omega)
      clear h1 hc
      have HX := Lib.hid hx
      clear hx
      go_enter Tryd.func5, Tryd.ntmps5
      go_wp2_with fail
      refine (awake_any _ T).mono ?_
      rintro e w1 ⟨rfl, hb1⟩
      have T1 := T.on hb1
      go_wp2_with fail
      refine (put_reads n hn _).mono ?_
      rw [HL.out]
      rintro e w2 ⟨A, c, rfl, hr, hb2⟩
      have T2 := T1.on hb2
      have hb2 := below_then hb1 hb2
      go_wp2_with fail
      refine (tget_any A c L 0 _ (by omega) _ hr T2).mono ?_
      rw [HX.out]
      rintro e w3 ⟨rfl, hb3⟩
      unfold V4
      clear hr hb1 T T1 T2 hn h10
      have b1 := B1.out
      have b2 := B2.out
      go_wp2
      go_ret
      exact ⟨rfl, below_then hb2 hb3⟩
  · have B1 : Hid (decide ((4294967296 : Int) ≤ (n : Int)) = false) := Lib.hid (by simp; omega)
    have B2 : Hid (decide ((n : Int) < 8) = false) := Lib.hid (by simp; omega)
    clear hc
    have HX := Lib.hid hx
    clear hx
    go_enter Tryd.func5, Tryd.ntmps5
    go_wp2_with fail
    refine (awake_any _ T).mono ?_
    rintro e w1 ⟨rfl, hb1⟩
    have T1 := T.on hb1
    go_wp2_with fail
    refine (put_reads n hn _).mono ?_
    rw [HL.out]
    rintro e w2 ⟨A, c, rfl, hr, hb2⟩
    have T2 := T1.on hb2
    have hb2 := below_then hb1 hb2
    go_wp2_with fail
    refine (tget_any A c L 0 _ (by omega) _ hr T2).mono ?_
    rw [HX.out]
    rintro e w3 ⟨rfl, hb3⟩
    unfold V4
    clear hr hb1 T T1 T2 hn h10
    have b1 := B1.out
    have b2 := B2.out
    go_wp2
    go_ret
    exact ⟨rfl, below_then hb2 hb3⟩
  · obtain ⟨q, hq⟩ : ∃ q, q = n / 8 := ⟨_, rfl⟩
    obtain ⟨r, hrr⟩ : ∃ r, r = n % 8 := ⟨_, rfl⟩
    rw [← hq, ← hrr] at hx
    rw [← hq] at hc1 hc2
    have e1 : IntKind.i64.wrap (8 * (q : Int)) = 8 * (q : Int) := by simp [IntKind.wrap, IntKind.signed, IntKind.bits]; split <;> omega
    have e2 : IntKind.i64.wrap (8 * (q : Int) + (r : Int)) = 8 * (q : Int) + (r : Int) := by simp [IntKind.wrap, IntKind.signed, IntKind.bits]; split <;> omega
    have e3 : IntKind.u64.wrap (8 * (q : Int) + (r : Int)) = (n : Int) := by simp [IntKind.wrap, IntKind.signed, IntKind.bits]; omega
    have HX := Lib.hid hx
    clear hx hq hrr
    go_enter Tryd.func5, Tryd.ntmps5
    go_wp2_with fail
    refine (awake_any _ T).mono ?_
    rintro e w1 ⟨rfl, hb1⟩
    have T1 := T.on hb1
    go_wp2_with fail
    refine (put_reads n hn _).mono ?_
    rw [HL.out]
    rintro e w2 ⟨A, c, rfl, hr, hb2⟩
    have T2 := T1.on hb2
    have hb2 := below_then hb1 hb2
    go_wp2_with fail
    refine (tget_any A c L 0 _ (by omega) _ hr T2).mono ?_
    rw [HX.out]
    rintro e w3 ⟨rfl, hb3⟩
    unfold V4
    go_wp2
    all_goals (go_ret; refine ⟨ret_bool ?_, below_then hb2 hb3⟩; first | (simp_all; done) | (simp_all; omega))

theorem contract (H : Type) (enc : TypeId × Value → H) (W : World) (base : Nat) (args : Array Value) (ds gs : List (DataW H)) (before : List MemPlace)
    (hval0 : ∀ (j : Nat) t v, Tryd.f5.params[j]? = some t → args[j]? = some v → Value.okWide Tryd.prog W .any base t v)
    (hW : DataW.Whole enc Tryd.prog Tryd.f5.params.toList Rows.tagWrongSpec.vars false W args.toList ds gs before) (hL : laidMetH Tryd.prog Rows.tagWrongRow.laid W) :
    Calls Tryd.prog 5 args W fun e W2 => ∃ v, e = .returned v ∧ Rows.tagWrongSpec.post enc Tryd.prog Tryd.f5 false true false false W args v W2 := by
  have hval : ∀ (j : Nat) t v, Tryd.f5.params[j]? = some t → args[j]? = some v → Value.okWide Tryd.prog W .any base t v := hval0
  have T := wires_of hL
  have hW2 := hW
  obtain ⟨p, q, hA0, hV, rfl, hfz, hnd⟩ := hW
  have hA : DataW.TrodAll enc Tryd.prog W 0 (fun _ => true) true Tryd.f5.params.toList args.toList ds p := hA0
  rw [Tryd.params5] at hA hval
  obtain ⟨v0, vs0, d0, ds0, p0, q0, hargs, rfl, rfl, h0, r0⟩ := trodAll_cons hA
  obtain ⟨rfl, rfl, rfl⟩ := trodAll_nil r0
  obtain rfl : args = #[v0] := by cases args; simp_all
  obtain ⟨rfl, rfl⟩ := trodVars_none hV
  obtain ⟨n0, rfl, b0⟩ := open_nat (hval 0 33 v0 rfl rfl) h0
  refine (walk W T n0 b0).mono fun e W2 ⟨he, hb⟩ => ?_
  subst he
  exact ⟨_, rfl, law_post (by kernel_rfl) rfl rfl (by decide +kernel) hW2 hb⟩
theorem laid_met (os : Os) : laidMetH Tryd.prog Rows.tagWrongRow.laid ((World.laidAll Tryd.prog os Rows.tagWrongRow.laid).forCall (fun _ _ => 0) ⟨#[], #[.int .u64 0], []⟩).memory := by
  rw [MakeChecks.laidMetH_plain _ _ _ (by kernel_rfl)]
  exact laidMet_laidAll _ (by kernel_rfl) (by kernel_rfl)
theorem reads (os : Os) {H : Type} (enc : TypeId × Value → H) : ∃ places, DataW.whole enc Tryd.prog ((World.laidAll Tryd.prog os Rows.tagWrongRow.laid).forCall (fun _ _ => 0) ⟨#[], #[.int .u64 0], []⟩).memory Tryd.f5.params.toList Rows.tagWrongSpec.vars false (#[.int .u64 0] : Array Value).toList 8 = some ([.lit (.int .u64 0)], [], places) := ⟨[], by kernel_rfl⟩
set_option maxRecDepth 100000 in
theorem lifted (os : Os) (started : os.Started) (H : Type) (enc : TypeId × Value → H) (F : Stop.Interp) :
    ReturnsInHanded {} Tryd.checked os 5 .any ((OpenSpec.ofChange Rows.tagWrongSpec).preRow enc Tryd.prog Tryd.f5 Rows.tagWrongRow.domain false Rows.tagWrongRow.laid) (((OpenSpec.ofChange Rows.tagWrongSpec).at F).post enc Tryd.prog Tryd.f5 false true false false) := by
  obtain ⟨places, hx⟩ := reads os enc
  refine returnsInHanded_of_row (C := Tryd.checked) (s := OpenSpec.ofChange Rows.tagWrongSpec) own started (by kernel_rfl) Tryd.func5
    (witness_row_at (enc := enc) (C := Tryd.checked) false (World.laidAll Tryd.prog os Rows.tagWrongRow.laid) #[.int .u64 0] (World.laidAll_os _ _ _) (by kernel_rfl) (by kernel_rfl) (by kernel_rfl)
      (OpenSpec.preRow_of_cond 8 hx (by kernel_rfl) (fun k hk => by cases hk) (by kernel_rfl) (laid_met os))) ?_
  intro W base args ds gs before hval hW _ _ _ hL _ _
  exact contract H enc W base args ds gs before hval hW hL
theorem said : Rows.TagWrongSaid :=
  OpenClaim.holds_of_cond 5 Tryd.f5 rfl rfl rfl rfl rfl rfl rfl ⟨rfl, rfl, rfl, rfl, rfl⟩ rfl rfl rfl rfl rfl (by kernel_rfl) Tryd.func5 (by kernel_rfl)
    (of_decide_eq_true (by kernel_rfl)) (by unfold Func.isWrapper; first | (rw [if_pos (by decide +kernel)]; kernel_rfl) | (rw [if_neg (by decide +kernel)]; exact ⟨rfl, rfl⟩))
    (fun os started H enc _ F => by rw [OpenClaim.pre_eq_preRow]; exact lifted os started H enc F)
theorem plain (f : FuncId) (fn : Func) (hf : Tryd.pinned.checked.prog.funcNamed "truffle/trufflelaw03.TagWrong" = some f) (hfn : Tryd.pinned.checked.prog.funcs[f]? = some fn) :
    false = Tryd.pinned.checked.prog.looks [] ∧ ∀ (j : Nat) t, fn.params[j]? = some t → Tryd.pinned.checked.prog.wantsStandIn t = false := by
  obtain rfl : f = 5 := Option.some.inj ((show Tryd.prog.funcNamed "truffle/trufflelaw03.TagWrong" = some 5 by kernel_rfl).symm.trans hf) |>.symm
  obtain rfl : fn = Tryd.f5 := (Option.some.inj (Tryd.func5.symm.trans hfn)).symm
  refine ⟨by kernel_rfl, fun j t ht => ?_⟩
  have hall : (Tryd.f5.params.toList.all fun t => !Tryd.prog.wantsStandIn t) = true := by kernel_rfl
  have := List.all_eq_true.1 hall t (Array.mem_toList_iff.2 (Array.mem_of_getElem? ht))
  exact (show Tryd.prog.wantsStandIn t = false by simpa using this)
theorem proved : Rows.TagWrongCardSaid :=
  Claim7.holds_tied_plain_at .later [] _ _ _ _ said (fun _ h => by cases h) (by kernel_rfl) (fun _ h => by cases h) tagWrong_row_tie rfl ⟨rfl, rfl⟩ (by kernel_rfl) rfl plain (by kernel_rfl)
end Go.Proofs.YtpejhogcplokfaaDoor.lawTagWrong
