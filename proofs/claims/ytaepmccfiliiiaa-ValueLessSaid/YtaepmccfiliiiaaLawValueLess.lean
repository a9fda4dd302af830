/-
  Of two values that differ in number, or text, one is less; what is less than what is less is less: the statement ValueLess, for every three values.
-/
import Derived.Test.YtaepmccfiliiiaaTrLess
import Derived.Deep.DeepHandedRow
import Derived.MakeChecks
import Derived.Lay
namespace Go.Proofs.Ytaepmccfiliiiaa.lawValueLess
set_option maxRecDepth 100000

open Go.ChangeShapes Go.WideShapes Go.ChangeAt Go.RowKit

theorem walk (w : World) (a : Vl') (u1 : Value) (k1 : Nat) (h1 : VAt (Rd w.heap.size w) k1 a [.int .i64 a.n, .string (tx a.s), u1]) (b : Vl') (u2 : Value) (k2 : Nat) (h2 : VAt (Rd w.heap.size w) k2 b [.int .i64 b.n, .string (tx b.s), u2]) (c : Vl') (u3 : Value) (k3 : Nat) (h3 : VAt (Rd w.heap.size w) k3 c [.int .i64 c.n, .string (tx c.s), u3]) :
    Calls Try.prog 7 #[.agg #[.int .i64 a.n, .string (tx a.s), u1], .agg #[.int .i64 b.n, .string (tx b.s), u2], .agg #[.int .i64 c.n, .string (tx c.s), u3]] w fun e w' => e = .returned (.bool true) ∧ Below w.heap.size w w' := by
  clear h1 h2 h3
  obtain ⟨X1, X2, X3, LBD⟩ := three_boxes w (.cells #[.int .i64 a.n, .string (tx a.s), u1] 30) (.cells #[.int .i64 b.n, .string (tx b.s), u2] 30) (.cells #[.int .i64 c.n, .string (tx c.s), u3] 30)
  have HAB := Lib.hid (fun wx => less_any a b u1 u2 wx)
  have HBA := Lib.hid (fun wx => less_any b a u2 u1 wx)
  have HBC := Lib.hid (fun wx => less_any b c u2 u3 wx)
  have HAC := Lib.hid (fun wx => less_any a c u1 u3 wx)
  have FA := Lib.hid (lessV_asym (a := a) (b := b))
  have FS := Lib.hid (lessV_same (a := a) (b := b))
  have FS2 := Lib.hid (lessV_same (a := b) (b := a))
  have FT := Lib.hid (lessV_total (a := a) (b := b))
  have FR := Lib.hid (lessV_trans (a := a) (b := b) (c := c))
  obtain ⟨rab, hab⟩ : ∃ r, lessV a b = r := ⟨_, rfl⟩
  obtain ⟨rba, hba⟩ : ∃ r, lessV b a = r := ⟨_, rfl⟩
  obtain ⟨rbc, hbc⟩ : ∃ r, lessV b c = r := ⟨_, rfl⟩
  obtain ⟨rac, hac⟩ : ∃ r, lessV a c = r := ⟨_, rfl⟩
  rw [hab] at HAB FA FS FT FR
  rw [hba] at HBA FA FS2 FT
  rw [hbc] at HBC FR
  rw [hac] at HAC FR
  clear hab hba hbc hac
  go_enter Try.func7, Try.ntmps7
  go_wp2_with fail
  refine (awake9_any _).mono ?_
  rintro e w1 ⟨rfl, hb1⟩
  have Y1 := box_on X1 hb1
  have Y2 := box_on X2 hb1
  have Y3 := box_on X3 hb1
  have hb01 := below_then LBD hb1
  obtain ⟨p0, p1, p2⟩ := bx3 Y1
  obtain ⟨q0, q1, q2⟩ := bx3 Y2
  clear X1 X2 X3 LBD hb1
  go_wp2_with fail
  refine (HAB.out _).mono ?_
  rintro e w2 ⟨rfl, hb2⟩
  have Z1 := box_on Y1 hb2
  have Z2 := box_on Y2 hb2
  have Z3 := box_on Y3 hb2
  have hb02 := below_then hb01 hb2
  clear p0 p1 p2 q0 q1 q2 Y1 Y2 Y3 hb2 hb01
  obtain ⟨p0, p1, p2⟩ := bx3 Z1
  obtain ⟨q0, q1, q2⟩ := bx3 Z2
  go_wp2_with fail
  refine (HBA.out _).mono ?_
  rintro e w3 ⟨rfl, hb3⟩
  have Y1 := box_on Z1 hb3
  have Y2 := box_on Z2 hb3
  have Y3 := box_on Z3 hb3
  have hb03 := below_then hb02 hb3
  clear p0 p1 p2 q0 q1 q2 Z1 Z2 Z3 hb3 hb02
  obtain ⟨p0, p1, p2⟩ := bx3 Y1
  obtain ⟨q0, q1, q2⟩ := bx3 Y2
  obtain ⟨r0, r1, r2⟩ := bx3 Y3
  obtain ⟨n1, hn1⟩ : ∃ n, a.n = n := ⟨_, rfl⟩
  obtain ⟨n2, hn2⟩ : ∃ n, b.n = n := ⟨_, rfl⟩
  obtain ⟨s1, hs1⟩ : ∃ n, a.s = n := ⟨_, rfl⟩
  obtain ⟨s2, hs2⟩ : ∃ n, b.s = n := ⟨_, rfl⟩
  rw [hn1, hn2, hs1, hs2] at FS FT
  rw [hn1, hn2, hs1, hs2] at FS2
  rw [hn1] at p0 HAC Y1
  rw [hs1] at p1 HAC Y1
  rw [hn2] at q0 HBC Y2
  rw [hs2] at q1 HBC Y2
  rw [hn1, hn2, hs1, hs2]
  clear hn1 hn2 hs1 hs2 HAB HBA
  cases rab with
  | true =>
    obtain rfl := FA.out rfl
    by_cases hn : n1 = n2
    · subst hn
      have hs : ((tx s1).toList == (tx s2).toList) = false := by
        rw [beq_eq_false_iff_ne, ByteArray.toList_eq, ByteArray.toList_eq, tx_list, tx_list]
        exact fun e => by have := FS.out rfl e; cases this
      clear FS FS2 FT FA
      cases rbc with
      | true =>
        obtain rfl := FR.out rfl rfl
        go_wp2_with (go_at_call 24; first | ((with_reducible refine (HBC.out _).mono ?_); rintro e w4 ⟨rfl, hb4⟩; obtain ⟨p3, p4, p5⟩ := bx3 (box_on Y1 hb4); obtain ⟨r3, r4, r5⟩ := bx3 (box_on Y3 hb4)) | ((with_reducible refine (HAC.out _).mono ?_); rintro e w5 ⟨rfl, hb5⟩))
        go_ret
        exact ⟨rfl, below_then (below_then hb03 hb4) hb5⟩
      | false =>
        go_wp2_with (go_at_call 24; first | ((with_reducible refine (HBC.out _).mono ?_); rintro e w4 ⟨rfl, hb4⟩; obtain ⟨p3, p4, p5⟩ := bx3 (box_on Y1 hb4); obtain ⟨r3, r4, r5⟩ := bx3 (box_on Y3 hb4)) | ((with_reducible refine (HAC.out _).mono ?_); rintro e w5 ⟨rfl, hb5⟩))
        go_ret
        exact ⟨rfl, below_then hb03 hb4⟩
    · have hne : (n1 == n2) = false := by simp [hn]
      clear FS FS2 FT FA
      cases rbc with
      | true =>
        obtain rfl := FR.out rfl rfl
        go_wp2_with (go_at_call 24; first | ((with_reducible refine (HBC.out _).mono ?_); rintro e w4 ⟨rfl, hb4⟩; obtain ⟨p3, p4, p5⟩ := bx3 (box_on Y1 hb4); obtain ⟨r3, r4, r5⟩ := bx3 (box_on Y3 hb4)) | ((with_reducible refine (HAC.out _).mono ?_); rintro e w5 ⟨rfl, hb5⟩))
        go_ret
        exact ⟨rfl, below_then (below_then hb03 hb4) hb5⟩
      | false =>
        go_wp2_with (go_at_call 24; first | ((with_reducible refine (HBC.out _).mono ?_); rintro e w4 ⟨rfl, hb4⟩; obtain ⟨p3, p4, p5⟩ := bx3 (box_on Y1 hb4); obtain ⟨r3, r4, r5⟩ := bx3 (box_on Y3 hb4)) | ((with_reducible refine (HAC.out _).mono ?_); rintro e w5 ⟨rfl, hb5⟩))
        go_ret
        exact ⟨rfl, below_then hb03 hb4⟩
  | false =>
    cases rba with
    | true =>
      by_cases hn : n1 = n2
      · subst hn
        have hs : ((tx s1).toList == (tx s2).toList) = false := by
          rw [beq_eq_false_iff_ne, ByteArray.toList_eq, ByteArray.toList_eq, tx_list, tx_list]
          exact fun e => by have := FS2.out rfl e.symm; cases this
        go_wp2
        go_ret
        exact ⟨rfl, hb03⟩
      · have hne : (n1 == n2) = false := by simp [hn]
        go_wp2
        go_ret
        exact ⟨rfl, hb03⟩
    | false =>
      obtain ⟨rfl, rfl⟩ := FT.out rfl rfl
      go_wp2
      go_ret
      exact ⟨rfl, hb03⟩
theorem contract (H : Type) (enc : TypeId × Value → H) (W : World) (base : Nat) (args : Array Value) (ds gs : List (DataW H)) (before : List MemPlace)
    (hval0 : ∀ (j : Nat) t v, Try.f7.params[j]? = some t → args[j]? = some v → Value.okWide Try.prog W .any base t v)
    (hW : DataW.Whole enc Try.prog Try.f7.params.toList Rows.valueLessSpec.vars false W args.toList ds gs before) (hsz : (DataW.weightsEach Try.prog (Try.f7.params.toList ++ (OpenSpec.ofChange Rows.valueLessSpec).bare.plain.varTypes Try.prog) (ds ++ gs)).all (· ≤ reachBytes) = true) (hL : laidMetH Try.prog Rows.valueLessRow.laid W) :
    Calls Try.prog 7 args W fun e W2 => ∃ v, e = .returned v ∧ Rows.valueLessSpec.post enc Try.prog Try.f7 false true false false W args v W2 := by
  have hval : ∀ (j : Nat) t v, Try.f7.params[j]? = some t → args[j]? = some v → Value.okWide Try.prog W .any base t v := hval0
  have hW2 := hW
  obtain ⟨p, q, hA0, hV, rfl, hfz, hnd⟩ := hW
  have hA : DataW.TrodAll enc Try.prog W 0 (fun _ => true) true Try.f7.params.toList args.toList ds p := hA0
  rw [Try.params7] at hA hval
  obtain ⟨v0, vs0, d0, ds0, p0, q0, hargs, rfl, rfl, h0, r0⟩ := trodAll_cons hA
  obtain ⟨v1, vs1, d1, ds1, p1, q1, rfl, rfl, rfl, h1, r1⟩ := trodAll_cons r0
  obtain ⟨v2, vs2, d2, ds2, p2, q2, rfl, rfl, rfl, h2, r2⟩ := trodAll_cons r1
  obtain ⟨rfl, rfl, rfl⟩ := trodAll_nil r2
  obtain rfl : args = #[v0, v1, v2] := by cases args; simp_all
  obtain ⟨rfl, rfl⟩ := trodVars_none hV
  obtain ⟨va0, u0, k0, rfl, hm0⟩ := open_va (hval 0 30 v0 rfl rfl) h0 (szd_each (fun k hk => of_decide_eq_true (List.all_eq_true.1 hsz k hk)) 0 _ _ rfl rfl)
  obtain ⟨va1, u1, k1, rfl, hm1⟩ := open_va (hval 1 30 v1 rfl rfl) h1 (szd_each (fun k hk => of_decide_eq_true (List.all_eq_true.1 hsz k hk)) 1 _ _ rfl rfl)
  obtain ⟨va2, u2, k2, rfl, hm2⟩ := open_va (hval 2 30 v2 rfl rfl) h2 (szd_each (fun k hk => of_decide_eq_true (List.all_eq_true.1 hsz k hk)) 2 _ _ rfl rfl)
  refine (walk W va0 u0 k0 hm0 va1 u1 k1 hm1 va2 u2 k2 hm2).mono fun e W2 ⟨he, hb⟩ => ?_
  subst he
  exact ⟨_, rfl, law_post (by kernel_rfl) rfl rfl (by decide +kernel) hW2 hb⟩
theorem laid_met (os : Os) : laidMetH Try.prog Rows.valueLessRow.laid ((World.laidAll Try.prog os Rows.valueLessRow.laid).forCall (fun _ _ => 0) ⟨#[], #[.agg #[.int .i64 0, .string .empty, .slice none 0 0], .agg #[.int .i64 0, .string .empty, .slice none 0 0], .agg #[.int .i64 0, .string .empty, .slice none 0 0]], []⟩).memory := by
  rw [MakeChecks.laidMetH_plain _ _ _ (by kernel_rfl)]
  exact laidMet_laidAll _ (by kernel_rfl) (by kernel_rfl)
theorem reads (os : Os) {H : Type} (enc : TypeId × Value → H) : ∃ places, DataW.whole enc Try.prog ((World.laidAll Try.prog os Rows.valueLessRow.laid).forCall (fun _ _ => 0) ⟨#[], #[.agg #[.int .i64 0, .string .empty, .slice none 0 0], .agg #[.int .i64 0, .string .empty, .slice none 0 0], .agg #[.int .i64 0, .string .empty, .slice none 0 0]], []⟩).memory Try.f7.params.toList Rows.valueLessSpec.vars false (#[.agg #[.int .i64 0, .string .empty, .slice none 0 0], .agg #[.int .i64 0, .string .empty, .slice none 0 0], .agg #[.int .i64 0, .string .empty, .slice none 0 0]] : Array Value).toList 8 = some ([.agg [.lit (.int .i64 0), .lit (.string []), .nil], .agg [.lit (.int .i64 0), .lit (.string []), .nil], .agg [.lit (.int .i64 0), .lit (.string []), .nil]], [], places) := ⟨[], by kernel_rfl⟩
set_option maxRecDepth 100000 in
theorem lifted (os : Os) (started : os.Started) (H : Type) (enc : TypeId × Value → H) (F : Stop.Interp) :
    ReturnsInHanded {} Try.checked os 7 .any ((OpenSpec.ofChange Rows.valueLessSpec).preRow enc Try.prog Try.f7 Rows.valueLessRow.domain false Rows.valueLessRow.laid) (((OpenSpec.ofChange Rows.valueLessSpec).at F).post enc Try.prog Try.f7 false true false false) := by
  obtain ⟨places, hx⟩ := reads os enc
  refine returnsInHanded_of_row (C := Try.checked) (s := OpenSpec.ofChange Rows.valueLessSpec) own started (by kernel_rfl) Try.func7
    (witness_row_at (enc := enc) (C := Try.checked) false (World.laidAll Try.prog os Rows.valueLessRow.laid) #[.agg #[.int .i64 0, .string .empty, .slice none 0 0], .agg #[.int .i64 0, .string .empty, .slice none 0 0], .agg #[.int .i64 0, .string .empty, .slice none 0 0]] (World.laidAll_os _ _ _) (by kernel_rfl) (by kernel_rfl) (by kernel_rfl)
      (OpenSpec.preRow_of_cond 8 hx (by kernel_rfl) (fun k hk => by cases hk) (by kernel_rfl) (laid_met os))) ?_
  intro W base args ds gs before hval hW _ _ hsz hL _ _
  exact contract H enc W base args ds gs before hval hW hsz hL
theorem said : Rows.ValueLessSaid :=
  OpenClaim.holds_of_cond 7 Try.f7 rfl rfl rfl rfl rfl rfl rfl ⟨rfl, rfl, rfl, rfl, rfl⟩ rfl rfl rfl rfl rfl (by kernel_rfl) Try.func7 (by kernel_rfl)
    (of_decide_eq_true (by kernel_rfl)) (by unfold Func.isWrapper; first | (rw [if_pos (by decide +kernel)]; kernel_rfl) | (rw [if_neg (by decide +kernel)]; exact ⟨rfl, rfl⟩))
    (fun os started H enc _ F => by rw [OpenClaim.pre_eq_preRow]; exact lifted os started H enc F)
theorem proved : Rows.ValueLessSaid := said

end Go.Proofs.Ytaepmccfiliiiaa.lawValueLess
