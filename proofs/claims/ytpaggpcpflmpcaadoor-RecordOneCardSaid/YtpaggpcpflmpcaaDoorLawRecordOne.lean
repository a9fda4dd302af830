/-
  Two records with the same bytes are of the same number and wire type, with the same number, as far as it goes, or the same bytes: the statement RecordOne, for every two records and two runs.
-/
import Derived.Test.YtpaggpcpflmpcaaDoorRecAwake
import Derived.Test.YtpaggpcpflmpcaaDoorRecOne
namespace Go.Proofs.YtpaggpcpflmpcaaDoor.lawRecordOne
open Go.ChangeShapes Go.WideShapes Go.ChangeAt Go.RowKit

theorem stay {w w' : World} {b : Nat} {o : Obj} (hb : Below w.heap.size w w') (k : w.heap[b]? = some o) : w'.heap[b]? = some o := (hb.block b (Array.getElem?_eq_some_iff.1 k).1).trans k
theorem recL_len {no wire : Int} {num : Nat} {run : List UInt8} (hn : num < 18446744073709551616) (hr : run.length ≤ 1000) : (recL no wire num run).length ≤ 2000 := by
  have h5 := putL_le5 (no := no) (wire := wire)
  have h1 := vput_len10 hn
  have h2 := vput_len10 (n := run.length) (by omega)
  unfold recL
  split
  · rw [List.length_append]
    unfold restL
    split
    · rw [List.length_append]; omega
    · split
      · rw [fixb_length]; omega
      · split
        · rw [fixb_length]; omega
        · omega
  · simp
theorem nat_of {ra rb : Int} (h : putB ra rb = true) : ∃ no wire : Nat, ra = no ∧ rb = wire := by
  have := putB_iff.1 h
  exact ⟨ra.toNat, rb.toNat, by omega, by omega⟩
/-- Whether the bytes are the same, as the statement asks it. -/
theorem same_iff {ra rb sa sb : Int} (h : putB ra rb = true) (k : putB sa sb = true) {n m : Nat} (hn : n < 18446744073709551616) (hm : m < 18446744073709551616) {x y : List UInt8} (hx : x.length ≤ 1000) (hy : y.length ≤ 1000) :
    (rb = 2 ∧ decide (recL ra rb n x = recL sa sb m y) = (ra == sa && rb == sb && decide (x = y))) ∨
    (((rb == 2) = false ∧ rb = 5) ∧ decide (recL ra rb n x = recL sa sb m y) = (ra == sa && rb == sb && ((n : Int) % 4294967296 == (m : Int) % 4294967296))) ∨
    (((rb == 2) = false ∧ (rb == 5) = false) ∧ decide (recL ra rb n x = recL sa sb m y) = (ra == sa && rb == sb && ((n : Int) == (m : Int)))) := by
  obtain ⟨a, b, rfl, rfl⟩ := nat_of h
  obtain ⟨c, d, rfl, rfl⟩ := nat_of k
  have e := recL_iff h k hn hm (x := x) (y := y) (by omega) (by omega)
  unfold oneQ at e
  by_cases w2 : (b : Int) = 2
  · refine Or.inl ⟨w2, ?_⟩
    rw [if_pos w2] at e
    rw [Bool.eq_iff_iff]
    simp only [decide_eq_true_eq, Bool.and_eq_true, beq_iff_eq, and_assoc]
    exact e
  · rw [if_neg w2] at e
    by_cases w5 : (b : Int) = 5
    · refine Or.inr (Or.inl ⟨⟨by simpa using w2, w5⟩, ?_⟩)
      rw [if_pos w5] at e
      rw [Bool.eq_iff_iff]
      simp only [decide_eq_true_eq, Bool.and_eq_true, beq_iff_eq, and_assoc]
      rw [e, show ((n : Int) % 4294967296 = (m : Int) % 4294967296) ↔ (n % 4294967296 = m % 4294967296) by omega]
    · refine Or.inr (Or.inr ⟨⟨by simpa using w2, by simpa using w5⟩, ?_⟩)
      rw [if_neg w5] at e
      rw [Bool.eq_iff_iff]
      simp only [decide_eq_true_eq, Bool.and_eq_true, beq_iff_eq, and_assoc]
      rw [e, show ((n : Int) = (m : Int)) ↔ n = m by omega]

set_option maxRecDepth 1000000 in
set_option maxHeartbeats 8000000 in
theorem walk (w : World) (T : Wires w) (ra rb : Int) (rn : Nat) (rf ru : Int) (rt : RecOk ra rb rn rf ru) (sa sb : Int) (sn : Nat) (sf su : Int) (st : RecOk sa sb sn sf su)
    (A : Option Addr) (c : Nat) (l : List UInt8) (hr : SlB w A c l) (hsz : l.length ≤ 140737488351232) (A' : Option Addr) (c' : Nat) (m : List UInt8) (hr' : SlB w A' c' m) (hsz' : m.length ≤ 140737488351232) :
    Calls Tryd.prog 8 #[.agg #[.int .i64 ra, .int .i64 rb, .int .u64 rn, .int .i64 rf, .int .i64 ru], .agg #[.int .i64 sa, .int .i64 sb, .int .u64 sn, .int .i64 sf, .int .i64 su], .slice A l.length c, .slice A' m.length c'] w fun e w' => e = .returned (.bool true) ∧ Below w.heap.size w w' := by
  obtain ⟨⟨ra1, ra2⟩, ⟨rb1, rb2⟩, rn1, -, -⟩ := rt
  obtain ⟨⟨sa1, sa2⟩, ⟨sb1, sb2⟩, sn1, -, -⟩ := st
  obtain ⟨X, hX⟩ : ∃ X, recL ra rb rn l = X := ⟨_, rfl⟩
  obtain ⟨Y, hY⟩ : ∃ Y, recL sa sb sn m = Y := ⟨_, rfl⟩
  obtain ⟨B, hB⟩ : ∃ B, putB ra rb = B := ⟨_, rfl⟩
  obtain ⟨C, hC⟩ : ∃ C, putB sa sb = C := ⟨_, rfl⟩
  have HX := Lib.hid hX
  have HY := Lib.hid hY
  have HB := Lib.hid hB
  have HC := Lib.hid hC
  have H1 : Hid (B = true → C = true → l.length ≤ 1000 → m.length ≤ 1000 → X.length ≤ 2000 ∧ Y.length ≤ 2000 ∧
      ((rb = 2 ∧ decide (X = Y) = (ra == sa && rb == sb && decide (l = m))) ∨ (((rb == 2) = false ∧ rb = 5) ∧ decide (X = Y) = (ra == sa && rb == sb && ((rn : Int) % 4294967296 == (sn : Int) % 4294967296))) ∨ (((rb == 2) = false ∧ (rb == 5) = false) ∧ decide (X = Y) = (ra == sa && rb == sb && ((rn : Int) == (sn : Int)))))) :=
    Lib.hid (fun h k hl hm => ⟨by rw [← hX]; exact recL_len rn1 hl, by rw [← hY]; exact recL_len sn1 hm, by rw [← hX, ← hY]; exact same_iff (hB.trans h) (hC.trans k) rn1 sn1 hl hm⟩)
  clear hX hY hB hC
  go_enter Tryd.func8, Tryd.ntmps8
  go_wp2_with fail
  refine (awake_any _ (T.on (below_lit (below_new _ _) _))).mono ?_
  rintro e w1 ⟨rfl, hb1⟩
  have k4 := stay hb1 (heap_alloc2_old _ _ _)
  have k5 := stay hb1 (heap_alloc2_new _ _ _)
  have hb1 := below_then (below_lit (below_new w _) _) hb1
  go_wp2_with (refine wpList_load_row rfl 25 _ rfl w.heap.size rfl 25 _ (0, 0) _ k4 Tryd.underlying25 rfl infoRec ?_)
  refine (rcput_any ra rb rn rf ru A c l ra1 ra2 rb1 rb2 rn1 hsz _ (hr.on hb1) (T.on hb1)).mono ?_
  rw [HX.out, HB.out]
  rintro e w2 ⟨A2, c2, rfl, hr2, hb2⟩
  have k4 := stay hb2 k4
  have k5 := stay hb2 k5
  have hb2 := below_then hb1 hb2
  go_wp2_with (refine wpList_load_row rfl 25 _ rfl (w.heap.size + 1) rfl 25 _ (0, 0) _ k5 Tryd.underlying25 rfl infoRec ?_)
  refine (rcput_any sa sb sn sf su A' c' m sa1 sa2 sb1 sb2 sn1 hsz' _ (hr'.on hb2) (T.on hb2)).mono ?_
  rw [HY.out, HC.out]
  rintro e w3 ⟨A3, c3, rfl, hr3, hb3⟩
  have k4 := stay hb3 k4
  have k5 := stay hb3 k5
  have hr2 := hr2.on hb3
  have hb3 := below_then hb2 hb3
  obtain ⟨p0, p1, p2, -, -⟩ := heap_cells k4
  obtain ⟨q0, q1, q2, -, -⟩ := heap_cells k5
  clear k4 k5
  cases B
  · go_wp2
    go_ret
    exact ⟨rfl, hb3⟩
  cases C
  · go_wp2
    go_ret
    exact ⟨rfl, hb3⟩
  rcases Nat.lt_or_ge 1000 l.length with hbig | hbig
  · have d1 : decide ((1000 : Int) < (l.length : Int)) = true := by simp; omega
    go_wp2
    go_ret
    exact ⟨rfl, hb3⟩
  have d1 : decide ((1000 : Int) < (l.length : Int)) = false := by simp; omega
  rcases Nat.lt_or_ge 1000 m.length with hbig' | hbig'
  · have d2 : decide ((1000 : Int) < (m.length : Int)) = true := by simp; omega
    go_wp2
    go_ret
    exact ⟨rfl, hb3⟩
  have d2 : decide ((1000 : Int) < (m.length : Int)) = false := by simp; omega
  obtain ⟨hXl, hYl, H⟩ := H1.out rfl rfl hbig hbig'
  obtain ⟨p, hp⟩ : ∃ p, (ra == sa) = p := ⟨_, rfl⟩
  obtain ⟨q, hq⟩ : ∃ q, (rb == sb) = q := ⟨_, rfl⟩
  clear H1
  rw [hp, hq] at H
  rcases H with ⟨rfl, H⟩ | ⟨⟨w2', rfl⟩, H⟩ | ⟨⟨w2', w5'⟩, H⟩
  · have hxy := bytes_any A A' c c' l m w3 (by omega) (by omega) (hr.on hb3) (hr'.on hb3)
    obtain ⟨r, hr0⟩ : ∃ r, decide (l = m) = r := ⟨_, rfl⟩
    rw [hr0] at H hxy
    clear hr0
    have HH := Lib.hid H
    clear H
    cases p
    · go_wp2_with fail
      refine (bytes_any A2 A3 c2 c3 X Y _ (by omega) (by omega) hr2 hr3).mono ?_
      rintro e w4 ⟨rfl, hb4⟩
      rw [HH.out]
      go_wp2
      go_ret
      exact ⟨ret_bool (by simp), below_then hb3 hb4⟩
    cases q
    · go_wp2_with fail
      refine (bytes_any A2 A3 c2 c3 X Y _ (by omega) (by omega) hr2 hr3).mono ?_
      rintro e w4 ⟨rfl, hb4⟩
      rw [HH.out]
      go_wp2
      go_ret
      exact ⟨ret_bool (by simp), below_then hb3 hb4⟩
    · go_wp2_with fail
      refine hxy.mono ?_
      rintro e w4 ⟨rfl, hb4⟩
      go_wp2_with fail
      refine (bytes_any A2 A3 c2 c3 X Y _ (by omega) (by omega) (hr2.on hb4) (hr3.on hb4)).mono ?_
      rintro e w5 ⟨rfl, hb5⟩
      rw [HH.out]
      go_wp2
      go_ret
      exact ⟨ret_bool (by cases r <;> rfl), below_then (below_then hb3 hb4) hb5⟩
  · obtain ⟨r, hr0⟩ : ∃ r, ((rn : Int) % 4294967296 == (sn : Int) % 4294967296) = r := ⟨_, rfl⟩
    rw [hr0] at H
    have HH := Lib.hid H
    clear H
    cases p <;> cases q
    all_goals
      go_wp2_with fail
      refine (bytes_any A2 A3 c2 c3 X Y _ (by omega) (by omega) hr2 hr3).mono ?_
      rintro e w4 ⟨rfl, hb4⟩
      rw [HH.out]
      cases r
      all_goals
        go_wp2
        go_ret
        exact ⟨ret_bool (by simp), below_then hb3 hb4⟩
  · obtain ⟨r, hr0⟩ : ∃ r, ((rn : Int) == (sn : Int)) = r := ⟨_, rfl⟩
    rw [hr0] at H
    have HH := Lib.hid H
    clear H
    cases p <;> cases q
    all_goals
      go_wp2_with fail
      refine (bytes_any A2 A3 c2 c3 X Y _ (by omega) (by omega) hr2 hr3).mono ?_
      rintro e w4 ⟨rfl, hb4⟩
      rw [HH.out]
      cases r
      all_goals
        go_wp2
        go_ret
        exact ⟨ret_bool (by simp), below_then hb3 hb4⟩

theorem contract (H : Type) (enc : TypeId × Value → H) (W : World) (base : Nat) (args : Array Value) (ds gs : List (DataW H)) (before : List MemPlace)
    (hval0 : ∀ (j : Nat) t v, Tryd.f8.params[j]? = some t → args[j]? = some v → Value.okWide Tryd.prog W .any base t v)
    (hW : DataW.Whole enc Tryd.prog Tryd.f8.params.toList Rows.recordOneSpec.vars false W args.toList ds gs before) (hsz : (DataW.weightsEach Tryd.prog (Tryd.f8.params.toList ++ (OpenSpec.ofChange Rows.recordOneSpec).bare.plain.varTypes Tryd.prog) (ds ++ gs)).all (· ≤ reachBytes) = true) (hL : laidMetH Tryd.prog Rows.recordOneRow.laid W) :
    Calls Tryd.prog 8 args W fun e W2 => ∃ v, e = .returned v ∧ Rows.recordOneSpec.post enc Tryd.prog Tryd.f8 false true false false W args v W2 := by
  have hval : ∀ (j : Nat) t v, Tryd.f8.params[j]? = some t → args[j]? = some v → Value.okWide Tryd.prog W .any base t v := hval0
  have T := wires_of hL
  have hW2 := hW
  obtain ⟨p, q, hA0, hV, rfl, hfz, hnd⟩ := hW
  have hA : DataW.TrodAll enc Tryd.prog W 0 (fun _ => true) true Tryd.f8.params.toList args.toList ds p := hA0
  rw [Tryd.params8] at hA hval
  obtain ⟨v0, vs0, d0, ds0, p0, q0, hargs, rfl, rfl, h0, r0⟩ := trodAll_cons hA
  obtain ⟨v1, vs1, d1, ds1, p1, q1, rfl, rfl, rfl, h1, r1⟩ := trodAll_cons r0
  obtain ⟨v2, vs2, d2, ds2, p2, q2, rfl, rfl, rfl, h2, r2⟩ := trodAll_cons r1
  obtain ⟨v3, vs3, d3, ds3, p3, q3, rfl, rfl, rfl, h3, r3⟩ := trodAll_cons r2
  obtain ⟨rfl, rfl, rfl⟩ := trodAll_nil r3
  obtain rfl : args = #[v0, v1, v2, v3] := by cases args; simp_all
  obtain ⟨rfl, rfl⟩ := trodVars_none hV
  obtain ⟨ra0, rb0, rn0, rf0, ru0, rfl, rt0⟩ := open_rec (hval 0 25 v0 rfl rfl) h0
  obtain ⟨ra1, rb1, rn1, rf1, ru1, rfl, rt1⟩ := open_rec (hval 1 25 v1 rfl rfl) h1
  obtain ⟨A2, c2, l2, rfl, rd2, sz2⟩ := open_bytes_sized (hval 2 22 v2 rfl rfl) h2 (fun es sp he => by subst he; exact sized_slice hsz (j := 2) (t := 22) (e := 5) rfl rfl Tryd.underlying22)
  obtain ⟨A3, c3, l3, rfl, rd3, sz3⟩ := open_bytes_sized (hval 3 22 v3 rfl rfl) h3 (fun es sp he => by subst he; exact sized_slice hsz (j := 3) (t := 22) (e := 5) rfl rfl Tryd.underlying22)
  refine (walk W T ra0 rb0 rn0 rf0 ru0 rt0 ra1 rb1 rn1 rf1 ru1 rt1 A2 c2 l2 rd2 sz2 A3 c3 l3 rd3 sz3).mono fun e W2 ⟨he, hb⟩ => ?_
  subst he
  exact ⟨_, rfl, law_post (by kernel_rfl) rfl rfl (by decide +kernel) hW2 hb⟩
theorem laid_met (os : Os) : laidMetH Tryd.prog Rows.recordOneRow.laid ((World.laidAll Tryd.prog os Rows.recordOneRow.laid).forCall (fun _ _ => 0) ⟨#[], #[.agg #[.int .i64 0, .int .i64 0, .int .u64 0, .int .i64 0, .int .i64 0], .agg #[.int .i64 0, .int .i64 0, .int .u64 0, .int .i64 0, .int .i64 0], .slice none 0 0, .slice none 0 0], []⟩).memory := by
  rw [MakeChecks.laidMetH_plain _ _ _ (by kernel_rfl)]
  exact laidMet_laidAll _ (by kernel_rfl) (by kernel_rfl)
theorem reads (os : Os) {H : Type} (enc : TypeId × Value → H) : ∃ places, DataW.whole enc Tryd.prog ((World.laidAll Tryd.prog os Rows.recordOneRow.laid).forCall (fun _ _ => 0) ⟨#[], #[.agg #[.int .i64 0, .int .i64 0, .int .u64 0, .int .i64 0, .int .i64 0], .agg #[.int .i64 0, .int .i64 0, .int .u64 0, .int .i64 0, .int .i64 0], .slice none 0 0, .slice none 0 0], []⟩).memory Tryd.f8.params.toList Rows.recordOneSpec.vars false (#[.agg #[.int .i64 0, .int .i64 0, .int .u64 0, .int .i64 0, .int .i64 0], .agg #[.int .i64 0, .int .i64 0, .int .u64 0, .int .i64 0, .int .i64 0], .slice none 0 0, .slice none 0 0] : Array Value).toList 8 = some ([.agg [.lit (.int .i64 0), .lit (.int .i64 0), .lit (.int .u64 0), .lit (.int .i64 0), .lit (.int .i64 0)], .agg [.lit (.int .i64 0), .lit (.int .i64 0), .lit (.int .u64 0), .lit (.int .i64 0), .lit (.int .i64 0)], .nil, .nil], [], places) := ⟨[], by kernel_rfl⟩
set_option maxRecDepth 100000 in
theorem lifted (os : Os) (started : os.Started) (H : Type) (enc : TypeId × Value → H) (F : Stop.Interp) :
    ReturnsInHanded {} Tryd.checked os 8 .any ((OpenSpec.ofChange Rows.recordOneSpec).preRow enc Tryd.prog Tryd.f8 Rows.recordOneRow.domain false Rows.recordOneRow.laid) (((OpenSpec.ofChange Rows.recordOneSpec).at F).post enc Tryd.prog Tryd.f8 false true false false) := by
  obtain ⟨places, hx⟩ := reads os enc
  refine returnsInHanded_of_row (C := Tryd.checked) (s := OpenSpec.ofChange Rows.recordOneSpec) own started (by kernel_rfl) Tryd.func8
    (witness_row_at (enc := enc) (C := Tryd.checked) false (World.laidAll Tryd.prog os Rows.recordOneRow.laid) #[.agg #[.int .i64 0, .int .i64 0, .int .u64 0, .int .i64 0, .int .i64 0], .agg #[.int .i64 0, .int .i64 0, .int .u64 0, .int .i64 0, .int .i64 0], .slice none 0 0, .slice none 0 0] (World.laidAll_os _ _ _) (by kernel_rfl) (by kernel_rfl) (by kernel_rfl)
      (OpenSpec.preRow_of_cond 8 hx (by kernel_rfl) (fun k hk => by cases hk) (by kernel_rfl) (laid_met os))) ?_
  intro W base args ds gs before hval hW _ _ hsz hL _ _
  exact contract H enc W base args ds gs before hval hW hsz hL
theorem said : Rows.RecordOneSaid :=
  OpenClaim.holds_of_cond 8 Tryd.f8 rfl rfl rfl rfl rfl rfl rfl ⟨rfl, rfl, rfl, rfl, rfl⟩ rfl rfl rfl rfl rfl (by kernel_rfl) Tryd.func8 (by kernel_rfl)
    (of_decide_eq_true (by kernel_rfl)) (by unfold Func.isWrapper; first | (rw [if_pos (by decide +kernel)]; kernel_rfl) | (rw [if_neg (by decide +kernel)]; exact ⟨rfl, rfl⟩))
    (fun os started H enc _ F => by rw [OpenClaim.pre_eq_preRow]; exact lifted os started H enc F)
theorem plain (f : FuncId) (fn : Func) (hf : Tryd.pinned.checked.prog.funcNamed "truffle/trufflelaw05.RecordOne" = some f) (hfn : Tryd.pinned.checked.prog.funcs[f]? = some fn) :
    false = Tryd.pinned.checked.prog.looks [] ∧ ∀ (j : Nat) t, fn.params[j]? = some t → Tryd.pinned.checked.prog.wantsStandIn t = false := by
  obtain rfl : f = 8 := Option.some.inj ((show Tryd.prog.funcNamed "truffle/trufflelaw05.RecordOne" = some 8 by kernel_rfl).symm.trans hf) |>.symm
  obtain rfl : fn = Tryd.f8 := (Option.some.inj (Tryd.func8.symm.trans hfn)).symm
  refine ⟨by kernel_rfl, fun j t ht => ?_⟩
  have hall : (Tryd.f8.params.toList.all fun t => !Tryd.prog.wantsStandIn t) = true := by kernel_rfl
  have := List.all_eq_true.1 hall t (Array.mem_toList_iff.2 (Array.mem_of_getElem? ht))
  exact (show Tryd.prog.wantsStandIn t = false by simpa using this)
theorem proved : Rows.RecordOneCardSaid :=
  Claim7.holds_tied_plain_at .later [] _ _ _ _ said (fun _ h => by cases h) (by kernel_rfl) (fun _ h => by cases h) recordOne_row_tie rfl ⟨rfl, rfl⟩ (by kernel_rfl) rfl plain (by kernel_rfl)
end Go.Proofs.YtpaggpcpflmpcaaDoor.lawRecordOne
