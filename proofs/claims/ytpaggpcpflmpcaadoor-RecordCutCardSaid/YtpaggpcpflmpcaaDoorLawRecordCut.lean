/-
  Of a record that is cut anywhere none is told, but that it is cut off: the statement RecordCut, for every record, run and count of bytes left.
-/
import Derived.Test.YtpaggpcpflmpcaaDoorRecAwake
import Derived.Test.YtpaggpcpflmpcaaDoorRecBack
namespace Go.Proofs.YtpaggpcpflmpcaaDoor.lawRecordCut
open Go.ChangeShapes Go.WideShapes Go.ChangeAt Go.RowKit

theorem stay {w w' : World} {b : Nat} {o : Obj} (hb : Below w.heap.size w w') (k : w.heap[b]? = some o) : w'.heap[b]? = some o := (hb.block b (Array.getElem?_eq_some_iff.1 k).1).trans k
theorem recL_len {no wire : Int} {num : Nat} {run : List UInt8} (hn : num < 18446744073709551616) (hr : run.length ≤ 1000) : (recL no wire num run).length ≤ 2000 := by
  have h5 := putL_le5 (no := no) (wire := wire)
  have h1 := vput_len10 hn
  have h2 := vput_len10 (n := run.length) (by omega)
  unfold recL
  split
  · rw [List.length_append]
    unfold restL
    split
    · rw [List.length_append]; omega
    · split
      · rw [fixb_length]; omega
      · split
        · rw [fixb_length]; omega
        · omega
  · simp
theorem nat_of {ra rb : Int} (h : putB ra rb = true) : ∃ no wire : Nat, ra = no ∧ rb = wire := by
  have := putB_iff.1 h
  exact ⟨ra.toNat, rb.toNat, by omega, by omega⟩

set_option maxRecDepth 1000000 in
set_option maxHeartbeats 4000000 in
theorem walk (w : World) (T : Wires w) (ra rb : Int) (rn : Nat) (rf ru : Int) (rt : RecOk ra rb rn rf ru) (A : Option Addr) (c : Nat) (l : List UInt8) (hr : SlB w A c l) (hsz : l.length ≤ 140737488351232)
    (i : Int) (i1 : -9223372036854775808 ≤ i) (i2 : i ≤ 9223372036854775807) :
    Calls Tryd.prog 6 #[.agg #[.int .i64 ra, .int .i64 rb, .int .u64 rn, .int .i64 rf, .int .i64 ru], .slice A l.length c, .int .i64 i] w fun e w' => e = .returned (.bool true) ∧ Below w.heap.size w w' := by
  obtain ⟨⟨ra1, ra2⟩, ⟨rb1, rb2⟩, rn1, -, -⟩ := rt
  by_cases hyes : putB ra rb = true ∧ l.length ≤ 1000 ∧ 0 ≤ i ∧ i < (recL ra rb rn l).length
  · obtain ⟨hB, hbig, h0, hi⟩ := hyes
    have hlen := recL_len (no := ra) (wire := rb) rn1 hbig
    obtain ⟨no, wire, rfl, rfl⟩ := nat_of hB
    obtain ⟨j, rfl⟩ := Int.eq_ofNat_of_zero_le h0
    have hc := next_less hB rn1 (run := l) (by omega) (j := j) (by omega)
    generalize hX : recL no wire rn l = X at *
    have HX := Lib.hid hX
    have HB := Lib.hid hB
    have HC := Lib.hid hc
    clear hX hB hc
    have d1 : decide ((1000 : Int) < (l.length : Int)) = false := by simp; omega
    have d2 : decide (X.length ≤ j) = false := by simp; omega
    go_enter Tryd.func6, Tryd.ntmps6
    go_wp2_with fail
    refine (awake_any _ (T.on (below_new _ _))).mono ?_
    rintro e w1 ⟨rfl, hb1⟩
    have k8 := stay hb1 (heap_alloc_new _ _)
    have hb1 := below_then (below_new w _) hb1
    go_wp2_with (refine wpList_load_row rfl 25 _ rfl w.heap.size rfl 25 _ (0, 0) _ k8 Tryd.underlying25 rfl infoRec ?_)
    refine (rcput_any no wire rn rf ru A c l ra1 ra2 rb1 rb2 rn1 hsz _ (hr.on hb1) (T.on hb1)).mono ?_
    rw [HX.out, HB.out]
    rintro e w2 ⟨A2, c2, rfl, hr2, hb2⟩
    have hb2 := below_then hb1 hb2
    go_wp2_with fail
    refine (next_any A2 c2 X 0 j (by omega) _ hr2 (T.on hb2)).mono ?_
    rw [HC.out]
    rintro e w3 ⟨rfl, hb3⟩
    have hb3 := below_then hb2 hb3
    unfold NV RV Rc.zero
    go_wp2
    go_ret
    exact ⟨rfl, below_lit hb3 _⟩
  · generalize hX : recL ra rb rn l = X at *
    generalize hB : putB ra rb = B at *
    have HX := Lib.hid hX
    have HB := Lib.hid hB
    clear hX hB
    have hd : B = false ∨ (B = true ∧ decide ((1000 : Int) < (l.length : Int)) = true) ∨ (B = true ∧ decide ((1000 : Int) < (l.length : Int)) = false ∧ decide (i < 0) = true) ∨ (B = true ∧ decide ((1000 : Int) < (l.length : Int)) = false ∧ decide (i < 0) = false ∧ decide ((X.length : Int) ≤ i) = true) := by
      cases B
      · exact Or.inl rfl
      · refine Or.inr ?_
        simp only [true_and, decide_eq_true_eq, decide_eq_false_iff_not] at hyes ⊢
        omega
    clear hyes
    rcases hd with rfl | ⟨rfl, d1⟩ | ⟨rfl, d1, d2⟩ | ⟨rfl, d1, d2, d3⟩
    all_goals
      go_enter Tryd.func6, Tryd.ntmps6
      go_wp2_with fail
      refine (awake_any _ (T.on (below_new _ _))).mono ?_
      rintro e w1 ⟨rfl, hb1⟩
      have k8 := stay hb1 (heap_alloc_new _ _)
      have hb1 := below_then (below_new w _) hb1
      go_wp2_with (refine wpList_load_row rfl 25 _ rfl w.heap.size rfl 25 _ (0, 0) _ k8 Tryd.underlying25 rfl infoRec ?_)
      refine (rcput_any ra rb rn rf ru A c l ra1 ra2 rb1 rb2 rn1 hsz _ (hr.on hb1) (T.on hb1)).mono ?_
      rw [HX.out, HB.out]
      rintro e w2 ⟨A2, c2, rfl, hr2, hb2⟩
      go_wp2
      go_ret
      exact ⟨rfl, below_then hb1 hb2⟩

theorem contract (H : Type) (enc : TypeId × Value → H) (W : World) (base : Nat) (args : Array Value) (ds gs : List (DataW H)) (before : List MemPlace)
    (hval0 : ∀ (j : Nat) t v, Tryd.f6.params[j]? = some t → args[j]? = some v → Value.okWide Tryd.prog W .any base t v)
    (hW : DataW.Whole enc Tryd.prog Tryd.f6.params.toList Rows.recordCutSpec.vars false W args.toList ds gs before) (hsz : (DataW.weightsEach Tryd.prog (Tryd.f6.params.toList ++ (OpenSpec.ofChange Rows.recordCutSpec).bare.plain.varTypes Tryd.prog) (ds ++ gs)).all (· ≤ reachBytes) = true) (hL : laidMetH Tryd.prog Rows.recordCutRow.laid W) :
    Calls Tryd.prog 6 args W fun e W2 => ∃ v, e = .returned v ∧ Rows.recordCutSpec.post enc Tryd.prog Tryd.f6 false true false false W args v W2 := by
  have hval : ∀ (j : Nat) t v, Tryd.f6.params[j]? = some t → args[j]? = some v → Value.okWide Tryd.prog W .any base t v := hval0
  have T := wires_of hL
  have hW2 := hW
  obtain ⟨p, q, hA0, hV, rfl, hfz, hnd⟩ := hW
  have hA : DataW.TrodAll enc Tryd.prog W 0 (fun _ => true) true Tryd.f6.params.toList args.toList ds p := hA0
  rw [Tryd.params6] at hA hval
  obtain ⟨v0, vs0, d0, ds0, p0, q0, hargs, rfl, rfl, h0, r0⟩ := trodAll_cons hA
  obtain ⟨v1, vs1, d1, ds1, p1, q1, rfl, rfl, rfl, h1, r1⟩ := trodAll_cons r0
  obtain ⟨v2, vs2, d2, ds2, p2, q2, rfl, rfl, rfl, h2, r2⟩ := trodAll_cons r1
  obtain ⟨rfl, rfl, rfl⟩ := trodAll_nil r2
  obtain rfl : args = #[v0, v1, v2] := by cases args; simp_all
  obtain ⟨rfl, rfl⟩ := trodVars_none hV
  obtain ⟨ra0, rb0, rn0, rf0, ru0, rfl, rt0⟩ := open_rec (hval 0 25 v0 rfl rfl) h0
  obtain ⟨A1, c1, l1, rfl, rd1, sz1⟩ := open_bytes_sized (hval 1 22 v1 rfl rfl) h1 (fun es sp he => by subst he; exact sized_slice hsz (j := 1) (t := 22) (e := 5) rfl rfl Tryd.underlying22)
  obtain ⟨i2, rfl, b2, c2⟩ := open_i64 (hval 2 3 v2 rfl rfl) h2
  refine (walk W T ra0 rb0 rn0 rf0 ru0 rt0 A1 c1 l1 rd1 sz1 i2 b2 c2).mono fun e W2 ⟨he, hb⟩ => ?_
  subst he
  exact ⟨_, rfl, law_post (by kernel_rfl) rfl rfl (by decide +kernel) hW2 hb⟩
theorem laid_met (os : Os) : laidMetH Tryd.prog Rows.recordCutRow.laid ((World.laidAll Tryd.prog os Rows.recordCutRow.laid).forCall (fun _ _ => 0) ⟨#[], #[.agg #[.int .i64 0, .int .i64 0, .int .u64 0, .int .i64 0, .int .i64 0], .slice none 0 0, .int .i64 0], []⟩).memory := by
  rw [MakeChecks.laidMetH_plain _ _ _ (by kernel_rfl)]
  exact laidMet_laidAll _ (by kernel_rfl) (by kernel_rfl)
theorem reads (os : Os) {H : Type} (enc : TypeId × Value → H) : ∃ places, DataW.whole enc Tryd.prog ((World.laidAll Tryd.prog os Rows.recordCutRow.laid).forCall (fun _ _ => 0) ⟨#[], #[.agg #[.int .i64 0, .int .i64 0, .int .u64 0, .int .i64 0, .int .i64 0], .slice none 0 0, .int .i64 0], []⟩).memory Tryd.f6.params.toList Rows.recordCutSpec.vars false (#[.agg #[.int .i64 0, .int .i64 0, .int .u64 0, .int .i64 0, .int .i64 0], .slice none 0 0, .int .i64 0] : Array Value).toList 8 = some ([.agg [.lit (.int .i64 0), .lit (.int .i64 0), .lit (.int .u64 0), .lit (.int .i64 0), .lit (.int .i64 0)], .nil, .lit (.int .i64 0)], [], places) := ⟨[], by kernel_rfl⟩
set_option maxRecDepth 100000 in
theorem lifted (os : Os) (started : os.Started) (H : Type) (enc : TypeId × Value → H) (F : Stop.Interp) :
    ReturnsInHanded {} Tryd.checked os 6 .any ((OpenSpec.ofChange Rows.recordCutSpec).preRow enc Tryd.prog Tryd.f6 Rows.recordCutRow.domain false Rows.recordCutRow.laid) (((OpenSpec.ofChange Rows.recordCutSpec).at F).post enc Tryd.prog Tryd.f6 false true false false) := by
  obtain ⟨places, hx⟩ := reads os enc
  refine returnsInHanded_of_row (C := Tryd.checked) (s := OpenSpec.ofChange Rows.recordCutSpec) own started (by kernel_rfl) Tryd.func6
    (witness_row_at (enc := enc) (C := Tryd.checked) false (World.laidAll Tryd.prog os Rows.recordCutRow.laid) #[.agg #[.int .i64 0, .int .i64 0, .int .u64 0, .int .i64 0, .int .i64 0], .slice none 0 0, .int .i64 0] (World.laidAll_os _ _ _) (by kernel_rfl) (by kernel_rfl) (by kernel_rfl)
      (OpenSpec.preRow_of_cond 8 hx (by kernel_rfl) (fun k hk => by cases hk) (by kernel_rfl) (laid_met os))) ?_
  intro W base args ds gs before hval hW _ _ hsz hL _ _
  exact contract H enc W base args ds gs before hval hW hsz hL
theorem said : Rows.RecordCutSaid :=
  OpenClaim.holds_of_cond 6 Tryd.f6 rfl rfl rfl rfl rfl rfl rfl ⟨rfl, rfl, rfl, rfl, rfl⟩ rfl rfl rfl rfl rfl (by kernel_rfl) Tryd.func6 (by kernel_rfl)
    (of_decide_eq_true (by kernel_rfl)) (by unfold Func.isWrapper; first | (rw [if_pos (by decide +kernel)]; kernel_rfl) | (rw [if_neg (by decide +kernel)]; exact ⟨rfl, rfl⟩))
    (fun os started H enc _ F => by rw [OpenClaim.pre_eq_preRow]; exact lifted os started H enc F)
theorem plain (f : FuncId) (fn : Func) (hf : Tryd.pinned.checked.prog.funcNamed "truffle/trufflelaw05.RecordCut" = some f) (hfn : Tryd.pinned.checked.prog.funcs[f]? = some fn) :
    false = Tryd.pinned.checked.prog.looks [] ∧ ∀ (j : Nat) t, fn.params[j]? = some t → Tryd.pinned.checked.prog.wantsStandIn t = false := by
  obtain rfl : f = 6 := Option.some.inj ((show Tryd.prog.funcNamed "truffle/trufflelaw05.RecordCut" = some 6 by kernel_rfl).symm.trans hf) |>.symm
  obtain rfl : fn = Tryd.f6 := (Option.some.inj (Tryd.func6.symm.trans hfn)).symm
  refine ⟨by kernel_rfl, fun j t ht => ?_⟩
  have hall : (Tryd.f6.params.toList.all fun t => !Tryd.prog.wantsStandIn t) = true := by kernel_rfl
  have := List.all_eq_true.1 hall t (Array.mem_toList_iff.2 (Array.mem_of_getElem? ht))
  exact (show Tryd.prog.wantsStandIn t = false by simpa using this)
theorem proved : Rows.RecordCutCardSaid :=
  Claim7.holds_tied_plain_at .later [] _ _ _ _ said (fun _ h => by cases h) (by kernel_rfl) (fun _ h => by cases h) recordCut_row_tie rfl ⟨rfl, rfl⟩ (by kernel_rfl) rfl plain (by kernel_rfl)
end Go.Proofs.YtpaggpcpflmpcaaDoor.lawRecordCut
