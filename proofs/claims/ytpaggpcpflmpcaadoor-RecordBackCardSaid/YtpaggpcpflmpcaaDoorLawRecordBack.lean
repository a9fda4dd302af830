/-
  What is put is one record, with that number, or these bytes, wherever it stands: the statement RecordBack, for every record, run and what stands ahead.
-/
import Derived.Test.YtpaggpcpflmpcaaDoorRecAwake
import Derived.Test.YtpaggpcpflmpcaaDoorRecBack
import Derived.Test.YtpaggpcpflmpcaaDoorPart
namespace Go.Proofs.YtpaggpcpflmpcaaDoor.lawRecordBack
open Go.ChangeShapes Go.WideShapes Go.ChangeAt Go.RowKit

theorem stay {w w' : World} {b : Nat} {o : Obj} (hb : Below w.heap.size w w') (k : w.heap[b]? = some o) : w'.heap[b]? = some o := (hb.block b (Array.getElem?_eq_some_iff.1 k).1).trans k
theorem recL_len {no wire : Int} {num : Nat} {run : List UInt8} (hn : num < 18446744073709551616) (hr : run.length ≤ 1000) : (recL no wire num run).length ≤ 2000 := by
  have h5 := putL_le5 (no := no) (wire := wire)
  have h1 := vput_len10 hn
  have h2 := vput_len10 (n := run.length) (by omega)
  unfold recL
  split
  · rw [List.length_append]
    unfold restL
    split
    · rw [List.length_append]; omega
    · split
      · rw [fixb_length]; omega
      · split
        · rw [fixb_length]; omega
        · omega
  · simp
theorem nat_of {ra rb : Int} (h : putB ra rb = true) : ∃ no wire : Nat, ra = no ∧ rb = wire := by
  have := putB_iff.1 h
  exact ⟨ra.toNat, rb.toNat, by omega, by omega⟩
/-- What is told of what is put, behind whatever stands ahead. -/
theorem back_all {no wire : Nat} (h : putB no wire = true) {num : Nat} (hn : num < 18446744073709551616) {run : List UInt8} (hr : run.length < 18446744073709551616) (m : List UInt8) :
    ∃ N F : Nat, nextR (m ++ recL no wire num run) m.length (m ++ recL no wire num run).length = (⟨no, wire, N, F, (m ++ recL no wire num run).length⟩, (m ++ recL no wire num run).length, 0) ∧ m.length ≤ F ∧ F ≤ (m ++ recL no wire num run).length ∧
      ((wire = 2 ∧ N = run.length ∧ ((m ++ recL no wire num run).drop F).take ((m ++ recL no wire num run).length - F) = run) ∨ (((wire : Int) == 2) = false ∧ wire = 5 ∧ ((N : Int) == (num : Int) % 4294967296) = true) ∨ (((wire : Int) == 2) = false ∧ ((wire : Int) == 5) = false ∧ N = num)) := by
  have hb := next_back h hn hr m []
  rw [List.append_nil] at hb
  refine ⟨numQ wire num run, m.length + headL no wire run, by rw [hb, List.length_append], by omega, ?_, ?_⟩
  · rw [List.length_append]
    have hw := wnext_le (wnext_put h hn hr [])
    simp only at hw
    omega
  · by_cases w2 : wire = 2
    · refine Or.inl ⟨w2, by simp [numQ, w2], ?_⟩
      subst w2
      have e : recL no (2 : Nat) num run = putL no (2 : Nat) ++ vput run.length ++ run := by rw [recL_yes h]; simp [restL]
      have e2 : m.length + headL no (2 : Nat) run = (m ++ (putL no (2 : Nat) ++ vput run.length)).length := by simp [headL]
      rw [e, e2, ← List.append_assoc, List.drop_left, List.take_of_length_le (by simp only [List.length_append]; omega)]
    · refine Or.inr ?_
      by_cases w5 : wire = 5
      · exact Or.inl ⟨by simp; omega, w5, by simp [numQ, w5]⟩
      · exact Or.inr ⟨by simp; omega, by simp; omega, by simp [numQ, w2, w5]⟩

set_option maxRecDepth 1000000 in
set_option maxHeartbeats 8000000 in
theorem walk (w : World) (T : Wires w) (ra rb : Int) (rn : Nat) (rf ru : Int) (rt : RecOk ra rb rn rf ru) (A : Option Addr) (c : Nat) (l : List UInt8) (hr : SlB w A c l) (hsz : l.length ≤ 140737488351232)
    (A' : Option Addr) (c' : Nat) (m : List UInt8) (hr' : SlB w A' c' m) :
    Calls Tryd.prog 4 #[.agg #[.int .i64 ra, .int .i64 rb, .int .u64 rn, .int .i64 rf, .int .i64 ru], .slice A l.length c, .slice A' m.length c'] w fun e w' => e = .returned (.bool true) ∧ Below w.heap.size w w' := by
  obtain ⟨i0, hi, hz0, hz1, hz2⟩ := info_parts info_u8
  have hml' := hr'.small.1
  obtain ⟨⟨ra1, ra2⟩, ⟨rb1, rb2⟩, rn1, -, -⟩ := rt
  by_cases hyes : putB ra rb = true ∧ l.length ≤ 1000 ∧ m.length ≤ 1000
  · obtain ⟨hB, hbig, hbig'⟩ := hyes
    have hlen := recL_len (no := ra) (wire := rb) rn1 hbig
    obtain ⟨no, wire, rfl, rfl⟩ := nat_of hB
    obtain ⟨N, F, hN, hF1, hF2, hcase⟩ := back_all hB rn1 (run := l) (by omega) m
    generalize hX : recL no wire rn l = X at *
    have E1 : Hid (0 + m.length + X.length = (m ++ X).length) := Lib.hid (by rw [List.length_append]; omega)
    have E2 : Hid ([] ++ bs m ++ bs X = bs (m ++ X)) := Lib.hid (by rw [bs_append]; rfl)
    have hzl : (m ++ X).length ≤ 3000 := by rw [List.length_append]; omega
    generalize m ++ X = z at *
    have HX := Lib.hid hX
    have HB := Lib.hid hB
    have HN := Lib.hid hN
    clear hX hB hN
    have d1 : decide ((1000 : Int) < (l.length : Int)) = false := by simp; omega
    have d2 : decide ((1000 : Int) < (m.length : Int)) = false := by simp; omega
    have d3 : decide (F < m.length) = false := by simp; omega
    have d4 : decide (z.length < F) = false := by simp; omega
    have ew : IntKind.u64.wrap (l.length : Int) = l.length := by simp [IntKind.wrap, IntKind.signed, IntKind.bits]; omega
    go_enter Tryd.func4, Tryd.ntmps4
    go_wp2_with fail
    refine (awake_any _ (T.on (below_new _ _))).mono ?_
    rintro e w1 ⟨rfl, hb1⟩
    have k3 := stay hb1 (heap_alloc_new _ _)
    have hb1 := below_then (below_new w _) hb1
    go_wp2_with (refine wpList_load_row rfl 25 _ rfl w.heap.size rfl 25 _ (0, 0) _ k3 Tryd.underlying25 rfl infoRec ?_)
    refine (rcput_any no wire rn rf ru A c l ra1 ra2 rb1 rb2 rn1 hsz _ (hr.on hb1) (T.on hb1)).mono ?_
    rw [HX.out, HB.out]
    rintro e w2 ⟨A2, c2, rfl, hr2, hb2⟩
    have k3 := stay hb2 k3
    have hb2 := below_then hb1 hb2
    have hm2 := hr'.on hb2
    go_wp2_with (first
      | (at_builtin; refine wpList_app_sl rfl _ _ 22 rfl w2.heap.size 5 i0 (.int .u8 0) 1 1 Tryd.underlying22 hi hz0 hz1 hz2 rfl (by omega) (.slice none 0 0) 0 [] rfl (World.ownsRow_nil _ _ _ _) A' m.length c' (bs m) rfl hm2 (bs_one m) (by unfold maxLen; omega) (by omega) (Nat.le_refl _) ?_; intro v3 w3 hown3 hg3; have hb3 : Below w2.heap.size w2 w3 := (Below.refl _ _).grown hg3 (Nat.le_refl _) (by intro k hk; cases hk); have hr3 := hr2.on hb3)
      | (at_builtin; refine wpList_app_sl rfl _ _ 22 rfl w2.heap.size 5 i0 (.int .u8 0) 1 1 Tryd.underlying22 hi hz0 hz1 hz2 rfl (by omega) v3 (0 + m.length) ([] ++ bs m) rfl hown3 A2 X.length c2 (bs X) rfl hr3 (bs_one X) (by unfold maxLen; omega) (by omega) hb3.size ?_; intro v4 w4 hown4 hg4; have hb4 : Below w2.heap.size w2 w4 := hb3.grown hg4 hb3.size (own_ge hown3); rw [E1.out, E2.out] at hown4; clear hown3 hg3 hg4; obtain ⟨A4, c4, rfl, hr4⟩ := SlB.of_own hown4; clear hown4))
    have k3 := stay hb4 k3
    have hb4 := below_then hb2 hb4
    refine (next_any A4 c4 z m.length z.length (by omega) _ hr4 (T.on hb4)).mono ?_
    rw [HN.out]
    rintro e w5 ⟨rfl, hb5⟩
    unfold NV RV
    have k3 := stay hb5 k3
    have hlt := (Array.getElem?_eq_some_iff.1 k3).1
    obtain ⟨p0, p1, p2, -, -⟩ := heap_cells k3
    clear k3
    have hr5 := (hr4.on hb5).lit (.cells #[.int .i64 no, .int .i64 wire, .int .u64 N, .int .i64 F, .int .i64 z.length] 25)
    have hl5 := (((hr.on hb4).on hb5).lit (.cells #[.int .i64 no, .int .i64 wire, .int .u64 N, .int .i64 F, .int .i64 z.length] 25))
    have hb5 := below_lit (below_then hb4 hb5) (.cells #[.int .i64 no, .int .i64 wire, .int .u64 N, .int .i64 F, .int .i64 z.length] 25)
    have hc4 := hr4.le
    clear hr4 hr hr2 hr3
    rcases hcase with ⟨rfl, rfl, hpart⟩ | ⟨w2', rfl, hN2⟩ | ⟨w2', w5', rfl⟩
    · have hpl : z.length - F = l.length := by
        have := congrArg List.length hpart
        rw [List.length_take, List.length_drop] at this
        omega
      have hFc : F ≤ c4 := by omega
      have hzc : z.length ≤ c4 := by omega
      by_cases hci : F = c4
      · have hp := SlB.part_cap hr5 hF2 (Nat.le_refl _) hci
        rw [hpart, show c4 - F = 0 by omega] at hp
        have H := Lib.hid (bytes_any A4 A 0 c l l _ (by omega) (by omega) hp hl5)
        have HC := Lib.hid hci
        clear hci hp hpart
        go_wp2_with fail
        · refine (H.out).mono ?_
          rintro e w6 ⟨rfl, hb6⟩
          have kx := stay hb6 (heap_alloc_new w5 _)
          obtain ⟨-, -, x2, -, -⟩ := heap_cells kx
          simp only [decide_true]
          go_wp2
          go_ret
          exact ⟨rfl, below_then hb5 hb6⟩
        · exfalso
          rename_i h
          exact h HC.out.symm
      · have hp := SlB.part hr5 hF2 (Nat.le_refl _) hci
        rw [hpart] at hp
        have H := Lib.hid (bytes_any (A4.map (·.add F)) A (c4 - F) c l l _ (by omega) (by omega) hp hl5)
        have HC := Lib.hid hci
        clear hci hp hpart
        go_wp2_with fail
        · exfalso
          rename_i h
          exact HC.out h.symm
        · refine (H.out).mono ?_
          rintro e w6 ⟨rfl, hb6⟩
          have kx := stay hb6 (heap_alloc_new w5 _)
          obtain ⟨-, -, x2, -, -⟩ := heap_cells kx
          simp only [decide_true]
          go_wp2
          go_ret
          exact ⟨rfl, below_then hb5 hb6⟩
    · go_wp2
      go_ret
      exact ⟨rfl, hb5⟩
    · go_wp2
      go_ret
      exact ⟨rfl, hb5⟩
  · have hlen : putB ra rb = false → (recL ra rb rn l).length = 0 := fun h => by rw [recL_no h]; rfl
    generalize hX : recL ra rb rn l = X at *
    generalize hB : putB ra rb = B at *
    have HX := Lib.hid hX
    have HB := Lib.hid hB
    clear hX hB
    have hd : (B = false ∧ ((X.length : Int) == 0) = true) ∨ (B = true ∧ decide ((1000 : Int) < (l.length : Int)) = true) ∨ (B = true ∧ decide ((1000 : Int) < (l.length : Int)) = false ∧ decide ((1000 : Int) < (m.length : Int)) = true) := by
      cases B
      · exact Or.inl ⟨rfl, by simp [hlen rfl]⟩
      · refine Or.inr ?_
        simp only [true_and, decide_eq_true_eq, decide_eq_false_iff_not] at hyes ⊢
        omega
    clear hyes hlen
    rcases hd with ⟨rfl, d1⟩ | ⟨rfl, d1⟩ | ⟨rfl, d1, d2⟩
    all_goals
      go_enter Tryd.func4, Tryd.ntmps4
      go_wp2_with fail
      refine (awake_any _ (T.on (below_new _ _))).mono ?_
      rintro e w1 ⟨rfl, hb1⟩
      have k8 := stay hb1 (heap_alloc_new _ _)
      have hb1 := below_then (below_new w _) hb1
      go_wp2_with (refine wpList_load_row rfl 25 _ rfl w.heap.size rfl 25 _ (0, 0) _ k8 Tryd.underlying25 rfl infoRec ?_)
      refine (rcput_any ra rb rn rf ru A c l ra1 ra2 rb1 rb2 rn1 hsz _ (hr.on hb1) (T.on hb1)).mono ?_
      rw [HX.out, HB.out]
      rintro e w2 ⟨A2, c2, rfl, hr2, hb2⟩
      go_wp2
      go_ret
      exact ⟨rfl, below_then hb1 hb2⟩

theorem contract (H : Type) (enc : TypeId × Value → H) (W : World) (base : Nat) (args : Array Value) (ds gs : List (DataW H)) (before : List MemPlace)
    (hval0 : ∀ (j : Nat) t v, Tryd.f4.params[j]? = some t → args[j]? = some v → Value.okWide Tryd.prog W .any base t v)
    (hW : DataW.Whole enc Tryd.prog Tryd.f4.params.toList Rows.recordBackSpec.vars false W args.toList ds gs before) (hsz : (DataW.weightsEach Tryd.prog (Tryd.f4.params.toList ++ (OpenSpec.ofChange Rows.recordBackSpec).bare.plain.varTypes Tryd.prog) (ds ++ gs)).all (· ≤ reachBytes) = true) (hL : laidMetH Tryd.prog Rows.recordBackRow.laid W) :
    Calls Tryd.prog 4 args W fun e W2 => ∃ v, e = .returned v ∧ Rows.recordBackSpec.post enc Tryd.prog Tryd.f4 false true false false W args v W2 := by
  have hval : ∀ (j : Nat) t v, Tryd.f4.params[j]? = some t → args[j]? = some v → Value.okWide Tryd.prog W .any base t v := hval0
  have T := wires_of hL
  have hW2 := hW
  obtain ⟨p, q, hA0, hV, rfl, hfz, hnd⟩ := hW
  have hA : DataW.TrodAll enc Tryd.prog W 0 (fun _ => true) true Tryd.f4.params.toList args.toList ds p := hA0
  rw [Tryd.params4] at hA hval
  obtain ⟨v0, vs0, d0, ds0, p0, q0, hargs, rfl, rfl, h0, r0⟩ := trodAll_cons hA
  obtain ⟨v1, vs1, d1, ds1, p1, q1, rfl, rfl, rfl, h1, r1⟩ := trodAll_cons r0
  obtain ⟨v2, vs2, d2, ds2, p2, q2, rfl, rfl, rfl, h2, r2⟩ := trodAll_cons r1
  obtain ⟨rfl, rfl, rfl⟩ := trodAll_nil r2
  obtain rfl : args = #[v0, v1, v2] := by cases args; simp_all
  obtain ⟨rfl, rfl⟩ := trodVars_none hV
  obtain ⟨ra0, rb0, rn0, rf0, ru0, rfl, rt0⟩ := open_rec (hval 0 25 v0 rfl rfl) h0
  obtain ⟨A1, c1, l1, rfl, rd1, sz1⟩ := open_bytes_sized (hval 1 22 v1 rfl rfl) h1 (fun es sp he => by subst he; exact sized_slice hsz (j := 1) (t := 22) (e := 5) rfl rfl Tryd.underlying22)
  obtain ⟨A2, c2, l2, rfl, rd2⟩ := open_bytes (hval 2 22 v2 rfl rfl) h2
  refine (walk W T ra0 rb0 rn0 rf0 ru0 rt0 A1 c1 l1 rd1 sz1 A2 c2 l2 rd2).mono fun e W2 ⟨he, hb⟩ => ?_
  subst he
  exact ⟨_, rfl, law_post (by kernel_rfl) rfl rfl (by decide +kernel) hW2 hb⟩
theorem laid_met (os : Os) : laidMetH Tryd.prog Rows.recordBackRow.laid ((World.laidAll Tryd.prog os Rows.recordBackRow.laid).forCall (fun _ _ => 0) ⟨#[], #[.agg #[.int .i64 0, .int .i64 0, .int .u64 0, .int .i64 0, .int .i64 0], .slice none 0 0, .slice none 0 0], []⟩).memory := by
  rw [MakeChecks.laidMetH_plain _ _ _ (by kernel_rfl)]
  exact laidMet_laidAll _ (by kernel_rfl) (by kernel_rfl)
theorem reads (os : Os) {H : Type} (enc : TypeId × Value → H) : ∃ places, DataW.whole enc Tryd.prog ((World.laidAll Tryd.prog os Rows.recordBackRow.laid).forCall (fun _ _ => 0) ⟨#[], #[.agg #[.int .i64 0, .int .i64 0, .int .u64 0, .int .i64 0, .int .i64 0], .slice none 0 0, .slice none 0 0], []⟩).memory Tryd.f4.params.toList Rows.recordBackSpec.vars false (#[.agg #[.int .i64 0, .int .i64 0, .int .u64 0, .int .i64 0, .int .i64 0], .slice none 0 0, .slice none 0 0] : Array Value).toList 8 = some ([.agg [.lit (.int .i64 0), .lit (.int .i64 0), .lit (.int .u64 0), .lit (.int .i64 0), .lit (.int .i64 0)], .nil, .nil], [], places) := ⟨[], by kernel_rfl⟩
set_option maxRecDepth 100000 in
theorem lifted (os : Os) (started : os.Started) (H : Type) (enc : TypeId × Value → H) (F : Stop.Interp) :
    ReturnsInHanded {} Tryd.checked os 4 .any ((OpenSpec.ofChange Rows.recordBackSpec).preRow enc Tryd.prog Tryd.f4 Rows.recordBackRow.domain false Rows.recordBackRow.laid) (((OpenSpec.ofChange Rows.recordBackSpec).at F).post enc Tryd.prog Tryd.f4 false true false false) := by
  obtain ⟨places, hx⟩ := reads os enc
  refine returnsInHanded_of_row (C := Tryd.checked) (s := OpenSpec.ofChange Rows.recordBackSpec) own started (by kernel_rfl) Tryd.func4
    (witness_row_at (enc := enc) (C := Tryd.checked) false (World.laidAll Tryd.prog os Rows.recordBackRow.laid) #[.agg #[.int .i64 0, .int .i64 0, .int .u64 0, .int .i64 0, .int .i64 0], .slice none 0 0, .slice none 0 0] (World.laidAll_os _ _ _) (by kernel_rfl) (by kernel_rfl) (by kernel_rfl)
      (OpenSpec.preRow_of_cond 8 hx (by kernel_rfl) (fun k hk => by cases hk) (by kernel_rfl) (laid_met os))) ?_
  intro W base args ds gs before hval hW _ _ hsz hL _ _
  exact contract H enc W base args ds gs before hval hW hsz hL
theorem said : Rows.RecordBackSaid :=
  OpenClaim.holds_of_cond 4 Tryd.f4 rfl rfl rfl rfl rfl rfl rfl ⟨rfl, rfl, rfl, rfl, rfl⟩ rfl rfl rfl rfl rfl (by kernel_rfl) Tryd.func4 (by kernel_rfl)
    (of_decide_eq_true (by kernel_rfl)) (by unfold Func.isWrapper; first | (rw [if_pos (by decide +kernel)]; kernel_rfl) | (rw [if_neg (by decide +kernel)]; exact ⟨rfl, rfl⟩))
    (fun os started H enc _ F => by rw [OpenClaim.pre_eq_preRow]; exact lifted os started H enc F)
theorem plain (f : FuncId) (fn : Func) (hf : Tryd.pinned.checked.prog.funcNamed "truffle/trufflelaw05.RecordBack" = some f) (hfn : Tryd.pinned.checked.prog.funcs[f]? = some fn) :
    false = Tryd.pinned.checked.prog.looks [] ∧ ∀ (j : Nat) t, fn.params[j]? = some t → Tryd.pinned.checked.prog.wantsStandIn t = false := by
  obtain rfl : f = 4 := Option.some.inj ((show Tryd.prog.funcNamed "truffle/trufflelaw05.RecordBack" = some 4 by kernel_rfl).symm.trans hf) |>.symm
  obtain rfl : fn = Tryd.f4 := (Option.some.inj (Tryd.func4.symm.trans hfn)).symm
  refine ⟨by kernel_rfl, fun j t ht => ?_⟩
  have hall : (Tryd.f4.params.toList.all fun t => !Tryd.prog.wantsStandIn t) = true := by kernel_rfl
  have := List.all_eq_true.1 hall t (Array.mem_toList_iff.2 (Array.mem_of_getElem? ht))
  exact (show Tryd.prog.wantsStandIn t = false by simpa using this)
theorem proved : Rows.RecordBackCardSaid :=
  Claim7.holds_tied_plain_at .later [] _ _ _ _ said (fun _ h => by cases h) (by kernel_rfl) (fun _ h => by cases h) recordBack_row_tie rfl ⟨rfl, rfl⟩ (by kernel_rfl) rfl plain (by kernel_rfl)
end Go.Proofs.YtpaggpcpflmpcaaDoor.lawRecordBack
