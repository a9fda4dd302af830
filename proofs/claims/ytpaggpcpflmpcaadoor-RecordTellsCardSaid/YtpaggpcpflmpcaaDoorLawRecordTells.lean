/-
  Any bytes, from one place to another one, are the records, or have the error, and any record has the bytes, that the document says: the statement RecordTells, for every bytes, places and record.
-/
import Derived.Test.YtpaggpcpflmpcaaDoorRecAwake
namespace Go.Proofs.YtpaggpcpflmpcaaDoor.lawRecordTells
open Go.ChangeShapes Go.WideShapes Go.ChangeAt Go.RowKit

theorem recL_len (no wire : Int) (num : Nat) (run : List UInt8) (hn : num < 18446744073709551616) (hr : run.length ≤ 3000) : (recL no wire num run).length ≤ 4000 := by
  have h5 := putL_le5 (no := no) (wire := wire)
  have h1 := vput_len10 hn
  have h2 := vput_len10 (n := run.length) (by omega)
  unfold recL
  split
  · rw [List.length_append]
    unfold restL
    split
    · rw [List.length_append]; omega
    · split
      · rw [fixb_length]; omega
      · split
        · rw [fixb_length]; omega
        · omega
  · simp
theorem allR_len (l : List UInt8) (a u : Int) : (allR l a u).1.length ≤ l.length := by
  unfold allR
  split
  · rename_i h
    have := mayB_true.1 h
    have := recs_len l u.toNat a.toNat
    omega
  · simp
theorem stay {w w' : World} {b : Nat} {o : Obj} (hb : Below w.heap.size w w') (k : w.heap[b]? = some o) : w'.heap[b]? = some o := (hb.block b (Array.getElem?_eq_some_iff.1 k).1).trans k

set_option maxRecDepth 1000000 in
set_option maxHeartbeats 4000000 in
theorem walk (w : World) (T : Wires w) (A : Option Addr) (c : Nat) (l : List UInt8) (hr : SlB w A c l) (a : Int) (a1 : -9223372036854775808 ≤ a) (a2 : a ≤ 9223372036854775807) (u : Int) (u1 : -9223372036854775808 ≤ u) (u2 : u ≤ 9223372036854775807)
    (ra rb : Int) (rn : Nat) (rf ru : Int) (rt : RecOk ra rb rn rf ru) (A' : Option Addr) (c' : Nat) (m : List UInt8) (hr' : SlB w A' c' m) :
    Calls Tryd.prog 3 #[.slice A l.length c, .int .i64 a, .int .i64 u, .agg #[.int .i64 ra, .int .i64 rb, .int .u64 rn, .int .i64 rf, .int .i64 ru], .slice A' m.length c'] w fun e w' => e = .returned (.bool true) ∧ Below w.heap.size w w' := by
  have hml := hr.small.1
  have hml' := hr'.small.1
  obtain ⟨⟨ra1, ra2⟩, ⟨rb1, rb2⟩, rn1, -, -⟩ := rt
  by_cases hbig : l.length ≤ 3000 ∧ m.length ≤ 3000
  · obtain ⟨hbig, hbig'⟩ := hbig
    have d1 : decide ((3000 : Int) < (l.length : Int)) = false := by simp; omega
    have d2 : decide ((3000 : Int) < (m.length : Int)) = false := by simp; omega
    obtain ⟨r, p, x, hN⟩ : ∃ r p x, nextR l a u = (r, p, x) := ⟨_, _, _, rfl⟩
    obtain ⟨L, g, hL⟩ : ∃ L g, allR l a u = (L, g) := ⟨_, _, rfl⟩
    obtain ⟨X, hX⟩ : ∃ X, recL ra rb rn m = X := ⟨_, rfl⟩
    obtain ⟨B, hB⟩ : ∃ B, putB ra rb = B := ⟨_, rfl⟩
    have hLl := allR_len l a u
    rw [hL] at hLl
    have hXl := recL_len ra rb rn m rn1 hbig'
    rw [hX] at hXl
    have HN := Lib.hid hN
    have HL := Lib.hid hL
    have HX := Lib.hid hX
    have HB := Lib.hid hB
    clear hN hL hX hB
    go_enter Tryd.func3, Tryd.ntmps3
    go_wp2_with fail
    refine (awake_any _ (T.on (below_new _ _))).mono ?_
    rintro e w1 ⟨rfl, hb1⟩
    have k8 := stay hb1 (heap_alloc_new _ _)
    have hb1 := below_then (below_new w _) hb1
    go_wp2_with fail
    refine (next_any A c l a u (by omega) _ (hr.on hb1) (T.on hb1)).mono ?_
    rw [HN.out]
    rintro e w2 ⟨rfl, hb2⟩
    unfold NV RV
    have k8 := stay hb2 k8
    have hb2 := below_then hb1 hb2
    go_wp2_with fail
    refine (rnext_any A c l a u (by omega) _ (hr.on (below_lit hb2 _))).mono ?_
    rw [HN.out]
    rintro e w3 ⟨rfl, hb3⟩
    unfold NV RV
    have k8 := stay hb3 (stay (below_new _ _) k8)
    have k12 := stay hb3 (heap_alloc_new _ _)
    have hb3 := below_then (below_lit hb2 _) hb3
    go_wp2_with fail
    refine (all_any A c l a u (by omega) _ (hr.on (below_lit hb3 _)) (T.on (below_lit hb3 _))).mono ?_
    rw [HL.out]
    rintro e w4 ⟨A4, c4, rfl, hr4, hb4⟩
    have k8 := stay hb4 (stay (below_new _ _) k8)
    have k12 := stay hb4 (stay (below_new _ _) k12)
    have k15 := stay hb4 (heap_alloc_new _ _)
    have hb4 := below_then (below_lit hb3 _) hb4
    go_wp2_with fail
    refine (rall_any A c l a u (by omega) _ (hr.on hb4)).mono ?_
    rw [HL.out]
    rintro e w5 ⟨A5, c5, rfl, hr5, hb5⟩
    have k8 := stay hb5 k8
    have k12 := stay hb5 k12
    have k15 := stay hb5 k15
    have hr4 := hr4.on hb5
    have hb5 := below_then hb4 hb5
    go_wp2_with fail
    refine (recs_any A4 A5 c4 c5 L L _ (by omega) (by omega) hr4 hr5).mono ?_
    rintro e w6 ⟨rfl, hb6⟩
    rw [decide_eq_true rfl]
    have k8 := stay hb6 k8
    have k12 := stay hb6 k12
    have k15 := stay hb6 k15
    have hb6 := below_then hb5 hb6
    clear hr4 hr5
    go_wp2_with (refine wpList_load_row rfl 25 _ rfl w.heap.size rfl 25 _ (0, 0) _ k8 Tryd.underlying25 rfl infoRec ?_)
    refine (rcput_any ra rb rn rf ru A' c' m ra1 ra2 rb1 rb2 rn1 (by omega) _ (hr'.on hb6) (T.on hb6)).mono ?_
    rw [HX.out, HB.out]
    rintro e w7 ⟨A7, c7, rfl, hr7, hb7⟩
    have k8 := stay hb7 k8
    have k12 := stay hb7 k12
    have k15 := stay hb7 k15
    have hb7 := below_then hb6 hb7
    go_wp2_with (refine wpList_load_row rfl 25 _ rfl w.heap.size rfl 25 _ (0, 0) _ k8 Tryd.underlying25 rfl infoRec ?_)
    refine (rrcput_any ra rb rn rf ru A' c' m ra1 ra2 rb1 rb2 rn1 (by omega) _ (hr'.on hb7)).mono ?_
    rw [HX.out, HB.out]
    rintro e w8 ⟨A8, c8, rfl, hr8, hb8⟩
    have k12 := stay hb8 k12
    have k15 := stay hb8 k15
    have hr7 := hr7.on hb8
    have hb8 := below_then hb7 hb8
    obtain ⟨p0, p1, p2, p3, p4⟩ := heap_cells k12
    obtain ⟨q0, q1, q2, q3, q4⟩ := heap_cells k15
    go_wp2_with fail
    refine (bytes_any A7 A8 c7 c8 X X _ (by omega) (by omega) hr7 hr8).mono ?_
    rintro e w9 ⟨rfl, hb9⟩
    rw [decide_eq_true rfl]
    go_wp2
    go_ret
    exact ⟨rfl, below_then hb8 hb9⟩
  · have hd : decide ((3000 : Int) < (l.length : Int)) = true ∨ (decide ((3000 : Int) < (l.length : Int)) = false ∧ decide ((3000 : Int) < (m.length : Int)) = true) := by
      simp only [decide_eq_true_eq, decide_eq_false_iff_not]
      omega
    clear hbig
    rcases hd with d1 | ⟨d1, d2⟩
    all_goals
      go_enter Tryd.func3, Tryd.ntmps3
      go_wp2_with fail
      refine (awake_any _ (T.on (below_new _ _))).mono ?_
      rintro e w1 ⟨rfl, hb1⟩
      go_wp2
      go_ret
      exact ⟨rfl, below_then (below_new _ _) hb1⟩

theorem contract (H : Type) (enc : TypeId × Value → H) (W : World) (base : Nat) (args : Array Value) (ds gs : List (DataW H)) (before : List MemPlace)
    (hval0 : ∀ (j : Nat) t v, Tryd.f3.params[j]? = some t → args[j]? = some v → Value.okWide Tryd.prog W .any base t v)
    (hW : DataW.Whole enc Tryd.prog Tryd.f3.params.toList Rows.recordTellsSpec.vars false W args.toList ds gs before) (hsz : (DataW.weightsEach Tryd.prog (Tryd.f3.params.toList ++ (OpenSpec.ofChange Rows.recordTellsSpec).bare.plain.varTypes Tryd.prog) (ds ++ gs)).all (· ≤ reachBytes) = true) (hL : laidMetH Tryd.prog Rows.recordTellsRow.laid W) :
    Calls Tryd.prog 3 args W fun e W2 => ∃ v, e = .returned v ∧ Rows.recordTellsSpec.post enc Tryd.prog Tryd.f3 false true false false W args v W2 := by
  have hval : ∀ (j : Nat) t v, Tryd.f3.params[j]? = some t → args[j]? = some v → Value.okWide Tryd.prog W .any base t v := hval0
  have T := wires_of hL
  have hW2 := hW
  obtain ⟨p, q, hA0, hV, rfl, hfz, hnd⟩ := hW
  have hA : DataW.TrodAll enc Tryd.prog W 0 (fun _ => true) true Tryd.f3.params.toList args.toList ds p := hA0
  rw [Tryd.params3] at hA hval
  obtain ⟨v0, vs0, d0, ds0, p0, q0, hargs, rfl, rfl, h0, r0⟩ := trodAll_cons hA
  obtain ⟨v1, vs1, d1, ds1, p1, q1, rfl, rfl, rfl, h1, r1⟩ := trodAll_cons r0
  obtain ⟨v2, vs2, d2, ds2, p2, q2, rfl, rfl, rfl, h2, r2⟩ := trodAll_cons r1
  obtain ⟨v3, vs3, d3, ds3, p3, q3, rfl, rfl, rfl, h3, r3⟩ := trodAll_cons r2
  obtain ⟨v4, vs4, d4, ds4, p4, q4, rfl, rfl, rfl, h4, r4⟩ := trodAll_cons r3
  obtain ⟨rfl, rfl, rfl⟩ := trodAll_nil r4
  obtain rfl : args = #[v0, v1, v2, v3, v4] := by cases args; simp_all
  obtain ⟨rfl, rfl⟩ := trodVars_none hV
  obtain ⟨A0, c0, l0, rfl, rd0⟩ := open_bytes (hval 0 22 v0 rfl rfl) h0
  obtain ⟨i1, rfl, b1, c1⟩ := open_i64 (hval 1 3 v1 rfl rfl) h1
  obtain ⟨i2, rfl, b2, c2⟩ := open_i64 (hval 2 3 v2 rfl rfl) h2
  obtain ⟨ra3, rb3, rn3, rf3, ru3, rfl, rt3⟩ := open_rec (hval 3 25 v3 rfl rfl) h3
  obtain ⟨A4, c4, l4, rfl, rd4⟩ := open_bytes (hval 4 22 v4 rfl rfl) h4
  refine (walk W T A0 c0 l0 rd0 i1 b1 c1 i2 b2 c2 ra3 rb3 rn3 rf3 ru3 rt3 A4 c4 l4 rd4).mono fun e W2 ⟨he, hb⟩ => ?_
  subst he
  exact ⟨_, rfl, law_post (by kernel_rfl) rfl rfl (by decide +kernel) hW2 hb⟩
theorem laid_met (os : Os) : laidMetH Tryd.prog Rows.recordTellsRow.laid ((World.laidAll Tryd.prog os Rows.recordTellsRow.laid).forCall (fun _ _ => 0) ⟨#[], #[.slice none 0 0, .int .i64 0, .int .i64 0, .agg #[.int .i64 0, .int .i64 0, .int .u64 0, .int .i64 0, .int .i64 0], .slice none 0 0], []⟩).memory := by
  rw [MakeChecks.laidMetH_plain _ _ _ (by kernel_rfl)]
  exact laidMet_laidAll _ (by kernel_rfl) (by kernel_rfl)
theorem reads (os : Os) {H : Type} (enc : TypeId × Value → H) : ∃ places, DataW.whole enc Tryd.prog ((World.laidAll Tryd.prog os Rows.recordTellsRow.laid).forCall (fun _ _ => 0) ⟨#[], #[.slice none 0 0, .int .i64 0, .int .i64 0, .agg #[.int .i64 0, .int .i64 0, .int .u64 0, .int .i64 0, .int .i64 0], .slice none 0 0], []⟩).memory Tryd.f3.params.toList Rows.recordTellsSpec.vars false (#[.slice none 0 0, .int .i64 0, .int .i64 0, .agg #[.int .i64 0, .int .i64 0, .int .u64 0, .int .i64 0, .int .i64 0], .slice none 0 0] : Array Value).toList 8 = some ([.nil, .lit (.int .i64 0), .lit (.int .i64 0), .agg [.lit (.int .i64 0), .lit (.int .i64 0), .lit (.int .u64 0), .lit (.int .i64 0), .lit (.int .i64 0)], .nil], [], places) := ⟨[], by kernel_rfl⟩
set_option maxRecDepth 100000 in
theorem lifted (os : Os) (started : os.Started) (H : Type) (enc : TypeId × Value → H) (F : Stop.Interp) :
    ReturnsInHanded {} Tryd.checked os 3 .any ((OpenSpec.ofChange Rows.recordTellsSpec).preRow enc Tryd.prog Tryd.f3 Rows.recordTellsRow.domain false Rows.recordTellsRow.laid) (((OpenSpec.ofChange Rows.recordTellsSpec).at F).post enc Tryd.prog Tryd.f3 false true false false) := by
  obtain ⟨places, hx⟩ := reads os enc
  refine returnsInHanded_of_row (C := Tryd.checked) (s := OpenSpec.ofChange Rows.recordTellsSpec) own started (by kernel_rfl) Tryd.func3
    (witness_row_at (enc := enc) (C := Tryd.checked) false (World.laidAll Tryd.prog os Rows.recordTellsRow.laid) #[.slice none 0 0, .int .i64 0, .int .i64 0, .agg #[.int .i64 0, .int .i64 0, .int .u64 0, .int .i64 0, .int .i64 0], .slice none 0 0] (World.laidAll_os _ _ _) (by kernel_rfl) (by kernel_rfl) (by kernel_rfl)
      (OpenSpec.preRow_of_cond 8 hx (by kernel_rfl) (fun k hk => by cases hk) (by kernel_rfl) (laid_met os))) ?_
  intro W base args ds gs before hval hW _ _ hsz hL _ _
  exact contract H enc W base args ds gs before hval hW hsz hL
theorem said : Rows.RecordTellsSaid :=
  OpenClaim.holds_of_cond 3 Tryd.f3 rfl rfl rfl rfl rfl rfl rfl ⟨rfl, rfl, rfl, rfl, rfl⟩ rfl rfl rfl rfl rfl (by kernel_rfl) Tryd.func3 (by kernel_rfl)
    (of_decide_eq_true (by kernel_rfl)) (by unfold Func.isWrapper; first | (rw [if_pos (by decide +kernel)]; kernel_rfl) | (rw [if_neg (by decide +kernel)]; exact ⟨rfl, rfl⟩))
    (fun os started H enc _ F => by rw [OpenClaim.pre_eq_preRow]; exact lifted os started H enc F)
theorem plain (f : FuncId) (fn : Func) (hf : Tryd.pinned.checked.prog.funcNamed "truffle/trufflelaw05.RecordTells" = some f) (hfn : Tryd.pinned.checked.prog.funcs[f]? = some fn) :
    false = Tryd.pinned.checked.prog.looks [] ∧ ∀ (j : Nat) t, fn.params[j]? = some t → Tryd.pinned.checked.prog.wantsStandIn t = false := by
  obtain rfl : f = 3 := Option.some.inj ((show Tryd.prog.funcNamed "truffle/trufflelaw05.RecordTells" = some 3 by kernel_rfl).symm.trans hf) |>.symm
  obtain rfl : fn = Tryd.f3 := (Option.some.inj (Tryd.func3.symm.trans hfn)).symm
  refine ⟨by kernel_rfl, fun j t ht => ?_⟩
  have hall : (Tryd.f3.params.toList.all fun t => !Tryd.prog.wantsStandIn t) = true := by kernel_rfl
  have := List.all_eq_true.1 hall t (Array.mem_toList_iff.2 (Array.mem_of_getElem? ht))
  exact (show Tryd.prog.wantsStandIn t = false by simpa using this)
theorem proved : Rows.RecordTellsCardSaid :=
  Claim7.holds_tied_plain_at .later [] _ _ _ _ said (fun _ h => by cases h) (by kernel_rfl) (fun _ h => by cases h) recordTells_row_tie rfl ⟨rfl, rfl⟩ (by kernel_rfl) rfl plain (by kernel_rfl)
end Go.Proofs.YtpaggpcpflmpcaaDoor.lawRecordTells
