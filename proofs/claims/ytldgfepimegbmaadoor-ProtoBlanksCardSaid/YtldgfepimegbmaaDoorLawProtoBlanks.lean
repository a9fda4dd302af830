/-
  A text behind a remark and blanks is the same file, and what is told of it stands further on: the statement ProtoBlanks, for every text and number of blanks.
-/
import Derived.Test.YtldgfepimegbmaaDoorProBlanks
namespace Go.Proofs.YtldgfepimegbmaaDoor.lawProtoBlanks
set_option maxRecDepth 100000
open Go.ChangeShapes Go.WideShapes Go.ChangeAt Go.RowKit

theorem FRead.below {w w' : World} {f : Fl} {vM vE : Value} (h : FRead w f vM vE) (hb : Below w.heap.size w w') : FRead w' f vM vE := by
  obtain ⟨xs, ys, h1, h2, h3, h4⟩ := h
  exact ⟨xs, ys, own_below h1 hb, h2.leaf (.below hb), own_below h3 hb, h4.leaf (.below hb)⟩
theorem size_list (s : ByteArray) : s.size = s.data.toList.length := by simp
set_option maxRecDepth 1000000 in
set_option maxHeartbeats 2000000 in
theorem walk (w : World) (LV : Laid w) (s : ByteArray) (hs0 : s.size ≤ maxLen) (i : Int) (i0 : -9223372036854775808 ≤ i) (i1 : i ≤ 9223372036854775807) :
    Calls Tryd.prog 4 #[.string s, .int .i64 i] w fun e w' => e = .returned (.bool true) ∧ Below w.heap.size w w' := by
  by_cases h1 : 1500 < s.size ∨ i < 0 ∨ 100 < i
  · obtain ⟨b1, hb1⟩ : ∃ b, decide ((1500 : Int) < (s.size : Int)) = b := ⟨_, rfl⟩
    obtain ⟨b2, hb2⟩ : ∃ b, decide (i < 0) = b := ⟨_, rfl⟩
    obtain ⟨b3, hb3⟩ : ∃ b, decide (100 < i) = b := ⟨_, rfl⟩
    have hor : (b1 = true) ∨ (b1 = false ∧ b2 = true) ∨ (b1 = false ∧ b2 = false ∧ b3 = true) := by
      subst hb1 hb2 hb3
      simp only [decide_eq_true_eq, decide_eq_false_iff_not]
      omega
    clear h1
    rcases hor with rfl | ⟨rfl, rfl⟩ | ⟨rfl, rfl, rfl⟩
    all_goals
      go_enter Tryd.func4, Tryd.ntmps4
      go_wp2_with fail
      refine (awake7_any _ LV).mono ?_
      rintro e w1 ⟨rfl, hb1⟩
      go_wp2
      go_ret
      exact ⟨rfl, hb1⟩
  · have d1 : decide ((1500 : Int) < (s.size : Int)) = false := by rw [decide_eq_false_iff_not]; omega
    have d2 : decide (i < 0) = false := by rw [decide_eq_false_iff_not]; omega
    have d3 : decide (100 < i) = false := by rw [decide_eq_false_iff_not]; omega
    obtain ⟨n, rfl⟩ := Int.eq_ofNat_of_zero_le (show 0 ≤ i by omega)
    have hs : s.size ≤ 1500 := by omega
    have hn : n ≤ 100 := by omega
    clear h1 i0 i1
    go_enter Tryd.func4, Tryd.ntmps4
    go_wp2_with fail
    refine (awake7_any _ LV).mono ?_
    rintro e w1 ⟨rfl, hb1⟩
    go_wp2
    clear d1 d2 d3
    go_loopw [6, 7] (fun v j wr => ∃ k : Nat, j = .int .i64 k ∧ v = .string (txt (padP k)) ∧ k ≤ n ∧ wr = w1) (fun _ j _ => n - (intOf j).toNat)
    case atStart => exact ⟨0, rfl, rfl, by omega, rfl⟩
    case round =>
      obtain ⟨k, rfl, rfl, hk, rfl⟩ := hrel
      have hps : (txt (padP k)).size = k + 3 := by rw [txt_size, padP_length]
      by_cases hlt : k < n
      · have hnx : txt (padP k) ++ ⟨#[32]⟩ = txt (padP (k + 1)) := by rw [show (⟨#[32]⟩ : ByteArray) = txt [32] from rfl, txt_app, padP_succ]
        generalize txt (padP k) = P0 at *
        have HNX := Lib.hid hnx
        clear hnx
        go_wp2
        exact ⟨⟨k + 1, by go_num, by rw [HNX.out], by omega, trivial⟩, by simp [intOf]; omega⟩
      · obtain rfl : k = n := by omega
        have hsl := size_list s
        obtain ⟨p1, p2, p3⟩ := blanks7 s.data.toList k (by omega) hn
        have hpa := parAt_le s.data.toList
        have hpar := fun w L => parse_any s (by omega) w L
        have hpar2 := fun w L => parse_any (txt (padP k) ++ s) (by rw [ByteArray.size_append, hps]; omega) w L
        rw [show (txt (padP k) ++ s).data.toList = padP k ++ s.data.toList by rw [← txt_of s, txt_app, txt_list, txt_of], p1, p2, padP_length] at hpar2
        have hsame := fun (vM vE vM' vE' : Value) (w : World) hf hg => same_any7 (parF s.data.toList) (parF (padP k ++ s.data.toList)) vM vE vM' vE' w hf hg (few_par _)
        rw [p3] at hsame
        rw [← hsl] at hpa
        generalize parF (padP k ++ s.data.toList) = F2 at *
        generalize parF s.data.toList = F at *
        generalize parE s.data.toList = E at *
        generalize parAt s.data.toList = at_ at *
        generalize txt (padP k) = PD at *
        generalize parE (padP k ++ s.data.toList) = E2 at *
        generalize parAt (padP k ++ s.data.toList) = at2 at *
        have HPAR := Lib.hid hpar
        have HPAR2 := Lib.hid hpar2
        have HSAME := Lib.hid hsame
        clear hpar hpar2 hsame p1 p2 p3 hsl hlt hk
        go_wp2_with fail
        refine (HPAR.out _ (LV.on hb1)).mono ?_
        intro e w2 hp2
        obtain ⟨A, c, A', c', rfl, hf2, hb2⟩ := par_open hp2
        have hb3 := below_then hb1 hb2
        have HF2 := Lib.hid hf2
        clear hp2 hf2
        go_wp2_with fail
        refine (HPAR2.out _ (LV.on (below_lit hb3 _))).mono ?_
        intro e w4 hp4
        obtain ⟨A4, c4, A4', c4', rfl, hf4, hb4⟩ := par_open hp4
        have hb5 := below_then (below_lit hb3 _) hb4
        have HF4 := Lib.hid hf4
        have HF24 := Lib.hid (FRead.below HF2.out (below_then (below_new w2 (.cells #[.slice A F.M.length c, .slice A' F.E.length c'] 26)) hb4))
        have hlt : w2.heap.size < w4.heap.size := by have := hb4.size; simp at this; omega
        have ga := (hb4.block w2.heap.size (by simp)).trans (heap_alloc_new w2 (.cells #[.slice A F.M.length c, .slice A' F.E.length c'] 26))
        have c1 := heap_cell ga 0
        have c2 := heap_cell ga 1
        simp at c1 c2
        clear hp4 hf4 ga
        go_wp2_with fail
        refine (HSAME.out _ _ _ _ _ (FRead.below HF24.out (below_new _ _)) (FRead.below HF4.out (below_new _ _))).mono ?_
        rintro e w6 ⟨rfl, hb6⟩
        have hb7 := below_then (below_lit hb5 _) hb6
        go_wp2
        go_ret
        exact ⟨rfl, hb7⟩

theorem contract (H : Type) (enc : TypeId × Value → H) (W : World) (base : Nat) (args : Array Value) (ds gs : List (DataW H)) (before : List MemPlace)
    (hval0 : ∀ (j : Nat) t v, Tryd.f4.params[j]? = some t → args[j]? = some v → Value.okWide Tryd.prog W .any base t v)
    (hW : DataW.Whole enc Tryd.prog Tryd.f4.params.toList Rows.protoBlanksSpec.vars false W args.toList ds gs before) (hsz : (DataW.weightsEach Tryd.prog (Tryd.f4.params.toList ++ (OpenSpec.ofChange Rows.protoBlanksSpec).bare.plain.varTypes Tryd.prog) (ds ++ gs)).all (· ≤ reachBytes) = true) (hL : laidMetH Tryd.prog Rows.protoBlanksRow.laid W) :
    Calls Tryd.prog 4 args W fun e W2 => ∃ v, e = .returned v ∧ Rows.protoBlanksSpec.post enc Tryd.prog Tryd.f4 false true false false W args v W2 := by
  have hval : ∀ (j : Nat) t v, Tryd.f4.params[j]? = some t → args[j]? = some v → Value.okWide Tryd.prog W .any base t v := hval0
  have T := laid_of hL
  have hW2 := hW
  obtain ⟨p, q, hA0, hV, rfl, hfz, hnd⟩ := hW
  have hA : DataW.TrodAll enc Tryd.prog W 0 (fun _ => true) true Tryd.f4.params.toList args.toList ds p := hA0
  rw [Tryd.params4] at hA hval
  obtain ⟨v0, vs0, d0, ds0, p0, q0, hargs, rfl, rfl, h0, r0⟩ := trodAll_cons hA
  obtain ⟨v1, vs1, d1, ds1, p1, q1, rfl, rfl, rfl, h1, r1⟩ := trodAll_cons r0
  obtain ⟨rfl, rfl, rfl⟩ := trodAll_nil r1
  obtain rfl : args = #[v0, v1] := by cases args; simp_all
  obtain ⟨rfl, rfl⟩ := trodVars_none hV
  obtain ⟨s0, rfl, rfl, rfl, b0⟩ := Go.ChangeMaps.open_string Tryd.underlying9 (hval 0 9 v0 rfl rfl) h0
  obtain ⟨i1, rfl, b1, c1⟩ := open_i64 (hval 1 3 v1 rfl rfl) h1
  refine (walk W T s0 b0 i1 b1 c1).mono fun e W2 ⟨he, hb⟩ => ?_
  subst he
  exact ⟨_, rfl, law_post (by kernel_rfl) rfl rfl (by decide +kernel) hW2 hb⟩
theorem laid_met (os : Os) : laidMetH Tryd.prog Rows.protoBlanksRow.laid ((World.laidAll Tryd.prog os Rows.protoBlanksRow.laid).forCall (fun _ _ => 0) ⟨#[], #[.string .empty, .int .i64 0], []⟩).memory := by
  rw [MakeChecks.laidMetH_plain _ _ _ (by kernel_rfl)]
  exact laidMet_laidAll _ (by kernel_rfl) (by kernel_rfl)
theorem reads (os : Os) {H : Type} (enc : TypeId × Value → H) : ∃ places, DataW.whole enc Tryd.prog ((World.laidAll Tryd.prog os Rows.protoBlanksRow.laid).forCall (fun _ _ => 0) ⟨#[], #[.string .empty, .int .i64 0], []⟩).memory Tryd.f4.params.toList Rows.protoBlanksSpec.vars false (#[.string .empty, .int .i64 0] : Array Value).toList 8 = some ([.lit (.string []), .lit (.int .i64 0)], [], places) := ⟨[], by kernel_rfl⟩
set_option maxRecDepth 100000 in
theorem lifted (os : Os) (started : os.Started) (H : Type) (enc : TypeId × Value → H) (F : Stop.Interp) :
    ReturnsInHanded {} Tryd.checked os 4 .any ((OpenSpec.ofChange Rows.protoBlanksSpec).preRow enc Tryd.prog Tryd.f4 Rows.protoBlanksRow.domain false Rows.protoBlanksRow.laid) (((OpenSpec.ofChange Rows.protoBlanksSpec).at F).post enc Tryd.prog Tryd.f4 false true false false) := by
  obtain ⟨places, hx⟩ := reads os enc
  refine returnsInHanded_of_row (C := Tryd.checked) (s := OpenSpec.ofChange Rows.protoBlanksSpec) own started (by kernel_rfl) Tryd.func4
    (witness_row_at (enc := enc) (C := Tryd.checked) false (World.laidAll Tryd.prog os Rows.protoBlanksRow.laid) #[.string .empty, .int .i64 0] (World.laidAll_os _ _ _) (by kernel_rfl) (by kernel_rfl) (by kernel_rfl)
      (OpenSpec.preRow_of_cond 8 hx (by kernel_rfl) (fun k hk => by cases hk) (by kernel_rfl) (laid_met os))) ?_
  intro W base args ds gs before hval hW _ _ hsz hL _ _
  exact contract H enc W base args ds gs before hval hW hsz hL
theorem said : Rows.ProtoBlanksSaid :=
  OpenClaim.holds_of_cond 4 Tryd.f4 rfl rfl rfl rfl rfl rfl rfl ⟨rfl, rfl, rfl, rfl, rfl⟩ rfl rfl rfl rfl rfl (by kernel_rfl) Tryd.func4 (by kernel_rfl)
    (of_decide_eq_true (by kernel_rfl)) (by unfold Func.isWrapper; first | (rw [if_pos (by decide +kernel)]; kernel_rfl) | (rw [if_neg (by decide +kernel)]; exact ⟨rfl, rfl⟩))
    (fun os started H enc _ F => by rw [OpenClaim.pre_eq_preRow]; exact lifted os started H enc F)
theorem plain (f : FuncId) (fn : Func) (hf : Tryd.pinned.checked.prog.funcNamed "truffle/trufflelaw07.ProtoBlanks" = some f) (hfn : Tryd.pinned.checked.prog.funcs[f]? = some fn) :
    true = Tryd.pinned.checked.prog.looks [] ∧ ∀ (j : Nat) t, fn.params[j]? = some t → Tryd.pinned.checked.prog.wantsStandIn t = false := by
  obtain rfl : f = 4 := Option.some.inj ((show Tryd.prog.funcNamed "truffle/trufflelaw07.ProtoBlanks" = some 4 by kernel_rfl).symm.trans hf) |>.symm
  obtain rfl : fn = Tryd.f4 := (Option.some.inj (Tryd.func4.symm.trans hfn)).symm
  refine ⟨by kernel_rfl, fun j t ht => ?_⟩
  have hall : (Tryd.f4.params.toList.all fun t => !Tryd.prog.wantsStandIn t) = true := by kernel_rfl
  have := List.all_eq_true.1 hall t (Array.mem_toList_iff.2 (Array.mem_of_getElem? ht))
  exact (show Tryd.prog.wantsStandIn t = false by simpa using this)
theorem proved : Rows.ProtoBlanksCardSaid :=
  Claim7.holds_tied_plain_at .later [] _ _ _ _ said (fun _ h => by cases h) (by kernel_rfl) (fun _ h => by cases h) protoBlanks_row_tie rfl ⟨rfl, rfl⟩ (by kernel_rfl) rfl plain (by kernel_rfl)

end Go.Proofs.YtldgfepimegbmaaDoor.lawProtoBlanks
