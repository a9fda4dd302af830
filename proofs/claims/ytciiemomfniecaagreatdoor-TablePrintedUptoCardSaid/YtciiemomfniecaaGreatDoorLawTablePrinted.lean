/-
  What is resolved of a file is resolved of its text, if that may be read, and is the same file: the statement TablePrinted in its second form. Condition: what the law reads is of bulk at most 1048576 (values and letters).
-/
import Derived.Test.YtciiemomfniecaaGreatDoorTabAwake
import Derived.Test.YtciiemomfniecaaGreatDoorProBare
import Derived.Test.YtciiemomfniecaaGreatDoorTabParIn
import Derived.Test.YtciiemomfniecaaGreatDoorRawPen
import Derived.BigQuiet
import Derived.Deep.DeepCutAuto
namespace Go.Proofs.YtciiemomfniecaaGreatDoor.lawTablePrinted
set_option maxRecDepth 100000
open Go.ChangeShapes Go.WideShapes Go.ChangeAt Go.RowKit

theorem wpList_load_flg {ops : Array Oper} {rest : List Oper} {o : Oper} {a : Act} {w : World} {Q : Exit → Act → World → Prop} (hw : Region.wanted o (yielded ops a.tmps) = true) (x : Operand) (ho : o.op = .load 25 x)
    (g : Nat) (u0 u1 : Value) (hx : a.eval x = .pointer (some ⟨g, 0, none⟩)) (t : TypeId) (fr : Nat × Nat) (hg : w.heap[g]? = some (.cells #[u0, u1] t fr))
    (h : wpList Tryz.prog ops Q rest (a.put o.dst (.agg #[u0, u1])) w) : wpList Tryz.prog ops Q (o :: rest) a w :=
  wpList_load_row_g hw 25 x ho g hx t _ fr _ hg Tryz.underlying25 rfl infoFl h
theorem read_same {f : Fl} {X : List UInt8} (h0 : parE X = 0) (hb : bareFl f = bareFl (parF X)) : readS X = tabS f ∧ readE X = tabE f := by
  unfold readS readE
  rw [if_pos h0, if_pos h0]
  obtain ⟨a, b⟩ := tab_bare hb
  exact ⟨a.symm, b.symm⟩
set_option maxRecDepth 1000000 in
set_option maxHeartbeats 4000000 in
theorem walk (w : World) (L : LT w) (f : Fl) (vM vE : Value) (fa : FAt w.heap.size w f vM vE) (fi : FlIn f) (fs : FlSmall 1048576 f) :
    Calls Tryz.prog 6 #[.agg #[vM, vE]] w fun e w' => e = .returned (.bool true) ∧ Below w.heap.size w w' := by
  have fa0 := fa
  have HFA := Lib.hid fa
  obtain ⟨xs, ys, ⟨A1, q1, rfl, s1, b1⟩, h2, ⟨A2, q2, rfl, s2, b2⟩, h4⟩ := fa
  have HL := Lib.hid L
  have HRES := Lib.hid (fun (wx : World) (hb : Below w.heap.size w wx) => resolve_any w.heap.size f (.slice A1 f.M.length q1) (.slice A2 f.E.length q2) wx hb.size (fa0.low (Low.below hb (Nat.le_refl _))) fi (L.tabs.on hb))
  have HPRI := Lib.hid (fun (hf : fewF f = true) (wx : World) (hb : Below w.heap.size w wx) => print_raw f (.slice A1 f.M.length q1) (.slice A2 f.E.length q2) wx (L.laid.on hb) ((fa0.low (Low.below hb (Nat.le_refl _))).mono hb.size) (file_ok fs fi hf) (file_le fs fi hf))
  clear s1 h2 s2 h4 L fi fa0 fs b1 b2
  have hb0 := below_new w (.cells #[.slice A1 f.M.length q1, .slice A2 f.E.length q2] 25)
  have hx0 : (w.alloc (.cells #[.slice A1 f.M.length q1, .slice A2 f.E.length q2] 25)).heap[w.heap.size]? = some (.cells #[.slice A1 f.M.length q1, .slice A2 f.E.length q2] 25 (0, 0)) := heap_alloc_new w _
  go_enter Tryz.func6, Tryz.ntmps6
  go_wp2_with fail
  refine (awake8_any _ (HL.out.on hb0)).mono ?_
  rintro e w1 ⟨rfl, hb1⟩
  have hx1 := (hb1.block _ (by simp)).trans hx0
  have hbw1 := below_then hb0 hb1
  clear hb0 hx0 hb1
  go_wp2_with (refine wpList_load_fl rfl _ rfl w.heap.size _ _ rfl _ _ hx1 ?_)
  refine (few_any w.heap.size f _ _ w1 hbw1.size (HFA.out.low (Low.below hbw1 (Nat.le_refl _)))).mono ?_
  rintro e w2 ⟨rfl, hb2⟩
  have hx2 := (hb2.block _ (Array.getElem?_eq_some_iff.1 hx1).1).trans hx1
  have hbw2 := below_then hbw1 hb2
  clear hx1 hb2 hbw1
  obtain ⟨fw, hfw⟩ : ∃ b, fewF f = b := ⟨_, rfl⟩
  rw [hfw]
  cases fw with
  | false =>
    clear hfw
    go_wp2
    go_ret
    exact ⟨rfl, hbw2⟩
  | true =>
  have HP2 := Lib.hid (HPRI.out hfw)
  clear hfw HPRI
  go_wp2_with (refine wpList_load_fl rfl _ rfl w.heap.size _ _ rfl _ _ hx2 ?_)
  refine (HP2.out _ hbw2).mono ?_
  obtain ⟨X, hX⟩ : ∃ X, fileB f = X := ⟨_, rfl⟩
  rw [hX]
  clear hX HP2
  rintro e w3 ⟨rfl, hb3⟩
  have hx3 := (hb3.block _ (Array.getElem?_eq_some_iff.1 hx2).1).trans hx2
  have hbw3 := below_then hbw2 hb3
  clear hx2 hb3 hbw2
  by_cases hlen : 5000 < X.length
  · have h5 : decide ((5000 : Int) < (X.length : Int)) = true := by rw [decide_eq_true_eq]; omega
    have hsz := txt_size X
    clear hlen
    go_wp2
    go_ret
    exact ⟨rfl, hbw3⟩
  · have h5 : decide ((5000 : Int) < (X.length : Int)) = false := by rw [decide_eq_false_iff_not]; omega
    have hsz := txt_size X
    have HPAR := Lib.hid (fun (wx : World) (hl : Laid wx) => parse_any (txt X) (by rw [txt_size]; omega) wx hl)
    have HRD := Lib.hid (fun (wx : World) (hl : LT wx) => readT_any (txt X) (by rw [txt_size]; omega) wx hl (flin_par _))
    rw [txt_list] at HPAR HRD
    have HSAME := Lib.hid (fun (h0 : parE X = 0) (hb : bareFl f = bareFl (parF X)) => read_same h0 hb)
    obtain ⟨F, hF⟩ : ∃ F, parF X = F := ⟨_, rfl⟩
    obtain ⟨e0, he0⟩ : ∃ F, parE X = F := ⟨_, rfl⟩
    obtain ⟨p0, hp0⟩ : ∃ F, parAt X = F := ⟨_, rfl⟩
    obtain ⟨S1, hS1⟩ : ∃ F, readS X = F := ⟨_, rfl⟩
    obtain ⟨E1, hE1⟩ : ∃ F, readE X = F := ⟨_, rfl⟩
    obtain ⟨P1, hP1⟩ : ∃ F, readAt X = F := ⟨_, rfl⟩
    rw [hF, he0, hp0] at HPAR
    rw [hS1, hE1, hP1] at HRD
    rw [hF, he0, hS1, hE1] at HSAME
    unfold ParPost at HPAR
    unfold ReadPost at HRD
    clear hF he0 hp0 hS1 hE1 hP1 hlen
    have HBW3 := Lib.hid hbw3
    clear hbw3
    go_wp2_with fail
    refine (HPAR.out _ (HL.out.on HBW3.out).laid).mono ?_
    rintro e w4 ⟨vM4, vE4, rfl, hr4, hb4⟩
    have hx4 := (hb4.block _ (Array.getElem?_eq_some_iff.1 hx3).1).trans hx3
    have HG4 := Lib.hid hr4.at
    obtain ⟨xs4, ys4, k1, k2, k3, k4⟩ := hr4
    obtain ⟨B1, r1, rfl, -⟩ := Sl.of_own k1
    obtain ⟨B2, r2, rfl, -⟩ := Sl.of_own k3
    have hbw4 := below_then HBW3.out hb4
    have hb5 := below_new w4 (.cells #[.slice B1 F.M.length r1, .slice B2 F.E.length r2] 25)
    have hg5 : (w4.alloc (.cells #[.slice B1 F.M.length r1, .slice B2 F.E.length r2] 25)).heap[w4.heap.size]? = some (.cells #[.slice B1 F.M.length r1, .slice B2 F.E.length r2] 25 (0, 0)) := heap_alloc_new w4 _
    have hx5 := (hb5.block _ (Array.getElem?_eq_some_iff.1 hx4).1).trans hx4
    have HB5 := Lib.hid (below_then hbw4 hb5)
    have HG5 := Lib.hid ((HG4.out.low (Low.below hb5 (Nat.le_refl _))).mono hb5.size)
    have HF5 := Lib.hid ((HFA.out.low (Low.below HB5.out (Nat.le_refl _))).mono HB5.out.size)
    clear hx3 hb4 k1 k2 k3 k4 hbw4 HBW3 HPAR
    by_cases he : e0 = 0
    · subst he
      have hE2 : (((0 : Nat) : Int) != 0) = false := rfl
      go_wp2_with (first
        | (refine wpList_load_flg rfl _ rfl w.heap.size _ _ rfl _ _ hx5 ?_)
        | (refine wpList_load_flg rfl _ rfl w4.heap.size _ _ rfl _ _ hg5 ?_))
      refine (rsame_any _ f F _ _ _ _ _ (Nat.le_refl _) HF5.out HG5.out).mono ?_
      rintro e w6 ⟨b, rfl, hbb, hb6⟩
      have hx6 := (hb6.block _ (Array.getElem?_eq_some_iff.1 hx5).1).trans hx5
      have hbw6 := below_then HB5.out hb6
      clear hx5 hg5 hb6 hb5
      cases b with
      | false =>
        go_wp2
        go_ret
        exact ⟨rfl, hbw6⟩
      | true =>
        obtain ⟨rfl, rfl⟩ := HSAME.out (by trivial) (hbb (by trivial))
        clear HSAME hbb
        go_wp2_with (refine wpList_load_fl rfl _ rfl w.heap.size _ _ rfl _ _ hx6 ?_)
        refine (HRES.out _ hbw6).mono ?_
        obtain ⟨S, hS⟩ : ∃ S, tabS f = S := ⟨_, rfl⟩
        obtain ⟨E, hE⟩ : ∃ S, tabE f = S := ⟨_, rfl⟩
        obtain ⟨P, hP⟩ : ∃ S, tabAt f = S := ⟨_, rfl⟩
        unfold ResPost
        rw [hS, hE, hP]
        rw [hS, hE] at HRD
        clear hS hE hP HRES
        rintro e w7 ⟨vM7, vE7, rfl, hs7, hb7⟩
        have HS7 := Lib.hid hs7.at
        obtain ⟨xs7, ys7, k1, k2, k3, k4⟩ := hs7
        obtain ⟨C1, t1, rfl, -⟩ := Sl.of_own k1
        obtain ⟨C2, t2, rfl, -⟩ := Sl.of_own k3
        have hb8 := below_new w7 (.cells #[.slice C1 S.M.length t1, .slice C2 S.E.length t2] 29)
        have hs8 : (w7.alloc (.cells #[.slice C1 S.M.length t1, .slice C2 S.E.length t2] 29)).heap[w7.heap.size]? = some (.cells #[.slice C1 S.M.length t1, .slice C2 S.E.length t2] 29 (0, 0)) := heap_alloc_new w7 _
        have hbw8 := below_then (below_then hbw6 hb7) hb8
        have HS8 := Lib.hid ((HS7.out.low (Low.below hb8 (Nat.le_refl _))).mono hb8.size)
        clear hx6 hb7 k1 k2 k3 k4 hbw6 hb8
        go_wp2_with fail
        refine (HRD.out _ (HL.out.on hbw8)).mono ?_
        rintro e w9 ⟨vM9, vE9, rfl, hs9, hb9⟩
        have HS9 := Lib.hid hs9.at
        obtain ⟨xs9, ys9, k1, k2, k3, k4⟩ := hs9
        obtain ⟨D1, u1, rfl, -⟩ := Sl.of_own k1
        obtain ⟨D2, u2, rfl, -⟩ := Sl.of_own k3
        have hs9 := (hb9.block _ (Array.getElem?_eq_some_iff.1 hs8).1).trans hs8
        have hbw9 := below_then hbw8 hb9
        have HS89 := Lib.hid ((HS8.out.low (Low.below hb9 (Nat.le_refl _))).mono hb9.size)
        have hb10 := below_new w9 (.cells #[.slice D1 S.M.length u1, .slice D2 S.E.length u2] 29)
        have hu10 : (w9.alloc (.cells #[.slice D1 S.M.length u1, .slice D2 S.E.length u2] 29)).heap[w9.heap.size]? = some (.cells #[.slice D1 S.M.length u1, .slice D2 S.E.length u2] 29 (0, 0)) := heap_alloc_new w9 _
        have hs10 := (hb10.block _ (Array.getElem?_eq_some_iff.1 hs9).1).trans hs9
        have HB10 := Lib.hid (below_then hbw9 hb10)
        have HT1 := Lib.hid ((HS89.out.low (Low.below hb10 (Nat.le_refl _))).mono hb10.size)
        have HT2 := Lib.hid ((HS9.out.low (Low.below hb10 (Nat.le_refl _))).mono hb10.size)
        clear hs8 hs9 hb9 hb10 hbw8 hbw9 k1 k2 k3 k4
        have hee : ((E : Int) == (E : Int)) = true := by simp
        go_wp2_with (first
          | (refine wpList_load_scg rfl _ rfl w7.heap.size _ _ rfl _ _ hs10 ?_)
          | (refine wpList_load_scg rfl _ rfl w9.heap.size _ _ rfl _ _ hu10 ?_))
        refine (sameT_any _ S S _ _ _ _ _ (Nat.le_refl _) HT1.out HT2.out).mono ?_
        rintro e w11 ⟨rfl, hb11⟩
        have hbw11 := below_then HB10.out hb11
        have hss : decide (S = S) = true := by simp
        rw [hss]
        go_wp2
        go_ret
        exact ⟨rfl, hbw11⟩
    · have hE2 : ((e0 : Int) != 0) = true := by rw [bne_iff_ne]; omega
      clear he
      go_wp2
      go_ret
      exact ⟨rfl, HB5.out⟩

theorem contract (H : Type) (enc : TypeId × Value → H) (W : World) (base : Nat) (args : Array Value) (ds gs : List (DataW H)) (before : List MemPlace)
    (hval0 : ∀ (j : Nat) t v, Tryz.f6.params[j]? = some t → args[j]? = some v → Value.okWide Tryz.prog W .any base t v)
    (hW : DataW.Whole enc Tryz.prog Tryz.f6.params.toList Rows.tablePrintedSpec.vars false W args.toList ds gs before) (hcond : Rows.uptoSmall H (ds ++ gs) = true) (hsz : (DataW.weightsEach Tryz.prog (Tryz.f6.params.toList ++ (Rows.OpenSpec.upto Rows.tablePrintedSpec).bare.plain.varTypes Tryz.prog) (ds ++ gs)).all (· ≤ reachBytes) = true) (hL : laidMetH Tryz.prog Rows.tablePrintedUptoRow.laid W) :
    Calls Tryz.prog 6 args W fun e W2 => ∃ v, e = .returned v ∧ Rows.tablePrintedSpec.post enc Tryz.prog Tryz.f6 false true false false W args v W2 := by
  have hval : ∀ (j : Nat) t v, Tryz.f6.params[j]? = some t → args[j]? = some v → Value.okWide Tryz.prog W .any base t v := hval0
  have T := laid_of hL
  have hW2 := hW
  obtain ⟨p, q, hA0, hV, rfl, hfz, hnd⟩ := hW
  have hA : DataW.TrodAll enc Tryz.prog W 0 (fun _ => true) true Tryz.f6.params.toList args.toList ds p := hA0
  rw [Tryz.params6] at hA hval
  obtain ⟨v0, vs0, d0, ds0, p0, q0, hargs, rfl, rfl, h0, r0⟩ := trodAll_cons hA
  obtain ⟨rfl, rfl, rfl⟩ := trodAll_nil r0
  obtain rfl : args = #[v0] := by cases args; simp_all
  obtain ⟨rfl, rfl⟩ := trodVars_none hV
  obtain ⟨fl0, vM0, vE0, rfl, fa0, fi0⟩ := open_file (hval 0 25 v0 rfl rfl) h0
  have hbulk := of_decide_eq_true hcond
  refine (walk W T fl0 vM0 vE0 fa0 fi0 (small_upto fa0 h0 (by simpa [Rows.uptoBulkAll] using hbulk))).mono fun e W2 ⟨he, hb⟩ => ?_
  subst he
  exact ⟨_, rfl, law_post (by kernel_rfl) rfl rfl (by decide +kernel) hW2 hb⟩
theorem laid_met (os : Os) : laidMetH Tryz.prog Rows.tablePrintedUptoRow.laid ((World.laidAll Tryz.prog os Rows.tablePrintedUptoRow.laid).forCall (fun _ _ => 0) ⟨#[], #[.agg #[.slice none 0 0, .slice none 0 0]], []⟩).memory := by
  rw [MakeChecks.laidMetH_plain _ _ _ (by kernel_rfl)]
  exact laidMet_laidAll _ (by kernel_rfl) (by kernel_rfl)
theorem reads (os : Os) {H : Type} (enc : TypeId × Value → H) : ∃ places, DataW.whole enc Tryz.prog ((World.laidAll Tryz.prog os Rows.tablePrintedUptoRow.laid).forCall (fun _ _ => 0) ⟨#[], #[.agg #[.slice none 0 0, .slice none 0 0]], []⟩).memory Tryz.f6.params.toList Rows.tablePrintedSpec.vars false (#[.agg #[.slice none 0 0, .slice none 0 0]] : Array Value).toList 8 = some ([.agg [.nil, .nil]], [], places) := ⟨[], by kernel_rfl⟩
set_option maxRecDepth 100000 in
theorem lifted (os : Os) (started : os.Started) (H : Type) (enc : TypeId × Value → H) (F : Stop.Interp) :
    ReturnsInHanded {} Tryz.checked os 6 .any ((Rows.OpenSpec.upto Rows.tablePrintedSpec).preRow enc Tryz.prog Tryz.f6 Rows.tablePrintedUptoRow.domain false Rows.tablePrintedUptoRow.laid) (((Rows.OpenSpec.upto Rows.tablePrintedSpec).at F).post enc Tryz.prog Tryz.f6 false true false false) := by
  obtain ⟨places, hx⟩ := reads os enc
  refine returnsInHanded_of_row (C := Tryz.checked) (s := Rows.OpenSpec.upto Rows.tablePrintedSpec) own started (by kernel_rfl) Tryz.func6
    (witness_row_at (enc := enc) (C := Tryz.checked) false (World.laidAll Tryz.prog os Rows.tablePrintedUptoRow.laid) #[.agg #[.slice none 0 0, .slice none 0 0]] (World.laidAll_os _ _ _) (by kernel_rfl) (by kernel_rfl) (by kernel_rfl)
      (OpenSpec.preRow_of_cond 8 hx (by kernel_rfl) (fun k hk => by cases hk; kernel_rfl) (by kernel_rfl) (laid_met os))) ?_
  intro W base args ds gs before hval hW _ hcond hsz hL _ _
  exact contract H enc W base args ds gs before hval hW (hcond _ rfl) hsz hL
theorem said : Rows.TablePrintedUptoSaid :=
  OpenClaim.holds_of_cond 6 Tryz.f6 rfl rfl rfl rfl rfl rfl rfl ⟨rfl, rfl, rfl, rfl, rfl⟩ rfl rfl rfl rfl rfl (by kernel_rfl) Tryz.func6 (by kernel_rfl)
    (of_decide_eq_true (by kernel_rfl)) (by unfold Func.isWrapper; first | (rw [if_pos (by decide +kernel)]; kernel_rfl) | (rw [if_neg (by decide +kernel)]; exact ⟨rfl, rfl⟩))
    (fun os started H enc _ F => by rw [OpenClaim.pre_eq_preRow]; exact lifted os started H enc F)
theorem plain (f : FuncId) (fn : Func) (hf : Tryz.pinned.checked.prog.funcNamed "truffle/trufflelaw08.TablePrinted" = some f) (hfn : Tryz.pinned.checked.prog.funcs[f]? = some fn) :
    true = Tryz.pinned.checked.prog.looks [] ∧ ∀ (j : Nat) t, fn.params[j]? = some t → Tryz.pinned.checked.prog.wantsStandIn t = false := by
  obtain rfl : f = 6 := Option.some.inj ((show Tryz.prog.funcNamed "truffle/trufflelaw08.TablePrinted" = some 6 by kernel_rfl).symm.trans hf) |>.symm
  obtain rfl : fn = Tryz.f6 := (Option.some.inj (Tryz.func6.symm.trans hfn)).symm
  refine ⟨by kernel_rfl, fun j t ht => ?_⟩
  have hall : (Tryz.f6.params.toList.all fun t => !Tryz.prog.wantsStandIn t) = true := by kernel_rfl
  have := List.all_eq_true.1 hall t (Array.mem_toList_iff.2 (Array.mem_of_getElem? ht))
  exact (show Tryz.prog.wantsStandIn t = false by simpa using this)
theorem proved : Rows.TablePrintedUptoCardSaid :=
  Claim7.holds_tied_plain_at .later [] _ _ _ _ said (fun _ h => by cases h) (by kernel_rfl) (fun _ h => by cases h) tablePrintedUpto_row_tie rfl ⟨rfl, rfl⟩ (by kernel_rfl) rfl plain (by kernel_rfl)
end Go.Proofs.YtciiemomfniecaaGreatDoor.lawTablePrinted
