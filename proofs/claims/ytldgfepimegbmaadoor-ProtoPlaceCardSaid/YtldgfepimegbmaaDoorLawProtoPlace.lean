/-
  Where a text is told to go wrong a token begins, or it ends; what stands ahead of that ends too soon, or is a file: the statement ProtoPlace, for every text.
-/
import Derived.Test.YtldgfepimegbmaaDoorProPlace
namespace Go.Proofs.YtldgfepimegbmaaDoor.lawProtoPlace
set_option maxRecDepth 100000
open Go.ChangeShapes Go.WideShapes Go.ChangeAt Go.RowKit

def beg (at_ n : Nat) (l : List T) : Bool := decide (at_ = n) || l.any fun t => t.at_ == at_
theorem beq_nat (a b : Nat) : ((a : Int) == (b : Int)) = decide (a = b) := by
  rw [Bool.eq_iff_iff]; simp; omega
theorem beg_next (at_ n : Nat) (l : List T) (k : Nat) (t : T) (h : l[k]? = some t) : beg at_ n (l.take (k + 1)) = (beg at_ n (l.take k) || ((t.at_ : Int) == (at_ : Int))) := by
  unfold beg
  rw [List.take_add_one, h, beq_nat]
  simp only [List.any_append, Option.toList_some, List.any_cons, List.any_nil, Bool.or_false, Bool.or_assoc]
  rfl
set_option maxRecDepth 1000000 in
set_option maxHeartbeats 4000000 in
theorem walk_bad (w : World) (LV : Laid w) (s : ByteArray) (hs0 : s.size ≤ maxLen) (h6 : ¬ 1500 < s.size) (d6 : decide ((1500 : Int) < (s.size : Int)) = false) (hsl : s.data.toList.length = s.size)
    (hpar : ∀ w, Laid w → Calls Tryd.prog 8 #[.string s] w (ParPost (parF s.data.toList) (parAt s.data.toList) (parE s.data.toList) w))
    (hall : ∀ w, Laid w → Calls Tryd.prog 11 #[.string s] w fun e w' => AllPost (toksOf s.data.toList) (allAt Lib.itoa s.data.toList) (errOf s.data.toList) w e w')
    (h0 : errOf s.data.toList = 0) (h1 : okR (run c0 (toksOf s.data.toList)) = false) :
    Calls Tryd.prog 5 #[.string s] w fun e w' => e = .returned (.bool true) ∧ Below w.heap.size w w' := by
  obtain ⟨q1, q2, q3⟩ := place_pure _ h0 h1
  obtain ⟨p1, p2, -⟩ := par_bad h0 h1
  rw [p2] at hpar
  rw [h0] at hall
  have hpar2 := fun w L => parse_any (s.extract 0 (parAt s.data.toList)) (by simp; omega) w L
  have hex : (s.extract 0 (parAt s.data.toList)).data.toList = s.data.toList.take (parAt s.data.toList) := by rw [Lib.extract_data]; simp
  rw [hex] at hpar2
  have hbeg : beg (parAt s.data.toList) s.size (toksOf s.data.toList) = true := by
    unfold beg
    rcases q2 with q2 | ⟨t, ht, hq⟩
    · rw [q2, hsl]; simp
    · have : (toksOf s.data.toList).any (fun t => t.at_ == parAt s.data.toList) = true := List.any_eq_true.2 ⟨t, ht, by simp [hq]⟩
      rw [this]; simp
  rw [hsl] at q1
  have hfew := toks_few s.data.toList
  generalize parE (s.data.toList.take (parAt s.data.toList)) = E2 at *
  generalize parAt (s.data.toList.take (parAt s.data.toList)) = P2 at *
  generalize parF (s.data.toList.take (parAt s.data.toList)) = F2 at *
  generalize parF s.data.toList = F at *
  generalize toksOf s.data.toList = X at *
  generalize allAt Lib.itoa s.data.toList = P at *
  generalize parAt s.data.toList = at_ at *
  have HPAR := Lib.hid hpar
  have HPAR2 := Lib.hid hpar2
  have HALL := Lib.hid hall
  have HBEG := Lib.hid hbeg
  have HQ3 := Lib.hid q3
  have hsli : ∀ w', (Instr.slice 9 (.string s) none (some (.int .i64 at_)) none).run Tryd.prog w' = .ok (.string (s.extract 0 at_)) w' := fun w' => by
    have hrr := run_slice_string_h (P := Tryd.prog) w' 9 s Tryd.underlying9 .i64 (at_ : Int) (by omega) (by omega)
    rw [Int.toNat_natCast] at hrr
    exact hrr
  clear hpar hpar2 hall p1 p2 h0 h1 hsl hex hbeg q2 q3
  obtain ⟨Y, hY⟩ : ∃ Y, Y = s.extract 0 at_ := ⟨_, rfl⟩
  rw [← hY] at hsli HPAR2
  clear hY
  have e1 : decide ((at_ : Int) < 0) = false := by rw [decide_eq_false_iff_not]; omega
  have e2 : decide ((s.size : Int) < (at_ : Int)) = false := by rw [decide_eq_false_iff_not]; omega
  go_enter Tryd.func5, Tryd.ntmps5
  go_wp2_with fail
  refine (awake7_any _ LV).mono ?_
  rintro e w1 ⟨rfl, hb1⟩
  go_wp2_with fail
  refine (HPAR.out _ (LV.on hb1)).mono ?_
  intro e w2 hp2
  obtain ⟨A, c, A', c', rfl, hf2, hb2⟩ := par_open hp2
  have hb3 := below_then hb1 hb2
  clear hp2 hf2
  go_wp2_with fail
  refine (HALL.out _ (LV.on (below_lit hb3 _))).mono ?_
  rintro e w4 ⟨v, rfl, hown, hb4⟩
  obtain ⟨A4, c4, rfl, hr⟩ := SlT.of_own hown
  have hb5 := below_then (below_lit hb3 _) hb4
  clear hown
  go_wp2
  go_loopw [10, 11] (fun b i wr => ∃ k : Nat, i = .int .i64 k ∧ k ≤ X.length ∧ b = .bool (beg at_ s.size (X.take k)) ∧ wr = w4) (fun _ i _ => X.length - (intOf i).toNat)
  case atStart => exact ⟨0, rfl, by omega, by rw [beq_nat]; simp [beg], rfl⟩
  case round =>
    obtain ⟨k, rfl, hk, rfl, rfl⟩ := hrel
    by_cases hlt : k < X.length
    · obtain ⟨ad, x, rfl, _, hx, p0, p1, p2, p3⟩ := hr.at_ hlt
      have hn := beg_next at_ s.size X k x hx
      have HN := Lib.hid hn
      clear hn hx
      cases hbk : beg at_ s.size (X.take k)
      · have HBK := Lib.hid hbk
        clear hbk
        go_wp2
        exact ⟨⟨k + 1, by go_num, by omega, by rw [HN.out, HBK.out]; rfl, trivial⟩, by simp [intOf]; omega⟩
      · have HBK := Lib.hid hbk
        clear hbk
        go_wp2
        exact ⟨⟨k + 1, by go_num, by omega, by rw [HN.out, HBK.out]; rfl, trivial⟩, by simp [intOf]; omega⟩
    · obtain rfl : k = X.length := by omega
      rw [List.take_length, HBEG.out]
      go_wp2_with fail
      refine (HPAR2.out _ (LV.on hb5)).mono ?_
      intro e w6 hp6
      obtain ⟨A6, c6, A6', c6', rfl, hf6, hb6⟩ := par_open hp6
      have hb7 := below_lit (below_then hb5 hb6) (.cells #[.slice A6 F2.M.length c6, .slice A6' F2.E.length c6'] 26)
      clear hp6 hf6
      rcases HQ3.out with rfl | ⟨rfl, rfl⟩
      all_goals
        go_wp2
        go_ret
        exact ⟨rfl, hb7⟩
set_option maxRecDepth 1000000 in
set_option maxHeartbeats 4000000 in
theorem walk_ok (w : World) (LV : Laid w) (s : ByteArray) (hs0 : s.size ≤ maxLen) (h6 : ¬ 1500 < s.size) (d6 : decide ((1500 : Int) < (s.size : Int)) = false) (hsl : s.data.toList.length = s.size)
    (hpar : ∀ w, Laid w → Calls Tryd.prog 8 #[.string s] w (ParPost (parF s.data.toList) (parAt s.data.toList) (parE s.data.toList) w))
    (hall : ∀ w, Laid w → Calls Tryd.prog 11 #[.string s] w fun e w' => AllPost (toksOf s.data.toList) (allAt Lib.itoa s.data.toList) (errOf s.data.toList) w e w')
    (h0 : errOf s.data.toList = 0) (h1 : okR (run c0 (toksOf s.data.toList)) = true) :
    Calls Tryd.prog 5 #[.string s] w fun e w' => e = .returned (.bool true) ∧ Below w.heap.size w w' := by
  obtain ⟨p1, p2, p3⟩ := par_ok h0 h1
  rw [p2, p3, hsl] at hpar
  rw [h0] at hall
  have HPAR := Lib.hid hpar
  have HALL := Lib.hid hall
  generalize parF s.data.toList = F at *
  generalize toksOf s.data.toList = X at *
  generalize allAt Lib.itoa s.data.toList = P at *
  clear hpar hall p1 p2 p3 h0 h1 hsl
  go_enter Tryd.func5, Tryd.ntmps5
  go_wp2_with fail
  refine (awake7_any _ LV).mono ?_
  rintro e w1 ⟨rfl, hb1⟩
  go_wp2_with fail
  refine (HPAR.out _ (LV.on hb1)).mono ?_
  intro e w2 hp2
  obtain ⟨A, c, A', c', rfl, hf2, hb2⟩ := par_open hp2
  have hb3 := below_then hb1 hb2
  clear hp2 hf2
  go_wp2_with fail
  refine (HALL.out _ (LV.on (below_lit hb3 _))).mono ?_
  rintro e w4 ⟨v, rfl, hown, hb4⟩
  obtain ⟨A4, c4, rfl, hr⟩ := SlT.of_own hown
  have hb5 := below_then (below_lit hb3 _) hb4
  clear hown hr
  go_wp2
  go_ret
  exact ⟨rfl, hb5⟩
set_option maxRecDepth 1000000 in
set_option maxHeartbeats 4000000 in
theorem walk_err (w : World) (LV : Laid w) (s : ByteArray) (hs0 : s.size ≤ maxLen) (h6 : ¬ 1500 < s.size) (d6 : decide ((1500 : Int) < (s.size : Int)) = false) (hsl : s.data.toList.length = s.size)
    (hpar : ∀ w, Laid w → Calls Tryd.prog 8 #[.string s] w (ParPost (parF s.data.toList) (parAt s.data.toList) (parE s.data.toList) w))
    (hall : ∀ w, Laid w → Calls Tryd.prog 11 #[.string s] w fun e w' => AllPost (toksOf s.data.toList) (allAt Lib.itoa s.data.toList) (errOf s.data.toList) w e w')
    (h0 : errOf s.data.toList ≠ 0) :
    Calls Tryd.prog 5 #[.string s] w fun e w' => e = .returned (.bool true) ∧ Below w.heap.size w w' := by
  obtain ⟨p1, p2, p3⟩ := par_err h0
  rcases all_cases (it := Lib.itoa) s.data.toList with ⟨c1, c2, c3, c4⟩ | ⟨c1, c2, c3⟩
  · exact absurd c1 h0
  rw [p2, p3] at hpar
  rw [hsl] at c2
  have hee : errOf s.data.toList = 4 ∨ errOf s.data.toList = 2 := c3
  generalize parF s.data.toList = F at *
  generalize toksOf s.data.toList = X at *
  generalize allAt Lib.itoa s.data.toList = P at *
  generalize errOf s.data.toList = E at *
  have HPAR := Lib.hid hpar
  have HALL := Lib.hid hall
  have HE := Lib.hid hee
  have e1 : decide ((P : Int) < 0) = false := by rw [decide_eq_false_iff_not]; omega
  have e2 : decide ((s.size : Int) < (P : Int)) = false := by rw [decide_eq_false_iff_not]; omega
  clear hpar hall p1 p2 p3 h0 hsl c1 c3 hee
  rcases HE.out with rfl | rfl
  all_goals
    go_enter Tryd.func5, Tryd.ntmps5
    go_wp2_with fail
    refine (awake7_any _ LV).mono ?_
    rintro e w1 ⟨rfl, hb1⟩
    go_wp2_with fail
    refine (HPAR.out _ (LV.on hb1)).mono ?_
    intro e w2 hp2
    obtain ⟨A, c, A', c', rfl, hf2, hb2⟩ := par_open hp2
    have hb3 := below_then hb1 hb2
    clear hp2 hf2
    go_wp2_with fail
    refine (HALL.out _ (LV.on (below_lit hb3 _))).mono ?_
    rintro e w4 ⟨v, rfl, hown, hb4⟩
    obtain ⟨A4, c4, rfl, hr⟩ := SlT.of_own hown
    have hb5 := below_then (below_lit hb3 _) hb4
    clear hown hr
    go_wp2
    go_ret
    exact ⟨rfl, hb5⟩

set_option maxRecDepth 1000000 in
set_option maxHeartbeats 4000000 in
theorem walk (w : World) (LV : Laid w) (s : ByteArray) (hs0 : s.size ≤ maxLen) :
    Calls Tryd.prog 5 #[.string s] w fun e w' => e = .returned (.bool true) ∧ Below w.heap.size w w' := by
  by_cases h6 : 1500 < s.size
  · have d6 : decide ((1500 : Int) < (s.size : Int)) = true := by rw [decide_eq_true_eq]; omega
    go_enter Tryd.func5, Tryd.ntmps5
    go_wp2_with fail
    refine (awake7_any _ LV).mono ?_
    rintro e w1 ⟨rfl, hb1⟩
    go_wp2
    go_ret
    exact ⟨rfl, hb1⟩
  · have d6 : decide ((1500 : Int) < (s.size : Int)) = false := by rw [decide_eq_false_iff_not]; omega
    have hsl : s.data.toList.length = s.size := by simp
    have hpar := fun w L => parse_any s (by omega) w L
    have hall := fun w L => all_any s (by omega) w L
    change ∀ w, Laid w → Calls Tryd.prog _ _ w fun e w' => AllPost (toksOf s.data.toList) (allAt Lib.itoa s.data.toList) (errOf s.data.toList) w e w' at hall
    by_cases h0 : errOf s.data.toList = 0
    · cases h1 : okR (run c0 (toksOf s.data.toList)) with
      | true => exact walk_ok w LV s hs0 h6 d6 hsl hpar hall h0 h1
      | false => exact walk_bad w LV s hs0 h6 d6 hsl hpar hall h0 h1
    · exact walk_err w LV s hs0 h6 d6 hsl hpar hall h0

theorem contract (H : Type) (enc : TypeId × Value → H) (W : World) (base : Nat) (args : Array Value) (ds gs : List (DataW H)) (before : List MemPlace)
    (hval0 : ∀ (j : Nat) t v, Tryd.f5.params[j]? = some t → args[j]? = some v → Value.okWide Tryd.prog W .any base t v)
    (hW : DataW.Whole enc Tryd.prog Tryd.f5.params.toList Rows.protoPlaceSpec.vars false W args.toList ds gs before) (hsz : (DataW.weightsEach Tryd.prog (Tryd.f5.params.toList ++ (OpenSpec.ofChange Rows.protoPlaceSpec).bare.plain.varTypes Tryd.prog) (ds ++ gs)).all (· ≤ reachBytes) = true) (hL : laidMetH Tryd.prog Rows.protoPlaceRow.laid W) :
    Calls Tryd.prog 5 args W fun e W2 => ∃ v, e = .returned v ∧ Rows.protoPlaceSpec.post enc Tryd.prog Tryd.f5 false true false false W args v W2 := by
  have hval : ∀ (j : Nat) t v, Tryd.f5.params[j]? = some t → args[j]? = some v → Value.okWide Tryd.prog W .any base t v := hval0
  have T := laid_of hL
  have hW2 := hW
  obtain ⟨p, q, hA0, hV, rfl, hfz, hnd⟩ := hW
  have hA : DataW.TrodAll enc Tryd.prog W 0 (fun _ => true) true Tryd.f5.params.toList args.toList ds p := hA0
  rw [Tryd.params5] at hA hval
  obtain ⟨v0, vs0, d0, ds0, p0, q0, hargs, rfl, rfl, h0, r0⟩ := trodAll_cons hA
  obtain ⟨rfl, rfl, rfl⟩ := trodAll_nil r0
  obtain rfl : args = #[v0] := by cases args; simp_all
  obtain ⟨rfl, rfl⟩ := trodVars_none hV
  obtain ⟨s0, rfl, rfl, rfl, b0⟩ := Go.ChangeMaps.open_string Tryd.underlying9 (hval 0 9 v0 rfl rfl) h0
  refine (walk W T s0 b0).mono fun e W2 ⟨he, hb⟩ => ?_
  subst he
  exact ⟨_, rfl, law_post (by kernel_rfl) rfl rfl (by decide +kernel) hW2 hb⟩
theorem laid_met (os : Os) : laidMetH Tryd.prog Rows.protoPlaceRow.laid ((World.laidAll Tryd.prog os Rows.protoPlaceRow.laid).forCall (fun _ _ => 0) ⟨#[], #[.string .empty], []⟩).memory := by
  rw [MakeChecks.laidMetH_plain _ _ _ (by kernel_rfl)]
  exact laidMet_laidAll _ (by kernel_rfl) (by kernel_rfl)
theorem reads (os : Os) {H : Type} (enc : TypeId × Value → H) : ∃ places, DataW.whole enc Tryd.prog ((World.laidAll Tryd.prog os Rows.protoPlaceRow.laid).forCall (fun _ _ => 0) ⟨#[], #[.string .empty], []⟩).memory Tryd.f5.params.toList Rows.protoPlaceSpec.vars false (#[.string .empty] : Array Value).toList 8 = some ([.lit (.string [])], [], places) := ⟨[], by kernel_rfl⟩
set_option maxRecDepth 100000 in
theorem lifted (os : Os) (started : os.Started) (H : Type) (enc : TypeId × Value → H) (F : Stop.Interp) :
    ReturnsInHanded {} Tryd.checked os 5 .any ((OpenSpec.ofChange Rows.protoPlaceSpec).preRow enc Tryd.prog Tryd.f5 Rows.protoPlaceRow.domain false Rows.protoPlaceRow.laid) (((OpenSpec.ofChange Rows.protoPlaceSpec).at F).post enc Tryd.prog Tryd.f5 false true false false) := by
  obtain ⟨places, hx⟩ := reads os enc
  refine returnsInHanded_of_row (C := Tryd.checked) (s := OpenSpec.ofChange Rows.protoPlaceSpec) own started (by kernel_rfl) Tryd.func5
    (witness_row_at (enc := enc) (C := Tryd.checked) false (World.laidAll Tryd.prog os Rows.protoPlaceRow.laid) #[.string .empty] (World.laidAll_os _ _ _) (by kernel_rfl) (by kernel_rfl) (by kernel_rfl)
      (OpenSpec.preRow_of_cond 8 hx (by kernel_rfl) (fun k hk => by cases hk) (by kernel_rfl) (laid_met os))) ?_
  intro W base args ds gs before hval hW _ _ hsz hL _ _
  exact contract H enc W base args ds gs before hval hW hsz hL
theorem said : Rows.ProtoPlaceSaid :=
  OpenClaim.holds_of_cond 5 Tryd.f5 rfl rfl rfl rfl rfl rfl rfl ⟨rfl, rfl, rfl, rfl, rfl⟩ rfl rfl rfl rfl rfl (by kernel_rfl) Tryd.func5 (by kernel_rfl)
    (of_decide_eq_true (by kernel_rfl)) (by unfold Func.isWrapper; first | (rw [if_pos (by decide +kernel)]; kernel_rfl) | (rw [if_neg (by decide +kernel)]; exact ⟨rfl, rfl⟩))
    (fun os started H enc _ F => by rw [OpenClaim.pre_eq_preRow]; exact lifted os started H enc F)
theorem plain (f : FuncId) (fn : Func) (hf : Tryd.pinned.checked.prog.funcNamed "truffle/trufflelaw07.ProtoPlace" = some f) (hfn : Tryd.pinned.checked.prog.funcs[f]? = some fn) :
    true = Tryd.pinned.checked.prog.looks [] ∧ ∀ (j : Nat) t, fn.params[j]? = some t → Tryd.pinned.checked.prog.wantsStandIn t = false := by
  obtain rfl : f = 5 := Option.some.inj ((show Tryd.prog.funcNamed "truffle/trufflelaw07.ProtoPlace" = some 5 by kernel_rfl).symm.trans hf) |>.symm
  obtain rfl : fn = Tryd.f5 := (Option.some.inj (Tryd.func5.symm.trans hfn)).symm
  refine ⟨by kernel_rfl, fun j t ht => ?_⟩
  have hall : (Tryd.f5.params.toList.all fun t => !Tryd.prog.wantsStandIn t) = true := by kernel_rfl
  have := List.all_eq_true.1 hall t (Array.mem_toList_iff.2 (Array.mem_of_getElem? ht))
  exact (show Tryd.prog.wantsStandIn t = false by simpa using this)
theorem proved : Rows.ProtoPlaceCardSaid :=
  Claim7.holds_tied_plain_at .later [] _ _ _ _ said (fun _ h => by cases h) (by kernel_rfl) (fun _ h => by cases h) protoPlace_row_tie rfl ⟨rfl, rfl⟩ (by kernel_rfl) rfl plain (by kernel_rfl)

end Go.Proofs.YtldgfepimegbmaaDoor.lawProtoPlace
