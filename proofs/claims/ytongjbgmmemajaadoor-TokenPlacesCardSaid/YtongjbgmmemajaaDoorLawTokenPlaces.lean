/-
  Tokens begin one behind the other, each with the byte of its kind; where a text is told to have none there is a byte of it: the statement TokenPlaces, for every text.
-/
import Derived.Test.YtongjbgmmemajaaDoorTokAwake
import Derived.Test.YtongjbgmmemajaaDoorTokPlaces
namespace Go.Proofs.YtongjbgmmemajaaDoor.lawTokenPlaces
open Go.ChangeShapes Go.WideShapes Go.ChangeAt Go.RowKit

set_option maxRecDepth 1000000 in
set_option maxHeartbeats 2000000 in
theorem walk (w : World) (LV : Laid w) (s : ByteArray) (hs0 : s.size ≤ maxLen) :
    Calls Tryd.prog 6 #[.string s] w fun e w' => e = .returned (.bool true) ∧ Below w.heap.size w w' := by
  by_cases h6 : 6000 < s.size
  · have d6 : decide ((6000 : Int) < (s.size : Int)) = true := by rw [decide_eq_true_eq]; omega
    go_enter Tryd.func6, Tryd.ntmps6
    go_wp2_with fail
    refine (awake_any _ LV).mono ?_
    rintro e w1 ⟨rfl, hb1⟩
    go_wp2
    go_ret
    exact ⟨rfl, hb1⟩
  · have d6 : decide ((6000 : Int) < (s.size : Int)) = false := by rw [decide_eq_false_iff_not]; omega
    have hsl : s.data.toList.length = s.size := by simp
    have hall := fun w L => all_any s (by omega) w L
    rcases all_cases (it := Lib.itoa) s.data.toList with ⟨c1, c2, c3, c4⟩ | ⟨c1, c2, c3⟩
    · rw [c1, c2, hsl] at hall
      have hgood := lex_good (it := Lib.itoa) s.data.toList 0 0
      have hrise := lex_rise (it := Lib.itoa) s.data.toList 0 0
      have hsg := at_list s
      have hpart := fun a b => show s.extract a b = txt ((s.data.toList.drop a).take (b - a)) by rw [← Lib.extract_data, txt_of]
      rw [← c4] at hgood hrise
      rw [hsl] at hgood
      generalize allT Lib.itoa s.data.toList = X at *
      generalize s.data.toList = L at *
      have HA := Lib.hid hall
      have HG := Lib.hid hgood
      have HRI := Lib.hid hrise
      have HSG := Lib.hid hsg
      have HPA := Lib.hid hpart
      have HL := Lib.hid hsl
      clear hall c1 c2 c4 hgood hrise hsg hpart hsl
      go_enter Tryd.func6, Tryd.ntmps6
      go_wp2_with fail
      refine (awake_any _ LV).mono ?_
      rintro e w1 ⟨rfl, hb1⟩
      go_wp2_with fail
      refine (HA.out _ (LV.on hb1)).mono ?_
      rintro e w2 ⟨v, rfl, hown, hb2⟩
      obtain ⟨A, c, rfl, hr⟩ := SlT.of_own hown
      have hb3 := below_then hb1 hb2
      clear hown
      go_wp2
      go_loopw [7, 8] (fun v i wr => ∃ (k : Nat) (last : Int), i = .int .i64 k ∧ v = .int .i64 last ∧ k ≤ X.length ∧ (∀ x, X[k]? = some x → last < (x.at_ : Int)) ∧ Below w2.heap.size w2 wr) (fun _ i _ => X.length - (intOf i).toNat)
      case atStart => exact ⟨0, -1, rfl, rfl, by omega, fun x _ => by omega, Below.refl _ _⟩
      case round =>
        obtain ⟨k, last, rfl, rfl, hk, hlast, hb4⟩ := hrel
        have HLA := Lib.hid hlast
        clear hlast
        by_cases hlt : k < X.length
        · have hr4 := hr.on hb4
          obtain ⟨ad, x, rfl, _, hx, p0, p1, p2, p3⟩ := hr4.at_ hlt
          have HX := Lib.hid hx
          obtain ⟨g1, g2, gd⟩ := HG.out x (List.mem_of_getElem? hx)
          have gl := HLA.out x hx
          have gn : ∀ y, X[k + 1]? = some y → (x.at_ : Int) < (y.at_ : Int) := fun y hy => by
            have hk1 := (List.getElem?_eq_some_iff.1 hx)
            have hk2 := (List.getElem?_eq_some_iff.1 hy)
            have := List.pairwise_iff_getElem.1 HRI.out k (k + 1) hk1.1 hk2.1 (by omega)
            rw [hk1.2, hk2.2] at this
            omega
          have HGN := Lib.hid gn
          obtain ⟨kind, text, num, a⟩ := x
          simp only at p0 p1 p2 p3 g1 g2 gl
          obtain ⟨k1, k2, k3, k4⟩ := gd
          simp only [Nat.sub_zero] at k1 k2 k3 k4
          have ha : a < s.size := by omega
          have HY := HSG.out a ha
          have e1 : decide ((a : Int) ≤ last) = false := by rw [decide_eq_false_iff_not]; omega
          have e2 : decide ((s.size : Int) ≤ (a : Int)) = false := by rw [decide_eq_false_iff_not]; omega
          have e4 : decide ((4 : Int) ≤ (kind : Int)) = false := by rw [decide_eq_false_iff_not]; omega
          have e34 : ((s[a].toNat : Int) == 34) = (s[a] == 34) := u8_eq s[a] 34 (by decide)
          have hh : L[a]? = some 34 ↔ s[a] = 34 := by rw [HY]; simp
          rw [List.head?_drop, hh] at k2
          by_cases hk2 : kind = 2
          · have b5 : ((kind : Int) == 2) = true := by rw [beq_iff_eq]; omega
            have b6 : ((s[a].toNat : Int) == 34) = true := by rw [e34, k2.1 hk2]; rfl
            have b7 : ((kind : Int) != 2) = false := by rw [bne, b5]; rfl
            clear k2 k3 k4 e34 hh hk2 hx
            go_wp2_with fail
            go_quiet (fail)
            go_wp2_with fail
            go_quiet (fail)
            go_wp2
            exact ⟨⟨k + 1, a, by go_num, rfl, by omega, HGN.out, below_draws (below_lit hb4 _) _⟩, by simp [intOf]; omega⟩
          · have b5 : ((kind : Int) == 2) = false := by rw [beq_eq_false_iff_ne]; omega
            have b6 : ((s[a].toNat : Int) == 34) = false := by
              rw [e34, beq_eq_false_iff_ne]
              intro h
              exact hk2 (k2.2 h)
            have b7 : ((kind : Int) != 2) = true := by rw [bne, b5]; rfl
            have ht := k4 hk2
            have hne := k3 hk2
            have htl : a + text.length ≤ s.size := by
              have := congrArg List.length ht
              rw [List.length_take, List.length_drop] at this
              have h2 : L.length = s.size := HL.out
              omega
            have hex : s.extract a (a + text.length) = txt text := by rw [HPA.out, show a + text.length - a = text.length by omega, ht]
            have hys : (txt text).size = text.length := txt_size text
            have hy0 : ((txt text).toList == (⟨#[]⟩ : ByteArray).toList) = false := by
              have := txt_ne (a := text) (b := []) hne
              exact this
            have hy1 : (txt text).toList.isEmpty = false := by
              have h := hy0
              rw [show ((⟨#[]⟩ : ByteArray).toList) = [] by first | decide | (with_unfolding_all decide) | simp | go_simp] at h
              cases hl : (txt text).toList with
              | nil => rw [hl] at h; cases h
              | cons x r => rfl
            rw [← hys] at hex htl
            generalize txt text = Y at *
            have hsli : ∀ w', (Instr.slice 9 (.string s) (some (.int .i64 a)) (some (.int .i64 ((a : Int) + (Y.size : Int)))) none).run Tryd.prog w' = .ok (.string Y) w' := fun w' => by
              have hrr := run_slice_string (P := Tryd.prog) (w := w') (t := 9) (s := s) (i := (a : Int)) (j := (a : Int) + (Y.size : Int)) (k := .i64) (k' := .i64) Tryd.underlying9 (by omega) (by omega) (by omega)
              rw [Int.toNat_natCast, show ((a : Int) + (Y.size : Int)).toNat = a + Y.size by omega, hex] at hrr
              exact hrr
            have e7 : decide ((s.size : Int) < (a : Int) + (Y.size : Int)) = false := by rw [decide_eq_false_iff_not]; omega
            have ew : IntKind.i64.wrap ((a : Int) + (Y.size : Int)) = (a : Int) + (Y.size : Int) := by simp [IntKind.wrap, IntKind.signed, IntKind.bits]; omega
            clear k2 k3 k4 e34 hh hk2 hx ht hne hex hys
            go_wp2_with fail
            go_quiet (fail)
            go_wp2_with fail
            go_quiet (fail)
            go_wp2
            exact ⟨⟨k + 1, a, by go_num, rfl, by omega, HGN.out, below_draws (below_lit hb4 _) _⟩, by simp [intOf]; omega⟩
        · have d9 : decide ((X.length : Int) ≤ 1000) = true := by rw [decide_eq_true_eq]; omega
          go_wp2
          go_ret
          exact ⟨rfl, below_then hb3 hb4⟩
    · rw [c1] at hall
      rw [hsl] at c2
      generalize allAt Lib.itoa s.data.toList = P at *
      generalize allE Lib.itoa s.data.toList = E at *
      have HA := Lib.hid hall
      clear hall c1 hsl
      have e1 : decide ((P : Int) < (s.size : Int)) = true := by rw [decide_eq_true_eq]; omega
      rcases c3 with rfl | rfl
      all_goals
        go_enter Tryd.func6, Tryd.ntmps6
        go_wp2_with fail
        refine (awake_any _ LV).mono ?_
        rintro e w1 ⟨rfl, hb1⟩
        go_wp2_with fail
        refine (HA.out _ (LV.on hb1)).mono ?_
        rintro e w2 ⟨v, rfl, hown, hb2⟩
        obtain ⟨A, c, rfl, hr⟩ := SlT.of_own hown
        have hb3 := below_then hb1 hb2
        clear hown hr
        rw [show ([] : List T).length = 0 from rfl]
        go_wp2
        go_ret
        exact ⟨rfl, hb3⟩

theorem contract (H : Type) (enc : TypeId × Value → H) (W : World) (base : Nat) (args : Array Value) (ds gs : List (DataW H)) (before : List MemPlace)
    (hval0 : ∀ (j : Nat) t v, Tryd.f6.params[j]? = some t → args[j]? = some v → Value.okWide Tryd.prog W .any base t v)
    (hW : DataW.Whole enc Tryd.prog Tryd.f6.params.toList Rows.tokenPlacesSpec.vars false W args.toList ds gs before) (hsz : (DataW.weightsEach Tryd.prog (Tryd.f6.params.toList ++ (OpenSpec.ofChange Rows.tokenPlacesSpec).bare.plain.varTypes Tryd.prog) (ds ++ gs)).all (· ≤ reachBytes) = true) (hL : laidMetH Tryd.prog Rows.tokenPlacesRow.laid W) :
    Calls Tryd.prog 6 args W fun e W2 => ∃ v, e = .returned v ∧ Rows.tokenPlacesSpec.post enc Tryd.prog Tryd.f6 false true false false W args v W2 := by
  have hval : ∀ (j : Nat) t v, Tryd.f6.params[j]? = some t → args[j]? = some v → Value.okWide Tryd.prog W .any base t v := hval0
  have T := laid_of hL
  have hW2 := hW
  obtain ⟨p, q, hA0, hV, rfl, hfz, hnd⟩ := hW
  have hA : DataW.TrodAll enc Tryd.prog W 0 (fun _ => true) true Tryd.f6.params.toList args.toList ds p := hA0
  rw [Tryd.params6] at hA hval
  obtain ⟨v0, vs0, d0, ds0, p0, q0, hargs, rfl, rfl, h0, r0⟩ := trodAll_cons hA
  obtain ⟨rfl, rfl, rfl⟩ := trodAll_nil r0
  obtain rfl : args = #[v0] := by cases args; simp_all
  obtain ⟨rfl, rfl⟩ := trodVars_none hV
  obtain ⟨s0, rfl, rfl, rfl, b0⟩ := Go.ChangeMaps.open_string Tryd.underlying9 (hval 0 9 v0 rfl rfl) h0
  refine (walk W T s0 b0).mono fun e W2 ⟨he, hb⟩ => ?_
  subst he
  exact ⟨_, rfl, law_post (by kernel_rfl) rfl rfl (by decide +kernel) hW2 hb⟩
theorem laid_met (os : Os) : laidMetH Tryd.prog Rows.tokenPlacesRow.laid ((World.laidAll Tryd.prog os Rows.tokenPlacesRow.laid).forCall (fun _ _ => 0) ⟨#[], #[.string .empty], []⟩).memory := by
  rw [MakeChecks.laidMetH_plain _ _ _ (by kernel_rfl)]
  exact laidMet_laidAll _ (by kernel_rfl) (by kernel_rfl)
theorem reads (os : Os) {H : Type} (enc : TypeId × Value → H) : ∃ places, DataW.whole enc Tryd.prog ((World.laidAll Tryd.prog os Rows.tokenPlacesRow.laid).forCall (fun _ _ => 0) ⟨#[], #[.string .empty], []⟩).memory Tryd.f6.params.toList Rows.tokenPlacesSpec.vars false (#[.string .empty] : Array Value).toList 8 = some ([.lit (.string [])], [], places) := ⟨[], by kernel_rfl⟩
set_option maxRecDepth 100000 in
theorem lifted (os : Os) (started : os.Started) (H : Type) (enc : TypeId × Value → H) (F : Stop.Interp) :
    ReturnsInHanded {} Tryd.checked os 6 .any ((OpenSpec.ofChange Rows.tokenPlacesSpec).preRow enc Tryd.prog Tryd.f6 Rows.tokenPlacesRow.domain false Rows.tokenPlacesRow.laid) (((OpenSpec.ofChange Rows.tokenPlacesSpec).at F).post enc Tryd.prog Tryd.f6 false true false false) := by
  obtain ⟨places, hx⟩ := reads os enc
  refine returnsInHanded_of_row (C := Tryd.checked) (s := OpenSpec.ofChange Rows.tokenPlacesSpec) own started (by kernel_rfl) Tryd.func6
    (witness_row_at (enc := enc) (C := Tryd.checked) false (World.laidAll Tryd.prog os Rows.tokenPlacesRow.laid) #[.string .empty] (World.laidAll_os _ _ _) (by kernel_rfl) (by kernel_rfl) (by kernel_rfl)
      (OpenSpec.preRow_of_cond 8 hx (by kernel_rfl) (fun k hk => by cases hk) (by kernel_rfl) (laid_met os))) ?_
  intro W base args ds gs before hval hW _ _ hsz hL _ _
  exact contract H enc W base args ds gs before hval hW hsz hL
theorem said : Rows.TokenPlacesSaid :=
  OpenClaim.holds_of_cond 6 Tryd.f6 rfl rfl rfl rfl rfl rfl rfl ⟨rfl, rfl, rfl, rfl, rfl⟩ rfl rfl rfl rfl rfl (by kernel_rfl) Tryd.func6 (by kernel_rfl)
    (of_decide_eq_true (by kernel_rfl)) (by unfold Func.isWrapper; first | (rw [if_pos (by decide +kernel)]; kernel_rfl) | (rw [if_neg (by decide +kernel)]; exact ⟨rfl, rfl⟩))
    (fun os started H enc _ F => by rw [OpenClaim.pre_eq_preRow]; exact lifted os started H enc F)
theorem plain (f : FuncId) (fn : Func) (hf : Tryd.pinned.checked.prog.funcNamed "truffle/trufflelaw06.TokenPlaces" = some f) (hfn : Tryd.pinned.checked.prog.funcs[f]? = some fn) :
    true = Tryd.pinned.checked.prog.looks [] ∧ ∀ (j : Nat) t, fn.params[j]? = some t → Tryd.pinned.checked.prog.wantsStandIn t = false := by
  obtain rfl : f = 6 := Option.some.inj ((show Tryd.prog.funcNamed "truffle/trufflelaw06.TokenPlaces" = some 6 by kernel_rfl).symm.trans hf) |>.symm
  obtain rfl : fn = Tryd.f6 := (Option.some.inj (Tryd.func6.symm.trans hfn)).symm
  refine ⟨by kernel_rfl, fun j t ht => ?_⟩
  have hall : (Tryd.f6.params.toList.all fun t => !Tryd.prog.wantsStandIn t) = true := by kernel_rfl
  have := List.all_eq_true.1 hall t (Array.mem_toList_iff.2 (Array.mem_of_getElem? ht))
  exact (show Tryd.prog.wantsStandIn t = false by simpa using this)
theorem proved : Rows.TokenPlacesCardSaid :=
  Claim7.holds_tied_plain_at .later [] _ _ _ _ said (fun _ h => by cases h) (by kernel_rfl) (fun _ h => by cases h) tokenPlaces_row_tie rfl ⟨rfl, rfl⟩ (by kernel_rfl) rfl plain (by kernel_rfl)

end Go.Proofs.YtongjbgmmemajaaDoor.lawTokenPlaces
