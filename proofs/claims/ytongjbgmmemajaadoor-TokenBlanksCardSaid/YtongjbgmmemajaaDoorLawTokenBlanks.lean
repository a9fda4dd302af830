/-
  A text behind blanks, and with blanks behind it, has the same tokens, further on: the statement TokenBlanks, for every text and number of blanks.
-/
import Derived.Test.YtongjbgmmemajaaDoorTokBlanks
namespace Go.Proofs.YtongjbgmmemajaaDoor.lawTokenBlanks
open Go.ChangeShapes Go.WideShapes Go.ChangeAt Go.RowKit

theorem blank_slice (k : Nat) : (⟨#[32, 9, 10, 13]⟩ : ByteArray).extract (k % 4) (k % 4 + 1) = txt [blankAt k] := by
  have h : ∀ m, m < 4 → (⟨#[32, 9, 10, 13]⟩ : ByteArray).extract m (m + 1) = txt [([32, 9, 10, 13] : List UInt8).getD m 32] := by decide
  exact h _ (Nat.mod_lt _ (by omega))

theorem same_self (A A' : Option Addr) (c c' : Nat) (l : List T) (w : World) (hl : l.length ≤ 1000000000) (h1 : SlT w A c l) (h2 : SlT w A' c' l) :
    Calls Tryd.prog 12 #[.slice A l.length c, .slice A' l.length c'] w fun e w' => e = .returned (.bool true) ∧ Below w.heap.size w w' :=
  (same_any A A' c c' l l w hl hl h1 h2).mono fun e w' h => ⟨by rw [h.1, decide_eq_true (rfl : l = l)], h.2⟩

set_option maxRecDepth 1000000 in
set_option maxHeartbeats 2000000 in
theorem walk (w : World) (LV : Laid w) (s : ByteArray) (hs0 : s.size ≤ maxLen) (i : Int) (i0 : -9223372036854775808 ≤ i) (i1 : i ≤ 9223372036854775807) :
    Calls Tryd.prog 5 #[.string s, .int .i64 i] w fun e w' => e = .returned (.bool true) ∧ Below w.heap.size w w' := by
  by_cases h1 : 1000 < s.size ∨ i < 0 ∨ 100 < i
  · obtain ⟨b1, hb1⟩ : ∃ b, decide ((1000 : Int) < (s.size : Int)) = b := ⟨_, rfl⟩
    obtain ⟨b2, hb2⟩ : ∃ b, decide (i < 0) = b := ⟨_, rfl⟩
    obtain ⟨b3, hb3⟩ : ∃ b, decide (100 < i) = b := ⟨_, rfl⟩
    have hor : (b1 = true) ∨ (b1 = false ∧ b2 = true) ∨ (b1 = false ∧ b2 = false ∧ b3 = true) := by
      subst hb1 hb2 hb3
      simp only [decide_eq_true_eq, decide_eq_false_iff_not]
      omega
    clear h1
    rcases hor with rfl | ⟨rfl, rfl⟩ | ⟨rfl, rfl, rfl⟩
    all_goals
      go_enter Tryd.func5, Tryd.ntmps5
      go_wp2_with fail
      refine (awake_any _ LV).mono ?_
      rintro e w1 ⟨rfl, hb1⟩
      go_wp2
      go_ret
      exact ⟨rfl, hb1⟩
  · have d1 : decide ((1000 : Int) < (s.size : Int)) = false := by rw [decide_eq_false_iff_not]; omega
    have d2 : decide (i < 0) = false := by rw [decide_eq_false_iff_not]; omega
    have d3 : decide (100 < i) = false := by rw [decide_eq_false_iff_not]; omega
    obtain ⟨n, rfl⟩ := Int.eq_ofNat_of_zero_le (show 0 ≤ i by omega)
    have hs : s.size ≤ 1000 := by omega
    have hn : n ≤ 100 := by omega
    clear h1 i0 i1
    go_enter Tryd.func5, Tryd.ntmps5
    go_wp2_with fail
    refine (awake_any _ LV).mono ?_
    rintro e w1 ⟨rfl, hb1⟩
    go_wp2
    clear d1 d2 d3
    go_loopw [6, 7] (fun v j wr => ∃ k : Nat, j = .int .i64 k ∧ v = .string (txt (padL k)) ∧ k ≤ n ∧ wr = w1) (fun _ j _ => n - (intOf j).toNat)
    case atStart => exact ⟨0, rfl, rfl, by omega, rfl⟩
    case round =>
      obtain ⟨k, rfl, rfl, hk, rfl⟩ := hrel
      have hps : (txt (padL k)).size = k + 5 := by rw [txt_size, padL_length]
      by_cases hlt : k < n
      · have hnx : txt (padL k) ++ txt [blankAt k] = txt (padL (k + 1)) := by rw [txt_app, padL_succ]
        have hbs := blank_slice k
        have hb1s : (txt [blankAt k]).size = 1 := by rw [txt_size]; rfl
        generalize txt (padL k) = P0 at *
        generalize txt [blankAt k] = B at *
        obtain ⟨r, hr⟩ : ∃ r, k % 4 = r := ⟨_, rfl⟩
        rw [hr] at hbs
        have hr4 : r < 4 := by omega
        have hm1 : (k : Int) % 4 = (r : Int) := by omega
        have hm2 : Int.tmod (k : Int) 4 = (r : Int) := by rw [Int.tmod_eq_emod_of_nonneg (by omega)]; exact hm1
        have hsli : ∀ w', (Instr.slice 9 (.string ⟨#[32, 9, 10, 13]⟩) (some (.int .i64 r)) (some (.int .i64 ((r : Int) + 1))) none).run Tryd.prog w' = .ok (.string B) w' := fun w' => by
          have hrr := run_slice_string (P := Tryd.prog) (w := w') (t := 9) (s := ⟨#[32, 9, 10, 13]⟩) (i := (r : Int)) (j := (r : Int) + 1) (k := .i64) (k' := .i64) Tryd.underlying9 (by omega) (by omega) (by show ((r : Int) + 1) ≤ ((4 : Nat) : Int); omega)
          rw [Int.toNat_natCast, show ((r : Int) + 1).toNat = r + 1 by omega, hbs] at hrr
          exact hrr
        have HNX := Lib.hid hnx
        clear hnx hbs hr
        go_wp2
        exact ⟨⟨k + 1, by go_num, by rw [HNX.out], by omega, trivial⟩, by simp [intOf]; omega⟩
      · obtain rfl : k = n := by omega
        have hsl := size_list s
        have hlp := padL_length k
        have hbl := blanks_all (it := Lib.itoa) s.data.toList k (by omega) hn
        have hallS := fun w L => all_any s (by omega) w L
        have hallP := fun w L => all_any (txt (padL k) ++ s) (by rw [ByteArray.size_append, hps]; omega) w L
        have hallU := fun w L => all_any (s ++ ⟨#[10]⟩ ++ txt (padL k)) (by rw [join_size, hps]; omega) w L
        rw [join_list, txt_list] at hallU
        rw [show (txt (padL k) ++ s).data.toList = padL k ++ s.data.toList by rw [← txt_of s, txt_app, txt_list, txt_of]] at hallP
        rw [hlp] at hbl
        have hd : k + 5 ≤ 105 := by omega
        generalize allT Lib.itoa (padL k ++ s.data.toList) = M at *
        generalize allE Lib.itoa (padL k ++ s.data.toList) = EM at *
        generalize allAt Lib.itoa (padL k ++ s.data.toList) = PM at *
        generalize allT Lib.itoa (s.data.toList ++ 10 :: padL k) = U at *
        generalize allE Lib.itoa (s.data.toList ++ 10 :: padL k) = EU at *
        generalize allAt Lib.itoa (s.data.toList ++ 10 :: padL k) = PU at *
        generalize allT Lib.itoa s.data.toList = X at *
        generalize allE Lib.itoa s.data.toList = EX at *
        generalize allAt Lib.itoa s.data.toList = PX at *
        generalize txt (padL k) = PD at *
        clear hlp hsl hlt hk
        rw [← hps] at hbl hd
        obtain ⟨rfl, rfl, hX, hXa, hPX, hE⟩ := hbl
        have HS := Lib.hid hallS
        have HM := Lib.hid hallP
        have HU := Lib.hid hallU
        have HXA := Lib.hid hXa
        clear hallS hallP hallU hps hXa
        have hml : (X.map (shiftT PD.size)).length = X.length := List.length_map _
        rcases hE with ⟨rfl, rfl, rfl⟩ | ⟨rfl, rfl, rfl⟩
        · go_wp2_with fail
          refine (HS.out _ (LV.on hb1)).mono ?_
          rintro e w2 ⟨v2, rfl, hown2, hb2⟩
          have hb3 := below_then hb1 hb2
          obtain ⟨A2, c2, rfl, hr2⟩ := SlT.of_own hown2
          have HR2 := Lib.hid hr2
          clear hown2
          go_wp2_with fail
          refine (HM.out _ (LV.on hb3)).mono ?_
          rintro e w3 ⟨v3, rfl, hown3, hb4⟩
          have hb5 := below_then hb3 hb4
          obtain ⟨A3, c3, rfl, _⟩ := SlT.of_own hown3
          rw [hml] at hown3 ⊢
          go_wp2_with fail
          refine (HU.out _ (LV.on hb5)).mono ?_
          rintro e w4 ⟨v4, rfl, hown4, hb6⟩
          have hb7 := below_then hb5 hb6
          obtain ⟨A4, c4, rfl, hr4⟩ := SlT.of_own hown4
          clear hown4
          replace hr2 := (hr2.on hb4).on hb6
          replace hown3 := own_on hown3 hb6
          have hbm : Below w2.heap.size w2 w4 := below_then hb4 hb6
          have HSM := Lib.hid (same_self A2 A4 c2 c4 U w4 (by omega) hr2 hr4)
          clear hr4
          go_wp2_with fail
          refine HSM.out.mono ?_
          rintro e w5 ⟨rfl, hb8⟩
          replace hr2 := hr2.on hb8
          replace hown3 := own_on hown3 hb8
          replace hbm := below_then hbm hb8
          have hb9 := below_then hb7 hb8
          go_wp2
          clear HSM HS HM HU
          go_loopw [17] (fun j wr => ∃ k : Nat, j = .int .i64 k ∧ k ≤ U.length ∧ wr.ownsRow w2.heap.size 32 4 (.slice A3 U.length c3) U.length (tv (U.take k ++ (U.drop k).map (shiftT PD.size))) ∧ Below w2.heap.size w2 wr) (fun j _ => U.length - (intOf j).toNat)
          case atStart => exact ⟨0, rfl, by omega, hown3, hbm⟩
          case round =>
            clear hown3 hbm
            obtain ⟨k, rfl, hk, hown, hb⟩ := hrel
            by_cases hlt : k < U.length
            · obtain ⟨g, c, hv, hg⟩ := own_slice hown (by omega) (by decide)
              obtain ⟨rfl, _, rfl⟩ := Value.slice.inj hv
              have hx : U[k]? = some U[k] := List.getElem?_eq_getElem hlt
              have hxa := HXA.out _ (List.getElem_mem hlt)
              generalize U[k] = x at *
              have hcell : _ = _ := (hown.cellAt (k * 4 + 3) (by omega)).trans (unshift_get hx)
              have hfz := hown.frozenAt (k * 4 + 3)
              have hst := (hown.stored (k * 4 + 3) (.int .i64 (x.at_ : Int))).1
              rw [unshift_step hx] at hst
              have hbn := hb.setCell (p := ⟨g, k * 4 + 3, none⟩) hg (.int .i64 (x.at_ : Int))
              obtain ⟨z, hz⟩ : ∃ z : Int, ((x.at_ + PD.size : Nat) : Int) = z := ⟨_, rfl⟩
              rw [hz] at hcell
              have hz1 : z - (PD.size : Int) = (x.at_ : Int) := by omega
              have hz2 : 0 ≤ z := by omega
              have hz3 : z ≤ 2000 := by omega
              have HST := Lib.hid hst
              have HBN := Lib.hid hbn
              clear hst hbn hv hx hz hown hb
              go_wp2
              exact ⟨⟨k + 1, by go_num, by omega, HST.out, HBN.out⟩, by simp [intOf]; omega⟩
            · obtain rfl : k = U.length := by omega
              have hown' : wr.ownsRow w2.heap.size 32 4 (.slice A3 U.length c3) U.length (tv U) := by
                simpa using hown
              obtain ⟨A9, c9, hv9, hr9⟩ := SlT.of_own hown'
              obtain ⟨rfl, _, rfl⟩ := Value.slice.inj hv9
              have HSM := Lib.hid (same_self A2 A3 c2 c3 U wr (by omega) (HR2.out.on hb) hr9)
              have hb10 := below_then hb3 hb
              clear hown hown' hv9 hr9 hk hlt hr2
              go_wp2_with fail
              refine HSM.out.mono ?_
              rintro e w6 ⟨rfl, hb11⟩
              go_wp2
              go_ret
              exact ⟨rfl, below_then hb10 hb11⟩
        · have dP : (((PX + PD.size : Nat) : Int) != (PX : Int) + (PD.size : Int)) = false := by rw [bne_eq_false_iff_eq]; omega
          obtain ⟨PZ, hPZ⟩ : ∃ PZ, PX + PD.size = PZ := ⟨_, rfl⟩
          rw [hPZ] at dP HM
          clear hPZ hml
          rw [List.map_nil] at HM
          go_wp2_with fail
          refine (HS.out _ (LV.on hb1)).mono ?_
          rintro e w2 ⟨v2, rfl, hown2, hb2⟩
          have hb3 := below_then hb1 hb2
          obtain ⟨A2, c2, rfl, hr2⟩ := SlT.of_own hown2
          clear hown2
          go_wp2_with fail
          refine (HM.out _ (LV.on hb3)).mono ?_
          rintro e w3 ⟨v3, rfl, hown3, hb4⟩
          have hb5 := below_then hb3 hb4
          obtain ⟨A3, c3, rfl, hr3⟩ := SlT.of_own hown3
          clear hown3
          go_wp2_with fail
          refine (HU.out _ (LV.on hb5)).mono ?_
          rintro e w4 ⟨v4, rfl, _, hb6⟩
          have hb7 := below_then hb5 hb6
          have HSM := Lib.hid (same_self A2 A3 c2 c3 [] w4 (by decide) ((hr2.on hb4).on hb6) (hr3.on hb6))
          rw [show ([] : List T).length = 0 from rfl] at HSM
          clear hr2 hr3 HS HM HU
          go_wp2
          go_loopw [17] (fun j wr => j = .int .i64 0 ∧ wr = w4) (fun j _ => 0)
          case atStart => exact ⟨rfl, rfl⟩
          case round =>
            obtain ⟨rfl, rfl⟩ := hrel
            go_wp2_with fail
            refine HSM.out.mono ?_
            rintro e w6 ⟨rfl, hb11⟩
            go_wp2
            go_ret
            exact ⟨rfl, below_then hb7 hb11⟩

theorem contract (H : Type) (enc : TypeId × Value → H) (W : World) (base : Nat) (args : Array Value) (ds gs : List (DataW H)) (before : List MemPlace)
    (hval0 : ∀ (j : Nat) t v, Tryd.f5.params[j]? = some t → args[j]? = some v → Value.okWide Tryd.prog W .any base t v)
    (hW : DataW.Whole enc Tryd.prog Tryd.f5.params.toList Rows.tokenBlanksSpec.vars false W args.toList ds gs before) (hsz : (DataW.weightsEach Tryd.prog (Tryd.f5.params.toList ++ (OpenSpec.ofChange Rows.tokenBlanksSpec).bare.plain.varTypes Tryd.prog) (ds ++ gs)).all (· ≤ reachBytes) = true) (hL : laidMetH Tryd.prog Rows.tokenBlanksRow.laid W) :
    Calls Tryd.prog 5 args W fun e W2 => ∃ v, e = .returned v ∧ Rows.tokenBlanksSpec.post enc Tryd.prog Tryd.f5 false true false false W args v W2 := by
  have hval : ∀ (j : Nat) t v, Tryd.f5.params[j]? = some t → args[j]? = some v → Value.okWide Tryd.prog W .any base t v := hval0
  have T := laid_of hL
  have hW2 := hW
  obtain ⟨p, q, hA0, hV, rfl, hfz, hnd⟩ := hW
  have hA : DataW.TrodAll enc Tryd.prog W 0 (fun _ => true) true Tryd.f5.params.toList args.toList ds p := hA0
  rw [Tryd.params5] at hA hval
  obtain ⟨v0, vs0, d0, ds0, p0, q0, hargs, rfl, rfl, h0, r0⟩ := trodAll_cons hA
  obtain ⟨v1, vs1, d1, ds1, p1, q1, rfl, rfl, rfl, h1, r1⟩ := trodAll_cons r0
  obtain ⟨rfl, rfl, rfl⟩ := trodAll_nil r1
  obtain rfl : args = #[v0, v1] := by cases args; simp_all
  obtain ⟨rfl, rfl⟩ := trodVars_none hV
  obtain ⟨s0, rfl, rfl, rfl, b0⟩ := Go.ChangeMaps.open_string Tryd.underlying9 (hval 0 9 v0 rfl rfl) h0
  obtain ⟨i1, rfl, b1, c1⟩ := open_i64 (hval 1 3 v1 rfl rfl) h1
  refine (walk W T s0 b0 i1 b1 c1).mono fun e W2 ⟨he, hb⟩ => ?_
  subst he
  exact ⟨_, rfl, law_post (by kernel_rfl) rfl rfl (by decide +kernel) hW2 hb⟩
theorem laid_met (os : Os) : laidMetH Tryd.prog Rows.tokenBlanksRow.laid ((World.laidAll Tryd.prog os Rows.tokenBlanksRow.laid).forCall (fun _ _ => 0) ⟨#[], #[.string .empty, .int .i64 0], []⟩).memory := by
  rw [MakeChecks.laidMetH_plain _ _ _ (by kernel_rfl)]
  exact laidMet_laidAll _ (by kernel_rfl) (by kernel_rfl)
theorem reads (os : Os) {H : Type} (enc : TypeId × Value → H) : ∃ places, DataW.whole enc Tryd.prog ((World.laidAll Tryd.prog os Rows.tokenBlanksRow.laid).forCall (fun _ _ => 0) ⟨#[], #[.string .empty, .int .i64 0], []⟩).memory Tryd.f5.params.toList Rows.tokenBlanksSpec.vars false (#[.string .empty, .int .i64 0] : Array Value).toList 8 = some ([.lit (.string []), .lit (.int .i64 0)], [], places) := ⟨[], by kernel_rfl⟩
set_option maxRecDepth 100000 in
theorem lifted (os : Os) (started : os.Started) (H : Type) (enc : TypeId × Value → H) (F : Stop.Interp) :
    ReturnsInHanded {} Tryd.checked os 5 .any ((OpenSpec.ofChange Rows.tokenBlanksSpec).preRow enc Tryd.prog Tryd.f5 Rows.tokenBlanksRow.domain false Rows.tokenBlanksRow.laid) (((OpenSpec.ofChange Rows.tokenBlanksSpec).at F).post enc Tryd.prog Tryd.f5 false true false false) := by
  obtain ⟨places, hx⟩ := reads os enc
  refine returnsInHanded_of_row (C := Tryd.checked) (s := OpenSpec.ofChange Rows.tokenBlanksSpec) own started (by kernel_rfl) Tryd.func5
    (witness_row_at (enc := enc) (C := Tryd.checked) false (World.laidAll Tryd.prog os Rows.tokenBlanksRow.laid) #[.string .empty, .int .i64 0] (World.laidAll_os _ _ _) (by kernel_rfl) (by kernel_rfl) (by kernel_rfl)
      (OpenSpec.preRow_of_cond 8 hx (by kernel_rfl) (fun k hk => by cases hk) (by kernel_rfl) (laid_met os))) ?_
  intro W base args ds gs before hval hW _ _ hsz hL _ _
  exact contract H enc W base args ds gs before hval hW hsz hL
theorem said : Rows.TokenBlanksSaid :=
  OpenClaim.holds_of_cond 5 Tryd.f5 rfl rfl rfl rfl rfl rfl rfl ⟨rfl, rfl, rfl, rfl, rfl⟩ rfl rfl rfl rfl rfl (by kernel_rfl) Tryd.func5 (by kernel_rfl)
    (of_decide_eq_true (by kernel_rfl)) (by unfold Func.isWrapper; first | (rw [if_pos (by decide +kernel)]; kernel_rfl) | (rw [if_neg (by decide +kernel)]; exact ⟨rfl, rfl⟩))
    (fun os started H enc _ F => by rw [OpenClaim.pre_eq_preRow]; exact lifted os started H enc F)
theorem plain (f : FuncId) (fn : Func) (hf : Tryd.pinned.checked.prog.funcNamed "truffle/trufflelaw06.TokenBlanks" = some f) (hfn : Tryd.pinned.checked.prog.funcs[f]? = some fn) :
    true = Tryd.pinned.checked.prog.looks [] ∧ ∀ (j : Nat) t, fn.params[j]? = some t → Tryd.pinned.checked.prog.wantsStandIn t = false := by
  obtain rfl : f = 5 := Option.some.inj ((show Tryd.prog.funcNamed "truffle/trufflelaw06.TokenBlanks" = some 5 by kernel_rfl).symm.trans hf) |>.symm
  obtain rfl : fn = Tryd.f5 := (Option.some.inj (Tryd.func5.symm.trans hfn)).symm
  refine ⟨by kernel_rfl, fun j t ht => ?_⟩
  have hall : (Tryd.f5.params.toList.all fun t => !Tryd.prog.wantsStandIn t) = true := by kernel_rfl
  have := List.all_eq_true.1 hall t (Array.mem_toList_iff.2 (Array.mem_of_getElem? ht))
  exact (show Tryd.prog.wantsStandIn t = false by simpa using this)
theorem proved : Rows.TokenBlanksCardSaid :=
  Claim7.holds_tied_plain_at .later [] _ _ _ _ said (fun _ h => by cases h) (by kernel_rfl) (fun _ h => by cases h) tokenBlanks_row_tie rfl ⟨rfl, rfl⟩ (by kernel_rfl) rfl plain (by kernel_rfl)
end Go.Proofs.YtongjbgmmemajaaDoor.lawTokenBlanks
