/-
  What is parsed, printed, and parsed again is the same, and printed again the same text: the statement ProtoBack, for every text.
-/
import Derived.Test.YtldgfepimegbmaaDoorProTurn
namespace Go.Proofs.YtldgfepimegbmaaDoor.lawProtoBack
set_option maxRecDepth 100000
open Go.ChangeShapes Go.WideShapes Go.ChangeAt Go.RowKit

theorem FRead.below {w w' : World} {f : Fl} {vM vE : Value} (h : FRead w f vM vE) (hb : Below w.heap.size w w') : FRead w' f vM vE := FRead.on h hb
/-- Has each of the first oneofs a field? -/
def FullTo (m : Ms) (k : Nat) : Prop := ∀ q, 0 < q → q ≤ k → ∃ d ∈ m.F, d.one = q
def anyTo (m : Ms) (q k : Nat) : Bool := (m.F.take k).any fun d => d.one == q
theorem any_next {m : Ms} {q k : Nat} {d : Fd} (h : m.F[k]? = some d) : anyTo m q (k + 1) = (anyTo m q k || d.one == q) := by
  unfold anyTo
  rw [List.take_add_one, h]; simp [List.any_append]
theorem any_all {m : Ms} {q : Nat} (h : anyTo m q m.F.length = true) : ∃ d ∈ m.F, d.one = q := by
  unfold anyTo at h
  rw [List.take_length, List.any_eq_true] at h
  obtain ⟨d, h1, h2⟩ := h
  exact ⟨d, h1, by simpa using h2⟩
def FilesTo (M : List Ms) (k : Nat) : Prop := ∀ m ∈ M.take k, FullTo m m.ones.length
theorem files_next {M : List Ms} {k : Nat} {m : Ms} (h : M[k]? = some m) (h1 : FilesTo M k) (h2 : FullTo m m.ones.length) : FilesTo M (k + 1) := by
  intro x hx
  rw [List.take_add_one, h] at hx
  rcases List.mem_append.1 hx with hx | hx
  · exact h1 x hx
  · simp only [Option.toList_some, List.mem_singleton] at hx
    rw [hx]; exact h2
theorem full_next {m : Ms} {k : Nat} (h : FullTo m k) (h2 : ∃ d ∈ m.F, d.one = k + 1) : FullTo m (k + 1) := by
  intro q hq hk
  by_cases hl : q ≤ k
  · exact h q hq hl
  · obtain rfl : q = k + 1 := by omega
    exact h2
set_option maxRecDepth 1000000 in
set_option maxHeartbeats 8000000 in
theorem walk_main (w : World) (LV : Laid w) (s : ByteArray) (d1 : decide ((1500 : Int) < (s.size : Int)) = false) (F : Fl) (P1 : Nat)
    (hsm : ∀ m ∈ F.M, MsS 1000 m) (hlm : F.M.length ≤ 1000)
    (HPS : Hid (∀ w, Laid w → Calls Tryd.prog 8 #[.string s] w (ParPost F P1 0 w)))
    (t : ByteArray) (F2 : Fl) (P2 E2 : Nat)
    (HPR : Hid (FilesTo F.M F.M.length → ∀ vM vE w, Laid w → FRead w F vM vE → Calls Tryd.prog 9 #[.agg #[vM, vE]] w fun e w' => e = .returned (.string t) ∧ Below w.heap.size w w'))
    (HPT : Hid (FilesTo F.M F.M.length → ∀ w, Laid w → Calls Tryd.prog 8 #[.string t] w (ParPost F2 P2 E2 w)))
    (HS : Hid (FilesTo F.M F.M.length → t.size ≤ 5000 → E2 = 0 ∧ ∀ vM vE vM' vE' w, FRead w F vM vE → FRead w F2 vM' vE' → Calls Tryd.prog 10 #[.agg #[vM, vE], .agg #[vM', vE']] w fun e w' => e = .returned (.bool true) ∧ Below w.heap.size w w'))
    (HP2 : Hid (FilesTo F.M F.M.length → t.size ≤ 5000 → ∀ vM vE w, Laid w → FRead w F2 vM vE → Calls Tryd.prog 9 #[.agg #[vM, vE]] w fun e w' => e = .returned (.string t) ∧ Below w.heap.size w w')) :
    Calls Tryd.prog 3 #[.string s] w fun e w' => e = .returned (.bool true) ∧ Below w.heap.size w w' := by
  go_enter Tryd.func3, Tryd.ntmps3
  go_wp2_with fail
  refine (awake7_any _ LV).mono ?_
  rintro e w1 ⟨rfl, hb1⟩
  go_wp2_with fail
  refine (HPS.out _ (LV.on hb1)).mono ?_
  intro e w2 hp2
  obtain ⟨A, c, A', c', rfl, hf2, hb2⟩ := par_open hp2
  go_wp2_with fail
  have hb3 := below_lit (below_then hb1 hb2) (.cells #[.slice A F.M.length c, .slice A' F.E.length c'] 26)
  have hbox := heap_alloc_new w2 (.cells #[.slice A F.M.length c, .slice A' F.E.length c'] 26)
  have hF := FRead.below hf2 (below_new w2 (.cells #[.slice A F.M.length c, .slice A' F.E.length c'] 26))
  have hlW : w2.heap.size < (w2.alloc (.cells #[.slice A F.M.length c, .slice A' F.E.length c'] 26)).heap.size := by simp
  generalize w2.alloc (.cells #[.slice A F.M.length c, .slice A' F.E.length c'] 26) = W at *
  generalize w2.heap.size = p1 at *
  have HB3 := Lib.hid hb3
  have HF := Lib.hid hF
  have HBX := Lib.hid hbox
  have b0 := heap_cell hbox 0
  have b1 := heap_cell hbox 1
  simp at b0 b1
  obtain ⟨xs, ys, g1, g2, -, -⟩ := hF
  have HM := Lib.hid g1
  have HMA := Lib.hid g2
  clear hp2 hf2 hbox hb1 hb2 hb3 g1 g2
  go_wp2
  go_loopw [7, 8, 9, 10] (fun i k h j wr => ∃ n : Nat, i = .int .i64 n ∧ n ≤ F.M.length ∧ FilesTo F.M n ∧ wr = W) (fun i _ _ _ _ => F.M.length - (intOf i).toNat)
  case atStart => exact ⟨0, rfl, by omega, (fun m hm => by simp at hm), rfl⟩
  case round =>
    obtain ⟨n, rfl, hn, hfn, rfl⟩ := hrel
    have HFN := Lib.hid hfn
    clear hfn
    by_cases h1 : n < F.M.length
    · obtain ⟨m, hm⟩ : ∃ m, F.M[n]? = some m := ⟨_, List.getElem?_eq_getElem h1⟩
      obtain ⟨g, cap, vF, vO, vR, hv, hg, hmr, c0, c1, c2, c3, c4⟩ := msrow_at HM.out HMA.out hm
      injection hv with hA hq hc
      subst hA hc
      obtain ⟨AF, cF, rfl, -⟩ := Sl.of_own hmr.f
      obtain ⟨AO, cO, rfl, -⟩ := Sl.of_own hmr.o
      have hms := hsm m (List.mem_of_getElem? hm)
      have ho := hms.o
      have hf := hms.f
      have HMR := Lib.hid hmr.f
      have HMN := Lib.hid hm
      clear hq hmr hm hms c0 c3 c4
      go_wp2
      go_loopw [8, 9, 10] (fun k h j wx => ∃ q : Nat, k = .int .i64 ((q + 1 : Nat) : Int) ∧ q ≤ m.ones.length ∧ FullTo m q ∧ wx = wr) (fun k _ _ _ => m.ones.length + 1 - (intOf k).toNat)
      case atStart => exact ⟨0, rfl, by omega, (fun q h1 h2 => by omega), rfl⟩
      case round =>
        obtain ⟨q, rfl, hq, hfq, rfl⟩ := hrel
        have HFQ := Lib.hid hfq
        clear hfq
        by_cases h2 : q < m.ones.length
        · go_wp2
          go_loopw [9, 10] (fun h j wy => ∃ (k : Nat) (b : Bool), j = .int .i64 k ∧ h = .bool b ∧ k ≤ m.F.length ∧ b = anyTo m (q + 1) k ∧ wy = wr) (fun _ j _ => m.F.length - (intOf j).toNat)
          case atStart => exact ⟨0, false, rfl, rfl, by omega, rfl, rfl⟩
          case round =>
            obtain ⟨k, b, rfl, rfl, hk, hb, rfl⟩ := hrel
            have HBB := Lib.hid hb
            clear hb
            by_cases h3 : k < m.F.length
            · obtain ⟨d, hd⟩ : ∃ d, m.F[k]? = some d := ⟨_, List.getElem?_eq_getElem h3⟩
              obtain ⟨gf, cap2, hv, hgf, e0, e1, e2, e3, e4, e5, e6⟩ := fd_at HMR.out hd
              injection hv with hA hq2 hc
              subst hA hc
              have HNX := Lib.hid (any_next (q := q + 1) hd)
              have HE : Hid (((d.one : Int) == (q : Int) + 1) = (d.one == q + 1)) := Lib.hid (by
                by_cases h : d.one = q + 1
                · rw [h]; simp
                · have h' : ¬ ((d.one : Int) = (q : Int) + 1) := by omega
                  rw [beq_eq_false_iff_ne.2 h, beq_eq_false_iff_ne.2 h'])
              clear hq2 e0 e1 e2 e4 e5 e6 hd
              cases b with
              | true =>
                go_wp2
                exact ⟨⟨k + 1, true, by go_num, rfl, by omega, by rw [HNX.out, ← HBB.out]; rfl, trivial⟩, by simp [intOf]; omega⟩
              | false =>
                go_wp2
                exact ⟨⟨k + 1, d.one == q + 1, by go_num, by rw [HE.out], by omega, by rw [HNX.out, ← HBB.out, Bool.false_or], trivial⟩, by simp [intOf]; omega⟩
            · obtain rfl : k = m.F.length := by omega
              cases b with
              | true =>
                go_wp2
                exact ⟨⟨q + 1, by go_num, by omega, full_next HFQ.out (any_all HBB.out.symm), trivial⟩, by simp [intOf]; omega⟩
              | false =>
                go_wp2
                go_ret
                exact ⟨rfl, HB3.out⟩
        · obtain rfl : q = m.ones.length := by omega
          go_wp2
          exact ⟨⟨n + 1, by go_num, by omega, files_next HMN.out HFN.out HFQ.out, trivial⟩, by simp [intOf]; omega⟩
    · obtain rfl : n = F.M.length := by omega
      clear hn h1 HM HMA
      go_wp2_with fail
      refine (HPR.out HFN.out _ _ _ (LV.on HB3.out) HF.out).mono ?_
      rintro e w5 ⟨rfl, hb5⟩
      have hb6 := below_then HB3.out hb5
      have hx5 := (hb5.block p1 hlW).trans HBX.out
      have HF5 := Lib.hid (FRead.below HF.out hb5)
      have hl5 : p1 < w5.heap.size := Nat.lt_of_lt_of_le hlW hb5.size
      clear b0 b1
      go_wp2_with fail
      refine (HPT.out HFN.out _ (LV.on hb6)).mono ?_
      intro e w6 hp6
      obtain ⟨B, k, B', k', rfl, hf6, hb7⟩ := par_open hp6
      have hbx6 := (Below.heap_alloc w6 (.cells #[.slice B F2.M.length k, .slice B' F2.E.length k'] 26) p1 (Nat.lt_of_lt_of_le hl5 hb7.size)).trans ((hb7.block p1 hl5).trans hx5)
      have b0 := heap_cell hbx6 0
      have b1 := heap_cell hbx6 1
      simp at b0 b1
      have HB8 := Lib.hid (below_lit (below_then hb6 hb7) (.cells #[.slice B F2.M.length k, .slice B' F2.E.length k'] 26))
      have HF7 := Lib.hid (FRead.below (FRead.below HF5.out hb7) (below_new w6 (.cells #[.slice B F2.M.length k, .slice B' F2.E.length k'] 26)))
      have HG7 := Lib.hid (FRead.below hf6 (below_new w6 (.cells #[.slice B F2.M.length k, .slice B' F2.E.length k'] 26)))
      have HQ7 := Lib.hid (heap_alloc_new w6 (.cells #[.slice B F2.M.length k, .slice B' F2.E.length k'] 26))
      clear hp6 hf6 hbx6 hx5 hb5 hb6 hb7
      by_cases h5 : 5000 < t.size
      · have d5 : decide ((5000 : Int) < (t.size : Int)) = true := by rw [decide_eq_true_eq]; omega
        go_wp2
        go_ret
        exact ⟨rfl, HB8.out⟩
      · have d5 : decide ((5000 : Int) < (t.size : Int)) = false := by rw [decide_eq_false_iff_not]; omega
        obtain ⟨rfl, hsm7⟩ := HS.out HFN.out (by omega)
        have HSM := Lib.hid hsm7
        have HPX := Lib.hid (HP2.out HFN.out (by omega))
        clear hsm7
        go_wp2_with fail
        refine (HSM.out _ _ _ _ _ HF7.out HG7.out).mono ?_
        rintro e w8 ⟨rfl, hb9⟩
        have hq8 := (hb9.block w6.heap.size (by simp)).trans HQ7.out
        have q0 := heap_cell hq8 0
        have q1 := heap_cell hq8 1
        simp at q0 q1
        have HB9 := Lib.hid (below_then HB8.out hb9)
        have HG8 := Lib.hid (FRead.below HG7.out hb9)
        clear hq8 hb9 b0 b1
        go_wp2_with fail
        refine (HPX.out _ _ _ (LV.on HB9.out) HG8.out).mono ?_
        rintro e w9 ⟨rfl, hb10⟩
        have HB10 := Lib.hid (below_then HB9.out hb10)
        clear hb10
        go_wp2
        go_ret
        exact ⟨rfl, HB10.out⟩

set_option maxRecDepth 1000000 in
set_option maxHeartbeats 4000000 in
theorem walk_err (w : World) (LV : Laid w) (s : ByteArray) (d1 : decide ((1500 : Int) < (s.size : Int)) = false) (P1 E1 : Nat) (he : ((E1 : Int) != 0) = true)
    (HPS : Hid (∀ w, Laid w → Calls Tryd.prog 8 #[.string s] w (ParPost ⟨[], []⟩ P1 E1 w))) :
    Calls Tryd.prog 3 #[.string s] w fun e w' => e = .returned (.bool true) ∧ Below w.heap.size w w' := by
  go_enter Tryd.func3, Tryd.ntmps3
  go_wp2_with fail
  refine (awake7_any _ LV).mono ?_
  rintro e w1 ⟨rfl, hb1⟩
  go_wp2_with fail
  refine (HPS.out _ (LV.on hb1)).mono ?_
  intro e w2 hp2
  obtain ⟨A, c, A', c', rfl, hf2, hb2⟩ := par_open hp2
  simp only [List.length_nil] at *
  have HB3 := Lib.hid (below_lit (below_then hb1 hb2) (.cells #[.slice A 0 c, .slice A' 0 c'] 26))
  clear hp2 hf2 hb1 hb2
  go_wp2
  go_ret
  exact ⟨rfl, HB3.out⟩
set_option maxHeartbeats 4000000 in
theorem walk (w : World) (LV : Laid w) (s : ByteArray) (hs0 : s.size ≤ maxLen) :
    Calls Tryd.prog 3 #[.string s] w fun e w' => e = .returned (.bool true) ∧ Below w.heap.size w w' := by
  by_cases h6 : 1500 < s.size
  · have d6 : decide ((1500 : Int) < (s.size : Int)) = true := by rw [decide_eq_true_eq]; omega
    go_enter Tryd.func3, Tryd.ntmps3
    go_wp2_with fail
    refine (awake7_any _ LV).mono ?_
    rintro e w1 ⟨rfl, hb1⟩
    go_wp2
    go_ret
    exact ⟨rfl, hb1⟩
  · have d6 : decide ((1500 : Int) < (s.size : Int)) = false := by rw [decide_eq_false_iff_not]; omega
    have hsl : s.data.toList.length = s.size := by simp
    have hL : s.data.toList.length ≤ 1500 := by omega
    have hpar := fun w L => parse_any s (by omega) w L
    by_cases hE : parE s.data.toList = 0
    · rw [hE] at hpar
      have hsma := sma_par s.data.toList
      have hfull : FilesTo (parF s.data.toList).M (parF s.data.toList).M.length → full (parF s.data.toList) := fun h m hm k hk hk2 => h m (by rw [List.take_length]; exact hm) k hk hk2
      have hlen := fun h => len_par hL hE (hfull h)
      have hback := fun h => back7 hL hE (hfull h)
      have hok := flok_par s.data.toList hL
      have htl : (txt (fileB (parF s.data.toList))).data.toList = fileB (parF s.data.toList) := txt_list _
      have hts : (txt (fileB (parF s.data.toList))).size = (fileB (parF s.data.toList)).length := txt_size _
      refine walk_main w LV s d6 (parF s.data.toList) _ hsma.1 hsma.2.2.1 (Lib.hid hpar) (txt (fileB (parF s.data.toList))) (parF (fileB (parF s.data.toList))) (parAt (fileB (parF s.data.toList))) (parE (fileB (parF s.data.toList))) (Lib.hid ?_) (Lib.hid ?_) (Lib.hid ?_) (Lib.hid ?_)
      · intro hf vM vE w L hr
        exact print_any _ vM vE w L hr hok (by have := hlen hf; omega)
      · intro hf w L
        have := parse_any (txt (fileB (parF s.data.toList))) (by rw [hts]; have := hlen hf; omega) w L
        rw [htl] at this
        exact this
      · intro hf h5
        rw [hts] at h5
        obtain ⟨b1, b2, b3, b4⟩ := hback hf h5
        refine ⟨b1, fun vM vE vM' vE' w hr hr2 => ?_⟩
        have := same_any7 _ _ vM vE vM' vE' w hr hr2 (few_par _)
        rw [b2] at this
        exact this
      · intro hf h5 vM vE w L hr
        rw [hts] at h5
        obtain ⟨b1, b2, b3, b4⟩ := hback hf h5
        have := print_any _ vM vE w L hr (flok_bare b4 hok) (by rw [b3]; omega)
        rw [b3] at this
        exact this
    · have hF : parF s.data.toList = ⟨[], []⟩ := by
        by_cases h0 : errOf s.data.toList = 0
        · cases h1 : okR (run c0 (toksOf s.data.toList)) with
          | true => exact absurd (par_ok h0 h1).2.1 hE
          | false => exact (par_bad h0 h1).1
        · exact (par_err h0).1
      rw [hF] at hpar
      exact walk_err w LV s d6 _ _ (by rw [bne_iff_ne]; omega) (Lib.hid hpar)

theorem contract (H : Type) (enc : TypeId × Value → H) (W : World) (base : Nat) (args : Array Value) (ds gs : List (DataW H)) (before : List MemPlace)
    (hval0 : ∀ (j : Nat) t v, Tryd.f3.params[j]? = some t → args[j]? = some v → Value.okWide Tryd.prog W .any base t v)
    (hW : DataW.Whole enc Tryd.prog Tryd.f3.params.toList Rows.protoBackSpec.vars false W args.toList ds gs before) (hsz : (DataW.weightsEach Tryd.prog (Tryd.f3.params.toList ++ (OpenSpec.ofChange Rows.protoBackSpec).bare.plain.varTypes Tryd.prog) (ds ++ gs)).all (· ≤ reachBytes) = true) (hL : laidMetH Tryd.prog Rows.protoBackRow.laid W) :
    Calls Tryd.prog 3 args W fun e W2 => ∃ v, e = .returned v ∧ Rows.protoBackSpec.post enc Tryd.prog Tryd.f3 false true false false W args v W2 := by
  have hval : ∀ (j : Nat) t v, Tryd.f3.params[j]? = some t → args[j]? = some v → Value.okWide Tryd.prog W .any base t v := hval0
  have T := laid_of hL
  have hW2 := hW
  obtain ⟨p, q, hA0, hV, rfl, hfz, hnd⟩ := hW
  have hA : DataW.TrodAll enc Tryd.prog W 0 (fun _ => true) true Tryd.f3.params.toList args.toList ds p := hA0
  rw [Tryd.params3] at hA hval
  obtain ⟨v0, vs0, d0, ds0, p0, q0, hargs, rfl, rfl, h0, r0⟩ := trodAll_cons hA
  obtain ⟨rfl, rfl, rfl⟩ := trodAll_nil r0
  obtain rfl : args = #[v0] := by cases args; simp_all
  obtain ⟨rfl, rfl⟩ := trodVars_none hV
  obtain ⟨s0, rfl, rfl, rfl, b0⟩ := Go.ChangeMaps.open_string Tryd.underlying9 (hval 0 9 v0 rfl rfl) h0
  refine (walk W T s0 b0).mono fun e W2 ⟨he, hb⟩ => ?_
  subst he
  exact ⟨_, rfl, law_post (by kernel_rfl) rfl rfl (by decide +kernel) hW2 hb⟩
theorem laid_met (os : Os) : laidMetH Tryd.prog Rows.protoBackRow.laid ((World.laidAll Tryd.prog os Rows.protoBackRow.laid).forCall (fun _ _ => 0) ⟨#[], #[.string .empty], []⟩).memory := by
  rw [MakeChecks.laidMetH_plain _ _ _ (by kernel_rfl)]
  exact laidMet_laidAll _ (by kernel_rfl) (by kernel_rfl)
theorem reads (os : Os) {H : Type} (enc : TypeId × Value → H) : ∃ places, DataW.whole enc Tryd.prog ((World.laidAll Tryd.prog os Rows.protoBackRow.laid).forCall (fun _ _ => 0) ⟨#[], #[.string .empty], []⟩).memory Tryd.f3.params.toList Rows.protoBackSpec.vars false (#[.string .empty] : Array Value).toList 8 = some ([.lit (.string [])], [], places) := ⟨[], by kernel_rfl⟩
set_option maxRecDepth 100000 in
theorem lifted (os : Os) (started : os.Started) (H : Type) (enc : TypeId × Value → H) (F : Stop.Interp) :
    ReturnsInHanded {} Tryd.checked os 3 .any ((OpenSpec.ofChange Rows.protoBackSpec).preRow enc Tryd.prog Tryd.f3 Rows.protoBackRow.domain false Rows.protoBackRow.laid) (((OpenSpec.ofChange Rows.protoBackSpec).at F).post enc Tryd.prog Tryd.f3 false true false false) := by
  obtain ⟨places, hx⟩ := reads os enc
  refine returnsInHanded_of_row (C := Tryd.checked) (s := OpenSpec.ofChange Rows.protoBackSpec) own started (by kernel_rfl) Tryd.func3
    (witness_row_at (enc := enc) (C := Tryd.checked) false (World.laidAll Tryd.prog os Rows.protoBackRow.laid) #[.string .empty] (World.laidAll_os _ _ _) (by kernel_rfl) (by kernel_rfl) (by kernel_rfl)
      (OpenSpec.preRow_of_cond 8 hx (by kernel_rfl) (fun k hk => by cases hk) (by kernel_rfl) (laid_met os))) ?_
  intro W base args ds gs before hval hW _ _ hsz hL _ _
  exact contract H enc W base args ds gs before hval hW hsz hL
theorem said : Rows.ProtoBackSaid :=
  OpenClaim.holds_of_cond 3 Tryd.f3 rfl rfl rfl rfl rfl rfl rfl ⟨rfl, rfl, rfl, rfl, rfl⟩ rfl rfl rfl rfl rfl (by kernel_rfl) Tryd.func3 (by kernel_rfl)
    (of_decide_eq_true (by kernel_rfl)) (by unfold Func.isWrapper; first | (rw [if_pos (by decide +kernel)]; kernel_rfl) | (rw [if_neg (by decide +kernel)]; exact ⟨rfl, rfl⟩))
    (fun os started H enc _ F => by rw [OpenClaim.pre_eq_preRow]; exact lifted os started H enc F)
theorem plain (f : FuncId) (fn : Func) (hf : Tryd.pinned.checked.prog.funcNamed "truffle/trufflelaw07.ProtoBack" = some f) (hfn : Tryd.pinned.checked.prog.funcs[f]? = some fn) :
    true = Tryd.pinned.checked.prog.looks [] ∧ ∀ (j : Nat) t, fn.params[j]? = some t → Tryd.pinned.checked.prog.wantsStandIn t = false := by
  obtain rfl : f = 3 := Option.some.inj ((show Tryd.prog.funcNamed "truffle/trufflelaw07.ProtoBack" = some 3 by kernel_rfl).symm.trans hf) |>.symm
  obtain rfl : fn = Tryd.f3 := (Option.some.inj (Tryd.func3.symm.trans hfn)).symm
  refine ⟨by kernel_rfl, fun j t ht => ?_⟩
  have hall : (Tryd.f3.params.toList.all fun t => !Tryd.prog.wantsStandIn t) = true := by kernel_rfl
  have := List.all_eq_true.1 hall t (Array.mem_toList_iff.2 (Array.mem_of_getElem? ht))
  exact (show Tryd.prog.wantsStandIn t = false by simpa using this)
theorem proved : Rows.ProtoBackCardSaid :=
  Claim7.holds_tied_plain_at .later [] _ _ _ _ said (fun _ h => by cases h) (by kernel_rfl) (fun _ h => by cases h) protoBack_row_tie rfl ⟨rfl, rfl⟩ (by kernel_rfl) rfl plain (by kernel_rfl)

end Go.Proofs.YtldgfepimegbmaaDoor.lawProtoBack
