/-
  The statement SexpMay's own body, for every text.
-/
import Derived.Test.YtceomdbahiimlaaDoorSexAw
namespace Go.Proofs.YtceomdbahiimlaaDoor.T14
set_option maxRecDepth 100000

open Go.RowKit

theorem size_zero (T : ByteArray) (h : T = ⟨#[]⟩) : T.size = 0 := by subst h; rfl
set_option maxRecDepth 1000000 in
set_option maxHeartbeats 4000000 in
theorem smWalk (w : World) (LV : Laid w) (s : ByteArray) (hs0 : s.size ≤ maxLen) :
    Calls Tryd.prog 5 #[.string s] w fun e w' => e = .returned (.bool true) ∧ Below w.heap.size w w' := by
  by_cases h3 : 3000 < s.size
  · have d3 : decide ((3000 : Int) < (s.size : Int)) = true := by rw [decide_eq_true_eq]; omega
    go_enter Tryd.func5, Tryd.ntmps5
    go_wp2_with fail
    refine (awake14_any _ LV).mono ?_
    rintro e w1 ⟨rfl, hb1⟩
    go_wp2
    go_ret
    exact ⟨rfl, hb1⟩
  · have d3 : decide ((3000 : Int) < (s.size : Int)) = false := by rw [decide_eq_false_iff_not]; omega
    have hsl : s.data.toList.length = s.size := by simp
    have hpar := fun w L => parse14_rd s (by omega) w L
    by_cases he : (parR Lib.itoa s.data.toList).2.2 = 0
    · obtain ⟨hasc, hat⟩ := par_places he
      have hmay := par_may he
      have hsmall := par_small (it := Lib.itoa) s.data.toList
      rw [hsl] at hasc hat
      rw [he, hat] at hpar
      generalize (parR Lib.itoa s.data.toList).1 = x at *
      have HPAR := Lib.hid hpar
      have HM := Lib.hid hmay
      have HS := Lib.hid hsmall
      obtain ⟨ha0, ha1, ha2, ha3⟩ := hasc
      have HA2 := Lib.hid ha2
      have HA3 := Lib.hid ha3
      have HAA := Lib.hid (And.intro ha0 ha1)
      clear hpar hmay hsmall ha0 ha1 ha2 ha3 he hat h3
      go_enter Tryd.func5, Tryd.ntmps5
      go_wp2_with fail
      refine (awake14_any _ LV).mono ?_
      rintro e w1 ⟨rfl, hb1⟩
      go_wp2_with fail
      refine (HPAR.out _ (LV.on hb1)).mono ?_
      rintro e w2 ⟨g, rfl, hn, hb⟩
      have hb2 := below_then hb1 hb
      have HN := Lib.hid hn
      obtain ⟨u', hu, hl⟩ := hn
      obtain rfl : g = u' := by simpa using hu
      obtain ⟨A, c, xs, rfl, hsl2, hbl, hr, hnl⟩ := hl.open_
      have hB2 := below_new w2 (.cells #[.int .i64 x.kind, .string (tx x.text), .int .i64 x.num, .int .i64 x.at_, .slice A x.l.length c] 24)
      have hX2 := heap_alloc_new w2 (.cells #[.int .i64 x.kind, .string (tx x.text), .int .i64 x.num, .int .i64 x.at_, .slice A x.l.length c] 24)
      have HMM := Lib.hid (may14_any 17 x (.slice A x.l.length c) _ (by decide) (NRd.mono hB2.size (NRd.low (Lo.below hB2 (Nat.le_refl _)) HN.out)) (HS.out.mono (by decide)) (LV.on (below_then hb2 hB2)))
      rw [HM.out] at HMM
      have HSL := Lib.hid (sl_low hsl2 hbl (Lo.below hB2 (Nat.le_refl _)))
      obtain ⟨n0, n1, n2, n3, n4⟩ := five_cells hX2
      have HR := Lib.hid hr
      have HB2 := Lib.hid (below_then hb2 hB2)
      clear hX2 hsl2 hbl hr hl hb hb2 hB2 hu
      go_wp2
      go_loopw [7, 8] (fun v i wr => ∃ k : Nat, i = .int .i64 k ∧ k ≤ x.l.length ∧ wr = w2.alloc (.cells #[.int .i64 x.kind, .string (tx x.text), .int .i64 x.num, .int .i64 x.at_, .slice A x.l.length c] 24) ∧ ∃ q : Int, v = .int .i64 q ∧ ∀ a, x.l[k]? = some a → q < a.at_) (fun _ i _ => x.l.length - (intOf i).toNat)
      case atStart => exact ⟨0, rfl, by omega, rfl, x.at_, rfl, fun a ha => (HA3.out a (List.mem_of_getElem? ha)).1⟩
      case round =>
        obtain ⟨k, rfl, hk, rfl, q, rfl, hq⟩ := hrel
        by_cases hlt : k < x.l.length
        · obtain ⟨a, ha⟩ : ∃ a, x.l[k]? = some a := ⟨_, List.getElem?_eq_getElem hlt⟩
          obtain ⟨ad, u, rfl, hg1, hc1, p0, p1, p2, p3, p4⟩ := row5 HSL.out HR.out ha
          have h1 := hq a ha
          have h2 := (HA3.out a (List.mem_of_getElem? ha)).2
          have d1 : decide (a.at_ ≤ q) = false := by rw [decide_eq_false_iff_not]; omega
          have d2 : decide ((s.size : Int) ≤ a.at_) = false := by rw [decide_eq_false_iff_not]; omega
          have hnext : ∀ b, x.l[k + 1]? = some b → a.at_ < b.at_ := fun b hb => by
            obtain ⟨i1, e1⟩ := List.getElem?_eq_some_iff.1 ha
            obtain ⟨i2, e2⟩ := List.getElem?_eq_some_iff.1 hb
            have := List.pairwise_iff_getElem.1 HA2.out k (k + 1) i1 i2 (by omega)
            rwa [e1, e2] at this
          have HNX := Lib.hid hnext
          clear hnext hq h1 h2 p0 p1 p2 p4 hc1
          go_wp2
          refine ⟨⟨k + 1, ?_, by omega, by first | rfl | trivial, a.at_, rfl, HNX.out⟩, by simp [intOf]; omega⟩
          go_num
        · obtain ⟨ha0, ha1⟩ := HAA.out
          have d1 : decide ((0 : Int) ≤ x.at_) = true := by rw [decide_eq_true_eq]; exact ha0
          have d2 : decide (x.at_ < (s.size : Int)) = true := by rw [decide_eq_true_eq]; omega
          go_wp2_with (go_at_call 14; refine HMM.out.mono ?_; rintro e w3 ⟨rfl, hb3⟩; have hb4 := below_then HB2.out hb3; have m3 := (hb3.cell (World.block_lt_of_cell? _ _ n3)).trans n3)
          go_ret
          exact ⟨rfl, hb4⟩
    · obtain ⟨hz, hat⟩ := par_err he
      rw [hsl] at hat
      rw [hz] at hpar
      have d1 : decide ((parR Lib.itoa s.data.toList).2.1 ≤ s.size) = true := by rw [decide_eq_true_eq]; exact hat
      have d2 : decide (((parR Lib.itoa s.data.toList).2.1 : Int) ≤ (s.size : Int)) = true := by rw [decide_eq_true_eq]; omega
      have d3 : ((((parR Lib.itoa s.data.toList).2.2 : Nat) : Int) != 0) = true := by rw [bne_iff_ne]; omega
      have d5 : (tx []).toList.isEmpty = true := by rw [Lib.toList_data]; rfl
      generalize (parR Lib.itoa s.data.toList).2.1 = pl at *
      generalize (parR Lib.itoa s.data.toList).2.2 = er at *
      have HPAR := Lib.hid hpar
      clear hpar hz h3
      go_enter Tryd.func5, Tryd.ntmps5
      go_wp2_with fail
      refine (awake14_any _ LV).mono ?_
      rintro e w1 ⟨rfl, hb1⟩
      go_wp2_with fail
      refine (HPAR.out _ (LV.on hb1)).mono ?_
      rintro e w2 ⟨g, rfl, hn, hb⟩
      have hb2 := below_then hb1 hb
      obtain ⟨A, c, rfl⟩ := NAt.shape hn
      have hB2 := below_new w2 (.cells #[.int .i64 0, .string (tx []), .int .i64 0, .int .i64 0, .slice A 0 c] 24)
      obtain ⟨n0, n1, n2, n3, n4⟩ := five_cells (heap_alloc_new w2 (.cells #[.int .i64 0, .string (tx []), .int .i64 0, .int .i64 0, .slice A 0 c] 24))
      have HB2 := Lib.hid (below_then hb2 hB2)
      clear hn hb hb2 hB2
      simp only [Nd.zero, Nd.kind, Nd.text, Nd.num, Nd.at_, Nd.l, List.length_nil]
      go_wp2
      go_ret
      exact ⟨rfl, HB2.out⟩
end Go.Proofs.YtceomdbahiimlaaDoor.T14
