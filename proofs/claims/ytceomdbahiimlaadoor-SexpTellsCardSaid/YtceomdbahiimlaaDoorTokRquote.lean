/-
  Strings that are quoted, by the document's own function: its contract.
-/
import Derived.Test.YtceomdbahiimlaaDoorTokQuote
namespace Go.Proofs.YtceomdbahiimlaaDoor
set_option maxRecDepth 100000

open Go.RowKit

set_option maxRecDepth 1000000 in
set_option maxHeartbeats 2000000 in
theorem rquote_any (s : ByteArray) (hs : s.size ≤ 1000000) (w : World) :
    Calls Tryd.prog 44 #[.string s] w fun e w' => e = .returned (.string (txt (quote s.data.toList))) ∧ Below w.heap.size w w' := by
  obtain ⟨i0, hi, hz0, hz1, hz2⟩ := info_parts info_u8
  have hsl : s.data.toList.length = s.size := by simp
  have hsg := at_list s
  generalize s.data.toList = L at *
  have HSL := Lib.hid hsl
  have HSG := Lib.hid hsg
  clear hsl hsg
  obtain ⟨S, hS⟩ : ∃ S, S = halfS := ⟨_, rfl⟩
  have hS' : (⟨#[48, 49, 50, 51, 52, 53, 54, 55, 56, 57, 97, 98, 99, 100, 101, 102]⟩ : ByteArray) = S := hS.symm
  have HIX := Lib.hid (fun k h i hi w => half_index k h i hi S hS w)
  clear hS
  go_enter Tryd.func44, Tryd.ntmps44
  simp only [hS']
  clear hS'
  go_wp2_with fail
  go_loopw [3, 5] (fun v i wr => ∃ k : Nat, i = .int .i64 k ∧ k ≤ s.size ∧ wr.ownsRow w.heap.size 5 1 v (qpre L k).length (bs (qpre L k)) ∧ Below w.heap.size w wr) (fun _ i _ => s.size - (intOf i).toNat)
  case atStart => exact ⟨0, rfl, by omega, lit_own w _, below_new _ _⟩
  case round =>
    obtain ⟨k, rfl, hk, hown, hb⟩ := hrel
    have hql := qpre_len L k
    have hsz := hb.size
    by_cases h1 : k < s.size
    · have HX := Lib.hid (HSG.out k h1)
      have HN := Lib.hid (qpre_next HX.out)
      obtain ⟨c, hc⟩ : ∃ c, c = s[k]'h1 := ⟨_, rfl⟩
      rw [← hc] at HN HX
      have HC := hc.symm
      clear hc
      obtain ⟨c1, c2, c3, c4⟩ := q1_cases c
      have e34 : ((c.toNat : Int) == 34) = (c == 34) := u8_eq c 34 (by decide)
      have e92 : ((c.toNat : Int) == 92) = (c == 92) := u8_eq c 92 (by decide)
      have e10 : ((c.toNat : Int) == 10) = (c == 10) := u8_eq c 10 (by decide)
      generalize q1 c = Q at *
      generalize qpre L k = pre at *
      cases hB : c == 10
      · have b3 : ((c.toNat : Int) == 10) = false := e10.trans hB
        cases hC : isPlain c
        · have hA' : (c == 34 || c == 92) = false := by
            cases h34 : c == 34
            · cases h92 : c == 92
              · rfl
              · have : c = 92 := by simpa using h92
                subst this; exact absurd hC (by decide)
            · have : c = 34 := by simpa using h34
              subst this; exact absurd hC (by decide)
          obtain rfl := c4 hA' hB hC
          have hlt := c.toNat_lt
          have hx1 := HIX.out (c.toNat / 16) (by omega) ((c.toNat : Int) / 16) (by omega)
          have hx2 := HIX.out (c.toNat % 16) (by omega) ((c.toNat : Int) % 16) (by omega)
          have f1 : (c.toNat : Int).tdiv 16 = (c.toNat : Int) / 16 := Int.tdiv_eq_ediv_of_nonneg (by omega)
          have f2 : (c.toNat : Int).tmod 16 = (c.toNat : Int) % 16 := Int.tmod_eq_emod_of_nonneg (by omega)
          have f3 : IntKind.u8.wrap ((c.toNat : Int) / 16) = (c.toNat : Int) / 16 := by simp [IntKind.wrap, IntKind.signed, IntKind.bits]; omega
          have f4 : IntKind.u8.wrap ((c.toNat : Int) % 16) = (c.toNat : Int) % 16 := by simp [IntKind.wrap, IntKind.signed, IntKind.bits]; omega
          have f5 : IntKind.u8.wrap ((c.toNat : Int).tdiv 16) = (c.toNat : Int) / 16 := by rw [f1, f3]
          have f6 : IntKind.u8.wrap ((c.toNat : Int).tmod 16) = (c.toNat : Int) % 16 := by rw [f2, f4]
          have hcase : (((c.toNat : Int) < 32) ∨ (¬ (c.toNat : Int) < 32 ∧ (126 : Int) < (c.toNat : Int))) := by
            simp only [isPlain, Bool.and_eq_false_iff, decide_eq_false_iff_not] at hC
            omega
          have E1 := Lib.hid (bv_app pre [92, 120, hexd (c.toNat / 16), hexd (c.toNat % 16)] (l := [.int .u8 92, .int .u8 120, .int .u8 ((hexd (c.toNat / 16)).toNat : Int), .int .u8 ((hexd (c.toNat % 16)).toNat : Int)]) rfl)
          have E2 : Hid (pre.length + 4 = (pre ++ [92, 120, hexd (c.toNat / 16), hexd (c.toNat % 16)]).length) := Lib.hid (by simp)
          generalize hexd (c.toNat / 16) = x1 at *
          generalize hexd (c.toNat % 16) = x2 at *
          clear c1 c2 c3 c4 e34 e92 e10 hA' hB hC
          rcases hcase with b4 | ⟨b4, b5⟩
          · have d4 : decide ((c.toNat : Int) < 32) = true := by simpa using b4
            clear b4
            go_wp2_with fail
            go_region_held_law (fun _ => True) (trivial)
              (first
                | (refine step_append_lies _ rfl _ _ 53 rfl w.heap.size 5 i0 (.int .u8 0) 1 1 Tryd.underlying53 hi hz0 hz1 hz2 rfl (by decide) u3 pre.length (bs pre) (by simp [Act.eval, Act.put]) (hown.alloc _) ⟨wr.heap.size, 0, none⟩ 4 4 [.int .u8 92, .int .u8 120, .int .u8 (x1.toNat : Int), .int .u8 (x2.toNat : Int)] (by simp [Act.eval, Act.put]) rfl (World.news_of_block (heap_alloc_new _ _)) (by intro u hu; simp at hu; rcases hu with rfl | rfl | rfl | rfl <;> rfl) (by decide) (by unfold maxLen; omega) (by omega) (by simp; omega) wr.heap.size.succ (by simp) ?_; intro g3 cap3 w3 hown3 hg3 hat3 hlt3))
            all_goals
              go_wp2
              rw [E1.out] at hown3
              refine ⟨⟨k + 1, by go_num, by omega, ?_, ((below_lit hb _).drew).grown hg3 (by simp; omega) (own_ge hown)⟩, by simp [intOf]; omega⟩
              rw [HN.out]
              first
                | exact hown3
                | (rw [← E2.out]; exact hown3)
                | (simpa using hown3)
          · have d4 : decide ((c.toNat : Int) < 32) = false := by simpa using b4
            have d5 : decide ((126 : Int) < (c.toNat : Int)) = true := by rw [decide_eq_true_eq]; exact b5
            clear b4 b5
            go_wp2_with fail
            go_region_held_law (fun _ => True) (trivial)
              (first
                | (refine step_append_lies _ rfl _ _ 53 rfl w.heap.size 5 i0 (.int .u8 0) 1 1 Tryd.underlying53 hi hz0 hz1 hz2 rfl (by decide) u3 pre.length (bs pre) (by simp [Act.eval, Act.put]) (hown.alloc _) ⟨wr.heap.size, 0, none⟩ 4 4 [.int .u8 92, .int .u8 120, .int .u8 (x1.toNat : Int), .int .u8 (x2.toNat : Int)] (by simp [Act.eval, Act.put]) rfl (World.news_of_block (heap_alloc_new _ _)) (by intro u hu; simp at hu; rcases hu with rfl | rfl | rfl | rfl <;> rfl) (by decide) (by unfold maxLen; omega) (by omega) (by simp; omega) wr.heap.size.succ (by simp) ?_; intro g3 cap3 w3 hown3 hg3 hat3 hlt3))
            all_goals
              go_wp2
              rw [E1.out] at hown3
              refine ⟨⟨k + 1, by go_num, by omega, ?_, ((below_lit hb _).drew).grown hg3 (by simp; omega) (own_ge hown)⟩, by simp [intOf]; omega⟩
              rw [HN.out]
              first
                | exact hown3
                | (rw [← E2.out]; exact hown3)
                | (simpa using hown3)
        · have hC2 := hC
          simp only [isPlain, Bool.and_eq_true, decide_eq_true_eq] at hC2
          have d4 : decide ((c.toNat : Int) < 32) = false := by rw [decide_eq_false_iff_not]; omega
          have d5 : decide ((126 : Int) < (c.toNat : Int)) = false := by rw [decide_eq_false_iff_not]; omega
          by_cases hA : (c == 34 || c == 92) = true
          · obtain rfl := c1 hA
            have E1 := Lib.hid (bv_app pre [92, c] (l := [.int .u8 92, .int .u8 (c.toNat : Int)]) rfl)
            have E2 : Hid (pre.length + 2 = (pre ++ [92, c]).length) := Lib.hid (by simp)
            have hor : ((c.toNat : Int) == 34) = true ∨ ((c.toNat : Int) == 34) = false ∧ ((c.toNat : Int) == 92) = true := by
              rw [e34, e92]
              cases h : c == 34
              · rw [h] at hA; right; exact ⟨rfl, by simpa using hA⟩
              · left; rfl
            clear c1 c2 c3 c4 e34 e92 e10 hA hB hC hC2
            rcases hor with b1 | ⟨b1, b2⟩
            · go_wp2_with (at_builtin; refine wpList_app_sl rfl _ _ 53 rfl w.heap.size 5 i0 (.int .u8 0) 1 1 Tryd.underlying53 hi hz0 hz1 hz2 rfl (by omega) u3 pre.length (bs pre) rfl (hown.alloc _) _ 2 2 [.int .u8 92, .int .u8 (c.toNat : Int)] rfl (Sl.new wr [.int .u8 92, .int .u8 (c.toNat : Int)] 5 (by unfold maxLen; simp)) (by intro u hu; simp at hu; rcases hu with rfl | rfl <;> rfl) (by unfold maxLen; omega) (by omega) (by simp; omega) ?_; intro v3 w3 hown3 hg3)
              rw [E1.out, E2.out] at hown3
              refine ⟨⟨k + 1, by go_num, by omega, ?_, (below_lit hb _).grown hg3 (by simp; omega) (own_ge hown)⟩, by simp [intOf]; omega⟩
              rw [HN.out]
              exact hown3
            · go_wp2_with (at_builtin; refine wpList_app_sl rfl _ _ 53 rfl w.heap.size 5 i0 (.int .u8 0) 1 1 Tryd.underlying53 hi hz0 hz1 hz2 rfl (by omega) u3 pre.length (bs pre) rfl (hown.alloc _) _ 2 2 [.int .u8 92, .int .u8 (c.toNat : Int)] rfl (Sl.new wr [.int .u8 92, .int .u8 (c.toNat : Int)] 5 (by unfold maxLen; simp)) (by intro u hu; simp at hu; rcases hu with rfl | rfl <;> rfl) (by unfold maxLen; omega) (by omega) (by simp; omega) ?_; intro v3 w3 hown3 hg3)
              rw [E1.out, E2.out] at hown3
              refine ⟨⟨k + 1, by go_num, by omega, ?_, (below_lit hb _).grown hg3 (by simp; omega) (own_ge hown)⟩, by simp [intOf]; omega⟩
              rw [HN.out]
              exact hown3
          · have hA' : (c == 34 || c == 92) = false := by simpa using hA
            obtain ⟨a1, a2⟩ : (c == 34) = false ∧ (c == 92) = false := by simpa only [Bool.or_eq_false_iff] using hA'
            have b1 : ((c.toNat : Int) == 34) = false := e34.trans a1
            have b2 : ((c.toNat : Int) == 92) = false := e92.trans a2
            obtain rfl := c3 hA' hB hC
            have E1 := Lib.hid (bv_app pre [c] (l := [.int .u8 (c.toNat : Int)]) rfl)
            have E2 : Hid (pre.length + 1 = (pre ++ [c]).length) := Lib.hid (by simp)
            clear c1 c2 c3 c4 e34 e92 e10 hA hA' a1 a2 hB hC hC2
            go_wp2_with (at_builtin; refine wpList_app_sl rfl _ _ 53 rfl w.heap.size 5 i0 (.int .u8 0) 1 1 Tryd.underlying53 hi hz0 hz1 hz2 rfl (by omega) u3 pre.length (bs pre) rfl (hown.alloc _) _ 1 1 [.int .u8 (c.toNat : Int)] rfl (Sl.new wr [.int .u8 (c.toNat : Int)] 5 (by unfold maxLen; simp)) (by intro u hu; simp at hu; rcases hu with rfl; rfl) (by unfold maxLen; omega) (by omega) (by simp; omega) ?_; intro v3 w3 hown3 hg3)
            rw [E1.out, E2.out] at hown3
            refine ⟨⟨k + 1, by go_num, by omega, ?_, (below_lit hb _).grown hg3 (by simp; omega) (own_ge hown)⟩, by simp [intOf]; omega⟩
            rw [HN.out]
            exact hown3
      · have b3 : ((c.toNat : Int) == 10) = true := e10.trans hB
        have hA' : (c == 34 || c == 92) = false := by
          have : c = 10 := by simpa using hB
          subst this; rfl
        obtain rfl := c2 hA' hB
        have E1 := Lib.hid (bv_app pre [92, 110] (l := [.int .u8 92, .int .u8 110]) rfl)
        have E2 : Hid (pre.length + 2 = (pre ++ [(92 : UInt8), 110]).length) := Lib.hid (by simp)
        clear c1 c2 c3 c4 e34 e92 e10 hA' hB
        go_wp2_with (at_builtin; refine wpList_app_sl rfl _ _ 53 rfl w.heap.size 5 i0 (.int .u8 0) 1 1 Tryd.underlying53 hi hz0 hz1 hz2 rfl (by omega) u3 pre.length (bs pre) rfl (hown.alloc _) _ 2 2 [.int .u8 92, .int .u8 110] rfl (Sl.new wr [.int .u8 92, .int .u8 110] 5 (by unfold maxLen; simp)) (by intro u hu; simp at hu; rcases hu with rfl | rfl <;> rfl) (by unfold maxLen; omega) (by omega) (by simp; omega) ?_; intro v3 w3 hown3 hg3)
        rw [E1.out, E2.out] at hown3
        refine ⟨⟨k + 1, by go_num, by omega, ?_, (below_lit hb _).grown hg3 (by simp; omega) (own_ge hown)⟩, by simp [intOf]; omega⟩
        rw [HN.out]
        exact hown3
    · obtain rfl : k = s.size := by omega
      have HQ := Lib.hid (quote_eq L)
      rw [HSL.out] at HQ
      generalize qpre L s.size = P at *
      have E1 : Hid (bs P ++ [.int .u8 34] = bs (P ++ [34])) := Lib.hid (bs_snoc P 34)
      have E2 : Hid (P.length + 1 = (P ++ [(34 : UInt8)]).length) := Lib.hid (by simp)
      generalize P ++ [(34 : UInt8)] = R at *
      obtain ⟨X, hX⟩ : ∃ X, X = txt R := ⟨_, rfl⟩
      have HX := Lib.hid hX
      clear hX
      go_wp2_with (at_builtin; refine wpList_app1 rfl _ _ 53 rfl w.heap.size 5 i0 (.int .u8 0) 1 Tryd.underlying53 hi hz0 hz1 hz2 rfl _ P.length (bs P) rfl (hown.alloc _) wr.heap.size 1 _ rfl (World.cell?_alloc_at _ _ _ _ rfl) rfl (by unfold maxLen; omega) (by omega) (by simp; omega) ?_; intro v3 w3 hown3 hg3; replace hown3 : w3.ownsRow w.heap.size 5 1 v3 R.length (bs R) := (by rw [← E1.out, ← E2.out]; exact hown3); obtain ⟨A, cp, rfl, hr⟩ := SlB.of_own hown3; have hcv := run_str_of_bytes (P := Tryd.prog) w3 53 9 5 Tryd.underlying53 Tryd.underlying5 Tryd.underlying9 A cp _ hr; rw [← HX.out] at hcv)
      go_ret
      exact ⟨by rw [← HQ.out, ← HX.out]; rfl, (below_lit hb _).grown hg3 (by simp; omega) (own_ge hown)⟩
end Go.Proofs.YtceomdbahiimlaaDoor
