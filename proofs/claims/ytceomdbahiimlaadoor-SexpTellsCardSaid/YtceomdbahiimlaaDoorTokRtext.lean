/-
  What a string means, by the document's own function: its contract.
-/
import Derived.Test.YtceomdbahiimlaaDoorTokStr
import Derived.Deep.RegionHeldLaw
import Derived.Deep.QuietTactic
namespace Go.Proofs.YtceomdbahiimlaaDoor
set_option maxRecDepth 100000

open Go.RowKit

/-- What the document tells of a string. -/
def DV (o : Option (List UInt8 × Nat)) (p : Nat) : Value := match o with
  | none => .tuple #[.string ⟨#[]⟩, .int .i64 (-1)]
  | some x => .tuple #[.string (txt x.1), .int .i64 ((p + 1 + x.2 : Nat) : Int)]
theorem StrRel.stopD {L : List UInt8} {p k : Nat} {pre : List UInt8} (h : StrRel L p k pre) (hs : strB 0 (L.drop k) = none) : strB 0 (L.drop (p + 1)) = none := by
  unfold StrRel at h
  rw [h, hs]; rfl
theorem StrRel.doneD {L : List UInt8} {p k : Nat} {pre : List UInt8} (h : StrRel L p k pre) (hk : p < k) (hs : strB 0 (L.drop k) = some ([], 1)) : strB 0 (L.drop (p + 1)) = some (pre, k - p) := by
  unfold StrRel at h
  rw [h, hs]
  simp; omega
theorem ret_dtext {o : Option (List UInt8 × Nat)} {t : List UInt8} {m p : Nat} {x y : Value} (h : o = some (t, m)) (hx : x = .string (txt t)) (hy : y = .int .i64 ((p + 1 + m : Nat) : Int)) : Ending.returned (.tuple #[x, y]) = .returned (DV o p) := by
  subst h hx hy; rfl
theorem ret_nodtext {o : Option (List UInt8 × Nat)} {p : Nat} (h : o = none) : Ending.returned (.tuple #[.string ⟨#[]⟩, .int .i64 (-1)]) = .returned (DV o p) := by
  subst h; rfl
/-- What stands in a string, by the sorts that the document tells apart. -/
theorem str_plain {l : List UInt8} {k : Nat} {c : UInt8} (h : l[k]? = some c) (h34 : c ≠ 34) (h92 : c ≠ 92) :
    ((c.toNat < 32 ∨ c.toNat = 127) → strB 0 (l.drop k) = none) ∧ (¬ (c.toNat < 32 ∨ c.toNat = 127) → strB 0 (l.drop k) = (strB 0 (l.drop (k + 0 + 1))).map fun y => (c :: y.1, y.2 + 0 + 1)) := by
  have e34 : (c == 34) = false := by simpa using h34
  have hat := str_at h
  rw [e34, ws_at h, meant_plain h92] at hat
  rw [ws_at h]
  simp only [Bool.false_eq_true, if_false] at hat
  have hlt := c.toNat_lt
  constructor
  · intro hc
    have : (isPlain c || decide (128 ≤ c.toNat)) = false := by simp only [isPlain, Bool.or_eq_false_iff, Bool.and_eq_false_iff, decide_eq_false_iff_not]; omega
    rw [this] at hat
    exact hat
  · intro hc
    have : (isPlain c || decide (128 ≤ c.toNat)) = true := by simp only [isPlain, Bool.or_eq_true, Bool.and_eq_true, decide_eq_true_eq]; omega
    rw [this] at hat
    exact hat

set_option maxRecDepth 1000000 in
set_option maxHeartbeats 2000000 in
theorem rtext_any (s : ByteArray) (hs : s.size ≤ 1000000) (p : Nat) (hp : p < s.size) (w : World) :
    Calls Tryd.prog 55 #[.string s, .int .i64 p] w fun e w' => e = .returned (DV (strB 0 (s.data.toList.drop (p + 1))) p) ∧ Below w.heap.size w w' := by
  obtain ⟨i0, hi, hz0, hz1, hz2⟩ := info_parts info_u8
  have hsl : s.data.toList.length = s.size := by simp
  have hsg := at_list s
  generalize s.data.toList = L at *
  have HSL := Lib.hid hsl
  have HSG := Lib.hid hsg
  clear hsl hsg
  go_enter Tryd.func55, Tryd.ntmps55
  go_wp2_with fail
  go_loopw [6, 7] (fun v i wr => ∃ (k : Nat) (pre : List UInt8), i = .int .i64 k ∧ p < k ∧ k ≤ s.size ∧ pre.length ≤ k ∧ wr.ownsRow w.heap.size 5 1 v pre.length (bs pre) ∧ StrRel L p k pre ∧ Below w.heap.size w wr) (fun _ i _ => s.size - (intOf i).toNat)
  case atStart => exact ⟨p + 1, [], by simp, by omega, by omega, by simp, World.ownsRow_nil _ _ _ _, by unfold StrRel; cases strB 0 (L.drop (p + 1)) <;> simp, Below.refl _ _⟩
  case round =>
    obtain ⟨k, pre, rfl, hpk, hk, hpl, hown, hrel, hb⟩ := hrel
    have HR := Lib.hid hrel
    clear hrel
    by_cases h1 : k < s.size
    · have HX := Lib.hid (HSG.out k h1)
      obtain ⟨c, hc⟩ : ∃ c, c = s[k] := ⟨_, rfl⟩
      rw [← hc] at HX
      have HC := hc.symm
      clear hc
      have e34 : ((c.toNat : Int) == 34) = (c == 34) := u8_eq c 34 (by decide)
      have e92 : ((c.toNat : Int) == 92) = (c == 92) := u8_eq c 92 (by decide)
      have hsz := hb.size
      by_cases h34 : c = 34
      · have b1 : ((c.toNat : Int) != 34) = false := by rw [bne, e34, h34]; rfl
        have hat := str_at HX.out
        have HT := Lib.hid (HR.out.doneD hpk (by rw [hat, h34]; rfl))
        obtain ⟨A, cp, rfl, hr⟩ := SlB.of_own hown
        have hcv := run_str_of_bytes (P := Tryd.prog) wr 53 9 5 Tryd.underlying53 Tryd.underlying5 Tryd.underlying9 A cp pre hr
        obtain ⟨X, hX⟩ : ∃ X, X = txt pre := ⟨_, rfl⟩
        rw [← hX] at hcv
        have HXX := Lib.hid hX
        clear hat hX hr hown e34 e92 h34
        go_wp2
        go_ret2
        exact ⟨ret_dtext HT.out (by rw [← HXX.out]; rfl) (congrArg (Value.int .i64) (by simp; omega)), hb⟩
      · have b1 : ((c.toNat : Int) != 34) = true := by rw [bne, e34]; simpa using h34
        by_cases h92 : c = 92
        · have b2 : ((c.toNat : Int) != 92) = false := by rw [bne, e92, h92]; rfl
          have b3 : decide ((c.toNat : Int) < 32) = false := by rw [h92]; rfl
          have b4 : ((c.toNat : Int) == 127) = false := by rw [h92]; rfl
          have HXL := Lib.hid (ws_at HX.out)
          subst h92
          have hat := str_at HX.out
          simp only [show ((92 : UInt8) == 34) = false from rfl, Bool.false_eq_true, if_false] at hat
          clear e34 e92 h34
          by_cases h2 : k + 1 < s.size
          · have HY := Lib.hid (HSG.out (k + 1) h2)
            have d2 : decide ((s.size : Int) ≤ (k : Int) + 1) = false := by rw [decide_eq_false_iff_not]; omega
            obtain ⟨d, hd⟩ : ∃ d, d = s[k + 1]'h2 := ⟨_, rfl⟩
            rw [← hd] at HY
            have HDD := hd.symm
            clear hd
            have HXY : Hid (L.drop k = 92 :: d :: L.drop (k + 2)) := Lib.hid (by rw [HXL.out, ws_at HY.out])
            obtain ⟨m1, m2, m3⟩ := meant_mark HXY.out
            have e34 : ((d.toNat : Int) == 34) = (d == 34) := u8_eq d 34 (by decide)
            have e92 : ((d.toNat : Int) == 92) = (d == 92) := u8_eq d 92 (by decide)
            have e110 : ((d.toNat : Int) == 110) = (d == 110) := u8_eq d 110 (by decide)
            have e120 : ((d.toNat : Int) == 120) = (d == 120) := u8_eq d 120 (by decide)
            by_cases hA : (d == 34 || d == 92) = true
            · rw [m1 hA] at hat
              simp only at hat
              have HN := Lib.hid (HR.out.next (j := 1) (b := d) hpk hat)
              have E1 := Lib.hid (bs_snoc pre d)
              have E2 : Hid (pre.length + 1 = (pre ++ [d]).length) := Lib.hid (by simp)
              have hor : d = 34 ∨ d = 92 := by simpa using hA
              clear m1 m2 m3 hat e34 e92 e110 e120 hA
              rcases hor with rfl | rfl
              · have c1 : (((34 : UInt8).toNat : Int) == 120) = false := rfl
                have c2 : (((34 : UInt8).toNat : Int) != 110) = true := rfl
                have c3 : (((34 : UInt8).toNat : Int) != 92) = true := rfl
                have c4 : (((34 : UInt8).toNat : Int) != 34) = false := rfl
                have c5 : (((34 : UInt8).toNat : Int) == 110) = false := rfl
                go_wp2_with (at_builtin; refine wpList_app1 rfl _ _ 53 rfl w.heap.size 5 i0 (.int .u8 0) 1 Tryd.underlying53 hi hz0 hz1 hz2 rfl _ pre.length (bs pre) rfl (hown.alloc _) wr.heap.size 1 _ rfl (World.cell?_alloc_at _ _ _ _ rfl) rfl (by unfold maxLen; omega) (by omega) (by simp; omega) ?_; intro v3 w3 hown3 hg3)
                refine ⟨⟨k + 2, pre ++ [34], by go_num, by omega, by omega, by simp; omega, ?_, HN.out, (below_lit hb _).grown hg3 (by simp; omega) (own_ge hown)⟩, by simp [intOf]; omega⟩
                rw [← E1.out, ← E2.out]
                exact hown3
              · have c1 : (((92 : UInt8).toNat : Int) == 120) = false := rfl
                have c2 : (((92 : UInt8).toNat : Int) != 110) = true := rfl
                have c3 : (((92 : UInt8).toNat : Int) != 92) = false := rfl
                have c5 : (((92 : UInt8).toNat : Int) == 110) = false := rfl
                go_wp2_with (at_builtin; refine wpList_app1 rfl _ _ 53 rfl w.heap.size 5 i0 (.int .u8 0) 1 Tryd.underlying53 hi hz0 hz1 hz2 rfl _ pre.length (bs pre) rfl (hown.alloc _) wr.heap.size 1 _ rfl (World.cell?_alloc_at _ _ _ _ rfl) rfl (by unfold maxLen; omega) (by omega) (by simp; omega) ?_; intro v3 w3 hown3 hg3)
                refine ⟨⟨k + 2, pre ++ [92], by go_num, by omega, by omega, by simp; omega, ?_, HN.out, (below_lit hb _).grown hg3 (by simp; omega) (own_ge hown)⟩, by simp [intOf]; omega⟩
                rw [← E1.out, ← E2.out]
                exact hown3
            · have hA' : (d == 34 || d == 92) = false := by simpa using hA
              obtain ⟨a1, a2⟩ : (d == 34) = false ∧ (d == 92) = false := by simpa only [Bool.or_eq_false_iff] using hA'
              have c3 : ((d.toNat : Int) != 92) = true := by rw [bne, e92, a2]; rfl
              have c4 : ((d.toNat : Int) != 34) = true := by rw [bne, e34, a1]; rfl
              clear m1 e34 e92 a1 a2 hA
              by_cases h3 : d = 110
              · rw [m2 hA' h3] at hat
                simp only at hat
                have HN := Lib.hid (HR.out.next (j := 1) (b := 10) hpk hat)
                have E1 := Lib.hid (bs_snoc pre 10)
                have E2 : Hid (pre.length + 1 = (pre ++ [(10 : UInt8)]).length) := Lib.hid (by simp)
                have c1 : ((d.toNat : Int) == 120) = false := by rw [e120, h3]; rfl
                have c2 : ((d.toNat : Int) != 110) = false := by rw [bne, e110, h3]; rfl
                have c5 : ((d.toNat : Int) == 110) = true := by rw [e110, h3]; rfl
                clear m2 m3 hat e110 e120 hA' h3
                go_wp2_with (at_builtin; refine wpList_app1 rfl _ _ 53 rfl w.heap.size 5 i0 (.int .u8 0) 1 Tryd.underlying53 hi hz0 hz1 hz2 rfl _ pre.length (bs pre) rfl (hown.alloc _) wr.heap.size 1 _ rfl (World.cell?_alloc_at _ _ _ _ rfl) rfl (by unfold maxLen; omega) (by omega) (by simp; omega) ?_; intro v3 w3 hown3 hg3)
                refine ⟨⟨k + 2, pre ++ [10], by go_num, by omega, by omega, by simp; omega, ?_, HN.out, (below_lit hb _).grown hg3 (by simp; omega) (own_ge hown)⟩, by simp [intOf]; omega⟩
                rw [← E1.out, ← E2.out]
                exact hown3
              · have c2 : ((d.toNat : Int) != 110) = true := by rw [bne, e110]; simpa using h3
                by_cases h4 : d = 120
                · have c1 : ((d.toNat : Int) == 120) = true := by rw [e120, h4]; rfl
                  clear m2 m3 e110 e120 hA'
                  by_cases h5 : k + 3 < s.size
                  · have d3 : decide ((k : Int) + 3 < (s.size : Int)) = true := by rw [decide_eq_true_eq]; omega
                    have h6 : k + 2 < s.size := by omega
                    have HZ := Lib.hid (HSG.out (k + 2) h6)
                    have HU := Lib.hid (HSG.out (k + 3) h5)
                    obtain ⟨g, hg⟩ : ∃ g, g = s[k + 2]'h6 := ⟨_, rfl⟩
                    obtain ⟨f, hf⟩ : ∃ f, f = s[k + 3]'h5 := ⟨_, rfl⟩
                    rw [← hg] at HZ
                    rw [← hf] at HU
                    have HGG := hg.symm
                    have HFF := hf.symm
                    clear hg hf
                    have hm : meant (L.drop k) = match hexv g, hexv f with | some a, some b => some (UInt8.ofNat (16 * a + b), 3) | _, _ => none := by
                      rw [HXY.out, h4, ws_at HZ.out, ws_at HU.out]; rfl
                    rw [hm] at hat
                    clear hm h4 h3
                    cases hg : hexv g with
                    | none =>
                      rw [hg] at hat
                      simp only at hat
                      have HT := Lib.hid (HR.out.stopD hat)
                      have HI := Lib.hid (hexI_none hg)
                      clear hat hg hown
                      go_wp2_with fail
                      refine (rhex_any g _).mono ?_
                      rw [HI.out]
                      rintro e w2 ⟨rfl, rfl⟩
                      go_wp2
                      go_ret2
                      exact ⟨ret_nodtext HT.out, hb⟩
                    | some a =>
                      obtain ⟨ha, ha16⟩ := hexI_some hg
                      have HI := Lib.hid ha
                      have q1 : decide ((0 : Int) ≤ (a : Int)) = true := by simp
                      cases hf : hexv f with
                      | none =>
                        rw [hg, hf] at hat
                        simp only at hat
                        have HT := Lib.hid (HR.out.stopD hat)
                        have HJ := Lib.hid (hexI_none hf)
                        clear hat hg hf hown ha
                        go_wp2_with fail
                        refine (rhex_any g _).mono ?_
                        rw [HI.out]
                        rintro e w2 ⟨rfl, rfl⟩
                        go_wp2_with fail
                        refine (rhex_any f _).mono ?_
                        rw [HJ.out]
                        rintro e w2 ⟨rfl, rfl⟩
                        go_wp2
                        go_ret2
                        exact ⟨ret_nodtext HT.out, hb⟩
                      | some b =>
                        obtain ⟨hbb, hb16⟩ := hexI_some hf
                        have HJ := Lib.hid hbb
                        have q2 : decide ((0 : Int) ≤ (b : Int)) = true := by simp
                        rw [hg, hf] at hat
                        simp only at hat
                        have HN := Lib.hid (HR.out.next (j := 3) (b := UInt8.ofNat (16 * a + b)) hpk hat)
                        clear hat hg hf ha hbb
                        go_wp2_with fail
                        refine (rhex_any g _).mono ?_
                        rw [HI.out]
                        rintro e w2 ⟨rfl, rfl⟩
                        go_wp2_with fail
                        refine (rhex_any f _).mono ?_
                        rw [HJ.out]
                        rintro e w2 ⟨rfl, rfl⟩
                        go_wp2_with fail
                        have E1 := Lib.hid (bs_snoc pre (UInt8.ofNat (16 * a + b)))
                        have E2 : Hid (pre.length + 1 = (pre ++ [UInt8.ofNat (16 * a + b)]).length) := Lib.hid (by simp)
                        have hown2 : wr.drew.ownsRow w.heap.size 5 1 u6 pre.length (bs pre) := hown
                        have hb2 : Below w.heap.size w wr.drew := hb.drew
                        have hsz2 : w.heap.size ≤ wr.drew.heap.size := hsz
                        have hgx : ∀ w, Calls Tryd.prog 65 #[.int .u8 (g.toNat : Int)] w fun e w' => e = .returned (.int .i64 (a : Int)) ∧ w' = w := fun w => (rhex_any g w).mono fun _ _ ⟨he, hw⟩ => ⟨by rw [he, HI.out], hw.symm⟩
                        have hfx : ∀ w, Calls Tryd.prog 65 #[.int .u8 (f.toNat : Int)] w fun e w' => e = .returned (.int .i64 (b : Int)) ∧ w' = w := fun w => (rhex_any f w).mono fun _ _ ⟨he, hw⟩ => ⟨by rw [he, HJ.out], hw.symm⟩
                        have ew2 : IntKind.i64.wrap ((k : Int) + 2) = (k : Int) + 2 := by simp [IntKind.wrap, IntKind.signed, IntKind.bits]; omega
                        have ew3 : IntKind.i64.wrap ((k : Int) + 3) = (k : Int) + 3 := by simp [IntKind.wrap, IntKind.signed, IntKind.bits]; omega
                        have ew4 : IntKind.i64.wrap (16 * (a : Int)) = 16 * (a : Int) := by simp [IntKind.wrap, IntKind.signed, IntKind.bits]; omega
                        have ew5 : IntKind.i64.wrap (16 * (a : Int) + (b : Int)) = 16 * (a : Int) + (b : Int) := by simp [IntKind.wrap, IntKind.signed, IntKind.bits]; omega
                        have ew6 : IntKind.u8.wrap (16 * (a : Int) + (b : Int)) = ((UInt8.ofNat (16 * a + b)).toNat : Int) := by simp [IntKind.wrap, IntKind.signed, IntKind.bits]
                        have et2 : ((k : Int) + 2).toNat = k + 2 := by omega
                        have et3 : ((k : Int) + 3).toNat = k + 3 := by omega
                        generalize UInt8.ofNat (16 * a + b) = X at *
                        go_region_held_law (fun _ => True) (trivial)
                          (first
                            | (refine step_append_lies _ rfl _ _ 53 rfl w.heap.size 5 i0 (.int .u8 0) 1 1 Tryd.underlying53 hi hz0 hz1 hz2 rfl (by decide) u6 pre.length (bs pre) (by simp [Act.eval, Act.put]) (hown.alloc _) ⟨wr.heap.size, 0, none⟩ 1 1 [.int .u8 (X.toNat : Int)] (by simp [Act.eval, Act.put]) rfl (World.news_of_block (heap_alloc_new _ _)) (by intro u hu; rw [List.mem_singleton.1 hu]; rfl) (by decide) (by unfold maxLen; omega) (by omega) (by simp; omega) wr.heap.size.succ (by simp) ?_; intro g3 cap3 w3 hown3 hg3 hat3 hlt3)
                            | (go_at_call_of 65 (Value.int IntKind.u8 (g.toNat : Int)); refine (hgx _).mono ?_; rintro e w2 ⟨rfl, rfl⟩)
                            | (go_at_call_of 65 (Value.int IntKind.u8 (f.toNat : Int)); refine (hfx _).mono ?_; rintro e w2 ⟨rfl, rfl⟩))
                        all_goals
                          go_wp2
                          refine ⟨⟨k + 4, pre ++ [X], by go_num, by omega, by omega, by simp; omega, ?_, HN.out, (below_lit hb _).drew.grown hg3 (by simp; omega) (own_ge hown)⟩, by simp [intOf]; omega⟩
                          rw [← E1.out, ← E2.out]
                          exact hown3
                  · have d3 : decide ((k : Int) + 3 < (s.size : Int)) = false := by rw [decide_eq_false_iff_not]; omega
                    have hm : meant (L.drop k) = none := by
                      rw [HXY.out, h4]
                      match hr : L.drop (k + 2) with
                      | [] => rfl
                      | [a] => rfl
                      | a :: b :: r =>
                        have := congrArg List.length hr
                        rw [List.length_drop, HSL.out] at this
                        simp at this
                        omega
                    rw [hm] at hat
                    have HT := Lib.hid (HR.out.stopD hat)
                    clear hat hown hm h4 h3
                    go_wp2
                    go_ret2
                    exact ⟨ret_nodtext HT.out, hb⟩
                · have c1 : ((d.toNat : Int) == 120) = false := by rw [e120]; simpa using h4
                  rw [m3 hA' h3 h4] at hat
                  have HT := Lib.hid (HR.out.stopD hat)
                  clear m2 m3 hat e110 e120 hA' h3 h4 hown
                  go_wp2
                  go_ret2
                  exact ⟨ret_nodtext HT.out, hb⟩
          · have d2 : decide ((s.size : Int) ≤ (k : Int) + 1) = true := by rw [decide_eq_true_eq]; omega
            have hm : meant (L.drop k) = none := by
              rw [HXL.out, List.drop_of_length_le (by rw [HSL.out]; omega)]; rfl
            rw [hm] at hat
            have HT := Lib.hid (HR.out.stopD hat)
            clear hat hown hm
            go_wp2
            go_ret2
            exact ⟨ret_nodtext HT.out, hb⟩
        · have b2 : ((c.toNat : Int) != 92) = true := by rw [bne, e92]; simpa using h92
          obtain ⟨hno, hyes⟩ := str_plain HX.out h34 h92
          clear e34 e92 h34 h92
          by_cases hn : c.toNat < 32 ∨ c.toNat = 127
          · have HT := Lib.hid (HR.out.stopD (hno hn))
            clear hno hyes hown
            cases b3 : decide ((c.toNat : Int) < 32)
            · have b4 : ((c.toNat : Int) == 127) = true := by
                rw [decide_eq_false_iff_not] at b3
                rw [beq_iff_eq]; omega
              clear hn
              go_wp2
              go_ret2
              exact ⟨ret_nodtext HT.out, hb⟩
            · clear hn
              go_wp2
              go_ret2
              exact ⟨ret_nodtext HT.out, hb⟩
          · have HN := Lib.hid (HR.out.next (j := 0) (b := c) hpk (hyes hn))
            have b3 : decide ((c.toNat : Int) < 32) = false := by rw [decide_eq_false_iff_not]; omega
            have b4 : ((c.toNat : Int) == 127) = false := by rw [beq_eq_false_iff_ne]; omega
            have E1 := Lib.hid (bs_snoc pre c)
            have E2 : Hid (pre.length + 1 = (pre ++ [c]).length) := Lib.hid (by simp)
            clear hno hyes hn
            go_wp2_with (at_builtin; refine wpList_app1 rfl _ _ 53 rfl w.heap.size 5 i0 (.int .u8 0) 1 Tryd.underlying53 hi hz0 hz1 hz2 rfl _ pre.length (bs pre) rfl (hown.alloc _) wr.heap.size 1 _ rfl (World.cell?_alloc_at _ _ _ _ rfl) rfl (by unfold maxLen; omega) (by omega) (by simp; omega) ?_; intro v3 w3 hown3 hg3)
            refine ⟨⟨k + 1, pre ++ [c], by go_num, by omega, by omega, by simp; omega, ?_, HN.out, (below_lit hb _).grown hg3 (by simp; omega) (own_ge hown)⟩, by simp [intOf]; omega⟩
            rw [← E1.out, ← E2.out]
            exact hown3
    · have HT := Lib.hid (HR.out.stopD (str_end (by rw [HSL.out]; omega)))
      clear hown
      go_wp2
      go_ret2
      exact ⟨ret_nodtext HT.out, hb⟩
end Go.Proofs.YtceomdbahiimlaaDoor
