/-
  What a string means, by the document's own function: its contract.
-/
import Derived.Test.YtciiemomfniecaaGreatDoorTokRead
import Derived.Deep.RegionHeldLaw
import Derived.Deep.QuietTactic
namespace Go.Proofs.YtciiemomfniecaaGreatDoor
set_option maxRecDepth 100000

open Go.RowKit

/-- What the document tells of a string. -/
def DV (o : Option (List UInt8 × Nat)) (p : Nat) : Value := match o with
  | none => .tuple #[.string ⟨#[]⟩, .int .i64 (-1)]
  | some x => .tuple #[.string (txt x.1), .int .i64 ((p + 1 + x.2 : Nat) : Int)]
theorem StrRel.stopD {L : List UInt8} {p k : Nat} {pre : List UInt8} (h : StrRel L p k pre) (hs : strB 0 (L.drop k) = none) : strB 0 (L.drop (p + 1)) = none := by
  unfold StrRel at h
  rw [h, hs]; rfl
theorem StrRel.doneD {L : List UInt8} {p k : Nat} {pre : List UInt8} (h : StrRel L p k pre) (hk : p < k) (hs : strB 0 (L.drop k) = some ([], 1)) : strB 0 (L.drop (p + 1)) = some (pre, k - p) := by
  unfold StrRel at h
  rw [h, hs]
  simp; omega
theorem ret_dtext {o : Option (List UInt8 × Nat)} {t : List UInt8} {m p : Nat} {x y : Value} (h : o = some (t, m)) (hx : x = .string (txt t)) (hy : y = .int .i64 ((p + 1 + m : Nat) : Int)) : Ending.returned (.tuple #[x, y]) = .returned (DV o p) := by
  subst h hx hy; rfl
theorem ret_nodtext {o : Option (List UInt8 × Nat)} {p : Nat} (h : o = none) : Ending.returned (.tuple #[.string ⟨#[]⟩, .int .i64 (-1)]) = .returned (DV o p) := by
  subst h; rfl
/-- What stands in a string, by the sorts that the document tells apart. -/
theorem str_plain {l : List UInt8} {k : Nat} {c : UInt8} (h : l[k]? = some c) (h34 : c ≠ 34) (h92 : c ≠ 92) :
    ((c.toNat < 32 ∨ c.toNat = 127) → strB 0 (l.drop k) = none) ∧ (¬ (c.toNat < 32 ∨ c.toNat = 127) → strB 0 (l.drop k) = (strB 0 (l.drop (k + 0 + 1))).map fun y => (c :: y.1, y.2 + 0 + 1)) := by
  have e34 : (c == 34) = false := by simpa using h34
  have hat := str_at h
  rw [e34, ws_at h, meant_plain h92] at hat
  rw [ws_at h]
  simp only [Bool.false_eq_true, if_false] at hat
  have hlt := c.toNat_lt
  constructor
  · intro hc
    have : (isPlain c || decide (128 ≤ c.toNat)) = false := by simp only [isPlain, Bool.or_eq_false_iff, Bool.and_eq_false_iff, decide_eq_false_iff_not]; omega
    rw [this] at hat
    exact hat
  · intro hc
    have : (isPlain c || decide (128 ≤ c.toNat)) = true := by simp only [isPlain, Bool.or_eq_true, Bool.and_eq_true, decide_eq_true_eq]; omega
    rw [this] at hat
    exact hat

set_option maxRecDepth 1000000 in
set_option maxHeartbeats 2000000 in
theorem rtext_any (s : ByteArray) (hs : s.size ≤ 1000000) (p : Nat) (hp : p < s.size) (w : World) :
    Calls Tryz.prog 160 #[.string s, .int .i64 p] w fun e w' => e = .returned (DV (strB 0 (s.data.toList.drop (p + 1))) p) ∧ Below w.heap.size w w' := by
  obtain ⟨i0, hi, hz0, hz1, hz2⟩ := info_parts info_u8
  have hsl : s.data.toList.length = s.size := by simp
  have hsg := at_list s
  generalize s.data.toList = L at *
  have HSL := Lib.hid hsl
  have HSG := Lib.hid hsg
  clear hsl hsg
  go_enter Tryz.func160, Tryz.ntmps160
  go_wp2_with fail
  go_loopw [6, 7] (fun v i wr => ∃ (k : Nat) (pre : List UInt8), i = .int .i64 k ∧ p < k ∧ k ≤ s.size ∧ pre.length ≤ k ∧ wr.ownsRow w.heap.size 5 1 v pre.length (bs pre) ∧ StrRel L p k pre ∧ Below w.heap.size w wr) (fun _ i _ => s.size - (intOf i).toNat)
  case atStart => exact ⟨p + 1, [], by simp, by omega, by omega, by simp, World.ownsRow_nil _ _ _ _, by unfold StrRel; cases strB 0 (L.drop (p + 1)) <;> simp, Below.refl _ _⟩
  case round =>
    obtain ⟨k, pre, rfl, hpk, hk, hpl, hown, hrel, hb⟩ := hrel
    have HR := Lib.hid hrel
    clear hrel
    by_cases h1 : k < s.size
    · have HX := Lib.hid (HSG.out k h1)
      obtain ⟨c, hc⟩ : ∃ c, c = s[k] := ⟨_, rfl⟩
      rw [← hc] at HX
      have HC := hc.symm
      clear hc
      have e34 : ((c.toNat : Int) == 34) = (c == 34) := u8_eq c 34 (by decide)
      have e92 : ((c.toNat : Int) == 92) = (c == 92) := u8_eq c 92 (by decide)
      have hsz := hb.size
      by_cases h34 : c = 34
      · have b1 : ((c.toNat : Int) != 34) = false := by rw [bne, e34, h34]; rfl
        have hat := str_at HX.out
        have HT := Lib.hid (HR.out.doneD hpk (by rw [hat, h34]; rfl))
        obtain ⟨A, cp, rfl, hr⟩ := SlB.of_own hown
        have hcv := run_str_of_bytes (P := Tryz.prog) wr 106 9 5 Tryz.underlying106 Tryz.underlying5 Tryz.underlying9 A cp pre hr
        obtain ⟨X, hX⟩ : ∃ X, X = txt pre := ⟨_, rfl⟩
        rw [← hX] at hcv
        have HXX := Lib.hid hX
        clear hat hX hr hown e34 e92 h34
        go_wp2
        go_ret2
        exact ⟨ret_dtext HT.out (by rw [← HXX.out]; rfl) (congrArg (Value.int .i64) (by simp; omega)), hb⟩
      · have b1 : ((c.toNat : Int) != 34) = true := by rw [bne, e34]; simpa using h34
        by_cases h92 : c = 92
        · have b2 : ((c.toNat : Int) != 92) = false := by rw [bne, e92, h92]; rfl
          have b3 : decide ((c.toNat : Int) < 32) = false := by rw [h92]; rfl
          have b4 : ((c.toNat : Int) == 127) = false := by rw [h92]; rfl
          have HXL := Lib.hid (ws_at HX.out)
          subst h92
          have hat := str_at HX.out
          simp only [show ((92 : UInt8) == 34) = false from rfl, Bool.false_eq_true, if_false] at hat
          clear e34 e92 h34
          by_cases h2 : k + 1 < s.size
          · have HY := Lib.hid (HSG.out (k + 1) h2)
            have d2 : decide ((s.size : Int) ≤ (k : Int) + 1) = false := by rw [decide_eq_false_iff_not]; omega
            obtain ⟨d, hd⟩ : ∃ d, d = s[k + 1]'h2 := ⟨_, rfl⟩
            rw [← hd] at HY
            have HDD := hd.symm
            clear hd
            have HXY : Hid (L.drop k = 92 :: d :: L.drop (k + 2)) := Lib.hid (by rw [HXL.out, ws_at HY.out])
            obtain ⟨m1, m2, m3⟩ := meant_mark HXY.out
            have e34 : ((d.toNat : Int) == 34) = (d == 34) := u8_eq d 34 (by decide)
            have e92 : ((d.toNat : Int) == 92) = (d == 92) := u8_eq d 92 (by decide)
            have e110 : ((d.toNat : Int) == 110) = (d == 110) := u8_eq d 110 (by decide)
            have e120 : ((d.toNat : Int) == 120) = (d == 120) := u8_eq d 120 (by decide)
            by_cases hA : (d == 34 || d == 92) = true
            · rw [m1 hA] at hat
              simp only at hat
              have HN := Lib.hid (HR.out.next (j := 1) (b := d) hpk hat)
              have E1 := Lib.hid (bs_snoc pre d)
              have E2 : Hid (pre.length + 1 = (pre ++ [d]).length) := Lib.hid (by simp)
              have hor : d = 34 ∨ d = 92 := by simpa using hA
              clear m1 m2 m3 hat e34 e92 e110 e120 hA
              rcases hor with rfl | rfl
              · have c1 : (((34 : UInt8).toNat : Int) == 120) = false := rfl
                have c2 : (((34 : UInt8).toNat : Int) != 110) = true := rfl
                have c3 : (((34 : UInt8).toNat : Int) != 92) = true := rfl
                have c4 : (((34 : UInt8).toNat : Int) != 34) = false := rfl
                have c5 : (((34 : UInt8).toNat : Int) == 110) = false := rfl
                go_wp2_with (at_builtin; refine wpList_app1 rfl _ _ 106 rfl w.heap.size 5 i0 (.int .u8 0) 1 Tryz.underlying106 hi hz0 hz1 hz2 rfl _ pre.length (bs pre) rfl (hown.alloc _) wr.heap.size 1 _ rfl (World.cell?_alloc_at _ _ _ _ rfl) rfl (by unfold maxLen; omega) (by omega) (by simp; omega) ?_; intro v3 w3 hown3 hg3)
                refine ⟨⟨k + 2, pre ++ [34], by go_num, by omega, by omega, by simp; omega, ?_, HN.out, (below_lit hb _).grown hg3 (by simp; omega) (own_ge hown)⟩, by simp [intOf]; omega⟩
                rw [← E1.out, ← E2.out]
                exact hown3
              · have c1 : (((92 : UInt8).toNat : Int) == 120) = false := rfl
                have c2 : (((92 : UInt8).toNat : Int) != 110) = true := rfl
                have c3 : (((92 : UInt8).toNat : Int) != 92) = false := rfl
                have c5 : (((92 : UInt8).toNat : Int) == 110) = false := rfl
                go_wp2_with (at_builtin; refine wpList_app1 rfl _ _ 106 rfl w.heap.size 5 i0 (.int .u8 0) 1 Tryz.underlying106 hi hz0 hz1 hz2 rfl _ pre.length (bs pre) rfl (hown.alloc _) wr.heap.size 1 _ rfl (World.cell?_alloc_at _ _ _ _ rfl) rfl (by unfold maxLen; omega) (by omega) (by simp; omega) ?_; intro v3 w3 hown3 hg3)
                refine ⟨⟨k + 2, pre ++ [92], by go_num, by omega, by omega, by simp; omega, ?_, HN.out, (below_lit hb _).grown hg3 (by simp; omega) (own_ge hown)⟩, by simp [intOf]; omega⟩
                rw [← E1.out, ← E2.out]
                exact hown3
            · have hA' : (d == 34 || d == 92) = false := by simpa using hA
              obtain ⟨a1, a2⟩ : (d == 34) = false ∧ (d == 92) = false := by simpa only [Bool.or_eq_false_iff] using hA'
              have c3 : ((d.toNat : Int) != 92) = true := by rw [bne, e92, a2]; rfl
              have c4 : ((d.toNat : Int) != 34) = true := by rw [bne, e34, a1]; rfl
              clear m1 e34 e92 a1 a2 hA
              by_cases h3 : d = 110
              · rw [m2 hA' h3] at hat
                simp only at hat
                have HN := Lib.hid (HR.out.next (j := 1) (b := 10) hpk hat)
                have E1 := Lib.hid (bs_snoc pre 10)
                have E2 : Hid (pre.length + 1 = (pre ++ [(10 : UInt8)]).length) := Lib.hid (by simp)
                have c1 : ((d.toNat : Int) == 120) = false := by rw [e120, h3]; rfl
                have c2 : ((d.toNat : Int) != 110) = false := by rw [bne, e110, h3]; rfl
                have c5 : ((d.toNat : Int) == 110) = true := by rw [e110, h3]; rfl
                clear m2 m3 hat e110 e120 hA' h3
                go_wp2_with (at_builtin; refine wpList_app1 rfl _ _ 106 rfl w.heap.size 5 i0 (.int .u8 0) 1 Tryz.underlying106 hi hz0 hz1 hz2 rfl _ pre.length (bs pre) rfl (hown.alloc _) wr.heap.size 1 _ rfl (World.cell?_alloc_at _ _ _ _ rfl) rfl (by unfold maxLen; omega) (by omega) (by simp; omega) ?_; intro v3 w3 hown3 hg3)
                refine ⟨⟨k + 2, pre ++ [10], by go_num, by omega, by omega, by simp; omega, ?_, HN.out, (below_lit hb _).grown hg3 (by simp; omega) (own_ge hown)⟩, by simp [intOf]; omega⟩
                rw [← E1.out, ← E2.out]
                exact hown3
              · have c2 : ((d.toNat : Int) != 110) = true := by rw [bne, e110]; simpa using h3
                by_cases h4 : d = 120
                · have c1 : ((d.toNat : Int) == 120) = true := by rw [e120, h4]; rfl
                  clear m2 m3 e110 e120 hA'
                  by_cases h5 : k + 3 < s.size
                  · have d3 : decide ((k : Int) + 3 < (s.size : Int)) = true := by rw [decide_eq_true_eq]; omega
                    have h6 : k + 2 < s.size := by omega
                    have HZ := Lib.hid (HSG.out (k + 2) h6)
                    have HU := Lib.hid (HSG.out (k + 3) h5)
                    obtain ⟨g, hg⟩ : ∃ g, g = s[k + 2]'h6 := ⟨_, rfl⟩
                    obtain ⟨f, hf⟩ : ∃ f, f = s[k + 3]'h5 := ⟨_, rfl⟩
                    rw [← hg] at HZ
                    rw [← hf] at HU
                    have HGG := hg.symm
                    have HFF := hf.symm
                    clear hg hf
                    have hm : meant (L.drop k) = match hexv g, hexv f with | some a, some b => some (UInt8.ofNat (16 * a + b), 3) | _, _ => none := by
                      rw [HXY.out, h4, ws_at HZ.out, ws_at HU.out]; rfl
                    rw [hm] at hat
                    clear hm h4 h3
                    cases hg : hexv g with
                    | none =>
                      rw [hg] at hat
                      simp only at hat
                      have HT := Lib.hid (HR.out.stopD hat)
                      have HI := Lib.hid (hexI_none hg)
                      clear hat hg hown
                      go_wp2_with fail
                      refine (rhex_any g _).mono ?_
                      rw [HI.out]
                      rintro e w2 ⟨rfl, rfl⟩
                      go_wp2
                      go_ret2
                      exact ⟨ret_nodtext HT.out, hb⟩
                    | some a =>
                      obtain ⟨ha, ha16⟩ := hexI_some hg
                      have HI := Lib.hid ha
                      have q1 : decide ((0 : Int) ≤ (a : Int)) = true := by simp
                      cases hf : hexv f with
                      | none =>
                        rw [hg, hf] at hat
                        simp only at hat
                        have HT := Lib.hid (HR.out.stopD hat)
                        have HJ := Lib.hid (hexI_none hf)
                        clear hat hg hf hown ha
                        go_wp2_with fail
                        refine (rhex_any g _).mono ?_
                        rw [HI.out]
                        rintro e w2 ⟨rfl, rfl⟩
                        go_wp2_with fail
                        refine (rhex_any f _).mono ?_
                        rw [HJ.out]
                        rintro e w2 ⟨rfl, rfl⟩
                        go_wp2
                        go_ret2
                        exact ⟨ret_nodtext HT.out, hb⟩
                      | some b =>
                        obtain ⟨hbb, hb16⟩ := hexI_some hf
                        have HJ := Lib.hid hbb
                        have q2 : decide ((0 : Int) ≤ (b : Int)) = true := by simp
                        rw [hg, hf] at hat
                        simp only at hat
                        have HN := Lib.hid (HR.out.next (j := 3) (b := UInt8.ofNat (16 * a + b)) hpk hat)
                        clear hat hg hf ha hbb
                        go_wp2_with fail
                        refine (rhex_any g _).mono ?_
                        rw [HI.out]
                        rintro e w2 ⟨rfl, rfl⟩
                        go_wp2_with fail
                        refine (rhex_any f _).mono ?_
                        rw [HJ.out]
                        rintro e w2 ⟨rfl, rfl⟩
                        go_wp2_with fail
                        have E1 := Lib.hid (bs_snoc pre (UInt8.ofNat (16 * a + b)))
                        have E2 : Hid (pre.length + 1 = (pre ++ [UInt8.ofNat (16 * a + b)]).length) := Lib.hid (by simp)
                        have hown2 : wr.drew.ownsRow w.heap.size 5 1 u6 pre.length (bs pre) := hown
                        have hb2 : Below w.heap.size w wr.drew := hb.drew
                        have hsz2 : w.heap.size ≤ wr.drew.heap.size := hsz
                        have hgx : ∀ w, Calls Tryz.prog 182 #[.int .u8 (g.toNat : Int)] w fun e w' => e = .returned (.int .i64 (a : Int)) ∧ w' = w := fun w => (rhex_any g w).mono fun _ _ ⟨he, hw⟩ => ⟨by rw [he, HI.out], hw.symm⟩
                        have hfx : ∀ w, Calls Tryz.prog 182 #[.int .u8 (f.toNat : Int)] w fun e w' => e = .returned (.int .i64 (b : Int)) ∧ w' = w := fun w => (rhex_any f w).mono fun _ _ ⟨he, hw⟩ => ⟨by rw [he, HJ.out], hw.symm⟩
                        have ew2 : IntKind.i64.wrap ((k : Int) + 2) = (k : Int) + 2 := by simp [IntKind.wrap, IntKind.signed, IntKind.bits]; omega
                        have ew3 : IntKind.i64.wrap ((k : Int) + 3) = (k : Int) + 3 := by simp [IntKind.wrap, IntKind.signed, IntKind.bits]; omega
                        have ew4 : IntKind.i64.wrap (16 * (a : Int)) = 16 * (a : Int) := by simp [IntKind.wrap, IntKind.signed, IntKind.bits]; omega
                        have ew5 : IntKind.i64.wrap (16 * (a : Int) + (b : Int)) = 16 * (a : Int) + (b : Int) := by simp [IntKind.wrap, IntKind.signed, IntKind.bits]; omega
                        have ew6 : IntKind.u8.wrap (16 * (a : Int) + (b : Int)) = ((UInt8.ofNat (16 * a + b)).toNat : Int) := by simp [IntKind.wrap, IntKind.signed, IntKind.bits]
                        have et2 : ((k : Int) + 2).toNat = k + 2 := by omega
                        have et3 : ((k : Int) + 3).toNat = k + 3 := by omega
                        generalize UInt8.ofNat (16 * a + b) = X at *
                        go_region_held_law (fun _ => True) (trivial)
                          (first
                            | (refine step_append_lies _ rfl _ _ 106 rfl w.heap.size 5 i0 (.int .u8 0) 1 1 Tryz.underlying106 hi hz0 hz1 hz2 rfl (by decide) u6 pre.length (bs pre) (by simp [Act.eval, Act.put]) (hown.alloc _) ⟨wr.heap.size, 0, none⟩ 1 1 [.int .u8 (X.toNat : Int)] (by simp [Act.eval, Act.put]) rfl (World.news_of_block (heap_alloc_new _ _)) (by intro u hu; rw [List.mem_singleton.1 hu]; rfl) (by decide) (by unfold maxLen; omega) (by omega) (by simp; omega) wr.heap.size.succ (by simp) ?_; intro g3 cap3 w3 hown3 hg3 hat3 hlt3)
                            | (go_at_call_of 182 (Value.int IntKind.u8 (g.toNat : Int)); refine (hgx _).mono ?_; rintro e w2 ⟨rfl, rfl⟩)
                            | (go_at_call_of 182 (Value.int IntKind.u8 (f.toNat : Int)); refine (hfx _).mono ?_; rintro e w2 ⟨rfl, rfl⟩))
                        all_goals
                          go_wp2
                          refine ⟨⟨k + 4, pre ++ [X], by go_num, by omega, by omega, by simp; omega, ?_, HN.out, (below_lit hb _).drew.grown hg3 (by simp; omega) (own_ge hown)⟩, by simp [intOf]; omega⟩
                          rw [← E1.out, ← E2.out]
                          exact hown3
                  · have d3 : decide ((k : Int) + 3 < (s.size : Int)) = false := by rw [decide_eq_false_iff_not]; omega
                    have hm : meant (L.drop k) = none := by
                      rw [HXY.out, h4]
                      match hr : L.drop (k + 2) with
                      | [] => rfl
                      | [a] => rfl
                      | a :: b :: r =>
                        have := congrArg List.length hr
                        rw [List.length_drop, HSL.out] at this
                        simp at this
                        omega
                    rw [hm] at hat
                    have HT := Lib.hid (HR.out.stopD hat)
                    clear hat hown hm h4 h3
                    go_wp2
                    go_ret2
                    exact ⟨ret_nodtext HT.out, hb⟩
                · have c1 : ((d.toNat : Int) == 120) = false := by rw [e120]; simpa using h4
                  rw [m3 hA' h3 h4] at hat
                  have HT := Lib.hid (HR.out.stopD hat)
                  clear m2 m3 hat e110 e120 hA' h3 h4 hown
                  go_wp2
                  go_ret2
                  exact ⟨ret_nodtext HT.out, hb⟩
          · have d2 : decide ((s.size : Int) ≤ (k : Int) + 1) = true := by rw [decide_eq_true_eq]; omega
            have hm : meant (L.drop k) = none := by
              rw [HXL.out, List.drop_of_length_le (by rw [HSL.out]; omega)]; rfl
            rw [hm] at hat
            have HT := Lib.hid (HR.out.stopD hat)
            clear hat hown hm
            go_wp2
            go_ret2
            exact ⟨ret_nodtext HT.out, hb⟩
        · have b2 : ((c.toNat : Int) != 92) = true := by rw [bne, e92]; simpa using h92
          obtain ⟨hno, hyes⟩ := str_plain HX.out h34 h92
          clear e34 e92 h34 h92
          by_cases hn : c.toNat < 32 ∨ c.toNat = 127
          · have HT := Lib.hid (HR.out.stopD (hno hn))
            clear hno hyes hown
            cases b3 : decide ((c.toNat : Int) < 32)
            · have b4 : ((c.toNat : Int) == 127) = true := by
                rw [decide_eq_false_iff_not] at b3
                rw [beq_iff_eq]; omega
              clear hn
              go_wp2
              go_ret2
              exact ⟨ret_nodtext HT.out, hb⟩
            · clear hn
              go_wp2
              go_ret2
              exact ⟨ret_nodtext HT.out, hb⟩
          · have HN := Lib.hid (HR.out.next (j := 0) (b := c) hpk (hyes hn))
            have b3 : decide ((c.toNat : Int) < 32) = false := by rw [decide_eq_false_iff_not]; omega
            have b4 : ((c.toNat : Int) == 127) = false := by rw [beq_eq_false_iff_ne]; omega
            have E1 := Lib.hid (bs_snoc pre c)
            have E2 : Hid (pre.length + 1 = (pre ++ [c]).length) := Lib.hid (by simp)
            clear hno hyes hn
            go_wp2_with (at_builtin; refine wpList_app1 rfl _ _ 106 rfl w.heap.size 5 i0 (.int .u8 0) 1 Tryz.underlying106 hi hz0 hz1 hz2 rfl _ pre.length (bs pre) rfl (hown.alloc _) wr.heap.size 1 _ rfl (World.cell?_alloc_at _ _ _ _ rfl) rfl (by unfold maxLen; omega) (by omega) (by simp; omega) ?_; intro v3 w3 hown3 hg3)
            refine ⟨⟨k + 1, pre ++ [c], by go_num, by omega, by omega, by simp; omega, ?_, HN.out, (below_lit hb _).grown hg3 (by simp; omega) (own_ge hown)⟩, by simp [intOf]; omega⟩
            rw [← E1.out, ← E2.out]
            exact hown3
    · have HT := Lib.hid (HR.out.stopD (str_end (by rw [HSL.out]; omega)))
      clear hown
      go_wp2
      go_ret2
      exact ⟨ret_nodtext HT.out, hb⟩
end Go.Proofs.YtciiemomfniecaaGreatDoor
/-
  The token that begins at a place, by the document's own function: its contract.
-/
namespace Go.Proofs.YtciiemomfniecaaGreatDoor
set_option maxRecDepth 100000

open Go.RowKit

def OnePost (o : Option Tk) (p : Nat) (w : World) (e : Ending) (w' : World) : Prop :=
  (match o with
    | none => ∃ (k n q : Int) (s : ByteArray), e = .returned (.tuple #[.agg #[.int .i64 k, .string s, .int .i64 n, .int .i64 q], .int .i64 (-1)])
    | some t => e = .returned (.tuple #[TokV t.kind (txt t.text) t.num p, .int .i64 ((p + t.more + 1 : Nat) : Int)])) ∧ Below w.heap.size w w'
theorem OnePost.no {o : Option Tk} {p : Nat} {w w' : World} {k n q : Int} {s : ByteArray} (h : o = none) (hb : Below w.heap.size w w') : OnePost o p w (.returned (.tuple #[.agg #[.int .i64 k, .string s, .int .i64 n, .int .i64 q], .int .i64 (-1)])) w' := by
  subst h; exact ⟨⟨k, n, q, s, rfl⟩, hb⟩
theorem OnePost.yes {o : Option Tk} {t : Tk} {p : Nat} {w w' : World} {x y : Value} (h : o = some t) (hx : x = TokV t.kind (txt t.text) t.num p) (hy : y = .int .i64 ((p + t.more + 1 : Nat) : Int)) (hb : Below w.heap.size w w') : OnePost o p w (.returned (.tuple #[x, y])) w' := by
  subst h hx hy; exact ⟨rfl, hb⟩
theorem tk_first {l : List UInt8} {c : UInt8} {r T : List UInt8} (hd : l = c :: r) (hc : isFirst c = true) (hT : T = c :: r.take (span isNext r)) : tk Lib.itoa l = some ⟨0, T, 0, span isNext r⟩ := by
  subst hd hT; simp [tk, hc]
theorem tk_str {l : List UInt8} {c : UInt8} {r : List UInt8} (hd : l = c :: r) (hc : c = 34) : tk Lib.itoa l = strT r := by
  subst hd hc
  simp only [tk, show isFirst 34 = false from rfl, show (isDigit 34 || (34 : UInt8) == 45) = false from rfl, Bool.false_eq_true, if_false, beq_self_eq_true, if_true]
  rfl
theorem tk_sign {l : List UInt8} {c : UInt8} {r : List UInt8} (hd : l = c :: r) (h1 : isFirst c = false) (h2 : (isDigit c || c == 45) = false) (h3 : (c == 34) = false) : tk Lib.itoa l = if isSign c then some ⟨3, [c], 0, 0⟩ else none := by
  subst hd
  simp only [tk, h1, h2, h3, Bool.false_eq_true, if_false]

set_option maxRecDepth 1000000 in
set_option maxHeartbeats 2000000 in
theorem rone_any (s : ByteArray) (hs : s.size ≤ 1000000) (p : Nat) (hp : p < s.size) (w : World) :
    Calls Tryz.prog 124 #[.string s, .int .i64 p] w fun e w' => OnePost (tk Lib.itoa (s.data.toList.drop p)) p w e w' := by
  have hsl : s.data.toList.length = s.size := by simp
  have hsg := at_list s
  have hpart := fun q => show s.extract p q = txt ((s.data.toList.drop p).take (q - p)) by rw [← part_list, txt_of]
  have htx := fun w => rtext_any s hs p hp w
  have hd := drop_cons (hsg p hp)
  generalize s.data.toList = L at *
  have HSL := Lib.hid hsl
  have HSG := Lib.hid hsg
  have HPA := Lib.hid hpart
  have HTX := Lib.hid htx
  obtain ⟨c, hc⟩ : ∃ c, c = s[p] := ⟨_, rfl⟩
  rw [← hc] at hd
  have HD := Lib.hid hd
  have HC := hc.symm
  clear hsl hsg hpart htx hd hc
  by_cases h1 : isFirst c = true
  · have ht := tk_first HD.out h1 rfl
    have hle := span_le isNext (L.drop (p + 1))
    rw [List.length_drop, HSL.out] at hle
    have hE : ∀ E, E = p + 1 + span isNext (L.drop (p + 1)) → (L.drop p).take (E - p) = c :: (L.drop (p + 1)).take (span isNext (L.drop (p + 1))) := by
      rintro E rfl
      rw [HD.out, show p + 1 + span isNext (L.drop (p + 1)) - p = span isNext (L.drop (p + 1)) + 1 by omega, List.take_succ_cons]
    generalize tk Lib.itoa (L.drop p) = O at *
    generalize c :: (L.drop (p + 1)).take (span isNext (L.drop (p + 1))) = T at *
    obtain ⟨E, hEE⟩ : ∃ E, E = p + 1 + span isNext (L.drop (p + 1)) := ⟨_, rfl⟩
    have hEs : E ≤ s.size := by omega
    have hEp : p + 1 ≤ E := by omega
    have hT := hE E hEE
    have hX : s.extract p E = txt T := by rw [HPA.out, hT]
    have ht2 : O = some ⟨0, T, 0, E - p - 1⟩ := by rw [ht]; simp; omega
    obtain ⟨X, hXX⟩ : ∃ X, X = txt T := ⟨_, rfl⟩
    rw [← hXX] at hX
    have HX := Lib.hid hXX
    have HO := Lib.hid ht2
    have HE := Lib.hid hEE
    clear ht hle hE hT hXX ht2 hEE
    go_enter Tryz.func124, Tryz.ntmps124
    go_wp2_with fail
    refine (letter_any c _).mono ?_
    rw [h1]
    rintro e w1 ⟨rfl, rfl⟩
    go_wp2
    go_loopw [7] (fun i wr => ∃ k : Nat, i = .int .i64 k ∧ p < k ∧ k ≤ s.size ∧ E = k + span isNext (L.drop k) ∧ wr = w.alloc (.cells #[.int .i64 0, .string ⟨#[]⟩, .int .i64 0, .int .i64 0] 155)) (fun i _ => s.size - (intOf i).toNat)
    case atStart => exact ⟨p + 1, by simp, by omega, by omega, HE.out, rfl⟩
    case round =>
      obtain ⟨k, rfl, hpk, hk, hr, rfl⟩ := hrel
      have HR := Lib.hid hr
      clear hr
      by_cases g1 : k < s.size
      · have HZ := Lib.hid (HSG.out k g1)
        cases b1 : isFirst s[k]
        · cases b2 : isDigit s[k]
          · have HN := Lib.hid (span_stop HZ.out (f := isNext) (by simp [isNext, b1, b2]))
            have HB1 := Lib.hid b1
            have HB2 := Lib.hid b2
            clear b1 b2
            obtain rfl : E = k := by have := HR.out; rw [HN.out] at this; omega
            go_wp2_with fail
            refine (letter_any _ _).mono ?_
            rw [HB1.out]
            rintro e w2 ⟨rfl, rfl⟩
            go_wp2_with fail
            refine (digit_any _ _).mono ?_
            rw [HB2.out]
            rintro e w2 ⟨rfl, rfl⟩
            have hpE : p ≤ E := by omega
            have hg := heap_alloc_new w (.cells #[.int .i64 0, .string ⟨#[]⟩, .int .i64 0, .int .i64 0] 155)
            go_wp2_with (refine wpList_store_tok rfl _ _ rfl rfl w.heap.size _ _ _ _ _ _ _ _ rfl rfl _ hg ?_)
            refine bodyPost_ret (results_tok1 rfl _ _ w.heap.size _ _ _ _ _ (0, 0) rfl (setRow_heap _ _ _ _ _ _ hg)) rfl ?_
            exact OnePost.yes HO.out (by rw [HX.out]; rfl) (congrArg (Value.int .i64) (by simp; omega)) (below_setRow (below_new _ _) (Nat.le_refl _) _)
          · have HN := Lib.hid (span_next HZ.out (f := isNext) (by simp [isNext, b2]))
            have HB1 := Lib.hid b1
            have HB2 := Lib.hid b2
            clear b1 b2
            go_wp2_with fail
            refine (letter_any _ _).mono ?_
            rw [HB1.out]
            rintro e w2 ⟨rfl, rfl⟩
            go_wp2_with fail
            refine (digit_any _ _).mono ?_
            rw [HB2.out]
            rintro e w2 ⟨rfl, rfl⟩
            go_wp2
            exact ⟨⟨k + 1, by go_num, by omega, by omega, by rw [HR.out, HN.out]; omega, by first | rfl | trivial⟩, by simp [intOf]; omega⟩
        · have HN := Lib.hid (span_next HZ.out (f := isNext) (by simp [isNext, b1]))
          have HB1 := Lib.hid b1
          clear b1
          go_wp2_with fail
          refine (letter_any _ _).mono ?_
          rw [HB1.out]
          rintro e w2 ⟨rfl, rfl⟩
          go_wp2
          exact ⟨⟨k + 1, by go_num, by omega, by omega, by rw [HR.out, HN.out]; omega, by first | rfl | trivial⟩, by simp [intOf]; omega⟩
      · have HN := Lib.hid (span_end (f := isNext) (l := L) (k := k) (by rw [HSL.out]; omega))
        obtain rfl : E = k := by have := HR.out; rw [HN.out] at this; omega
        have hpE : p ≤ E := by omega
        have hg := heap_alloc_new w (.cells #[.int .i64 0, .string ⟨#[]⟩, .int .i64 0, .int .i64 0] 155)
        go_wp2_with (refine wpList_store_tok rfl _ _ rfl rfl w.heap.size _ _ _ _ _ _ _ _ rfl rfl _ hg ?_)
        refine bodyPost_ret (results_tok1 rfl _ _ w.heap.size _ _ _ _ _ (0, 0) rfl (setRow_heap _ _ _ _ _ _ hg)) rfl ?_
        exact OnePost.yes HO.out (by rw [HX.out]; rfl) (congrArg (Value.int .i64) (by simp; omega)) (below_setRow (below_new _ _) (Nat.le_refl _) _)
  · have h1 : isFirst c = false := by simpa using h1
    have H1 := Lib.hid h1
    by_cases h2 : isDigit c = true ∨ c = 45
    · have ht := num_none HD.out h2.symm rfl
      have hle := span_le isDigit (L.drop (p + 1))
      rw [List.length_drop, HSL.out] at hle
      have hnt : numText (c :: (L.drop (p + 1)).take (span isDigit (L.drop (p + 1)))) := ⟨c, _, rfl, h2.symm, fun d hd => span_all isDigit _ d hd⟩
      have hE : ∀ E, E = p + 1 + span isDigit (L.drop (p + 1)) → (L.drop p).take (E - p) = c :: (L.drop (p + 1)).take (span isDigit (L.drop (p + 1))) := by
        rintro E rfl
        rw [HD.out, show p + 1 + span isDigit (L.drop (p + 1)) - p = span isDigit (L.drop (p + 1)) + 1 by omega, List.take_succ_cons]
      generalize tk Lib.itoa (L.drop p) = O at *
      generalize c :: (L.drop (p + 1)).take (span isDigit (L.drop (p + 1))) = T at *
      obtain ⟨E, hEE⟩ : ∃ E, E = p + 1 + span isDigit (L.drop (p + 1)) := ⟨_, rfl⟩
      have hEs : E ≤ s.size := by omega
      have hEp : p + 1 ≤ E := by omega
      have hT := hE E hEE
      have hX : s.extract p E = txt T := by rw [HPA.out, hT]
      have ht2 : O = (numOf Lib.itoa T).map fun n => ⟨1, T, n, E - p - 1⟩ := by
        rw [ht, show E - p - 1 = span isDigit (L.drop (p + 1)) by omega]
      have hXs : (s.extract p E).size ≤ 1000000 := by simp; omega
      obtain ⟨X, hXX⟩ : ∃ X, X = txt T := ⟨_, rfl⟩
      have hnum := fun w => rnum_any X (by rw [hXX, ← hX]; exact hXs) (by rw [hXX, txt_list]; exact hnt) w
      rw [hXX, txt_list] at hnum
      rw [← hXX] at hX hnum
      have HX := Lib.hid hXX
      have HO := Lib.hid ht2
      have HE := Lib.hid hEE
      have HNU := Lib.hid hnum
      clear ht hle hE hT hXX ht2 hEE hnt hnum hXs
      generalize numOf Lib.itoa T = N at *
      have HB : Hid (isDigit c = true ∨ isDigit c = false ∧ ((c.toNat : Int) == 45) = true) := Lib.hid (by
        cases hd : isDigit c
        · rw [hd] at h2
          have : c = 45 := by simpa using h2
          right; subst this; exact ⟨rfl, rfl⟩
        · left; rfl)
      clear h1 h2
      go_enter Tryz.func124, Tryz.ntmps124
      go_wp2_with fail
      refine (letter_any c _).mono ?_
      rw [H1.out]
      rintro e w1 ⟨rfl, rfl⟩
      go_wp2_with fail
      refine (digit_any c _).mono ?_
      rintro e w1 ⟨rfl, rfl⟩
      rcases HB.out with hd | ⟨hd, hd45⟩
      all_goals
        rw [hd]
        have HDG := Lib.hid hd
        clear hd
        go_wp2
        go_loopw [7] (fun i wr => ∃ k : Nat, i = .int .i64 k ∧ p < k ∧ k ≤ s.size ∧ E = k + span isDigit (L.drop k) ∧ wr = w.alloc (.cells #[.int .i64 0, .string ⟨#[]⟩, .int .i64 0, .int .i64 0] 155)) (fun i _ => s.size - (intOf i).toNat)
        case atStart => exact ⟨p + 1, by simp, by omega, by omega, HE.out, rfl⟩
        case round =>
          obtain ⟨k, rfl, hpk, hk, hr, rfl⟩ := hrel
          have HR := Lib.hid hr
          clear hr
          by_cases g1 : k < s.size
          · have HZ := Lib.hid (HSG.out k g1)
            cases b1 : isDigit s[k]
            · have HN := Lib.hid (span_stop HZ.out (f := isDigit) b1)
              have HB1 := Lib.hid b1
              clear b1
              obtain rfl : E = k := by have := HR.out; rw [HN.out] at this; omega
              have hpE : p ≤ E := by omega
              go_wp2_with fail
              refine (digit_any _ _).mono ?_
              rw [HB1.out]
              rintro e w2 ⟨rfl, rfl⟩
              go_wp2_with fail
              refine (HNU.out _).mono ?_
              rintro e w3 ⟨v, rfl, hv, hb3⟩
              have hg := (hb3.block w.heap.size (by simp)).trans (heap_alloc_new w _)
              have HV := Lib.hid hv
              clear hv
              cases N with
              | none =>
                simp only [Option.isSome_none]
                go_wp2_with (refine wpList_store_tok rfl _ _ rfl rfl w.heap.size _ _ _ _ _ _ _ _ rfl rfl _ hg ?_)
                refine bodyPost_ret (results_tok1 rfl _ _ w.heap.size _ _ _ _ _ (0, 0) rfl (setRow_heap _ _ _ _ _ _ hg)) rfl ?_
                exact OnePost.no HO.out (below_setRow (below_then (below_new _ _) hb3) (Nat.le_refl _) _)
              | some x =>
                simp only [Option.isSome_some]
                go_wp2_with (refine wpList_store_tok rfl _ _ rfl rfl w.heap.size _ _ _ _ _ _ _ _ rfl rfl _ hg ?_)
                refine bodyPost_ret (results_tok1 rfl _ _ w.heap.size _ _ _ _ _ (0, 0) rfl (setRow_heap _ _ _ _ _ _ hg)) rfl ?_
                exact OnePost.yes HO.out (by rw [HX.out, HV.out x rfl]; rfl) (congrArg (Value.int .i64) (by simp; omega)) (below_setRow (below_then (below_new _ _) hb3) (Nat.le_refl _) _)
            · have HN := Lib.hid (span_next HZ.out (f := isDigit) b1)
              have HB1 := Lib.hid b1
              clear b1
              go_wp2_with fail
              refine (digit_any _ _).mono ?_
              rw [HB1.out]
              rintro e w2 ⟨rfl, rfl⟩
              go_wp2
              exact ⟨⟨k + 1, by go_num, by omega, by omega, by rw [HR.out, HN.out]; omega, by first | rfl | trivial⟩, by simp [intOf]; omega⟩
          · have HN := Lib.hid (span_end (f := isDigit) (l := L) (k := k) (by rw [HSL.out]; omega))
            obtain rfl : E = k := by have := HR.out; rw [HN.out] at this; omega
            have hpE : p ≤ E := by omega
            go_wp2_with fail
            refine (HNU.out _).mono ?_
            rintro e w3 ⟨v, rfl, hv, hb3⟩
            have hg := (hb3.block w.heap.size (by simp)).trans (heap_alloc_new w _)
            have HV := Lib.hid hv
            clear hv
            cases N with
            | none =>
              simp only [Option.isSome_none]
              go_wp2_with (refine wpList_store_tok rfl _ _ rfl rfl w.heap.size _ _ _ _ _ _ _ _ rfl rfl _ hg ?_)
              refine bodyPost_ret (results_tok1 rfl _ _ w.heap.size _ _ _ _ _ (0, 0) rfl (setRow_heap _ _ _ _ _ _ hg)) rfl ?_
              exact OnePost.no HO.out (below_setRow (below_then (below_new _ _) hb3) (Nat.le_refl _) _)
            | some x =>
              simp only [Option.isSome_some]
              go_wp2_with (refine wpList_store_tok rfl _ _ rfl rfl w.heap.size _ _ _ _ _ _ _ _ rfl rfl _ hg ?_)
              refine bodyPost_ret (results_tok1 rfl _ _ w.heap.size _ _ _ _ _ (0, 0) rfl (setRow_heap _ _ _ _ _ _ hg)) rfl ?_
              exact OnePost.yes HO.out (by rw [HX.out, HV.out x rfl]; rfl) (congrArg (Value.int .i64) (by simp; omega)) (below_setRow (below_then (below_new _ _) hb3) (Nat.le_refl _) _)
    · have h2d : isDigit c = false := by
        cases hd : isDigit c
        · rfl
        · exact absurd (Or.inl hd) h2
      have h245 : c ≠ 45 := fun e => h2 (Or.inr e)
      have b45 : ((c.toNat : Int) == 45) = false := by rw [show ((c.toNat : Int) == 45) = (c == 45) from u8_eq c 45 (by decide)]; simpa using h245
      have H2 := Lib.hid h2d
      by_cases h3 : c = 34
      · have ht := tk_str HD.out h3
        rw [ht]
        have b34 : ((c.toNat : Int) == 34) = true := by rw [h3]; rfl
        unfold strT
        obtain ⟨o, ho⟩ : ∃ o, o = strB 0 (L.drop (p + 1)) := ⟨_, rfl⟩
        rw [← ho] at HTX ⊢
        clear h1 h2 h2d h245 ht h3 ho
        go_enter Tryz.func124, Tryz.ntmps124
        go_wp2_with fail
        refine (letter_any c _).mono ?_
        rw [H1.out]
        rintro e w1 ⟨rfl, rfl⟩
        go_wp2_with fail
        refine (digit_any c _).mono ?_
        rw [H2.out]
        rintro e w1 ⟨rfl, rfl⟩
        go_wp2_with fail
        refine (HTX.out _).mono ?_
        rintro e w3 ⟨rfl, hb3⟩
        have hg := (hb3.block w.heap.size (by simp)).trans (heap_alloc_new w _)
        cases o with
        | none =>
          unfold DV
          go_wp2_with (refine wpList_store_tok rfl _ _ rfl rfl w.heap.size _ _ _ _ _ _ _ _ rfl rfl _ hg ?_)
          refine bodyPost_ret (results_tok1 rfl _ _ w.heap.size _ _ _ _ _ (0, 0) rfl (setRow_heap _ _ _ _ _ _ hg)) rfl ?_
          exact OnePost.no rfl (below_setRow (below_then (below_new _ _) hb3) (Nat.le_refl _) _)
        | some x =>
          obtain ⟨t, m⟩ := x
          unfold DV
          obtain ⟨X, hXX⟩ : ∃ X, X = txt t := ⟨_, rfl⟩
          simp only
          rw [← hXX]
          have HX := Lib.hid hXX
          clear hXX
          go_wp2_with (refine wpList_store_tok rfl _ _ rfl rfl w.heap.size _ _ _ _ _ _ _ _ rfl rfl _ hg ?_)
          refine bodyPost_ret (results_tok1 rfl _ _ w.heap.size _ _ _ _ _ (0, 0) rfl (setRow_heap _ _ _ _ _ _ hg)) rfl ?_
          exact OnePost.yes rfl (by rw [HX.out]; rfl) (congrArg (Value.int .i64) (by simp; omega)) (below_setRow (below_then (below_new _ _) hb3) (Nat.le_refl _) _)
      · have b34' : (c == 34) = false := by simpa using h3
        have b34 : ((c.toNat : Int) == 34) = false := by rw [show ((c.toNat : Int) == 34) = (c == 34) from u8_eq c 34 (by decide)]; exact b34'
        have ht := tk_sign HD.out h1 (by rw [h2d]; simpa using h245) b34'
        have hX : s.extract p (p + 1) = txt [c] := by rw [HPA.out, show p + 1 - p = 1 by omega, HD.out]; rfl
        obtain ⟨X, hXX⟩ : ∃ X, X = txt [c] := ⟨_, rfl⟩
        rw [← hXX] at hX
        have HX := Lib.hid hXX
        generalize tk Lib.itoa (L.drop p) = O at *
        cases hsg : isSign c
        · rw [hsg] at ht
          simp only [Bool.false_eq_true, if_false] at ht
          have HO := Lib.hid ht
          have H3 := Lib.hid hsg
          clear h1 h2 h2d h245 h3 b34' ht hXX hsg
          go_enter Tryz.func124, Tryz.ntmps124
          go_wp2_with fail
          refine (letter_any c _).mono ?_
          rw [H1.out]
          rintro e w1 ⟨rfl, rfl⟩
          go_wp2_with fail
          refine (digit_any c _).mono ?_
          rw [H2.out]
          rintro e w1 ⟨rfl, rfl⟩
          go_wp2_with fail
          refine (signed_any c _).mono ?_
          rw [H3.out]
          rintro e w3 ⟨rfl, hb3⟩
          have hg := (hb3.block w.heap.size (by simp)).trans (heap_alloc_new w _)
          go_wp2_with (refine wpList_store_tok rfl _ _ rfl rfl w.heap.size _ _ _ _ _ _ _ _ rfl rfl _ hg ?_)
          refine bodyPost_ret (results_tok1 rfl _ _ w.heap.size _ _ _ _ _ (0, 0) rfl (setRow_heap _ _ _ _ _ _ hg)) rfl ?_
          exact OnePost.no HO.out (below_setRow (below_then (below_new _ _) hb3) (Nat.le_refl _) _)
        · rw [hsg] at ht
          simp only [if_true] at ht
          have HO := Lib.hid ht
          have H3 := Lib.hid hsg
          have hsli : ∀ w', (Instr.slice 9 (.string s) (some (.int .i64 p)) (some (.int .i64 ((p : Int) + 1))) none).run Tryz.prog w' = .ok (.string X) w' := fun w' => by
            have hr := run_slice_string (P := Tryz.prog) (w := w') (t := 9) (s := s) (i := (p : Int)) (j := (p : Int) + 1) (k := .i64) (k' := .i64) Tryz.underlying9 (by omega) (by omega) (by omega)
            rw [Int.toNat_natCast, show ((p : Int) + 1).toNat = p + 1 by omega, hX] at hr
            exact hr
          clear h1 h2 h2d h245 h3 b34' ht hXX hsg
          go_enter Tryz.func124, Tryz.ntmps124
          go_wp2_with fail
          refine (letter_any c _).mono ?_
          rw [H1.out]
          rintro e w1 ⟨rfl, rfl⟩
          go_wp2_with fail
          refine (digit_any c _).mono ?_
          rw [H2.out]
          rintro e w1 ⟨rfl, rfl⟩
          go_wp2_with fail
          refine (signed_any c _).mono ?_
          rw [H3.out]
          rintro e w3 ⟨rfl, hb3⟩
          have hg := (hb3.block w.heap.size (by simp)).trans (heap_alloc_new w _)
          go_wp2_with (refine wpList_store_tok rfl _ _ rfl rfl w.heap.size _ _ _ _ _ _ _ _ rfl rfl _ hg ?_)
          refine bodyPost_ret (results_tok1 rfl _ _ w.heap.size _ _ _ _ _ (0, 0) rfl (setRow_heap _ _ _ _ _ _ hg)) rfl ?_
          exact OnePost.yes HO.out (by rw [HX.out]; rfl) (congrArg (Value.int .i64) (by simp)) (below_setRow (below_then (below_new _ _) hb3) (Nat.le_refl _) _)
end Go.Proofs.YtciiemomfniecaaGreatDoor
