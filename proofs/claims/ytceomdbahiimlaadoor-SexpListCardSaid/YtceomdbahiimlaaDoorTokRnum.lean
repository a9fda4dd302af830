/-
  The number of digits, with a sign or not, by the document's own function: its contract.
-/
import Derived.Test.YtceomdbahiimlaaDoorTokRdig
namespace Go.Proofs.YtceomdbahiimlaaDoor
set_option maxRecDepth 100000

open Go.RowKit

theorem numOf_spell {t : List UInt8} (h : numText t) {v : Int} (hs : spell t = v) (h0 : -9223372036854775808 ≤ v) (h1 : v ≤ 9223372036854775807) :
    (numOf Lib.itoa t).isSome = decide (Lib.itoa v = t) ∧ ∀ x, numOf Lib.itoa t = some x → v = x := by
  subst hs
  have hne : t ≠ [] := by obtain ⟨c, r, rfl, _⟩ := h; simp
  rw [numOf_eq]
  by_cases he : Lib.itoa (spell t) = t
  · rw [if_pos ⟨hne, h0, h1, he⟩]
    exact ⟨by simp [he], fun x hx => by injection hx⟩
  · rw [if_neg (by rintro ⟨_, _, _, h⟩; exact he h)]
    exact ⟨by simp [he], fun x hx => by cases hx⟩
theorem numOf_far {t : List UInt8} (hs : spell t < -9223372036854775808 ∨ 9223372036854775807 < spell t) : numOf Lib.itoa t = none := by
  rw [numOf_eq, if_neg]
  rintro ⟨_, h1, h2, _⟩
  omega

def NumPost (O : Option Int) (w : World) (e : Ending) (w' : World) : Prop := ∃ v, e = .returned (.tuple #[.int .i64 v, .bool O.isSome]) ∧ (∀ x, O = some x → v = x) ∧ Below w.heap.size w w'
theorem NumPost.no {O : Option Int} {w w' : World} (h : O = none) (hb : Below w.heap.size w w') : NumPost O w (.returned (.tuple #[.int .i64 0, .bool false])) w' := by
  subst h; exact ⟨0, rfl, fun x hx => (by cases hx), hb⟩
theorem NumPost.yes {O : Option Int} {w w' : World} {v : Int} {b : Bool} (h : O.isSome = b) (hx : ∀ x, O = some x → v = x) (hb : Below w.heap.size w w') : NumPost O w (.returned (.tuple #[.int .i64 v, .bool b])) w' := by
  subst h; exact ⟨v, rfl, hx, hb⟩
theorem same_text {b : Bool} {v : Int} {L : List UInt8} {X t : ByteArray} (h : b = decide (Lib.itoa v = L)) (hX : X = txt (Lib.itoa v)) (ht : txt L = t) : b = (X.toList == t.toList) := by
  subst hX ht
  rw [h, Lib.toList_data, Lib.toList_data, txt_list, txt_list]
  rw [Bool.eq_iff_iff]; simp
set_option maxRecDepth 1000000 in
theorem rnum_0 (t : ByteArray) (ht : t.size ≤ 1000000) (h : numText t.data.toList) (hh : t.data.toList.head? ≠ some 45) (w : World) :
    Calls Tryd.prog 54 #[.string t] w fun e w' => NumPost (numOf Lib.itoa t.data.toList) w e w' := by
  have hM : t.data.toList.drop 0 = mags t.data.toList := by simp [mags, hh]
  have hsl : t.data.toList.length = t.size := by simp
  have hsg := at_list t
  have hml : (mags t.data.toList).length = t.size - 0 := by rw [← hM, List.length_drop, hsl]
  have hsp : spell t.data.toList = (dval 0 (mags t.data.toList) : Int) := by rw [spell_mags h]; simp [hh]
  have hpos : 0 < t.size := by obtain ⟨c, r, he, _⟩ := h; rw [← hsl, he]; simp
  have hlong := num_long (t := t.data.toList)
  have hfits := num_fits h
  have hdig := mags_digits h
  have hsome := fun v => numOf_spell h (v := v)
  have hfar := numOf_far (t := t.data.toList)
  have hb1 : ((t[0].toNat : Int) == 45) = false := by
    have e47 := u8_eq t[0] 45 (by decide)
    simp only [Int.cast_ofNat_Int] at e47
    rw [e47]
    have h0 := hsg 0 hpos
    rw [← List.head?_eq_getElem?] at h0
    rw [h0] at hh
    simpa using hh
  have htx : txt t.data.toList = t := txt_of t
  generalize t.data.toList = L at *
  rw [hml] at hlong hfits
  have HL := Lib.hid hlong
  have HF := Lib.hid hfits
  have HD := Lib.hid hdig
  have HSO := Lib.hid hsome
  have HFA := Lib.hid hfar
  have HSP := Lib.hid hsp
  have HM := Lib.hid hM
  have HSG := Lib.hid hsg
  have HSL := Lib.hid hsl
  have HTX := Lib.hid htx
  have HML := Lib.hid hml
  have HHH := Lib.hid hh
  clear hlong hfits hdig hsome hfar hsp hM hsg hsl htx hml h hh
  generalize hO : numOf Lib.itoa L = O at *
  clear hO
  have d0 : decide (0 < (t.size : Int)) = true := by simp; omega
  by_cases hA : t.size - 0 = 0 ∨ 19 < t.size - 0
  · have HN0 := Lib.hid (HL.out hA)
    clear HL HF HD HSO HFA HSP HM HML HHH
    go_enter Tryd.func54, Tryd.ntmps54
    go_wp2_with fail
    all_goals first
      | (go_ret2; exact NumPost.no HN0.out (by first | exact Below.refl _ _ | trivial))
      | (exfalso; simp_all; omega)
      | (exfalso; rename_i hx; simp at hx; omega)
      | (exfalso; rename_i hx hy; simp at hx hy; omega)
  · have hV := HF.out (by omega)
    have hVd : dval 0 (L.drop 0) = dval 0 (mags L) := by rw [HM.out]
    obtain ⟨V, hVV⟩ : ∃ V, V = dval 0 (mags L) := ⟨_, rfl⟩
    have hsp2 := HSP.out
    rw [← hVV] at hV hVd hsp2
    have HVD := Lib.hid hVd
    have HSPV := Lib.hid hsp2
    clear hVd hVV hsp2 HF HL HSP
    have d1 : ((t.size : Int) == 0) = false := by rw [beq_eq_false_iff_ne]; omega
    have hs20 : t.size - 0 ≤ 19 := by omega
    have hs1 : 0 < t.size := by omega
    have d2 : decide (19 < (t.size : Int)) = false := by rw [decide_eq_false_iff_not]; omega
    clear hA
    go_enter Tryd.func54, Tryd.ntmps54
    go_wp2_with fail
    go_loopw [4, 6] (fun v i wr => ∃ n k : Nat, v = .int .u64 n ∧ i = .int .i64 k ∧ 0 ≤ k ∧ k ≤ t.size ∧ V = dval n (L.drop k) ∧ wr = w) (fun _ i _ => t.size - (intOf i).toNat)
    case atStart => exact ⟨0, 0, rfl, rfl, by omega, by omega, HVD.out.symm, rfl⟩
    case round =>
      obtain ⟨n, k, rfl, rfl, hfk, hk, hv, rfl⟩ := hrel
      have HV := Lib.hid hv
      have hge := dval_ge (L.drop k) n
      rw [← hv] at hge
      clear hv
      by_cases h1 : k < t.size
      · have HX := Lib.hid (HSG.out k h1)
        have hdg : isDigit t[k] = true := HD.out _ (by rw [← HM.out]; exact List.mem_of_getElem? (i := k - 0) (by rw [List.getElem?_drop, show 0 + (k - 0) = k by omega]; exact HX.out))
        simp only [isDigit, Bool.and_eq_true, decide_eq_true_eq] at hdg
        have HN := Lib.hid (show V = dval (10 * n + (t[k].toNat - 48)) (L.drop (k + 1)) by rw [HV.out, ws_at HX.out, dval_cons])
        have hge2 := dval_ge (L.drop (k + 1)) (10 * n + (t[k].toNat - 48))
        rw [← HN.out] at hge2
        have e1 : IntKind.u64.wrap (10 * (n : Int)) = 10 * n := by simp [IntKind.wrap, IntKind.signed, IntKind.bits]; omega
        have e2 : IntKind.u8.wrap ((t[k].toNat : Int) - 48) = (t[k].toNat : Int) - 48 := by simp [IntKind.wrap, IntKind.signed, IntKind.bits]; omega
        have e3 : IntKind.u64.wrap ((t[k].toNat : Int) - 48) = (t[k].toNat : Int) - 48 := by simp [IntKind.wrap, IntKind.signed, IntKind.bits]; omega
        have e4 : IntKind.u64.wrap (10 * (n : Int) + ((t[k].toNat : Int) - 48)) = ((10 * n + (t[k].toNat - 48) : Nat) : Int) := by simp [IntKind.wrap, IntKind.signed, IntKind.bits]; omega
        go_wp2
        exact ⟨⟨10 * n + (t[k].toNat - 48), k + 1, rfl, by go_num, by omega, by omega, HN.out, by first | rfl | trivial⟩, by simp [intOf]; omega⟩
      · have hn : n = V := by
          have := HV.out
          rw [List.drop_of_length_le (by rw [HSL.out]; omega), dval_nil] at this
          exact this.symm
        subst hn
        clear HV hge
        by_cases hbig : 9223372036854775808 ≤ n
        · have hN := HFA.out (by rw [HSPV.out]; omega)
          have HN0 := Lib.hid hN
          clear hN
          have hor : 9223372036854775808 < n ∨ n = 9223372036854775808 := by omega
          rcases hor with hor | rfl
          · go_wp2
            go_ret2
            exact NumPost.no HN0.out (by first | exact Below.refl _ _ | trivial)
          · go_wp2
            go_ret2
            exact NumPost.no HN0.out (by first | exact Below.refl _ _ | trivial)
        · obtain ⟨his, hev⟩ := HSO.out n HSPV.out (by omega) (by omega)
          have HIS := Lib.hid his
          have HEV := Lib.hid hev
          clear his hev
          have b1 : ((n : Int) == 9223372036854775808) = false := by rw [beq_eq_false_iff_ne]; omega
          have b2 : decide (9223372036854775808 < (n : Int)) = false := by rw [decide_eq_false_iff_not]; omega
          have e1 : IntKind.i64.wrap (n : Int) = n := by simp [IntKind.wrap, IntKind.signed, IntKind.bits]; split <;> omega
          go_wp2_with fail
          refine (rdig_any n (by omega) (by omega) _).mono ?_
          rintro e w2 ⟨rfl, hb⟩
          obtain ⟨X, hX⟩ : ∃ X, X = txt (Lib.itoa n) := ⟨_, rfl⟩
          rw [← hX]
          have HX := Lib.hid hX
          clear hX
          go_wp2
          go_ret2
          exact NumPost.yes (same_text HIS.out HX.out HTX.out) HEV.out hb
set_option maxRecDepth 1000000 in
theorem rnum_1 (t : ByteArray) (ht : t.size ≤ 1000000) (h : numText t.data.toList) (hh : t.data.toList.head? = some 45) (w : World) :
    Calls Tryd.prog 54 #[.string t] w fun e w' => NumPost (numOf Lib.itoa t.data.toList) w e w' := by
  have hM : t.data.toList.drop 1 = mags t.data.toList := by simp [mags, hh]
  have hsl : t.data.toList.length = t.size := by simp
  have hsg := at_list t
  have hml : (mags t.data.toList).length = t.size - 1 := by rw [← hM, List.length_drop, hsl]
  have hsp : spell t.data.toList = -(dval 0 (mags t.data.toList) : Int) := by rw [spell_mags h]; simp [hh]
  have hpos : 0 < t.size := by obtain ⟨c, r, he, _⟩ := h; rw [← hsl, he]; simp
  have hlong := num_long (t := t.data.toList)
  have hfits := num_fits h
  have hdig := mags_digits h
  have hsome := fun v => numOf_spell h (v := v)
  have hfar := numOf_far (t := t.data.toList)
  have hb1 : ((t[0].toNat : Int) == 45) = true := by
    have e47 := u8_eq t[0] 45 (by decide)
    simp only [Int.cast_ofNat_Int] at e47
    rw [e47]
    have h0 := hsg 0 hpos
    rw [← List.head?_eq_getElem?] at h0
    rw [h0] at hh
    simpa using hh
  have htx : txt t.data.toList = t := txt_of t
  generalize t.data.toList = L at *
  rw [hml] at hlong hfits
  have HL := Lib.hid hlong
  have HF := Lib.hid hfits
  have HD := Lib.hid hdig
  have HSO := Lib.hid hsome
  have HFA := Lib.hid hfar
  have HSP := Lib.hid hsp
  have HM := Lib.hid hM
  have HSG := Lib.hid hsg
  have HSL := Lib.hid hsl
  have HTX := Lib.hid htx
  have HML := Lib.hid hml
  have HHH := Lib.hid hh
  clear hlong hfits hdig hsome hfar hsp hM hsg hsl htx hml h hh
  generalize hO : numOf Lib.itoa L = O at *
  clear hO
  have d0 : decide (0 < (t.size : Int)) = true := by simp; omega
  by_cases hA : t.size - 1 = 0 ∨ 19 < t.size - 1
  · have HN0 := Lib.hid (HL.out hA)
    clear HL HF HD HSO HFA HSP HM HML HHH
    go_enter Tryd.func54, Tryd.ntmps54
    go_wp2_with fail
    all_goals first
      | (go_ret2; exact NumPost.no HN0.out (by first | exact Below.refl _ _ | trivial))
      | (exfalso; simp_all; omega)
      | (exfalso; rename_i hx; simp at hx; omega)
      | (exfalso; rename_i hx hy; simp at hx hy; omega)
  · have hV := HF.out (by omega)
    have hVd : dval 0 (L.drop 1) = dval 0 (mags L) := by rw [HM.out]
    obtain ⟨V, hVV⟩ : ∃ V, V = dval 0 (mags L) := ⟨_, rfl⟩
    have hsp2 := HSP.out
    rw [← hVV] at hV hVd hsp2
    have HVD := Lib.hid hVd
    have HSPV := Lib.hid hsp2
    clear hVd hVV hsp2 HF HL HSP
    have d1 : ((t.size : Int) == 1) = false := by rw [beq_eq_false_iff_ne]; omega
    have hs20 : t.size - 1 ≤ 19 := by omega
    have hs1 : 1 < t.size := by omega
    have d2 : decide (19 < (t.size : Int) - 1) = false := by rw [decide_eq_false_iff_not]; omega
    clear hA
    go_enter Tryd.func54, Tryd.ntmps54
    go_wp2_with fail
    go_loopw [4, 6] (fun v i wr => ∃ n k : Nat, v = .int .u64 n ∧ i = .int .i64 k ∧ 1 ≤ k ∧ k ≤ t.size ∧ V = dval n (L.drop k) ∧ wr = w) (fun _ i _ => t.size - (intOf i).toNat)
    case atStart => exact ⟨0, 1, rfl, rfl, by omega, by omega, HVD.out.symm, rfl⟩
    case round =>
      obtain ⟨n, k, rfl, rfl, hfk, hk, hv, rfl⟩ := hrel
      have HV := Lib.hid hv
      have hge := dval_ge (L.drop k) n
      rw [← hv] at hge
      clear hv
      by_cases h1 : k < t.size
      · have HX := Lib.hid (HSG.out k h1)
        have hdg : isDigit t[k] = true := HD.out _ (by rw [← HM.out]; exact List.mem_of_getElem? (i := k - 1) (by rw [List.getElem?_drop, show 1 + (k - 1) = k by omega]; exact HX.out))
        simp only [isDigit, Bool.and_eq_true, decide_eq_true_eq] at hdg
        have HN := Lib.hid (show V = dval (10 * n + (t[k].toNat - 48)) (L.drop (k + 1)) by rw [HV.out, ws_at HX.out, dval_cons])
        have hge2 := dval_ge (L.drop (k + 1)) (10 * n + (t[k].toNat - 48))
        rw [← HN.out] at hge2
        have e1 : IntKind.u64.wrap (10 * (n : Int)) = 10 * n := by simp [IntKind.wrap, IntKind.signed, IntKind.bits]; omega
        have e2 : IntKind.u8.wrap ((t[k].toNat : Int) - 48) = (t[k].toNat : Int) - 48 := by simp [IntKind.wrap, IntKind.signed, IntKind.bits]; omega
        have e3 : IntKind.u64.wrap ((t[k].toNat : Int) - 48) = (t[k].toNat : Int) - 48 := by simp [IntKind.wrap, IntKind.signed, IntKind.bits]; omega
        have e4 : IntKind.u64.wrap (10 * (n : Int) + ((t[k].toNat : Int) - 48)) = ((10 * n + (t[k].toNat - 48) : Nat) : Int) := by simp [IntKind.wrap, IntKind.signed, IntKind.bits]; omega
        go_wp2
        exact ⟨⟨10 * n + (t[k].toNat - 48), k + 1, rfl, by go_num, by omega, by omega, HN.out, by first | rfl | trivial⟩, by simp [intOf]; omega⟩
      · have hn : n = V := by
          have := HV.out
          rw [List.drop_of_length_le (by rw [HSL.out]; omega), dval_nil] at this
          exact this.symm
        subst hn
        clear HV hge
        by_cases hbig : 9223372036854775808 < n
        · have hN := HFA.out (by rw [HSPV.out]; omega)
          have HN0 := Lib.hid hN
          clear hN
          go_wp2
          go_ret2
          exact NumPost.no HN0.out (by first | exact Below.refl _ _ | trivial)
        · obtain ⟨his, hev⟩ := HSO.out (-(n : Int)) HSPV.out (by omega) (by omega)
          have HIS := Lib.hid his
          have HEV := Lib.hid hev
          clear his hev
          have b2 : decide (9223372036854775808 < (n : Int)) = false := by rw [decide_eq_false_iff_not]; omega
          have hor : n = 9223372036854775808 ∨ n < 9223372036854775808 := by omega
          rcases hor with rfl | hlt
          · have e1 : wrap64 (-wrap64 9223372036854775808) = -9223372036854775808 := by decide +kernel
            have HIS : Hid (O.isSome = decide (Lib.itoa (-9223372036854775808) = L)) := HIS
            have HEV : Hid (∀ x, O = some x → -9223372036854775808 = x) := HEV
            go_wp2_with fail
            refine (rdig_any (-9223372036854775808) (by omega) (by omega) _).mono ?_
            rintro e w2 ⟨rfl, hb⟩
            obtain ⟨X, hX⟩ : ∃ X, X = txt (Lib.itoa (-9223372036854775808)) := ⟨_, rfl⟩
            rw [← hX]
            have HX := Lib.hid hX
            clear hX
            go_wp2
            go_ret2
            exact NumPost.yes (same_text HIS.out HX.out HTX.out) HEV.out hb
          · have b1 : ((n : Int) == 9223372036854775808) = false := by rw [beq_eq_false_iff_ne]; omega
            go_wp2_with fail
            refine (rdig_any (-(n : Int)) (by omega) (by omega) _).mono ?_
            rintro e w2 ⟨rfl, hb⟩
            obtain ⟨X, hX⟩ : ∃ X, X = txt (Lib.itoa (-(n : Int))) := ⟨_, rfl⟩
            rw [← hX]
            have HX := Lib.hid hX
            clear hX
            go_wp2
            go_ret2
            exact NumPost.yes (same_text HIS.out HX.out HTX.out) HEV.out hb
theorem rnum_any (t : ByteArray) (ht : t.size ≤ 1000000) (h : numText t.data.toList) (w : World) :
    Calls Tryd.prog 54 #[.string t] w fun e w' => NumPost (numOf Lib.itoa t.data.toList) w e w' := by
  by_cases hh : t.data.toList.head? = some 45
  · exact rnum_1 t ht h hh w
  · exact rnum_0 t ht h hh w
end Go.Proofs.YtceomdbahiimlaaDoor
