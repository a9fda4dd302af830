/-
  Blanks, signs, halves of bytes and digits, by the document's own functions: their contracts.
-/
import Derived.Test.YtceomdbahiimlaaDoorTokSmall
namespace Go.Proofs.YtceomdbahiimlaaDoor
set_option maxRecDepth 100000

open Go.RowKit

def hexI (c : UInt8) : Int := match hexv c with | some a => (a : Int) | none => -1
theorem rhex_any (c : UInt8) (w : World) : Calls Tryd.prog 65 #[.int .u8 (c.toNat : Int)] w fun e w' => e = .returned (.int .i64 (hexI c)) ∧ w = w' := by
  by_cases hd : isDigit c = true
  · have hR : hexI c = ((c.toNat - 48 : Nat) : Int) := by simp [hexI, hexv, hd]
    rw [hR]
    have hd2 := hd
    simp only [isDigit, Bool.and_eq_true, decide_eq_true_eq] at hd2
    go_enter Tryd.func65, Tryd.ntmps65
    go_wp2_with fail
    refine (digit_any c _).mono ?_
    rintro e w' ⟨rfl, rfl⟩
    rw [hd]
    have e1 : IntKind.i64.wrap (IntKind.u8.wrap ((c.toNat : Int) - 48)) = ((c.toNat - 48 : Nat) : Int) := by simp [IntKind.wrap, IntKind.signed, IntKind.bits]; omega
    clear hd
    go_wp2
    go_ret
    exact ⟨ret_int (by first | rfl | assumption | omega), by first | rfl | trivial⟩
  · have hd : isDigit c = false := by simpa using hd
    by_cases h2 : 97 ≤ c.toNat ∧ c.toNat ≤ 102
    · have hR : hexI c = ((c.toNat - 87 : Nat) : Int) := by simp [hexI, hexv, hd, h2.1, h2.2]
      rw [hR]
      obtain ⟨h3, h4⟩ := h2
      have d1 : decide (97 ≤ (c.toNat : Int)) = true := by simp; omega
      have d2 : decide ((c.toNat : Int) ≤ 102) = true := by simp; omega
      have e1 : IntKind.i64.wrap (IntKind.i64.wrap (IntKind.u8.wrap ((c.toNat : Int) - 97)) + 10) = ((c.toNat - 87 : Nat) : Int) := by simp [IntKind.wrap, IntKind.signed, IntKind.bits]; omega
      go_enter Tryd.func65, Tryd.ntmps65
      go_wp2_with fail
      refine (digit_any c _).mono ?_
      rintro e w' ⟨rfl, rfl⟩
      rw [hd]
      clear hd
      go_wp2
      go_ret
      exact ⟨ret_int (by first | rfl | assumption | omega), by first | rfl | trivial⟩
    · have hR : hexI c = -1 := by
        have : (decide (97 ≤ c.toNat) && decide (c.toNat ≤ 102)) = false := by rw [Bool.and_eq_false_iff, decide_eq_false_iff_not, decide_eq_false_iff_not]; omega
        simp only [hexI, hexv, hd, this, Bool.false_eq_true, if_false]
      rw [hR]
      go_enter Tryd.func65, Tryd.ntmps65
      go_wp2_with fail
      refine (digit_any c _).mono ?_
      rintro e w' ⟨rfl, rfl⟩
      rw [hd]
      clear hd
      go_wp2
      all_goals first
        | (go_ret; exact ⟨rfl, by first | rfl | trivial⟩)
        | (exfalso; omega)

def signS : ByteArray := ⟨#[123, 125, 40, 41, 91, 93, 60, 62, 61, 59, 44, 46]⟩
theorem sign_list (c : UInt8) : isSign c = signS.data.toList.contains c := rfl
theorem contains_no {l : List UInt8} {c : UInt8} {k : Nat} (hk : l.length ≤ k) (h : ∀ j, j < k → ∀ d, l[j]? = some d → d ≠ c) : l.contains c = false := by
  rw [Bool.eq_false_iff]
  intro h2
  rw [List.contains_iff_mem] at h2
  obtain ⟨j, hj, e⟩ := List.getElem_of_mem h2
  exact h j (by omega) c (by rw [List.getElem?_eq_getElem hj, e]) rfl
set_option maxRecDepth 1000000 in
theorem signed_any (c : UInt8) (w : World) : Calls Tryd.prog 56 #[.int .u8 (c.toNat : Int)] w fun e w' => e = .returned (.bool (isSign c)) ∧ Below w.heap.size w w' := by
  obtain ⟨s, hs⟩ : ∃ s, s = signS := ⟨_, rfl⟩
  have hsl : s.size = 12 := by rw [hs]; rfl
  have HSG := Lib.hid (at_list s)
  have hsn : isSign c = s.data.toList.contains c := by rw [hs]; rfl
  have hll : s.data.toList.length = s.size := by simp
  rw [hsn]
  generalize s.data.toList = L at *
  have HLL := Lib.hid hll
  clear hll hsn
  have hs' : (⟨#[123, 125, 40, 41, 91, 93, 60, 62, 61, 59, 44, 46]⟩ : ByteArray) = s := hs.symm
  clear hs
  go_enter Tryd.func56, Tryd.ntmps56
  simp only [hs']
  go_wp2
  go_loopw [4] (fun i wr => ∃ k d : Nat, i = .int .i64 k ∧ k ≤ 12 ∧ (∀ j, j < k → ∀ x, L[j]? = some x → x ≠ c) ∧ wr = w.drewN d) (fun i _ => 12 - (intOf i).toNat)
  case atStart => exact ⟨0, 0, rfl, by omega, fun j hj => by omega, rfl⟩
  case round =>
    obtain ⟨k, d, rfl, hk, hno, rfl⟩ := hrel
    have HNO := Lib.hid hno
    clear hno
    by_cases h1 : k < 12
    · have h1' : k < s.size := by omega
      have HX := Lib.hid (HSG.out k h1')
      by_cases he : s[k] = c
      · have b1 : (((s[k]).toNat : Int) == (c.toNat : Int)) = true := by rw [he]; simp
        have HC := Lib.hid (show L.contains c = true by rw [List.contains_iff_mem]; exact List.mem_of_getElem? (by rw [← he]; exact HX.out))
        clear he
        go_wp2
        go_ret
        exact ⟨ret_bool HC.out.symm, (by repeat (first | exact Below.refl _ _ | assumption | refine below_draws ?_ _ | refine Below.drew ?_))⟩
      · have b1 : (((s[k]).toNat : Int) == (c.toNat : Int)) = false := by
          rw [beq_eq_false_iff_ne]
          intro h
          exact he (UInt8.toNat_inj.1 (by omega))
        have HE := Lib.hid he
        clear he
        go_wp2
        refine ⟨⟨k + 1, d, by go_num, by omega, ?_, rfl⟩, by simp [intOf]; omega⟩
        intro j hj x hx
        by_cases hjk : j = k
        · subst hjk; rw [HX.out] at hx; injection hx with hx; rw [← hx]; exact HE.out
        · exact HNO.out j (by omega) x hx
    · have HC := Lib.hid (contains_no (by rw [HLL.out]; omega) HNO.out)
      go_wp2
      go_ret
      exact ⟨ret_bool HC.out.symm, (by repeat (first | exact Below.refl _ _ | assumption | refine below_draws ?_ _ | refine Below.drew ?_))⟩

theorem ws_at {l : List UInt8} {k : Nat} {c : UInt8} (hc : l[k]? = some c) : l.drop k = c :: l.drop (k + 1) := by
  obtain ⟨h, e⟩ := List.getElem?_eq_some_iff.1 hc
  rw [List.drop_eq_getElem_cons h, e]
theorem head_drop {l : List UInt8} {k : Nat} : (l.drop k).head? = l[k]? := by rw [List.head?_drop]
theorem blank_is (c : UInt8) : isBlank c = ((c.toNat : Int) == 32 || (c.toNat : Int) == 9 || (c.toNat : Int) == 10 || (c.toNat : Int) == 13) := by
  have e1 := u8_eq c 32 (by decide)
  have e2 := u8_eq c 9 (by decide)
  have e3 := u8_eq c 10 (by decide)
  have e4 := u8_eq c 13 (by decide)
  simp only [Int.cast_ofNat_Int] at e1 e2 e3 e4
  rw [e1, e2, e3, e4]; rfl
set_option maxRecDepth 1000000 in
theorem blank_any (s : ByteArray) (hs : s.size ≤ 1000000) (p : Nat) (hp : p ≤ s.size) (w : World) :
    Calls Tryd.prog 36 #[.string s, .int .i64 p] w fun e w' => e = .returned (.int .i64 ((p + ws false (s.data.toList.drop p) : Nat) : Int)) ∧ w = w' := by
  have hsl : s.data.toList.length = s.size := by simp
  have hsg := at_list s
  generalize s.data.toList = L at *
  have HSL := Lib.hid hsl
  have HSG := Lib.hid hsg
  clear hsl hsg
  obtain ⟨R, hR⟩ : ∃ R, R = p + ws false (L.drop p) := ⟨_, rfl⟩
  rw [← hR]
  have HR := Lib.hid hR
  clear hR
  go_enter Tryd.func36, Tryd.ntmps36
  go_wp2_with fail
  go_loopw [1] (fun i wr => ∃ k : Nat, i = .int .i64 k ∧ k ≤ s.size ∧ R = k + ws false (L.drop k) ∧ w = wr) (fun i _ => s.size - (intOf i).toNat)
  case atStart => exact ⟨p, rfl, hp, HR.out, rfl⟩
  case round =>
    obtain ⟨k, rfl, hk, hr, rfl⟩ := hrel
    have HB := Lib.hid hr
    clear hr
    by_cases h1 : k < s.size
    · have HX := Lib.hid (HSG.out k h1)
      have hbl := blank_is s[k]
      by_cases hc : isBlank s[k] = true
      · have HN := Lib.hid (show ws false (L.drop k) = 1 + ws false (L.drop (k + 1)) by rw [ws_at HX.out]; simp [ws, hc])
        rw [hc] at hbl
        clear hc
        cases b1 : ((s[k].toNat : Int) == 32)
        · cases b2 : ((s[k].toNat : Int) == 9)
          · cases b3 : ((s[k].toNat : Int) == 10)
            · cases b4 : ((s[k].toNat : Int) == 13)
              · rw [b1, b2, b3, b4] at hbl; simp at hbl
              · clear hbl
                go_wp2
                exact ⟨⟨k + 1, by go_num, by omega, by rw [HB.out, HN.out]; omega, by first | rfl | trivial⟩, by simp [intOf]; omega⟩
            · clear hbl
              go_wp2
              exact ⟨⟨k + 1, by go_num, by omega, by rw [HB.out, HN.out]; omega, by first | rfl | trivial⟩, by simp [intOf]; omega⟩
          · clear hbl
            go_wp2
            exact ⟨⟨k + 1, by go_num, by omega, by rw [HB.out, HN.out]; omega, by first | rfl | trivial⟩, by simp [intOf]; omega⟩
        · clear hbl
          go_wp2
          exact ⟨⟨k + 1, by go_num, by omega, by rw [HB.out, HN.out]; omega, by first | rfl | trivial⟩, by simp [intOf]; omega⟩
      · have hc : isBlank s[k] = false := by simpa using hc
        have HC := Lib.hid hc
        rw [hc] at hbl
        obtain ⟨⟨⟨b1, b2⟩, b3⟩, b4⟩ : (((((s[k].toNat : Int) == 32) = false ∧ ((s[k].toNat : Int) == 9) = false) ∧ ((s[k].toNat : Int) == 10) = false) ∧ ((s[k].toNat : Int) == 13) = false) := by
          have := hbl.symm
          simpa only [Bool.or_eq_false_iff] using this
        have B3 := Lib.hid b3
        clear hbl hc
        by_cases h2 : k + 1 < s.size
        · have HY := Lib.hid (HSG.out (k + 1) h2)
          have d1 : decide ((s.size : Int) ≤ (k : Int) + 1) = false := by simp; omega
          cases b5 : ((s[k].toNat : Int) != 47)
          · have e47 := u8_eq s[k] 47 (by decide)
            have E47 : s[k] = 47 := by
              have h : ((s[k].toNat : Int) == 47) = true := by
                rw [bne_eq_false_iff_eq] at b5
                rw [beq_iff_eq]; exact b5
              simp only [Int.cast_ofNat_Int] at e47
              rw [h] at e47
              exact beq_iff_eq.1 e47.symm
            have H47 := Lib.hid E47
            clear e47 E47
            cases b6 : ((s[k + 1].toNat : Int) != 47)
            · have E48 : s[k + 1] = 47 := by
                have e47 := u8_eq s[k + 1] 47 (by decide)
                have h : ((s[k + 1].toNat : Int) == 47) = true := by
                  rw [bne_eq_false_iff_eq] at b6
                  rw [beq_iff_eq]; exact b6
                simp only [Int.cast_ofNat_Int] at e47
                rw [h] at e47
                exact beq_iff_eq.1 e47.symm
              have HN := Lib.hid (show ws false (L.drop k) = ws true (L.drop k) from ws_comment (by rw [ws_at HX.out, ws_at HY.out, H47.out, E48]; rfl))
              clear E48
              go_wp2
              go_loopw [1] (fun i wr => ∃ j : Nat, i = .int .i64 j ∧ k ≤ j ∧ j ≤ s.size ∧ R = j + ws true (L.drop j) ∧ w = wr) (fun i _ => s.size - (intOf i).toNat)
              case atStart => exact ⟨k, rfl, by omega, by omega, by rw [HB.out, HN.out], by first | rfl | trivial⟩
              case round =>
                obtain ⟨j, rfl, hkj, hj, hr, rfl⟩ := hrel
                have HJ := Lib.hid hr
                clear hr
                by_cases g1 : j < s.size
                · have HZ := Lib.hid (HSG.out j g1)
                  cases b7 : ((s[j].toNat : Int) != 10)
                  · have E10 : s[j] = 10 := by
                      have e47 := u8_eq s[j] 10 (by decide)
                      have h : ((s[j].toNat : Int) == 10) = true := by
                        rw [bne_eq_false_iff_eq] at b7
                        rw [beq_iff_eq]; exact b7
                      simp only [Int.cast_ofNat_Int] at e47
                      rw [h] at e47
                      exact beq_iff_eq.1 e47.symm
                    have hlt : k < j := by
                      rcases Nat.lt_or_ge k j with h | h
                      · exact h
                      · exfalso
                        obtain rfl : j = k := by omega
                        rw [H47.out] at E10
                        exact absurd E10 (by decide)
                    have HN2 := Lib.hid (show ws true (L.drop j) = ws false (L.drop j) by rw [ws_at HZ.out, E10]; simp [ws, isBlank])
                    clear E10
                    go_wp2
                    exact ⟨⟨j, rfl, by omega, by rw [HJ.out, HN2.out], by first | rfl | trivial⟩, by simp [intOf]; omega⟩
                  · have HN2 := Lib.hid (show ws true (L.drop j) = 1 + ws true (L.drop (j + 1)) by
                      have hne : (s[j] != 10) = true := by
                        rw [bne_iff_ne] at b7 ⊢
                        intro h; rw [h] at b7; exact b7 rfl
                      rw [ws_at HZ.out]; simp only [ws, hne])
                    go_wp2
                    exact ⟨⟨j + 1, by go_num, by omega, by omega, by rw [HJ.out, HN2.out]; omega, by first | rfl | trivial⟩, by simp [intOf]; omega⟩
                · have HN2 := Lib.hid (show ws true (L.drop j) = ws false (L.drop j) by rw [List.drop_of_length_le (by rw [HSL.out]; omega)]; simp [ws])
                  go_wp2
                  exact ⟨⟨j, rfl, by omega, by rw [HJ.out, HN2.out], by first | rfl | trivial⟩, by simp [intOf]; omega⟩
            · have HN := Lib.hid (show ws false (L.drop k) = 0 by
                have hne : (s[k + 1] == 47) = false := by
                  rw [beq_eq_false_iff_ne]
                  intro h; rw [h] at b6; exact absurd b6 (by decide)
                rw [ws_at HX.out, ws_at HY.out]
                simp only [ws, HC.out, List.head?_cons, Option.some_beq_some, hne, Bool.and_false, Bool.false_eq_true, if_false])
              go_wp2
              go_ret
              exact ⟨ret_int (by rw [HB.out, HN.out]; simp), by first | rfl | trivial⟩
          · have HN := Lib.hid (show ws false (L.drop k) = 0 by
              have hne : (s[k] == 47) = false := by
                rw [beq_eq_false_iff_ne]
                intro h; rw [h] at b5; exact absurd b5 (by decide)
              rw [ws_at HX.out]
              simp only [ws, HC.out, hne, Bool.false_and, Bool.false_eq_true, if_false])
            go_wp2
            go_ret
            exact ⟨ret_int (by rw [HB.out, HN.out]; simp), by first | rfl | trivial⟩
        · have d1 : decide ((s.size : Int) ≤ (k : Int) + 1) = true := by simp; omega
          have HN := Lib.hid (show ws false (L.drop k) = 0 by
            rw [ws_at HX.out, List.drop_of_length_le (by rw [HSL.out]; omega)]
            simp [ws, HC.out])
          go_wp2
          go_ret
          exact ⟨ret_int (by rw [HB.out, HN.out]; simp), by first | rfl | trivial⟩
    · have HN := Lib.hid (show ws false (L.drop k) = 0 by rw [List.drop_of_length_le (by rw [HSL.out]; omega)]; simp [ws])
      go_wp2
      go_ret
      exact ⟨ret_int (by rw [HB.out, HN.out]; simp), by first | rfl | trivial⟩
end Go.Proofs.YtceomdbahiimlaaDoor
