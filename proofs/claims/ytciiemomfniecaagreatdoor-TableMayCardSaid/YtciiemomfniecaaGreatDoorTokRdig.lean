/-
  Blanks, signs, halves of bytes and digits, by the document's own functions: their contracts.
-/
import Derived.Test.YtciiemomfniecaaGreatDoorTokSmall
namespace Go.Proofs.YtciiemomfniecaaGreatDoor
set_option maxRecDepth 100000

open Go.RowKit

def hexI (c : UInt8) : Int := match hexv c with | some a => (a : Int) | none => -1
theorem rhex_any (c : UInt8) (w : World) : Calls Tryz.prog 182 #[.int .u8 (c.toNat : Int)] w fun e w' => e = .returned (.int .i64 (hexI c)) ∧ w = w' := by
  by_cases hd : isDigit c = true
  · have hR : hexI c = ((c.toNat - 48 : Nat) : Int) := by simp [hexI, hexv, hd]
    rw [hR]
    have hd2 := hd
    simp only [isDigit, Bool.and_eq_true, decide_eq_true_eq] at hd2
    go_enter Tryz.func182, Tryz.ntmps182
    go_wp2_with fail
    refine (digit_any c _).mono ?_
    rintro e w' ⟨rfl, rfl⟩
    rw [hd]
    have e1 : IntKind.i64.wrap (IntKind.u8.wrap ((c.toNat : Int) - 48)) = ((c.toNat - 48 : Nat) : Int) := by simp [IntKind.wrap, IntKind.signed, IntKind.bits]; omega
    clear hd
    go_wp2
    go_ret
    exact ⟨ret_int (by first | rfl | assumption | omega), by first | rfl | trivial⟩
  · have hd : isDigit c = false := by simpa using hd
    by_cases h2 : 97 ≤ c.toNat ∧ c.toNat ≤ 102
    · have hR : hexI c = ((c.toNat - 87 : Nat) : Int) := by simp [hexI, hexv, hd, h2.1, h2.2]
      rw [hR]
      obtain ⟨h3, h4⟩ := h2
      have d1 : decide (97 ≤ (c.toNat : Int)) = true := by simp; omega
      have d2 : decide ((c.toNat : Int) ≤ 102) = true := by simp; omega
      have e1 : IntKind.i64.wrap (IntKind.i64.wrap (IntKind.u8.wrap ((c.toNat : Int) - 97)) + 10) = ((c.toNat - 87 : Nat) : Int) := by simp [IntKind.wrap, IntKind.signed, IntKind.bits]; omega
      go_enter Tryz.func182, Tryz.ntmps182
      go_wp2_with fail
      refine (digit_any c _).mono ?_
      rintro e w' ⟨rfl, rfl⟩
      rw [hd]
      clear hd
      go_wp2
      go_ret
      exact ⟨ret_int (by first | rfl | assumption | omega), by first | rfl | trivial⟩
    · have hR : hexI c = -1 := by
        have : (decide (97 ≤ c.toNat) && decide (c.toNat ≤ 102)) = false := by rw [Bool.and_eq_false_iff, decide_eq_false_iff_not, decide_eq_false_iff_not]; omega
        simp only [hexI, hexv, hd, this, Bool.false_eq_true, if_false]
      rw [hR]
      go_enter Tryz.func182, Tryz.ntmps182
      go_wp2_with fail
      refine (digit_any c _).mono ?_
      rintro e w' ⟨rfl, rfl⟩
      rw [hd]
      clear hd
      go_wp2
      all_goals first
        | (go_ret; exact ⟨rfl, by first | rfl | trivial⟩)
        | (exfalso; omega)

def signS : ByteArray := ⟨#[123, 125, 40, 41, 91, 93, 60, 62, 61, 59, 44, 46]⟩
theorem sign_list (c : UInt8) : isSign c = signS.data.toList.contains c := rfl
theorem contains_no {l : List UInt8} {c : UInt8} {k : Nat} (hk : l.length ≤ k) (h : ∀ j, j < k → ∀ d, l[j]? = some d → d ≠ c) : l.contains c = false := by
  rw [Bool.eq_false_iff]
  intro h2
  rw [List.contains_iff_mem] at h2
  obtain ⟨j, hj, e⟩ := List.getElem_of_mem h2
  exact h j (by omega) c (by rw [List.getElem?_eq_getElem hj, e]) rfl
set_option maxRecDepth 1000000 in
theorem signed_any (c : UInt8) (w : World) : Calls Tryz.prog 161 #[.int .u8 (c.toNat : Int)] w fun e w' => e = .returned (.bool (isSign c)) ∧ Below w.heap.size w w' := by
  obtain ⟨s, hs⟩ : ∃ s, s = signS := ⟨_, rfl⟩
  have hsl : s.size = 12 := by rw [hs]; rfl
  have HSG := Lib.hid (at_list s)
  have hsn : isSign c = s.data.toList.contains c := by rw [hs]; rfl
  have hll : s.data.toList.length = s.size := by simp
  rw [hsn]
  generalize s.data.toList = L at *
  have HLL := Lib.hid hll
  clear hll hsn
  have hs' : (⟨#[123, 125, 40, 41, 91, 93, 60, 62, 61, 59, 44, 46]⟩ : ByteArray) = s := hs.symm
  clear hs
  go_enter Tryz.func161, Tryz.ntmps161
  simp only [hs']
  go_wp2
  go_loopw [4] (fun i wr => ∃ k d : Nat, i = .int .i64 k ∧ k ≤ 12 ∧ (∀ j, j < k → ∀ x, L[j]? = some x → x ≠ c) ∧ wr = w.drewN d) (fun i _ => 12 - (intOf i).toNat)
  case atStart => exact ⟨0, 0, rfl, by omega, fun j hj => by omega, rfl⟩
  case round =>
    obtain ⟨k, d, rfl, hk, hno, rfl⟩ := hrel
    have HNO := Lib.hid hno
    clear hno
    by_cases h1 : k < 12
    · have h1' : k < s.size := by omega
      have HX := Lib.hid (HSG.out k h1')
      by_cases he : s[k] = c
      · have b1 : (((s[k]).toNat : Int) == (c.toNat : Int)) = true := by rw [he]; simp
        have HC := Lib.hid (show L.contains c = true by rw [List.contains_iff_mem]; exact List.mem_of_getElem? (by rw [← he]; exact HX.out))
        clear he
        go_wp2
        go_ret
        exact ⟨ret_bool HC.out.symm, (by repeat (first | exact Below.refl _ _ | assumption | refine below_draws ?_ _ | refine Below.drew ?_))⟩
      · have b1 : (((s[k]).toNat : Int) == (c.toNat : Int)) = false := by
          rw [beq_eq_false_iff_ne]
          intro h
          exact he (UInt8.toNat_inj.1 (by omega))
        have HE := Lib.hid he
        clear he
        go_wp2
        refine ⟨⟨k + 1, d, by go_num, by omega, ?_, rfl⟩, by simp [intOf]; omega⟩
        intro j hj x hx
        by_cases hjk : j = k
        · subst hjk; rw [HX.out] at hx; injection hx with hx; rw [← hx]; exact HE.out
        · exact HNO.out j (by omega) x hx
    · have HC := Lib.hid (contains_no (by rw [HLL.out]; omega) HNO.out)
      go_wp2
      go_ret
      exact ⟨ret_bool HC.out.symm, (by repeat (first | exact Below.refl _ _ | assumption | refine below_draws ?_ _ | refine Below.drew ?_))⟩

theorem ws_at {l : List UInt8} {k : Nat} {c : UInt8} (hc : l[k]? = some c) : l.drop k = c :: l.drop (k + 1) := by
  obtain ⟨h, e⟩ := List.getElem?_eq_some_iff.1 hc
  rw [List.drop_eq_getElem_cons h, e]
theorem head_drop {l : List UInt8} {k : Nat} : (l.drop k).head? = l[k]? := by rw [List.head?_drop]
theorem blank_is (c : UInt8) : isBlank c = ((c.toNat : Int) == 32 || (c.toNat : Int) == 9 || (c.toNat : Int) == 10 || (c.toNat : Int) == 13) := by
  have e1 := u8_eq c 32 (by decide)
  have e2 := u8_eq c 9 (by decide)
  have e3 := u8_eq c 10 (by decide)
  have e4 := u8_eq c 13 (by decide)
  simp only [Int.cast_ofNat_Int] at e1 e2 e3 e4
  rw [e1, e2, e3, e4]; rfl
set_option maxRecDepth 1000000 in
theorem blank_any (s : ByteArray) (hs : s.size ≤ 1000000) (p : Nat) (hp : p ≤ s.size) (w : World) :
    Calls Tryz.prog 123 #[.string s, .int .i64 p] w fun e w' => e = .returned (.int .i64 ((p + ws false (s.data.toList.drop p) : Nat) : Int)) ∧ w = w' := by
  have hsl : s.data.toList.length = s.size := by simp
  have hsg := at_list s
  generalize s.data.toList = L at *
  have HSL := Lib.hid hsl
  have HSG := Lib.hid hsg
  clear hsl hsg
  obtain ⟨R, hR⟩ : ∃ R, R = p + ws false (L.drop p) := ⟨_, rfl⟩
  rw [← hR]
  have HR := Lib.hid hR
  clear hR
  go_enter Tryz.func123, Tryz.ntmps123
  go_wp2_with fail
  go_loopw [1] (fun i wr => ∃ k : Nat, i = .int .i64 k ∧ k ≤ s.size ∧ R = k + ws false (L.drop k) ∧ w = wr) (fun i _ => s.size - (intOf i).toNat)
  case atStart => exact ⟨p, rfl, hp, HR.out, rfl⟩
  case round =>
    obtain ⟨k, rfl, hk, hr, rfl⟩ := hrel
    have HB := Lib.hid hr
    clear hr
    by_cases h1 : k < s.size
    · have HX := Lib.hid (HSG.out k h1)
      have hbl := blank_is s[k]
      by_cases hc : isBlank s[k] = true
      · have HN := Lib.hid (show ws false (L.drop k) = 1 + ws false (L.drop (k + 1)) by rw [ws_at HX.out]; simp [ws, hc])
        rw [hc] at hbl
        clear hc
        cases b1 : ((s[k].toNat : Int) == 32)
        · cases b2 : ((s[k].toNat : Int) == 9)
          · cases b3 : ((s[k].toNat : Int) == 10)
            · cases b4 : ((s[k].toNat : Int) == 13)
              · rw [b1, b2, b3, b4] at hbl; simp at hbl
              · clear hbl
                go_wp2
                exact ⟨⟨k + 1, by go_num, by omega, by rw [HB.out, HN.out]; omega, by first | rfl | trivial⟩, by simp [intOf]; omega⟩
            · clear hbl
              go_wp2
              exact ⟨⟨k + 1, by go_num, by omega, by rw [HB.out, HN.out]; omega, by first | rfl | trivial⟩, by simp [intOf]; omega⟩
          · clear hbl
            go_wp2
            exact ⟨⟨k + 1, by go_num, by omega, by rw [HB.out, HN.out]; omega, by first | rfl | trivial⟩, by simp [intOf]; omega⟩
        · clear hbl
          go_wp2
          exact ⟨⟨k + 1, by go_num, by omega, by rw [HB.out, HN.out]; omega, by first | rfl | trivial⟩, by simp [intOf]; omega⟩
      · have hc : isBlank s[k] = false := by simpa using hc
        have HC := Lib.hid hc
        rw [hc] at hbl
        obtain ⟨⟨⟨b1, b2⟩, b3⟩, b4⟩ : (((((s[k].toNat : Int) == 32) = false ∧ ((s[k].toNat : Int) == 9) = false) ∧ ((s[k].toNat : Int) == 10) = false) ∧ ((s[k].toNat : Int) == 13) = false) := by
          have := hbl.symm
          simpa only [Bool.or_eq_false_iff] using this
        have B3 := Lib.hid b3
        clear hbl hc
        by_cases h2 : k + 1 < s.size
        · have HY := Lib.hid (HSG.out (k + 1) h2)
          have d1 : decide ((s.size : Int) ≤ (k : Int) + 1) = false := by simp; omega
          cases b5 : ((s[k].toNat : Int) != 47)
          · have e47 := u8_eq s[k] 47 (by decide)
            have E47 : s[k] = 47 := by
              have h : ((s[k].toNat : Int) == 47) = true := by
                rw [bne_eq_false_iff_eq] at b5
                rw [beq_iff_eq]; exact b5
              simp only [Int.cast_ofNat_Int] at e47
              rw [h] at e47
              exact beq_iff_eq.1 e47.symm
            have H47 := Lib.hid E47
            clear e47 E47
            cases b6 : ((s[k + 1].toNat : Int) != 47)
            · have E48 : s[k + 1] = 47 := by
                have e47 := u8_eq s[k + 1] 47 (by decide)
                have h : ((s[k + 1].toNat : Int) == 47) = true := by
                  rw [bne_eq_false_iff_eq] at b6
                  rw [beq_iff_eq]; exact b6
                simp only [Int.cast_ofNat_Int] at e47
                rw [h] at e47
                exact beq_iff_eq.1 e47.symm
              have HN := Lib.hid (show ws false (L.drop k) = ws true (L.drop k) from ws_comment (by rw [ws_at HX.out, ws_at HY.out, H47.out, E48]; rfl))
              clear E48
              go_wp2
              go_loopw [1] (fun i wr => ∃ j : Nat, i = .int .i64 j ∧ k ≤ j ∧ j ≤ s.size ∧ R = j + ws true (L.drop j) ∧ w = wr) (fun i _ => s.size - (intOf i).toNat)
              case atStart => exact ⟨k, rfl, by omega, by omega, by rw [HB.out, HN.out], by first | rfl | trivial⟩
              case round =>
                obtain ⟨j, rfl, hkj, hj, hr, rfl⟩ := hrel
                have HJ := Lib.hid hr
                clear hr
                by_cases g1 : j < s.size
                · have HZ := Lib.hid (HSG.out j g1)
                  cases b7 : ((s[j].toNat : Int) != 10)
                  · have E10 : s[j] = 10 := by
                      have e47 := u8_eq s[j] 10 (by decide)
                      have h : ((s[j].toNat : Int) == 10) = true := by
                        rw [bne_eq_false_iff_eq] at b7
                        rw [beq_iff_eq]; exact b7
                      simp only [Int.cast_ofNat_Int] at e47
                      rw [h] at e47
                      exact beq_iff_eq.1 e47.symm
                    have hlt : k < j := by
                      rcases Nat.lt_or_ge k j with h | h
                      · exact h
                      · exfalso
                        obtain rfl : j = k := by omega
                        rw [H47.out] at E10
                        exact absurd E10 (by decide)
                    have HN2 := Lib.hid (show ws true (L.drop j) = ws false (L.drop j) by rw [ws_at HZ.out, E10]; simp [ws, isBlank])
                    clear E10
                    go_wp2
                    exact ⟨⟨j, rfl, by omega, by rw [HJ.out, HN2.out], by first | rfl | trivial⟩, by simp [intOf]; omega⟩
                  · have HN2 := Lib.hid (show ws true (L.drop j) = 1 + ws true (L.drop (j + 1)) by
                      have hne : (s[j] != 10) = true := by
                        rw [bne_iff_ne] at b7 ⊢
                        intro h; rw [h] at b7; exact b7 rfl
                      rw [ws_at HZ.out]; simp only [ws, hne])
                    go_wp2
                    exact ⟨⟨j + 1, by go_num, by omega, by omega, by rw [HJ.out, HN2.out]; omega, by first | rfl | trivial⟩, by simp [intOf]; omega⟩
                · have HN2 := Lib.hid (show ws true (L.drop j) = ws false (L.drop j) by rw [List.drop_of_length_le (by rw [HSL.out]; omega)]; simp [ws])
                  go_wp2
                  exact ⟨⟨j, rfl, by omega, by rw [HJ.out, HN2.out], by first | rfl | trivial⟩, by simp [intOf]; omega⟩
            · have HN := Lib.hid (show ws false (L.drop k) = 0 by
                have hne : (s[k + 1] == 47) = false := by
                  rw [beq_eq_false_iff_ne]
                  intro h; rw [h] at b6; exact absurd b6 (by decide)
                rw [ws_at HX.out, ws_at HY.out]
                simp only [ws, HC.out, List.head?_cons, Option.some_beq_some, hne, Bool.and_false, Bool.false_eq_true, if_false])
              go_wp2
              go_ret
              exact ⟨ret_int (by rw [HB.out, HN.out]; simp), by first | rfl | trivial⟩
          · have HN := Lib.hid (show ws false (L.drop k) = 0 by
              have hne : (s[k] == 47) = false := by
                rw [beq_eq_false_iff_ne]
                intro h; rw [h] at b5; exact absurd b5 (by decide)
              rw [ws_at HX.out]
              simp only [ws, HC.out, hne, Bool.false_and, Bool.false_eq_true, if_false])
            go_wp2
            go_ret
            exact ⟨ret_int (by rw [HB.out, HN.out]; simp), by first | rfl | trivial⟩
        · have d1 : decide ((s.size : Int) ≤ (k : Int) + 1) = true := by simp; omega
          have HN := Lib.hid (show ws false (L.drop k) = 0 by
            rw [ws_at HX.out, List.drop_of_length_le (by rw [HSL.out]; omega)]
            simp [ws, HC.out])
          go_wp2
          go_ret
          exact ⟨ret_int (by rw [HB.out, HN.out]; simp), by first | rfl | trivial⟩
    · have HN := Lib.hid (show ws false (L.drop k) = 0 by rw [List.drop_of_length_le (by rw [HSL.out]; omega)]; simp [ws])
      go_wp2
      go_ret
      exact ⟨ret_int (by rw [HB.out, HN.out]; simp), by first | rfl | trivial⟩
end Go.Proofs.YtciiemomfniecaaGreatDoor
/-
  A number's digits, and the number of digits, by the document's own functions: their contracts.
-/
namespace Go.Proofs.YtciiemomfniecaaGreatDoor
set_option maxRecDepth 100000

open Go.RowKit

theorem txt_app (a b : List UInt8) : txt a ++ txt b = txt (a ++ b) := by
  apply ByteArray.ext
  apply Array.toList_inj.1
  simp [txt]
/-- The digit of a number below 10. -/
def dig (k : Nat) : UInt8 := UInt8.ofNat (48 + k)
def tenS : ByteArray := ⟨#[48, 49, 50, 51, 52, 53, 54, 55, 56, 57]⟩
theorem dec_small {u : Nat} (h : u ≤ 9223372036854775808) : (txt (Lib.decDigits u)).size ≤ 19 := by
  have h3 := nDigits_le 18 u (by have : (10 : Nat) ^ (18 + 1) = 10000000000000000000 := by decide
                                 omega)
  rw [txt_size, Lib.decDigits_length]; omega
theorem ten_part (k : Nat) (h : k < 10) : tenS.extract k (k + 1) = txt [dig k] := by
  have : k = 0 ∨ k = 1 ∨ k = 2 ∨ k = 3 ∨ k = 4 ∨ k = 5 ∨ k = 6 ∨ k = 7 ∨ k = 8 ∨ k = 9 := by omega
  rcases this with rfl | rfl | rfl | rfl | rfl | rfl | rfl | rfl | rfl | rfl <;> rfl
theorem ten_at (k : Nat) (h : k < 10) (w : World) : (Instr.slice 9 (.string ⟨#[48, 49, 50, 51, 52, 53, 54, 55, 56, 57]⟩) (some (.int .i64 k)) (some (.int .i64 ((k : Int) + 1))) none).run Tryz.prog w = .ok (.string (txt [dig k])) w := by
  have hr := run_slice_string (P := Tryz.prog) (w := w) (t := 9) (s := tenS) (i := (k : Int)) (j := (k : Int) + 1) (k := .i64) (k' := .i64) Tryz.underlying9 (by omega) (by omega) (by show (k : Int) + 1 ≤ 10; omega)
  have e1 : ((k : Int) + 1).toNat = k + 1 := by omega
  rw [Int.toNat_natCast, e1, ten_part k h] at hr
  exact hr

set_option maxRecDepth 1000000 in
theorem rdig_nat : ∀ (n : Nat), n ≤ 9223372036854775807 → ∀ w, Calls Tryz.prog 181 #[.int .i64 (n : Int)] w fun e w' => e = .returned (.string (txt (Lib.decDigits n))) ∧ Below w.heap.size w w' := by
  intro n
  induction n using Nat.strongRecOn with
  | _ n ih =>
  intro hn w
  have hm : n % 10 < 10 := Nat.mod_lt _ (by decide)
  have ht := ten_at (n % 10) hm
  have b0 : decide ((n : Int) < 0) = false := by simp
  have e1 : Int.tmod (n : Int) 10 = ((n % 10 : Nat) : Int) := by rw [Int.tmod_eq_emod_of_nonneg (by omega)]; omega
  by_cases h : n < 10
  · have b1 : decide ((n : Int) < 10) = true := by simp; omega
    have HD : Hid (Lib.decDigits n = [dig n]) := Lib.hid (Lib.decDigits_one h)
    have hmod : n % 10 = n := by omega
    rw [hmod] at ht e1
    clear ih
    go_enter Tryz.func181, Tryz.ntmps181
    go_wp2_with fail
    go_ret
    exact ⟨by rw [HD.out]; rfl, by first | exact Below.refl _ _ | trivial⟩
  · have b1 : decide ((n : Int) < 10) = false := by simp; omega
    have HD : Hid (Lib.decDigits n = Lib.decDigits (n / 10) ++ [dig (n % 10)]) := Lib.hid (dec_step h)
    have IH := Lib.hid (ih (n / 10) (by omega) (by omega))
    have e2 : Int.tdiv (n : Int) 10 = ((n / 10 : Nat) : Int) := by rw [Int.tdiv_eq_ediv_of_nonneg (by omega)]; omega
    clear ih
    have hqb : n / 10 ≤ 922337203685477580 := by omega
    generalize hq : n / 10 = q at *
    generalize hr : n % 10 = r at *
    clear hq hr
    have hxs := dec_small (u := q) (by omega)
    have hys := txt_size [dig r]
    simp only [List.length_cons, List.length_nil] at hys
    generalize hX : txt (Lib.decDigits q) = X at *
    generalize hY : txt [dig r] = Y at *
    have HX := Lib.hid hX
    have HY := Lib.hid hY
    clear hX hY
    go_enter Tryz.func181, Tryz.ntmps181
    go_wp2_with fail
    refine (IH.out _).mono ?_
    try rw [HX.out]
    rintro e w1 ⟨rfl, hb⟩
    go_wp2
    go_ret
    exact ⟨congrArg (fun x => Ending.returned (Value.string x)) (by rw [HD.out, ← HX.out, ← HY.out, txt_app]), hb⟩

theorem itoa_min : Lib.itoa (-9223372036854775808) = [45, 57, 50, 50, 51, 51, 55, 50, 48, 51, 54, 56, 53, 52, 55, 55, 53, 56, 48, 56] := by
  have h : ∀ n : Nat, Lib.decDigits n = if n < 10 then [UInt8.ofNat (48 + n)] else Lib.decDigits (n / 10) ++ [UInt8.ofNat (48 + n % 10)] := fun n => by
    by_cases h : n < 10
    · rw [if_pos h, Lib.decDigits_one h]
    · rw [if_neg h, dec_step h]
  rw [itoa_neg _ (by decide), show (-9223372036854775808 : Int).natAbs = 9223372036854775808 from rfl]
  iterate 18 rw [h, if_neg (by decide)]
  rw [h, if_pos (by decide)]
  decide +kernel
set_option maxRecDepth 1000000 in
theorem rdig_any (n : Int) (h0 : -9223372036854775808 ≤ n) (h1 : n ≤ 9223372036854775807) (w : World) :
    Calls Tryz.prog 181 #[.int .i64 n] w fun e w' => e = .returned (.string (txt (Lib.itoa n))) ∧ Below w.heap.size w w' := by
  by_cases hn : n < 0
  · by_cases hm : n = -9223372036854775808
    · subst hm
      have HD := Lib.hid itoa_min
      go_enter Tryz.func181, Tryz.ntmps181
      go_wp2_with fail
      go_ret
      exact ⟨by rw [HD.out]; rfl, by first | exact Below.refl _ _ | trivial⟩
    · obtain ⟨m, rfl⟩ : ∃ m : Nat, n = -(m : Int) := ⟨n.natAbs, by omega⟩
      have HD : Hid (Lib.itoa (-(m : Int)) = 45 :: Lib.decDigits m) := Lib.hid (by rw [itoa_neg _ hn]; simp)
      have b0 : decide (-(m : Int) < 0) = true := by simp; omega
      have b1 : (-(m : Int) == -9223372036854775808) = false := by rw [beq_eq_false_iff_ne]; exact hm
      have e1 : IntKind.i64.wrap (- -(m : Int)) = (m : Int) := by simp [IntKind.wrap, IntKind.signed, IntKind.bits]; split <;> omega
      have IH := Lib.hid (rdig_nat m (by omega))
      have hmb : m ≤ 9223372036854775807 := by omega
      have hm0 : 0 < m := by omega
      have e2 : (- -(m : Int)) = (m : Int) := by omega
      clear hn hm h0 h1 e1
      have hxs := dec_small (u := m) (by omega)
      generalize hX : txt (Lib.decDigits m) = X at *
      generalize hY : txt (Lib.itoa (-(m : Int))) = Y at *
      have HX := Lib.hid hX
      have HY := Lib.hid hY
      clear hX hY
      go_enter Tryz.func181, Tryz.ntmps181
      go_wp2_with fail
      refine (IH.out _).mono ?_
      try rw [HX.out]
      rintro e w1 ⟨rfl, hb⟩
      go_wp2
      go_ret
      exact ⟨congrArg (fun x => Ending.returned (Value.string x)) (by rw [← HY.out, HD.out, ← HX.out]; exact txt_app [45] (Lib.decDigits m)), hb⟩
  · obtain ⟨m, rfl⟩ : ∃ m : Nat, n = (m : Int) := ⟨n.toNat, by omega⟩
    rw [itoa_nonneg _ (by omega)]
    simp only [Int.toNat_natCast]
    exact rdig_nat m (by omega) w
end Go.Proofs.YtciiemomfniecaaGreatDoor
