/-
  The document's answers for signs, and both answers for which text is less: the contracts; the chapter's example.
-/
import Derived.Test.YtiojpbmjciakeaaUtfRsign
namespace Go.Proofs.Ytiojpbmjciakeaa
open Go.RowKit

theorem first_end {l : List UInt8} (h : l.length = 0) : first l = 0 := by rw [List.eq_nil_of_length_eq_zero h]; exact first_nil
set_option maxRecDepth 1000000 in
theorem rfirst_any (A : Option Addr) (c : Nat) (l : List UInt8) (hl : l.length ≤ 100000) (w : World) (hr : SlB w A c l) :
    Calls Try.prog 12 #[.slice A l.length c] w fun e w' => e = .returned (.int .i64 (first l)) ∧ w = w' := by
  go_enter Try.func12, Try.ntmps12
  go_wp2
  go_loop [3] (fun i => ∃ k : Nat, i = .int .i64 k ∧ k ≤ l.length ∧ first l = k + first (l.drop k)) (fun i => l.length - (intOf i).toNat)
  case atStart => exact ⟨0, rfl, by omega, by simp⟩
  case round =>
    obtain ⟨k, rfl, hk, hf⟩ := hrel
    have HF := Lib.hid hf
    clear hf
    by_cases hlt : k < l.length
    · have hle := sgn_le (l.drop k)
      have hll : (l.drop k).length = l.length - k := List.length_drop
      obtain ⟨n, hn⟩ : ∃ n, n = sgn (l.drop k) := ⟨_, rfl⟩
      have HN := Lib.hid hn
      rw [← hn] at hle
      have hnl : k + n ≤ l.length := by omega
      have H := Lib.hid (rsign_any A c l hl k hlt w hr)
      clear hn hle hll
      by_cases hz : (n : Int) = 0
      · have HE := Lib.hid (HF.out.trans (by rw [first_none (by rw [← HN.out]; omega), Nat.add_zero] : _ = k))
        go_wp2_with fail
        refine (H.out).mono ?_
        rw [← HN.out]
        rintro e w1 ⟨rfl, rfl⟩
        go_wp2
        go_ret
        exact ⟨ret_int (by rw [HE.out]), rfl⟩
      · have HE := Lib.hid (HF.out.trans (by rw [first_some (by rw [← HN.out]; omega), ← HN.out, List.drop_drop, ← Nat.add_assoc] : _ = k + n + first (l.drop (k + n))))
        have b1 : ((n : Int) == 0) = false := by rw [beq_eq_false_iff_ne]; omega
        have hz : (0 : Int) < n := by omega
        go_wp2_with fail
        refine (H.out).mono ?_
        rw [← HN.out]
        rintro e w1 ⟨rfl, rfl⟩
        go_wp2
        refine ⟨⟨k + n, by go_num, by omega, HE.out⟩, by simp [intOf]; omega⟩
    · have HE := Lib.hid (HF.out.trans (by rw [first_end (by rw [List.length_drop]; omega), Nat.add_zero] : _ = k))
      go_wp2
      go_ret
      exact ⟨ret_int (by rw [HE.out]), rfl⟩

set_option maxRecDepth 1000000 in
theorem rfine_any (A : Option Addr) (c : Nat) (l : List UInt8) (hl : l.length ≤ 100000) (a u : Int) (w : World) (hr : SlB w A c l) :
    Calls Try.prog 10 #[.slice A l.length c, .int .i64 a, .int .i64 u] w fun e w' => e = .returned (.bool (fineB l a u)) ∧ w = w' := by
  by_cases h0 : 0 ≤ a
  · by_cases h1 : a ≤ u
    · by_cases h2 : u ≤ l.length
      · obtain ⟨i, rfl⟩ := Int.eq_ofNat_of_zero_le h0
        obtain ⟨j, rfl⟩ := Int.eq_ofNat_of_zero_le (by omega : 0 ≤ u)
        have hij : i ≤ j := by omega
        have hj : j ≤ l.length := by omega
        have hjc : j ≤ c := by have := hr.le; omega
        have hlen : ((l.drop i).take (j - i)).length = j - i := by rw [List.length_take, List.length_drop]; omega
        have d0 : decide ((i : Int) < 0) = false := by simp
        have d1 : decide (j < i) = false := by simp; omega
        have d2 : decide (l.length < j) = false := by simp; omega
        have hp := Sl.part hr hij hj
        rw [bs_part] at hp
        have HF := Lib.hid (fine_eq l i j hij hj)
        generalize (l.drop i).take (j - i) = m at *
        have HL := Lib.hid hlen
        have hm : m.length ≤ 100000 := by omega
        clear hlen h0 h1 h2
        by_cases hci : i = c
        · rw [if_pos hci] at hp
          have hp : SlB w A (c - i) m := by unfold SlB; rw [HL.out]; exact hp
          have H := rfirst_any A (c - i) m hm w hp
          rw [HL.out] at H
          have := hr.le
          obtain rfl : j = i := by omega
          rw [← hci, Nat.sub_self] at H
          have HH := Lib.hid H
          have HC := Lib.hid hci
          clear hci H
          go_enter Try.func10, Try.ntmps10
          go_wp2_with fail
          · refine (HH.out).mono ?_
            rintro e w1 ⟨rfl, rfl⟩
            go_wp2
            go_ret
            exact ⟨ret_bool (by rw [HF.out]; simp), rfl⟩
          · exfalso
            rename_i h
            exact h HC.out.symm
        · rw [if_neg hci] at hp
          have hp : SlB w (A.map (·.add i)) (c - i) m := by unfold SlB; rw [HL.out]; exact hp
          have H := Lib.hid (rfirst_any (A.map (·.add i)) (c - i) m hm w hp)
          rw [HL.out] at H
          have HC := Lib.hid hci
          clear hci
          go_enter Try.func10, Try.ntmps10
          go_wp2_with fail
          · exfalso
            rename_i h
            exact HC.out h.symm
          · refine (H.out).mono ?_
            rintro e w1 ⟨rfl, rfl⟩
            go_wp2
            go_ret
            exact ⟨ret_bool HF.out.symm, rfl⟩
      · have HF : Hid (fineB l a u = false) := Lib.hid (by simp [fineB, h2])
        have d0 : decide (a < 0) = false := by simp; omega
        have d1 : decide (u < a) = false := by simp; omega
        have d2 : decide ((l.length : Int) < u) = true := by simp; omega
        clear h0 h1 h2
        go_enter Try.func10, Try.ntmps10
        go_wp2
        go_ret
        exact ⟨ret_bool HF.out.symm, rfl⟩
    · have HF : Hid (fineB l a u = false) := Lib.hid (by simp [fineB, h1])
      have d0 : decide (a < 0) = false := by simp; omega
      have d1 : decide (u < a) = true := by simp; omega
      clear h0 h1
      go_enter Try.func10, Try.ntmps10
      go_wp2
      go_ret
      exact ⟨ret_bool HF.out.symm, rfl⟩
  · have HF : Hid (fineB l a u = false) := Lib.hid (by simp [fineB, h0])
    have d0 : decide (a < 0) = true := by simp; omega
    clear h0
    go_enter Try.func10, Try.ntmps10
    go_wp2
    go_ret
    exact ⟨ret_bool HF.out.symm, rfl⟩
end Go.Proofs.Ytiojpbmjciakeaa
