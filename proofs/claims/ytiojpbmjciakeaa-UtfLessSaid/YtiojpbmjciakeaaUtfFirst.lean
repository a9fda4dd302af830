/-
  How many first bytes are signs: the contract of the function that goes through them.
-/
import Derived.Test.YtiojpbmjciakeaaText
import Derived.Test.YtiojpbmjciakeaaUtfMath
import Derived.Lib.OthersKept
namespace Go.Proofs.Ytiojpbmjciakeaa
open Go.RowKit

theorem prefix_any (s p : ByteArray) (w : World) :
    Calls Try.prog 15 #[.string s, .string p] w fun e w' => e = .returned (.bool (Lib.hasPrefix s.data.toList p.data.toList)) ∧ w = w' := by
  rw [← Lib.hasPrefix_of_take, ← Lib.size_eq, ← Lib.size_eq]
  go_enter Try.func15, Try.ntmps15
  go_wp2
  · rename_i h
    go_ret
    refine ⟨?_, rfl⟩
    show Ending.returned (Value.bool ((s.extract 0 p.size).toList == p.toList)) = _
    rw [Lib.extract_toList, Lib.toList_data]
    simp [h]
  · rename_i h
    go_ret
    refine ⟨?_, rfl⟩
    show Ending.returned (Value.bool false) = _
    simp [h]

theorem prefix3 (s : ByteArray) (pos : Nat) : Lib.hasPrefix (s.extract pos s.size).data.toList [239, 191, 189] = decide ((s.data.toList.drop pos).take 3 = [239, 191, 189]) := by
  rw [← Lib.hasPrefix_of_take, ← Lib.toList_data, Lib.extract_toList]
  have hsz : s.data.toList.length = s.size := by simp
  rw [List.take_of_length_le (by rw [List.length_drop, hsz]; exact Nat.le_refl _)]
  generalize s.data.toList.drop pos = l
  rw [Bool.eq_iff_iff]
  simp only [List.length_cons, List.length_nil, Bool.and_eq_true, decide_eq_true_eq, beq_iff_eq]
  constructor
  · exact fun h => h.2
  · intro h
    have := congrArg List.length h
    simp at this
    exact ⟨by omega, h⟩
set_option maxRecDepth 1000000 in
theorem first_any (A : Option Addr) (c : Nat) (l : List UInt8) (hl : l.length ≤ 100000) (w : World) (hr : SlB w A c l) :
    Calls Try.prog 11 #[.slice A l.length c] w fun e w' => e = .returned (.int .i64 (first l)) ∧ Below w.heap.size w w' := by
  have hcv := run_str_of_bytes (P := Try.prog) w 22 9 5 Try.underlying22 Try.underlying5 Try.underlying9 A c l hr
  have hss := txt_size l
  obtain ⟨s, hs⟩ : ∃ s, s = txt l := ⟨_, rfl⟩
  rw [← hs] at hcv hss
  have HS := Lib.hid hs
  have HSZ := Lib.hid hss
  have hsz : s.size ≤ 100000 := by omega
  clear hs hss
  go_enter Try.func11, Try.ntmps11
  go_wp2_with fail
  go_step3
  go_wp2_with fail
  go_step3
  go_wp2_with fail
  go_loopw [4] (fun p w' => ∃ pos : Nat, w' = w.iter s pos ∧ p = .int .i64 l.length ∧ pos ≤ l.length ∧ first l = pos + first (l.drop pos)) (fun _ w' => s.size - w'.iterPos w.heap.size)
  case atStart => exact ⟨0, rfl, rfl, by omega, by simp⟩
  case round =>
    obtain ⟨pos, rfl, rfl, hpl, hf⟩ := hrel
    have HF := Lib.hid hf
    clear hf
    by_cases hp : pos < s.size
    · have hnx : ∀ ty, (Instr.next (.pointer (some ⟨w.heap.size, 0, none⟩)) true ty).run Try.prog (w.iter s pos) = _ := fun ty => run_next_any w s pos ty hp
      have hsg := decode_sign s pos hp
      have hdl : s.data.toList.drop pos = l.drop pos := by rw [HS.out, txt_list]
      rw [hdl] at hsg
      have hpre := prefix3 s pos
      rw [hdl] at hpre
      have hle := sgn_le (l.drop pos)
      have hll : (l.drop pos).length = l.length - pos := List.length_drop
      obtain ⟨d, hd⟩ : ∃ d, d = Utf8.decode s pos := ⟨_, rfl⟩
      rw [← hd] at hnx hsg
      clear hd hdl
      by_cases hz : sgn (l.drop pos) = 0
      · obtain ⟨rfl, hno⟩ := hsg.1 hz
        have HP := Lib.hid (hpre.trans (show decide _ = false by simp [hno]))
        have HR := Lib.hid (HF.out.trans (by rw [first_none hz, Nat.add_zero] : _ = pos))
        clear hsg hpre hno hz hle hll
        go_wp2_with fail
        refine (prefix_any _ _ _).mono ?_
        rw [HP.out]
        rintro e w' ⟨rfl, rfl⟩
        go_wp2
        simp only [Exit.noGoto]
        go_ret
        exact ⟨ret_int (by rw [HR.out]), (below_new w (.stringIter s (pos + 1)))⟩
      · obtain ⟨hd2, h65⟩ := hsg.2 hz
        have HN := Lib.hid (first_some hz)
        have HDR := Lib.hid (List.drop_drop (l := l) (i := sgn (l.drop pos)) (j := pos))
        have hz' : 0 < sgn (l.drop pos) := by omega
        clear hsg hz
        by_cases hd1 : d.1 = 65533
        · have b1 : ((d.1 : Int) != 65533) = false := by simp; omega
          have HP := Lib.hid (hpre.trans (show decide _ = true by simp [h65 hd1]))
          have HL := Lib.hid hll
          have HD2 := Lib.hid hd2
          clear hpre h65 hll hd2
          go_wp2_with fail
          refine (prefix_any _ _ _).mono ?_
          rw [HP.out]
          rintro e w' ⟨rfl, rfl⟩
          go_wp2
          rw [HD2.out]
          have := HL.out
          refine ⟨⟨_, rfl, rfl, by omega, ?_⟩, by simp; omega⟩
          rw [HF.out, HN.out, HDR.out]; omega
        · have b1 : ((d.1 : Int) != 65533) = true := by simp; omega
          have HL := Lib.hid hll
          have HD2 := Lib.hid hd2
          clear hpre h65 hll hd2
          go_wp2_with fail
          rw [HD2.out]
          have := HL.out
          refine ⟨⟨_, rfl, rfl, by omega, ?_⟩, by simp; omega⟩
          rw [HF.out, HN.out, HDR.out]; omega
    · have hnx : ∀ ty, (Instr.next (.pointer (some ⟨w.heap.size, 0, none⟩)) true ty).run Try.prog (w.iter s pos) = _ := fun ty => run_next_end w s pos ty hp
      go_wp2
      have h := HF.out
      have h2 := HSZ.out
      rw [List.drop_of_length_le (by omega), first_nil] at h
      simp only [Exit.noGoto]
      go_ret
      exact ⟨ret_int (by omega), (below_new w (.stringIter s pos))⟩
end Go.Proofs.Ytiojpbmjciakeaa
