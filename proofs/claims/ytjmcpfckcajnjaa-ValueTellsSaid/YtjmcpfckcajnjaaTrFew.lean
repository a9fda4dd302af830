/-
  Is a tree not too great: the document's own Few, and the laws' own few.
-/
import Derived.Test.YtjmcpfckcajnjaaTrCnt
namespace Go.Proofs.Ytjmcpfckcajnjaa.T9
set_option maxRecDepth 100000

open Go.RowKit

theorem few_one (B D : Nat) (m : Mg) (u : Value) (d : Nat) (w : World) (hB : B ≤ w.heap.size) (hm : MRd B w D m u) (hd : d ≤ 1000) :
    Calls Try.prog 21 #[.agg #[u], .int .i64 d] w fun e w' => ∃ r : Bool, e = .returned (.bool r) ∧ (r = true → Fit 3000 d m) ∧ Below w.heap.size w w' := by
  have X1 := heap_alloc_new w (.cells #[u] 24)
  have LBD := below_new w (.cells #[u] 24)
  have HC := Lib.hid (count_any B D m u d _ (Nat.le_trans hB LBD.size) (MRd.low (Lo.below LBD hB) hm) hd)
  clear hm
  have y0 := bx1 X1
  go_enter Try.func21, Try.ntmps21
  go_wp2_with fail
  refine HC.out.mono ?_
  rintro e w1 ⟨n, rfl, hn, hf, hb1⟩
  have HF := Lib.hid hf
  clear hf
  go_wp2
  go_ret
  exact ⟨_, rfl, fun h => by
    have h1 : n ≤ 3000 := by have h2 := of_decide_eq_true h; omega
    exact ⟨Nat.le_trans (HF.out h1).1 h1, (HF.out h1).2⟩, below_then LBD hb1⟩
set_option maxRecDepth 1000000 in
set_option maxHeartbeats 4000000 in
theorem few_all (B D : Nat) (l : List Mg) (u : Value) (w : World) (hB : B ≤ w.heap.size) (hl : LsAt (Rd B w) 24 1 (MAt (Rd B w) D) l u) :
    Calls Try.prog 6 #[u] w fun e w' => ∃ r : Bool, e = .returned (.bool r) ∧ (r = true → ∀ m ∈ l, Fit 3000 80 m) ∧ Below w.heap.size w w' := by
  obtain ⟨A, c, xs, rfl, hs, hb, hr, hn⟩ := hl.open_
  have HS := Lib.hid hs
  have HR := Lib.hid hr
  have HBB := Lib.hid hb
  clear hs hr hl hb
  go_enter Try.func6, Try.ntmps6
  go_wp2
  go_loopw [3] (fun i wr => ∃ k : Nat, i = .int .i64 k ∧ k ≤ l.length ∧ (∀ m ∈ l.take k, Fit 3000 80 m) ∧ Below w.heap.size w wr) (fun i _ => l.length - (intOf i).toNat)
  case atStart => exact ⟨0, rfl, by omega, fun m hm => by simp at hm, Below.refl _ _⟩
  case round =>
    obtain ⟨k, rfl, hk, hq, hbw⟩ := hrel
    have HQ := Lib.hid hq
    clear hq
    by_cases hlt : k < l.length
    · obtain ⟨a, ha⟩ : ∃ a, l[k]? = some a := ⟨_, List.getElem?_eq_getElem hlt⟩
      obtain ⟨ad, x, rfl, hg, hc, c0⟩ := row1 MAt.len (sl_low HS.out HBB.out (Lo.below hbw hB)) (HR.out.imp fun a cs h => MRd.low (Lo.below hbw hB) h) ha
      have HC := Lib.hid (few_one B D a x 80 wr (Nat.le_trans hB hbw.size) hc (by omega))
      have HA := Lib.hid ha
      have HB2 := Lib.hid hbw
      clear hc ha hbw
      go_wp2_with fail
      refine HC.out.mono ?_
      rintro e w1 ⟨r, rfl, hf, hb1⟩
      cases r with
      | true =>
        have HF := Lib.hid (hf rfl)
        clear hf
        go_wp2
        refine ⟨⟨k + 1, by go_num, by omega, fun m hm => ?_, HB2.out.trans (hb1.mono HB2.out.size)⟩, by simp [intOf]; omega⟩
        rcases mem_take_next HA.out hm with hm | rfl
        · exact HQ.out m hm
        · exact HF.out
      | false =>
        clear hf
        go_wp2
        go_ret
        exact ⟨false, rfl, (fun h => by cases h), HB2.out.trans (hb1.mono HB2.out.size)⟩
    · obtain rfl : k = l.length := by omega
      go_wp2
      go_ret
      exact ⟨true, rfl, fun _ => by have h := HQ.out; rwa [List.take_length] at h, hbw⟩
end Go.Proofs.Ytjmcpfckcajnjaa.T9
