/-
  The document's answer: how many bytes the sign has that begins at a place: the contract.
-/
import Derived.Test.YtiojpbmjciakeaaUtfFine
namespace Go.Proofs.Ytiojpbmjciakeaa
open Go.RowKit
theorem cell_by {w : World} {A : Option Addr} {c : Nat} {l : List UInt8} (h : SlB w A c l) {a k : Nat} (hk : a + k < l.length) : ∃ ad, A = some ad ∧ w.cell? (ad.add (a + k)) = some (.int .u8 (by' (l.drop a) k : Int)) := by
  obtain ⟨ad, b, rfl, _, hb, hc⟩ := h.at_ hk
  refine ⟨ad, rfl, ?_⟩
  rw [hc, by_drop]
  unfold by'
  rw [List.getD_eq_getElem?_getD, hb]
  rfl

def cls (b0 n : Nat) : Prop := (194 ≤ b0 ∧ b0 ≤ 223 ∧ n = 2) ∨ (224 ≤ b0 ∧ b0 ≤ 239 ∧ n = 3) ∨ (240 ≤ b0 ∧ b0 ≤ 244 ∧ n = 4)
theorem sgn_short {m : List UInt8} {n : Nat} (hc : cls (by' m 0) n) (h : m.length < n) : sgn m = 0 := by
  unfold cls at hc
  unfold sgn sg
  grind
theorem sgn_break {m : List UInt8} {n k : Nat} (hc : cls (by' m 0) n) (h1 : 1 ≤ k) (hk : k < n) (h : by' m k < 128 ∨ 191 < by' m k) : sgn m = 0 := by
  unfold cls at hc
  have : k = 1 ∨ k = 2 ∨ k = 3 := by omega
  unfold sgn sg
  rcases this with rfl | rfl | rfl <;> grind
def edgeB (b0 b1 : Nat) : Bool := (b0 == 224 && decide (b1 < 160)) || (b0 == 237 && decide (159 < b1)) || (b0 == 240 && decide (b1 < 144)) || (b0 == 244 && decide (143 < b1))
theorem sgn_whole {m : List UInt8} {n : Nat} (hc : cls (by' m 0) n) (hl : n ≤ m.length) (h : ∀ j, 1 ≤ j → j < n → 128 ≤ by' m j ∧ by' m j ≤ 191) : sgn m = if edgeB (by' m 0) (by' m 1) then 0 else n := by
  unfold cls at hc
  have h1 := h 1
  have h2 := h 2
  have h3 := h 3
  clear h
  unfold sgn sg edgeB
  grind
theorem sgn_other {m : List UInt8} (h0 : 127 < by' m 0) (h : by' m 0 < 194 ∨ 244 < by' m 0) : sgn m = 0 := by
  unfold sgn sg
  grind

set_option maxRecDepth 1000000 in
set_option maxHeartbeats 4000000 in
theorem rsign_any (A : Option Addr) (c : Nat) (l : List UInt8) (hl : l.length ≤ 100000) (a : Nat) (ha : a < l.length) (w : World) (hr : SlB w A c l) :
    Calls Try.prog 16 #[.slice A l.length c, .int .i64 a] w fun e w' => e = .returned (.int .i64 (sgn (l.drop a))) ∧ w = w' := by
  have hcell : ∀ k, a + k < l.length → ∀ ad, A = some ad → w.cell? (ad.add (a + k)) = some (.int .u8 (by' (l.drop a) k : Int)) := by
    intro k hk ad hA
    obtain ⟨ad', hA', h⟩ := cell_by hr hk
    rw [hA] at hA'
    obtain rfl := Option.some.inj hA'
    exact h
  obtain ⟨ad, rfl, hc0⟩ := cell_by hr (a := a) (k := 0) (by omega)
  rw [Nat.add_zero] at hc0
  have hlen : (l.drop a).length = l.length - a := List.length_drop
  have hb0 := by_lt (l.drop a) 0
  have hbk := by_lt (l.drop a)
  generalize hm : l.drop a = m at *
  have HC := Lib.hid hcell
  have HB := Lib.hid hbk
  have HL := Lib.hid hlen
  clear hm hlen hcell hbk
  by_cases c0 : by' m 0 ≤ 127
  · have HS : Hid (sgn m = 1) := Lib.hid (by unfold sgn sg; rw [if_neg (by rw [HL.out]; omega), if_pos c0])
    go_enter Try.func16, Try.ntmps16
    go_wp2
    go_ret
    exact ⟨ret_int (by rw [HS.out]; rfl), rfl⟩
  · have d0 : decide ((by' m 0 : Int) ≤ 127) = false := by simp; omega
    have g0 : (127 : Int) < by' m 0 := by omega
    by_cases hoth : by' m 0 < 194 ∨ 244 < by' m 0
    · have HS := Lib.hid (sgn_other (by omega) hoth)
      rcases hoth with h | h
      · have d1 : decide ((194 : Int) ≤ by' m 0) = false := by simp; omega
        have d2 : decide ((224 : Int) ≤ by' m 0) = false := by simp; omega
        have d3 : decide ((240 : Int) ≤ by' m 0) = false := by simp; omega
        clear h c0
        go_enter Try.func16, Try.ntmps16
        go_wp2
        go_ret
        exact ⟨ret_int (by rw [HS.out]; rfl), rfl⟩
      · have d1 : (194 : Int) ≤ by' m 0 := by omega
        have d2 : decide ((by' m 0 : Int) ≤ 223) = false := by simp; omega
        have d3 : (224 : Int) ≤ by' m 0 := by omega
        have d4 : decide ((by' m 0 : Int) ≤ 239) = false := by simp; omega
        have d5 : (240 : Int) ≤ by' m 0 := by omega
        have d6 : decide ((by' m 0 : Int) ≤ 244) = false := by simp; omega
        clear h c0
        go_enter Try.func16, Try.ntmps16
        go_wp2
        go_ret
        exact ⟨ret_int (by rw [HS.out]; rfl), rfl⟩
    · have hcl : ∃ n : Nat, cls (by' m 0) n ∧ 2 ≤ n ∧ n ≤ 4 ∧ ((decide ((194 : Int) ≤ by' m 0) = true ∧ decide ((by' m 0 : Int) ≤ 223) = true ∧ decide ((224 : Int) ≤ by' m 0) = false ∧ decide ((240 : Int) ≤ by' m 0) = false ∧ n = 2) ∨
          (decide ((194 : Int) ≤ by' m 0) = true ∧ decide ((by' m 0 : Int) ≤ 223) = false ∧ decide ((224 : Int) ≤ by' m 0) = true ∧ decide ((by' m 0 : Int) ≤ 239) = true ∧ decide ((240 : Int) ≤ by' m 0) = false ∧ n = 3) ∨
          (decide ((194 : Int) ≤ by' m 0) = true ∧ decide ((by' m 0 : Int) ≤ 223) = false ∧ decide ((224 : Int) ≤ by' m 0) = true ∧ decide ((by' m 0 : Int) ≤ 239) = false ∧ decide ((240 : Int) ≤ by' m 0) = true ∧ decide ((by' m 0 : Int) ≤ 244) = true ∧ n = 4)) := by
        simp only [decide_eq_true_eq, decide_eq_false_iff_not]
        unfold cls
        rcases (by omega : by' m 0 ≤ 223 ∨ (224 ≤ by' m 0 ∧ by' m 0 ≤ 239) ∨ 240 ≤ by' m 0) with h | h | h
        · exact ⟨2, by omega, by omega, by omega, by omega⟩
        · exact ⟨3, by omega, by omega, by omega, by omega⟩
        · exact ⟨4, by omega, by omega, by omega, by omega⟩
      clear c0 hoth
      obtain ⟨n, hcls, hn2, hn4, hd⟩ := hcl
      have HCL := Lib.hid hcls
      clear hcls
      by_cases hlt : (l.length : Int) < (a : Int) + (n : Int)
      · have HS := Lib.hid (sgn_short HCL.out (by rw [HL.out]; omega))
        rcases hd with ⟨d1, d2, d3, d4, rfl⟩ | ⟨d1, d2, d3, d4, d5, rfl⟩ | ⟨d1, d2, d3, d4, d5, d6, rfl⟩
        all_goals
          go_enter Try.func16, Try.ntmps16
          go_wp2
          go_ret
          exact ⟨ret_int (by rw [HS.out]; rfl), rfl⟩
      · have hle : (a : Int) + (n : Int) ≤ (l.length : Int) := by omega
        have d7 : decide ((l.length : Int) < (a : Int) + (n : Int)) = false := by simp; omega
        clear hlt
        rcases hd with ⟨d1, d2, d3, d4, rfl⟩ | ⟨d1, d2, d3, d4, d5, rfl⟩ | ⟨d1, d2, d3, d4, d5, d6, rfl⟩
        · go_enter Try.func16, Try.ntmps16
          go_wp2
          go_loop [7] (fun i => ∃ k : Nat, i = .int .i64 k ∧ 1 ≤ k ∧ k ≤ 2 ∧ ∀ j, 1 ≤ j → j < k → 128 ≤ by' m j ∧ by' m j ≤ 191) (fun i => 4 - (intOf i).toNat)
          case atStart => exact ⟨1, rfl, by omega, by omega, by omega⟩
          case round =>
            obtain ⟨k, rfl, hk1, hk2, hall⟩ := hrel
            have HA := Lib.hid hall
            clear hall
            by_cases hk : k < 2
            · have hc := HC.out k (by omega) ad rfl
              have hb := HB.out k
              by_cases hlo : (by' m k : Int) < 128
              · have HS := Lib.hid (sgn_break HCL.out hk1 hk (by omega))
                go_wp2
                go_ret
                exact ⟨ret_int (by rw [HS.out]; rfl), rfl⟩
              · have e1 : decide ((by' m k : Int) < 128) = false := by simp; omega
                have hlo : (128 : Int) ≤ by' m k := by omega
                by_cases hhi : (191 : Int) < by' m k
                · have HS := Lib.hid (sgn_break HCL.out hk1 hk (by omega))
                  go_wp2
                  go_ret
                  exact ⟨ret_int (by rw [HS.out]; rfl), rfl⟩
                · have e2 : decide ((191 : Int) < by' m k) = false := by simp; omega
                  have hhi : by' m k ≤ 191 := by omega
                  go_wp2
                  refine ⟨⟨k + 1, by go_num, by omega, by omega, ?_⟩, by simp [intOf]; omega⟩
                  intro j hj1 hj2
                  by_cases hjk : j = k
                  · subst hjk; omega
                  · exact HA.out j hj1 (by omega)
            · obtain rfl : k = 2 := by omega
              have hc : w.cell? ⟨ad.block, ad.off + (a + 1), none⟩ = some (.int .u8 (by' m 1 : Int)) := by simpa [Addr.add] using HC.out 1 (by omega) ad rfl
              have hb1 := HB.out 1
              have HS := Lib.hid (sgn_whole HCL.out (by rw [HL.out]; omega) HA.out)
              have HQ := Lib.hid HCL.out
              unfold cls at HQ
              have := HQ.out
              have q1 : ((by' m 0 : Int) == 224) = false := by rw [beq_eq_false_iff_ne]; omega
              have q2 : ((by' m 0 : Int) == 237) = false := by rw [beq_eq_false_iff_ne]; omega
              have q3 : ((by' m 0 : Int) == 240) = false := by rw [beq_eq_false_iff_ne]; omega
              have q4 : ((by' m 0 : Int) == 244) = false := by rw [beq_eq_false_iff_ne]; omega
              have HS2 : Hid (sgn m = 2) := Lib.hid (by rw [HS.out, edgeB]; grind)
              clear HQ this
              go_wp2
              go_ret
              exact ⟨ret_int (by rw [HS2.out]; rfl), rfl⟩
        · go_enter Try.func16, Try.ntmps16
          go_wp2
          go_loop [7] (fun i => ∃ k : Nat, i = .int .i64 k ∧ 1 ≤ k ∧ k ≤ 3 ∧ ∀ j, 1 ≤ j → j < k → 128 ≤ by' m j ∧ by' m j ≤ 191) (fun i => 4 - (intOf i).toNat)
          case atStart => exact ⟨1, rfl, by omega, by omega, by omega⟩
          case round =>
            obtain ⟨k, rfl, hk1, hk2, hall⟩ := hrel
            have HA := Lib.hid hall
            clear hall
            by_cases hk : k < 3
            · have hc := HC.out k (by omega) ad rfl
              have hb := HB.out k
              by_cases hlo : (by' m k : Int) < 128
              · have HS := Lib.hid (sgn_break HCL.out hk1 hk (by omega))
                go_wp2
                go_ret
                exact ⟨ret_int (by rw [HS.out]; rfl), rfl⟩
              · have e1 : decide ((by' m k : Int) < 128) = false := by simp; omega
                have hlo : (128 : Int) ≤ by' m k := by omega
                by_cases hhi : (191 : Int) < by' m k
                · have HS := Lib.hid (sgn_break HCL.out hk1 hk (by omega))
                  go_wp2
                  go_ret
                  exact ⟨ret_int (by rw [HS.out]; rfl), rfl⟩
                · have e2 : decide ((191 : Int) < by' m k) = false := by simp; omega
                  have hhi : by' m k ≤ 191 := by omega
                  go_wp2
                  refine ⟨⟨k + 1, by go_num, by omega, by omega, ?_⟩, by simp [intOf]; omega⟩
                  intro j hj1 hj2
                  by_cases hjk : j = k
                  · subst hjk; omega
                  · exact HA.out j hj1 (by omega)
            · obtain rfl : k = 3 := by omega
              have hc : w.cell? ⟨ad.block, ad.off + (a + 1), none⟩ = some (.int .u8 (by' m 1 : Int)) := by simpa [Addr.add] using HC.out 1 (by omega) ad rfl
              have hb1 := HB.out 1
              have HS := Lib.hid (sgn_whole HCL.out (by rw [HL.out]; omega) HA.out)
              have HQ := Lib.hid HCL.out
              unfold cls at HQ
              have := HQ.out
              have q3 : ((by' m 0 : Int) == 240) = false := by rw [beq_eq_false_iff_ne]; omega
              have q4 : ((by' m 0 : Int) == 244) = false := by rw [beq_eq_false_iff_ne]; omega
              by_cases c1 : by' m 0 = 224
              · have p1 : ((by' m 0 : Int) == 224) = true := by rw [beq_iff_eq]; omega
                have p2 : ((by' m 0 : Int) == 237) = false := by rw [beq_eq_false_iff_ne]; omega
                by_cases c2 : (by' m 1 : Int) < 160
                · have HS2 : Hid (sgn m = 0) := Lib.hid (by rw [HS.out, edgeB]; grind)
                  clear HQ this
                  go_wp2
                  go_ret
                  exact ⟨ret_int (by rw [HS2.out]; rfl), rfl⟩
                · have p3 : decide ((by' m 1 : Int) < 160) = false := by simp; omega
                  have HS2 : Hid (sgn m = 3) := Lib.hid (by rw [HS.out, edgeB]; grind)
                  clear HQ this
                  go_wp2
                  go_ret
                  exact ⟨ret_int (by rw [HS2.out]; rfl), rfl⟩
              · have p1 : ((by' m 0 : Int) == 224) = false := by rw [beq_eq_false_iff_ne]; omega
                by_cases c2 : by' m 0 = 237
                · have p2 : ((by' m 0 : Int) == 237) = true := by rw [beq_iff_eq]; omega
                  by_cases c3 : (159 : Int) < by' m 1
                  · have HS2 : Hid (sgn m = 0) := Lib.hid (by rw [HS.out, edgeB]; grind)
                    clear HQ this
                    go_wp2
                    go_ret
                    exact ⟨ret_int (by rw [HS2.out]; rfl), rfl⟩
                  · have p3 : decide ((159 : Int) < by' m 1) = false := by simp; omega
                    have HS2 : Hid (sgn m = 3) := Lib.hid (by rw [HS.out, edgeB]; grind)
                    clear HQ this
                    go_wp2
                    go_ret
                    exact ⟨ret_int (by rw [HS2.out]; rfl), rfl⟩
                · have p2 : ((by' m 0 : Int) == 237) = false := by rw [beq_eq_false_iff_ne]; omega
                  have HS2 : Hid (sgn m = 3) := Lib.hid (by rw [HS.out, edgeB]; grind)
                  clear HQ this
                  go_wp2
                  go_ret
                  exact ⟨ret_int (by rw [HS2.out]; rfl), rfl⟩
        · go_enter Try.func16, Try.ntmps16
          go_wp2
          go_loop [7] (fun i => ∃ k : Nat, i = .int .i64 k ∧ 1 ≤ k ∧ k ≤ 4 ∧ ∀ j, 1 ≤ j → j < k → 128 ≤ by' m j ∧ by' m j ≤ 191) (fun i => 4 - (intOf i).toNat)
          case atStart => exact ⟨1, rfl, by omega, by omega, by omega⟩
          case round =>
            obtain ⟨k, rfl, hk1, hk2, hall⟩ := hrel
            have HA := Lib.hid hall
            clear hall
            by_cases hk : k < 4
            · have hc := HC.out k (by omega) ad rfl
              have hb := HB.out k
              by_cases hlo : (by' m k : Int) < 128
              · have HS := Lib.hid (sgn_break HCL.out hk1 hk (by omega))
                go_wp2
                go_ret
                exact ⟨ret_int (by rw [HS.out]; rfl), rfl⟩
              · have e1 : decide ((by' m k : Int) < 128) = false := by simp; omega
                have hlo : (128 : Int) ≤ by' m k := by omega
                by_cases hhi : (191 : Int) < by' m k
                · have HS := Lib.hid (sgn_break HCL.out hk1 hk (by omega))
                  go_wp2
                  go_ret
                  exact ⟨ret_int (by rw [HS.out]; rfl), rfl⟩
                · have e2 : decide ((191 : Int) < by' m k) = false := by simp; omega
                  have hhi : by' m k ≤ 191 := by omega
                  go_wp2
                  refine ⟨⟨k + 1, by go_num, by omega, by omega, ?_⟩, by simp [intOf]; omega⟩
                  intro j hj1 hj2
                  by_cases hjk : j = k
                  · subst hjk; omega
                  · exact HA.out j hj1 (by omega)
            · obtain rfl : k = 4 := by omega
              have hc : w.cell? ⟨ad.block, ad.off + (a + 1), none⟩ = some (.int .u8 (by' m 1 : Int)) := by simpa [Addr.add] using HC.out 1 (by omega) ad rfl
              have hb1 := HB.out 1
              have HS := Lib.hid (sgn_whole HCL.out (by rw [HL.out]; omega) HA.out)
              have HQ := Lib.hid HCL.out
              unfold cls at HQ
              have := HQ.out
              have q1 : ((by' m 0 : Int) == 224) = false := by rw [beq_eq_false_iff_ne]; omega
              have q2 : ((by' m 0 : Int) == 237) = false := by rw [beq_eq_false_iff_ne]; omega
              by_cases c1 : by' m 0 = 240
              · have p1 : ((by' m 0 : Int) == 240) = true := by rw [beq_iff_eq]; omega
                have p2 : ((by' m 0 : Int) == 244) = false := by rw [beq_eq_false_iff_ne]; omega
                by_cases c2 : (by' m 1 : Int) < 144
                · have HS2 : Hid (sgn m = 0) := Lib.hid (by rw [HS.out, edgeB]; grind)
                  clear HQ this
                  go_wp2
                  go_ret
                  exact ⟨ret_int (by rw [HS2.out]; rfl), rfl⟩
                · have p3 : decide ((by' m 1 : Int) < 144) = false := by simp; omega
                  have HS2 : Hid (sgn m = 4) := Lib.hid (by rw [HS.out, edgeB]; grind)
                  clear HQ this
                  go_wp2
                  go_ret
                  exact ⟨ret_int (by rw [HS2.out]; rfl), rfl⟩
              · have p1 : ((by' m 0 : Int) == 240) = false := by rw [beq_eq_false_iff_ne]; omega
                by_cases c2 : by' m 0 = 244
                · have p2 : ((by' m 0 : Int) == 244) = true := by rw [beq_iff_eq]; omega
                  by_cases c3 : (143 : Int) < by' m 1
                  · have HS2 : Hid (sgn m = 0) := Lib.hid (by rw [HS.out, edgeB]; grind)
                    clear HQ this
                    go_wp2
                    go_ret
                    exact ⟨ret_int (by rw [HS2.out]; rfl), rfl⟩
                  · have p3 : decide ((143 : Int) < by' m 1) = false := by simp; omega
                    have HS2 : Hid (sgn m = 4) := Lib.hid (by rw [HS.out, edgeB]; grind)
                    clear HQ this
                    go_wp2
                    go_ret
                    exact ⟨ret_int (by rw [HS2.out]; rfl), rfl⟩
                · have p2 : ((by' m 0 : Int) == 244) = false := by rw [beq_eq_false_iff_ne]; omega
                  have HS2 : Hid (sgn m = 4) := Lib.hid (by rw [HS.out, edgeB]; grind)
                  clear HQ this
                  go_wp2
                  go_ret
                  exact ⟨ret_int (by rw [HS2.out]; rfl), rfl⟩
end Go.Proofs.Ytiojpbmjciakeaa
