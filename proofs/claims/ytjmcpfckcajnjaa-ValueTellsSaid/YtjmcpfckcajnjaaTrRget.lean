/-
  The document's own Get: the first slot of a number, or none.
-/
import Derived.Test.YtjmcpfckcajnjaaTrLaw
import Derived.BigQuiet
namespace Go.Proofs.Ytjmcpfckcajnjaa.T9
set_option maxRecDepth 100000

open Go.RowKit

theorem find_take_next {l : List So} {k : Nat} {a : So} {no : Int} (h : (l.take k).find? (fun s => s.no == no) = none) (ha : l[k]? = some a) (hne : ¬ a.no = no) : (l.take (k + 1)).find? (fun s => s.no == no) = none := by
  rw [List.take_add_one, ha, List.find?_append, h]
  simp [hne]
theorem find_hit {l : List So} {k : Nat} {a : So} {no : Int} (h : (l.take k).find? (fun s => s.no == no) = none) (ha : l[k]? = some a) (he : a.no = no) : l.find? (fun s => s.no == no) = some a := by
  have hk : k < l.length := (List.getElem?_eq_some_iff.1 ha).1
  have e : l = l.take k ++ a :: l.drop (k + 1) := by
    have h1 : l[k] = a := (List.getElem?_eq_some_iff.1 ha).2
    rw [← h1, List.getElem_cons_drop, List.take_append_drop]
  rw [e, List.find?_append, h]
  simp [he]
set_option maxRecDepth 1000000 in
set_option maxHeartbeats 4000000 in
theorem rget_any (B D : Nat) (m : Mg) (u : Value) (no : Int) (w : World) (hB : B ≤ w.heap.size) (hm : MRd B w (D + 1) m u) :
    Calls Try.prog 9 #[.agg #[u], .int .i64 no] w fun e w' => ∃ x y z, e = .returned (.tuple #[.agg #[x, y, z], .bool (getM m no).isSome]) ∧ SAt' (Rd B w') D ((getM m no).getD so0) [x, y, z] ∧ Below w.heap.size w w' := by
  obtain ⟨u', hu, hl⟩ := hm
  simp only [List.cons.injEq, and_true] at hu
  subst hu
  obtain ⟨A, c, xs, rfl, hs, hb, hr, hn⟩ := hl.open_
  obtain ⟨X1, X2, LBD⟩ := two_boxes w (.cells #[.slice A m.F.length c] 24) (.cells #[.int .i64 0, .slice none 0 0, .slice none 0 0] 27)
  have HS := Lib.hid hs
  have HR := Lib.hid hr
  have HBB := Lib.hid hb
  have HL := Lib.hid (Lo.below LBD hB)
  clear hs hr hl hb
  go_enter Try.func9, Try.ntmps9
  go_wp2
  obtain ⟨W0, hW0⟩ : ∃ W, W = (w.alloc (.cells #[.slice A m.F.length c] 24)).alloc (.cells #[.int .i64 0, .slice none 0 0, .slice none 0 0] 27) := ⟨_, rfl⟩
  rw [← hW0] at X1 X2 LBD HL ⊢
  clear hW0
  have y1 := bx1 X1
  obtain ⟨⟨z0, z1, z2⟩, z3, z4, z5⟩ := wr3 X2
  go_loopw [6] (fun i wr => ∃ k : Nat, i = .int .i64 (k : Int) ∧ k ≤ m.F.length ∧ (m.F.take k).find? (fun s => s.no == no) = none ∧ wr = W0) (fun i _ => m.F.length - (intOf i).toNat)
  case atStart => exact ⟨0, rfl, by omega, rfl, rfl⟩
  case round =>
    obtain ⟨k, rfl, hk, hq, rfl⟩ := hrel
    have HQ := Lib.hid hq
    clear hq
    by_cases hlt : k < m.F.length
    · obtain ⟨a, ha⟩ : ∃ a, m.F[k]? = some a := ⟨_, List.getElem?_eq_getElem hlt⟩
      obtain ⟨ad, x, y, z, rfl, hg, hca, c0, c1, c2⟩ := row3 sAt.len (sl_low HS.out HBB.out HL.out) (HR.out.imp fun a cs h => SRd.low HL.out h) ha
      obtain ⟨B1, d1, B2, d2, hx, hy, hz⟩ := slot_shape hca
      subst hx hy hz
      have HA := Lib.hid ha
      have HC := Lib.hid hca
      clear ha hca
      by_cases he : a.no = no
      · have hgt : getM m no = some a := find_hit HQ.out HA.out he
        have HG := Lib.hid hgt
        have h1 : (a.no == no) = true := by simp [he]
        clear he hgt
        go_wp2
        obtain ⟨Z1, Z2⟩ := three_set X2 (.int .i64 a.no) (.slice B1 a.K.length d1) (.slice B2 a.V.length d2)
        have hb5 := LBD.trans (below_own Z2 (show w.heap.size ≤ w.heap.size + 1 by omega) LBD.size)
        refine bodyPost_ret (results_pair rfl _ _ (w.heap.size + 1) _ _ (0, 0) _ rfl Z1 Try.underlying27 rfl sz_slot) rfl ?_
        rw [HG.out]
        refine ⟨_, _, _, rfl, ?_, hb5⟩
        exact SRd.low (Lo.of (below_own Z2 (show B ≤ w.heap.size + 1 by omega) (Nat.le_trans hB LBD.size))) HC.out
      · have h1 : (a.no == no) = false := by simp [he]
        have HN := Lib.hid (find_take_next HQ.out HA.out he)
        clear he
        go_wp2
        exact ⟨⟨k + 1, by go_num, by omega, HN.out, trivial⟩, by simp [intOf]; omega⟩
    · obtain rfl : k = m.F.length := by omega
      have hgt : getM m no = none := by have h := HQ.out; rw [List.take_length] at h; exact h
      have HG := Lib.hid hgt
      clear hgt
      go_wp2
      obtain ⟨Z1, Z2⟩ := three_set X2 (.int .i64 0) (.slice none 0 0) (.slice none 0 0)
      have hb5 := LBD.trans (below_own Z2 (show w.heap.size ≤ w.heap.size + 1 by omega) LBD.size)
      refine bodyPost_ret (results_pair rfl _ _ (w.heap.size + 1) _ _ (0, 0) _ rfl Z1 Try.underlying27 rfl sz_slot) rfl ?_
      rw [HG.out]
      exact ⟨_, _, _, rfl, ⟨_, _, rfl, ⟨[], ⟨Rr.nil _ _ _, Nat.zero_le _⟩, rfl⟩, ⟨[], ⟨Rr.nil _ _ _, Nat.zero_le _⟩, rfl⟩⟩, hb5⟩
end Go.Proofs.Ytjmcpfckcajnjaa.T9
