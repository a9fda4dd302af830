/-
  The statements' own first call: the chapter's example.
-/
import Derived.Test.YtceomdbahiimlaaDoorSexSize
import Derived.Test.YtceomdbahiimlaaDoorSexEx
import Derived.Test.YtceomdbahiimlaaDoorLaidOf
import Derived.Test.YtceomdbahiimlaaDoorTied
namespace Go.Proofs.YtceomdbahiimlaaDoor.T14
set_option maxRecDepth 100000

open Go.RowKit

theorem ex14_sm : Sm 1000000 ex14N := by
  have h := par_small (it := Lib.itoa) ex14
  rw [ex14_par] at h
  exact h.mono (by decide)
theorem ex14_facts : ∃ x : Nd, parR Lib.itoa ex14 = (x, 8, 0) ∧ mayB Lib.itoa x = true ∧ printB Lib.itoa x = ex14 ∧ Sm 1000000 x ∧ x.str.length ≤ 100000000000 ∧ x.kind = 4 ∧ x.l.length = 3 ∧ x.l[2]? = some (.mk 1 [53] 5 6 []) :=
  ⟨ex14N, ex14_par, ex14_may, ex14_print, ex14_sm, by rw [ex14_str]; decide, rfl, rfl, rfl⟩
set_option maxRecDepth 1000000 in
set_option maxHeartbeats 4000000 in
theorem awake14_any (w : World) (LV : Laid w) : Calls Tryd.prog 9 #[] w fun e w' => e = .returned (.bool true) ∧ Below w.heap.size w w' := by
  obtain ⟨s, hs⟩ : ∃ s, s = txt ex14 := ⟨_, rfl⟩
  have hs' : (⟨#[40, 101, 113, 32, 97, 32, 53, 41]⟩ : ByteArray) = s := hs.symm
  have hpar := parse14_rd s (by rw [hs]; decide) w LV
  obtain ⟨x, f1, f2, f3, f4, f5, f6, f7, f8⟩ := ex14_facts
  rw [hs, txt_list, f1, ← hs] at hpar
  have HP := Lib.hid hpar
  have F2 := Lib.hid f2
  have F3 : Hid (tx (printB Lib.itoa x) = s) := Lib.hid (by rw [f3, hs]; rfl)
  have F4 := Lib.hid f4
  have F5 := Lib.hid f5
  have F6 := Lib.hid f6
  have F7 := Lib.hid f7
  have F8 := Lib.hid f8
  clear hpar f1 f2 f3 f4 f5 f6 f7 f8 hs
  go_enter Tryd.func9, Tryd.ntmps9
  simp only [hs']
  clear hs'
  go_wp2_with fail
  refine HP.out.mono ?_
  rintro e w1 ⟨g, rfl, hn, hb⟩
  have HN := Lib.hid hn
  obtain ⟨u', hu, hl⟩ := hn
  obtain rfl : g = u' := by simpa using hu
  obtain ⟨A, c, xs, rfl, hsl, hbl, hr, hnl⟩ := hl.open_
  obtain ⟨ad, u, rfl, hg1, hc1, p0, p1, p2, p3, p4⟩ := row5 hsl hr (k := 2) F8.out
  have hB2 := below_new w1 (.cells #[.int .i64 x.kind, .string (tx x.text), .int .i64 x.num, .int .i64 x.at_, .slice (some ad) x.l.length c] 24)
  have hX2 := heap_alloc_new w1 (.cells #[.int .i64 x.kind, .string (tx x.text), .int .i64 x.num, .int .i64 x.at_, .slice (some ad) x.l.length c] 24)
  have q2 := (hB2.cell (World.block_lt_of_cell? w1 _ p2)).trans p2
  have HM := Lib.hid (fun w3 (h : Below w1.heap.size w1 w3) => may14_any 17 x (.slice (some ad) x.l.length c) w3 (by decide) (NRd.mono h.size (NRd.low (Lo.below h (Nat.le_refl _)) HN.out)) F4.out (LV.on (below_then hb h)))
  rw [F2.out] at HM
  have HPR := Lib.hid (fun w3 (h : Below w1.heap.size w1 w3) => print14_any 17 x (.slice (some ad) x.l.length c) w3 (by decide) (NRd.mono h.size (NRd.low (Lo.below h (Nat.le_refl _)) HN.out)) F4.out F5.out (LV.on (below_then hb h)))
  rw [F3.out] at HPR
  rw [F6.out, F7.out] at HM HPR hX2 hB2 q2 ⊢
  obtain ⟨n0, n1, n2, n3, n4⟩ := five_cells hX2
  have r2 : (w1.alloc (.cells #[.int .i64 4, .string (tx x.text), .int .i64 x.num, .int .i64 x.at_, .slice (some ad) 3 c] 24)).cell? ⟨ad.block, ad.off + 10 + 2, none⟩ = some (.int .i64 5) := q2
  have HB2 := Lib.hid hB2
  have HB := Lib.hid hb
  clear q2 hsl hbl hr hl hu hnl p0 p1 p2 p3 p4 hc1 hB2 hb
  go_wp2_with (first
    | (go_at_call 14; refine (HM.out _ HB2.out).mono ?_; rintro e w3 ⟨rfl, hb3⟩; obtain ⟨m0, m1, m2, m3, m4⟩ := five_cells ((hb3.block w1.heap.size (by simp)).trans hX2); have hb4 := below_then HB2.out hb3)
    | (go_at_call 16; refine (HPR.out _ hb4).mono ?_; rintro e w5 ⟨rfl, hb5⟩))
  go_ret
  exact ⟨rfl, below_then (below_then HB.out hb4) hb5⟩
end Go.Proofs.YtceomdbahiimlaaDoor.T14
