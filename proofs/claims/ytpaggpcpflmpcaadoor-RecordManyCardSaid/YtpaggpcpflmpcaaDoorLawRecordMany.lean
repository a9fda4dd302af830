/-
  Each record has two bytes at least; records that are put again, one behind the other, with the bytes of their runs, are read again, as many, with the same numbers: the statement RecordMany, for every bytes.
-/
import Derived.Test.YtpaggpcpflmpcaaDoorRecAwake
import Derived.Test.YtpaggpcpflmpcaaDoorRecMany
import Derived.Test.YtpaggpcpflmpcaaDoorPart
import Derived.Deep.RegionHeld3
import Derived.IntWalk
namespace Go.Proofs.YtpaggpcpflmpcaaDoor.lawRecordMany
open Go.ChangeShapes Go.WideShapes Go.ChangeAt Go.RowKit

theorem allR_recs {l : List UInt8} {a u : Nat} (hau : a ≤ u) (hu : u ≤ l.length) : allR l a u = recs l u a := by
  unfold allR
  rw [if_pos (by rw [mayB_true]; omega)]
  simp only [Int.toNat_natCast]
theorem recL_len {no wire : Int} {num : Nat} {run : List UInt8} (hn : num < 18446744073709551616) (hr : run.length ≤ 1000) : (recL no wire num run).length ≤ 1015 := by
  have h5 := putL_le5 (no := no) (wire := wire)
  have h1 := vput_len10 hn
  have h2 := vput_len10 (n := run.length) (by omega)
  unfold recL
  split
  · rw [List.length_append]
    unfold restL
    split
    · rw [List.length_append]; omega
    · split
      · rw [fixb_length]; omega
      · split
        · rw [fixb_length]; omega
        · omega
  · simp
theorem rcput_at (no wire : Int) (num : Nat) (f u : Int) (A : Option Addr) (k c : Nat) (run : List UInt8) (hk : k = run.length) (hn1 : -9223372036854775808 ≤ no) (hn2 : no ≤ 9223372036854775807) (hw1 : -9223372036854775808 ≤ wire) (hw2 : wire ≤ 9223372036854775807)
    (hnum : num < 18446744073709551616) (hl : run.length ≤ 140737488351232) (w : World) (h1 : SlB w A c run) (T : Wires w) :
    Calls Tryd.prog 15 #[.agg #[.int .i64 no, .int .i64 wire, .int .u64 num, .int .i64 f, .int .i64 u], .slice A k c] w fun e w' => ∃ A' c', e = .returned (.tuple #[.slice A' (recL no wire num run).length c', .bool (putB no wire)]) ∧ SlB w' A' c' (recL no wire num run) ∧ Below w.heap.size w w' := by
  subst hk
  exact rcput_any no wire num f u A c run hn1 hn2 hw1 hw2 hnum hl w h1 T
def ManyRel (w : World) (l : List UInt8) (L : List Rc) (v i : Value) (w' : World) : Prop :=
  ∃ (k : Nat) (C : List UInt8), i = .int .i64 k ∧ k ≤ L.length ∧ C = againL l (L.take k) ∧ C.length ≤ k * 1015 ∧ w'.ownsRow w.heap.size 5 1 v C.length (bs C) ∧ Below w.heap.size w w'

set_option maxRecDepth 1000000 in
set_option maxHeartbeats 8000000 in
theorem walk (w : World) (T : Wires w) (A : Option Addr) (c : Nat) (l : List UInt8) (hr : SlB w A c l) :
    Calls Tryd.prog 7 #[.slice A l.length c] w fun e w' => e = .returned (.bool true) ∧ Below w.heap.size w w' := by
  obtain ⟨i0, hi, hz0, hz1, hz2⟩ := info_parts info_u8
  have hml := hr.small.1
  by_cases hbig : l.length ≤ 1000
  · obtain ⟨L, e, hL⟩ : ∃ L e, allR l 0 l.length = (L, e) := ⟨_, _, rfl⟩
    have hL' : recs l l.length 0 = (L, e) := by rw [← hL]; exact (allR_recs (a := 0) (by omega) (Nat.le_refl _)).symm
    have l2 := recs_two l l.length l.length 0 (by omega)
    rw [hL'] at l2
    simp only at l2
    have CG : Hid (∀ k r, L[k]? = some r → Good l.length r) := Lib.hid (fun k r h => recs_good l l.length l.length 0 k r (by omega) (by rw [hL']; exact h))
    obtain ⟨Y, hY, hYl, hYs⟩ := again_all l (by omega) L CG.out []
    simp only [List.nil_append, List.length_nil] at hY
    have HL := Lib.hid hL
    have HYS := Lib.hid hYs
    clear hL hL' hYs
    have d1 : decide ((1000 : Int) < (l.length : Int)) = false := by simp; omega
    go_enter Tryd.func7, Tryd.ntmps7
    go_wp2_with fail
    refine (awake_any _ T).mono ?_
    rintro e1 w1 ⟨rfl, hb1⟩
    go_wp2_with fail
    refine (all_any A c l 0 l.length (by omega) _ (hr.on hb1) (T.on hb1)).mono ?_
    rw [HL.out]
    rintro e2 w2 ⟨A2, c2, rfl, hrL, hb2⟩
    have hb2 := below_then hb1 hb2
    have hr2 := hr.on hb2
    have T2 := T.on hb2
    go_wp2
    go_loopw [6, 7] (fun v i wr => ManyRel w2 l L v i wr) (fun _ i _ => L.length - (intOf i).toNat)
    case atStart => exact ⟨0, [], rfl, by omega, rfl, by simp, World.ownsRow_nil _ _ _ _, Below.refl _ _⟩
    case round =>
      obtain ⟨k, C, rfl, hk, hC, hCl, hown, hb⟩ := hrel
      by_cases hlt : k < L.length
      · obtain ⟨ad, r, rfl, hadb0, hr0, p0, p1, p2, p3, p4⟩ := (hrL.on hb).at_ hlt
        obtain ⟨g1, g2, g3, g4, -, -, -, -⟩ := CG.out k r hr0
        have hCn : C ++ recL r.no r.wire r.num ((l.drop r.frm).take (r.upto - r.frm)) = againL l (L.take (k + 1)) := by
          rw [List.take_add_one, hr0, hC]
          exact (againL_snoc l _ r).symm
        have hpl : r.upto - r.frm = ((l.drop r.frm).take (r.upto - r.frm)).length := by rw [List.length_take, List.length_drop]; omega
        have b1 := (putB_iff.1 g1).1
        have b2 := (putB_iff.1 g1).2
        have hrr := hr2.on hb
        have hXl := recL_len (no := r.no) (wire := r.wire) g2 (run := (l.drop r.frm).take (r.upto - r.frm)) (by omega)
        have e0 : decide ((r.frm : Int) < 0) = false := by simp
        have e1 : decide (l.length < r.upto) = false := by simp; omega
        have e2 : decide (r.upto < r.frm) = false := by simp; omega
        have hle := hr.le
        clear hr0 hC
        by_cases hci : c = r.frm
        · have hp := SlB.part_cap hrr g3 g4 hci.symm
          have hz : c - r.frm = 0 := by omega
          rw [hz] at hp
          clear hz
          subst hci
          clear hr hr2
          go_wp2
          go_quiet (fail)
          go_wp2
          have hb5 : Below w2.heap.size w2 (wr.drewN nq) := below_draws hb nq
          have hp5 : SlB (wr.drewN nq) A 0 ((l.drop r.frm).take (r.upto - r.frm)) := hp.on (below_draws (Below.refl wr.heap.size wr) nq)
          have own5 : (wr.drewN nq).ownsRow w2.heap.size 5 1 u6 C.length (bs C) := hown
          have T5 : Wires (wr.drewN nq) := T2.on hb5
          have hadb : ad.block < (wr.drewN nq).heap.size := hadb0
          replace p0 : (wr.drewN nq).cell? (ad.add (k * 5)) = some (.int .i64 r.no) := p0
          replace p1 : (wr.drewN nq).cell? ⟨(ad.add (k * 5)).block, (ad.add (k * 5)).off + 1, none⟩ = some (.int .i64 r.wire) := p1
          replace p2 : (wr.drewN nq).cell? ⟨(ad.add (k * 5)).block, (ad.add (k * 5)).off + 2, none⟩ = some (.int .u64 r.num) := p2
          replace p3 : (wr.drewN nq).cell? ⟨(ad.add (k * 5)).block, (ad.add (k * 5)).off + 3, none⟩ = some (.int .i64 r.frm) := p3
          replace p4 : (wr.drewN nq).cell? ⟨(ad.add (k * 5)).block, (ad.add (k * 5)).off + 4, none⟩ = some (.int .i64 r.upto) := p4
          clear hp hown hrr hb
          generalize wr.drewN nq = w5 at *
          have hadb' : (ad.add (k * 5)).block < w5.drew.heap.size := by rw [add_same_block]; exact hadb
          have hkeep : Hid (∀ w' : World, Below w5.drew.heap.size w5.drew w' → w'.cell? (ad.add (k * 5)) = some (.int .i64 r.no) ∧ w'.cell? ⟨(ad.add (k * 5)).block, (ad.add (k * 5)).off + 1, none⟩ = some (.int .i64 r.wire) ∧ w'.cell? ⟨(ad.add (k * 5)).block, (ad.add (k * 5)).off + 2, none⟩ = some (.int .u64 r.num) ∧ w'.cell? ⟨(ad.add (k * 5)).block, (ad.add (k * 5)).off + 3, none⟩ = some (.int .i64 r.frm) ∧ w'.cell? ⟨(ad.add (k * 5)).block, (ad.add (k * 5)).off + 4, none⟩ = some (.int .i64 r.upto)) := Lib.hid (fun w' hb => ⟨(hb.cell (p := ad.add (k * 5)) hadb').trans p0, (hb.cell (p := ⟨(ad.add (k * 5)).block, (ad.add (k * 5)).off + 1, none⟩) hadb').trans p1, (hb.cell (p := ⟨(ad.add (k * 5)).block, (ad.add (k * 5)).off + 2, none⟩) hadb').trans p2, (hb.cell (p := ⟨(ad.add (k * 5)).block, (ad.add (k * 5)).off + 3, none⟩) hadb').trans p3, (hb.cell (p := ⟨(ad.add (k * 5)).block, (ad.add (k * 5)).off + 4, none⟩) hadb').trans p4⟩)
          have hN1 : r.upto ≤ r.frm := by omega
          have hI0 : (0 : Int) ≤ (r.frm : Int) := by omega
          have hI1 : (r.frm : Int) ≤ (r.upto : Int) := by omega
          have hI2 : (r.upto : Int) ≤ (r.frm : Int) := by omega
          have hI3 : (0 : Int) ≤ (r.upto : Int) := by omega
          obtain ⟨P, hP⟩ : ∃ P, (l.drop r.frm).take (r.upto - r.frm) = P := ⟨_, rfl⟩
          rw [hP] at hp5 hpl hXl hCn
          have HP := Lib.hid hP
          have HCn := Lib.hid hCn
          clear hP hCn
          go_region_held3 (fun w' => w'.cell? (ad.add (k * 5)) = some (.int .i64 r.no) ∧ w'.cell? ⟨(ad.add (k * 5)).block, (ad.add (k * 5)).off + 1, none⟩ = some (.int .i64 r.wire) ∧ w'.cell? ⟨(ad.add (k * 5)).block, (ad.add (k * 5)).off + 2, none⟩ = some (.int .u64 r.num) ∧ w'.cell? ⟨(ad.add (k * 5)).block, (ad.add (k * 5)).off + 3, none⟩ = some (.int .i64 r.frm) ∧ w'.cell? ⟨(ad.add (k * 5)).block, (ad.add (k * 5)).off + 4, none⟩ = some (.int .i64 r.upto))
            (first | exact ⟨p0, p1, p2, p3, p4⟩ | exact hkeep.out _ hb6)
            ((go_at_call 15; refine (rcput_at r.no r.wire r.num r.frm r.upto _ _ _ P rfl (by omega) (by omega) (by omega) (by omega) g2 (by omega) _ (hp5.on (Below.refl _ _).drew) (T5.on (Below.refl _ _).drew)).mono ?_; rintro e6 w6 ⟨A6, c6, rfl, hr6, hb6⟩; rw [g1]))
          generalize recL r.no r.wire r.num P = X at *
          have own6 := own_below own5.drew hb6
          have hb7 := below_then hb5.drew hb6
          have E1 : Hid (C.length + X.length = (C ++ X).length) := Lib.hid (by rw [List.length_append])
          have E2 : Hid (bs C ++ bs X = bs (C ++ X)) := Lib.hid (by rw [bs_append])
          go_wp2_with (at_builtin; refine wpList_app_sl rfl _ _ 22 rfl w2.heap.size 5 i0 (.int .u8 0) 1 1 Tryd.underlying22 hi hz0 hz1 hz2 rfl (by omega) u6 C.length (bs C) rfl own6 A6 X.length c6 (bs X) rfl hr6 (bs_one X) (by unfold maxLen; omega) (by omega) hb7.size ?_; intro v8 w8 hown8 hg8; have hb8 : Below w2.heap.size w2 w8 := hb7.grown hg8 hb7.size (own_ge own6); rw [E1.out, E2.out] at hown8)
          exact ⟨⟨k + 1, C ++ X, by go_num, by omega, HCn.out, by rw [← E1.out, Nat.add_mul]; omega, hown8, hb8⟩, by simp [intOf]; omega⟩
        · have hp := SlB.part hrr g3 g4 (fun h => hci h.symm)
          clear hr hr2
          go_wp2
          go_quiet (fail)
          go_wp2
          have hb5 : Below w2.heap.size w2 (wr.drewN nq) := below_draws hb nq
          have hp5 : SlB (wr.drewN nq) (A.map (·.add r.frm)) (c - r.frm) ((l.drop r.frm).take (r.upto - r.frm)) := hp.on (below_draws (Below.refl wr.heap.size wr) nq)
          have own5 : (wr.drewN nq).ownsRow w2.heap.size 5 1 u6 C.length (bs C) := hown
          have T5 : Wires (wr.drewN nq) := T2.on hb5
          have hadb : ad.block < (wr.drewN nq).heap.size := hadb0
          replace p0 : (wr.drewN nq).cell? (ad.add (k * 5)) = some (.int .i64 r.no) := p0
          replace p1 : (wr.drewN nq).cell? ⟨(ad.add (k * 5)).block, (ad.add (k * 5)).off + 1, none⟩ = some (.int .i64 r.wire) := p1
          replace p2 : (wr.drewN nq).cell? ⟨(ad.add (k * 5)).block, (ad.add (k * 5)).off + 2, none⟩ = some (.int .u64 r.num) := p2
          replace p3 : (wr.drewN nq).cell? ⟨(ad.add (k * 5)).block, (ad.add (k * 5)).off + 3, none⟩ = some (.int .i64 r.frm) := p3
          replace p4 : (wr.drewN nq).cell? ⟨(ad.add (k * 5)).block, (ad.add (k * 5)).off + 4, none⟩ = some (.int .i64 r.upto) := p4
          clear hp hown hrr hb
          generalize wr.drewN nq = w5 at *
          have hadb' : (ad.add (k * 5)).block < w5.drew.heap.size := by rw [add_same_block]; exact hadb
          have hkeep : Hid (∀ w' : World, Below w5.drew.heap.size w5.drew w' → w'.cell? (ad.add (k * 5)) = some (.int .i64 r.no) ∧ w'.cell? ⟨(ad.add (k * 5)).block, (ad.add (k * 5)).off + 1, none⟩ = some (.int .i64 r.wire) ∧ w'.cell? ⟨(ad.add (k * 5)).block, (ad.add (k * 5)).off + 2, none⟩ = some (.int .u64 r.num) ∧ w'.cell? ⟨(ad.add (k * 5)).block, (ad.add (k * 5)).off + 3, none⟩ = some (.int .i64 r.frm) ∧ w'.cell? ⟨(ad.add (k * 5)).block, (ad.add (k * 5)).off + 4, none⟩ = some (.int .i64 r.upto)) := Lib.hid (fun w' hb => ⟨(hb.cell (p := ad.add (k * 5)) hadb').trans p0, (hb.cell (p := ⟨(ad.add (k * 5)).block, (ad.add (k * 5)).off + 1, none⟩) hadb').trans p1, (hb.cell (p := ⟨(ad.add (k * 5)).block, (ad.add (k * 5)).off + 2, none⟩) hadb').trans p2, (hb.cell (p := ⟨(ad.add (k * 5)).block, (ad.add (k * 5)).off + 3, none⟩) hadb').trans p3, (hb.cell (p := ⟨(ad.add (k * 5)).block, (ad.add (k * 5)).off + 4, none⟩) hadb').trans p4⟩)
          have hN1 : r.upto ≤ c := by omega
          have hN2 : r.frm ≤ c := by omega
          have hI0 : (0 : Int) ≤ (r.frm : Int) := by omega
          have hI1 : (r.frm : Int) ≤ (r.upto : Int) := by omega
          have hI2 : (r.upto : Int) ≤ (c : Int) := by omega
          have hI3 : (0 : Int) ≤ (r.upto : Int) := by omega
          have hI4 : ¬ r.frm = c := fun h => hci h.symm
          obtain ⟨P, hP⟩ : ∃ P, (l.drop r.frm).take (r.upto - r.frm) = P := ⟨_, rfl⟩
          rw [hP] at hp5 hpl hXl hCn
          have HP := Lib.hid hP
          have HCn := Lib.hid hCn
          clear hP hCn
          go_region_held3 (fun w' => w'.cell? (ad.add (k * 5)) = some (.int .i64 r.no) ∧ w'.cell? ⟨(ad.add (k * 5)).block, (ad.add (k * 5)).off + 1, none⟩ = some (.int .i64 r.wire) ∧ w'.cell? ⟨(ad.add (k * 5)).block, (ad.add (k * 5)).off + 2, none⟩ = some (.int .u64 r.num) ∧ w'.cell? ⟨(ad.add (k * 5)).block, (ad.add (k * 5)).off + 3, none⟩ = some (.int .i64 r.frm) ∧ w'.cell? ⟨(ad.add (k * 5)).block, (ad.add (k * 5)).off + 4, none⟩ = some (.int .i64 r.upto))
            (first | exact ⟨p0, p1, p2, p3, p4⟩ | exact hkeep.out _ hb6)
            ((go_at_call 15; refine (rcput_at r.no r.wire r.num r.frm r.upto _ _ _ P rfl (by omega) (by omega) (by omega) (by omega) g2 (by omega) _ (hp5.on (Below.refl _ _).drew) (T5.on (Below.refl _ _).drew)).mono ?_; rintro e6 w6 ⟨A6, c6, rfl, hr6, hb6⟩; rw [g1]))
          generalize recL r.no r.wire r.num P = X at *
          have own6 := own_below own5.drew hb6
          have hb7 := below_then hb5.drew hb6
          have E1 : Hid (C.length + X.length = (C ++ X).length) := Lib.hid (by rw [List.length_append])
          have E2 : Hid (bs C ++ bs X = bs (C ++ X)) := Lib.hid (by rw [bs_append])
          go_wp2_with (at_builtin; refine wpList_app_sl rfl _ _ 22 rfl w2.heap.size 5 i0 (.int .u8 0) 1 1 Tryd.underlying22 hi hz0 hz1 hz2 rfl (by omega) u6 C.length (bs C) rfl own6 A6 X.length c6 (bs X) rfl hr6 (bs_one X) (by unfold maxLen; omega) (by omega) hb7.size ?_; intro v8 w8 hown8 hg8; have hb8 : Below w2.heap.size w2 w8 := hb7.grown hg8 hb7.size (own_ge own6); rw [E1.out, E2.out] at hown8)
          exact ⟨⟨k + 1, C ++ X, by go_num, by omega, HCn.out, by rw [← E1.out, Nat.add_mul]; omega, hown8, hb8⟩, by simp [intOf]; omega⟩
      · obtain rfl : k = L.length := by omega
        rw [List.take_length] at hC
        have hYC : allR C 0 C.length = (Y, 0) := by rw [hC]; exact (allR_recs (a := 0) (by omega) (Nat.le_refl _)).trans hY
        have HYC := Lib.hid hYC
        have hYG : Hid (∀ (k : Nat) (s : Rc), Y[k]? = some s → s.frm ≤ s.upto ∧ s.upto ≤ C.length) := Lib.hid (fun k s h => by
          have g := recs_good C C.length C.length 0 k s (by omega) (by rw [hC, hY]; exact h)
          exact ⟨g.le, g.upto⟩)
        clear hYC hC hY
        have hb3 := below_then hb2 hb
        obtain ⟨A3, c3, rfl, hr3⟩ := SlB.of_own hown
        go_wp2_with fail
        refine (all_any A3 c3 C 0 C.length (by omega) _ hr3 (T.on hb3)).mono ?_
        rw [HYC.out]
        rintro e4 w4 ⟨A4, c4, rfl, hrY, hb4⟩
        have hrL4 := hrL.on (below_then hb hb4)
        have hb4 := below_then hb3 hb4
        clear hrL hr3 hr2 hr hown hb
        have d5 : ((Y.length : Int) != (L.length : Int)) = false := by simp [hYl]
        have e5 : IntKind.i64.wrap (2 * (L.length : Int)) = 2 * (L.length : Int) := by simp [IntKind.wrap, IntKind.signed, IntKind.bits]; split <;> omega
        have d6 : decide ((l.length : Int) < 2 * (L.length : Int)) = false := by simp; omega
        have d6' : decide (l.length < 2 * L.length) = false := by simp; omega
        have HYl := Lib.hid hYl
        clear hYl
        go_wp2
        go_loopw [12] (fun i wr => ∃ k d : Nat, i = .int .i64 k ∧ k ≤ L.length ∧ wr = w4.drewN d) (fun i _ => L.length - (intOf i).toNat)
        case atStart => exact ⟨0, 0, rfl, by omega, rfl⟩
        case round =>
          obtain ⟨k, d, rfl, hk, rfl⟩ := hrel
          by_cases hlt : k < L.length
          · obtain ⟨ad, r, rfl, _, hr0, p0, p1, p2, p3, p4⟩ := hrL4.at_ hlt
            obtain ⟨ad', s, rfl, _, hs0, q0, q1, q2, q3, q4⟩ := hrY.at_ (k := k) (by have := HYl.out; omega)
            obtain ⟨s1, s2, s3, s4, s5⟩ := HYS.out k r s hr0 hs0
            obtain ⟨-, y1⟩ := hYG.out k s hs0
            obtain ⟨-, -, g3, g4, -, -, -, -⟩ := CG.out k r hr0
            have hlt' : k < Y.length := by have := HYl.out; omega
            clear hr0 hs0 hrL4 hrY
            obtain ⟨sno, swire, snum, sfrm, supto⟩ := s
            simp only at s1 s2 s3 s4 s5 y1 q0 q1 q2 q3 q4
            subst s1 s2 s3
            have w1' : IntKind.i64.wrap ((supto : Int) - (sfrm : Int)) = (supto : Int) - (sfrm : Int) := by simp [IntKind.wrap, IntKind.signed, IntKind.bits]; split <;> omega
            have w2' : IntKind.i64.wrap ((r.upto : Int) - (r.frm : Int)) = (r.upto : Int) - (r.frm : Int) := by simp [IntKind.wrap, IntKind.signed, IntKind.bits]; split <;> omega
            have d7 : decide ((r.upto : Int) - (r.frm : Int) < (supto : Int) - (sfrm : Int)) = false := by simp; omega
            go_wp2
            go_quiet (fail)
            go_wp2
            exact ⟨⟨k + 1, d + nq, by go_num, by omega, rfl⟩, by simp [intOf]; omega⟩
          · obtain rfl : k = L.length := by omega
            clear hrL4 hrY
            go_wp2
            go_ret
            exact ⟨rfl, below_draws hb4 d⟩
  · have d1 : decide ((1000 : Int) < (l.length : Int)) = true := by simp; omega
    go_enter Tryd.func7, Tryd.ntmps7
    go_wp2_with fail
    refine (awake_any _ T).mono ?_
    rintro e1 w1 ⟨rfl, hb1⟩
    go_wp2
    go_ret
    exact ⟨rfl, hb1⟩

theorem contract (H : Type) (enc : TypeId × Value → H) (W : World) (base : Nat) (args : Array Value) (ds gs : List (DataW H)) (before : List MemPlace)
    (hval0 : ∀ (j : Nat) t v, Tryd.f7.params[j]? = some t → args[j]? = some v → Value.okWide Tryd.prog W .any base t v)
    (hW : DataW.Whole enc Tryd.prog Tryd.f7.params.toList Rows.recordManySpec.vars false W args.toList ds gs before) (hsz : (DataW.weightsEach Tryd.prog (Tryd.f7.params.toList ++ (OpenSpec.ofChange Rows.recordManySpec).bare.plain.varTypes Tryd.prog) (ds ++ gs)).all (· ≤ reachBytes) = true) (hL : laidMetH Tryd.prog Rows.recordManyRow.laid W) :
    Calls Tryd.prog 7 args W fun e W2 => ∃ v, e = .returned v ∧ Rows.recordManySpec.post enc Tryd.prog Tryd.f7 false true false false W args v W2 := by
  have hval : ∀ (j : Nat) t v, Tryd.f7.params[j]? = some t → args[j]? = some v → Value.okWide Tryd.prog W .any base t v := hval0
  have T := wires_of hL
  have hW2 := hW
  obtain ⟨p, q, hA0, hV, rfl, hfz, hnd⟩ := hW
  have hA : DataW.TrodAll enc Tryd.prog W 0 (fun _ => true) true Tryd.f7.params.toList args.toList ds p := hA0
  rw [Tryd.params7] at hA hval
  obtain ⟨v0, vs0, d0, ds0, p0, q0, hargs, rfl, rfl, h0, r0⟩ := trodAll_cons hA
  obtain ⟨rfl, rfl, rfl⟩ := trodAll_nil r0
  obtain rfl : args = #[v0] := by cases args; simp_all
  obtain ⟨rfl, rfl⟩ := trodVars_none hV
  obtain ⟨A0, c0, l0, rfl, rd0⟩ := open_bytes (hval 0 22 v0 rfl rfl) h0
  refine (walk W T A0 c0 l0 rd0).mono fun e W2 ⟨he, hb⟩ => ?_
  subst he
  exact ⟨_, rfl, law_post (by kernel_rfl) rfl rfl (by decide +kernel) hW2 hb⟩
theorem laid_met (os : Os) : laidMetH Tryd.prog Rows.recordManyRow.laid ((World.laidAll Tryd.prog os Rows.recordManyRow.laid).forCall (fun _ _ => 0) ⟨#[], #[.slice none 0 0], []⟩).memory := by
  rw [MakeChecks.laidMetH_plain _ _ _ (by kernel_rfl)]
  exact laidMet_laidAll _ (by kernel_rfl) (by kernel_rfl)
theorem reads (os : Os) {H : Type} (enc : TypeId × Value → H) : ∃ places, DataW.whole enc Tryd.prog ((World.laidAll Tryd.prog os Rows.recordManyRow.laid).forCall (fun _ _ => 0) ⟨#[], #[.slice none 0 0], []⟩).memory Tryd.f7.params.toList Rows.recordManySpec.vars false (#[.slice none 0 0] : Array Value).toList 8 = some ([.nil], [], places) := ⟨[], by kernel_rfl⟩
set_option maxRecDepth 100000 in
theorem lifted (os : Os) (started : os.Started) (H : Type) (enc : TypeId × Value → H) (F : Stop.Interp) :
    ReturnsInHanded {} Tryd.checked os 7 .any ((OpenSpec.ofChange Rows.recordManySpec).preRow enc Tryd.prog Tryd.f7 Rows.recordManyRow.domain false Rows.recordManyRow.laid) (((OpenSpec.ofChange Rows.recordManySpec).at F).post enc Tryd.prog Tryd.f7 false true false false) := by
  obtain ⟨places, hx⟩ := reads os enc
  refine returnsInHanded_of_row (C := Tryd.checked) (s := OpenSpec.ofChange Rows.recordManySpec) own started (by kernel_rfl) Tryd.func7
    (witness_row_at (enc := enc) (C := Tryd.checked) false (World.laidAll Tryd.prog os Rows.recordManyRow.laid) #[.slice none 0 0] (World.laidAll_os _ _ _) (by kernel_rfl) (by kernel_rfl) (by kernel_rfl)
      (OpenSpec.preRow_of_cond 8 hx (by kernel_rfl) (fun k hk => by cases hk) (by kernel_rfl) (laid_met os))) ?_
  intro W base args ds gs before hval hW _ _ hsz hL _ _
  exact contract H enc W base args ds gs before hval hW hsz hL
theorem said : Rows.RecordManySaid :=
  OpenClaim.holds_of_cond 7 Tryd.f7 rfl rfl rfl rfl rfl rfl rfl ⟨rfl, rfl, rfl, rfl, rfl⟩ rfl rfl rfl rfl rfl (by kernel_rfl) Tryd.func7 (by kernel_rfl)
    (of_decide_eq_true (by kernel_rfl)) (by unfold Func.isWrapper; first | (rw [if_pos (by decide +kernel)]; kernel_rfl) | (rw [if_neg (by decide +kernel)]; exact ⟨rfl, rfl⟩))
    (fun os started H enc _ F => by rw [OpenClaim.pre_eq_preRow]; exact lifted os started H enc F)
theorem plain (f : FuncId) (fn : Func) (hf : Tryd.pinned.checked.prog.funcNamed "truffle/trufflelaw05.RecordMany" = some f) (hfn : Tryd.pinned.checked.prog.funcs[f]? = some fn) :
    false = Tryd.pinned.checked.prog.looks [] ∧ ∀ (j : Nat) t, fn.params[j]? = some t → Tryd.pinned.checked.prog.wantsStandIn t = false := by
  obtain rfl : f = 7 := Option.some.inj ((show Tryd.prog.funcNamed "truffle/trufflelaw05.RecordMany" = some 7 by kernel_rfl).symm.trans hf) |>.symm
  obtain rfl : fn = Tryd.f7 := (Option.some.inj (Tryd.func7.symm.trans hfn)).symm
  refine ⟨by kernel_rfl, fun j t ht => ?_⟩
  have hall : (Tryd.f7.params.toList.all fun t => !Tryd.prog.wantsStandIn t) = true := by kernel_rfl
  have := List.all_eq_true.1 hall t (Array.mem_toList_iff.2 (Array.mem_of_getElem? ht))
  exact (show Tryd.prog.wantsStandIn t = false by simpa using this)
theorem proved : Rows.RecordManyCardSaid :=
  Claim7.holds_tied_plain_at .later [] _ _ _ _ said (fun _ h => by cases h) (by kernel_rfl) (fun _ h => by cases h) recordMany_row_tie rfl ⟨rfl, rfl⟩ (by kernel_rfl) rfl plain (by kernel_rfl)
end Go.Proofs.YtpaggpcpflmpcaaDoor.lawRecordMany
