/-
  Whether two messages are the same: value's Same, and the comparisons below it.
-/
import Derived.Test.YtipaangiehdgkaaGreatDoorTrDeep
import Derived.Deep.MidRow
import Derived.OwnWalk
import Derived.Deep.RegionHeldLaw
import Derived.Laws.CopyRow
import Derived.Lib.AppendZerosOnto
import Derived.Lib.AppendZeros
import Derived.Lib.Overlaps
import Derived.Laws.Externs
import Derived.Shelf.RegionOpenPlain
namespace Go.Proofs.YtipaangiehdgkaaGreatDoor.T9
set_option maxRecDepth 100000

open Go.RowKit

/-- Are two the same? -/
noncomputable def eqB {α : Type} (a b : α) : Bool := @decide (a = b) (Classical.propDecidable _)
theorem eqB_iff {α : Type} {a b : α} : eqB a b = true ↔ a = b := by unfold eqB; exact @decide_eq_true_iff _ (Classical.propDecidable _)
theorem eqB_yes {α : Type} {a b : α} (h : a = b) : eqB a b = true := eqB_iff.2 h
theorem eqB_no {α : Type} {a b : α} (h : ¬ a = b) : eqB a b = false := by unfold eqB; exact @decide_eq_false _ (Classical.propDecidable _) h
theorem cell_on {w w' : World} {a : Addr} {v : Value} (hb : Below w.heap.size w w') (h : w.cell? a = some v) : w'.cell? a = some v := (hb.cell (World.block_lt_of_cell? w _ h)).trans h
theorem eqB_false {α : Type} {a b : α} (h : eqB a b = false) : ¬ a = b := fun e => by rw [eqB_yes e] at h; cases h
theorem eq_take_next {α : Type} {l m : List α} {k : Nat} {x : α} (hx : l[k]? = some x) (hy : m[k]? = some x) (h : l.take k = m.take k) : l.take (k + 1) = m.take (k + 1) := by
  rw [List.take_add_one, List.take_add_one, hx, hy, h]
theorem eq_ne_at {α : Type} {l m : List α} {k : Nat} {x y : α} (hx : l[k]? = some x) (hy : m[k]? = some y) (hne : ¬ x = y) : ¬ l = m := fun e => by
  rw [e, hy] at hx
  exact hne (Option.some.inj hx).symm
theorem eqB_slot (a b : So) : eqB a b = (decide (a.no = b.no) && (eqB a.K b.K && eqB a.V b.V)) := by
  rw [Bool.eq_iff_iff, eqB_iff]
  simp only [Bool.and_eq_true, decide_eq_true_eq, eqB_iff]
  obtain ⟨n, k, v⟩ := a
  obtain ⟨n', k', v'⟩ := b
  simp
theorem eqB_val (a b : Vl') : eqB a b = (decide (a.n = b.n) && (decide (a.s = b.s) && eqB a.M b.M)) := by
  rw [Bool.eq_iff_iff, eqB_iff]
  simp only [Bool.and_eq_true, decide_eq_true_eq, eqB_iff]
  obtain ⟨n, k, v⟩ := a
  obtain ⟨n', k', v'⟩ := b
  simp
theorem eqB_msg (a b : Mg) : eqB a b = eqB a.F b.F := by
  rw [Bool.eq_iff_iff, eqB_iff, eqB_iff]
  exact ⟨fun h => by rw [h], Mg.ext⟩

/-- The premise: what is told of two elements. -/
def samemsgP (B d : Nat) (w : World) (l m : List Mg) : Prop := ∀ (k : Nat) a b, l[k]? = some a → m[k]? = some b → ∀ x1 x2 wr, Below w.heap.size w wr → MAt (Rd B wr) d a [x1] → MAt (Rd B wr) d b [x2] → Calls Tryz.prog 31 #[.agg #[x1], .agg #[x2]] wr fun e w' => e = .returned (.bool (eqB a b)) ∧ Below wr.heap.size wr w'
set_option maxRecDepth 1000000 in
set_option maxHeartbeats 4000000 in
theorem same_msg (B d : Nat) (l m : List Mg) (u1 u2 : Value) (w : World) (hB : B ≤ w.heap.size) (hl : LsAt (Rd B w) 36 1 (MAt (Rd B w) d) l u1) (hm : LsAt (Rd B w) 36 1 (MAt (Rd B w) d) m u2) (hg : samemsgP B d w l m) :
    Calls Tryz.prog 152 #[u1, u2, .func (.func 31) #[] #[]] w fun e w' => e = .returned (.bool (eqB l m)) ∧ Below w.heap.size w w' := by
  obtain ⟨A1, d1, xs1, rfl, hs1, hb1, hr1, hn1⟩ := hl.open_
  obtain ⟨A2, d2, xs2, rfl, hs2, hb2, hr2, hn2⟩ := hm.open_
  have HS1 := Lib.hid hs1
  have HR1 := Lib.hid hr1
  have HB1 := Lib.hid hb1
  have HS2 := Lib.hid hs2
  have HR2 := Lib.hid hr2
  have HB2 := Lib.hid hb2
  have HG := Lib.hid hg
  clear hs1 hr1 hs2 hr2 hg hl hm hb1 hb2
  by_cases hlen : l.length = m.length
  · have HLEN := Lib.hid hlen
    rw [← hlen]
    clear hlen
    go_enter Tryz.func152, Tryz.ntmps152
    go_wp2
    go_loopw [15] (fun i wr => ∃ k : Nat, i = .int .i64 k ∧ k ≤ l.length ∧ l.take k = m.take k ∧ Below w.heap.size w wr) (fun i _ => l.length - (intOf i).toNat)
    case atStart => exact ⟨0, rfl, by omega, rfl, Below.refl _ _⟩
    case round =>
      obtain ⟨k, rfl, hk, htk, hbw⟩ := hrel
      have HTK := Lib.hid htk
      clear htk
      by_cases hlt : k < l.length
      · have hlt2 : k < m.length := by rw [← HLEN.out]; exact hlt
        obtain ⟨a, ha⟩ : ∃ a, l[k]? = some a := ⟨_, List.getElem?_eq_getElem hlt⟩
        obtain ⟨b, hb⟩ : ∃ b, m[k]? = some b := ⟨_, List.getElem?_eq_getElem hlt2⟩
        obtain ⟨ad1, x1, rfl, hg1, hc1, p0⟩ := row1 MAt.len (sl_low HS1.out HB1.out (Lo.below hbw hB)) (HR1.out.imp fun a cs h => MRd.low (Lo.below hbw hB) h) ha
        obtain ⟨ad2, x2, rfl, hg2, hc2, q0⟩ := row1 MAt.len (sl_low HS2.out HB2.out (Lo.below hbw hB)) (HR2.out.imp fun a cs h => MRd.low (Lo.below hbw hB) h) hb
        have HC := Lib.hid (HG.out k a b ha hb _ _ wr.drew (hbw.trans (Below.refl _ _).drew) (MRd.low (Lo.below (Below.refl _ _).drew (Nat.le_trans hB hbw.size)) hc1) (MRd.low (Lo.below (Below.refl _ _).drew (Nat.le_trans hB hbw.size)) hc2))
        have HBW := Lib.hid hbw
        have HA := Lib.hid ha
        have HBb := Lib.hid hb
        obtain ⟨r, hr⟩ : ∃ r, eqB a b = r := ⟨_, rfl⟩
        rw [hr] at HC
        have HRR := Lib.hid hr
        have hS : wr.cell? (ad1.add k) = some x1 ∧ wr.cell? (ad2.add k) = some x2 := ⟨p0, q0⟩
        clear hc1 hc2 hbw ha hb hr
        go_wp2_with fail
        go_region_held3 (fun wy => wy.cell? (ad1.add k) = some x1 ∧ wy.cell? (ad2.add k) = some x2)
          (first | exact hS | exact ⟨cell_on hb1 p0, cell_on hb1 q0⟩ | go_keep)
          ((go_at_call 31; refine HC.out.mono ?_; rintro e w1 ⟨rfl, hb1⟩))
        cases r with
        | true =>
          go_wp2
          obtain rfl := eqB_iff.1 HRR.out
          refine ⟨⟨k + 1, ?_, by omega, eq_take_next HA.out HBb.out HTK.out, HBW.out.trans ((Below.refl _ _).drew.trans (hb1.mono HBW.out.size))⟩, ?_⟩
          · go_num
          · simp [intOf]; omega
        | false =>
          go_wp2
          go_ret
          exact ⟨by rw [eqB_no (eq_ne_at HA.out HBb.out (eqB_false HRR.out))]; rfl, HBW.out.trans ((Below.refl _ _).drew.trans (hb1.mono HBW.out.size))⟩
      · obtain rfl : k = l.length := by omega
        go_wp2
        go_ret
        have e : l = m := by
          have h := HTK.out
          rwa [List.take_length, HLEN.out, List.take_length] at h
        exact ⟨by rw [eqB_yes e]; rfl, hbw⟩
  · have hne : ((l.length : Int) == (m.length : Int)) = false := by rw [beq_eq_false_iff_ne]; omega
    have HE := Lib.hid (eqB_no (fun e : l = m => hlen (by rw [e])))
    go_enter Tryz.func152, Tryz.ntmps152
    go_wp2
    go_ret
    exact ⟨by rw [HE.out]; rfl, Below.refl _ _⟩
/-- The premise: what is told of two elements. -/
def samevalP (B d : Nat) (w : World) (l m : List Vl') : Prop := ∀ (k : Nat) a b, l[k]? = some a → m[k]? = some b → ∀ x1 y1 z1 x2 y2 z2 wr, Below w.heap.size w wr → VAt (Rd B wr) d a [x1, y1, z1] → VAt (Rd B wr) d b [x2, y2, z2] → Calls Tryz.prog 101 #[.agg #[x1, y1, z1], .agg #[x2, y2, z2]] wr fun e w' => e = .returned (.bool (eqB a b)) ∧ Below wr.heap.size wr w'
set_option maxRecDepth 1000000 in
set_option maxHeartbeats 4000000 in
theorem same_val (B d : Nat) (l m : List Vl') (u1 u2 : Value) (w : World) (hB : B ≤ w.heap.size) (hl : LsAt (Rd B w) 51 3 (VAt (Rd B w) d) l u1) (hm : LsAt (Rd B w) 51 3 (VAt (Rd B w) d) m u2) (hg : samevalP B d w l m) :
    Calls Tryz.prog 100 #[u1, u2, .func (.func 101) #[] #[]] w fun e w' => e = .returned (.bool (eqB l m)) ∧ Below w.heap.size w w' := by
  obtain ⟨A1, d1, xs1, rfl, hs1, hb1, hr1, hn1⟩ := hl.open_
  obtain ⟨A2, d2, xs2, rfl, hs2, hb2, hr2, hn2⟩ := hm.open_
  have HS1 := Lib.hid hs1
  have HR1 := Lib.hid hr1
  have HB1 := Lib.hid hb1
  have HS2 := Lib.hid hs2
  have HR2 := Lib.hid hr2
  have HB2 := Lib.hid hb2
  have HG := Lib.hid hg
  clear hs1 hr1 hs2 hr2 hg hl hm hb1 hb2
  by_cases hlen : l.length = m.length
  · have HLEN := Lib.hid hlen
    rw [← hlen]
    clear hlen
    go_enter Tryz.func100, Tryz.ntmps100
    go_wp2
    go_loopw [15] (fun i wr => ∃ k : Nat, i = .int .i64 k ∧ k ≤ l.length ∧ l.take k = m.take k ∧ Below w.heap.size w wr) (fun i _ => l.length - (intOf i).toNat)
    case atStart => exact ⟨0, rfl, by omega, rfl, Below.refl _ _⟩
    case round =>
      obtain ⟨k, rfl, hk, htk, hbw⟩ := hrel
      have HTK := Lib.hid htk
      clear htk
      by_cases hlt : k < l.length
      · have hlt2 : k < m.length := by rw [← HLEN.out]; exact hlt
        obtain ⟨a, ha⟩ : ∃ a, l[k]? = some a := ⟨_, List.getElem?_eq_getElem hlt⟩
        obtain ⟨b, hb⟩ : ∃ b, m[k]? = some b := ⟨_, List.getElem?_eq_getElem hlt2⟩
        obtain ⟨ad1, x1, y1, z1, rfl, hg1, hc1, p0, p1, p2⟩ := row3 vAt.len (sl_low HS1.out HB1.out (Lo.below hbw hB)) (HR1.out.imp fun a cs h => VRd.low (Lo.below hbw hB) h) ha
        obtain ⟨ad2, x2, y2, z2, rfl, hg2, hc2, q0, q1, q2⟩ := row3 vAt.len (sl_low HS2.out HB2.out (Lo.below hbw hB)) (HR2.out.imp fun a cs h => VRd.low (Lo.below hbw hB) h) hb
        have HC := Lib.hid (HG.out k a b ha hb _ _ _ _ _ _ wr.drew (hbw.trans (Below.refl _ _).drew) (VRd.low (Lo.below (Below.refl _ _).drew (Nat.le_trans hB hbw.size)) hc1) (VRd.low (Lo.below (Below.refl _ _).drew (Nat.le_trans hB hbw.size)) hc2))
        have HBW := Lib.hid hbw
        have HA := Lib.hid ha
        have HBb := Lib.hid hb
        obtain ⟨r, hr⟩ : ∃ r, eqB a b = r := ⟨_, rfl⟩
        rw [hr] at HC
        have HRR := Lib.hid hr
        have hS : wr.cell? (ad1.add (k * 3)) = some x1 ∧ wr.cell? ⟨(ad1.add (k * 3)).block, (ad1.add (k * 3)).off + 1, none⟩ = some y1 ∧ wr.cell? ⟨(ad1.add (k * 3)).block, (ad1.add (k * 3)).off + 2, none⟩ = some z1 ∧ wr.cell? (ad2.add (k * 3)) = some x2 ∧ wr.cell? ⟨(ad2.add (k * 3)).block, (ad2.add (k * 3)).off + 1, none⟩ = some y2 ∧ wr.cell? ⟨(ad2.add (k * 3)).block, (ad2.add (k * 3)).off + 2, none⟩ = some z2 := ⟨p0, p1, p2, q0, q1, q2⟩
        clear hc1 hc2 hbw ha hb hr
        go_wp2_with fail
        go_region_held3 (fun wy => wy.cell? (ad1.add (k * 3)) = some x1 ∧ wy.cell? ⟨(ad1.add (k * 3)).block, (ad1.add (k * 3)).off + 1, none⟩ = some y1 ∧ wy.cell? ⟨(ad1.add (k * 3)).block, (ad1.add (k * 3)).off + 2, none⟩ = some z1 ∧ wy.cell? (ad2.add (k * 3)) = some x2 ∧ wy.cell? ⟨(ad2.add (k * 3)).block, (ad2.add (k * 3)).off + 1, none⟩ = some y2 ∧ wy.cell? ⟨(ad2.add (k * 3)).block, (ad2.add (k * 3)).off + 2, none⟩ = some z2)
          (first | exact hS | exact ⟨cell_on hb1 p0, cell_on hb1 p1, cell_on hb1 p2, cell_on hb1 q0, cell_on hb1 q1, cell_on hb1 q2⟩ | go_keep)
          ((go_at_call 101; refine HC.out.mono ?_; rintro e w1 ⟨rfl, hb1⟩))
        cases r with
        | true =>
          go_wp2
          obtain rfl := eqB_iff.1 HRR.out
          refine ⟨⟨k + 1, ?_, by omega, eq_take_next HA.out HBb.out HTK.out, HBW.out.trans ((Below.refl _ _).drew.trans (hb1.mono HBW.out.size))⟩, ?_⟩
          · go_num
          · simp [intOf]; omega
        | false =>
          go_wp2
          go_ret
          exact ⟨by rw [eqB_no (eq_ne_at HA.out HBb.out (eqB_false HRR.out))]; rfl, HBW.out.trans ((Below.refl _ _).drew.trans (hb1.mono HBW.out.size))⟩
      · obtain rfl : k = l.length := by omega
        go_wp2
        go_ret
        have e : l = m := by
          have h := HTK.out
          rwa [List.take_length, HLEN.out, List.take_length] at h
        exact ⟨by rw [eqB_yes e]; rfl, hbw⟩
  · have hne : ((l.length : Int) == (m.length : Int)) = false := by rw [beq_eq_false_iff_ne]; omega
    have HE := Lib.hid (eqB_no (fun e : l = m => hlen (by rw [e])))
    go_enter Tryz.func100, Tryz.ntmps100
    go_wp2
    go_ret
    exact ⟨by rw [HE.out]; rfl, Below.refl _ _⟩
/-- The premise: what is told of two elements. -/
def sameslotP (B d : Nat) (w : World) (l m : List So) : Prop := ∀ (k : Nat) a b, l[k]? = some a → m[k]? = some b → ∀ x1 y1 z1 x2 y2 z2 wr, Below w.heap.size w wr → SAt' (Rd B wr) d a [x1, y1, z1] → SAt' (Rd B wr) d b [x2, y2, z2] → Calls Tryz.prog 58 #[.agg #[x1, y1, z1], .agg #[x2, y2, z2]] wr fun e w' => e = .returned (.bool (eqB a b)) ∧ Below wr.heap.size wr w'
set_option maxRecDepth 1000000 in
set_option maxHeartbeats 4000000 in
theorem same_slot (B d : Nat) (l m : List So) (u1 u2 : Value) (w : World) (hB : B ≤ w.heap.size) (hl : LsAt (Rd B w) 48 3 (SAt' (Rd B w) d) l u1) (hm : LsAt (Rd B w) 48 3 (SAt' (Rd B w) d) m u2) (hg : sameslotP B d w l m) :
    Calls Tryz.prog 57 #[u1, u2, .func (.func 58) #[] #[]] w fun e w' => e = .returned (.bool (eqB l m)) ∧ Below w.heap.size w w' := by
  obtain ⟨A1, d1, xs1, rfl, hs1, hb1, hr1, hn1⟩ := hl.open_
  obtain ⟨A2, d2, xs2, rfl, hs2, hb2, hr2, hn2⟩ := hm.open_
  have HS1 := Lib.hid hs1
  have HR1 := Lib.hid hr1
  have HB1 := Lib.hid hb1
  have HS2 := Lib.hid hs2
  have HR2 := Lib.hid hr2
  have HB2 := Lib.hid hb2
  have HG := Lib.hid hg
  clear hs1 hr1 hs2 hr2 hg hl hm hb1 hb2
  by_cases hlen : l.length = m.length
  · have HLEN := Lib.hid hlen
    rw [← hlen]
    clear hlen
    go_enter Tryz.func57, Tryz.ntmps57
    go_wp2
    go_loopw [15] (fun i wr => ∃ k : Nat, i = .int .i64 k ∧ k ≤ l.length ∧ l.take k = m.take k ∧ Below w.heap.size w wr) (fun i _ => l.length - (intOf i).toNat)
    case atStart => exact ⟨0, rfl, by omega, rfl, Below.refl _ _⟩
    case round =>
      obtain ⟨k, rfl, hk, htk, hbw⟩ := hrel
      have HTK := Lib.hid htk
      clear htk
      by_cases hlt : k < l.length
      · have hlt2 : k < m.length := by rw [← HLEN.out]; exact hlt
        obtain ⟨a, ha⟩ : ∃ a, l[k]? = some a := ⟨_, List.getElem?_eq_getElem hlt⟩
        obtain ⟨b, hb⟩ : ∃ b, m[k]? = some b := ⟨_, List.getElem?_eq_getElem hlt2⟩
        obtain ⟨ad1, x1, y1, z1, rfl, hg1, hc1, p0, p1, p2⟩ := row3 sAt.len (sl_low HS1.out HB1.out (Lo.below hbw hB)) (HR1.out.imp fun a cs h => SRd.low (Lo.below hbw hB) h) ha
        obtain ⟨ad2, x2, y2, z2, rfl, hg2, hc2, q0, q1, q2⟩ := row3 sAt.len (sl_low HS2.out HB2.out (Lo.below hbw hB)) (HR2.out.imp fun a cs h => SRd.low (Lo.below hbw hB) h) hb
        have HC := Lib.hid (HG.out k a b ha hb _ _ _ _ _ _ wr.drew (hbw.trans (Below.refl _ _).drew) (SRd.low (Lo.below (Below.refl _ _).drew (Nat.le_trans hB hbw.size)) hc1) (SRd.low (Lo.below (Below.refl _ _).drew (Nat.le_trans hB hbw.size)) hc2))
        have HBW := Lib.hid hbw
        have HA := Lib.hid ha
        have HBb := Lib.hid hb
        obtain ⟨r, hr⟩ : ∃ r, eqB a b = r := ⟨_, rfl⟩
        rw [hr] at HC
        have HRR := Lib.hid hr
        have hS : wr.cell? (ad1.add (k * 3)) = some x1 ∧ wr.cell? ⟨(ad1.add (k * 3)).block, (ad1.add (k * 3)).off + 1, none⟩ = some y1 ∧ wr.cell? ⟨(ad1.add (k * 3)).block, (ad1.add (k * 3)).off + 2, none⟩ = some z1 ∧ wr.cell? (ad2.add (k * 3)) = some x2 ∧ wr.cell? ⟨(ad2.add (k * 3)).block, (ad2.add (k * 3)).off + 1, none⟩ = some y2 ∧ wr.cell? ⟨(ad2.add (k * 3)).block, (ad2.add (k * 3)).off + 2, none⟩ = some z2 := ⟨p0, p1, p2, q0, q1, q2⟩
        clear hc1 hc2 hbw ha hb hr
        go_wp2_with fail
        go_region_held3 (fun wy => wy.cell? (ad1.add (k * 3)) = some x1 ∧ wy.cell? ⟨(ad1.add (k * 3)).block, (ad1.add (k * 3)).off + 1, none⟩ = some y1 ∧ wy.cell? ⟨(ad1.add (k * 3)).block, (ad1.add (k * 3)).off + 2, none⟩ = some z1 ∧ wy.cell? (ad2.add (k * 3)) = some x2 ∧ wy.cell? ⟨(ad2.add (k * 3)).block, (ad2.add (k * 3)).off + 1, none⟩ = some y2 ∧ wy.cell? ⟨(ad2.add (k * 3)).block, (ad2.add (k * 3)).off + 2, none⟩ = some z2)
          (first | exact hS | exact ⟨cell_on hb1 p0, cell_on hb1 p1, cell_on hb1 p2, cell_on hb1 q0, cell_on hb1 q1, cell_on hb1 q2⟩ | go_keep)
          ((go_at_call 58; refine HC.out.mono ?_; rintro e w1 ⟨rfl, hb1⟩))
        cases r with
        | true =>
          go_wp2
          obtain rfl := eqB_iff.1 HRR.out
          refine ⟨⟨k + 1, ?_, by omega, eq_take_next HA.out HBb.out HTK.out, HBW.out.trans ((Below.refl _ _).drew.trans (hb1.mono HBW.out.size))⟩, ?_⟩
          · go_num
          · simp [intOf]; omega
        | false =>
          go_wp2
          go_ret
          exact ⟨by rw [eqB_no (eq_ne_at HA.out HBb.out (eqB_false HRR.out))]; rfl, HBW.out.trans ((Below.refl _ _).drew.trans (hb1.mono HBW.out.size))⟩
      · obtain rfl : k = l.length := by omega
        go_wp2
        go_ret
        have e : l = m := by
          have h := HTK.out
          rwa [List.take_length, HLEN.out, List.take_length] at h
        exact ⟨by rw [eqB_yes e]; rfl, hbw⟩
  · have hne : ((l.length : Int) == (m.length : Int)) = false := by rw [beq_eq_false_iff_ne]; omega
    have HE := Lib.hid (eqB_no (fun e : l = m => hlen (by rw [e])))
    go_enter Tryz.func57, Tryz.ntmps57
    go_wp2
    go_ret
    exact ⟨by rw [HE.out]; rfl, Below.refl _ _⟩

/-- Same, of messages within so many levels. -/
def SameH (B d : Nat) : Prop := ∀ (a b : Mg) (u1 u2 : Value) (w : World), B ≤ w.heap.size → MRd B w d a u1 → MRd B w d b u2 → Calls Tryz.prog 31 #[.agg #[u1], .agg #[u2]] w fun e w' => e = .returned (.bool (eqB a b)) ∧ Below w.heap.size w w'
theorem two_boxes (w : World) (o1 o2 : Obj) : ((w.alloc o1).alloc o2).heap[w.heap.size]? = some o1 ∧ ((w.alloc o1).alloc o2).heap[w.heap.size + 1]? = some o2 ∧ Below w.heap.size w ((w.alloc o1).alloc o2) := by
  have h1 := heap_alloc_new w o1
  have hs : (w.alloc o1).heap.size = w.heap.size + 1 := by simp
  have h2 := heap_alloc_new (w.alloc o1) o2
  rw [hs] at h2
  exact ⟨box_on h1 (below_new _ _), h2, below_lit (below_new w o1) o2⟩
theorem msgsP {B d : Nat} (H : SameH B d) {w : World} (hB : B ≤ w.heap.size) (l m : List Mg) : samemsgP B d w l m := fun k a b ha hb x1 x2 wr hw h1 h2 => H a b x1 x2 wr (Nat.le_trans hB hw.size) h1 h2
set_option maxRecDepth 1000000 in
set_option maxHeartbeats 4000000 in
theorem sameVal_any {B d : Nat} (H : SameH B d) (a b : Vl') (a1 b1 : Value) (w : World) (hB : B ≤ w.heap.size) (ha : VAt (Rd B w) d a [.int .i64 a.n, .string (tx a.s), a1]) (hb : VAt (Rd B w) d b [.int .i64 b.n, .string (tx b.s), b1]) :
    Calls Tryz.prog 101 #[.agg #[.int .i64 a.n, .string (tx a.s), a1], .agg #[.int .i64 b.n, .string (tx b.s), b1]] w fun e w' => e = .returned (.bool (eqB a b)) ∧ Below w.heap.size w w' := by
  obtain ⟨u1, hu1, hl⟩ := ha
  obtain ⟨u2, hu2, hm⟩ := hb
  simp only [List.cons.injEq, and_true, true_and] at hu1 hu2
  subst hu1 hu2
  have HM := Lib.hid (fun wx (hx : Below w.heap.size w wx) => same_msg B d a.M b.M a1 b1 wx (Nat.le_trans hB hx.size) (hl.low (Lo.below hx hB) fun a cs h => MRd.low (Lo.below hx hB) h) (hm.low (Lo.below hx hB) fun a cs h => MRd.low (Lo.below hx hB) h) (msgsP H (Nat.le_trans hB hx.size) _ _))
  rw [eqB_val]
  obtain ⟨r, hr⟩ : ∃ r, eqB a.M b.M = r := ⟨_, rfl⟩
  rw [hr] at HM ⊢
  obtain ⟨n1, hn1⟩ : ∃ n, a.n = n := ⟨_, rfl⟩
  obtain ⟨n2, hn2⟩ : ∃ n, b.n = n := ⟨_, rfl⟩
  obtain ⟨s1, hs1⟩ : ∃ n, a.s = n := ⟨_, rfl⟩
  obtain ⟨s2, hs2⟩ : ∃ n, b.s = n := ⟨_, rfl⟩
  rw [hn1, hn2, hs1, hs2]
  clear hn1 hn2 hs1 hs2 hr hl hm H
  obtain ⟨X1, X2, LBD⟩ := two_boxes w (.cells #[.int .i64 n1, .string (tx s1), a1] 51) (.cells #[.int .i64 n2, .string (tx s2), b1] 51)
  by_cases hn : n1 = n2
  · subst hn
    by_cases hs : s1 = s2
    · subst hs
      go_enter Tryz.func101, Tryz.ntmps101
      go_wp2_with (go_at_call 152; refine (HM.out _ LBD).mono ?_; rintro e wK ⟨rfl, hbK⟩)
      all_goals
        go_ret
        exact ⟨by simp, below_then LBD hbK⟩
    · have h : ((tx s1).toList == (tx s2).toList) = false := by
        rw [beq_eq_false_iff_ne, ByteArray.toList_eq, ByteArray.toList_eq, tx_list, tx_list]
        exact hs
      have h2 : decide (s1 = s2) = false := by simp [hs]
      rw [h2]
      clear hs h2
      go_enter Tryz.func101, Tryz.ntmps101
      go_wp2
      go_ret
      exact ⟨by simp, LBD⟩
  · have h2 : decide (n1 = n2) = false := by simp [hn]
    rw [h2]
    have h3 : (n1 == n2) = false := by simp [hn]
    go_enter Tryz.func101, Tryz.ntmps101
    go_wp2
    go_ret
    exact ⟨by simp, LBD⟩
theorem valsP {B d : Nat} (H : SameH B d) {w : World} (hB : B ≤ w.heap.size) (l m : List Vl') : samevalP B d w l m := fun k a b ha hb x1 y1 z1 x2 y2 z2 wr hw h1 h2 => by
  have h1' := h1
  have h2' := h2
  obtain ⟨u, hu, _⟩ := h1
  obtain ⟨u', hu', _⟩ := h2
  simp only [List.cons.injEq, and_true] at hu hu'
  obtain ⟨rfl, rfl, rfl⟩ := hu
  obtain ⟨rfl, rfl, rfl⟩ := hu'
  exact sameVal_any H a b z1 z2 wr (Nat.le_trans hB hw.size) h1' h2'
set_option maxRecDepth 1000000 in
set_option maxHeartbeats 4000000 in
theorem sameSlot_any {B d : Nat} (H : SameH B d) (a b : So) (a1 a2 b1 b2 : Value) (w : World) (hB : B ≤ w.heap.size) (ha : SAt' (Rd B w) d a [.int .i64 a.no, a1, a2]) (hb : SAt' (Rd B w) d b [.int .i64 b.no, b1, b2]) :
    Calls Tryz.prog 58 #[.agg #[.int .i64 a.no, a1, a2], .agg #[.int .i64 b.no, b1, b2]] w fun e w' => e = .returned (.bool (eqB a b)) ∧ Below w.heap.size w w' := by
  obtain ⟨u1, u2, hu, hk1, hv1⟩ := ha
  obtain ⟨u3, u4, hu', hk2, hv2⟩ := hb
  simp only [List.cons.injEq, and_true, true_and] at hu hu'
  obtain ⟨rfl, rfl⟩ := hu
  obtain ⟨rfl, rfl⟩ := hu'
  have HK := Lib.hid (fun wx (hx : Below w.heap.size w wx) => same_val B d a.K b.K a1 b1 wx (Nat.le_trans hB hx.size) (hk1.low (Lo.below hx hB) fun a cs h => VRd.low (Lo.below hx hB) h) (hk2.low (Lo.below hx hB) fun a cs h => VRd.low (Lo.below hx hB) h) (valsP H (Nat.le_trans hB hx.size) _ _))
  have HV := Lib.hid (fun wx (hx : Below w.heap.size w wx) => same_val B d a.V b.V a2 b2 wx (Nat.le_trans hB hx.size) (hv1.low (Lo.below hx hB) fun a cs h => VRd.low (Lo.below hx hB) h) (hv2.low (Lo.below hx hB) fun a cs h => VRd.low (Lo.below hx hB) h) (valsP H (Nat.le_trans hB hx.size) _ _))
  rw [eqB_slot]
  obtain ⟨rk, hrk⟩ : ∃ r, eqB a.K b.K = r := ⟨_, rfl⟩
  obtain ⟨rv, hrv⟩ : ∃ r, eqB a.V b.V = r := ⟨_, rfl⟩
  rw [hrk] at HK ⊢
  rw [hrv] at HV ⊢
  obtain ⟨n1, hn1⟩ : ∃ n, a.no = n := ⟨_, rfl⟩
  obtain ⟨n2, hn2⟩ : ∃ n, b.no = n := ⟨_, rfl⟩
  rw [hn1, hn2]
  clear hn1 hn2 hrk hrv hk1 hk2 hv1 hv2 H
  obtain ⟨X1, X2, LBD⟩ := two_boxes w (.cells #[.int .i64 n1, a1, a2] 48) (.cells #[.int .i64 n2, b1, b2] 48)
  by_cases hn : n1 = n2
  · subst hn
    cases rk with
    | true =>
      go_enter Tryz.func58, Tryz.ntmps58
      go_wp2_with (go_at_call 100; first
        | (with_reducible refine (HK.out _ LBD).mono ?_; rintro e wK ⟨rfl, hbK⟩; have y1 : wK.cell? ⟨w.heap.size, 2, none⟩ = some a2 := (bx3 (box_on X1 hbK)).2.2; have y2 : wK.cell? ⟨w.heap.size + 1, 2, none⟩ = some b2 := (bx3 (box_on X2 hbK)).2.2)
        | (with_reducible refine (HV.out _ (below_then LBD hbK)).mono ?_; rintro e wV ⟨rfl, hbV⟩))
      all_goals
        go_ret
        exact ⟨by simp, below_then (below_then LBD hbK) hbV⟩
    | false =>
      go_enter Tryz.func58, Tryz.ntmps58
      go_wp2_with (go_at_call 100; with_reducible refine (HK.out _ LBD).mono ?_; rintro e wK ⟨rfl, hbK⟩)
      go_ret
      exact ⟨by simp, below_then LBD hbK⟩
  · have h2 : decide (n1 = n2) = false := by simp [hn]
    rw [h2]
    have h3 : (n1 == n2) = false := by simp [hn]
    go_enter Tryz.func58, Tryz.ntmps58
    go_wp2
    go_ret
    exact ⟨by simp, LBD⟩
theorem slotsP {B d : Nat} (H : SameH B d) {w : World} (hB : B ≤ w.heap.size) (l m : List So) : sameslotP B d w l m := fun k a b ha hb x1 y1 z1 x2 y2 z2 wr hw h1 h2 => by
  have h1' := h1
  have h2' := h2
  obtain ⟨u, v, hu, _⟩ := h1
  obtain ⟨u', v', hu', _⟩ := h2
  simp only [List.cons.injEq, and_true] at hu hu'
  obtain ⟨rfl, rfl, rfl⟩ := hu
  obtain ⟨rfl, rfl, rfl⟩ := hu'
  exact sameSlot_any H a b y1 z1 y2 z2 wr (Nat.le_trans hB hw.size) h1' h2'
theorem same_step {B d : Nat} (H : SameH B d) : SameH B (d + 1) := by
  rintro a b u1 u2 w hB ⟨u, hu, hl⟩ ⟨u', hu', hm⟩
  simp only [List.cons.injEq, and_true] at hu hu'
  subst hu hu'
  obtain ⟨X1, X2, LBD⟩ := two_boxes w (.cells #[u1] 36) (.cells #[u2] 36)
  have hT := same_slot B d a.F b.F u1 u2 _ (Nat.le_trans hB LBD.size) (hl.low (Lo.below LBD hB) fun a cs h => SRd.low (Lo.below LBD hB) h) (hm.low (Lo.below LBD hB) fun a cs h => SRd.low (Lo.below LBD hB) h) (slotsP H (Nat.le_trans hB LBD.size) _ _)
  rw [eqB_msg]
  obtain ⟨q, hq⟩ : ∃ q, eqB a.F b.F = q := ⟨_, rfl⟩
  rw [hq] at hT ⊢
  have HT := Lib.hid hT
  clear hT hl hm hq H
  go_enter Tryz.func31, Tryz.ntmps31
  go_wp2_with (go_at_call 57; refine HT.out.mono ?_; rintro e w1 ⟨rfl, hb1⟩)
  go_ret
  exact ⟨rfl, LBD.trans (hb1.mono LBD.size)⟩
/-- value.Same, of any two messages. -/
theorem same_any9 (B : Nat) : ∀ d, SameH B d
  | 0 => fun _ _ _ _ _ _ h _ => h.elim
  | d + 1 => same_step (same_any9 B d)
end Go.Proofs.YtipaangiehdgkaaGreatDoor.T9
/-
  A message of one's own: value's Own, and the copies below it.
-/
namespace Go.Proofs.YtipaangiehdgkaaGreatDoor.T9
set_option maxRecDepth 100000

open Go.RowKit

/-! ### Rows of the call's own -/

theorem own_hi {w w' : World} {b : Nat} {e : TypeId} {size : Nat} {v : Value} {n : Nat} {xs : List Value} (h : w.ownsRow b e size v n xs) (hk : ∀ k, b ≤ k → k < w.heap.size → w'.heap[k]? = w.heap[k]?) : w'.ownsRow b e size v n xs := by
  rcases h with ⟨hl, ⟨rfl, rfl⟩ | ⟨g, cap, cur, rfl, h1, h2, h3⟩⟩
  · exact ⟨hl, .inl ⟨rfl, rfl⟩⟩
  · exact ⟨hl, .inr ⟨g, cap, cur, rfl, h1, (hk g h1 (box_lt h2)).trans h2, h3⟩⟩
theorem own_less {w : World} {b b' : Nat} {e : TypeId} {size : Nat} {v : Value} {n : Nat} {xs : List Value} (h : w.ownsRow b e size v n xs) (hb : b' ≤ b) : w.ownsRow b' e size v n xs := by
  rcases h with ⟨hl, ⟨rfl, rfl⟩ | ⟨g, cap, cur, rfl, h1, h2⟩⟩
  · exact ⟨hl, .inl ⟨rfl, rfl⟩⟩
  · exact ⟨hl, .inr ⟨g, cap, cur, rfl, Nat.le_trans hb h1, h2⟩⟩
theorem Ow.hi {w w' : World} {b : Nat} (hk : ∀ k, b ≤ k → k < w.heap.size → w'.heap[k]? = w.heap[k]?) (e : TypeId) (size : Nat) (v : Value) (n : Nat) (xs : List Value) (h : Ow b w e size v n xs) : Ow b w' e size v n xs := ⟨own_hi h.1 hk, h.2⟩
theorem Ow.less {w : World} {b b' : Nat} (hb : b' ≤ b) (e : TypeId) (size : Nat) (v : Value) (n : Nat) (xs : List Value) (h : Ow b w e size v n xs) : Ow b' w e size v n xs := ⟨own_less h.1 hb, h.2⟩
theorem Ow.hi' {w w' : World} {b b' : Nat} (hk : ∀ k, b ≤ k → k < w.heap.size → w'.heap[k]? = w.heap[k]?) (hb : b' ≤ b) (e : TypeId) (size : Nat) (v : Value) (n : Nat) (xs : List Value) (h : Ow b w e size v n xs) : Ow b' w' e size v n xs := ⟨own_less (own_hi h.1 hk) hb, h.2⟩
theorem hi_below {w w' : World} (b : Nat) (h : Below w.heap.size w w') : ∀ k, b ≤ k → k < w.heap.size → w'.heap[k]? = w.heap[k]? := fun k _ hk => h.block k hk
theorem hi_grown {w w' : World} {b g : Nat} (h : w.grownBy w' (some g)) (hg : g < b) : ∀ k, b ≤ k → k < w.heap.size → w'.heap[k]? = w.heap[k]? := fun k hk hk2 => h.block k hk2 (by simp; omega)
def setL : List Value → Nat → List Value → List Value
  | xs, _, [] => xs
  | xs, o, v :: r => setL (xs.set o v) (o + 1) r
theorem setL_mid : ∀ (vs old pre post : List Value), old.length = vs.length → setL (pre ++ (old ++ post)) pre.length vs = pre ++ (vs ++ post)
  | [], [], pre, post, _ => rfl
  | [], u :: old, pre, post, h => by simp at h
  | v :: r, old, pre, post, h => by
    cases old with
    | nil => simp at h
    | cons u old =>
      have h1 : (pre ++ (u :: old ++ post)).set pre.length v = (pre ++ [v]) ++ (old ++ post) := by simp
      have h2 := setL_mid r old (pre ++ [v]) post (by simpa using h)
      rw [setL, h1]
      rw [show (pre ++ [v]).length = pre.length + 1 by simp] at h2
      rw [h2]
      simp
theorem own_setCells {base : Nat} {e : TypeId} {size g n cap : Nat} : ∀ (vs : List Value) (o : Nat) (xs : List Value) (w : World), w.ownsRow base e size (.slice (some ⟨g, 0, none⟩) n cap) n xs →
    (w.setCells g o vs).ownsRow base e size (.slice (some ⟨g, 0, none⟩) n cap) n (setL xs o vs) ∧ w.grownBy (w.setCells g o vs) (some g)
  | [], _, _, w, h => ⟨h, World.grownBy.refl w _⟩
  | v :: r, o, xs, w, h => by
    obtain ⟨h1, h2⟩ := h.stored o v
    obtain ⟨h3, h4⟩ := own_setCells r (o + 1) _ _ h1
    exact ⟨h3, ⟨h4.os.trans h2.os, h4.tape.trans h2.tape, h4.output.trans h2.output, Nat.le_trans h2.size h4.size, fun k hk hn => (h4.block k (Nat.lt_of_lt_of_le hk h2.size) hn).trans (h2.block k hk hn)⟩⟩
theorem own_there {w : World} {base : Nat} {e : TypeId} {size g n cap : Nat} {xs : List Value} (h : w.ownsRow base e size (.slice (some ⟨g, 0, none⟩) n cap) n xs) {o m : Nat} (hm : o + m ≤ n * size) : w.there g o m := fun j hj => by
  refine ⟨?_, h.frozenAt _⟩
  rw [h.cellAt (o + j) (by omega), List.getElem?_eq_getElem (by rw [h.1]; omega)]
  rfl
theorem below_own {w w' : World} {B g : Nat} (h : w.grownBy w' (some g)) (hB : B ≤ g) (hs : B ≤ w.heap.size) : Below B w w' := ⟨h.os, h.tape, h.output, h.size, fun k hk => h.block k (by omega) (by simp; omega)⟩
theorem below_none {w w' : World} (h : w.grownBy w' none) : Below w.heap.size w w' := ⟨h.os, h.tape, h.output, h.size, fun k hk => h.block k hk (by simp)⟩
theorem vAt.oneO {b : Nat} {w : World} {G : Mg → List Value → Prop} (v : Vl') (cs : List Value) (h : vAt (Ow b w) G v cs) : ∀ u ∈ cs, u.oneCell' = true := by
  obtain ⟨u, rfl, xs, h1, h2⟩ := h
  exact vAt.one (B := w.heap.size) (w := w) (G := G) v _ ⟨u, rfl, xs, Rd.of_own _ _ _ _ _ h1, h2⟩
theorem sAt.oneO {b : Nat} {w : World} {G : Mg → List Value → Prop} (v : So) (cs : List Value) (h : sAt (Ow b w) G v cs) : ∀ u ∈ cs, u.oneCell' = true := by
  obtain ⟨u1, u2, rfl, ⟨xs, h1, _⟩, ys, h2, _⟩ := h
  intro x hx
  simp only [List.mem_cons, List.not_mem_nil, or_false] at hx
  rcases hx with rfl | rfl | rfl
  · rfl
  · exact (Rd.of_own _ _ _ _ _ h1).one
  · exact (Rd.of_own _ _ _ _ _ h2).one
theorem MAt.oneO {b : Nat} {w : World} {d : Nat} (m : Mg) (cs : List Value) (h : MAt (Ow b w) d m cs) : ∀ u ∈ cs, u.oneCell' = true := MAt.one m cs (MAt.imp (fun e size v n xs h => Rd.of_own e size v n xs h) d m cs h)
theorem info_slot : (Tryz.prog.info? 48).map (fun i => (i.zero, i.size, i.bytes)) = some (some (.agg #[.int .i64 0, .slice none 0 0, .slice none 0 0]), 3, 56) := by kernel_rfl
theorem info_val : (Tryz.prog.info? 51).map (fun i => (i.zero, i.size, i.bytes)) = some (some (.agg #[.int .i64 0, .string ⟨#[]⟩, .slice none 0 0]), 3, 48) := by kernel_rfl
theorem info_msg : (Tryz.prog.info? 36).map (fun i => (i.zero, i.size, i.bytes)) = some (some (.agg #[.slice none 0 0]), 1, 24) := by kernel_rfl
theorem sz_slot : (Tryz.prog.info? 48).map (·.size) = some 3 := by kernel_rfl
theorem sz_val : (Tryz.prog.info? 51).map (·.size) = some 3 := by kernel_rfl
theorem sz_msg : (Tryz.prog.info? 36).map (·.size) = some 1 := by kernel_rfl
/-- A box of three cells that may be written. -/
def Wr3 (g : Nat) (a b c : Value) (w : World) : Prop := (w.cell? ⟨g, 0, none⟩ = some a ∧ w.cell? ⟨g, 1, none⟩ = some b ∧ w.cell? ⟨g, 2, none⟩ = some c) ∧ w.frozen? ⟨g, 0, none⟩ = false ∧ w.frozen? ⟨g, 1, none⟩ = false ∧ w.frozen? ⟨g, 2, none⟩ = false
theorem wr3 {w : World} {g : Nat} {a b c : Value} {t : TypeId} (h : w.heap[g]? = some (.cells #[a, b, c] t (0, 0))) : Wr3 g a b c w := ⟨bx3 h, by simp [World.frozen?, h], by simp [World.frozen?, h], by simp [World.frozen?, h]⟩
theorem three_set {w : World} {g : Nat} {a b c : Value} {t : TypeId} (h : w.heap[g]? = some (.cells #[a, b, c] t (0, 0))) (x y z : Value) :
    (((w.setCell ⟨g, 0, none⟩ x).setCell ⟨g, 1, none⟩ y).setCell ⟨g, 2, none⟩ z).heap[g]? = some (.cells #[x, y, z] t (0, 0)) ∧ w.grownBy (((w.setCell ⟨g, 0, none⟩ x).setCell ⟨g, 1, none⟩ y).setCell ⟨g, 2, none⟩ z) (some g) := by
  have h1 := heap_setCell_same w g 0 #[a, b, c] t x h
  have h2 := heap_setCell_same _ g 1 _ t y h1
  have h3 := heap_setCell_same _ g 2 _ t z h2
  refine ⟨h3, ⟨rfl, rfl, rfl, by simp, fun k _ hk => ?_⟩⟩
  have hne : k ≠ g := fun e => hk (by rw [e])
  rw [heap_setCell_other _ ⟨g, 2, none⟩ k z hne, heap_setCell_other _ ⟨g, 1, none⟩ k y hne, heap_setCell_other _ ⟨g, 0, none⟩ k x hne]
theorem two_boxesD (w : World) (o1 o2 : Obj) : ((w.alloc o1).alloc o2).drew.heap[w.heap.size]? = some o1 ∧ ((w.alloc o1).alloc o2).drew.heap[w.heap.size + 1]? = some o2 ∧ Below w.heap.size w ((w.alloc o1).alloc o2).drew := by
  obtain ⟨h1, h2, h3⟩ := two_boxes w o1 o2
  exact ⟨h1, h2, h3.trans (Below.refl _ _).drew⟩
theorem two_size (w : World) (o1 o2 : Obj) : w.heap.size + 2 ≤ ((w.alloc o1).alloc o2).drew.heap.size := by
  have := box_lt (two_boxesD w o1 o2).2.1
  omega
theorem ownSlot_end {w wl : World} {d b : Nat} {s : So} {q1 q2 : Value} {t : TypeId} {u0 u1 u2 : Value} (hb : b ≤ w.heap.size) (X : wl.heap[w.heap.size + 1]? = some (.cells #[u0, u1, u2] t (0, 0)))
    (hk : LsAt (Ow (w.heap.size + 2) wl) 51 3 (VAt (Ow (w.heap.size + 2) wl) d) s.K q1) (hv : LsAt (Ow (w.heap.size + 2) wl) 51 3 (VAt (Ow (w.heap.size + 2) wl) d) s.V q2) (hB : Below w.heap.size w wl) :
    ∃ w4, (((wl.setCell ⟨w.heap.size + 1, 0, none⟩ (.int .i64 s.no)).setCell ⟨w.heap.size + 1, 1, none⟩ q1).setCell ⟨w.heap.size + 1, 2, none⟩ q2) = w4 ∧ w4.heap[w.heap.size + 1]? = some (.cells #[.int .i64 s.no, q1, q2] t (0, 0)) ∧
      SAt' (Ow b w4) d s [.int .i64 s.no, q1, q2] ∧ Below w.heap.size w w4 := by
  obtain ⟨Z1, Z2⟩ := three_set X (.int .i64 s.no) q1 q2
  have hhi := hi_grown Z2 (Nat.lt_succ_self (w.heap.size + 1))
  have hb2 : b ≤ w.heap.size + 2 := by omega
  refine ⟨_, rfl, Z1, ⟨q1, q2, rfl, ?_, ?_⟩, hB.trans (below_own Z2 (Nat.le_succ _) hB.size)⟩
  · exact hk.imp (Ow.hi' hhi hb2) fun a cs h => vAt.imp (Ow.hi' hhi hb2) (fun m cs h => MAt.imp (Ow.hi' hhi hb2) d m cs h) _ _ h
  · exact hv.imp (Ow.hi' hhi hb2) fun a cs h => vAt.imp (Ow.hi' hhi hb2) (fun m cs h => MAt.imp (Ow.hi' hhi hb2) d m cs h) _ _ h
theorem vals_on {w w' : World} {b d : Nat} {l : List Vl'} {q : Value} (hb : Below w.heap.size w w') (h : LsAt (Ow b w) 51 3 (VAt (Ow b w) d) l q) : LsAt (Ow b w') 51 3 (VAt (Ow b w') d) l q :=
  h.imp (Ow.hi (hi_below b hb)) fun a cs h => vAt.imp (Ow.hi (hi_below b hb)) (fun m cs h => MAt.imp (Ow.hi (hi_below b hb)) d m cs h) _ _ h
end Go.Proofs.YtipaangiehdgkaaGreatDoor.T9
/-
  slices.Insert at slots: one slot goes into a row of the call's own.
-/
namespace Go.Proofs.YtipaangiehdgkaaGreatDoor.T9
set_option maxRecDepth 100000

open Go.RowKit

section

variable {P : Program}

/-- copy, of elements of so many cells, into a row that is wholly known. -/
theorem run_copy_many (w : World) (dT sT ty elem : TypeId) (g o dLen dCap : Nat) (a : Addr) (sLen sCap : Nat) (cur : Array Value) (t : TypeId) (cs : List Value) (k n : Nat)
    (hu : P.underlying dT = some (.slice elem)) (hs : (P.info? elem).map (·.size) = some k)
    (hg : w.heap[g]? = some (.cells cur t (0, 0))) (hn : Nat.min sLen dLen = n) (hcs : cs.length = n * k)
    (hsrc : ∀ j v, cs[j]? = some v → w.cell? (a.add j) = some v) (hfit : o + cs.length ≤ cur.size) (h1 : ∀ v ∈ cs, v.oneCell' = true) :
    (Builtin.copy_ #[dT, sT] ty #[.slice (some ⟨g, o, none⟩) dLen dCap, .slice (some a) sLen sCap]).run P w =
      .ok (goInt n) (w.setRow g (cur.toList.take o ++ cs ++ cur.toList.drop (o + cs.length)).toArray) := by
  have hl := run_loadCells_list (P := P) w a cs hsrc
  have hst := run_storeCells_at P g o t cs 0 cur w hg (by simpa using hfit) h1
  rw [hcs] at hl
  cases hq : P.info? elem with
  | none => simp [hq] at hs
  | some i =>
    have hi : i.size = k := by simpa [hq] using hs
    simp [Builtin.copy_, run_underlying hu, Builtin.lenOf, Builtin.firstCells, sizeOf, typeInfo, hq, hi, hn, hl, hst]
theorem wpList_copy_is (w : World) {ops : Array Oper} {rest : List Oper} {o : Oper} {a : Act} {Q : Exit → Act → World → Prop} (hgd : o.guard = none) (d s : Operand) (t t' : TypeId)
    (ho : o.op = .call { callee := .builtin .copy, args := #[d, s], argTypes := #[t, t'] }) (v u : Value) (hd : a.eval d = v) (hs : a.eval s = u) {v' : Value} {w' : World}
    (hr : (Builtin.copy_ #[t, t'] o.type #[v, u]).run P w = .ok v' w') (h : wpList P ops Q rest (a.put o.dst v') w') : wpList P ops Q (o :: rest) a w :=
  wpList_plain hgd fun _ hK => by
    unfold Oper.wp execOp
    simp only [ho, resolve, invoke, builtin, Sem.run_bind, Sem.run_pure, Result.andThen_ok, List.map_toArray, List.map_cons, List.map_nil, hd, hs, hr]
    exact hK _ _ h
theorem step_copy_is {ops : Array Oper} {o : Oper} {a : Act} {w : World} {K : Act → World → Prop} {Q : Exit → Act → World → Prop} {E : Prop}
    (hg : o.guard = none) (d x : Operand) (dT sT : TypeId) (hop : o.op = Op.call { callee := Callee.builtin Builtin.copy, args := #[d, x], argTypes := #[dT, sT] })
    (v u : Value) (hd : a.eval d = v) (hx : a.eval x = u) {v' : Value} {w' : World} (hr : (Builtin.copy_ #[dT, sT] o.type #[v, u]).run P w = .ok v' w') (hK : K (a.put o.dst v') w') :
    if Region.wanted o (yielded ops a.tmps) = true then Oper.wp P o a w K Q else E := by
  have hw : Region.wanted o (yielded ops a.tmps) = true := by simp [Region.wanted, hg]
  rw [if_pos hw]
  unfold Oper.wp
  simp [execOp, hop, resolve, invoke, builtin, hd, hx, hr, Result.andThen]
  exact hK
end

/-- What an insertion makes of a row's cells. -/
theorem mid_cells {α : Type} {L xs vs : List α} {n cap i : Nat} (hi : i < n) (hc : n + 1 ≤ cap) (hL : L.length = cap * 3) (hx : L.take (n * 3) = xs) (hv : vs.length = 3) :
    ∀ L1 L2, L1 = L.take ((i + 1) * 3) ++ xs.drop (i * 3) ++ L.drop ((i + 1) * 3 + (xs.drop (i * 3)).length) → L2 = L1.take (i * 3) ++ vs ++ L1.drop (i * 3 + vs.length) →
      L1.length = cap * 3 ∧ L2.length = cap * 3 ∧ L2.take ((n + 1) * 3) = xs.take (i * 3) ++ vs ++ xs.drop (i * 3) := by
  intro L1 L2 h1 h2
  have hxl : xs.length = n * 3 := by rw [← hx, List.length_take]; omega
  have hl1 : L1.length = cap * 3 := by rw [h1]; simp only [List.length_append, List.length_take, List.length_drop, hxl, hL]; omega
  have hl2 : L2.length = cap * 3 := by rw [h2]; simp only [List.length_append, List.length_take, List.length_drop, hl1, hv]; omega
  refine ⟨hl1, hl2, ?_⟩
  have e1 : L1.take (i * 3) = xs.take (i * 3) := by
    rw [h1, List.append_assoc, List.take_append_of_le_length (by rw [List.length_take]; omega), List.take_take, ← hx, List.take_take]
    congr 1
    omega
  have e2 : (L1.drop (i * 3 + 3)).take ((n - i) * 3) = xs.drop (i * 3) := by
    have hll : (L.take ((i + 1) * 3)).length = i * 3 + 3 := by rw [List.length_take]; omega
    rw [h1, List.append_assoc, List.drop_append, hll, List.drop_of_length_le (by omega), Nat.sub_self, List.drop_zero, List.nil_append, List.take_append_of_le_length (by rw [List.length_drop]; omega), List.take_of_length_le (by rw [List.length_drop]; omega)]
  have hal : (xs.take (i * 3) ++ vs).length = i * 3 + 3 := by rw [List.length_append, List.length_take, hv]; omega
  have e3 : (xs.take (i * 3) ++ vs).take ((n + 1) * 3) = xs.take (i * 3) ++ vs := List.take_of_length_le (by rw [hal]; omega)
  rw [h2, e1, hv, List.take_append, hal, e3, show (n + 1) * 3 - (i * 3 + 3) = (n - i) * 3 by omega, e2]
theorem grow_cells {α : Type} {R xs vs : List α} {n G i : Nat} (hi : i < n) (hG : n + 1 ≤ G) (hR : R.length = G * 3) (hx : xs.length = n * 3) (hv : vs.length = 3) (hr : R.take (i * 3) = xs.take (i * 3)) :
    ∀ L1 L2, L1 = R.take (i * 3) ++ vs ++ R.drop (i * 3 + vs.length) → L2 = L1.take ((i + 1) * 3) ++ xs.drop (i * 3) ++ L1.drop ((i + 1) * 3 + (xs.drop (i * 3)).length) →
      L1.length = G * 3 ∧ L2.length = G * 3 ∧ L2.take ((n + 1) * 3) = xs.take (i * 3) ++ vs ++ xs.drop (i * 3) := by
  intro L1 L2 h1 h2
  have hl1 : L1.length = G * 3 := by rw [h1]; simp only [List.length_append, List.length_take, List.length_drop, hR, hv]; omega
  have hl2 : L2.length = G * 3 := by rw [h2]; simp only [List.length_append, List.length_take, List.length_drop, hl1, hx]; omega
  refine ⟨hl1, hl2, ?_⟩
  have hal : (xs.take (i * 3) ++ vs).length = (i + 1) * 3 := by rw [List.length_append, List.length_take, hv]; omega
  have e1 : L1.take ((i + 1) * 3) = xs.take (i * 3) ++ vs := by
    rw [h1, hr, List.take_append, hal, Nat.sub_self, List.take_zero, List.append_nil]
    exact List.take_of_length_le (by rw [hal]; omega)
  have hal2 : (xs.take (i * 3) ++ vs ++ xs.drop (i * 3)).length = (n + 1) * 3 := by rw [List.length_append, hal, List.length_drop]; omega
  rw [h2, e1, List.take_append, hal2, Nat.sub_self, List.take_zero, List.append_nil]
  exact List.take_of_length_le (by rw [hal2]; omega)
end Go.Proofs.YtipaangiehdgkaaGreatDoor.T9
/-
  A slot that is got, and set; a value that is less: value's Get, Set, Less.
-/
namespace Go.Proofs.YtipaangiehdgkaaGreatDoor.T9
set_option maxRecDepth 100000

open Go.RowKit

/-! ### The functions that tell of a slot -/

theorem sAt.head {R : RP} {G : Mg → List Value → Prop} {a : So} {x y z : Value} (h : sAt R G a [x, y, z]) : x = .int .i64 a.no := by
  obtain ⟨u1, u2, hu, _⟩ := h
  simp only [List.cons.injEq] at hu
  exact hu.1

/-! ### The first of which something is so, and all of which something is so -/

theorem findIdx_next {l : List So} {p : So → Bool} {k : Nat} (h : ∀ j y, j < k → l[j]? = some y → p y = false) (hk : k ≤ l.length) : k ≤ l.findIdx p := by
  rcases Nat.lt_or_ge (l.findIdx p) k with hlt | hge
  · have h1 : l.findIdx p < l.length := by omega
    have h2 := List.findIdx_getElem (w := h1)
    rw [h _ _ hlt (List.getElem?_eq_getElem h1)] at h2
    cases h2
  · exact hge
theorem findIdx_here {l : List So} {p : So → Bool} {k : Nat} {a : So} (h : ∀ j y, j < k → l[j]? = some y → p y = false) (ha : l[k]? = some a) (hp : p a = true) : l.findIdx p = k := by
  obtain ⟨hk, rfl⟩ := List.getElem?_eq_some_iff.1 ha
  refine Nat.le_antisymm ?_ (findIdx_next h (Nat.le_of_lt hk))
  rcases Nat.lt_or_ge k (l.findIdx p) with hlt | hge
  · have h1 := List.not_of_lt_findIdx hlt
    rw [hp] at h1
    cases h1
  · exact hge
theorem lit3 (w : World) (x y z : Value) (t : TypeId) : Sl (w.alloc (.cells #[x, y, z] t)) (some ⟨w.heap.size, 0, none⟩) 1 1 3 [x, y, z] := by
  refine ⟨by simp, by omega, by unfold maxLen; omega, by simp, fun ad ha _ => ?_, fun ad ha k u hu => ?_⟩
  · obtain rfl := Option.some.inj ha
    simp
  · obtain rfl := Option.some.inj ha
    rw [Addr.add_lit, World.cell?_alloc_at _ _ _ _ rfl]
    simpa using hu
theorem below_rows {w w1 w' : World} {B : Nat} {e : TypeId} {size : Nat} {v : Value} {n : Nat} {xs : List Value} (h : w1.ownsRow B e size v n xs) (hg : w.grownBy w' v.ownBlock) (hs : B ≤ w.heap.size) : Below B w w' :=
  ⟨hg.os, hg.tape, hg.output, hg.size, fun k hk => hg.block k (by omega) (fun e => by have := own_ge h k e.symm; omega)⟩
theorem three_boxes (w : World) (o1 o2 o3 : Obj) : (((w.alloc o1).alloc o2).alloc o3).heap[w.heap.size]? = some o1 ∧ (((w.alloc o1).alloc o2).alloc o3).heap[w.heap.size + 1]? = some o2 ∧ (((w.alloc o1).alloc o2).alloc o3).heap[w.heap.size + 2]? = some o3 ∧ Below w.heap.size w (((w.alloc o1).alloc o2).alloc o3) := by
  obtain ⟨h1, h2, h3⟩ := two_boxes w o1 o2
  have h4 := heap_alloc_new ((w.alloc o1).alloc o2) o3
  have hs : ((w.alloc o1).alloc o2).heap.size = w.heap.size + 2 := by simp
  rw [hs] at h4
  exact ⟨box_on h1 (below_new _ _), box_on h2 (below_new _ _), h4, below_lit h3 o3⟩
/-- A box of one cell that is written. -/
theorem one_set {w : World} {g : Nat} {a : Value} {t : TypeId} (h : w.heap[g]? = some (.cells #[a] t (0, 0))) (x : Value) :
    (w.setCell ⟨g, 0, none⟩ x).heap[g]? = some (.cells #[x] t (0, 0)) ∧ w.grownBy (w.setCell ⟨g, 0, none⟩ x) (some g) :=
  ⟨heap_setCell_same w g 0 #[a] t x h, ⟨rfl, rfl, rfl, by simp, fun k _ hk => heap_setCell_other _ ⟨g, 0, none⟩ k _ (fun e => hk (by simp [e]))⟩⟩
theorem own_ls {w : World} {b D : Nat} {l : List So} {v : Value} {xs : List Value} (h : w.ownsRow b 48 3 v l.length xs) (hn : l.length ≤ 10000000000000) {B : Nat} (hB : B ≤ w.heap.size) (hr : Rows (SAt' (Rd B w) D) l xs) : LsAt (Rd w.heap.size w) 48 3 (SAt' (Rd w.heap.size w) D) l v :=
  ⟨xs, ⟨Rr.of_own h, hn⟩, hr.imp fun a cs h => SRd.mono hB h⟩
theorem msg_moved {w w' : World} {b b' D : Nat} {m : Mg} {x : Value} (hk : ∀ k, b ≤ k → k < w.heap.size → w'.heap[k]? = w.heap[k]?) (hb : b' ≤ b) (h : MAt (Ow b w) D m [x]) : MAt (Ow b' w') D m [x] := MAt.imp (Ow.hi' hk hb) D m _ h
theorem sm_filter_le (l : List So) (p : So → Bool) (g : So → Nat) : sm ((l.filter p).map g) ≤ sm (l.map g) := by
  induction l with
  | nil => simp
  | cons a l ih =>
    by_cases h : p a = true
    · rw [List.filter_cons_of_pos h]; simp only [List.map_cons, sm]; omega
    · rw [List.filter_cons_of_neg h]; simp only [List.map_cons, sm]; omega
theorem sm_put (l : List So) (s : So) (g : So → Nat) : sm ((putS l s).map g) = sm (l.map g) + g s := by
  unfold putS
  have h : sm (l.map g) = sm ((l.take (place l s.no)).map g) + sm ((l.drop (place l s.no)).map g) := by rw [← sm_append, ← List.map_append, List.take_append_drop]
  rw [List.map_append, List.map_cons, sm_append, h]
  simp only [sm]
  omega
theorem cnt_set (m : Mg) (s : So) : (setM m s).cnt ≤ m.cnt + cS s := by
  rw [Mg.cnt_eq, Mg.cnt_eq]
  unfold setM rest
  show sm (List.map cS (if s.V = [] then _ else _)) ≤ _
  split
  · have := sm_filter_le m.F (fun x => x.no != s.no) cS; omega
  · rw [sm_put]; have := sm_filter_le m.F (fun x => x.no != s.no) cS; omega
end Go.Proofs.YtipaangiehdgkaaGreatDoor.T9
/-
  A slot that is got; a value that is less: value's Get and Less.
-/
namespace Go.Proofs.YtipaangiehdgkaaGreatDoor.T9
set_option maxRecDepth 100000

open Go.RowKit

theorem results_pair {P : Program} {fn : Func} {p u : Tmp} {ty : TypeId} (h : fn.results = #[.cell p ty, .tmp u]) (tmps : Array Value) (w : World) (g : Nat) (t : TypeId) (cs : Array Value) (fr : Nat × Nat) (d : TypeDesc)
    (hp : tmps.getD p undef = .pointer (some ⟨g, 0, none⟩)) (hg : w.heap[g]? = some (.cells cs t fr))
    (hu : P.underlying ty = some d) (hd : (match d with | .struct _ | .array _ _ => true | _ => false) = true) (hi : (P.info? ty).map (·.size) = some cs.size) :
    (results fn tmps).run P w = .ok (.tuple #[.agg cs, tmps.getD u undef]) w := by
  have hp' : tmps[p]?.getD undef = .pointer (some ⟨g, 0, none⟩) := by simpa using hp
  simp [results, h, hp', asAddr, run_loadVar_row w g t ty cs fr d hg hu hd hi]
def so0 : So := ⟨0, [], []⟩
theorem so0_at (b D : Nat) (w : World) : SAt' (Ow b w) D so0 [.int .i64 0, .slice none 0 0, .slice none 0 0] :=
  ⟨_, _, rfl, ⟨[], ⟨World.ownsRow_nil _ _ _ _, by decide⟩, rfl⟩, ⟨[], ⟨World.ownsRow_nil _ _ _ _, by decide⟩, rfl⟩⟩
theorem slot_moved {w w' : World} {b b' D : Nat} {m : So} {cs : List Value} (hk : ∀ k, b ≤ k → k < w.heap.size → w'.heap[k]? = w.heap[k]?) (hb : b' ≤ b) (h : SAt' (Ow b w) D m cs) : SAt' (Ow b' w') D m cs := sAt.imp (Ow.hi' hk hb) (fun m cs h => MAt.imp (Ow.hi' hk hb) D m cs h) _ _ h
theorem getM_at (m : Mg) (no : Int) : getM m no = m.F[m.F.findIdx (fun a => a.no == no)]? := by
  unfold getM
  exact List.find?_eq_getElem?_findIdx
def lessV (a b : Vl') : Bool := if a.n = b.n then Op.bytesLess a.s b.s else decide (a.n < b.n)
set_option maxRecDepth 1000000 in
set_option maxHeartbeats 4000000 in
theorem less_any (a b : Vl') (u1 u2 : Value) (w : World) :
    Calls Tryz.prog 168 #[.agg #[.int .i64 a.n, .string (tx a.s), u1], .agg #[.int .i64 b.n, .string (tx b.s), u2]] w fun e w' => e = .returned (.bool (lessV a b)) ∧ Below w.heap.size w w' := by
  unfold lessV
  obtain ⟨n1, hn1⟩ : ∃ n, a.n = n := ⟨_, rfl⟩
  obtain ⟨n2, hn2⟩ : ∃ n, b.n = n := ⟨_, rfl⟩
  obtain ⟨s1, hs1⟩ : ∃ n, a.s = n := ⟨_, rfl⟩
  obtain ⟨s2, hs2⟩ : ∃ n, b.s = n := ⟨_, rfl⟩
  rw [hn1, hn2, hs1, hs2]
  clear hn1 hn2 hs1 hs2
  obtain ⟨X1, X2, LBD⟩ := two_boxes w (.cells #[.int .i64 n1, .string (tx s1), u1] 51) (.cells #[.int .i64 n2, .string (tx s2), u2] 51)
  by_cases hn : n1 = n2
  · subst hn
    rw [if_pos rfl]
    go_enter Tryz.func168, Tryz.ntmps168
    go_wp2
    go_ret
    have e1 : (tx s1).toList = s1 := by rw [ByteArray.toList_eq, tx_list]
    have e2 : (tx s2).toList = s2 := by rw [ByteArray.toList_eq, tx_list]
    exact ⟨by rw [e1, e2]; rfl, LBD⟩
  · rw [if_neg hn]
    go_enter Tryz.func168, Tryz.ntmps168
    go_wp2
    go_ret
    exact ⟨by rfl, LBD⟩
end Go.Proofs.YtipaangiehdgkaaGreatDoor.T9
/-
  The chapter's example: the laws' own awake.
-/
namespace Go.Proofs.YtipaangiehdgkaaGreatDoor.T9
set_option maxRecDepth 100000

open Go.RowKit

def ex9 : So := ⟨3, [], [⟨1, [], []⟩, ⟨2, [], []⟩]⟩
theorem ex9_set : setM (.mk []) ex9 = .mk [ex9] := by
  unfold setM
  rw [if_neg (by simp [ex9])]
  rfl
theorem ex9_dS : dS ex9 = 0 := by decide
theorem ex9_zS : zS ex9 = 2 := by decide
theorem ex9_cS : cS ex9 = 3 := by decide
theorem ex9_deep : (Mg.mk [ex9]).deep = 1 := by
  rw [Mg.deep_eq]
  show 1 + mx [dS ex9] = 1
  rw [ex9_dS]
  rfl
theorem ex9_size : (Mg.mk [ex9]).size = 2 := by
  rw [Mg.size_eq]
  show sm [zS ex9] = 2
  rw [ex9_zS]
  rfl
theorem ex9_cnt : (Mg.mk [ex9]).cnt = 3 := by
  rw [Mg.cnt_eq]
  show sm [cS ex9] = 3
  rw [ex9_cS]
  rfl
theorem cnt_none : (Mg.mk []).cnt = 0 := by rw [Mg.cnt_eq]; rfl
theorem ex9_get : getM (.mk [ex9]) 3 = some ex9 := rfl
theorem none_at (B : Nat) (w : World) (D : Nat) : MRd B w (D + 1) (.mk []) (.slice none 0 0) := ⟨_, rfl, [], ⟨Rr.nil _ _ _, by decide⟩, rfl⟩
theorem ex9_at (w : World) (D : Nat) (e : Array Value) (he : e = #[.int .i64 1, .string ⟨#[]⟩, .slice none 0 0, .int .i64 2, .string ⟨#[]⟩, .slice none 0 0]) :
    SAt' (Rd (w.alloc (.cells e 51)).heap.size (w.alloc (.cells e 51))) D ex9 [.int .i64 3, .slice none 0 0, .slice (some ⟨w.heap.size, 0, none⟩) 2 2] := by
  subst he
  refine ⟨_, _, rfl, ⟨[], ⟨Rr.nil _ _ _, by decide⟩, rfl⟩, [.int .i64 1, .string ⟨#[]⟩, .slice none 0 0, .int .i64 2, .string ⟨#[]⟩, .slice none 0 0], ⟨⟨some ⟨w.heap.size, 0, none⟩, 2, rfl, ⟨rfl, by decide, by decide, by simp, fun ad ha _ => ?_, fun ad ha k u hu => ?_⟩, fun ad ha _ => ?_⟩, by decide⟩, ⟨[.int .i64 1, .string ⟨#[]⟩, .slice none 0 0], _, rfl, ⟨_, rfl, [], ⟨Rr.nil _ _ _, by decide⟩, rfl⟩, [.int .i64 2, .string ⟨#[]⟩, .slice none 0 0], [], rfl, ⟨_, rfl, [], ⟨Rr.nil _ _ _, by decide⟩, rfl⟩, rfl⟩⟩
  · obtain rfl := Option.some.inj ha
    simp
  · obtain rfl := Option.some.inj ha
    rw [Addr.add_lit, World.cell?_alloc_at _ _ _ _ rfl]
    simpa using hu
  · obtain rfl := Option.some.inj ha
    simp
end Go.Proofs.YtipaangiehdgkaaGreatDoor.T9
/-
  The document's own: a slot's values, those of K first.
-/
namespace Go.Proofs.YtipaangiehdgkaaGreatDoor.T9
set_option maxRecDepth 100000

open Go.RowKit

theorem below_app {w w' : World} {B : Nat} {e : TypeId} {size : Nat} {v : Value} {n : Nat} {xs : List Value} (h : w.ownsRow B e size v n xs) (hg : w.grownBy w' v.ownBlock) (hs : B ≤ w.heap.size) : Below B w w' := below_rows h hg hs
theorem none_sl (w : World) (size : Nat) : Sl w none 0 0 size [] := Sl.nothing w size
set_option maxRecDepth 1000000 in
set_option maxHeartbeats 4000000 in
theorem both_any (B d : Nat) (s : So) (u1 u2 : Value) (w : World) (hB : B ≤ w.heap.size) (hs : SAt' (Rd B w) d s [.int .i64 s.no, u1, u2]) (hk : s.K.length ≤ 1000000000) (hv : s.V.length ≤ 1000000000) :
    Calls Tryz.prog 72 #[.agg #[.int .i64 s.no, u1, u2]] w fun e w' => ∃ v xs, e = .returned v ∧ w'.ownsRow w.heap.size 51 3 v (s.K ++ s.V).length xs ∧ Rows (VAt (Rd B w') d) (s.K ++ s.V) xs ∧ Below w.heap.size w w' := by
  obtain ⟨i0, hi, hz0, hz1, hz2⟩ := info_parts info_val
  obtain ⟨u1', u2', hu, hlk, hlv⟩ := hs
  simp only [List.cons.injEq, and_true, true_and] at hu
  obtain ⟨rfl, rfl⟩ := hu
  obtain ⟨A1, c1, xs1, rfl, hs1, hb1, hr1, -⟩ := hlk.open_
  obtain ⟨A2, c2, xs2, rfl, hs2, hb2, hr2, -⟩ := hlv.open_
  have hbw := below_new w (.cells #[.int .i64 s.no, .slice A1 s.K.length c1, .slice A2 s.V.length c2] 48)
  have X1 := heap_alloc_new w (.cells #[.int .i64 s.no, .slice A1 s.K.length c1, .slice A2 s.V.length c2] 48)
  have hlt := box_lt X1
  have hs1' := sl_low hs1 hb1 (Lo.below hbw hB)
  have h11 := Rows.one vAt.one hr1
  have h12 := Rows.one vAt.one hr2
  have HR1 := Lib.hid hr1
  have HR2 := Lib.hid hr2
  have HS2 := Lib.hid hs2
  clear hr1 hr2 hs1 hs2 hlk hlv
  obtain ⟨p0, p1, p2⟩ := bx3 X1
  go_enter Tryz.func72, Tryz.ntmps72
  go_wp2_with (at_builtin; first
    | (refine wpList_app_sl rfl _ _ 46 rfl w.heap.size 51 i0 (.agg #[.int .i64 0, .string ⟨#[]⟩, .slice none 0 0]) 3 48 Tryz.underlying46 hi hz0 hz1 hz2 rfl (by omega) (.slice none 0 0) 0 [] rfl (World.ownsRow_nil _ _ _ _) A1 s.K.length c1 xs1 rfl hs1' h11 (by unfold maxLen; omega) (by omega) hbw.size ?_; intro v2 w2 hown2 hg2
       have Y1 := (hg2.block w.heap.size hlt (by simp [Value.ownBlock])).trans X1
       have q2 := (bx3 Y1).2.2
       have hb02 := hbw.trans (below_own (g := w2.heap.size + w.heap.size) ⟨hg2.os, hg2.tape, hg2.output, hg2.size, fun k hk _ => hg2.block k hk (by simp [Value.ownBlock])⟩ (by omega) hbw.size)
       have hs2' := sl_low HS2.out hb2 (Lo.below hb02 hB)
       rw [Nat.zero_add] at hown2)
    | (refine wpList_app_sl rfl _ _ 46 rfl w.heap.size 51 i0 (.agg #[.int .i64 0, .string ⟨#[]⟩, .slice none 0 0]) 3 48 Tryz.underlying46 hi hz0 hz1 hz2 rfl (by omega) _ s.K.length _ rfl hown2 A2 s.V.length c2 xs2 rfl hs2' h12 (by unfold maxLen; omega) (by omega) hb02.size ?_; intro v3 w3 hown3 hg3))
  go_ret
  have hb03 := hb02.trans (below_app hown2 hg3 hb02.size)
  refine ⟨_, _, rfl, by rw [List.length_append]; exact hown3, ?_, hb03⟩
  exact ((HR1.out.imp fun a cs h => VRd.low (Lo.below hb03 hB) h).append (HR2.out.imp fun a cs h => VRd.low (Lo.below hb03 hB) h))
end Go.Proofs.YtipaangiehdgkaaGreatDoor.T9
/-
  The document's own: is a tree not too great (truffleref09.Few)?
-/
namespace Go.Proofs.YtipaangiehdgkaaGreatDoor.T9
set_option maxRecDepth 100000

open Go.RowKit

def cS' (s : So) : Nat := sm ((s.K ++ s.V).map cV)
def cV' (v : Vl') : Nat := sm (v.M.map fun x => 1 + x.cnt)
theorem cS_eq (s : So) : cS s = 1 + cS' s := by unfold cS cS'; rw [List.map_append, sm_append]
theorem cV_eq (v : Vl') : cV v = 1 + cV' v := rfl
theorem cnt_split (m : Mg) : m.cnt = m.F.length + sm (m.F.map cS') := by
  rw [m.cnt_eq, ← sm_one m.F, ← sm_add]
  exact sm_congr fun s _ => cS_eq s
theorem cS_split (s : So) : cS' s = (s.K ++ s.V).length + sm ((s.K ++ s.V).map cV') := by
  unfold cS'
  rw [← sm_one (s.K ++ s.V), ← sm_add]
  exact sm_congr fun v _ => cV_eq v
theorem cV_split (v : Vl') : cV' v = v.M.length + sm (v.M.map Mg.cnt) := by
  unfold cV'
  rw [← sm_one v.M, ← sm_add]
/-- No message of these is deeper. -/
def DpV (d : Nat) (v : Vl') : Prop := ∀ x ∈ v.M, x.deep + 1 ≤ d
def DpS (d : Nat) (s : So) : Prop := ∀ v ∈ s.K ++ s.V, DpV d v
theorem deep_of {m : Mg} {d : Nat} (hd : 1 ≤ d) (h : ∀ s ∈ m.F, DpS d s) : m.deep ≤ d := by
  rw [m.deep_eq]
  have h1 : mx (m.F.map dS) ≤ d - 1 := by
    refine mx_le fun y hy => ?_
    obtain ⟨s, hs, rfl⟩ := List.mem_map.1 hy
    have h2 : ∀ v ∈ s.K ++ s.V, dV v ≤ d - 1 := fun v hv => by
      refine mx_le fun z hz => ?_
      obtain ⟨x, hx, rfl⟩ := List.mem_map.1 hz
      have := h s hs v hv x hx
      omega
    have h3 : mx (s.K.map dV) ≤ d - 1 := mx_le fun z hz => by
      obtain ⟨v, hv, rfl⟩ := List.mem_map.1 hz
      exact h2 v (List.mem_append.2 (.inl hv))
    have h4 : mx (s.V.map dV) ≤ d - 1 := mx_le fun z hz => by
      obtain ⟨v, hv, rfl⟩ := List.mem_map.1 hz
      exact h2 v (List.mem_append.2 (.inr hv))
    unfold dS
    omega
  omega
/-- How great a number is told at most. -/
def NB (d : Nat) : Nat := 20000000000000 + 10000 * d
/-- What is told so far: at least as many, unless it is too many already. -/
def So1 (m : Mg) (d i N : Nat) : Prop := N ≤ 3000 → m.F.length + sm ((m.F.take i).map cS') ≤ N ∧ ∀ s ∈ m.F.take i, DpS d s
def So2 (m : Mg) (d i : Nat) (L : List Vl') (k N : Nat) : Prop := N ≤ 3000 → (m.F.length + sm ((m.F.take i).map cS') + L.length + sm ((L.take k).map cV') ≤ N ∧ ∀ s ∈ m.F.take i, DpS d s) ∧ ∀ v ∈ L.take k, DpV d v
def So3 (m : Mg) (d i : Nat) (L : List Vl') (k : Nat) (M : List Mg) (j N : Nat) : Prop := N ≤ 3000 → ((m.F.length + sm ((m.F.take i).map cS') + L.length + sm ((L.take k).map cV') + M.length + sm ((M.take j).map Mg.cnt) ≤ N ∧ ∀ s ∈ m.F.take i, DpS d s) ∧ ∀ v ∈ L.take k, DpV d v) ∧ ∀ x ∈ M.take j, x.deep + 1 ≤ d
theorem mem_take_next {α : Type} {l : List α} {k : Nat} {a x : α} (h : l[k]? = some a) (hx : x ∈ l.take (k + 1)) : x ∈ l.take k ∨ x = a := by
  rw [List.take_add_one, h] at hx
  simpa using hx
theorem So3.next {m : Mg} {d i : Nat} {L : List Vl'} {k : Nat} {M : List Mg} {j N c : Nat} {x : Mg} (h : So3 m d i L k M j N) (hN : N ≤ 3000) (hx : M[j]? = some x) (hc : c ≤ 3000 → x.cnt ≤ c ∧ x.deep ≤ d - 1) (hd : 1 ≤ d) : So3 m d i L k M (j + 1) (N + c) := fun hn => by
  obtain ⟨⟨⟨h1, h2⟩, h3⟩, h4⟩ := h hN
  obtain ⟨h5, h6⟩ := hc (by omega)
  refine ⟨⟨⟨?_, h2⟩, h3⟩, fun y hy => ?_⟩
  · rw [sm_take_next Mg.cnt hx]; omega
  · rcases mem_take_next hx hy with hy | rfl
    · exact h4 y hy
    · omega
theorem So3.start {m : Mg} {d i : Nat} {L : List Vl'} {k : Nat} {M : List Mg} {N : Nat} (h : So2 m d i L k N) (hN : N ≤ 3000) : So3 m d i L k M 0 (N + M.length) := fun hn => by
  obtain ⟨⟨h1, h2⟩, h3⟩ := h hN
  exact ⟨⟨⟨by simp only [List.take_zero, List.map_nil, sm]; omega, h2⟩, h3⟩, fun y hy => by simp at hy⟩
theorem So3.done {m : Mg} {d i : Nat} {L : List Vl'} {k : Nat} {v : Vl'} {j N : Nat} (h : So3 m d i L k v.M j N) (hv : L[k]? = some v) (hj : N ≤ 3000 → j = v.M.length) : So2 m d i L (k + 1) N := fun hn => by
  obtain ⟨⟨⟨h1, h2⟩, h3⟩, h4⟩ := h hn
  obtain rfl := hj hn
  rw [List.take_length] at h1 h4
  refine ⟨⟨?_, h2⟩, fun y hy => ?_⟩
  · rw [sm_take_next cV' hv, cV_split v]; omega
  · rcases mem_take_next hv hy with hy | rfl
    · exact h3 y hy
    · exact h4
theorem So2.start {m : Mg} {d i : Nat} {L : List Vl'} {N : Nat} (h : So1 m d i N) (hN : N ≤ 3000) : So2 m d i L 0 (N + L.length) := fun hn => by
  obtain ⟨h1, h2⟩ := h hN
  exact ⟨⟨by simp only [List.take_zero, List.map_nil, sm]; omega, h2⟩, fun y hy => by simp at hy⟩
theorem So2.done {m : Mg} {d i : Nat} {s : So} {k N : Nat} (h : So2 m d i (s.K ++ s.V) k N) (hs : m.F[i]? = some s) (hk : N ≤ 3000 → k = (s.K ++ s.V).length) : So1 m d (i + 1) N := fun hn => by
  obtain ⟨⟨h1, h2⟩, h3⟩ := h hn
  obtain rfl := hk hn
  rw [List.take_length] at h1 h3
  refine ⟨?_, fun y hy => ?_⟩
  · rw [sm_take_next cS' hs, cS_split s]; omega
  · rcases mem_take_next hs hy with hy | rfl
    · exact h2 y hy
    · exact h3
theorem So1.start (m : Mg) (d : Nat) : So1 m d 0 m.F.length := fun _ => ⟨by simp [sm], fun y hy => by simp at hy⟩
theorem So1.done {m : Mg} {d i N : Nat} (h : So1 m d i N) (hi : N ≤ 3000 → i = m.F.length) (hd : 1 ≤ d) : N ≤ 3000 → m.cnt ≤ N ∧ m.deep ≤ d := fun hn => by
  obtain ⟨h1, h2⟩ := h hn
  obtain rfl := hi hn
  rw [List.take_length] at h1 h2
  exact ⟨by rw [cnt_split]; exact h1, deep_of hd h2⟩
end Go.Proofs.YtipaangiehdgkaaGreatDoor.T9
/-
  The document's own count of a tree, and whether it is not too great (truffleref09.count, Few).
-/
namespace Go.Proofs.YtipaangiehdgkaaGreatDoor.T9
set_option maxRecDepth 100000

open Go.RowKit

/-- count, of messages within so many levels. -/
def CountH (B D : Nat) : Prop := ∀ (m : Mg) (u : Value) (d : Nat) (w : World), B ≤ w.heap.size → MRd B w D m u → d ≤ 1000 → Calls Tryz.prog 46 #[.agg #[u], .int .i64 d] w fun e w' => ∃ n : Nat, e = .returned (.int .i64 n) ∧ n ≤ NB d ∧ (n ≤ 3000 → m.cnt ≤ n ∧ m.deep ≤ d) ∧ Below w.heap.size w w'
set_option maxRecDepth 1000000 in
set_option maxHeartbeats 8000000 in
theorem count_step {B D : Nat} (H : CountH B D) : CountH B (D + 1) := by
  rintro m u d w hB ⟨u', hu, hl⟩ hd
  simp only [List.cons.injEq, and_true] at hu
  subst hu
  obtain ⟨A, c, xs, rfl, hs, hbl, hr, hn⟩ := hl.open_
  have X1 := heap_alloc_new w (.cells #[.slice A m.F.length c] 36)
  have LBD := below_new w (.cells #[.slice A m.F.length c] 36)
  have HS := Lib.hid hs
  have HR := Lib.hid hr
  have HBB := Lib.hid hbl
  have HH := Lib.hid H
  clear hs hr hl hbl H
  by_cases hd0 : d = 0
  · subst hd0
    go_enter Tryz.func46, Tryz.ntmps46
    go_wp2
    go_ret
    exact ⟨10000, rfl, by unfold NB; omega, fun h => by omega, LBD⟩
  · have hd1 : 1 ≤ d := by omega
    have hdl : decide ((d : Int) ≤ 0) = false := by rw [decide_eq_false_iff_not]; omega
    by_cases hF : m.F.length ≤ 3000
    · have hfl : decide ((3000 : Int) < (m.F.length : Int)) = false := by rw [decide_eq_false_iff_not]; omega
      have hfl2 : decide (3000 < m.F.length) = false := by rw [decide_eq_false_iff_not]; omega
      clear hd0
      go_enter Tryz.func46, Tryz.ntmps46
      go_wp2
      obtain ⟨W0, hW0⟩ : ∃ W, W = w.alloc (.cells #[.slice A m.F.length c] 36) := ⟨_, rfl⟩
      rw [← hW0] at X1 LBD ⊢
      have hX := box_lt X1
      clear hW0
      go_loopw [5, 6, 7, 8, 9] (fun n i l k j wr => ∃ (p N : Nat), i = .int .i64 p ∧ p ≤ m.F.length ∧ n = .int .i64 N ∧ N ≤ NB d ∧ So1 m d p N ∧ Below W0.heap.size W0 wr) (fun _ i _ _ _ _ => m.F.length - (intOf i).toNat)
      case atStart => exact ⟨0, m.F.length, rfl, by omega, rfl, by unfold NB; omega, So1.start m d, Below.refl _ _⟩
      case round =>
        obtain ⟨p, N, rfl, hp, rfl, hNB, hso, hbw⟩ := hrel
        have HSO := Lib.hid hso
        have g0 := bx1 (box_on X1 hbw)
        have HBW := Lib.hid (LBD.trans (hbw.mono LBD.size))
        clear hso
        by_cases hlt : p < m.F.length
        · by_cases hN : N ≤ 3000
          · have hN3 : decide ((N : Int) ≤ 3000) = true := by rw [decide_eq_true_iff]; omega
            have hN4 : decide (N ≤ 3000) = true := by rw [decide_eq_true_iff]; omega
            obtain ⟨s, hs⟩ : ∃ s, m.F[p]? = some s := ⟨_, List.getElem?_eq_getElem hlt⟩
            obtain ⟨ad, x, y, z, rfl, hga, hcc, c0, c1, c2⟩ := row3 sAt.len (sl_low HS.out HBB.out (Lo.below HBW.out hB)) (HR.out.imp fun a cs h => SRd.low (Lo.below HBW.out hB) h) hs
            have HCC := Lib.hid hcc
            obtain ⟨u1, u2, hu, hlk, hlv⟩ := hcc
            simp only [List.cons.injEq, and_true] at hu
            obtain ⟨rfl, rfl, rfl⟩ := hu
            obtain ⟨AK, cK, xsK, rfl, -⟩ := hlk.open_
            obtain ⟨AV, cV_, xsV, rfl, -⟩ := hlv.open_
            have HSs := Lib.hid hs
            clear hlk hlv hs
            by_cases hK : s.K.length ≤ 3000
            · have hK1 : decide ((3000 : Int) < (s.K.length : Int)) = false := by rw [decide_eq_false_iff_not]; omega
              have hK2 : decide (3000 < s.K.length) = false := by rw [decide_eq_false_iff_not]; omega
              by_cases hV : s.V.length ≤ 3000
              · have hV1 : decide ((3000 : Int) < (s.V.length : Int)) = false := by rw [decide_eq_false_iff_not]; omega
                have hV2 : decide (3000 < s.V.length) = false := by rw [decide_eq_false_iff_not]; omega
                have HB7 := Lib.hid (both_any B D s _ _ wr (Nat.le_trans hB HBW.out.size) HCC.out (by omega) (by omega))
                have HLL := Lib.hid (show (s.K ++ s.V).length ≤ 6000 by rw [List.length_append]; omega)
                go_wp2_with fail
                refine HB7.out.mono ?_
                rintro e w2 ⟨v7, ys, rfl, ho7, hr7, hb2⟩
                have HSO2 := Lib.hid (fun q M => @So2.done m d p s q M)
                have HST := Lib.hid (So2.start (L := s.K ++ s.V) HSO.out hN)
                obtain ⟨L, hL⟩ : ∃ L, s.K ++ s.V = L := ⟨_, rfl⟩
                rw [hL] at ho7 hr7 HSO2 HST HLL
                obtain ⟨A7, c7, rfl, hs7⟩ := Sl.of_own ho7
                have HS7 := Lib.hid hs7
                have HR7 := Lib.hid hr7
                have HB2 := Lib.hid (below_then HBW.out hb2)
                have HB3 := Lib.hid (below_then hbw hb2)
                have hll := HLL.out
                have hw1 : IntKind.i64.wrap ((N : Int) + (L.length : Int)) = ((N + L.length : Nat) : Int) := by rw [IntKind.wrap_i64]; omega
                have hn2 : N + L.length ≤ NB d := by unfold NB; omega
                clear ho7 hr7 hs7 hL hb2 g0 c0 c1 c2 hK hK1 hK2 hV hV1 hV2 hbw hN3 hN4 HB7
                go_wp2
                go_loopw [5, 8, 9] (fun n k j wx => ∃ (q M : Nat), k = .int .i64 q ∧ q ≤ L.length ∧ n = .int .i64 M ∧ M ≤ NB d ∧ So2 m d p L q M ∧ Below w2.heap.size w2 wx) (fun _ k _ _ => L.length - (intOf k).toNat)
                case atStart => exact ⟨0, N + L.length, rfl, by omega, by go_num, hn2, HST.out, Below.refl _ _⟩
                case round =>
                  obtain ⟨q, M, rfl, hq, rfl, hMB, hso2, hbx⟩ := hrel
                  have HSOX := Lib.hid hso2
                  clear hso2
                  by_cases hql : q < L.length
                  · by_cases hM : M ≤ 3000
                    · have hM3 : decide ((M : Int) ≤ 3000) = true := by rw [decide_eq_true_iff]; omega
                      have hM4 : decide (M ≤ 3000) = true := by rw [decide_eq_true_iff]; omega
                      obtain ⟨v, hv⟩ : ∃ v, L[q]? = some v := ⟨_, List.getElem?_eq_getElem hql⟩
                      obtain ⟨a7, x, y, z, rfl, hga7, hcc, c0, c1, c2⟩ := row3 vAt.len (HS7.out.on hbx) (HR7.out.imp fun a cs h => VRd.low (Lo.below hbx (Nat.le_trans hB HB2.out.size)) h) hv
                      obtain ⟨um, hu, hlm⟩ := hcc
                      simp only [List.cons.injEq, and_true] at hu
                      obtain ⟨rfl, rfl, rfl⟩ := hu
                      obtain ⟨AM, cM, xsM, rfl, hsM, hbM, hrM, hnM⟩ := hlm.open_
                      have HSM := Lib.hid hsM
                      have HRM := Lib.hid hrM
                      have HBM := Lib.hid hbM
                      have HVV := Lib.hid hv
                      have HST3 := Lib.hid (So3.start (M := v.M) HSOX.out hM)
                      have HBX := Lib.hid hbx
                      have hw3 : IntKind.i64.wrap ((M : Int) + (v.M.length : Int)) = ((M + v.M.length : Nat) : Int) := by rw [IntKind.wrap_i64]; omega
                      have hn3 : M + v.M.length ≤ NB d := by unfold NB; omega
                      have C2 := Lib.hid c2
                      have hlt7 : a7.block < wr.heap.size := hga7
                      clear hsM hrM hbM hlm hv c0 c1 hbx
                      go_wp2
                      go_loopw [5, 9] (fun n j wy => ∃ (t M3 : Nat), j = .int .i64 t ∧ t ≤ v.M.length ∧ n = .int .i64 M3 ∧ M3 ≤ NB d ∧ So3 m d p L q v.M t M3 ∧ Below wr.heap.size wr wy) (fun _ j _ => v.M.length - (intOf j).toNat)
                      case atStart => exact ⟨0, M + v.M.length, rfl, by omega, by go_num, hn3, HST3.out, Below.refl _ _⟩
                      case round =>
                        obtain ⟨t, M3, rfl, ht, rfl, hM3B, hso3, hby⟩ := hrel
                        have HSO3 := Lib.hid hso3
                        have k2 := cell_on hby C2.out
                        clear hso3 c2
                        by_cases htl : t < v.M.length
                        · by_cases hM5 : M3 ≤ 3000
                          · have hM6 : decide ((M3 : Int) ≤ 3000) = true := by rw [decide_eq_true_iff]; omega
                            have hM7 : decide (M3 ≤ 3000) = true := by rw [decide_eq_true_iff]; omega
                            obtain ⟨x, hx⟩ : ∃ x, v.M[t]? = some x := ⟨_, List.getElem?_eq_getElem htl⟩
                            obtain ⟨am, ux, rfl, hgam, hcx, k0⟩ := row1 MAt.len (sl_low HSM.out HBM.out (Lo.below hby (Nat.le_trans hB (Nat.le_trans HB2.out.size HBX.out.size)))) (HRM.out.imp fun a cs h => MRd.low (Lo.below hby (Nat.le_trans hB (Nat.le_trans HB2.out.size HBX.out.size))) h) hx
                            have HCX := Lib.hid (HH.out x ux (d - 1) wr (Nat.le_trans hB (Nat.le_trans HB2.out.size (Nat.le_trans HBX.out.size hby.size))) hcx (by omega))
                            have hw4 : IntKind.i64.wrap ((d : Int) - 1) = ((d - 1 : Nat) : Int) := by rw [IntKind.wrap_i64]; omega
                            have HX := Lib.hid hx
                            have HBY := Lib.hid hby
                            clear hcx hx hby
                            go_wp2_with (go_at_call 46; refine HCX.out.mono ?_; rintro e w9 ⟨cn, rfl, hcn, hcf, hb9⟩; have hw5 : IntKind.i64.wrap ((M3 : Int) + (cn : Int)) = ((M3 + cn : Nat) : Int) := (by unfold NB at hcn; rw [IntKind.wrap_i64]; omega))
                            refine ⟨⟨t + 1, M3 + cn, by go_num, by omega, by go_num, by unfold NB at hcn ⊢; omega, So3.next HSO3.out hM5 HX.out (fun h => hcf h) hd1, HBY.out.trans (hb9.mono HBY.out.size)⟩, by simp [intOf]; omega⟩
                          · have hM6 : decide ((M3 : Int) ≤ 3000) = false := by rw [decide_eq_false_iff_not]; omega
                            have hM7 : decide (M3 ≤ 3000) = false := by rw [decide_eq_false_iff_not]; omega
                            go_wp2
                            exact ⟨⟨q + 1, M3, by go_num, by omega, rfl, hM3B, So3.done HSO3.out HVV.out (fun h => absurd h hM5), HBX.out.trans (hby.mono HBX.out.size)⟩, by simp [intOf]; omega⟩
                        · obtain rfl : t = v.M.length := by omega
                          go_wp2
                          exact ⟨⟨q + 1, M3, by go_num, by omega, rfl, hM3B, So3.done HSO3.out HVV.out (fun _ => rfl), HBX.out.trans (hby.mono HBX.out.size)⟩, by simp [intOf]; omega⟩
                    · have hM6 : decide ((M : Int) ≤ 3000) = false := by rw [decide_eq_false_iff_not]; omega
                      have hM7 : decide (M ≤ 3000) = false := by rw [decide_eq_false_iff_not]; omega
                      go_wp2
                      exact ⟨⟨p + 1, M, by go_num, by omega, rfl, hMB, HSO2.out q M HSOX.out HSs.out (fun h => absurd h hM), HB3.out.trans (hbx.mono HB3.out.size)⟩, by simp [intOf]; omega⟩
                  · obtain rfl : q = L.length := by omega
                    go_wp2
                    exact ⟨⟨p + 1, M, by go_num, by omega, rfl, hMB, HSO2.out _ M HSOX.out HSs.out (fun _ => rfl), HB3.out.trans (hbx.mono HB3.out.size)⟩, by simp [intOf]; omega⟩
              · have hV1 : decide ((3000 : Int) < (s.V.length : Int)) = true := by rw [decide_eq_true_iff]; omega
                have hV2 : decide (3000 < s.V.length) = true := by rw [decide_eq_true_iff]; omega
                go_wp2
                go_ret
                exact ⟨10000, rfl, by unfold NB; omega, fun h => by omega, HBW.out⟩
            · have hK1 : decide ((3000 : Int) < (s.K.length : Int)) = true := by rw [decide_eq_true_iff]; omega
              have hK2 : decide (3000 < s.K.length) = true := by rw [decide_eq_true_iff]; omega
              go_wp2
              go_ret
              exact ⟨10000, rfl, by unfold NB; omega, fun h => by omega, HBW.out⟩
          · have hN3 : decide ((N : Int) ≤ 3000) = false := by rw [decide_eq_false_iff_not]; omega
            have hN4 : decide (N ≤ 3000) = false := by rw [decide_eq_false_iff_not]; omega
            go_wp2
            go_ret
            exact ⟨N, rfl, hNB, So1.done HSO.out (fun h => absurd h hN) hd1, HBW.out⟩
        · obtain rfl : p = m.F.length := by omega
          go_wp2
          go_ret
          exact ⟨N, rfl, hNB, So1.done HSO.out (fun _ => rfl) hd1, HBW.out⟩
    · have hfl : decide ((3000 : Int) < (m.F.length : Int)) = true := by rw [decide_eq_true_iff]; omega
      have hfl2 : decide (3000 < m.F.length) = true := by rw [decide_eq_true_iff]; omega
      clear hd0
      go_enter Tryz.func46, Tryz.ntmps46
      go_wp2
      go_ret
      exact ⟨10000, rfl, by unfold NB; omega, fun h => by omega, LBD⟩
/-- truffleref09.count, of any message. -/
theorem count_any (B : Nat) : ∀ D, CountH B D
  | 0 => fun _ _ _ _ _ h _ => h.elim
  | D + 1 => count_step (count_any B D)
end Go.Proofs.YtipaangiehdgkaaGreatDoor.T9
/-
  Is a tree not too great: the document's own Few, and the laws' own few.
-/
namespace Go.Proofs.YtipaangiehdgkaaGreatDoor.T9
set_option maxRecDepth 100000

open Go.RowKit

theorem few_one (B D : Nat) (m : Mg) (u : Value) (d : Nat) (w : World) (hB : B ≤ w.heap.size) (hm : MRd B w D m u) (hd : d ≤ 1000) :
    Calls Tryz.prog 25 #[.agg #[u], .int .i64 d] w fun e w' => ∃ r : Bool, e = .returned (.bool r) ∧ (r = true → Fit 3000 d m) ∧ Below w.heap.size w w' := by
  have X1 := heap_alloc_new w (.cells #[u] 36)
  have LBD := below_new w (.cells #[u] 36)
  have HC := Lib.hid (count_any B D m u d _ (Nat.le_trans hB LBD.size) (MRd.low (Lo.below LBD hB) hm) hd)
  clear hm
  have y0 := bx1 X1
  go_enter Tryz.func25, Tryz.ntmps25
  go_wp2_with fail
  refine HC.out.mono ?_
  rintro e w1 ⟨n, rfl, hn, hf, hb1⟩
  have HF := Lib.hid hf
  clear hf
  go_wp2
  go_ret
  exact ⟨_, rfl, fun h => by
    have h1 : n ≤ 3000 := by have h2 := of_decide_eq_true h; omega
    exact ⟨Nat.le_trans (HF.out h1).1 h1, (HF.out h1).2⟩, below_then LBD hb1⟩
end Go.Proofs.YtipaangiehdgkaaGreatDoor.T9
