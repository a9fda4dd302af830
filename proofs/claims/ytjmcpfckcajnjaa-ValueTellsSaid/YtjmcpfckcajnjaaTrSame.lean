/-
  Whether two messages are the same: value's Same, and the comparisons below it.
-/
import Derived.Test.YtjmcpfckcajnjaaTrDeep
namespace Go.Proofs.Ytjmcpfckcajnjaa.T9
set_option maxRecDepth 100000

open Go.RowKit

/-- Are two the same? -/
noncomputable def eqB {α : Type} (a b : α) : Bool := @decide (a = b) (Classical.propDecidable _)
theorem eqB_iff {α : Type} {a b : α} : eqB a b = true ↔ a = b := by unfold eqB; exact @decide_eq_true_iff _ (Classical.propDecidable _)
theorem eqB_yes {α : Type} {a b : α} (h : a = b) : eqB a b = true := eqB_iff.2 h
theorem eqB_no {α : Type} {a b : α} (h : ¬ a = b) : eqB a b = false := by unfold eqB; exact @decide_eq_false _ (Classical.propDecidable _) h
theorem cell_on {w w' : World} {a : Addr} {v : Value} (hb : Below w.heap.size w w') (h : w.cell? a = some v) : w'.cell? a = some v := (hb.cell (World.block_lt_of_cell? w _ h)).trans h
theorem eqB_false {α : Type} {a b : α} (h : eqB a b = false) : ¬ a = b := fun e => by rw [eqB_yes e] at h; cases h
theorem eq_take_next {α : Type} {l m : List α} {k : Nat} {x : α} (hx : l[k]? = some x) (hy : m[k]? = some x) (h : l.take k = m.take k) : l.take (k + 1) = m.take (k + 1) := by
  rw [List.take_add_one, List.take_add_one, hx, hy, h]
theorem eq_ne_at {α : Type} {l m : List α} {k : Nat} {x y : α} (hx : l[k]? = some x) (hy : m[k]? = some y) (hne : ¬ x = y) : ¬ l = m := fun e => by
  rw [e, hy] at hx
  exact hne (Option.some.inj hx).symm
theorem eqB_slot (a b : So) : eqB a b = (decide (a.no = b.no) && (eqB a.K b.K && eqB a.V b.V)) := by
  rw [Bool.eq_iff_iff, eqB_iff]
  simp only [Bool.and_eq_true, decide_eq_true_eq, eqB_iff]
  obtain ⟨n, k, v⟩ := a
  obtain ⟨n', k', v'⟩ := b
  simp
theorem eqB_val (a b : Vl') : eqB a b = (decide (a.n = b.n) && (decide (a.s = b.s) && eqB a.M b.M)) := by
  rw [Bool.eq_iff_iff, eqB_iff]
  simp only [Bool.and_eq_true, decide_eq_true_eq, eqB_iff]
  obtain ⟨n, k, v⟩ := a
  obtain ⟨n', k', v'⟩ := b
  simp
theorem eqB_msg (a b : Mg) : eqB a b = eqB a.F b.F := by
  rw [Bool.eq_iff_iff, eqB_iff, eqB_iff]
  exact ⟨fun h => by rw [h], Mg.ext⟩

/-- The premise: what is told of two elements. -/
def samemsgP (B d : Nat) (w : World) (l m : List Mg) : Prop := ∀ (k : Nat) a b, l[k]? = some a → m[k]? = some b → ∀ x1 x2 wr, Below w.heap.size w wr → MAt (Rd B wr) d a [x1] → MAt (Rd B wr) d b [x2] → Calls Try.prog 13 #[.agg #[x1], .agg #[x2]] wr fun e w' => e = .returned (.bool (eqB a b)) ∧ Below wr.heap.size wr w'
set_option maxRecDepth 1000000 in
set_option maxHeartbeats 4000000 in
theorem same_msg (B d : Nat) (l m : List Mg) (u1 u2 : Value) (w : World) (hB : B ≤ w.heap.size) (hl : LsAt (Rd B w) 24 1 (MAt (Rd B w) d) l u1) (hm : LsAt (Rd B w) 24 1 (MAt (Rd B w) d) m u2) (hg : samemsgP B d w l m) :
    Calls Try.prog 54 #[u1, u2, .func (.func 13) #[] #[]] w fun e w' => e = .returned (.bool (eqB l m)) ∧ Below w.heap.size w w' := by
  obtain ⟨A1, d1, xs1, rfl, hs1, hb1, hr1, hn1⟩ := hl.open_
  obtain ⟨A2, d2, xs2, rfl, hs2, hb2, hr2, hn2⟩ := hm.open_
  have HS1 := Lib.hid hs1
  have HR1 := Lib.hid hr1
  have HB1 := Lib.hid hb1
  have HS2 := Lib.hid hs2
  have HR2 := Lib.hid hr2
  have HB2 := Lib.hid hb2
  have HG := Lib.hid hg
  clear hs1 hr1 hs2 hr2 hg hl hm hb1 hb2
  by_cases hlen : l.length = m.length
  · have HLEN := Lib.hid hlen
    rw [← hlen]
    clear hlen
    go_enter Try.func54, Try.ntmps54
    go_wp2
    go_loopw [15] (fun i wr => ∃ k : Nat, i = .int .i64 k ∧ k ≤ l.length ∧ l.take k = m.take k ∧ Below w.heap.size w wr) (fun i _ => l.length - (intOf i).toNat)
    case atStart => exact ⟨0, rfl, by omega, rfl, Below.refl _ _⟩
    case round =>
      obtain ⟨k, rfl, hk, htk, hbw⟩ := hrel
      have HTK := Lib.hid htk
      clear htk
      by_cases hlt : k < l.length
      · have hlt2 : k < m.length := by rw [← HLEN.out]; exact hlt
        obtain ⟨a, ha⟩ : ∃ a, l[k]? = some a := ⟨_, List.getElem?_eq_getElem hlt⟩
        obtain ⟨b, hb⟩ : ∃ b, m[k]? = some b := ⟨_, List.getElem?_eq_getElem hlt2⟩
        obtain ⟨ad1, x1, rfl, hg1, hc1, p0⟩ := row1 MAt.len (sl_low HS1.out HB1.out (Lo.below hbw hB)) (HR1.out.imp fun a cs h => MRd.low (Lo.below hbw hB) h) ha
        obtain ⟨ad2, x2, rfl, hg2, hc2, q0⟩ := row1 MAt.len (sl_low HS2.out HB2.out (Lo.below hbw hB)) (HR2.out.imp fun a cs h => MRd.low (Lo.below hbw hB) h) hb
        have HC := Lib.hid (HG.out k a b ha hb _ _ wr.drew (hbw.trans (Below.refl _ _).drew) (MRd.low (Lo.below (Below.refl _ _).drew (Nat.le_trans hB hbw.size)) hc1) (MRd.low (Lo.below (Below.refl _ _).drew (Nat.le_trans hB hbw.size)) hc2))
        have HBW := Lib.hid hbw
        have HA := Lib.hid ha
        have HBb := Lib.hid hb
        obtain ⟨r, hr⟩ : ∃ r, eqB a b = r := ⟨_, rfl⟩
        rw [hr] at HC
        have HRR := Lib.hid hr
        have hS : wr.cell? (ad1.add k) = some x1 ∧ wr.cell? (ad2.add k) = some x2 := ⟨p0, q0⟩
        clear hc1 hc2 hbw ha hb hr
        go_wp2_with fail
        go_region_held3 (fun wy => wy.cell? (ad1.add k) = some x1 ∧ wy.cell? (ad2.add k) = some x2)
          (first | exact hS | exact ⟨cell_on hb1 p0, cell_on hb1 q0⟩ | go_keep)
          ((go_at_call 13; refine HC.out.mono ?_; rintro e w1 ⟨rfl, hb1⟩))
        cases r with
        | true =>
          go_wp2
          obtain rfl := eqB_iff.1 HRR.out
          refine ⟨⟨k + 1, ?_, by omega, eq_take_next HA.out HBb.out HTK.out, HBW.out.trans ((Below.refl _ _).drew.trans (hb1.mono HBW.out.size))⟩, ?_⟩
          · go_num
          · simp [intOf]; omega
        | false =>
          go_wp2
          go_ret
          exact ⟨by rw [eqB_no (eq_ne_at HA.out HBb.out (eqB_false HRR.out))]; rfl, HBW.out.trans ((Below.refl _ _).drew.trans (hb1.mono HBW.out.size))⟩
      · obtain rfl : k = l.length := by omega
        go_wp2
        go_ret
        have e : l = m := by
          have h := HTK.out
          rwa [List.take_length, HLEN.out, List.take_length] at h
        exact ⟨by rw [eqB_yes e]; rfl, hbw⟩
  · have hne : ((l.length : Int) == (m.length : Int)) = false := by rw [beq_eq_false_iff_ne]; omega
    have HE := Lib.hid (eqB_no (fun e : l = m => hlen (by rw [e])))
    go_enter Try.func54, Try.ntmps54
    go_wp2
    go_ret
    exact ⟨by rw [HE.out]; rfl, Below.refl _ _⟩
/-- The premise: what is told of two elements. -/
def samevalP (B d : Nat) (w : World) (l m : List Vl') : Prop := ∀ (k : Nat) a b, l[k]? = some a → m[k]? = some b → ∀ x1 y1 z1 x2 y2 z2 wr, Below w.heap.size w wr → VAt (Rd B wr) d a [x1, y1, z1] → VAt (Rd B wr) d b [x2, y2, z2] → Calls Try.prog 47 #[.agg #[x1, y1, z1], .agg #[x2, y2, z2]] wr fun e w' => e = .returned (.bool (eqB a b)) ∧ Below wr.heap.size wr w'
set_option maxRecDepth 1000000 in
set_option maxHeartbeats 4000000 in
theorem same_val (B d : Nat) (l m : List Vl') (u1 u2 : Value) (w : World) (hB : B ≤ w.heap.size) (hl : LsAt (Rd B w) 30 3 (VAt (Rd B w) d) l u1) (hm : LsAt (Rd B w) 30 3 (VAt (Rd B w) d) m u2) (hg : samevalP B d w l m) :
    Calls Try.prog 46 #[u1, u2, .func (.func 47) #[] #[]] w fun e w' => e = .returned (.bool (eqB l m)) ∧ Below w.heap.size w w' := by
  obtain ⟨A1, d1, xs1, rfl, hs1, hb1, hr1, hn1⟩ := hl.open_
  obtain ⟨A2, d2, xs2, rfl, hs2, hb2, hr2, hn2⟩ := hm.open_
  have HS1 := Lib.hid hs1
  have HR1 := Lib.hid hr1
  have HB1 := Lib.hid hb1
  have HS2 := Lib.hid hs2
  have HR2 := Lib.hid hr2
  have HB2 := Lib.hid hb2
  have HG := Lib.hid hg
  clear hs1 hr1 hs2 hr2 hg hl hm hb1 hb2
  by_cases hlen : l.length = m.length
  · have HLEN := Lib.hid hlen
    rw [← hlen]
    clear hlen
    go_enter Try.func46, Try.ntmps46
    go_wp2
    go_loopw [15] (fun i wr => ∃ k : Nat, i = .int .i64 k ∧ k ≤ l.length ∧ l.take k = m.take k ∧ Below w.heap.size w wr) (fun i _ => l.length - (intOf i).toNat)
    case atStart => exact ⟨0, rfl, by omega, rfl, Below.refl _ _⟩
    case round =>
      obtain ⟨k, rfl, hk, htk, hbw⟩ := hrel
      have HTK := Lib.hid htk
      clear htk
      by_cases hlt : k < l.length
      · have hlt2 : k < m.length := by rw [← HLEN.out]; exact hlt
        obtain ⟨a, ha⟩ : ∃ a, l[k]? = some a := ⟨_, List.getElem?_eq_getElem hlt⟩
        obtain ⟨b, hb⟩ : ∃ b, m[k]? = some b := ⟨_, List.getElem?_eq_getElem hlt2⟩
        obtain ⟨ad1, x1, y1, z1, rfl, hg1, hc1, p0, p1, p2⟩ := row3 vAt.len (sl_low HS1.out HB1.out (Lo.below hbw hB)) (HR1.out.imp fun a cs h => VRd.low (Lo.below hbw hB) h) ha
        obtain ⟨ad2, x2, y2, z2, rfl, hg2, hc2, q0, q1, q2⟩ := row3 vAt.len (sl_low HS2.out HB2.out (Lo.below hbw hB)) (HR2.out.imp fun a cs h => VRd.low (Lo.below hbw hB) h) hb
        have HC := Lib.hid (HG.out k a b ha hb _ _ _ _ _ _ wr.drew (hbw.trans (Below.refl _ _).drew) (VRd.low (Lo.below (Below.refl _ _).drew (Nat.le_trans hB hbw.size)) hc1) (VRd.low (Lo.below (Below.refl _ _).drew (Nat.le_trans hB hbw.size)) hc2))
        have HBW := Lib.hid hbw
        have HA := Lib.hid ha
        have HBb := Lib.hid hb
        obtain ⟨r, hr⟩ : ∃ r, eqB a b = r := ⟨_, rfl⟩
        rw [hr] at HC
        have HRR := Lib.hid hr
        have hS : wr.cell? (ad1.add (k * 3)) = some x1 ∧ wr.cell? ⟨(ad1.add (k * 3)).block, (ad1.add (k * 3)).off + 1, none⟩ = some y1 ∧ wr.cell? ⟨(ad1.add (k * 3)).block, (ad1.add (k * 3)).off + 2, none⟩ = some z1 ∧ wr.cell? (ad2.add (k * 3)) = some x2 ∧ wr.cell? ⟨(ad2.add (k * 3)).block, (ad2.add (k * 3)).off + 1, none⟩ = some y2 ∧ wr.cell? ⟨(ad2.add (k * 3)).block, (ad2.add (k * 3)).off + 2, none⟩ = some z2 := ⟨p0, p1, p2, q0, q1, q2⟩
        clear hc1 hc2 hbw ha hb hr
        go_wp2_with fail
        go_region_held3 (fun wy => wy.cell? (ad1.add (k * 3)) = some x1 ∧ wy.cell? ⟨(ad1.add (k * 3)).block, (ad1.add (k * 3)).off + 1, none⟩ = some y1 ∧ wy.cell? ⟨(ad1.add (k * 3)).block, (ad1.add (k * 3)).off + 2, none⟩ = some z1 ∧ wy.cell? (ad2.add (k * 3)) = some x2 ∧ wy.cell? ⟨(ad2.add (k * 3)).block, (ad2.add (k * 3)).off + 1, none⟩ = some y2 ∧ wy.cell? ⟨(ad2.add (k * 3)).block, (ad2.add (k * 3)).off + 2, none⟩ = some z2)
          (first | exact hS | exact ⟨cell_on hb1 p0, cell_on hb1 p1, cell_on hb1 p2, cell_on hb1 q0, cell_on hb1 q1, cell_on hb1 q2⟩ | go_keep)
          ((go_at_call 47; refine HC.out.mono ?_; rintro e w1 ⟨rfl, hb1⟩))
        cases r with
        | true =>
          go_wp2
          obtain rfl := eqB_iff.1 HRR.out
          refine ⟨⟨k + 1, ?_, by omega, eq_take_next HA.out HBb.out HTK.out, HBW.out.trans ((Below.refl _ _).drew.trans (hb1.mono HBW.out.size))⟩, ?_⟩
          · go_num
          · simp [intOf]; omega
        | false =>
          go_wp2
          go_ret
          exact ⟨by rw [eqB_no (eq_ne_at HA.out HBb.out (eqB_false HRR.out))]; rfl, HBW.out.trans ((Below.refl _ _).drew.trans (hb1.mono HBW.out.size))⟩
      · obtain rfl : k = l.length := by omega
        go_wp2
        go_ret
        have e : l = m := by
          have h := HTK.out
          rwa [List.take_length, HLEN.out, List.take_length] at h
        exact ⟨by rw [eqB_yes e]; rfl, hbw⟩
  · have hne : ((l.length : Int) == (m.length : Int)) = false := by rw [beq_eq_false_iff_ne]; omega
    have HE := Lib.hid (eqB_no (fun e : l = m => hlen (by rw [e])))
    go_enter Try.func46, Try.ntmps46
    go_wp2
    go_ret
    exact ⟨by rw [HE.out]; rfl, Below.refl _ _⟩
/-- The premise: what is told of two elements. -/
def sameslotP (B d : Nat) (w : World) (l m : List So) : Prop := ∀ (k : Nat) a b, l[k]? = some a → m[k]? = some b → ∀ x1 y1 z1 x2 y2 z2 wr, Below w.heap.size w wr → SAt' (Rd B wr) d a [x1, y1, z1] → SAt' (Rd B wr) d b [x2, y2, z2] → Calls Try.prog 32 #[.agg #[x1, y1, z1], .agg #[x2, y2, z2]] wr fun e w' => e = .returned (.bool (eqB a b)) ∧ Below wr.heap.size wr w'
set_option maxRecDepth 1000000 in
set_option maxHeartbeats 4000000 in
theorem same_slot (B d : Nat) (l m : List So) (u1 u2 : Value) (w : World) (hB : B ≤ w.heap.size) (hl : LsAt (Rd B w) 27 3 (SAt' (Rd B w) d) l u1) (hm : LsAt (Rd B w) 27 3 (SAt' (Rd B w) d) m u2) (hg : sameslotP B d w l m) :
    Calls Try.prog 31 #[u1, u2, .func (.func 32) #[] #[]] w fun e w' => e = .returned (.bool (eqB l m)) ∧ Below w.heap.size w w' := by
  obtain ⟨A1, d1, xs1, rfl, hs1, hb1, hr1, hn1⟩ := hl.open_
  obtain ⟨A2, d2, xs2, rfl, hs2, hb2, hr2, hn2⟩ := hm.open_
  have HS1 := Lib.hid hs1
  have HR1 := Lib.hid hr1
  have HB1 := Lib.hid hb1
  have HS2 := Lib.hid hs2
  have HR2 := Lib.hid hr2
  have HB2 := Lib.hid hb2
  have HG := Lib.hid hg
  clear hs1 hr1 hs2 hr2 hg hl hm hb1 hb2
  by_cases hlen : l.length = m.length
  · have HLEN := Lib.hid hlen
    rw [← hlen]
    clear hlen
    go_enter Try.func31, Try.ntmps31
    go_wp2
    go_loopw [15] (fun i wr => ∃ k : Nat, i = .int .i64 k ∧ k ≤ l.length ∧ l.take k = m.take k ∧ Below w.heap.size w wr) (fun i _ => l.length - (intOf i).toNat)
    case atStart => exact ⟨0, rfl, by omega, rfl, Below.refl _ _⟩
    case round =>
      obtain ⟨k, rfl, hk, htk, hbw⟩ := hrel
      have HTK := Lib.hid htk
      clear htk
      by_cases hlt : k < l.length
      · have hlt2 : k < m.length := by rw [← HLEN.out]; exact hlt
        obtain ⟨a, ha⟩ : ∃ a, l[k]? = some a := ⟨_, List.getElem?_eq_getElem hlt⟩
        obtain ⟨b, hb⟩ : ∃ b, m[k]? = some b := ⟨_, List.getElem?_eq_getElem hlt2⟩
        obtain ⟨ad1, x1, y1, z1, rfl, hg1, hc1, p0, p1, p2⟩ := row3 sAt.len (sl_low HS1.out HB1.out (Lo.below hbw hB)) (HR1.out.imp fun a cs h => SRd.low (Lo.below hbw hB) h) ha
        obtain ⟨ad2, x2, y2, z2, rfl, hg2, hc2, q0, q1, q2⟩ := row3 sAt.len (sl_low HS2.out HB2.out (Lo.below hbw hB)) (HR2.out.imp fun a cs h => SRd.low (Lo.below hbw hB) h) hb
        have HC := Lib.hid (HG.out k a b ha hb _ _ _ _ _ _ wr.drew (hbw.trans (Below.refl _ _).drew) (SRd.low (Lo.below (Below.refl _ _).drew (Nat.le_trans hB hbw.size)) hc1) (SRd.low (Lo.below (Below.refl _ _).drew (Nat.le_trans hB hbw.size)) hc2))
        have HBW := Lib.hid hbw
        have HA := Lib.hid ha
        have HBb := Lib.hid hb
        obtain ⟨r, hr⟩ : ∃ r, eqB a b = r := ⟨_, rfl⟩
        rw [hr] at HC
        have HRR := Lib.hid hr
        have hS : wr.cell? (ad1.add (k * 3)) = some x1 ∧ wr.cell? ⟨(ad1.add (k * 3)).block, (ad1.add (k * 3)).off + 1, none⟩ = some y1 ∧ wr.cell? ⟨(ad1.add (k * 3)).block, (ad1.add (k * 3)).off + 2, none⟩ = some z1 ∧ wr.cell? (ad2.add (k * 3)) = some x2 ∧ wr.cell? ⟨(ad2.add (k * 3)).block, (ad2.add (k * 3)).off + 1, none⟩ = some y2 ∧ wr.cell? ⟨(ad2.add (k * 3)).block, (ad2.add (k * 3)).off + 2, none⟩ = some z2 := ⟨p0, p1, p2, q0, q1, q2⟩
        clear hc1 hc2 hbw ha hb hr
        go_wp2_with fail
        go_region_held3 (fun wy => wy.cell? (ad1.add (k * 3)) = some x1 ∧ wy.cell? ⟨(ad1.add (k * 3)).block, (ad1.add (k * 3)).off + 1, none⟩ = some y1 ∧ wy.cell? ⟨(ad1.add (k * 3)).block, (ad1.add (k * 3)).off + 2, none⟩ = some z1 ∧ wy.cell? (ad2.add (k * 3)) = some x2 ∧ wy.cell? ⟨(ad2.add (k * 3)).block, (ad2.add (k * 3)).off + 1, none⟩ = some y2 ∧ wy.cell? ⟨(ad2.add (k * 3)).block, (ad2.add (k * 3)).off + 2, none⟩ = some z2)
          (first | exact hS | exact ⟨cell_on hb1 p0, cell_on hb1 p1, cell_on hb1 p2, cell_on hb1 q0, cell_on hb1 q1, cell_on hb1 q2⟩ | go_keep)
          ((go_at_call 32; refine HC.out.mono ?_; rintro e w1 ⟨rfl, hb1⟩))
        cases r with
        | true =>
          go_wp2
          obtain rfl := eqB_iff.1 HRR.out
          refine ⟨⟨k + 1, ?_, by omega, eq_take_next HA.out HBb.out HTK.out, HBW.out.trans ((Below.refl _ _).drew.trans (hb1.mono HBW.out.size))⟩, ?_⟩
          · go_num
          · simp [intOf]; omega
        | false =>
          go_wp2
          go_ret
          exact ⟨by rw [eqB_no (eq_ne_at HA.out HBb.out (eqB_false HRR.out))]; rfl, HBW.out.trans ((Below.refl _ _).drew.trans (hb1.mono HBW.out.size))⟩
      · obtain rfl : k = l.length := by omega
        go_wp2
        go_ret
        have e : l = m := by
          have h := HTK.out
          rwa [List.take_length, HLEN.out, List.take_length] at h
        exact ⟨by rw [eqB_yes e]; rfl, hbw⟩
  · have hne : ((l.length : Int) == (m.length : Int)) = false := by rw [beq_eq_false_iff_ne]; omega
    have HE := Lib.hid (eqB_no (fun e : l = m => hlen (by rw [e])))
    go_enter Try.func31, Try.ntmps31
    go_wp2
    go_ret
    exact ⟨by rw [HE.out]; rfl, Below.refl _ _⟩

/-- Same, of messages within so many levels. -/
def SameH (B d : Nat) : Prop := ∀ (a b : Mg) (u1 u2 : Value) (w : World), B ≤ w.heap.size → MRd B w d a u1 → MRd B w d b u2 → Calls Try.prog 13 #[.agg #[u1], .agg #[u2]] w fun e w' => e = .returned (.bool (eqB a b)) ∧ Below w.heap.size w w'
theorem two_boxes (w : World) (o1 o2 : Obj) : ((w.alloc o1).alloc o2).heap[w.heap.size]? = some o1 ∧ ((w.alloc o1).alloc o2).heap[w.heap.size + 1]? = some o2 ∧ Below w.heap.size w ((w.alloc o1).alloc o2) := by
  have h1 := heap_alloc_new w o1
  have hs : (w.alloc o1).heap.size = w.heap.size + 1 := by simp
  have h2 := heap_alloc_new (w.alloc o1) o2
  rw [hs] at h2
  exact ⟨box_on h1 (below_new _ _), h2, below_lit (below_new w o1) o2⟩
theorem msgsP {B d : Nat} (H : SameH B d) {w : World} (hB : B ≤ w.heap.size) (l m : List Mg) : samemsgP B d w l m := fun k a b ha hb x1 x2 wr hw h1 h2 => H a b x1 x2 wr (Nat.le_trans hB hw.size) h1 h2
set_option maxRecDepth 1000000 in
set_option maxHeartbeats 4000000 in
theorem sameVal_any {B d : Nat} (H : SameH B d) (a b : Vl') (a1 b1 : Value) (w : World) (hB : B ≤ w.heap.size) (ha : VAt (Rd B w) d a [.int .i64 a.n, .string (tx a.s), a1]) (hb : VAt (Rd B w) d b [.int .i64 b.n, .string (tx b.s), b1]) :
    Calls Try.prog 47 #[.agg #[.int .i64 a.n, .string (tx a.s), a1], .agg #[.int .i64 b.n, .string (tx b.s), b1]] w fun e w' => e = .returned (.bool (eqB a b)) ∧ Below w.heap.size w w' := by
  obtain ⟨u1, hu1, hl⟩ := ha
  obtain ⟨u2, hu2, hm⟩ := hb
  simp only [List.cons.injEq, and_true, true_and] at hu1 hu2
  subst hu1 hu2
  have HM := Lib.hid (fun wx (hx : Below w.heap.size w wx) => same_msg B d a.M b.M a1 b1 wx (Nat.le_trans hB hx.size) (hl.low (Lo.below hx hB) fun a cs h => MRd.low (Lo.below hx hB) h) (hm.low (Lo.below hx hB) fun a cs h => MRd.low (Lo.below hx hB) h) (msgsP H (Nat.le_trans hB hx.size) _ _))
  rw [eqB_val]
  obtain ⟨r, hr⟩ : ∃ r, eqB a.M b.M = r := ⟨_, rfl⟩
  rw [hr] at HM ⊢
  obtain ⟨n1, hn1⟩ : ∃ n, a.n = n := ⟨_, rfl⟩
  obtain ⟨n2, hn2⟩ : ∃ n, b.n = n := ⟨_, rfl⟩
  obtain ⟨s1, hs1⟩ : ∃ n, a.s = n := ⟨_, rfl⟩
  obtain ⟨s2, hs2⟩ : ∃ n, b.s = n := ⟨_, rfl⟩
  rw [hn1, hn2, hs1, hs2]
  clear hn1 hn2 hs1 hs2 hr hl hm H
  obtain ⟨X1, X2, LBD⟩ := two_boxes w (.cells #[.int .i64 n1, .string (tx s1), a1] 30) (.cells #[.int .i64 n2, .string (tx s2), b1] 30)
  by_cases hn : n1 = n2
  · subst hn
    by_cases hs : s1 = s2
    · subst hs
      go_enter Try.func47, Try.ntmps47
      go_wp2_with (go_at_call 54; refine (HM.out _ LBD).mono ?_; rintro e wK ⟨rfl, hbK⟩)
      all_goals
        go_ret
        exact ⟨by simp, below_then LBD hbK⟩
    · have h : ((tx s1).toList == (tx s2).toList) = false := by
        rw [beq_eq_false_iff_ne, ByteArray.toList_eq, ByteArray.toList_eq, tx_list, tx_list]
        exact hs
      have h2 : decide (s1 = s2) = false := by simp [hs]
      rw [h2]
      clear hs h2
      go_enter Try.func47, Try.ntmps47
      go_wp2
      go_ret
      exact ⟨by simp, LBD⟩
  · have h2 : decide (n1 = n2) = false := by simp [hn]
    rw [h2]
    have h3 : (n1 == n2) = false := by simp [hn]
    go_enter Try.func47, Try.ntmps47
    go_wp2
    go_ret
    exact ⟨by simp, LBD⟩
theorem valsP {B d : Nat} (H : SameH B d) {w : World} (hB : B ≤ w.heap.size) (l m : List Vl') : samevalP B d w l m := fun k a b ha hb x1 y1 z1 x2 y2 z2 wr hw h1 h2 => by
  have h1' := h1
  have h2' := h2
  obtain ⟨u, hu, _⟩ := h1
  obtain ⟨u', hu', _⟩ := h2
  simp only [List.cons.injEq, and_true] at hu hu'
  obtain ⟨rfl, rfl, rfl⟩ := hu
  obtain ⟨rfl, rfl, rfl⟩ := hu'
  exact sameVal_any H a b z1 z2 wr (Nat.le_trans hB hw.size) h1' h2'
set_option maxRecDepth 1000000 in
set_option maxHeartbeats 4000000 in
theorem sameSlot_any {B d : Nat} (H : SameH B d) (a b : So) (a1 a2 b1 b2 : Value) (w : World) (hB : B ≤ w.heap.size) (ha : SAt' (Rd B w) d a [.int .i64 a.no, a1, a2]) (hb : SAt' (Rd B w) d b [.int .i64 b.no, b1, b2]) :
    Calls Try.prog 32 #[.agg #[.int .i64 a.no, a1, a2], .agg #[.int .i64 b.no, b1, b2]] w fun e w' => e = .returned (.bool (eqB a b)) ∧ Below w.heap.size w w' := by
  obtain ⟨u1, u2, hu, hk1, hv1⟩ := ha
  obtain ⟨u3, u4, hu', hk2, hv2⟩ := hb
  simp only [List.cons.injEq, and_true, true_and] at hu hu'
  obtain ⟨rfl, rfl⟩ := hu
  obtain ⟨rfl, rfl⟩ := hu'
  have HK := Lib.hid (fun wx (hx : Below w.heap.size w wx) => same_val B d a.K b.K a1 b1 wx (Nat.le_trans hB hx.size) (hk1.low (Lo.below hx hB) fun a cs h => VRd.low (Lo.below hx hB) h) (hk2.low (Lo.below hx hB) fun a cs h => VRd.low (Lo.below hx hB) h) (valsP H (Nat.le_trans hB hx.size) _ _))
  have HV := Lib.hid (fun wx (hx : Below w.heap.size w wx) => same_val B d a.V b.V a2 b2 wx (Nat.le_trans hB hx.size) (hv1.low (Lo.below hx hB) fun a cs h => VRd.low (Lo.below hx hB) h) (hv2.low (Lo.below hx hB) fun a cs h => VRd.low (Lo.below hx hB) h) (valsP H (Nat.le_trans hB hx.size) _ _))
  rw [eqB_slot]
  obtain ⟨rk, hrk⟩ : ∃ r, eqB a.K b.K = r := ⟨_, rfl⟩
  obtain ⟨rv, hrv⟩ : ∃ r, eqB a.V b.V = r := ⟨_, rfl⟩
  rw [hrk] at HK ⊢
  rw [hrv] at HV ⊢
  obtain ⟨n1, hn1⟩ : ∃ n, a.no = n := ⟨_, rfl⟩
  obtain ⟨n2, hn2⟩ : ∃ n, b.no = n := ⟨_, rfl⟩
  rw [hn1, hn2]
  clear hn1 hn2 hrk hrv hk1 hk2 hv1 hv2 H
  obtain ⟨X1, X2, LBD⟩ := two_boxes w (.cells #[.int .i64 n1, a1, a2] 27) (.cells #[.int .i64 n2, b1, b2] 27)
  by_cases hn : n1 = n2
  · subst hn
    cases rk with
    | true =>
      go_enter Try.func32, Try.ntmps32
      go_wp2_with (go_at_call 46; first
        | (with_reducible refine (HK.out _ LBD).mono ?_; rintro e wK ⟨rfl, hbK⟩; have y1 : wK.cell? ⟨w.heap.size, 2, none⟩ = some a2 := (bx3 (box_on X1 hbK)).2.2; have y2 : wK.cell? ⟨w.heap.size + 1, 2, none⟩ = some b2 := (bx3 (box_on X2 hbK)).2.2)
        | (with_reducible refine (HV.out _ (below_then LBD hbK)).mono ?_; rintro e wV ⟨rfl, hbV⟩))
      all_goals
        go_ret
        exact ⟨by simp, below_then (below_then LBD hbK) hbV⟩
    | false =>
      go_enter Try.func32, Try.ntmps32
      go_wp2_with (go_at_call 46; with_reducible refine (HK.out _ LBD).mono ?_; rintro e wK ⟨rfl, hbK⟩)
      go_ret
      exact ⟨by simp, below_then LBD hbK⟩
  · have h2 : decide (n1 = n2) = false := by simp [hn]
    rw [h2]
    have h3 : (n1 == n2) = false := by simp [hn]
    go_enter Try.func32, Try.ntmps32
    go_wp2
    go_ret
    exact ⟨by simp, LBD⟩
theorem slotsP {B d : Nat} (H : SameH B d) {w : World} (hB : B ≤ w.heap.size) (l m : List So) : sameslotP B d w l m := fun k a b ha hb x1 y1 z1 x2 y2 z2 wr hw h1 h2 => by
  have h1' := h1
  have h2' := h2
  obtain ⟨u, v, hu, _⟩ := h1
  obtain ⟨u', v', hu', _⟩ := h2
  simp only [List.cons.injEq, and_true] at hu hu'
  obtain ⟨rfl, rfl, rfl⟩ := hu
  obtain ⟨rfl, rfl, rfl⟩ := hu'
  exact sameSlot_any H a b y1 z1 y2 z2 wr (Nat.le_trans hB hw.size) h1' h2'
theorem same_step {B d : Nat} (H : SameH B d) : SameH B (d + 1) := by
  rintro a b u1 u2 w hB ⟨u, hu, hl⟩ ⟨u', hu', hm⟩
  simp only [List.cons.injEq, and_true] at hu hu'
  subst hu hu'
  obtain ⟨X1, X2, LBD⟩ := two_boxes w (.cells #[u1] 24) (.cells #[u2] 24)
  have hT := same_slot B d a.F b.F u1 u2 _ (Nat.le_trans hB LBD.size) (hl.low (Lo.below LBD hB) fun a cs h => SRd.low (Lo.below LBD hB) h) (hm.low (Lo.below LBD hB) fun a cs h => SRd.low (Lo.below LBD hB) h) (slotsP H (Nat.le_trans hB LBD.size) _ _)
  rw [eqB_msg]
  obtain ⟨q, hq⟩ : ∃ q, eqB a.F b.F = q := ⟨_, rfl⟩
  rw [hq] at hT ⊢
  have HT := Lib.hid hT
  clear hT hl hm hq H
  go_enter Try.func13, Try.ntmps13
  go_wp2_with (go_at_call 31; refine HT.out.mono ?_; rintro e w1 ⟨rfl, hb1⟩)
  go_ret
  exact ⟨rfl, LBD.trans (hb1.mono LBD.size)⟩
/-- value.Same, of any two messages. -/
theorem same_any9 (B : Nat) : ∀ d, SameH B d
  | 0 => fun _ _ _ _ _ _ h _ => h.elim
  | d + 1 => same_step (same_any9 B d)
end Go.Proofs.Ytjmcpfckcajnjaa.T9
