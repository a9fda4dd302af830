/-
  The document's own Same of nodes, wholly or not.
-/
import Derived.Test.YtceomdbahiimlaaDoorSexRpar
import Derived.BigQuiet
namespace Go.Proofs.YtceomdbahiimlaaDoor.T14
set_option maxRecDepth 100000

open Go.RowKit

/-- What is compared: all, or all but the places. -/
def keyN (wh : Bool) (x : Nd) : Nd := if wh then x else x.un
theorem key_iff (wh : Bool) (a b : Nd) : keyN wh a = keyN wh b ↔ a.kind = b.kind ∧ a.text = b.text ∧ a.num = b.num ∧ (wh = true → a.at_ = b.at_) ∧ a.l.map (keyN wh) = b.l.map (keyN wh) := by
  cases wh with
  | true =>
    have e : ∀ l : List Nd, l.map (keyN true) = l := fun l => by
      have : keyN true = id := rfl
      rw [this, List.map_id]
    rw [e, e]
    show a = b ↔ _
    cases a; cases b
    simp [Nd.kind, Nd.text, Nd.num, Nd.at_, Nd.l]
  | false =>
    show a.un = b.un ↔ _
    rw [un_iff]
    simp only [Bool.false_eq_true, false_implies, true_and]
    rfl
theorem take_neq {α : Type} {l m : List α} {k : Nat} {x y : α} (hx : l[k]? = some x) (hy : m[k]? = some y) (hne : x ≠ y) : l ≠ m := by
  rintro rfl
  rw [hx] at hy
  exact hne (by injection hy)
theorem take_snoc {α : Type} {l m : List α} {k : Nat} {x : α} (hx : l[k]? = some x) (hy : m[k]? = some x) (h : l.take k = m.take k) : l.take (k + 1) = m.take (k + 1) := by
  rw [List.take_add_one, List.take_add_one, h, hx, hy]
def Q12 (R : Nat) (p q : Addr) (u v : Value) (x y : Nd) (ux uy : Value) (w : World) : Prop := w.cell? ⟨R, 4, none⟩ = some u ∧ w.cell? ⟨R + 1, 4, none⟩ = some v ∧ w.cell? p = some (.int .i64 x.kind) ∧ w.cell? ⟨p.block, p.off + 1, none⟩ = some (.string (tx x.text)) ∧ w.cell? ⟨p.block, p.off + 2, none⟩ = some (.int .i64 x.num) ∧ w.cell? ⟨p.block, p.off + 3, none⟩ = some (.int .i64 x.at_) ∧ w.cell? ⟨p.block, p.off + 4, none⟩ = some ux ∧ w.cell? q = some (.int .i64 y.kind) ∧ w.cell? ⟨q.block, q.off + 1, none⟩ = some (.string (tx y.text)) ∧ w.cell? ⟨q.block, q.off + 2, none⟩ = some (.int .i64 y.num) ∧ w.cell? ⟨q.block, q.off + 3, none⟩ = some (.int .i64 y.at_) ∧ w.cell? ⟨q.block, q.off + 4, none⟩ = some uy
theorem cell_kept {w w' : World} {a : Addr} {v : Value} (h : w.cell? a = some v) (hb : Below w.heap.size w w') : w'.cell? a = some v := (hb.cell (World.block_lt_of_cell? w a h)).trans h
theorem Q12.on {R : Nat} {p q : Addr} {u v : Value} {x y : Nd} {ux uy : Value} {w w' : World} (h : Q12 R p q u v x y ux uy w) (hb : Below w.heap.size w w') : Q12 R p q u v x y ux uy w' := by
  obtain ⟨a4, b4, p0, p1, p2, p3, p4, q0, q1, q2, q3, q4⟩ := h
  exact ⟨cell_kept a4 hb, cell_kept b4 hb, cell_kept p0 hb, cell_kept p1 hb, cell_kept p2 hb, cell_kept p3 hb, cell_kept p4 hb, cell_kept q0 hb, cell_kept q1 hb, cell_kept q2 hb, cell_kept q3 hb, cell_kept q4 hb⟩
def RSameH (B d : Nat) : Prop := ∀ (wh : Bool) (a b : Nd) (u v : Value) (w : World), B ≤ w.heap.size → NAt (Rd B w) d a [.int .i64 a.kind, .string (tx a.text), .int .i64 a.num, .int .i64 a.at_, u] → NAt (Rd B w) d b [.int .i64 b.kind, .string (tx b.text), .int .i64 b.num, .int .i64 b.at_, v] →
  Calls Tryd.prog 13 #[.agg #[.int .i64 a.kind, .string (tx a.text), .int .i64 a.num, .int .i64 a.at_, u], .agg #[.int .i64 b.kind, .string (tx b.text), .int .i64 b.num, .int .i64 b.at_, v], .bool wh] w fun e w' => e = .returned (.bool (eqC (keyN wh a) (keyN wh b))) ∧ Below w.heap.size w w'
set_option maxRecDepth 1000000 in
set_option maxHeartbeats 8000000 in
theorem rsame_step {B d : Nat} (H : RSameH B d) : RSameH B (d + 1) := by
  intro wh a b u v w hB ha hb
  obtain ⟨u', hu, hla⟩ := ha
  obtain rfl : u = u' := by simpa using hu
  obtain ⟨v', hv, hlb⟩ := hb
  obtain rfl : v = v' := by simpa using hv
  obtain ⟨A1, c1, xs1, rfl, hs1, hb1, hr1, hn1⟩ := hla.open_
  obtain ⟨A2, c2, xs2, rfl, hs2, hb2, hr2, hn2⟩ := hlb.open_
  obtain ⟨x1, x2, hbW⟩ := two_boxes w (.cells #[.int .i64 a.kind, .string (tx a.text), .int .i64 a.num, .int .i64 a.at_, .slice A1 a.l.length c1] 24 (0, 0)) (.cells #[.int .i64 b.kind, .string (tx b.text), .int .i64 b.num, .int .i64 b.at_, .slice A2 b.l.length c2] 24 (0, 0))
  obtain ⟨n0, n1, n2, n3, n4⟩ := five_cells x1
  obtain ⟨m0, m1, m2, m3, m4⟩ := five_cells x2
  have HS1 := Lib.hid hs1
  have HS2 := Lib.hid hs2
  have HB1 := Lib.hid hb1
  have HB2 := Lib.hid hb2
  have HR1 := Lib.hid hr1
  have HR2 := Lib.hid hr2
  have HH := Lib.hid H
  have HBW := Lib.hid hbW
  have HX1 := Lib.hid x1
  have HX2 := Lib.hid x2
  have hK := key_iff wh a b
  have HK := Lib.hid hK
  clear hs1 hs2 hb1 hb2 hr1 hr2 H hbW x1 x2 hK hla hlb hu hv
  by_cases h1 : a.kind = b.kind
  · have d1 : (a.kind != b.kind) = false := by simp [h1]
    by_cases h2 : a.text = b.text
    · have d2 : (!((tx a.text).toList == (tx b.text).toList)) = false := by rw [h2, beq_self_eq_true]; rfl
      by_cases h3 : a.num = b.num
      · have d3 : (a.num != b.num) = false := by simp [h3]
        by_cases h4 : a.l.length = b.l.length
        · have d4 : ((a.l.length : Int) != (b.l.length : Int)) = false := by rw [h4]; exact bne_self_eq_false _
          have HLEN := Lib.hid h4
          cases wh with
          | true =>
            by_cases h5 : a.at_ = b.at_
            · have d5 : (a.at_ != b.at_) = false := by simp [h5]
              have HKK := Lib.hid (fun e => HK.out.2 ⟨h1, h2, h3, fun _ => h5, e⟩)
              have HK0 := Lib.hid (key_iff true a b)
              clear h1 h2 h3 h4 h5
              go_enter Tryd.func13, Tryd.ntmps13
              go_wp2
              obtain ⟨W, hW⟩ : ∃ W, W = (w.alloc (.cells #[.int .i64 a.kind, .string (tx a.text), .int .i64 a.num, .int .i64 a.at_, .slice A1 a.l.length c1] 24)).alloc (.cells #[.int .i64 b.kind, .string (tx b.text), .int .i64 b.num, .int .i64 b.at_, .slice A2 b.l.length c2] 24) := ⟨_, rfl⟩
              have X1 : W.heap[w.heap.size]? = _ := (show W.heap[w.heap.size]? = some (.cells #[.int .i64 a.kind, .string (tx a.text), .int .i64 a.num, .int .i64 a.at_, .slice A1 a.l.length c1] 24 (0, 0)) by rw [hW]; exact HX1.out)
              have X2 : W.heap[w.heap.size + 1]? = _ := (show W.heap[w.heap.size + 1]? = some (.cells #[.int .i64 b.kind, .string (tx b.text), .int .i64 b.num, .int .i64 b.at_, .slice A2 b.l.length c2] 24 (0, 0)) by rw [hW]; exact HX2.out)
              have HBW2 : Hid (Below w.heap.size w W) := Lib.hid (by rw [hW]; exact HBW.out)
              rw [← hW]
              clear hW HX1 HX2 HBW n0 n1 n2 n3 n4 m0 m1 m2 m3 m4
              go_loopw [7, 8] (fun j r wx => ∃ t : Nat, j = .int .i64 t ∧ t ≤ a.l.length ∧ (a.l.map (keyN true)).take t = (b.l.map (keyN true)).take t ∧ Below W.heap.size W wx) (fun j _ _ => a.l.length - (intOf j).toNat)
              case atStart => exact ⟨0, rfl, by omega, rfl, Below.refl _ _⟩
              case round =>
                obtain ⟨t, rfl, ht, htt, hbx⟩ := hrel
                have HTT := Lib.hid htt
                have HBX := Lib.hid hbx
                have HBA := Lib.hid (HBW2.out.trans (hbx.mono HBW2.out.size))
                obtain ⟨n0, n1, n2, n3, n4⟩ := five_cells ((hbx.block _ (box_lt X1)).trans X1)
                obtain ⟨m0, m1, m2, m3, m4⟩ := five_cells ((hbx.block _ (box_lt X2)).trans X2)
                clear htt hbx
                by_cases htl : t < a.l.length
                · have htl2 : t < b.l.length := by have := HLEN.out; omega
                  obtain ⟨x, hx⟩ : ∃ x, a.l[t]? = some x := ⟨_, List.getElem?_eq_getElem htl⟩
                  obtain ⟨y, hy⟩ : ∃ y, b.l[t]? = some y := ⟨_, List.getElem?_eq_getElem htl2⟩
                  have hlo := Lo.below HBA.out hB
                  obtain ⟨ad1, ux, rfl, hg1, hcx, p0, p1, p2, p3, p4⟩ := row5e (sl_low HS1.out HB1.out hlo) (HR1.out.imp fun a cs h => NRd.low hlo h) hx
                  obtain ⟨ad2, uy, rfl, hg2, hcy, q0, q1, q2, q3, q4⟩ := row5e (sl_low HS2.out HB2.out hlo) (HR2.out.imp fun a cs h => NRd.low hlo h) hy
                  obtain ⟨A3, c3, rfl⟩ := NAt.shape hcx
                  obtain ⟨A4, c4, rfl⟩ := NAt.shape hcy
                  have hBr := Nat.le_trans hB HBA.out.size
                  have HC := Lib.hid (HH.out true x y _ _ wr.drew hBr (NRd.low (Lo.below (Below.refl _ _).drew hBr) hcx) (NRd.low (Lo.below (Below.refl _ _).drew hBr) hcy))
                  obtain ⟨r, hr⟩ : ∃ r, eqC (keyN true x) (keyN true y) = r := ⟨_, rfl⟩
                  rw [hr] at HC
                  have HRR := Lib.hid hr
                  have HXY := Lib.hid (And.intro hx hy)
                  clear hcx hcy hx hy hr hlo
                  have hS : Q12 w.heap.size (ad1.add (t * 5)) (ad2.add (t * 5)) (.slice (some ad1) a.l.length c1) (.slice (some ad2) b.l.length c2) x y (.slice A3 x.l.length c3) (.slice A4 y.l.length c4) wr.drew := ⟨n4, m4, p0, p1, p2, p3, p4, q0, q1, q2, q3, q4⟩
                  go_wp2_with fail
                  go_region_held3 (fun w' => w'.cell? ⟨w.heap.size, 4, none⟩ = some (.slice (some ad1) a.l.length c1) ∧ w'.cell? ⟨w.heap.size + 1, 4, none⟩ = some (.slice (some ad2) b.l.length c2) ∧ w'.cell? (ad1.add (t * 5)) = some (.int .i64 x.kind) ∧ w'.cell? ⟨(ad1.add (t * 5)).block, (ad1.add (t * 5)).off + 1, none⟩ = some (.string (tx x.text)) ∧ w'.cell? ⟨(ad1.add (t * 5)).block, (ad1.add (t * 5)).off + 2, none⟩ = some (.int .i64 x.num) ∧ w'.cell? ⟨(ad1.add (t * 5)).block, (ad1.add (t * 5)).off + 3, none⟩ = some (.int .i64 x.at_) ∧ w'.cell? ⟨(ad1.add (t * 5)).block, (ad1.add (t * 5)).off + 4, none⟩ = some (.slice A3 x.l.length c3) ∧ w'.cell? (ad2.add (t * 5)) = some (.int .i64 y.kind) ∧ w'.cell? ⟨(ad2.add (t * 5)).block, (ad2.add (t * 5)).off + 1, none⟩ = some (.string (tx y.text)) ∧ w'.cell? ⟨(ad2.add (t * 5)).block, (ad2.add (t * 5)).off + 2, none⟩ = some (.int .i64 y.num) ∧ w'.cell? ⟨(ad2.add (t * 5)).block, (ad2.add (t * 5)).off + 3, none⟩ = some (.int .i64 y.at_) ∧ w'.cell? ⟨(ad2.add (t * 5)).block, (ad2.add (t * 5)).off + 4, none⟩ = some (.slice A4 y.l.length c4))
                    (first | exact hS | exact hS.on h1 | go_keep)
                    ((first
                      | (go_at_call 13; refine HC.out.mono ?_; rintro e w9 ⟨rfl, h1⟩)
                      | fail))
                  have hb9 : Below wr.heap.size wr w9 := (Below.refl _ _).drew.trans h1
                  have HX := Lib.hid HXY.out.1
                  have HY := Lib.hid HXY.out.2
                  clear n0 n1 n2 n3 n4 m0 m1 m2 m3 m4 p0 p1 p2 p3 p4 q0 q1 q2 q3 q4
                  cases r with
                  | true =>
                    go_wp2
                    have hxy := eqC_iff.1 HRR.out
                    refine ⟨⟨t + 1, ?_, by omega, take_snoc (by rw [List.getElem?_map, HX.out]; rfl) (by rw [List.getElem?_map, HY.out, hxy]; rfl) HTT.out, HBX.out.trans (hb9.mono HBX.out.size)⟩, ?_⟩
                    · go_num
                    · simp [intOf]; omega
                  | false =>
                    have hno : Hid (eqC (keyN true a) (keyN true b) = false) := Lib.hid (eqC_no fun e => take_neq (l := a.l.map (keyN true)) (m := b.l.map (keyN true)) (by rw [List.getElem?_map, HX.out]; rfl) (by rw [List.getElem?_map, HY.out]; rfl) (eqC_false HRR.out) (HK0.out.1 e).2.2.2.2)
                    go_wp2
                    go_ret
                    exact ⟨by rw [hno.out]; rfl, HBA.out.trans (hb9.mono HBA.out.size)⟩
                · obtain rfl : t = a.l.length := by omega
                  have hyes : Hid (eqC (keyN true a) (keyN true b) = true) := Lib.hid (eqC_yes (HKK.out (by
                    have h := HTT.out
                    rwa [List.take_of_length_le (by simp), List.take_of_length_le (by simp [← HLEN.out])] at h)))
                  go_wp2
                  go_ret
                  exact ⟨by rw [hyes.out]; rfl, HBA.out⟩
            · have hno : Hid (eqC (keyN true a) (keyN true b) = false) := Lib.hid (eqC_no fun e => h5 ((HK.out.1 e).2.2.2.1 rfl))
              have d5 : (a.at_ != b.at_) = true := by rw [bne_iff_ne]; exact h5
              clear h1 h2 h3 h4 h5
              go_enter Tryd.func13, Tryd.ntmps13
              go_wp2
              go_ret
              exact ⟨by rw [hno.out]; rfl, HBW.out⟩
          | false =>
            have HKK := Lib.hid (fun e => HK.out.2 ⟨h1, h2, h3, fun h => (by cases h), e⟩)
            have HK0 := Lib.hid (key_iff false a b)
            clear h1 h2 h3 h4
            go_enter Tryd.func13, Tryd.ntmps13
            go_wp2
            obtain ⟨W, hW⟩ : ∃ W, W = (w.alloc (.cells #[.int .i64 a.kind, .string (tx a.text), .int .i64 a.num, .int .i64 a.at_, .slice A1 a.l.length c1] 24)).alloc (.cells #[.int .i64 b.kind, .string (tx b.text), .int .i64 b.num, .int .i64 b.at_, .slice A2 b.l.length c2] 24) := ⟨_, rfl⟩
            have X1 : W.heap[w.heap.size]? = _ := (show W.heap[w.heap.size]? = some (.cells #[.int .i64 a.kind, .string (tx a.text), .int .i64 a.num, .int .i64 a.at_, .slice A1 a.l.length c1] 24 (0, 0)) by rw [hW]; exact HX1.out)
            have X2 : W.heap[w.heap.size + 1]? = _ := (show W.heap[w.heap.size + 1]? = some (.cells #[.int .i64 b.kind, .string (tx b.text), .int .i64 b.num, .int .i64 b.at_, .slice A2 b.l.length c2] 24 (0, 0)) by rw [hW]; exact HX2.out)
            have HBW2 : Hid (Below w.heap.size w W) := Lib.hid (by rw [hW]; exact HBW.out)
            rw [← hW]
            clear hW HX1 HX2 HBW n0 n1 n2 n3 n4 m0 m1 m2 m3 m4
            go_loopw [7, 8] (fun j r wx => ∃ t : Nat, j = .int .i64 t ∧ t ≤ a.l.length ∧ (a.l.map (keyN false)).take t = (b.l.map (keyN false)).take t ∧ Below W.heap.size W wx) (fun j _ _ => a.l.length - (intOf j).toNat)
            case atStart => exact ⟨0, rfl, by omega, rfl, Below.refl _ _⟩
            case round =>
              obtain ⟨t, rfl, ht, htt, hbx⟩ := hrel
              have HTT := Lib.hid htt
              have HBX := Lib.hid hbx
              have HBA := Lib.hid (HBW2.out.trans (hbx.mono HBW2.out.size))
              obtain ⟨n0, n1, n2, n3, n4⟩ := five_cells ((hbx.block _ (box_lt X1)).trans X1)
              obtain ⟨m0, m1, m2, m3, m4⟩ := five_cells ((hbx.block _ (box_lt X2)).trans X2)
              clear htt hbx
              by_cases htl : t < a.l.length
              · have htl2 : t < b.l.length := by have := HLEN.out; omega
                obtain ⟨x, hx⟩ : ∃ x, a.l[t]? = some x := ⟨_, List.getElem?_eq_getElem htl⟩
                obtain ⟨y, hy⟩ : ∃ y, b.l[t]? = some y := ⟨_, List.getElem?_eq_getElem htl2⟩
                have hlo := Lo.below HBA.out hB
                obtain ⟨ad1, ux, rfl, hg1, hcx, p0, p1, p2, p3, p4⟩ := row5e (sl_low HS1.out HB1.out hlo) (HR1.out.imp fun a cs h => NRd.low hlo h) hx
                obtain ⟨ad2, uy, rfl, hg2, hcy, q0, q1, q2, q3, q4⟩ := row5e (sl_low HS2.out HB2.out hlo) (HR2.out.imp fun a cs h => NRd.low hlo h) hy
                obtain ⟨A3, c3, rfl⟩ := NAt.shape hcx
                obtain ⟨A4, c4, rfl⟩ := NAt.shape hcy
                have hBr := Nat.le_trans hB HBA.out.size
                have HC := Lib.hid (HH.out false x y _ _ wr.drew hBr (NRd.low (Lo.below (Below.refl _ _).drew hBr) hcx) (NRd.low (Lo.below (Below.refl _ _).drew hBr) hcy))
                obtain ⟨r, hr⟩ : ∃ r, eqC (keyN false x) (keyN false y) = r := ⟨_, rfl⟩
                rw [hr] at HC
                have HRR := Lib.hid hr
                have HXY := Lib.hid (And.intro hx hy)
                clear hcx hcy hx hy hr hlo
                have hS : Q12 w.heap.size (ad1.add (t * 5)) (ad2.add (t * 5)) (.slice (some ad1) a.l.length c1) (.slice (some ad2) b.l.length c2) x y (.slice A3 x.l.length c3) (.slice A4 y.l.length c4) wr.drew := ⟨n4, m4, p0, p1, p2, p3, p4, q0, q1, q2, q3, q4⟩
                go_wp2_with fail
                go_region_held3 (fun w' => w'.cell? ⟨w.heap.size, 4, none⟩ = some (.slice (some ad1) a.l.length c1) ∧ w'.cell? ⟨w.heap.size + 1, 4, none⟩ = some (.slice (some ad2) b.l.length c2) ∧ w'.cell? (ad1.add (t * 5)) = some (.int .i64 x.kind) ∧ w'.cell? ⟨(ad1.add (t * 5)).block, (ad1.add (t * 5)).off + 1, none⟩ = some (.string (tx x.text)) ∧ w'.cell? ⟨(ad1.add (t * 5)).block, (ad1.add (t * 5)).off + 2, none⟩ = some (.int .i64 x.num) ∧ w'.cell? ⟨(ad1.add (t * 5)).block, (ad1.add (t * 5)).off + 3, none⟩ = some (.int .i64 x.at_) ∧ w'.cell? ⟨(ad1.add (t * 5)).block, (ad1.add (t * 5)).off + 4, none⟩ = some (.slice A3 x.l.length c3) ∧ w'.cell? (ad2.add (t * 5)) = some (.int .i64 y.kind) ∧ w'.cell? ⟨(ad2.add (t * 5)).block, (ad2.add (t * 5)).off + 1, none⟩ = some (.string (tx y.text)) ∧ w'.cell? ⟨(ad2.add (t * 5)).block, (ad2.add (t * 5)).off + 2, none⟩ = some (.int .i64 y.num) ∧ w'.cell? ⟨(ad2.add (t * 5)).block, (ad2.add (t * 5)).off + 3, none⟩ = some (.int .i64 y.at_) ∧ w'.cell? ⟨(ad2.add (t * 5)).block, (ad2.add (t * 5)).off + 4, none⟩ = some (.slice A4 y.l.length c4))
                  (first | exact hS | exact hS.on h1 | go_keep)
                  ((first
                    | (go_at_call 13; refine HC.out.mono ?_; rintro e w9 ⟨rfl, h1⟩)
                    | fail))
                have hb9 : Below wr.heap.size wr w9 := (Below.refl _ _).drew.trans h1
                have HX := Lib.hid HXY.out.1
                have HY := Lib.hid HXY.out.2
                clear n0 n1 n2 n3 n4 m0 m1 m2 m3 m4 p0 p1 p2 p3 p4 q0 q1 q2 q3 q4
                cases r with
                | true =>
                  go_wp2
                  have hxy := eqC_iff.1 HRR.out
                  refine ⟨⟨t + 1, ?_, by omega, take_snoc (by rw [List.getElem?_map, HX.out]; rfl) (by rw [List.getElem?_map, HY.out, hxy]; rfl) HTT.out, HBX.out.trans (hb9.mono HBX.out.size)⟩, ?_⟩
                  · go_num
                  · simp [intOf]; omega
                | false =>
                  have hno : Hid (eqC (keyN false a) (keyN false b) = false) := Lib.hid (eqC_no fun e => take_neq (l := a.l.map (keyN false)) (m := b.l.map (keyN false)) (by rw [List.getElem?_map, HX.out]; rfl) (by rw [List.getElem?_map, HY.out]; rfl) (eqC_false HRR.out) (HK0.out.1 e).2.2.2.2)
                  go_wp2
                  go_ret
                  exact ⟨by rw [hno.out]; rfl, HBA.out.trans (hb9.mono HBA.out.size)⟩
              · obtain rfl : t = a.l.length := by omega
                have hyes : Hid (eqC (keyN false a) (keyN false b) = true) := Lib.hid (eqC_yes (HKK.out (by
                  have h := HTT.out
                  rwa [List.take_of_length_le (by simp), List.take_of_length_le (by simp [← HLEN.out])] at h)))
                go_wp2
                go_ret
                exact ⟨by rw [hyes.out]; rfl, HBA.out⟩
        · have hno : Hid (eqC (keyN wh a) (keyN wh b) = false) := Lib.hid (eqC_no fun e => h4 (by simpa using congrArg List.length (HK.out.1 e).2.2.2.2))
          have d4 : ((a.l.length : Int) != (b.l.length : Int)) = true := by rw [bne_iff_ne]; omega
          clear h1 h2 h3 h4
          go_enter Tryd.func13, Tryd.ntmps13
          go_wp2
          go_ret
          exact ⟨by rw [hno.out]; rfl, HBW.out⟩
      · have hno : Hid (eqC (keyN wh a) (keyN wh b) = false) := Lib.hid (eqC_no fun e => h3 (HK.out.1 e).2.2.1)
        have d3 : (a.num != b.num) = true := by rw [bne_iff_ne]; exact h3
        clear h1 h2 h3
        go_enter Tryd.func13, Tryd.ntmps13
        go_wp2
        go_ret
        exact ⟨by rw [hno.out]; rfl, HBW.out⟩
    · have hno : Hid (eqC (keyN wh a) (keyN wh b) = false) := Lib.hid (eqC_no fun e => h2 (HK.out.1 e).2.1)
      have d2 : (!((tx a.text).toList == (tx b.text).toList)) = true := by
        rw [show (tx a.text).toList = a.text from txt_toList _, show (tx b.text).toList = b.text from txt_toList _]
        simp [h2]
      clear h1 h2
      go_enter Tryd.func13, Tryd.ntmps13
      go_wp2
      go_ret
      exact ⟨by rw [hno.out]; rfl, HBW.out⟩
  · have hno : Hid (eqC (keyN wh a) (keyN wh b) = false) := Lib.hid (eqC_no fun e => h1 (HK.out.1 e).1)
    have d1 : (a.kind != b.kind) = true := by rw [bne_iff_ne]; exact h1
    clear h1
    go_enter Tryd.func13, Tryd.ntmps13
    go_wp2
    go_ret
    exact ⟨by rw [hno.out]; rfl, HBW.out⟩
theorem rsame_any (B : Nat) : ∀ d, RSameH B d
  | 0 => fun _ _ _ _ _ _ _ h => h.elim
  | d + 1 => rsame_step (rsame_any B d)
end Go.Proofs.YtceomdbahiimlaaDoor.T14
