/-
  A field is printed: the contracts.
-/
import Derived.Test.YtldgfepimegbmaaDoorProLine
import Derived.Test.YtldgfepimegbmaaDoorTokRnum
import Derived.Deep.RegionHeld3
namespace Go.Proofs.YtldgfepimegbmaaDoor
set_option maxRecDepth 100000
open Go.RowKit

set_option maxHeartbeats 1000000 in
theorem typeOf_any (d : Fd) (w : World) (hk0 : d.key.length ≤ 1000000) (ht0 : d.type.length ≤ 1000000) : Calls Tryd.prog 52 #[FdV d] w fun e w' => e = .returned (.string (txt (typeB d))) ∧ Below w.heap.size w w' := by
  have HX : Hid (FdV d = .agg #[.string (txt d.type), .string (txt d.key), .bool d.rep, .int .i64 d.one, .string (txt d.name), .int .i64 d.no, .int .i64 d.at_]) := Lib.hid rfl
  have hs1 : (txt d.key).size ≤ 1000000 := by rw [txt_size]; exact hk0
  have hs2 : (txt d.type).size ≤ 1000000 := by rw [txt_size]; exact ht0
  clear hk0 ht0
  rw [HX.out]
  by_cases hk : d.key = []
  · have hb : (!((txt d.key).toList).isEmpty) = false := by rw [Lib.toList_data, txt_list, hk]; rfl
    have hb2 : (txt d.key).toList = [] := by rw [Lib.toList_data, txt_list, hk]
    cases hr : d.rep
    · have HT : Hid (typeB d = d.type) := Lib.hid (by simp [typeB, hk, hr])
      clear hk
      go_enter Tryd.func52, Tryd.ntmps52
      go_wp2
      go_ret
      exact ⟨by rw [HT.out]; rfl, below_new _ _⟩
    · have HT : Hid (typeB d = [114, 101, 112, 101, 97, 116, 101, 100, 32] ++ d.type) := Lib.hid (by simp [typeB, hk, hr])
      clear hk
      go_enter Tryd.func52, Tryd.ntmps52
      go_wp2
      go_ret
      exact ⟨by rw [HT.out, ← txt_app]; rfl, below_new _ _⟩
  · have hb : (!((txt d.key).toList).isEmpty) = true := by rw [Lib.toList_data, txt_list]; cases h : d.key with | nil => exact absurd h hk | cons a b => rfl
    have hb2 : ((txt d.key).toList).isEmpty = false := by rw [Lib.toList_data, txt_list]; cases h : d.key with | nil => exact absurd h hk | cons a b => rfl
    have HT : Hid (typeB d = [109, 97, 112, 60] ++ d.key ++ [44, 32] ++ d.type ++ [62]) := Lib.hid (by simp [typeB, hk])
    clear hk
    go_enter Tryd.func52, Tryd.ntmps52
    go_wp2
    go_ret
    exact ⟨by rw [HT.out, ← txt_app, ← txt_app, ← txt_app, ← txt_app]; rfl, below_new _ _⟩
set_option maxHeartbeats 1000000 in
theorem inOne_any (name : ByteArray) (A1 A2 A3 : Option Addr) (n1 n2 n3 q1 q2 q3 : Nat) (at_ : Int) (d : Fd) (w : World) :
    Calls Tryd.prog 27 #[.agg #[.string name, .slice A1 n1 q1, .slice A2 n2 q2, .slice A3 n3 q3, .int .i64 at_], FdV d] w fun e w' => e = .returned (.bool (inOne n2 d)) ∧ Below w.heap.size w w' := by
  have HX : Hid (FdV d = .agg #[.string (txt d.type), .string (txt d.key), .bool d.rep, .int .i64 d.one, .string (txt d.name), .int .i64 d.no, .int .i64 d.at_]) := Lib.hid rfl
  rw [HX.out]
  by_cases h0 : 0 < d.one
  · have h1 : decide (0 < d.one) = true := by rw [decide_eq_true_eq]; omega
    have HT : Hid (inOne n2 d = decide (d.one ≤ n2)) := Lib.hid (by simp [inOne, h0])
    clear h0
    go_enter Tryd.func27, Tryd.ntmps27
    go_wp2
    go_ret
    exact ⟨by rw [HT.out]; first | rfl | simp, below_lit (below_new _ _) _⟩
  · have h1 : decide (0 < d.one) = false := by rw [decide_eq_false_iff_not]; omega
    have HT : Hid (inOne n2 d = false) := Lib.hid (by simp [inOne, h0])
    clear h0
    go_enter Tryd.func27, Tryd.ntmps27
    go_wp2
    go_ret
    exact ⟨by rw [HT.out]; rfl, below_lit (below_new _ _) _⟩
theorem box7_keep {w w' : World} {b : Nat} {d : Fd} (hk : w'.heap[b]? = w.heap[b]?) (h : w.heap[b]? = some (.cells #[.string (txt d.type), .string (txt d.key), .bool d.rep, .int .i64 d.one, .string (txt d.name), .int .i64 d.no, .int .i64 d.at_] 36 (0, 0)) ∧ w.cell? ⟨b, 0, none⟩ = some (.string (txt d.type)) ∧ w.cell? ⟨b, 1, none⟩ = some (.string (txt d.key)) ∧ w.cell? ⟨b, 2, none⟩ = some (.bool d.rep) ∧ w.cell? ⟨b, 3, none⟩ = some (.int .i64 d.one) ∧ w.cell? ⟨b, 4, none⟩ = some (.string (txt d.name)) ∧ w.cell? ⟨b, 5, none⟩ = some (.int .i64 d.no) ∧ w.cell? ⟨b, 6, none⟩ = some (.int .i64 d.at_)) : w'.heap[b]? = some (.cells #[.string (txt d.type), .string (txt d.key), .bool d.rep, .int .i64 d.one, .string (txt d.name), .int .i64 d.no, .int .i64 d.at_] 36 (0, 0)) ∧ w'.cell? ⟨b, 0, none⟩ = some (.string (txt d.type)) ∧ w'.cell? ⟨b, 1, none⟩ = some (.string (txt d.key)) ∧ w'.cell? ⟨b, 2, none⟩ = some (.bool d.rep) ∧ w'.cell? ⟨b, 3, none⟩ = some (.int .i64 d.one) ∧ w'.cell? ⟨b, 4, none⟩ = some (.string (txt d.name)) ∧ w'.cell? ⟨b, 5, none⟩ = some (.int .i64 d.no) ∧ w'.cell? ⟨b, 6, none⟩ = some (.int .i64 d.at_) := by
  have hb := hk.trans h.1
  refine ⟨hb, ?_, ?_, ?_, ?_, ?_, ?_, ?_⟩
  all_goals (rw [heap_cell hb]; rfl)
theorem box7_below {w w' : World} {b : Nat} {d : Fd} (hb : Below w.heap.size w w') (h : w.heap[b]? = some (.cells #[.string (txt d.type), .string (txt d.key), .bool d.rep, .int .i64 d.one, .string (txt d.name), .int .i64 d.no, .int .i64 d.at_] 36 (0, 0)) ∧ w.cell? ⟨b, 0, none⟩ = some (.string (txt d.type)) ∧ w.cell? ⟨b, 1, none⟩ = some (.string (txt d.key)) ∧ w.cell? ⟨b, 2, none⟩ = some (.bool d.rep) ∧ w.cell? ⟨b, 3, none⟩ = some (.int .i64 d.one) ∧ w.cell? ⟨b, 4, none⟩ = some (.string (txt d.name)) ∧ w.cell? ⟨b, 5, none⟩ = some (.int .i64 d.no) ∧ w.cell? ⟨b, 6, none⟩ = some (.int .i64 d.at_)) : w'.heap[b]? = some (.cells #[.string (txt d.type), .string (txt d.key), .bool d.rep, .int .i64 d.one, .string (txt d.name), .int .i64 d.no, .int .i64 d.at_] 36 (0, 0)) ∧ w'.cell? ⟨b, 0, none⟩ = some (.string (txt d.type)) ∧ w'.cell? ⟨b, 1, none⟩ = some (.string (txt d.key)) ∧ w'.cell? ⟨b, 2, none⟩ = some (.bool d.rep) ∧ w'.cell? ⟨b, 3, none⟩ = some (.int .i64 d.one) ∧ w'.cell? ⟨b, 4, none⟩ = some (.string (txt d.name)) ∧ w'.cell? ⟨b, 5, none⟩ = some (.int .i64 d.no) ∧ w'.cell? ⟨b, 6, none⟩ = some (.int .i64 d.at_) := box7_keep (hb.block b (Array.getElem?_eq_some_iff.1 h.1).1) h
theorem box7_pr {B : Nat} {w w' : World} {b : Nat} {d : Fd} (hb : Pr B w w') (h : w.heap[b]? = some (.cells #[.string (txt d.type), .string (txt d.key), .bool d.rep, .int .i64 d.one, .string (txt d.name), .int .i64 d.no, .int .i64 d.at_] 36 (0, 0)) ∧ w.cell? ⟨b, 0, none⟩ = some (.string (txt d.type)) ∧ w.cell? ⟨b, 1, none⟩ = some (.string (txt d.key)) ∧ w.cell? ⟨b, 2, none⟩ = some (.bool d.rep) ∧ w.cell? ⟨b, 3, none⟩ = some (.int .i64 d.one) ∧ w.cell? ⟨b, 4, none⟩ = some (.string (txt d.name)) ∧ w.cell? ⟨b, 5, none⟩ = some (.int .i64 d.no) ∧ w.cell? ⟨b, 6, none⟩ = some (.int .i64 d.at_)) : w'.heap[b]? = some (.cells #[.string (txt d.type), .string (txt d.key), .bool d.rep, .int .i64 d.one, .string (txt d.name), .int .i64 d.no, .int .i64 d.at_] 36 (0, 0)) ∧ w'.cell? ⟨b, 0, none⟩ = some (.string (txt d.type)) ∧ w'.cell? ⟨b, 1, none⟩ = some (.string (txt d.key)) ∧ w'.cell? ⟨b, 2, none⟩ = some (.bool d.rep) ∧ w'.cell? ⟨b, 3, none⟩ = some (.int .i64 d.one) ∧ w'.cell? ⟨b, 4, none⟩ = some (.string (txt d.name)) ∧ w'.cell? ⟨b, 5, none⟩ = some (.int .i64 d.no) ∧ w'.cell? ⟨b, 6, none⟩ = some (.int .i64 d.at_) := box7_keep (hb.typed b _ _ _ h.1 (by decide)) h
theorem box7_new (w : World) (d : Fd) : (w.alloc (.cells #[.string (txt d.type), .string (txt d.key), .bool d.rep, .int .i64 d.one, .string (txt d.name), .int .i64 d.no, .int .i64 d.at_] 36)).heap[w.heap.size]? = some (.cells #[.string (txt d.type), .string (txt d.key), .bool d.rep, .int .i64 d.one, .string (txt d.name), .int .i64 d.no, .int .i64 d.at_] 36 (0, 0)) ∧ (w.alloc (.cells #[.string (txt d.type), .string (txt d.key), .bool d.rep, .int .i64 d.one, .string (txt d.name), .int .i64 d.no, .int .i64 d.at_] 36)).cell? ⟨w.heap.size, 0, none⟩ = some (.string (txt d.type)) ∧ (w.alloc (.cells #[.string (txt d.type), .string (txt d.key), .bool d.rep, .int .i64 d.one, .string (txt d.name), .int .i64 d.no, .int .i64 d.at_] 36)).cell? ⟨w.heap.size, 1, none⟩ = some (.string (txt d.key)) ∧ (w.alloc (.cells #[.string (txt d.type), .string (txt d.key), .bool d.rep, .int .i64 d.one, .string (txt d.name), .int .i64 d.no, .int .i64 d.at_] 36)).cell? ⟨w.heap.size, 2, none⟩ = some (.bool d.rep) ∧ (w.alloc (.cells #[.string (txt d.type), .string (txt d.key), .bool d.rep, .int .i64 d.one, .string (txt d.name), .int .i64 d.no, .int .i64 d.at_] 36)).cell? ⟨w.heap.size, 3, none⟩ = some (.int .i64 d.one) ∧ (w.alloc (.cells #[.string (txt d.type), .string (txt d.key), .bool d.rep, .int .i64 d.one, .string (txt d.name), .int .i64 d.no, .int .i64 d.at_] 36)).cell? ⟨w.heap.size, 4, none⟩ = some (.string (txt d.name)) ∧ (w.alloc (.cells #[.string (txt d.type), .string (txt d.key), .bool d.rep, .int .i64 d.one, .string (txt d.name), .int .i64 d.no, .int .i64 d.at_] 36)).cell? ⟨w.heap.size, 5, none⟩ = some (.int .i64 d.no) ∧ (w.alloc (.cells #[.string (txt d.type), .string (txt d.key), .bool d.rep, .int .i64 d.one, .string (txt d.name), .int .i64 d.no, .int .i64 d.at_] 36)).cell? ⟨w.heap.size, 6, none⟩ = some (.int .i64 d.at_) := by
  have hb := heap_alloc_new w (.cells #[.string (txt d.type), .string (txt d.key), .bool d.rep, .int .i64 d.one, .string (txt d.name), .int .i64 d.no, .int .i64 d.at_] 36)
  refine ⟨hb, ?_, ?_, ?_, ?_, ?_, ?_, ?_⟩
  all_goals (rw [heap_cell hb]; rfl)
/-- A field whose texts and number are not too great. -/
structure FdOk (d : Fd) : Prop where
  key : d.key.length ≤ 1000000
  type : d.type.length ≤ 1000000
  name : d.name.length ≤ 1000000
  lo : -9223372036854775808 ≤ d.no
  hi : d.no ≤ 9223372036854775807
set_option maxHeartbeats 4000000 in
theorem pfld_any (B : Nat) (v : Value) (L ahead : List UInt8) (d : Fd) (w : World) (LV : Laid w) (ho : Out B w v L) (hB : B ≤ w.heap.size) (hd : FdOk d) (hl : L.length + (fieldB ahead d).length ≤ 1000000000) :
    Calls Tryd.prog 28 #[v, .string (txt ahead), FdV d] w (OutPost B (L ++ fieldB ahead d) w) := by
  have HX : Hid (FdV d = .agg #[.string (txt d.type), .string (txt d.key), .bool d.rep, .int .i64 d.one, .string (txt d.name), .int .i64 d.no, .int .i64 d.at_]) := Lib.hid rfl
  have H1 := Lib.hid (fun w => typeOf_any d w hd.key hd.type)
  have H2 := Lib.hid (fun w L => digits_any d.no hd.lo hd.hi w L)
  have HR : Hid (fieldB ahead d = lineB [ahead, typeB d, [32], d.name, [32, 61, 32], digB d.no, [59]]) := Lib.hid rfl
  have hsz : L.length + [ahead, typeB d, [32], d.name, [32, 61, 32], digB d.no, [59]].flatten.length ≤ 1000000000 := by
    rw [HR.out] at hl
    unfold lineB at hl
    rw [List.length_append] at hl
    omega
  have HSZ := Lib.hid hsz
  have HO := Lib.hid (ho.alloc (.cells #[.string (txt d.type), .string (txt d.key), .bool d.rep, .int .i64 d.one, .string (txt d.name), .int .i64 d.no, .int .i64 d.at_] 36))
  have HB := Lib.hid hB
  have LA := LV.on (below_new w (.cells #[.string (txt d.type), .string (txt d.key), .bool d.rep, .int .i64 d.one, .string (txt d.name), .int .i64 d.no, .int .i64 d.at_] 36))
  have LB : Laid ((w.alloc (.cells #[.string (txt d.type), .string (txt d.key), .bool d.rep, .int .i64 d.one, .string (txt d.name), .int .i64 d.no, .int .i64 d.at_] 36)).drew) := LA.on (Below.refl _ _).drew
  have h0 := box7_keep (w' := (w.alloc (.cells (FC d).toArray 36)).drew) rfl (box7_new w d)
  simp only [FC] at h0
  have HD := Lib.hid hd
  rw [HX.out]
  clear hd hl hsz ho hB LA LV
  generalize fieldB ahead d = R at *
  go_enter Tryd.func28, Tryd.ntmps28
  go_wp2_with fail
  go_region_held3 (fun w' => w'.heap[w.heap.size]? = some (.cells #[.string (txt d.type), .string (txt d.key), .bool d.rep, .int .i64 d.one, .string (txt d.name), .int .i64 d.no, .int .i64 d.at_] 36 (0, 0)) ∧ w'.cell? ⟨w.heap.size, 0, none⟩ = some (.string (txt d.type)) ∧ w'.cell? ⟨w.heap.size, 1, none⟩ = some (.string (txt d.key)) ∧ w'.cell? ⟨w.heap.size, 2, none⟩ = some (.bool d.rep) ∧ w'.cell? ⟨w.heap.size, 3, none⟩ = some (.int .i64 d.one) ∧ w'.cell? ⟨w.heap.size, 4, none⟩ = some (.string (txt d.name)) ∧ w'.cell? ⟨w.heap.size, 5, none⟩ = some (.int .i64 d.no) ∧ w'.cell? ⟨w.heap.size, 6, none⟩ = some (.int .i64 d.at_))
    (first | exact h0 | exact box7_below hb1 ‹_› | exact box7_below hb2 ‹_› | exact box7_below (below_new _ _) ‹_› | exact box7_pr hpr4 ‹_› | go_keep)
    ((first
      | (go_at_call 52; rw [← HX.out]; refine (H1.out _).mono ?_; rw [HX.out]; rintro e w1 ⟨rfl, hb1⟩)
      | (go_at_call 31; refine (H2.out _ (by first | exact LB | exact LB.on hb1)).mono ?_; rintro e w2 ⟨rfl, hb2⟩)
      | (go_at_call 25; refine (line_any B _ 7 v L [ahead, typeB d, [32], d.name, [32, 61, 32], digB d.no, [59]] _ rfl (by first | exact (((HO.out.below (Below.refl _ _).drew).below hb1).below hb2).alloc _ | exact (((HO.out.below (Below.refl _ _).drew).below hb2).below hb1).alloc _) (heap_alloc_new _ _) (by have h1 := hb1.size; have h2 := hb2.size; have h3 := HB.out; simp at h1 h2 ⊢; omega) HSZ.out (by simp)).mono ?_; rintro e w4 ⟨v4, rfl, ho4, hpr4⟩)))
  all_goals
    go_wp2
    go_ret
    have h1 := hb1.size
    have h2 := hb2.size
    have h3 := HB.out
    simp at h1 h2
    refine ⟨v4, rfl, by rw [HR.out]; exact ho4, ?_⟩
    first
      | exact ((((((Pr.refl B w).alloc HB.out _).drew.trans (Pr.below hb1 (by simp; omega))).trans (Pr.below hb2 (by omega))).trans ((Pr.refl B w2).alloc (by omega) _))).trans hpr4
      | exact ((((((Pr.refl B w).alloc HB.out _).drew.trans (Pr.below hb2 (by simp; omega))).trans (Pr.below hb1 (by omega))).trans ((Pr.refl B w1).alloc (by omega) _))).trans hpr4
end Go.Proofs.YtldgfepimegbmaaDoor
