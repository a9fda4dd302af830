/-
  A oneof is printed: the contract.
-/
import Derived.Test.YtldgfepimegbmaaDoorProPfld
namespace Go.Proofs.YtldgfepimegbmaaDoor
set_option maxRecDepth 100000
open Go.RowKit

/-- What is laid lies below B. -/
def LaidB (B : Nat) (w : World) : Prop := ∃ w0, Laid w0 ∧ w0.heap.size ≤ B ∧ Below w0.heap.size w0 w
theorem LaidB.laid {B : Nat} {w : World} (h : LaidB B w) : Laid w := by
  obtain ⟨w0, h1, h2, h3⟩ := h
  exact h1.on h3
theorem LaidB.pr {B : Nat} {w w' : World} (h : LaidB B w) (k : Pr B w w') : LaidB B w' := by
  obtain ⟨w0, h1, h2, h3⟩ := h
  exact ⟨w0, h1, h2, h3.trans ⟨k.os, k.tape, k.output, k.size, fun i hi => k.block i (by omega)⟩⟩
theorem LaidB.start {w : World} (h : Laid w) : LaidB w.heap.size w := ⟨w, h, Nat.le_refl _, Below.refl _ _⟩
theorem fdv_length (l : List Fd) : (fdv l).length = l.length * 7 := by
  induction l with
  | nil => rfl
  | cons d l ih => simp only [fdv, List.flatMap_cons, List.length_append, List.length_cons] at ih ⊢; rw [ih]; simp [FC]; omega
theorem fdv_get : ∀ (l : List Fd) (k j : Nat) (d : Fd), l[k]? = some d → j < 7 → (fdv l)[k * 7 + j]? = (FC d)[j]?
  | [], k, j, r, h, _ => by simp at h
  | x :: l, 0, j, r, h, hj => by
    obtain rfl : x = r := by simpa using h
    rw [show fdv (x :: l) = FC x ++ fdv l by simp [fdv], Nat.zero_mul, Nat.zero_add, List.getElem?_append_left (by simp [FC]; omega)]
  | x :: l, k + 1, j, r, h, hj => by
    rw [show fdv (x :: l) = FC x ++ fdv l by simp [fdv], List.getElem?_append_right (by simp [FC]; omega)]
    rw [show (k + 1) * 7 + j - (FC x).length = k * 7 + j by simp [FC]; omega]
    exact fdv_get l k j r (by simpa using h) hj
/-- Field k, as it lies there. -/
theorem fd_at {w : World} {b : Nat} {v : Value} {l : List Fd} (h : w.ownsRow b 36 7 v l.length (fdv l)) {k : Nat} {d : Fd} (hk : l[k]? = some d) :
    ∃ g cap, v = .slice (some ⟨g, 0, none⟩) l.length cap ∧ g < w.heap.size ∧ w.cell? ⟨g, k * 7, none⟩ = some (.string (txt d.type)) ∧ w.cell? ⟨g, k * 7 + 1, none⟩ = some (.string (txt d.key)) ∧ w.cell? ⟨g, k * 7 + 2, none⟩ = some (.bool d.rep) ∧
      w.cell? ⟨g, k * 7 + 3, none⟩ = some (.int .i64 d.one) ∧ w.cell? ⟨g, k * 7 + 4, none⟩ = some (.string (txt d.name)) ∧ w.cell? ⟨g, k * 7 + 5, none⟩ = some (.int .i64 d.no) ∧ w.cell? ⟨g, k * 7 + 6, none⟩ = some (.int .i64 d.at_) := by
  have hlt : k < l.length := (List.getElem?_eq_some_iff.1 hk).1
  rcases h.2 with ⟨_, h0⟩ | ⟨g, cap, cur, rfl, _, hh, _⟩
  · omega
  · have hc := fun (j : Nat) (hj : j < 7) => h.cells (g := g) rfl (k * 7 + j)
    have hv := fun (j : Nat) (hj : j < 7) => fdv_get l k j d hk hj
    have key : ∀ (j : Nat) (hj : j < 7) (u : Value), (FC d)[j]? = some u → w.cell? ⟨g, k * 7 + j, none⟩ = some u := by
      intro j hj u hu
      have := hc j hj u (by rw [hv j hj, hu])
      simpa [Addr.add_lit] using this
    exact ⟨g, cap, rfl, (Array.getElem?_eq_some_iff.1 hh).1, key 0 (by omega) _ rfl, key 1 (by omega) _ rfl, key 2 (by omega) _ rfl, key 3 (by omega) _ rfl, key 4 (by omega) _ rfl, key 5 (by omega) _ rfl, key 6 (by omega) _ rfl⟩
theorem fieldsB_take (a : List UInt8) (l : List Fd) (k : Nat) (d : Fd) (h : l[k]? = some d) : fieldsB a (l.take (k + 1)) = fieldsB a (l.take k) ++ fieldB a d := by
  rw [List.take_add_one, h]; simp [fieldsB]
theorem fieldsB_le (a : List UInt8) (l : List Fd) (k : Nat) : (fieldsB a (l.take k)).length ≤ (fieldsB a l).length := by
  conv => rhs; rw [← List.take_append_drop k l]
  simp only [fieldsB, List.map_append, List.flatten_append, List.length_append]
  omega
def FsRel (B : Nat) (a : List UInt8) (L : List UInt8) (l : List Fd) (w : World) (o i : Value) (wr : World) : Prop := ∃ k : Nat, i = .int .i64 k ∧ k ≤ l.length ∧ Out B wr o (L ++ fieldsB a (l.take k)) ∧ Pr B w wr
theorem FsRel.mk {B : Nat} {a L : List UInt8} {l : List Fd} {w wr : World} {o i : Value} (k : Nat) (h1 : i = .int .i64 k) (h2 : k ≤ l.length) (h3 : Out B wr o (L ++ fieldsB a (l.take k))) (h4 : Pr B w wr) : FsRel B a L l w o i wr := ⟨k, h1, h2, h3, h4⟩
set_option maxHeartbeats 4000000 in
theorem pone_any (B : Nat) (v vm : Value) (L name : List UInt8) (l : List Fd) (w : World) (LV : LaidB B w) (ho : Out B w v L) (hm : w.ownsRow 0 36 7 vm l.length (fdv l)) (hB : B ≤ w.heap.size) (hd : ∀ d ∈ l, FdOk d) (hl : L.length + (oneB name l).length ≤ 1000000000) (hll : l.length ≤ 1000000) :
    Calls Tryd.prog 29 #[v, .string (txt name), vm] w (OutPost B (L ++ oneB name l) w) := by
  by_cases h0 : l = []
  · subst h0
    have HO := Lib.hid ho
    obtain ⟨A, c, rfl, -⟩ := Sl.of_own hm
    clear ho hm hl
    go_enter Tryd.func29, Tryd.ntmps29
    go_wp2
    go_ret
    exact ⟨_, rfl, by simpa [oneB] using HO.out, Pr.refl _ _⟩
  · have HR : Hid (oneB name l = lineB [[32, 32], wOneof, [32], name, [32, 123]] ++ fieldsB [32, 32, 32, 32] l ++ lineB [[32, 32], [125]]) := Lib.hid (by rw [oneB, if_neg h0])
    have hlp : 0 < l.length := List.length_pos_iff.2 h0
    have hbi : ((l.length : Int) == 0) = false := by rw [beq_eq_false_iff_ne]; omega
    have hln : L.length + (lineB [[32, 32], wOneof, [32], name, [32, 123]]).length + (fieldsB [32, 32, 32, 32] l).length + (lineB [[32, 32], [125]]).length ≤ 1000000000 := by
      rw [HR.out] at hl
      simp only [List.length_append] at hl
      omega
    have HLN := Lib.hid hln
    have hl1 : L.length + [[32, 32], wOneof, [32], name, [32, 123]].flatten.length ≤ 1000000000 := by
      unfold lineB at hln
      simp only [List.length_append] at hln ⊢
      omega
    have HL1 := Lib.hid hl1
    have H1 := Lib.hid (line_any B w.heap.size 5 v L [[32, 32], wOneof, [32], name, [32, 123]] (w.alloc (.cells (strv [[32, 32], wOneof, [32], name, [32, 123]]).toArray 9)) rfl (ho.alloc _) (heap_alloc_new _ _) (by simp; omega) hl1 (by simp))
    have HM := Lib.hid hm
    have HD := Lib.hid hd
    obtain ⟨A, c, hvm, -⟩ := Sl.of_own hm
    subst hvm
    have HLV := Lib.hid LV
    clear hl hln hl1 hm hd LV h0
    go_enter Tryd.func29, Tryd.ntmps29
    go_wp2_with fail
    refine H1.out.mono ?_
    rintro e w1 ⟨v1, rfl, ho1, hpr1⟩
    have HO1 := Lib.hid ho1
    have HP1 := Lib.hid (((Pr.refl B w).alloc hB _).trans hpr1)
    have hs1 := hpr1.size
    simp at hs1
    clear ho1 hpr1
    go_wp2
    go_loopw [0, 19] (fun o i wr => FsRel B [32, 32, 32, 32] (L ++ lineB [[32, 32], wOneof, [32], name, [32, 123]]) l w o i wr) (fun _ i _ => l.length - (intOf i).toNat)
    case atStart => exact ⟨0, rfl, by omega, by simpa [fieldsB] using HO1.out, HP1.out⟩
    case round =>
      obtain ⟨k, rfl, hk, ho, hpr⟩ := hrel
      have HO5 := Lib.hid ho
      have HPR := Lib.hid hpr
      have hsz := hpr.size
      clear ho hpr
      by_cases h1 : k < l.length
      · obtain ⟨d, hdk⟩ : ∃ d, l[k]? = some d := ⟨_, List.getElem?_eq_getElem h1⟩
        obtain ⟨g, cap, hv, hg, c0, c1, c2, c3, c4, c5, c6⟩ := fd_at (HPR.out.own HM.out (by decide)) hdk
        injection hv with hA hn hc
        subst hA hc
        have hok := HD.out d (List.mem_of_getElem? hdk)
        have hft := fieldsB_take [32, 32, 32, 32] l k d hdk
        have hfl := fieldsB_le [32, 32, 32, 32] l (k + 1)
        rw [hft, List.length_append] at hfl
        have HFT := Lib.hid hft
        have hle : (L ++ lineB [[32, 32], wOneof, [32], name, [32, 123]] ++ fieldsB [32, 32, 32, 32] (l.take k)).length + (fieldB [32, 32, 32, 32] d).length ≤ 1000000000 := by
          have := HLN.out
          simp only [List.length_append] at this ⊢
          omega
        have H2 := Lib.hid (pfld_any B _ _ [32, 32, 32, 32] d (wr.alloc (.cells #[.string (txt d.type), .string (txt d.key), .bool d.rep, .int .i64 d.one, .string (txt d.name), .int .i64 d.no, .int .i64 d.at_] 36)) ((HLV.out.pr HPR.out).laid.on (below_new _ _)) (HO5.out.alloc _) (by simp; omega) hok hle)
        clear hok hft hdk hle hfl hn
        go_wp2_with fail
        refine H2.out.mono ?_
        rintro e w8 ⟨v8, rfl, ho8, hpr8⟩
        have hs8 := hpr8.size
        go_wp2
        refine ⟨FsRel.mk (k + 1) (by go_num) (by omega) ?_ ((HPR.out.alloc hB _).trans hpr8), by simp [intOf]; omega⟩
        rw [HFT.out, ← List.append_assoc]
        exact ho8
      · obtain rfl : k = l.length := by omega
        rw [List.take_of_length_le (Nat.le_refl _)] at HO5
        have hle : (L ++ lineB [[32, 32], wOneof, [32], name, [32, 123]] ++ fieldsB [32, 32, 32, 32] l).length + ([[32, 32], [125]] : List (List UInt8)).flatten.length ≤ 1000000000 := by
          have := HLN.out
          unfold lineB at this ⊢
          simp only [List.length_append] at this ⊢
          omega
        have H2 := Lib.hid (line_any B wr.heap.size 2 _ _ [[32, 32], [125]] (wr.alloc (.cells (strv [[32, 32], [125]]).toArray 9)) rfl (HO5.out.alloc _) (heap_alloc_new _ _) (by simp; omega) hle (by simp))
        clear hle
        go_wp2_with fail
        refine H2.out.mono ?_
        rintro e w8 ⟨v8, rfl, ho8, hpr8⟩
        go_wp2
        go_ret
        refine ⟨v8, rfl, ?_, (HPR.out.alloc hB _).trans hpr8⟩
        rw [HR.out, ← List.append_assoc, ← List.append_assoc]
        exact ho8
end Go.Proofs.YtldgfepimegbmaaDoor
