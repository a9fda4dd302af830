/-
  A oneof is printed: the contract.
-/
import Derived.Test.YtciiemomfniecaaGreatDoorProPfld
import Derived.Laws.MakeOwn
import Derived.Deep.RegionHeld3
namespace Go.Proofs.YtciiemomfniecaaGreatDoor
set_option maxRecDepth 100000

open Go.RowKit

/-- What is laid lies below B. -/
def LaidB (B : Nat) (w : World) : Prop := ∃ w0, Laid w0 ∧ w0.heap.size ≤ B ∧ Below w0.heap.size w0 w
theorem LaidB.laid {B : Nat} {w : World} (h : LaidB B w) : Laid w := by
  obtain ⟨w0, h1, h2, h3⟩ := h
  exact h1.on h3
theorem LaidB.pr {B : Nat} {w w' : World} (h : LaidB B w) (k : Pr B w w') : LaidB B w' := by
  obtain ⟨w0, h1, h2, h3⟩ := h
  exact ⟨w0, h1, h2, h3.trans ⟨k.os, k.tape, k.output, k.size, fun i hi => k.block i (by omega)⟩⟩
theorem LaidB.start {w : World} (h : Laid w) : LaidB w.heap.size w := ⟨w, h, Nat.le_refl _, Below.refl _ _⟩
theorem fdv_length (l : List Fd) : (fdv l).length = l.length * 7 := by
  induction l with
  | nil => rfl
  | cons d l ih => simp only [fdv, List.flatMap_cons, List.length_append, List.length_cons] at ih ⊢; rw [ih]; simp [FC]; omega
theorem fdv_get : ∀ (l : List Fd) (k j : Nat) (d : Fd), l[k]? = some d → j < 7 → (fdv l)[k * 7 + j]? = (FC d)[j]?
  | [], k, j, r, h, _ => by simp at h
  | x :: l, 0, j, r, h, hj => by
    obtain rfl : x = r := by simpa using h
    rw [show fdv (x :: l) = FC x ++ fdv l by simp [fdv], Nat.zero_mul, Nat.zero_add, List.getElem?_append_left (by simp [FC]; omega)]
  | x :: l, k + 1, j, r, h, hj => by
    rw [show fdv (x :: l) = FC x ++ fdv l by simp [fdv], List.getElem?_append_right (by simp [FC]; omega)]
    rw [show (k + 1) * 7 + j - (FC x).length = k * 7 + j by simp [FC]; omega]
    exact fdv_get l k j r (by simpa using h) hj
/-- Field k, as it lies there. -/
theorem fd_at {w : World} {b : Nat} {v : Value} {l : List Fd} (h : w.ownsRow b 53 7 v l.length (fdv l)) {k : Nat} {d : Fd} (hk : l[k]? = some d) :
    ∃ g cap, v = .slice (some ⟨g, 0, none⟩) l.length cap ∧ g < w.heap.size ∧ w.cell? ⟨g, k * 7, none⟩ = some (.string (txt d.type)) ∧ w.cell? ⟨g, k * 7 + 1, none⟩ = some (.string (txt d.key)) ∧ w.cell? ⟨g, k * 7 + 2, none⟩ = some (.bool d.rep) ∧
      w.cell? ⟨g, k * 7 + 3, none⟩ = some (.int .i64 d.one) ∧ w.cell? ⟨g, k * 7 + 4, none⟩ = some (.string (txt d.name)) ∧ w.cell? ⟨g, k * 7 + 5, none⟩ = some (.int .i64 d.no) ∧ w.cell? ⟨g, k * 7 + 6, none⟩ = some (.int .i64 d.at_) := by
  have hlt : k < l.length := (List.getElem?_eq_some_iff.1 hk).1
  rcases h.2 with ⟨_, h0⟩ | ⟨g, cap, cur, rfl, _, hh, _⟩
  · omega
  · have hc := fun (j : Nat) (hj : j < 7) => h.cells (g := g) rfl (k * 7 + j)
    have hv := fun (j : Nat) (hj : j < 7) => fdv_get l k j d hk hj
    have key : ∀ (j : Nat) (hj : j < 7) (u : Value), (FC d)[j]? = some u → w.cell? ⟨g, k * 7 + j, none⟩ = some u := by
      intro j hj u hu
      have := hc j hj u (by rw [hv j hj, hu])
      simpa [Addr.add_lit] using this
    exact ⟨g, cap, rfl, (Array.getElem?_eq_some_iff.1 hh).1, key 0 (by omega) _ rfl, key 1 (by omega) _ rfl, key 2 (by omega) _ rfl, key 3 (by omega) _ rfl, key 4 (by omega) _ rfl, key 5 (by omega) _ rfl, key 6 (by omega) _ rfl⟩
theorem fieldsB_take (a : List UInt8) (l : List Fd) (k : Nat) (d : Fd) (h : l[k]? = some d) : fieldsB a (l.take (k + 1)) = fieldsB a (l.take k) ++ fieldB a d := by
  rw [List.take_add_one, h]; simp [fieldsB]
theorem fieldsB_le (a : List UInt8) (l : List Fd) (k : Nat) : (fieldsB a (l.take k)).length ≤ (fieldsB a l).length := by
  conv => rhs; rw [← List.take_append_drop k l]
  simp only [fieldsB, List.map_append, List.flatten_append, List.length_append]
  omega
def FsRel (B : Nat) (a : List UInt8) (L : List UInt8) (l : List Fd) (w : World) (o i : Value) (wr : World) : Prop := ∃ k : Nat, i = .int .i64 k ∧ k ≤ l.length ∧ Out B wr o (L ++ fieldsB a (l.take k)) ∧ Pr B w wr
theorem FsRel.mk {B : Nat} {a L : List UInt8} {l : List Fd} {w wr : World} {o i : Value} (k : Nat) (h1 : i = .int .i64 k) (h2 : k ≤ l.length) (h3 : Out B wr o (L ++ fieldsB a (l.take k))) (h4 : Pr B w wr) : FsRel B a L l w o i wr := ⟨k, h1, h2, h3, h4⟩
set_option maxHeartbeats 4000000 in
theorem pone_any (B : Nat) (v vm : Value) (L name : List UInt8) (l : List Fd) (w : World) (LV : LaidB B w) (ho : Out B w v L) (hm : w.ownsRow 0 53 7 vm l.length (fdv l)) (hB : B ≤ w.heap.size) (hd : ∀ d ∈ l, FdOk d) (hl : L.length + (oneB name l).length ≤ 1000000000) (hll : l.length ≤ 1000000) :
    Calls Tryz.prog 110 #[v, .string (txt name), vm] w (OutPost B (L ++ oneB name l) w) := by
  by_cases h0 : l = []
  · subst h0
    have HO := Lib.hid ho
    obtain ⟨A, c, rfl, -⟩ := Sl.of_own hm
    clear ho hm hl
    go_enter Tryz.func110, Tryz.ntmps110
    go_wp2
    go_ret
    exact ⟨_, rfl, by simpa [oneB] using HO.out, Pr.refl _ _⟩
  · have HR : Hid (oneB name l = lineB [[32, 32], wOneof, [32], name, [32, 123]] ++ fieldsB [32, 32, 32, 32] l ++ lineB [[32, 32], [125]]) := Lib.hid (by rw [oneB, if_neg h0])
    have hlp : 0 < l.length := List.length_pos_iff.2 h0
    have hbi : ((l.length : Int) == 0) = false := by rw [beq_eq_false_iff_ne]; omega
    have hln : L.length + (lineB [[32, 32], wOneof, [32], name, [32, 123]]).length + (fieldsB [32, 32, 32, 32] l).length + (lineB [[32, 32], [125]]).length ≤ 1000000000 := by
      rw [HR.out] at hl
      simp only [List.length_append] at hl
      omega
    have HLN := Lib.hid hln
    have hl1 : L.length + [[32, 32], wOneof, [32], name, [32, 123]].flatten.length ≤ 1000000000 := by
      unfold lineB at hln
      simp only [List.length_append] at hln ⊢
      omega
    have HL1 := Lib.hid hl1
    have H1 := Lib.hid (line_any B w.heap.size 5 v L [[32, 32], wOneof, [32], name, [32, 123]] (w.alloc (.cells (strv [[32, 32], wOneof, [32], name, [32, 123]]).toArray 9)) rfl (ho.alloc _) (heap_alloc_new _ _) (by simp; omega) hl1 (by simp))
    have HM := Lib.hid hm
    have HD := Lib.hid hd
    obtain ⟨A, c, hvm, -⟩ := Sl.of_own hm
    subst hvm
    have HLV := Lib.hid LV
    clear hl hln hl1 hm hd LV h0
    go_enter Tryz.func110, Tryz.ntmps110
    go_wp2_with fail
    refine H1.out.mono ?_
    rintro e w1 ⟨v1, rfl, ho1, hpr1⟩
    have HO1 := Lib.hid ho1
    have HP1 := Lib.hid (((Pr.refl B w).alloc hB _).trans hpr1)
    have hs1 := hpr1.size
    simp at hs1
    clear ho1 hpr1
    go_wp2
    go_loopw [0, 19] (fun o i wr => FsRel B [32, 32, 32, 32] (L ++ lineB [[32, 32], wOneof, [32], name, [32, 123]]) l w o i wr) (fun _ i _ => l.length - (intOf i).toNat)
    case atStart => exact ⟨0, rfl, by omega, by simpa [fieldsB] using HO1.out, HP1.out⟩
    case round =>
      obtain ⟨k, rfl, hk, ho, hpr⟩ := hrel
      have HO5 := Lib.hid ho
      have HPR := Lib.hid hpr
      have hsz := hpr.size
      clear ho hpr
      by_cases h1 : k < l.length
      · obtain ⟨d, hdk⟩ : ∃ d, l[k]? = some d := ⟨_, List.getElem?_eq_getElem h1⟩
        obtain ⟨g, cap, hv, hg, c0, c1, c2, c3, c4, c5, c6⟩ := fd_at (HPR.out.own HM.out (by decide)) hdk
        injection hv with hA hn hc
        subst hA hc
        have hok := HD.out d (List.mem_of_getElem? hdk)
        have hft := fieldsB_take [32, 32, 32, 32] l k d hdk
        have hfl := fieldsB_le [32, 32, 32, 32] l (k + 1)
        rw [hft, List.length_append] at hfl
        have HFT := Lib.hid hft
        have hle : (L ++ lineB [[32, 32], wOneof, [32], name, [32, 123]] ++ fieldsB [32, 32, 32, 32] (l.take k)).length + (fieldB [32, 32, 32, 32] d).length ≤ 1000000000 := by
          have := HLN.out
          simp only [List.length_append] at this ⊢
          omega
        have H2 := Lib.hid (pfld_any B _ _ [32, 32, 32, 32] d (wr.alloc (.cells #[.string (txt d.type), .string (txt d.key), .bool d.rep, .int .i64 d.one, .string (txt d.name), .int .i64 d.no, .int .i64 d.at_] 53)) ((HLV.out.pr HPR.out).laid.on (below_new _ _)) (HO5.out.alloc _) (by simp; omega) hok hle)
        clear hok hft hdk hle hfl hn
        go_wp2_with fail
        refine H2.out.mono ?_
        rintro e w8 ⟨v8, rfl, ho8, hpr8⟩
        have hs8 := hpr8.size
        go_wp2
        refine ⟨FsRel.mk (k + 1) (by go_num) (by omega) ?_ ((HPR.out.alloc hB _).trans hpr8), by simp [intOf]; omega⟩
        rw [HFT.out, ← List.append_assoc]
        exact ho8
      · obtain rfl : k = l.length := by omega
        rw [List.take_of_length_le (Nat.le_refl _)] at HO5
        have hle : (L ++ lineB [[32, 32], wOneof, [32], name, [32, 123]] ++ fieldsB [32, 32, 32, 32] l).length + ([[32, 32], [125]] : List (List UInt8)).flatten.length ≤ 1000000000 := by
          have := HLN.out
          unfold lineB at this ⊢
          simp only [List.length_append] at this ⊢
          omega
        have H2 := Lib.hid (line_any B wr.heap.size 2 _ _ [[32, 32], [125]] (wr.alloc (.cells (strv [[32, 32], [125]]).toArray 9)) rfl (HO5.out.alloc _) (heap_alloc_new _ _) (by simp; omega) hle (by simp))
        clear hle
        go_wp2_with fail
        refine H2.out.mono ?_
        rintro e w8 ⟨v8, rfl, ho8, hpr8⟩
        go_wp2
        go_ret
        refine ⟨v8, rfl, ?_, (HPR.out.alloc hB _).trans hpr8⟩
        rw [HR.out, ← List.append_assoc, ← List.append_assoc]
        exact ho8
end Go.Proofs.YtciiemomfniecaaGreatDoor
/-
  Reserved numbers and an enum are printed: the contracts.
-/
namespace Go.Proofs.YtciiemomfniecaaGreatDoor
set_option maxRecDepth 100000

open Go.RowKit

theorem int_at {w : World} {b : Nat} {v : Value} {l : List Int} (h : w.ownsRow b 2 1 v l.length (intv l)) {k : Nat} {n : Int} (hk : l[k]? = some n) :
    ∃ g cap, v = .slice (some ⟨g, 0, none⟩) l.length cap ∧ g < w.heap.size ∧ w.cell? ⟨g, k, none⟩ = some (.int .i64 n) := by
  have hlt : k < l.length := (List.getElem?_eq_some_iff.1 hk).1
  rcases h.2 with ⟨_, h0⟩ | ⟨g, cap, cur, rfl, _, hh, _⟩
  · omega
  · have := h.cells (g := g) rfl k (.int .i64 n) (by simp [intv, hk])
    exact ⟨g, cap, rfl, (Array.getElem?_eq_some_iff.1 hh).1, by simpa [Addr.add_lit] using this⟩
theorem numsB_take (a : List UInt8) (l : List Int) (k : Nat) (n : Int) (h : l[k]? = some n) : numsB a (l.take (k + 1)) = numsB a (l.take k) ++ ((if k = 0 then a else [44, 32]) ++ digB n) := by
  have hlt : k < l.length := (List.getElem?_eq_some_iff.1 h).1
  rw [List.take_add_one, h]
  simp only [Option.toList_some]
  rw [numsB_snoc]
  congr 2
  by_cases h0 : k = 0
  · subst h0; simp
  · have : l.take k ≠ [] := by intro e; have := congrArg List.length e; rw [List.length_take, List.length_nil] at this; omega
    simp [h0, this]
theorem numsB_app (a : List UInt8) (l : List Int) (k : Nat) : ∃ r, numsB a l = numsB a (l.take k) ++ r := by
  induction l generalizing a k with
  | nil => exact ⟨[], by simp [numsB]⟩
  | cons n l ih =>
    cases k with
    | zero => exact ⟨_, by rw [List.take_zero, numsB]; rfl⟩
    | succ k =>
      obtain ⟨r, hr⟩ := ih [44, 32] k
      exact ⟨r, by rw [numsB, hr, List.take_succ_cons, numsB]; simp⟩
theorem numsB_le (a : List UInt8) (l : List Int) (k : Nat) : (numsB a (l.take k)).length ≤ (numsB a l).length := by
  obtain ⟨r, hr⟩ := numsB_app a l k
  rw [hr, List.length_append]; omega
def NsRel (B : Nat) (L : List UInt8) (l : List Int) (w : World) (o s i : Value) (wr : World) : Prop := ∃ k : Nat, i = .int .i64 k ∧ s = .string (txt (if k = 0 then [32] else [44, 32])) ∧ k ≤ l.length ∧ Out B wr o (L ++ numsB [32] (l.take k)) ∧ Pr B w wr
theorem NsRel.mk {B : Nat} {L : List UInt8} {l : List Int} {w wr : World} {o s i : Value} (k : Nat) (h1 : i = .int .i64 k) (hs : s = .string (txt (if k = 0 then [32] else [44, 32]))) (h2 : k ≤ l.length) (h3 : Out B wr o (L ++ numsB [32] (l.take k))) (h4 : Pr B w wr) : NsRel B L l w o s i wr := ⟨k, h1, hs, h2, h3, h4⟩
set_option maxHeartbeats 4000000 in
theorem pres_any (B : Nat) (v vr : Value) (L : List UInt8) (l : List Int) (w : World) (LV : LaidB B w) (ho : Out B w v L) (hm : w.ownsRow 0 2 1 vr l.length (intv l)) (hB : B ≤ w.heap.size) (hd : ∀ n ∈ l, -9223372036854775808 ≤ n ∧ n ≤ 9223372036854775807) (hl : L.length + (resB l).length ≤ 1000000000) (hll : l.length ≤ 1000000) :
    Calls Tryz.prog 111 #[v, vr] w (OutPost B (L ++ resB l) w) := by
  obtain ⟨i0, hi, hz0, hz1, hz2⟩ := info_parts info_u8
  obtain ⟨LW, hLW⟩ : ∃ x : List UInt8, x = L ++ [32, 32, 114, 101, 115, 101, 114, 118, 101, 100] := ⟨_, rfl⟩
  have hlw : LW.length = L.length + 10 := by rw [hLW]; simp
  have HR : Hid (L ++ resB l = LW ++ numsB [32] l ++ lineB [[59]]) := Lib.hid (by rw [hLW, resB]; simp)
  have hln : LW.length + (numsB [32] l).length + (lineB [[59]]).length ≤ 1000000000 := by
    rw [resB] at hl
    simp only [List.length_append] at hl
    simp only [List.length_cons, List.length_nil] at hl
    omega
  have HLN := Lib.hid hln
  have HLW := Lib.hid hLW
  have HO := Lib.hid ho
  have HM := Lib.hid hm
  have HD := Lib.hid hd
  have HLV := Lib.hid LV
  obtain ⟨A, c, hvm, -⟩ := Sl.of_own hm
  subst hvm
  have hlL : L.length ≤ 1000000000 := by omega
  clear hl hln hm hd LV ho hLW
  go_enter Tryz.func111, Tryz.ntmps111
  go_wp2_with (refine Lib.wpList_append_own_string _ rfl _ _ _ _ rfl B 5 i0 Tryz.underlying106 Tryz.underlying9 hi hz0 hz1 hz2 _ _ _ rfl HO.out (txt [32, 32, 114, 101, 115, 101, 114, 118, 101, 100]) rfl (by rw [txt_size]; unfold maxLen; simp; omega) (by rw [txt_size]; simp; omega) (by omega) ?_; intro v1 w1 hown1 hg1 hnil1)
  have HO1 : Hid (Out B w1 v1 LW) := Lib.hid (by rw [HLW.out]; exact Out.grow hown1 (by rw [txt_size]; simp) (by rw [strCells_bs]))
  have HP1 := Lib.hid (Pr.grown HO.out hg1 hB)
  have hs1 := hg1.size
  clear hown1 hg1 hnil1
  go_loopw [0, 5, 12] (fun o s i wr => NsRel B LW l w o s i wr) (fun _ _ i _ => l.length - (intOf i).toNat)
  case atStart => exact ⟨0, rfl, rfl, by omega, by simpa [numsB] using HO1.out, HP1.out⟩
  case round =>
    obtain ⟨k, rfl, rfl, hk, ho, hpr⟩ := hrel
    have HO5 := Lib.hid ho
    have HPR := Lib.hid hpr
    have hsz := hpr.size
    clear ho hpr
    by_cases h1 : k < l.length
    · obtain ⟨n, hdk⟩ : ∃ n, l[k]? = some n := ⟨_, List.getElem?_eq_getElem h1⟩
      obtain ⟨g, cap, hv, hg, c0⟩ := int_at (HPR.out.own HM.out (by decide)) hdk
      injection hv with hA hn hc
      subst hA hc
      obtain ⟨n1, n2⟩ := HD.out n (List.mem_of_getElem? hdk)
      have hft := numsB_take [32] l k n hdk
      have hfl := numsB_le [32] l (k + 1)
      obtain ⟨a, ha⟩ : ∃ a : List UInt8, a = (if k = 0 then [32] else [44, 32]) := ⟨_, rfl⟩
      rw [← ha] at hft
      rw [hft] at hfl
      have HFT := Lib.hid hft
      have H2 := Lib.hid (fun w L => digits_any n n1 n2 w L)
      change Hid (∀ w, Laid w → Calls Tryz.prog 112 #[.int .i64 n] w fun e w' => e = .returned (.string (txt (digB n))) ∧ Below w.heap.size w w') at H2
      simp only [List.length_append] at hfl
      have hsa := txt_size a
      have hsd := txt_size (digB n)
      have hle := HLN.out
      have ho5l : (LW ++ numsB [32] (l.take k)).length = LW.length + (numsB [32] (l.take k)).length := by simp
      have HOL := Lib.hid ho5l
      have b1 : (LW ++ numsB [32] (l.take k)).length + (txt a).size ≤ 1000000000 := by omega
      have b2 : (LW ++ numsB [32] (l.take k)).length + (txt a).size + (txt (digB n)).size ≤ 1000000000 := by omega
      have HSA := Lib.hid hsa
      have HSD := Lib.hid hsd
      rw [← ha]
      have HA := Lib.hid ha
      clear hft hdk hfl hn ha hsa hsd hle ho5l n1 n2
      go_wp2_with (refine Lib.wpList_append_own_string _ rfl _ _ _ _ rfl B 5 i0 Tryz.underlying106 Tryz.underlying9 hi hz0 hz1 hz2 _ _ _ rfl HO5.out (txt a) rfl (by unfold maxLen; omega) (by omega) (by omega) ?_; intro v6 w6 hown6 hg6 hnil6)
      have hq6 : Pr B w w6 := HPR.out.trans (Pr.grown HO5.out hg6 (by omega))
      have HQ6 := Lib.hid hq6
      have ho6 : Out B w6 v6 (LW ++ numsB [32] (l.take k) ++ a) := Out.grow hown6 (by rw [HSA.out]; simp [Nat.add_assoc]) (by rw [strCells_bs])
      have hs6 := hq6.size
      clear hown6 hnil6 hq6
      refine (H2.out _ (HLV.out.pr HQ6.out).laid).mono ?_
      rintro e w7 ⟨rfl, hb7⟩
      have HO7 := Lib.hid (ho6.below hb7)
      have HQ7 := Lib.hid (HQ6.out.trans (Pr.below hb7 (by omega)))
      have hs7 := hb7.size
      have b3 : (LW ++ numsB [32] (l.take k) ++ a).length + (txt (digB n)).size ≤ 1000000000 := by
        have := HSA.out
        rw [List.length_append]
        omega
      clear ho6 hb7 hg6
      go_wp2_with (refine Lib.wpList_append_own_string _ rfl _ _ _ _ rfl B 5 i0 Tryz.underlying106 Tryz.underlying9 hi hz0 hz1 hz2 _ _ _ rfl HO7.out (txt (digB n)) rfl (by unfold maxLen; omega) (by omega) (by omega) ?_; intro v8 w8 hown8 hg8 hnil8)
      refine ⟨NsRel.mk (k + 1) (by go_num) rfl (by omega) ?_ (HQ7.out.trans (Pr.grown HO7.out hg8 (by omega))), by simp [intOf]; omega⟩
      rw [HFT.out, ← List.append_assoc, ← List.append_assoc]
      exact Out.grow hown8 (by rw [HSD.out]; simp [Nat.add_assoc]) (by rw [strCells_bs])
    · obtain rfl : k = l.length := by omega
      rw [List.take_of_length_le (Nat.le_refl _)] at HO5
      have hle : (LW ++ numsB [32] l).length + ([[59]] : List (List UInt8)).flatten.length ≤ 1000000000 := by
        have := HLN.out
        unfold lineB at this
        simp only [List.length_append] at this ⊢
        omega
      obtain ⟨a, ha⟩ : ∃ a : List UInt8, a = (if l.length = 0 then [32] else [44, 32]) := ⟨_, rfl⟩
      rw [← ha]
      clear ha
      have H2 := Lib.hid (line_any B wr.heap.size 1 _ _ [[59]] (wr.alloc (.cells (strv [[59]]).toArray 9)) rfl (HO5.out.alloc _) (heap_alloc_new _ _) (by simp; omega) hle (by simp))
      clear hle
      go_wp2_with fail
      refine H2.out.mono ?_
      rintro e w8 ⟨v8, rfl, ho8, hpr8⟩
      go_wp2
      go_ret
      refine ⟨v8, rfl, ?_, (HPR.out.alloc hB _).trans hpr8⟩
      rw [HR.out]
      exact ho8
end Go.Proofs.YtciiemomfniecaaGreatDoor
/-
  An enum is printed: the contract.
-/
namespace Go.Proofs.YtciiemomfniecaaGreatDoor
set_option maxRecDepth 100000

open Go.RowKit

theorem vlv_length (l : List Vl) : (vlv l).length = l.length * 3 := by
  induction l with
  | nil => rfl
  | cons d l ih => simp only [vlv, List.flatMap_cons, List.length_append, List.length_cons] at ih ⊢; rw [ih]; simp [VC]; omega
theorem vlv_get : ∀ (l : List Vl) (k j : Nat) (d : Vl), l[k]? = some d → j < 3 → (vlv l)[k * 3 + j]? = (VC d)[j]?
  | [], k, j, r, h, _ => by simp at h
  | x :: l, 0, j, r, h, hj => by
    obtain rfl : x = r := by simpa using h
    rw [show vlv (x :: l) = VC x ++ vlv l by simp [vlv], Nat.zero_mul, Nat.zero_add, List.getElem?_append_left (by simp [VC]; omega)]
  | x :: l, k + 1, j, r, h, hj => by
    rw [show vlv (x :: l) = VC x ++ vlv l by simp [vlv], List.getElem?_append_right (by simp [VC]; omega)]
    rw [show (k + 1) * 3 + j - (VC x).length = k * 3 + j by simp [VC]; omega]
    exact vlv_get l k j r (by simpa using h) hj
theorem vl_at {w : World} {b : Nat} {v : Value} {l : List Vl} (h : w.ownsRow b 83 3 v l.length (vlv l)) {k : Nat} {d : Vl} (hk : l[k]? = some d) :
    ∃ g cap, v = .slice (some ⟨g, 0, none⟩) l.length cap ∧ g < w.heap.size ∧ w.cell? ⟨g, k * 3, none⟩ = some (.string (txt d.name)) ∧ w.cell? ⟨g, k * 3 + 1, none⟩ = some (.int .i64 d.n) ∧ w.cell? ⟨g, k * 3 + 2, none⟩ = some (.int .i64 d.at_) := by
  have hlt : k < l.length := (List.getElem?_eq_some_iff.1 hk).1
  rcases h.2 with ⟨_, h0⟩ | ⟨g, cap, cur, rfl, _, hh, _⟩
  · omega
  · have hc := fun (j : Nat) (hj : j < 3) => h.cells (g := g) rfl (k * 3 + j)
    have hv := fun (j : Nat) (hj : j < 3) => vlv_get l k j d hk hj
    have key : ∀ (j : Nat) (hj : j < 3) (u : Value), (VC d)[j]? = some u → w.cell? ⟨g, k * 3 + j, none⟩ = some u := by
      intro j hj u hu
      have := hc j hj u (by rw [hv j hj, hu])
      simpa [Addr.add_lit] using this
    exact ⟨g, cap, rfl, (Array.getElem?_eq_some_iff.1 hh).1, key 0 (by omega) _ rfl, key 1 (by omega) _ rfl, key 2 (by omega) _ rfl⟩
theorem box3_keep {w w' : World} {b : Nat} {d : Vl} (hk : w'.heap[b]? = w.heap[b]?) (h : w.heap[b]? = some (.cells #[.string (txt d.name), .int .i64 d.n, .int .i64 d.at_] 83 (0, 0)) ∧ w.cell? ⟨b, 0, none⟩ = some (.string (txt d.name)) ∧ w.cell? ⟨b, 1, none⟩ = some (.int .i64 d.n) ∧ w.cell? ⟨b, 2, none⟩ = some (.int .i64 d.at_)) : w'.heap[b]? = some (.cells #[.string (txt d.name), .int .i64 d.n, .int .i64 d.at_] 83 (0, 0)) ∧ w'.cell? ⟨b, 0, none⟩ = some (.string (txt d.name)) ∧ w'.cell? ⟨b, 1, none⟩ = some (.int .i64 d.n) ∧ w'.cell? ⟨b, 2, none⟩ = some (.int .i64 d.at_) := by
  have hb := hk.trans h.1
  refine ⟨hb, ?_, ?_, ?_⟩
  all_goals (rw [heap_cell hb]; rfl)
theorem box3_below {w w' : World} {b : Nat} {d : Vl} (hb : Below w.heap.size w w') (h : w.heap[b]? = some (.cells #[.string (txt d.name), .int .i64 d.n, .int .i64 d.at_] 83 (0, 0)) ∧ w.cell? ⟨b, 0, none⟩ = some (.string (txt d.name)) ∧ w.cell? ⟨b, 1, none⟩ = some (.int .i64 d.n) ∧ w.cell? ⟨b, 2, none⟩ = some (.int .i64 d.at_)) : w'.heap[b]? = some (.cells #[.string (txt d.name), .int .i64 d.n, .int .i64 d.at_] 83 (0, 0)) ∧ w'.cell? ⟨b, 0, none⟩ = some (.string (txt d.name)) ∧ w'.cell? ⟨b, 1, none⟩ = some (.int .i64 d.n) ∧ w'.cell? ⟨b, 2, none⟩ = some (.int .i64 d.at_) := box3_keep (hb.block b (Array.getElem?_eq_some_iff.1 h.1).1) h
theorem box3_pr {B : Nat} {w w' : World} {b : Nat} {d : Vl} (hb : Pr B w w') (h : w.heap[b]? = some (.cells #[.string (txt d.name), .int .i64 d.n, .int .i64 d.at_] 83 (0, 0)) ∧ w.cell? ⟨b, 0, none⟩ = some (.string (txt d.name)) ∧ w.cell? ⟨b, 1, none⟩ = some (.int .i64 d.n) ∧ w.cell? ⟨b, 2, none⟩ = some (.int .i64 d.at_)) : w'.heap[b]? = some (.cells #[.string (txt d.name), .int .i64 d.n, .int .i64 d.at_] 83 (0, 0)) ∧ w'.cell? ⟨b, 0, none⟩ = some (.string (txt d.name)) ∧ w'.cell? ⟨b, 1, none⟩ = some (.int .i64 d.n) ∧ w'.cell? ⟨b, 2, none⟩ = some (.int .i64 d.at_) := box3_keep (hb.typed b _ _ _ h.1 (by decide)) h
theorem box3_new (w : World) (d : Vl) : (w.alloc (.cells #[.string (txt d.name), .int .i64 d.n, .int .i64 d.at_] 83)).heap[w.heap.size]? = some (.cells #[.string (txt d.name), .int .i64 d.n, .int .i64 d.at_] 83 (0, 0)) ∧ (w.alloc (.cells #[.string (txt d.name), .int .i64 d.n, .int .i64 d.at_] 83)).cell? ⟨w.heap.size, 0, none⟩ = some (.string (txt d.name)) ∧ (w.alloc (.cells #[.string (txt d.name), .int .i64 d.n, .int .i64 d.at_] 83)).cell? ⟨w.heap.size, 1, none⟩ = some (.int .i64 d.n) ∧ (w.alloc (.cells #[.string (txt d.name), .int .i64 d.n, .int .i64 d.at_] 83)).cell? ⟨w.heap.size, 2, none⟩ = some (.int .i64 d.at_) := by
  have hb := heap_alloc_new w (.cells #[.string (txt d.name), .int .i64 d.n, .int .i64 d.at_] 83)
  refine ⟨hb, ?_, ?_, ?_⟩
  all_goals (rw [heap_cell hb]; rfl)
def valsB (l : List Vl) : List UInt8 := (l.map valB).flatten
theorem valsB_take (l : List Vl) (k : Nat) (d : Vl) (h : l[k]? = some d) : valsB (l.take (k + 1)) = valsB (l.take k) ++ valB d := by
  rw [List.take_add_one, h]; simp [valsB]
theorem valsB_le (l : List Vl) (k : Nat) : (valsB (l.take k)).length ≤ (valsB l).length := by
  conv => rhs; rw [← List.take_append_drop k l]
  simp only [valsB, List.map_append, List.flatten_append, List.length_append]
  omega
structure VlOk (d : Vl) : Prop where
  lo : -9223372036854775808 ≤ d.n
  hi : d.n ≤ 9223372036854775807
def VsRel (B : Nat) (L : List UInt8) (l : List Vl) (w : World) (o i : Value) (wr : World) : Prop := ∃ k : Nat, i = .int .i64 k ∧ k ≤ l.length ∧ Out B wr o (L ++ valsB (l.take k)) ∧ Pr B w wr
theorem VsRel.mk {B : Nat} {L : List UInt8} {l : List Vl} {w wr : World} {o i : Value} (k : Nat) (h1 : i = .int .i64 k) (h2 : k ≤ l.length) (h3 : Out B wr o (L ++ valsB (l.take k))) (h4 : Pr B w wr) : VsRel B L l w o i wr := ⟨k, h1, h2, h3, h4⟩
set_option maxHeartbeats 4000000 in
theorem penum_any (B : Nat) (v vV : Value) (L : List UInt8) (e : En) (w : World) (LV : LaidB B w) (ho : Out B w v L) (hm : ERead w e vV) (hB : B ≤ w.heap.size) (hd : ∀ d ∈ e.V, VlOk d) (hl : L.length + (enumB e).length ≤ 1000000000) (hll : e.V.length ≤ 1000000) :
    Calls Tryz.prog 59 #[v, EnV e vV] w (OutPost B (L ++ enumB e) w) := by
  obtain ⟨name, l, at_⟩ := e
  unfold ERead at hm
  simp only at hm hd hll
  have HR : Hid (enumB ⟨name, l, at_⟩ = lineB [wEnum, [32], name, [32, 123]] ++ valsB l ++ lineB [[125]]) := Lib.hid rfl
  have hln : L.length + (lineB [wEnum, [32], name, [32, 123]]).length + (valsB l).length + (lineB [[125]]).length ≤ 1000000000 := by
    rw [HR.out] at hl
    simp only [List.length_append] at hl
    omega
  have HLN := Lib.hid hln
  have hl1 : L.length + [wEnum, [32], name, [32, 123]].flatten.length ≤ 1000000000 := by
    unfold lineB at hln
    simp only [List.length_append] at hln ⊢
    omega
  obtain ⟨A, c, hvm, -⟩ := Sl.of_own hm
  have HX : Hid (EnV ⟨name, l, at_⟩ vV = .agg #[.string (txt name), .slice A l.length c, .int .i64 at_]) := Lib.hid (by rw [hvm]; rfl)
  rw [HX.out]
  have HB0 : Hid (Out B (w.alloc (.cells #[.string (txt name), .slice A l.length c, .int .i64 at_] 65)) v L) := Lib.hid (ho.alloc _)
  have H1 := Lib.hid (line_any B (w.heap.size + 1) 4 v L [wEnum, [32], name, [32, 123]] ((w.alloc (.cells #[.string (txt name), .slice A l.length c, .int .i64 at_] 65)).alloc (.cells (strv [wEnum, [32], name, [32, 123]]).toArray 9)) rfl (HB0.out.alloc _) (heap_second w _ _) (by simp; omega) hl1 (by simp))
  subst hvm
  have HM := Lib.hid hm
  have HD := Lib.hid hd
  have HLV := Lib.hid LV
  clear hl hln hl1 hm hd LV ho
  go_enter Tryz.func59, Tryz.ntmps59
  go_wp2_with fail
  refine H1.out.mono ?_
  rintro e w1 ⟨v1, rfl, ho1, hpr1⟩
  have HO1 := Lib.hid ho1
  have hs1 := hpr1.size
  simp at hs1
  have hb1 := (hpr1.typed w.heap.size _ _ _ (heap_first w (.cells #[.string (txt name), .slice A l.length c, .int .i64 at_] 65) (.cells (strv [wEnum, [32], name, [32, 123]]).toArray 9) rfl) (by decide)).trans (heap_first w _ _ rfl)
  have e1 := heap_cell hb1 1
  simp at e1
  have HP1 := Lib.hid ((((Pr.refl B w).alloc hB _).alloc hB _).trans hpr1)
  clear ho1 hpr1 hb1
  go_wp2
  go_loopw [0, 15] (fun o i wr => VsRel B (L ++ lineB [wEnum, [32], name, [32, 123]]) l w o i wr) (fun _ i _ => l.length - (intOf i).toNat)
  case atStart => exact ⟨0, rfl, by omega, by simpa [valsB] using HO1.out, HP1.out⟩
  case round =>
    obtain ⟨k, rfl, hk, ho, hpr⟩ := hrel
    have HO5 := Lib.hid ho
    have HPR := Lib.hid hpr
    have hsz := hpr.size
    clear ho hpr
    by_cases h1 : k < l.length
    · obtain ⟨d, hdk⟩ : ∃ d, l[k]? = some d := ⟨_, List.getElem?_eq_getElem h1⟩
      obtain ⟨g, cap, hv, hg, c0, c1, c2⟩ := vl_at (HPR.out.own HM.out (by decide)) hdk
      injection hv with hA hn hc
      subst hA hc
      obtain ⟨n1, n2⟩ := HD.out d (List.mem_of_getElem? hdk)
      have hft := valsB_take l k d hdk
      have hfl := valsB_le l (k + 1)
      rw [hft, List.length_append] at hfl
      have HFT := Lib.hid hft
      have hle : (L ++ lineB [wEnum, [32], name, [32, 123]] ++ valsB (l.take k)).length + [[32, 32], d.name, [32, 61, 32], digB d.n, [59]].flatten.length ≤ 1000000000 := by
        have := HLN.out
        simp only [valB] at hfl
        unfold lineB at hfl this ⊢
        simp only [List.length_append] at this hfl ⊢
        omega
      have HLE := Lib.hid hle
      have H2 := Lib.hid (fun w L => digits_any d.n n1 n2 w L)
      have h0 := box3_keep (w' := (wr.alloc (.cells (VC d).toArray 83)).drew) rfl (box3_new wr d)
      simp only [VC] at h0
      have LB : Laid ((wr.alloc (.cells #[.string (txt d.name), .int .i64 d.n, .int .i64 d.at_] 83)).drew) := ((HLV.out.pr HPR.out).laid.on (below_new _ _)).on (Below.refl _ _).drew
      have HOB := Lib.hid ((HO5.out.alloc (.cells #[.string (txt d.name), .int .i64 d.n, .int .i64 d.at_] 83)).below (Below.refl _ _).drew)
      clear hft hdk hfl hn n1 n2 hle
      go_wp2_with fail
      go_region_held3 (fun w' => w'.heap[wr.heap.size]? = some (.cells #[.string (txt d.name), .int .i64 d.n, .int .i64 d.at_] 83 (0, 0)) ∧ w'.cell? ⟨wr.heap.size, 0, none⟩ = some (.string (txt d.name)) ∧ w'.cell? ⟨wr.heap.size, 1, none⟩ = some (.int .i64 d.n) ∧ w'.cell? ⟨wr.heap.size, 2, none⟩ = some (.int .i64 d.at_))
        (first | exact h0 | exact box3_below hb2 ‹_› | exact box3_below (below_new _ _) ‹_› | exact box3_pr hpr4 ‹_› | go_keep)
        ((first
          | (go_at_call 112; refine (H2.out _ LB).mono ?_; rintro e w2 ⟨rfl, hb2⟩)
          | (go_at_call 106; refine (line_any B _ 5 _ _ [[32, 32], d.name, [32, 61, 32], digB d.n, [59]] _ rfl ((HOB.out.below hb2).alloc _) (heap_alloc_new _ _) (by have h2 := hb2.size; simp at h2 ⊢; omega) HLE.out (by simp)).mono ?_; rintro e w4 ⟨v4, rfl, ho4, hpr4⟩)))
      all_goals
        have h2 := hb2.size
        simp at h2
        go_wp2
        refine ⟨VsRel.mk (k + 1) (by go_num) (by omega) ?_ ?_, by simp [intOf]; omega⟩
        · rw [HFT.out, ← List.append_assoc]
          exact ho4
        · exact (((HPR.out.alloc hB _).drew.trans (Pr.below hb2 (by simp; omega))).trans ((Pr.refl B w2).alloc (by omega) _)).trans hpr4
    · obtain rfl : k = l.length := by omega
      rw [List.take_of_length_le (Nat.le_refl _)] at HO5
      have hle : (L ++ lineB [wEnum, [32], name, [32, 123]] ++ valsB l).length + ([[125]] : List (List UInt8)).flatten.length ≤ 1000000000 := by
        have := HLN.out
        unfold lineB at this ⊢
        simp only [List.length_append] at this ⊢
        omega
      have H2 := Lib.hid (line_any B wr.heap.size 1 _ _ [[125]] (wr.alloc (.cells (strv [[125]]).toArray 9)) rfl (HO5.out.alloc _) (heap_alloc_new _ _) (by simp; omega) hle (by simp))
      clear hle
      go_wp2_with fail
      refine H2.out.mono ?_
      rintro e w8 ⟨v8, rfl, ho8, hpr8⟩
      go_wp2
      go_ret
      refine ⟨v8, rfl, ?_, (HPR.out.alloc hB _).trans hpr8⟩
      rw [HR.out, ← List.append_assoc, ← List.append_assoc]
      exact ho8
end Go.Proofs.YtciiemomfniecaaGreatDoor
/-
  The fields of each oneof, in rows of their own: the contract.
-/
namespace Go.Proofs.YtciiemomfniecaaGreatDoor
set_option maxRecDepth 100000

open Go.RowKit

/-- A row of rows of fields. -/
structure MemAt (w : World) (B g : Nat) (us : List Value) (ms : List (List Fd)) : Prop where
  heap : w.heap[g]? = some (.cells us.toArray 47 (0, 0))
  len : us.length = ms.length
  row : ∀ (k : Nat) (u : Value) (l : List Fd), us[k]? = some u → ms[k]? = some l → w.ownsRow B 53 7 u l.length (fdv l)
  apart : ∀ (j k : Nat) (u v : Value), j ≠ k → us[j]? = some u → us[k]? = some v → u.ownBlock = none ∨ u.ownBlock ≠ v.ownBlock
theorem MemAt.kept {w w' : World} {B g : Nat} {us : List Value} {ms : List (List Fd)} (h : MemAt w B g us ms) (hk : ∀ (k : Nat) (cs : Array Value) (t : TypeId) (fr : Nat × Nat), w.heap[k]? = some (Obj.cells cs t fr) → w'.heap[k]? = w.heap[k]?) : MemAt w' B g us ms := by
  refine ⟨(hk g _ _ _ h.heap).trans h.heap, h.len, fun k u l hu hl => ?_, h.apart⟩
  rcases h.row k u l hu hl with ⟨hl, ⟨rfl, h0⟩ | ⟨g, cap, cur, rfl, h1, h2, h3⟩⟩
  · exact ⟨hl, .inl ⟨rfl, h0⟩⟩
  · exact ⟨hl, .inr ⟨g, cap, cur, rfl, h1, (hk g _ _ _ h2).trans h2, h3⟩⟩
theorem MemAt.below {w w' : World} {B g : Nat} {us : List Value} {ms : List (List Fd)} (h : MemAt w B g us ms) (hb : Below w.heap.size w w') : MemAt w' B g us ms :=
  h.kept fun k _ _ _ hk => hb.block k (Array.getElem?_eq_some_iff.1 hk).1
theorem MemAt.drew {w : World} {B g : Nat} {us : List Value} {ms : List (List Fd)} (h : MemAt w B g us ms) : MemAt w.drew B g us ms := h.kept fun _ _ _ _ _ => rfl
theorem MemAt.lt {w : World} {B g : Nat} {us : List Value} {ms : List (List Fd)} (h : MemAt w B g us ms) : g < w.heap.size := (Array.getElem?_eq_some_iff.1 h.heap).1
theorem MemAt.cell {w : World} {B g : Nat} {us : List Value} {ms : List (List Fd)} (h : MemAt w B g us ms) {k : Nat} {u : Value} (hu : us[k]? = some u) : w.cell? ⟨g, k, none⟩ = some u := by
  rw [heap_cell h.heap]; simpa using hu
/-- The field's row has been appended to; then its slice is stored. -/
theorem MemAt.add {w w' : World} {B g k : Nat} {us : List Value} {ms : List (List Fd)} {u v : Value} {l : List Fd} {d : Fd} {n : Nat} {a : Nat} (h : MemAt w B g us ms) (hu : us[k]? = some u) (hl : ms[k]? = some l) (hg : w.grownBy w' u.ownBlock)
    (hown : w'.ownsRow B 53 7 v n (fdv l ++ FC d)) (hn : n = (l ++ [d]).length) (hv : v.ownBlock = some a) (ha : u.ownBlock = some a ∨ a = w.heap.size) (hgB : g < B) : MemAt (w'.setCell ⟨g, k, none⟩ v) B g (us.set k v) (ms.set k (l ++ [d])) := by
  subst hn
  have hne : ∀ j, u.ownBlock = some j → B ≤ j := fun j hj => ((h.row k u l hu hl).lt j hj).1
  have hb : w'.heap[g]? = _ := (hg.block g h.lt (fun e => by have := hne g e.symm; omega)).trans h.heap
  have hkl : k < us.length := (List.getElem?_eq_some_iff.1 hu).1
  have hkm : k < ms.length := (List.getElem?_eq_some_iff.1 hl).1
  have hlast : ∀ (j : Nat) (x : Value), j ≠ k → us[j]? = some x → x.ownBlock = none ∨ x.ownBlock ≠ v.ownBlock := by
    intro j x hj hx
    rcases h.apart j k x u hj hx hu with h1 | h1
    · exact .inl h1
    · rcases ha with h2 | h2
      · right; rw [hv, ← h2]; exact h1
      · have hlj : ∃ lj, ms[j]? = some lj := by
          have : j < us.length := (List.getElem?_eq_some_iff.1 hx).1
          exact ⟨_, List.getElem?_eq_getElem (by rw [← h.len]; exact this)⟩
        obtain ⟨lj, hlj⟩ := hlj
        cases hxb : x.ownBlock with
        | none => exact .inl rfl
        | some q =>
          right
          rw [hv]
          have := ((h.row j x lj hx hlj).lt q hxb).2
          intro e
          injection e with e
          omega
  refine ⟨?_, by simp [h.len], fun j x lj hx hlj => ?_, fun i j x y hij hx hy => ?_⟩
  · have := heap_setCell_same hb (j := k) v
    simpa using this
  · rw [List.getElem?_set] at hx hlj
    by_cases hjk : k = j
    · subst hjk
      rw [if_pos rfl, if_pos hkl] at hx
      rw [if_pos rfl, if_pos hkm] at hlj
      obtain rfl := Option.some.inj hx
      obtain rfl := Option.some.inj hlj
      have := own_set hown (a := ⟨g, k, none⟩) hgB v
      rw [fdv_append, fdv_one]
      exact this
    · rw [if_neg hjk] at hx hlj
      have hr := h.row j x lj hx hlj
      refine own_set (hr.kept hg ?_) hgB v
      exact h.apart j k x u (fun e => hjk e.symm) hx hu
  · rw [List.getElem?_set] at hx hy
    by_cases hik : k = i
    · subst hik
      rw [if_pos rfl, if_pos hkl] at hx
      rw [if_neg (by omega)] at hy
      obtain rfl := Option.some.inj hx
      rcases hlast j y (by omega) hy with h1 | h1
      · right; rw [h1, hv]; simp
      · right; exact fun e => h1 e.symm
    · rw [if_neg hik] at hx
      by_cases hjk : k = j
      · subst hjk
        rw [if_pos rfl, if_pos hkl] at hy
        obtain rfl := Option.some.inj hy
        exact hlast i x (by omega) hx
      · rw [if_neg hjk] at hy
        exact h.apart i j x y hij hx hy
theorem infoSl : (Tryz.prog.info? 47).map (fun i => (i.zero, i.size, i.bytes)) = some (some (.slice none 0 0), 1, 24) := by kernel_rfl
theorem made_nil (n : Nat) : madeCells (Value.slice none 0 0).cells n = (List.replicate n (Value.slice none 0 0)).toArray := by
  apply Array.ext
  · simp [madeCells]
  · intro i h1 h2
    simp only [madeCells, Array.getElem_map, Array.getElem_range]
    simp [Value.cells, Nat.mod_one]
theorem make_mem (n : Nat) (hn : n ≤ 1000000) (w : World) : (Instr.makeSlice 168 (.int .i64 n) (.int .i64 n)).run Tryz.prog w = .ok (.slice (some ⟨w.heap.size, 0, none⟩) n n) (w.alloc (.cells (List.replicate n (Value.slice none 0 0)).toArray 47)) := by
  obtain ⟨i0, hi, hz0, hz1, hz2⟩ := info_parts infoSl
  have h := run_make (P := Tryz.prog) w 168 47 i0 _ Tryz.underlying168 hi hz0 .i64 .i64 n n (by omega) (by omega) (by rw [hz2]; omega) (by omega)
  rw [hz1] at h
  simp only [Int.toNat_natCast, Nat.mul_one, made_nil] at h
  exact h
theorem MemAt.made (w : World) (B n : Nat) : MemAt (w.alloc (.cells (List.replicate n (Value.slice none 0 0)).toArray 47)) B w.heap.size (List.replicate n (Value.slice none 0 0)) (List.replicate n []) := by
  refine ⟨heap_alloc_new _ _, by simp, fun k u l hu hl => ?_, fun j k u v _ hu _ => ?_⟩
  · rw [List.getElem?_replicate] at hu hl
    split at hu
    · rw [if_pos ‹_›] at hl
      cases hu
      cases hl
      exact World.ownsRow_nil _ _ _ _
    · cases hu
  · rw [List.getElem?_replicate] at hu
    split at hu
    · cases hu; exact .inl rfl
    · cases hu

def MmRel (B g : Nat) (n : Nat) (l : List Fd) (w : World) (i : Value) (wr : World) : Prop := ∃ (k : Nat) (us : List Value), i = .int .i64 k ∧ k ≤ l.length ∧ MemAt wr B g us (memsB n (l.take k)) ∧ Below w.heap.size w wr
theorem MmRel.mk {B g n : Nat} {l : List Fd} {w wr : World} {i : Value} (k : Nat) (us : List Value) (h1 : i = .int .i64 k) (h2 : k ≤ l.length) (h3 : MemAt wr B g us (memsB n (l.take k))) (h4 : Below w.heap.size w wr) : MmRel B g n l w i wr := ⟨k, us, h1, h2, h3, h4⟩
def MmPost (ms : List (List Fd)) (w : World) (e : Ending) (w' : World) : Prop := ∃ (g : Nat) (us : List Value), e = .returned (.slice (some ⟨g, 0, none⟩) ms.length ms.length) ∧ w.heap.size ≤ g ∧ MemAt w' 0 g us ms ∧ Below w.heap.size w w'
theorem MemAt.zero {w : World} {B g : Nat} {us : List Value} {ms : List (List Fd)} (h : MemAt w B g us ms) : MemAt w 0 g us ms := ⟨h.heap, h.len, fun k u l hu hl => own_mono (h.row k u l hu hl) (Nat.zero_le _), h.apart⟩
set_option maxHeartbeats 4000000 in
theorem pmem_any (m : Ms) (vF vO vR : Value) (w : World) (hm : MRead w m vF vO vR) (hf : m.F.length ≤ 100000) (hn : m.ones.length ≤ 100000) :
    Calls Tryz.prog 107 #[MsV m vF vO vR] w (MmPost (memsB m.ones.length m.F) w) := by
  obtain ⟨i0, hi, hz0, hz1, hz2⟩ := info_parts infoFds
  obtain ⟨name, l, ones, res, at_⟩ := m
  obtain ⟨A1, q1, h1, -⟩ := Sl.of_own hm.f
  obtain ⟨A2, q2, h2, -⟩ := Sl.of_own hm.o
  obtain ⟨A3, q3, h3, -⟩ := Sl.of_own hm.r
  simp only at h1 h2 h3 hf hn
  have HX : Hid (MsV ⟨name, l, ones, res, at_⟩ vF vO vR = .agg #[.string (txt name), .slice A1 l.length q1, .slice A2 ones.length q2, .slice A3 res.length q3, .int .i64 at_]) := Lib.hid (by rw [h1, h2, h3]; rfl)
  rw [HX.out]
  have hF := hm.f
  simp only at hF
  rw [h1] at hF
  have HF := Lib.hid hF
  have hmk := make_mem ones.length (by omega)
  clear hm hF h1 h2 h3
  go_enter Tryz.func107, Tryz.ntmps107
  go_wp2
  go_loopw [13] (fun i wr => MmRel (w.heap.size + 2) (w.heap.size + 1) ones.length l (w.alloc (.cells #[.string (txt name), .slice A1 l.length q1, .slice A2 ones.length q2, .slice A3 res.length q3, .int .i64 at_] 51)) i wr) (fun i _ => l.length - (intOf i).toNat)
  case atStart => exact MmRel.mk 0 _ rfl (by omega) (by have := MemAt.made (w.alloc (.cells #[.string (txt name), .slice A1 l.length q1, .slice A2 ones.length q2, .slice A3 res.length q3, .int .i64 at_] 51)) (w.heap.size + 2) ones.length; simpa [memsB] using this) (below_new _ _)
  case round =>
    obtain ⟨k, us, rfl, hk, hma, hb⟩ := hrel
    have HMA := Lib.hid hma
    have HB := Lib.hid hb
    have hsz := hb.size
    simp at hsz
    have hbox := (hb.block w.heap.size (by simp)).trans (heap_alloc_new w _)
    have m0 := heap_cell hbox 0
    have m1 := heap_cell hbox 1
    have m2 := heap_cell hbox 2
    have m3 := heap_cell hbox 3
    have m4 := heap_cell hbox 4
    simp at m0 m1 m2 m3 m4
    have hszl : w.heap.size < wr.heap.size := by omega
    clear hma hb hbox
    by_cases h1 : k < l.length
    · obtain ⟨d, hdk⟩ : ∃ d, l[k]? = some d := ⟨_, List.getElem?_eq_getElem h1⟩
      obtain ⟨g, cap, hv, hg, c0, c1, c2, c3, c4, c5, c6⟩ := fd_at (own_below HF.out ((below_new w _).trans (HB.out.mono (by simp)))) hdk
      injection hv with hA hn hc
      subst hA hc
      have HT := Lib.hid (memsB_take ones.length l k d hdk)
      have hI := inOne_any (txt name) (some ⟨g, 0, none⟩) A2 A3 l.length ones.length res.length q1 q2 q3 at_ d (wr.alloc (.cells #[.string (txt d.type), .string (txt d.key), .bool d.rep, .int .i64 d.one, .string (txt d.name), .int .i64 d.no, .int .i64 d.at_] 53))
      have HXD : Hid (FdV d = .agg #[.string (txt d.type), .string (txt d.key), .bool d.rep, .int .i64 d.one, .string (txt d.name), .int .i64 d.no, .int .i64 d.at_]) := Lib.hid rfl
      rw [HXD.out] at hI
      have HI := Lib.hid hI
      clear hdk hn hI
      go_wp2_with fail
      refine HI.out.mono ?_
      cases hin : inOne ones.length d
      · have HN : Hid (memStep ones.length (memsB ones.length (l.take k)) d = memsB ones.length (l.take k)) := Lib.hid (by simp [memStep, hin])
        clear hin
        rintro e w6 ⟨rfl, hb6⟩
        go_wp2
        refine ⟨MmRel.mk (k + 1) us (by go_num) (by omega) ?_ (HB.out.trans ((below_lit (Below.refl _ _) _ |>.trans (hb6.mono (by simp))).mono (by simp; omega))), by simp [intOf]; omega⟩
        rw [HT.out, HN.out]
        exact (HMA.out.below (below_new wr _)).below hb6
      · obtain ⟨j, hj⟩ : ∃ j : Nat, d.one = (j : Int) + 1 := ⟨d.one.toNat - 1, by simp only [inOne, Bool.and_eq_true, decide_eq_true_eq] at hin; omega⟩
        have hoj : oneAt d = j := by unfold oneAt; omega
        have hjn : j < ones.length := by simp only [inOne, Bool.and_eq_true, decide_eq_true_eq] at hin; omega
        have hml := memsB_length ones.length (l.take k)
        have hju : j < us.length := by rw [HMA.out.len, hml]; exact hjn
        obtain ⟨u, hu⟩ : ∃ u, us[j]? = some u := ⟨_, List.getElem?_eq_getElem hju⟩
        obtain ⟨lj, hlj⟩ : ∃ lj, (memsB ones.length (l.take k))[j]? = some lj := ⟨_, List.getElem?_eq_getElem (by rw [hml]; exact hjn)⟩
        have hfew : lj.length ≤ 100000 := by
          have h := memsB_few ones.length (l.take k) j
          rw [List.getD_eq_getElem?_getD, hlj, Option.getD_some, List.length_take] at h
          omega
        have HN : Hid (memStep ones.length (memsB ones.length (l.take k)) d = (memsB ones.length (l.take k)).set j (lj ++ [d])) := Lib.hid (by simp [memStep, hin, hoj, hlj])
        have ew : IntKind.i64.wrap ((d.one : Int) - 1) = (j : Int) := by rw [IntKind.wrap_i64]; omega
        have ei1 : (0 : Int) ≤ (j : Int) := by omega
        have ei2 : (j : Int) < (ones.length : Int) := by omega
        have HU := Lib.hid hu
        have HLJ := Lib.hid hlj
        clear hin hj hoj hml hju hu hlj
        rintro e w6 ⟨rfl, hb6⟩
        have hma6 := (HMA.out.below (below_new wr _)).below hb6
        have hbf := (hb6.block wr.heap.size (by simp)).trans (heap_alloc_new wr _)
        have f0 := heap_cell hbf 0
        have f1 := heap_cell hbf 1
        have f2 := heap_cell hbf 2
        have f3 := heap_cell hbf 3
        have f4 := heap_cell hbf 4
        have f5 := heap_cell hbf 5
        have f6 := heap_cell hbf 6
        simp at f0 f1 f2 f3 f4 f5 f6
        have HBF6 := Lib.hid hbf
        have cu := hma6.cell HU.out
        have hs6 := hb6.size
        simp at hs6
        have hs7 : wr.heap.size < w6.heap.size := by omega
        have hs8 : w.heap.size + 1 < w6.heap.size := by have := HMA.out.lt; omega
        have HM6 := Lib.hid (hma6.below (below_new w6 (.cells #[.string (txt d.type), .string (txt d.key), .bool d.rep, .int .i64 d.one, .string (txt d.name), .int .i64 d.no, .int .i64 d.at_] 53)))
        have HB6 := Lib.hid (HB.out.trans ((below_lit (Below.refl _ _) _ |>.trans (hb6.mono (by simp))).mono (by simp; omega)))
        have HBF := Lib.hid ((Below.heap_alloc w6 (.cells #[.string (txt d.type), .string (txt d.key), .bool d.rep, .int .i64 d.one, .string (txt d.name), .int .i64 d.no, .int .i64 d.at_] 53) wr.heap.size (by omega)).trans hbf)
        clear hma6 hbf hb6 c0 c1 c2 c3 c4 c5 c6 m0 m1 m2 m3 m4
        have hS0 : w6.drew.heap[wr.heap.size]? = some (.cells #[.string (txt d.type), .string (txt d.key), .bool d.rep, .int .i64 d.one, .string (txt d.name), .int .i64 d.no, .int .i64 d.at_] 53 (0, 0)) ∧ w6.drew.cell? ⟨wr.heap.size, 0, none⟩ = some (.string (txt d.type)) ∧ w6.drew.cell? ⟨wr.heap.size, 1, none⟩ = some (.string (txt d.key)) ∧ w6.drew.cell? ⟨wr.heap.size, 2, none⟩ = some (.bool d.rep) ∧ w6.drew.cell? ⟨wr.heap.size, 3, none⟩ = some (.int .i64 d.one) ∧ w6.drew.cell? ⟨wr.heap.size, 4, none⟩ = some (.string (txt d.name)) ∧ w6.drew.cell? ⟨wr.heap.size, 5, none⟩ = some (.int .i64 d.no) ∧ w6.drew.cell? ⟨wr.heap.size, 6, none⟩ = some (.int .i64 d.at_) := box7_keep (w := w6) rfl ⟨HBF6.out, f0, f1, f2, f3, f4, f5, f6⟩
        go_wp2_with fail
        refine wp_region_noPanic ?_
        refine wp_region_held_drew (S := fun w' => w'.heap[wr.heap.size]? = some (.cells #[.string (txt d.type), .string (txt d.key), .bool d.rep, .int .i64 d.one, .string (txt d.name), .int .i64 d.no, .int .i64 d.at_] 53 (0, 0)) ∧ w'.cell? ⟨wr.heap.size, 0, none⟩ = some (.string (txt d.type)) ∧ w'.cell? ⟨wr.heap.size, 1, none⟩ = some (.string (txt d.key)) ∧ w'.cell? ⟨wr.heap.size, 2, none⟩ = some (.bool d.rep) ∧ w'.cell? ⟨wr.heap.size, 3, none⟩ = some (.int .i64 d.one) ∧ w'.cell? ⟨wr.heap.size, 4, none⟩ = some (.string (txt d.name)) ∧ w'.cell? ⟨wr.heap.size, 5, none⟩ = some (.int .i64 d.no) ∧ w'.cell? ⟨wr.heap.size, 6, none⟩ = some (.int .i64 d.at_)) (by kernel_rfl) hS0 (fun hHeld => ?_)
        refine wpAnyH_take (i := 0) (v := ?_) rfl (by kernel_rfl) (by kernel_rfl) (by kernel_rfl) (fun _ _ _ h => h) (Or.inl ⟨by rfl, ?_⟩) (by assumption) ?_
        rotate_left
        · intro w hSw; (try dsimp only at hSw); go_simp; with_reducible rfl
        try simp only [Act.put, List.setIfInBounds_toArray, List.set_cons_zero, List.set_cons_succ]
        refine wpAnyH_take (i := 1) (v := ?_) rfl (by kernel_rfl) (by kernel_rfl) (by kernel_rfl) (fun _ _ _ h => h) (Or.inl ⟨by rfl, ?_⟩) (by assumption) ?_
        rotate_left
        · intro w hSw; (try dsimp only at hSw); go_simp; with_reducible rfl
        try simp only [Act.put, List.setIfInBounds_toArray, List.set_cons_zero, List.set_cons_succ]
        refine wpAnyH_take (i := 2) (v := ?_) rfl (by kernel_rfl) (by kernel_rfl) (by kernel_rfl) (fun _ _ _ h => h) (Or.inl ⟨by rfl, ?_⟩) (by assumption) ?_
        rotate_left
        · intro w hSw; (try dsimp only at hSw); go_simp; with_reducible rfl
        try simp only [Act.put, List.setIfInBounds_toArray, List.set_cons_zero, List.set_cons_succ]
        refine wpAnyH_take (i := 3) (v := ?_) rfl (by kernel_rfl) (by kernel_rfl) (by kernel_rfl) (fun _ _ _ h => h) (Or.inl ⟨by rfl, ?_⟩) (by assumption) ?_
        rotate_left
        · intro w hSw; (try dsimp only at hSw); go_simp; with_reducible rfl
        try simp only [Act.put, List.setIfInBounds_toArray, List.set_cons_zero, List.set_cons_succ]
        refine wpAnyH_take (i := 4) (v := ?_) rfl (by kernel_rfl) (by kernel_rfl) (by kernel_rfl) (fun _ _ _ h => h) (Or.inl ⟨by rfl, ?_⟩) (by assumption) ?_
        rotate_left
        · intro w hSw; (try dsimp only at hSw); go_simp; with_reducible rfl
        try simp only [Act.put, List.setIfInBounds_toArray, List.set_cons_zero, List.set_cons_succ]
        refine wpAnyH_take (i := 5) (v := ?_) rfl (by kernel_rfl) (by kernel_rfl) (by kernel_rfl) (fun _ _ _ h => h) (Or.inl ⟨by rfl, ?_⟩) (by assumption) ?_
        rotate_left
        · intro w hSw; (try dsimp only at hSw); go_simp; with_reducible rfl
        try simp only [Act.put, List.setIfInBounds_toArray, List.set_cons_zero, List.set_cons_succ]
        refine wpAnyH_take (i := 6) (v := ?_) rfl (by kernel_rfl) (by kernel_rfl) (by kernel_rfl) (fun _ _ _ h => h) (Or.inl ⟨by rfl, ?_⟩) (by assumption) ?_
        rotate_left
        · intro w hSw; (try dsimp only at hSw); go_simp; with_reducible rfl
        try simp only [Act.put, List.setIfInBounds_toArray, List.set_cons_zero, List.set_cons_succ]
        refine wpAnyH_take (i := 7) (v := ?_) rfl (by kernel_rfl) (by kernel_rfl) (by kernel_rfl) (fun _ _ _ h => h) (Or.inl ⟨by rfl, ?_⟩) (by assumption) ?_
        rotate_left
        · intro w hSw; (try dsimp only at hSw); go_simp; with_reducible rfl
        try simp only [Act.put, List.setIfInBounds_toArray, List.set_cons_zero, List.set_cons_succ]
        refine wpAnyH_take (i := 8) (v := ?_) rfl (by kernel_rfl) (by kernel_rfl) (by kernel_rfl) (fun _ _ _ h => h) (Or.inl ⟨by rfl, ?_⟩) (by assumption) ?_
        rotate_left
        · intro w hSw; (try dsimp only at hSw); go_simp; with_reducible rfl
        try simp only [Act.put, List.setIfInBounds_toArray, List.set_cons_zero, List.set_cons_succ]
        refine wpAnyH_take (i := 10) (v := ?_) rfl (by kernel_rfl) (by kernel_rfl) (by kernel_rfl) (fun _ _ _ h => h) (Or.inl ⟨by rfl, ?_⟩) (by assumption) ?_
        rotate_left
        · intro w hSw; (try dsimp only at hSw); go_simp; with_reducible rfl
        try simp only [Act.put, List.setIfInBounds_toArray, List.set_cons_zero, List.set_cons_succ]
        have hS1 := box7_keep (w' := ((w6.alloc (.cells #[.string (txt d.type), .string (txt d.key), .bool d.rep, .int .i64 d.one, .string (txt d.name), .int .i64 d.no, .int .i64 d.at_] 53)).drew)) (Below.heap_alloc w6 _ _ hs7) hS0
        have hne8 : wr.heap.size ≠ w.heap.size + 1 := by have := HMA.out.lt; omega
        refine wpAnyH_ready (rs := [9, 11]) (by kernel_rfl) (by simp) ?_
        refine AllReadyH.cons (o := _) rfl (fun K hK => ?_) (AllReadyH.cons (o := _) rfl (fun K hK => ?_) AllReadyH.nil)
        · go_simp
          refine hK.out _ _ hS0 (fun _ => ?_)
          clear hK K
          try simp only [Act.put, List.setIfInBounds_toArray, List.set_cons_zero, List.set_cons_succ]
          refine wpAnyH_ready (rs := [11]) (by kernel_rfl) (by simp) ?_
          refine AllReadyH.cons (o := _) rfl (fun K hK => ?_) AllReadyH.nil
          go_simp
          refine hK.out _ _ hS1 (fun _ => ?_)
          clear hK K
          try simp only [Act.put, List.setIfInBounds_toArray, List.set_cons_zero, List.set_cons_succ]
          refine wpAnyH_ready (rs := [12]) (by kernel_rfl) (by simp) ?_
          refine AllReadyH.cons (o := _) rfl (fun K hK => ?_) AllReadyH.nil
          refine step_append_lies _ rfl _ _ 47 rfl (w.heap.size + 2) 53 i0 _ 7 80 Tryz.underlying47 hi hz0 hz1 hz2 rfl (by decide) u lj.length (fdv lj) (by simp [Act.eval, Act.put]) (HM6.out.row j u lj HU.out HLJ.out) ⟨w6.heap.size, 0, none⟩ 1 1 (FC d) (by simp [Act.eval, Act.put]) rfl (World.news_of_block (heap_alloc_new _ _)) (by intro u hu; exact fdv_cells [d] u (by rw [fdv_one]; exact hu)) (by decide) (by unfold maxLen; omega) (by omega) (by simp; omega) (w6.heap.size + 1) (by simp) ?_
          intro g8 cap8 w8 hown8 hg8 hat8 hlt8
          have hS8 := box7_keep (hg8.block wr.heap.size (by simp; omega) (fun e => by have := ((HMA.out.row j u lj HU.out HLJ.out).lt _ e.symm).2; omega)) hS1
          refine hK.out _ _ hS8 (fun _ => ?_)
          clear hK K
          try simp only [Act.put, List.setIfInBounds_toArray, List.set_cons_zero, List.set_cons_succ]
          have hb8 := (hg8.block (w.heap.size + 1) HM6.out.lt (fun e => by have := ((HM6.out.row j u lj HU.out HLJ.out).lt _ e.symm).1; omega)).trans HM6.out.heap
          have c8 := heap_cell hb8 j
          have f8 := heap_free hb8 j
          rw [show (us.toArray)[j]? = some u from by simpa using HU.out] at c8
          have HB8 := Lib.hid hb8
          clear hb8
          refine wpAnyH_take (i := 13) (v := ?_) rfl (by kernel_rfl) (by kernel_rfl) (by kernel_rfl) (fun _ _ _ h => h) (Or.inl ⟨by rfl, ?_⟩) (by assumption) ?_
          rotate_left
          · intro w hSw; (try dsimp only at hSw); go_simp; with_reducible rfl
          try simp only [Act.put, List.setIfInBounds_toArray, List.set_cons_zero, List.set_cons_succ]
          refine wpAnyH_ready (rs := [14]) (by kernel_rfl) (by simp) ?_
          refine AllReadyH.cons (o := _) rfl (fun K hK => ?_) AllReadyH.nil
          go_simp
          refine hK.out _ _ (box7_keep (Below.heap_setCell w8 ⟨w.heap.size + 1, j, none⟩ (.slice (some ⟨g8, 0, none⟩) (lj.length + 1) cap8) wr.heap.size (by simp; omega)) hS8) (fun _ => ?_)
          clear hK K
          try simp only [Act.put, List.setIfInBounds_toArray, List.set_cons_zero, List.set_cons_succ]
          refine wpAnyH_done (by kernel_rfl) ?_ _
          refine NoPanic.normal ?_
          go_wp2
          refine ⟨MmRel.mk (k + 1) (us.set j (.slice (some ⟨g8, 0, none⟩) (lj.length + 1) cap8)) (by go_num) (by omega) ?_ (((HB6.out.alloc (by simp; omega) _).drew.grown hg8 (by simp; omega) (fun q hq => by have := ((HM6.out.row j u lj HU.out HLJ.out).lt q hq).1; simp; omega)).setCell (by simp) _), by simp [intOf]; omega⟩
          rw [HT.out, HN.out]
          exact HM6.out.drew.add HU.out HLJ.out hg8 hown8 (by simp) rfl (by simpa using hat8) (by omega)
        · go_simp
          refine hK.out _ _ hS1 (fun _ => ?_)
          clear hK K
          try simp only [Act.put, List.setIfInBounds_toArray, List.set_cons_zero, List.set_cons_succ]
          refine wpAnyH_ready (rs := [9]) (by kernel_rfl) (by simp) ?_
          refine AllReadyH.cons (o := _) rfl (fun K hK => ?_) AllReadyH.nil
          go_simp
          refine hK.out _ _ hS1 (fun _ => ?_)
          clear hK K
          try simp only [Act.put, List.setIfInBounds_toArray, List.set_cons_zero, List.set_cons_succ]
          refine wpAnyH_ready (rs := [12]) (by kernel_rfl) (by simp) ?_
          refine AllReadyH.cons (o := _) rfl (fun K hK => ?_) AllReadyH.nil
          refine step_append_lies _ rfl _ _ 47 rfl (w.heap.size + 2) 53 i0 _ 7 80 Tryz.underlying47 hi hz0 hz1 hz2 rfl (by decide) u lj.length (fdv lj) (by simp [Act.eval, Act.put]) (HM6.out.row j u lj HU.out HLJ.out) ⟨w6.heap.size, 0, none⟩ 1 1 (FC d) (by simp [Act.eval, Act.put]) rfl (World.news_of_block (heap_alloc_new _ _)) (by intro u hu; exact fdv_cells [d] u (by rw [fdv_one]; exact hu)) (by decide) (by unfold maxLen; omega) (by omega) (by simp; omega) (w6.heap.size + 1) (by simp) ?_
          intro g8 cap8 w8 hown8 hg8 hat8 hlt8
          have hS8 := box7_keep (hg8.block wr.heap.size (by simp; omega) (fun e => by have := ((HMA.out.row j u lj HU.out HLJ.out).lt _ e.symm).2; omega)) hS1
          refine hK.out _ _ hS8 (fun _ => ?_)
          clear hK K
          try simp only [Act.put, List.setIfInBounds_toArray, List.set_cons_zero, List.set_cons_succ]
          have hb8 := (hg8.block (w.heap.size + 1) HM6.out.lt (fun e => by have := ((HM6.out.row j u lj HU.out HLJ.out).lt _ e.symm).1; omega)).trans HM6.out.heap
          have c8 := heap_cell hb8 j
          have f8 := heap_free hb8 j
          rw [show (us.toArray)[j]? = some u from by simpa using HU.out] at c8
          have HB8 := Lib.hid hb8
          clear hb8
          refine wpAnyH_take (i := 13) (v := ?_) rfl (by kernel_rfl) (by kernel_rfl) (by kernel_rfl) (fun _ _ _ h => h) (Or.inl ⟨by rfl, ?_⟩) (by assumption) ?_
          rotate_left
          · intro w hSw; (try dsimp only at hSw); go_simp; with_reducible rfl
          try simp only [Act.put, List.setIfInBounds_toArray, List.set_cons_zero, List.set_cons_succ]
          refine wpAnyH_ready (rs := [14]) (by kernel_rfl) (by simp) ?_
          refine AllReadyH.cons (o := _) rfl (fun K hK => ?_) AllReadyH.nil
          go_simp
          refine hK.out _ _ (box7_keep (Below.heap_setCell w8 ⟨w.heap.size + 1, j, none⟩ (.slice (some ⟨g8, 0, none⟩) (lj.length + 1) cap8) wr.heap.size (by simp; omega)) hS8) (fun _ => ?_)
          clear hK K
          try simp only [Act.put, List.setIfInBounds_toArray, List.set_cons_zero, List.set_cons_succ]
          refine wpAnyH_done (by kernel_rfl) ?_ _
          refine NoPanic.normal ?_
          go_wp2
          refine ⟨MmRel.mk (k + 1) (us.set j (.slice (some ⟨g8, 0, none⟩) (lj.length + 1) cap8)) (by go_num) (by omega) ?_ (((HB6.out.alloc (by simp; omega) _).drew.grown hg8 (by simp; omega) (fun q hq => by have := ((HM6.out.row j u lj HU.out HLJ.out).lt q hq).1; simp; omega)).setCell (by simp) _), by simp [intOf]; omega⟩
          rw [HT.out, HN.out]
          exact HM6.out.drew.add HU.out HLJ.out hg8 hown8 (by simp) rfl (by simpa using hat8) (by omega)
    · obtain rfl : k = l.length := by omega
      rw [List.take_of_length_le (Nat.le_refl _)] at HMA
      go_wp2
      go_ret
      exact ⟨w.heap.size + 1, us, by rw [memsB_length]; rfl, by omega, HMA.out.zero, (below_new w _).trans (HB.out.mono (by simp))⟩
end Go.Proofs.YtciiemomfniecaaGreatDoor
