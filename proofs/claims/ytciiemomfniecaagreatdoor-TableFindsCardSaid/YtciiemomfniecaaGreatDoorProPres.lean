/-
  A oneof is printed: the contract.
-/
import Derived.Test.YtciiemomfniecaaGreatDoorProPfld
namespace Go.Proofs.YtciiemomfniecaaGreatDoor
set_option maxRecDepth 100000

open Go.RowKit

/-- What is laid lies below B. -/
def LaidB (B : Nat) (w : World) : Prop := ∃ w0, Laid w0 ∧ w0.heap.size ≤ B ∧ Below w0.heap.size w0 w
theorem LaidB.laid {B : Nat} {w : World} (h : LaidB B w) : Laid w := by
  obtain ⟨w0, h1, h2, h3⟩ := h
  exact h1.on h3
theorem LaidB.pr {B : Nat} {w w' : World} (h : LaidB B w) (k : Pr B w w') : LaidB B w' := by
  obtain ⟨w0, h1, h2, h3⟩ := h
  exact ⟨w0, h1, h2, h3.trans ⟨k.os, k.tape, k.output, k.size, fun i hi => k.block i (by omega)⟩⟩
theorem LaidB.start {w : World} (h : Laid w) : LaidB w.heap.size w := ⟨w, h, Nat.le_refl _, Below.refl _ _⟩
theorem fdv_length (l : List Fd) : (fdv l).length = l.length * 7 := by
  induction l with
  | nil => rfl
  | cons d l ih => simp only [fdv, List.flatMap_cons, List.length_append, List.length_cons] at ih ⊢; rw [ih]; simp [FC]; omega
theorem fdv_get : ∀ (l : List Fd) (k j : Nat) (d : Fd), l[k]? = some d → j < 7 → (fdv l)[k * 7 + j]? = (FC d)[j]?
  | [], k, j, r, h, _ => by simp at h
  | x :: l, 0, j, r, h, hj => by
    obtain rfl : x = r := by simpa using h
    rw [show fdv (x :: l) = FC x ++ fdv l by simp [fdv], Nat.zero_mul, Nat.zero_add, List.getElem?_append_left (by simp [FC]; omega)]
  | x :: l, k + 1, j, r, h, hj => by
    rw [show fdv (x :: l) = FC x ++ fdv l by simp [fdv], List.getElem?_append_right (by simp [FC]; omega)]
    rw [show (k + 1) * 7 + j - (FC x).length = k * 7 + j by simp [FC]; omega]
    exact fdv_get l k j r (by simpa using h) hj
/-- Field k, as it lies there. -/
theorem fd_at {w : World} {b : Nat} {v : Value} {l : List Fd} (h : w.ownsRow b 53 7 v l.length (fdv l)) {k : Nat} {d : Fd} (hk : l[k]? = some d) :
    ∃ g cap, v = .slice (some ⟨g, 0, none⟩) l.length cap ∧ g < w.heap.size ∧ w.cell? ⟨g, k * 7, none⟩ = some (.string (txt d.type)) ∧ w.cell? ⟨g, k * 7 + 1, none⟩ = some (.string (txt d.key)) ∧ w.cell? ⟨g, k * 7 + 2, none⟩ = some (.bool d.rep) ∧
      w.cell? ⟨g, k * 7 + 3, none⟩ = some (.int .i64 d.one) ∧ w.cell? ⟨g, k * 7 + 4, none⟩ = some (.string (txt d.name)) ∧ w.cell? ⟨g, k * 7 + 5, none⟩ = some (.int .i64 d.no) ∧ w.cell? ⟨g, k * 7 + 6, none⟩ = some (.int .i64 d.at_) := by
  have hlt : k < l.length := (List.getElem?_eq_some_iff.1 hk).1
  rcases h.2 with ⟨_, h0⟩ | ⟨g, cap, cur, rfl, _, hh, _⟩
  · omega
  · have hc := fun (j : Nat) (hj : j < 7) => h.cells (g := g) rfl (k * 7 + j)
    have hv := fun (j : Nat) (hj : j < 7) => fdv_get l k j d hk hj
    have key : ∀ (j : Nat) (hj : j < 7) (u : Value), (FC d)[j]? = some u → w.cell? ⟨g, k * 7 + j, none⟩ = some u := by
      intro j hj u hu
      have := hc j hj u (by rw [hv j hj, hu])
      simpa [Addr.add_lit] using this
    exact ⟨g, cap, rfl, (Array.getElem?_eq_some_iff.1 hh).1, key 0 (by omega) _ rfl, key 1 (by omega) _ rfl, key 2 (by omega) _ rfl, key 3 (by omega) _ rfl, key 4 (by omega) _ rfl, key 5 (by omega) _ rfl, key 6 (by omega) _ rfl⟩
theorem fieldsB_take (a : List UInt8) (l : List Fd) (k : Nat) (d : Fd) (h : l[k]? = some d) : fieldsB a (l.take (k + 1)) = fieldsB a (l.take k) ++ fieldB a d := by
  rw [List.take_add_one, h]; simp [fieldsB]
theorem fieldsB_le (a : List UInt8) (l : List Fd) (k : Nat) : (fieldsB a (l.take k)).length ≤ (fieldsB a l).length := by
  conv => rhs; rw [← List.take_append_drop k l]
  simp only [fieldsB, List.map_append, List.flatten_append, List.length_append]
  omega
def FsRel (B : Nat) (a : List UInt8) (L : List UInt8) (l : List Fd) (w : World) (o i : Value) (wr : World) : Prop := ∃ k : Nat, i = .int .i64 k ∧ k ≤ l.length ∧ Out B wr o (L ++ fieldsB a (l.take k)) ∧ Pr B w wr
theorem FsRel.mk {B : Nat} {a L : List UInt8} {l : List Fd} {w wr : World} {o i : Value} (k : Nat) (h1 : i = .int .i64 k) (h2 : k ≤ l.length) (h3 : Out B wr o (L ++ fieldsB a (l.take k))) (h4 : Pr B w wr) : FsRel B a L l w o i wr := ⟨k, h1, h2, h3, h4⟩
set_option maxHeartbeats 4000000 in
theorem pone_any (B : Nat) (v vm : Value) (L name : List UInt8) (l : List Fd) (w : World) (LV : LaidB B w) (ho : Out B w v L) (hm : w.ownsRow 0 53 7 vm l.length (fdv l)) (hB : B ≤ w.heap.size) (hd : ∀ d ∈ l, FdOk d) (hl : L.length + (oneB name l).length ≤ 1000000000) (hll : l.length ≤ 1000000) :
    Calls Tryz.prog 110 #[v, .string (txt name), vm] w (OutPost B (L ++ oneB name l) w) := by
  by_cases h0 : l = []
  · subst h0
    have HO := Lib.hid ho
    obtain ⟨A, c, rfl, -⟩ := Sl.of_own hm
    clear ho hm hl
    go_enter Tryz.func110, Tryz.ntmps110
    go_wp2
    go_ret
    exact ⟨_, rfl, by simpa [oneB] using HO.out, Pr.refl _ _⟩
  · have HR : Hid (oneB name l = lineB [[32, 32], wOneof, [32], name, [32, 123]] ++ fieldsB [32, 32, 32, 32] l ++ lineB [[32, 32], [125]]) := Lib.hid (by rw [oneB, if_neg h0])
    have hlp : 0 < l.length := List.length_pos_iff.2 h0
    have hbi : ((l.length : Int) == 0) = false := by rw [beq_eq_false_iff_ne]; omega
    have hln : L.length + (lineB [[32, 32], wOneof, [32], name, [32, 123]]).length + (fieldsB [32, 32, 32, 32] l).length + (lineB [[32, 32], [125]]).length ≤ 1000000000 := by
      rw [HR.out] at hl
      simp only [List.length_append] at hl
      omega
    have HLN := Lib.hid hln
    have hl1 : L.length + [[32, 32], wOneof, [32], name, [32, 123]].flatten.length ≤ 1000000000 := by
      unfold lineB at hln
      simp only [List.length_append] at hln ⊢
      omega
    have HL1 := Lib.hid hl1
    have H1 := Lib.hid (line_any B w.heap.size 5 v L [[32, 32], wOneof, [32], name, [32, 123]] (w.alloc (.cells (strv [[32, 32], wOneof, [32], name, [32, 123]]).toArray 9)) rfl (ho.alloc _) (heap_alloc_new _ _) (by simp; omega) hl1 (by simp))
    have HM := Lib.hid hm
    have HD := Lib.hid hd
    obtain ⟨A, c, hvm, -⟩ := Sl.of_own hm
    subst hvm
    have HLV := Lib.hid LV
    clear hl hln hl1 hm hd LV h0
    go_enter Tryz.func110, Tryz.ntmps110
    go_wp2_with fail
    refine H1.out.mono ?_
    rintro e w1 ⟨v1, rfl, ho1, hpr1⟩
    have HO1 := Lib.hid ho1
    have HP1 := Lib.hid (((Pr.refl B w).alloc hB _).trans hpr1)
    have hs1 := hpr1.size
    simp at hs1
    clear ho1 hpr1
    go_wp2
    go_loopw [0, 19] (fun o i wr => FsRel B [32, 32, 32, 32] (L ++ lineB [[32, 32], wOneof, [32], name, [32, 123]]) l w o i wr) (fun _ i _ => l.length - (intOf i).toNat)
    case atStart => exact ⟨0, rfl, by omega, by simpa [fieldsB] using HO1.out, HP1.out⟩
    case round =>
      obtain ⟨k, rfl, hk, ho, hpr⟩ := hrel
      have HO5 := Lib.hid ho
      have HPR := Lib.hid hpr
      have hsz := hpr.size
      clear ho hpr
      by_cases h1 : k < l.length
      · obtain ⟨d, hdk⟩ : ∃ d, l[k]? = some d := ⟨_, List.getElem?_eq_getElem h1⟩
        obtain ⟨g, cap, hv, hg, c0, c1, c2, c3, c4, c5, c6⟩ := fd_at (HPR.out.own HM.out (by decide)) hdk
        injection hv with hA hn hc
        subst hA hc
        have hok := HD.out d (List.mem_of_getElem? hdk)
        have hft := fieldsB_take [32, 32, 32, 32] l k d hdk
        have hfl := fieldsB_le [32, 32, 32, 32] l (k + 1)
        rw [hft, List.length_append] at hfl
        have HFT := Lib.hid hft
        have hle : (L ++ lineB [[32, 32], wOneof, [32], name, [32, 123]] ++ fieldsB [32, 32, 32, 32] (l.take k)).length + (fieldB [32, 32, 32, 32] d).length ≤ 1000000000 := by
          have := HLN.out
          simp only [List.length_append] at this ⊢
          omega
        have H2 := Lib.hid (pfld_any B _ _ [32, 32, 32, 32] d (wr.alloc (.cells #[.string (txt d.type), .string (txt d.key), .bool d.rep, .int .i64 d.one, .string (txt d.name), .int .i64 d.no, .int .i64 d.at_] 53)) ((HLV.out.pr HPR.out).laid.on (below_new _ _)) (HO5.out.alloc _) (by simp; omega) hok hle)
        clear hok hft hdk hle hfl hn
        go_wp2_with fail
        refine H2.out.mono ?_
        rintro e w8 ⟨v8, rfl, ho8, hpr8⟩
        have hs8 := hpr8.size
        go_wp2
        refine ⟨FsRel.mk (k + 1) (by go_num) (by omega) ?_ ((HPR.out.alloc hB _).trans hpr8), by simp [intOf]; omega⟩
        rw [HFT.out, ← List.append_assoc]
        exact ho8
      · obtain rfl : k = l.length := by omega
        rw [List.take_of_length_le (Nat.le_refl _)] at HO5
        have hle : (L ++ lineB [[32, 32], wOneof, [32], name, [32, 123]] ++ fieldsB [32, 32, 32, 32] l).length + ([[32, 32], [125]] : List (List UInt8)).flatten.length ≤ 1000000000 := by
          have := HLN.out
          unfold lineB at this ⊢
          simp only [List.length_append] at this ⊢
          omega
        have H2 := Lib.hid (line_any B wr.heap.size 2 _ _ [[32, 32], [125]] (wr.alloc (.cells (strv [[32, 32], [125]]).toArray 9)) rfl (HO5.out.alloc _) (heap_alloc_new _ _) (by simp; omega) hle (by simp))
        clear hle
        go_wp2_with fail
        refine H2.out.mono ?_
        rintro e w8 ⟨v8, rfl, ho8, hpr8⟩
        go_wp2
        go_ret
        refine ⟨v8, rfl, ?_, (HPR.out.alloc hB _).trans hpr8⟩
        rw [HR.out, ← List.append_assoc, ← List.append_assoc]
        exact ho8
end Go.Proofs.YtciiemomfniecaaGreatDoor
/-
  Reserved numbers and an enum are printed: the contracts.
-/
namespace Go.Proofs.YtciiemomfniecaaGreatDoor
set_option maxRecDepth 100000

open Go.RowKit

theorem int_at {w : World} {b : Nat} {v : Value} {l : List Int} (h : w.ownsRow b 2 1 v l.length (intv l)) {k : Nat} {n : Int} (hk : l[k]? = some n) :
    ∃ g cap, v = .slice (some ⟨g, 0, none⟩) l.length cap ∧ g < w.heap.size ∧ w.cell? ⟨g, k, none⟩ = some (.int .i64 n) := by
  have hlt : k < l.length := (List.getElem?_eq_some_iff.1 hk).1
  rcases h.2 with ⟨_, h0⟩ | ⟨g, cap, cur, rfl, _, hh, _⟩
  · omega
  · have := h.cells (g := g) rfl k (.int .i64 n) (by simp [intv, hk])
    exact ⟨g, cap, rfl, (Array.getElem?_eq_some_iff.1 hh).1, by simpa [Addr.add_lit] using this⟩
theorem numsB_take (a : List UInt8) (l : List Int) (k : Nat) (n : Int) (h : l[k]? = some n) : numsB a (l.take (k + 1)) = numsB a (l.take k) ++ ((if k = 0 then a else [44, 32]) ++ digB n) := by
  have hlt : k < l.length := (List.getElem?_eq_some_iff.1 h).1
  rw [List.take_add_one, h]
  simp only [Option.toList_some]
  rw [numsB_snoc]
  congr 2
  by_cases h0 : k = 0
  · subst h0; simp
  · have : l.take k ≠ [] := by intro e; have := congrArg List.length e; rw [List.length_take, List.length_nil] at this; omega
    simp [h0, this]
theorem numsB_app (a : List UInt8) (l : List Int) (k : Nat) : ∃ r, numsB a l = numsB a (l.take k) ++ r := by
  induction l generalizing a k with
  | nil => exact ⟨[], by simp [numsB]⟩
  | cons n l ih =>
    cases k with
    | zero => exact ⟨_, by rw [List.take_zero, numsB]; rfl⟩
    | succ k =>
      obtain ⟨r, hr⟩ := ih [44, 32] k
      exact ⟨r, by rw [numsB, hr, List.take_succ_cons, numsB]; simp⟩
theorem numsB_le (a : List UInt8) (l : List Int) (k : Nat) : (numsB a (l.take k)).length ≤ (numsB a l).length := by
  obtain ⟨r, hr⟩ := numsB_app a l k
  rw [hr, List.length_append]; omega
def NsRel (B : Nat) (L : List UInt8) (l : List Int) (w : World) (o s i : Value) (wr : World) : Prop := ∃ k : Nat, i = .int .i64 k ∧ s = .string (txt (if k = 0 then [32] else [44, 32])) ∧ k ≤ l.length ∧ Out B wr o (L ++ numsB [32] (l.take k)) ∧ Pr B w wr
theorem NsRel.mk {B : Nat} {L : List UInt8} {l : List Int} {w wr : World} {o s i : Value} (k : Nat) (h1 : i = .int .i64 k) (hs : s = .string (txt (if k = 0 then [32] else [44, 32]))) (h2 : k ≤ l.length) (h3 : Out B wr o (L ++ numsB [32] (l.take k))) (h4 : Pr B w wr) : NsRel B L l w o s i wr := ⟨k, h1, hs, h2, h3, h4⟩
set_option maxHeartbeats 4000000 in
theorem pres_any (B : Nat) (v vr : Value) (L : List UInt8) (l : List Int) (w : World) (LV : LaidB B w) (ho : Out B w v L) (hm : w.ownsRow 0 2 1 vr l.length (intv l)) (hB : B ≤ w.heap.size) (hd : ∀ n ∈ l, -9223372036854775808 ≤ n ∧ n ≤ 9223372036854775807) (hl : L.length + (resB l).length ≤ 1000000000) (hll : l.length ≤ 1000000) :
    Calls Tryz.prog 111 #[v, vr] w (OutPost B (L ++ resB l) w) := by
  obtain ⟨i0, hi, hz0, hz1, hz2⟩ := info_parts info_u8
  obtain ⟨LW, hLW⟩ : ∃ x : List UInt8, x = L ++ [32, 32, 114, 101, 115, 101, 114, 118, 101, 100] := ⟨_, rfl⟩
  have hlw : LW.length = L.length + 10 := by rw [hLW]; simp
  have HR : Hid (L ++ resB l = LW ++ numsB [32] l ++ lineB [[59]]) := Lib.hid (by rw [hLW, resB]; simp)
  have hln : LW.length + (numsB [32] l).length + (lineB [[59]]).length ≤ 1000000000 := by
    rw [resB] at hl
    simp only [List.length_append] at hl
    simp only [List.length_cons, List.length_nil] at hl
    omega
  have HLN := Lib.hid hln
  have HLW := Lib.hid hLW
  have HO := Lib.hid ho
  have HM := Lib.hid hm
  have HD := Lib.hid hd
  have HLV := Lib.hid LV
  obtain ⟨A, c, hvm, -⟩ := Sl.of_own hm
  subst hvm
  have hlL : L.length ≤ 1000000000 := by omega
  clear hl hln hm hd LV ho hLW
  go_enter Tryz.func111, Tryz.ntmps111
  go_wp2_with (refine Lib.wpList_append_own_string _ rfl _ _ _ _ rfl B 5 i0 Tryz.underlying106 Tryz.underlying9 hi hz0 hz1 hz2 _ _ _ rfl HO.out (txt [32, 32, 114, 101, 115, 101, 114, 118, 101, 100]) rfl (by rw [txt_size]; unfold maxLen; simp; omega) (by rw [txt_size]; simp; omega) (by omega) ?_; intro v1 w1 hown1 hg1 hnil1)
  have HO1 : Hid (Out B w1 v1 LW) := Lib.hid (by rw [HLW.out]; exact Out.grow hown1 (by rw [txt_size]; simp) (by rw [strCells_bs]))
  have HP1 := Lib.hid (Pr.grown HO.out hg1 hB)
  have hs1 := hg1.size
  clear hown1 hg1 hnil1
  go_loopw [0, 5, 12] (fun o s i wr => NsRel B LW l w o s i wr) (fun _ _ i _ => l.length - (intOf i).toNat)
  case atStart => exact ⟨0, rfl, rfl, by omega, by simpa [numsB] using HO1.out, HP1.out⟩
  case round =>
    obtain ⟨k, rfl, rfl, hk, ho, hpr⟩ := hrel
    have HO5 := Lib.hid ho
    have HPR := Lib.hid hpr
    have hsz := hpr.size
    clear ho hpr
    by_cases h1 : k < l.length
    · obtain ⟨n, hdk⟩ : ∃ n, l[k]? = some n := ⟨_, List.getElem?_eq_getElem h1⟩
      obtain ⟨g, cap, hv, hg, c0⟩ := int_at (HPR.out.own HM.out (by decide)) hdk
      injection hv with hA hn hc
      subst hA hc
      obtain ⟨n1, n2⟩ := HD.out n (List.mem_of_getElem? hdk)
      have hft := numsB_take [32] l k n hdk
      have hfl := numsB_le [32] l (k + 1)
      obtain ⟨a, ha⟩ : ∃ a : List UInt8, a = (if k = 0 then [32] else [44, 32]) := ⟨_, rfl⟩
      rw [← ha] at hft
      rw [hft] at hfl
      have HFT := Lib.hid hft
      have H2 := Lib.hid (fun w L => digits_any n n1 n2 w L)
      change Hid (∀ w, Laid w → Calls Tryz.prog 112 #[.int .i64 n] w fun e w' => e = .returned (.string (txt (digB n))) ∧ Below w.heap.size w w') at H2
      simp only [List.length_append] at hfl
      have hsa := txt_size a
      have hsd := txt_size (digB n)
      have hle := HLN.out
      have ho5l : (LW ++ numsB [32] (l.take k)).length = LW.length + (numsB [32] (l.take k)).length := by simp
      have HOL := Lib.hid ho5l
      have b1 : (LW ++ numsB [32] (l.take k)).length + (txt a).size ≤ 1000000000 := by omega
      have b2 : (LW ++ numsB [32] (l.take k)).length + (txt a).size + (txt (digB n)).size ≤ 1000000000 := by omega
      have HSA := Lib.hid hsa
      have HSD := Lib.hid hsd
      rw [← ha]
      have HA := Lib.hid ha
      clear hft hdk hfl hn ha hsa hsd hle ho5l n1 n2
      go_wp2_with (refine Lib.wpList_append_own_string _ rfl _ _ _ _ rfl B 5 i0 Tryz.underlying106 Tryz.underlying9 hi hz0 hz1 hz2 _ _ _ rfl HO5.out (txt a) rfl (by unfold maxLen; omega) (by omega) (by omega) ?_; intro v6 w6 hown6 hg6 hnil6)
      have hq6 : Pr B w w6 := HPR.out.trans (Pr.grown HO5.out hg6 (by omega))
      have HQ6 := Lib.hid hq6
      have ho6 : Out B w6 v6 (LW ++ numsB [32] (l.take k) ++ a) := Out.grow hown6 (by rw [HSA.out]; simp [Nat.add_assoc]) (by rw [strCells_bs])
      have hs6 := hq6.size
      clear hown6 hnil6 hq6
      refine (H2.out _ (HLV.out.pr HQ6.out).laid).mono ?_
      rintro e w7 ⟨rfl, hb7⟩
      have HO7 := Lib.hid (ho6.below hb7)
      have HQ7 := Lib.hid (HQ6.out.trans (Pr.below hb7 (by omega)))
      have hs7 := hb7.size
      have b3 : (LW ++ numsB [32] (l.take k) ++ a).length + (txt (digB n)).size ≤ 1000000000 := by
        have := HSA.out
        rw [List.length_append]
        omega
      clear ho6 hb7 hg6
      go_wp2_with (refine Lib.wpList_append_own_string _ rfl _ _ _ _ rfl B 5 i0 Tryz.underlying106 Tryz.underlying9 hi hz0 hz1 hz2 _ _ _ rfl HO7.out (txt (digB n)) rfl (by unfold maxLen; omega) (by omega) (by omega) ?_; intro v8 w8 hown8 hg8 hnil8)
      refine ⟨NsRel.mk (k + 1) (by go_num) rfl (by omega) ?_ (HQ7.out.trans (Pr.grown HO7.out hg8 (by omega))), by simp [intOf]; omega⟩
      rw [HFT.out, ← List.append_assoc, ← List.append_assoc]
      exact Out.grow hown8 (by rw [HSD.out]; simp [Nat.add_assoc]) (by rw [strCells_bs])
    · obtain rfl : k = l.length := by omega
      rw [List.take_of_length_le (Nat.le_refl _)] at HO5
      have hle : (LW ++ numsB [32] l).length + ([[59]] : List (List UInt8)).flatten.length ≤ 1000000000 := by
        have := HLN.out
        unfold lineB at this
        simp only [List.length_append] at this ⊢
        omega
      obtain ⟨a, ha⟩ : ∃ a : List UInt8, a = (if l.length = 0 then [32] else [44, 32]) := ⟨_, rfl⟩
      rw [← ha]
      clear ha
      have H2 := Lib.hid (line_any B wr.heap.size 1 _ _ [[59]] (wr.alloc (.cells (strv [[59]]).toArray 9)) rfl (HO5.out.alloc _) (heap_alloc_new _ _) (by simp; omega) hle (by simp))
      clear hle
      go_wp2_with fail
      refine H2.out.mono ?_
      rintro e w8 ⟨v8, rfl, ho8, hpr8⟩
      go_wp2
      go_ret
      refine ⟨v8, rfl, ?_, (HPR.out.alloc hB _).trans hpr8⟩
      rw [HR.out]
      exact ho8
end Go.Proofs.YtciiemomfniecaaGreatDoor
