/-
  Reserved numbers and an enum are printed: the contracts.
-/
import Derived.Test.YtciiemomfniecaaGreatDoorProPone
import Derived.Laws.MakeOwn
import Derived.Deep.RegionHeld3
namespace Go.Proofs.YtciiemomfniecaaGreatDoor
set_option maxRecDepth 100000

open Go.RowKit

theorem int_at {w : World} {b : Nat} {v : Value} {l : List Int} (h : w.ownsRow b 2 1 v l.length (intv l)) {k : Nat} {n : Int} (hk : l[k]? = some n) :
    ∃ g cap, v = .slice (some ⟨g, 0, none⟩) l.length cap ∧ g < w.heap.size ∧ w.cell? ⟨g, k, none⟩ = some (.int .i64 n) := by
  have hlt : k < l.length := (List.getElem?_eq_some_iff.1 hk).1
  rcases h.2 with ⟨_, h0⟩ | ⟨g, cap, cur, rfl, _, hh, _⟩
  · omega
  · have := h.cells (g := g) rfl k (.int .i64 n) (by simp [intv, hk])
    exact ⟨g, cap, rfl, (Array.getElem?_eq_some_iff.1 hh).1, by simpa [Addr.add_lit] using this⟩
theorem numsB_take (a : List UInt8) (l : List Int) (k : Nat) (n : Int) (h : l[k]? = some n) : numsB a (l.take (k + 1)) = numsB a (l.take k) ++ ((if k = 0 then a else [44, 32]) ++ digB n) := by
  have hlt : k < l.length := (List.getElem?_eq_some_iff.1 h).1
  rw [List.take_add_one, h]
  simp only [Option.toList_some]
  rw [numsB_snoc]
  congr 2
  by_cases h0 : k = 0
  · subst h0; simp
  · have : l.take k ≠ [] := by intro e; have := congrArg List.length e; rw [List.length_take, List.length_nil] at this; omega
    simp [h0, this]
theorem numsB_app (a : List UInt8) (l : List Int) (k : Nat) : ∃ r, numsB a l = numsB a (l.take k) ++ r := by
  induction l generalizing a k with
  | nil => exact ⟨[], by simp [numsB]⟩
  | cons n l ih =>
    cases k with
    | zero => exact ⟨_, by rw [List.take_zero, numsB]; rfl⟩
    | succ k =>
      obtain ⟨r, hr⟩ := ih [44, 32] k
      exact ⟨r, by rw [numsB, hr, List.take_succ_cons, numsB]; simp⟩
theorem numsB_le (a : List UInt8) (l : List Int) (k : Nat) : (numsB a (l.take k)).length ≤ (numsB a l).length := by
  obtain ⟨r, hr⟩ := numsB_app a l k
  rw [hr, List.length_append]; omega
def NsRel (B : Nat) (L : List UInt8) (l : List Int) (w : World) (o s i : Value) (wr : World) : Prop := ∃ k : Nat, i = .int .i64 k ∧ s = .string (txt (if k = 0 then [32] else [44, 32])) ∧ k ≤ l.length ∧ Out B wr o (L ++ numsB [32] (l.take k)) ∧ Pr B w wr
theorem NsRel.mk {B : Nat} {L : List UInt8} {l : List Int} {w wr : World} {o s i : Value} (k : Nat) (h1 : i = .int .i64 k) (hs : s = .string (txt (if k = 0 then [32] else [44, 32]))) (h2 : k ≤ l.length) (h3 : Out B wr o (L ++ numsB [32] (l.take k))) (h4 : Pr B w wr) : NsRel B L l w o s i wr := ⟨k, h1, hs, h2, h3, h4⟩
set_option maxHeartbeats 4000000 in
theorem pres_any (B : Nat) (v vr : Value) (L : List UInt8) (l : List Int) (w : World) (LV : LaidB B w) (ho : Out B w v L) (hm : w.ownsRow 0 2 1 vr l.length (intv l)) (hB : B ≤ w.heap.size) (hd : ∀ n ∈ l, -9223372036854775808 ≤ n ∧ n ≤ 9223372036854775807) (hl : L.length + (resB l).length ≤ 1000000000000) (hll : l.length ≤ 1000000) :
    Calls Tryz.prog 111 #[v, vr] w (OutPost B (L ++ resB l) w) := by
  obtain ⟨i0, hi, hz0, hz1, hz2⟩ := info_parts info_u8
  obtain ⟨LW, hLW⟩ : ∃ x : List UInt8, x = L ++ [32, 32, 114, 101, 115, 101, 114, 118, 101, 100] := ⟨_, rfl⟩
  have hlw : LW.length = L.length + 10 := by rw [hLW]; simp
  have HR : Hid (L ++ resB l = LW ++ numsB [32] l ++ lineB [[59]]) := Lib.hid (by rw [hLW, resB]; simp)
  have hln : LW.length + (numsB [32] l).length + (lineB [[59]]).length ≤ 1000000000000 := by
    rw [resB] at hl
    simp only [List.length_append] at hl
    simp only [List.length_cons, List.length_nil] at hl
    omega
  have HLN := Lib.hid hln
  have HLW := Lib.hid hLW
  have HO := Lib.hid ho
  have HM := Lib.hid hm
  have HD := Lib.hid hd
  have HLV := Lib.hid LV
  obtain ⟨A, c, hvm, -⟩ := Sl.of_own hm
  subst hvm
  have hlL : L.length ≤ 1000000000000 := by omega
  clear hl hln hm hd LV ho hLW
  go_enter Tryz.func111, Tryz.ntmps111
  go_wp2_with (refine Lib.wpList_append_own_string _ rfl _ _ _ _ rfl B 5 i0 Tryz.underlying106 Tryz.underlying9 hi hz0 hz1 hz2 _ _ _ rfl HO.out (txt [32, 32, 114, 101, 115, 101, 114, 118, 101, 100]) rfl (by rw [txt_size]; unfold maxLen; simp; omega) (by rw [txt_size]; simp; omega) (by omega) ?_; intro v1 w1 hown1 hg1 hnil1)
  have HO1 : Hid (Out B w1 v1 LW) := Lib.hid (by rw [HLW.out]; exact Out.grow hown1 (by rw [txt_size]; simp) (by rw [strCells_bs]))
  have HP1 := Lib.hid (Pr.grown HO.out hg1 hB)
  have hs1 := hg1.size
  clear hown1 hg1 hnil1
  go_loopw [0, 5, 12] (fun o s i wr => NsRel B LW l w o s i wr) (fun _ _ i _ => l.length - (intOf i).toNat)
  case atStart => exact ⟨0, rfl, rfl, by omega, by simpa [numsB] using HO1.out, HP1.out⟩
  case round =>
    obtain ⟨k, rfl, rfl, hk, ho, hpr⟩ := hrel
    have HO5 := Lib.hid ho
    have HPR := Lib.hid hpr
    have hsz := hpr.size
    clear ho hpr
    by_cases h1 : k < l.length
    · obtain ⟨n, hdk⟩ : ∃ n, l[k]? = some n := ⟨_, List.getElem?_eq_getElem h1⟩
      obtain ⟨g, cap, hv, hg, c0⟩ := int_at (HPR.out.own HM.out (by decide)) hdk
      injection hv with hA hn hc
      subst hA hc
      obtain ⟨n1, n2⟩ := HD.out n (List.mem_of_getElem? hdk)
      have hft := numsB_take [32] l k n hdk
      have hfl := numsB_le [32] l (k + 1)
      obtain ⟨a, ha⟩ : ∃ a : List UInt8, a = (if k = 0 then [32] else [44, 32]) := ⟨_, rfl⟩
      rw [← ha] at hft
      rw [hft] at hfl
      have HFT := Lib.hid hft
      have H2 := Lib.hid (fun w L => digits_any n n1 n2 w L)
      change Hid (∀ w, Laid w → Calls Tryz.prog 112 #[.int .i64 n] w fun e w' => e = .returned (.string (txt (digB n))) ∧ Below w.heap.size w w') at H2
      simp only [List.length_append] at hfl
      have hsa := txt_size a
      have hsd := txt_size (digB n)
      have hle := HLN.out
      have ho5l : (LW ++ numsB [32] (l.take k)).length = LW.length + (numsB [32] (l.take k)).length := by simp
      have HOL := Lib.hid ho5l
      have b1 : (LW ++ numsB [32] (l.take k)).length + (txt a).size ≤ 1000000000000 := by omega
      have b2 : (LW ++ numsB [32] (l.take k)).length + (txt a).size + (txt (digB n)).size ≤ 1000000000000 := by omega
      have HSA := Lib.hid hsa
      have HSD := Lib.hid hsd
      rw [← ha]
      have HA := Lib.hid ha
      clear hft hdk hfl hn ha hsa hsd hle ho5l n1 n2
      go_wp2_with (refine Lib.wpList_append_own_string _ rfl _ _ _ _ rfl B 5 i0 Tryz.underlying106 Tryz.underlying9 hi hz0 hz1 hz2 _ _ _ rfl HO5.out (txt a) rfl (by unfold maxLen; omega) (by omega) (by omega) ?_; intro v6 w6 hown6 hg6 hnil6)
      have hq6 : Pr B w w6 := HPR.out.trans (Pr.grown HO5.out hg6 (by omega))
      have HQ6 := Lib.hid hq6
      have ho6 : Out B w6 v6 (LW ++ numsB [32] (l.take k) ++ a) := Out.grow hown6 (by rw [HSA.out]; simp [Nat.add_assoc]) (by rw [strCells_bs])
      have hs6 := hq6.size
      clear hown6 hnil6 hq6
      refine (H2.out _ (HLV.out.pr HQ6.out).laid).mono ?_
      rintro e w7 ⟨rfl, hb7⟩
      have HO7 := Lib.hid (ho6.below hb7)
      have HQ7 := Lib.hid (HQ6.out.trans (Pr.below hb7 (by omega)))
      have hs7 := hb7.size
      have b3 : (LW ++ numsB [32] (l.take k) ++ a).length + (txt (digB n)).size ≤ 1000000000000 := by
        have := HSA.out
        rw [List.length_append]
        omega
      clear ho6 hb7 hg6
      go_wp2_with (refine Lib.wpList_append_own_string _ rfl _ _ _ _ rfl B 5 i0 Tryz.underlying106 Tryz.underlying9 hi hz0 hz1 hz2 _ _ _ rfl HO7.out (txt (digB n)) rfl (by unfold maxLen; omega) (by omega) (by omega) ?_; intro v8 w8 hown8 hg8 hnil8)
      refine ⟨NsRel.mk (k + 1) (by go_num) rfl (by omega) ?_ (HQ7.out.trans (Pr.grown HO7.out hg8 (by omega))), by simp [intOf]; omega⟩
      rw [HFT.out, ← List.append_assoc, ← List.append_assoc]
      exact Out.grow hown8 (by rw [HSD.out]; simp [Nat.add_assoc]) (by rw [strCells_bs])
    · obtain rfl : k = l.length := by omega
      rw [List.take_of_length_le (Nat.le_refl _)] at HO5
      have hle : (LW ++ numsB [32] l).length + ([[59]] : List (List UInt8)).flatten.length ≤ 1000000000000 := by
        have := HLN.out
        unfold lineB at this
        simp only [List.length_append] at this ⊢
        omega
      obtain ⟨a, ha⟩ : ∃ a : List UInt8, a = (if l.length = 0 then [32] else [44, 32]) := ⟨_, rfl⟩
      rw [← ha]
      clear ha
      have H2 := Lib.hid (line_any B wr.heap.size 1 _ _ [[59]] (wr.alloc (.cells (strv [[59]]).toArray 9)) rfl (HO5.out.alloc _) (heap_alloc_new _ _) (by simp; omega) hle (by simp))
      clear hle
      go_wp2_with fail
      refine H2.out.mono ?_
      rintro e w8 ⟨v8, rfl, ho8, hpr8⟩
      go_wp2
      go_ret
      refine ⟨v8, rfl, ?_, (HPR.out.alloc hB _).trans hpr8⟩
      rw [HR.out]
      exact ho8
end Go.Proofs.YtciiemomfniecaaGreatDoor
/-
  An enum is printed: the contract.
-/
namespace Go.Proofs.YtciiemomfniecaaGreatDoor
set_option maxRecDepth 100000

open Go.RowKit

theorem vlv_length (l : List Vl) : (vlv l).length = l.length * 3 := by
  induction l with
  | nil => rfl
  | cons d l ih => simp only [vlv, List.flatMap_cons, List.length_append, List.length_cons] at ih ⊢; rw [ih]; simp [VC]; omega
theorem vlv_get : ∀ (l : List Vl) (k j : Nat) (d : Vl), l[k]? = some d → j < 3 → (vlv l)[k * 3 + j]? = (VC d)[j]?
  | [], k, j, r, h, _ => by simp at h
  | x :: l, 0, j, r, h, hj => by
    obtain rfl : x = r := by simpa using h
    rw [show vlv (x :: l) = VC x ++ vlv l by simp [vlv], Nat.zero_mul, Nat.zero_add, List.getElem?_append_left (by simp [VC]; omega)]
  | x :: l, k + 1, j, r, h, hj => by
    rw [show vlv (x :: l) = VC x ++ vlv l by simp [vlv], List.getElem?_append_right (by simp [VC]; omega)]
    rw [show (k + 1) * 3 + j - (VC x).length = k * 3 + j by simp [VC]; omega]
    exact vlv_get l k j r (by simpa using h) hj
theorem vl_at {w : World} {b : Nat} {v : Value} {l : List Vl} (h : w.ownsRow b 83 3 v l.length (vlv l)) {k : Nat} {d : Vl} (hk : l[k]? = some d) :
    ∃ g cap, v = .slice (some ⟨g, 0, none⟩) l.length cap ∧ g < w.heap.size ∧ w.cell? ⟨g, k * 3, none⟩ = some (.string (txt d.name)) ∧ w.cell? ⟨g, k * 3 + 1, none⟩ = some (.int .i64 d.n) ∧ w.cell? ⟨g, k * 3 + 2, none⟩ = some (.int .i64 d.at_) := by
  have hlt : k < l.length := (List.getElem?_eq_some_iff.1 hk).1
  rcases h.2 with ⟨_, h0⟩ | ⟨g, cap, cur, rfl, _, hh, _⟩
  · omega
  · have hc := fun (j : Nat) (hj : j < 3) => h.cells (g := g) rfl (k * 3 + j)
    have hv := fun (j : Nat) (hj : j < 3) => vlv_get l k j d hk hj
    have key : ∀ (j : Nat) (hj : j < 3) (u : Value), (VC d)[j]? = some u → w.cell? ⟨g, k * 3 + j, none⟩ = some u := by
      intro j hj u hu
      have := hc j hj u (by rw [hv j hj, hu])
      simpa [Addr.add_lit] using this
    exact ⟨g, cap, rfl, (Array.getElem?_eq_some_iff.1 hh).1, key 0 (by omega) _ rfl, key 1 (by omega) _ rfl, key 2 (by omega) _ rfl⟩
theorem box3_keep {w w' : World} {b : Nat} {d : Vl} (hk : w'.heap[b]? = w.heap[b]?) (h : w.heap[b]? = some (.cells #[.string (txt d.name), .int .i64 d.n, .int .i64 d.at_] 83 (0, 0)) ∧ w.cell? ⟨b, 0, none⟩ = some (.string (txt d.name)) ∧ w.cell? ⟨b, 1, none⟩ = some (.int .i64 d.n) ∧ w.cell? ⟨b, 2, none⟩ = some (.int .i64 d.at_)) : w'.heap[b]? = some (.cells #[.string (txt d.name), .int .i64 d.n, .int .i64 d.at_] 83 (0, 0)) ∧ w'.cell? ⟨b, 0, none⟩ = some (.string (txt d.name)) ∧ w'.cell? ⟨b, 1, none⟩ = some (.int .i64 d.n) ∧ w'.cell? ⟨b, 2, none⟩ = some (.int .i64 d.at_) := by
  have hb := hk.trans h.1
  refine ⟨hb, ?_, ?_, ?_⟩
  all_goals (rw [heap_cell hb]; rfl)
theorem box3_below {w w' : World} {b : Nat} {d : Vl} (hb : Below w.heap.size w w') (h : w.heap[b]? = some (.cells #[.string (txt d.name), .int .i64 d.n, .int .i64 d.at_] 83 (0, 0)) ∧ w.cell? ⟨b, 0, none⟩ = some (.string (txt d.name)) ∧ w.cell? ⟨b, 1, none⟩ = some (.int .i64 d.n) ∧ w.cell? ⟨b, 2, none⟩ = some (.int .i64 d.at_)) : w'.heap[b]? = some (.cells #[.string (txt d.name), .int .i64 d.n, .int .i64 d.at_] 83 (0, 0)) ∧ w'.cell? ⟨b, 0, none⟩ = some (.string (txt d.name)) ∧ w'.cell? ⟨b, 1, none⟩ = some (.int .i64 d.n) ∧ w'.cell? ⟨b, 2, none⟩ = some (.int .i64 d.at_) := box3_keep (hb.block b (Array.getElem?_eq_some_iff.1 h.1).1) h
theorem box3_pr {B : Nat} {w w' : World} {b : Nat} {d : Vl} (hb : Pr B w w') (h : w.heap[b]? = some (.cells #[.string (txt d.name), .int .i64 d.n, .int .i64 d.at_] 83 (0, 0)) ∧ w.cell? ⟨b, 0, none⟩ = some (.string (txt d.name)) ∧ w.cell? ⟨b, 1, none⟩ = some (.int .i64 d.n) ∧ w.cell? ⟨b, 2, none⟩ = some (.int .i64 d.at_)) : w'.heap[b]? = some (.cells #[.string (txt d.name), .int .i64 d.n, .int .i64 d.at_] 83 (0, 0)) ∧ w'.cell? ⟨b, 0, none⟩ = some (.string (txt d.name)) ∧ w'.cell? ⟨b, 1, none⟩ = some (.int .i64 d.n) ∧ w'.cell? ⟨b, 2, none⟩ = some (.int .i64 d.at_) := box3_keep (hb.typed b _ _ _ h.1 (by decide)) h
theorem box3_new (w : World) (d : Vl) : (w.alloc (.cells #[.string (txt d.name), .int .i64 d.n, .int .i64 d.at_] 83)).heap[w.heap.size]? = some (.cells #[.string (txt d.name), .int .i64 d.n, .int .i64 d.at_] 83 (0, 0)) ∧ (w.alloc (.cells #[.string (txt d.name), .int .i64 d.n, .int .i64 d.at_] 83)).cell? ⟨w.heap.size, 0, none⟩ = some (.string (txt d.name)) ∧ (w.alloc (.cells #[.string (txt d.name), .int .i64 d.n, .int .i64 d.at_] 83)).cell? ⟨w.heap.size, 1, none⟩ = some (.int .i64 d.n) ∧ (w.alloc (.cells #[.string (txt d.name), .int .i64 d.n, .int .i64 d.at_] 83)).cell? ⟨w.heap.size, 2, none⟩ = some (.int .i64 d.at_) := by
  have hb := heap_alloc_new w (.cells #[.string (txt d.name), .int .i64 d.n, .int .i64 d.at_] 83)
  refine ⟨hb, ?_, ?_, ?_⟩
  all_goals (rw [heap_cell hb]; rfl)
def valsB (l : List Vl) : List UInt8 := (l.map valB).flatten
theorem valsB_take (l : List Vl) (k : Nat) (d : Vl) (h : l[k]? = some d) : valsB (l.take (k + 1)) = valsB (l.take k) ++ valB d := by
  rw [List.take_add_one, h]; simp [valsB]
theorem valsB_le (l : List Vl) (k : Nat) : (valsB (l.take k)).length ≤ (valsB l).length := by
  conv => rhs; rw [← List.take_append_drop k l]
  simp only [valsB, List.map_append, List.flatten_append, List.length_append]
  omega
structure VlOk (d : Vl) : Prop where
  lo : -9223372036854775808 ≤ d.n
  hi : d.n ≤ 9223372036854775807
def VsRel (B : Nat) (L : List UInt8) (l : List Vl) (w : World) (o i : Value) (wr : World) : Prop := ∃ k : Nat, i = .int .i64 k ∧ k ≤ l.length ∧ Out B wr o (L ++ valsB (l.take k)) ∧ Pr B w wr
theorem VsRel.mk {B : Nat} {L : List UInt8} {l : List Vl} {w wr : World} {o i : Value} (k : Nat) (h1 : i = .int .i64 k) (h2 : k ≤ l.length) (h3 : Out B wr o (L ++ valsB (l.take k))) (h4 : Pr B w wr) : VsRel B L l w o i wr := ⟨k, h1, h2, h3, h4⟩
set_option maxHeartbeats 4000000 in
theorem penum_any (B : Nat) (v vV : Value) (L : List UInt8) (e : En) (w : World) (LV : LaidB B w) (ho : Out B w v L) (hm : ERead w e vV) (hB : B ≤ w.heap.size) (hd : ∀ d ∈ e.V, VlOk d) (hl : L.length + (enumB e).length ≤ 1000000000000) (hll : e.V.length ≤ 1000000) :
    Calls Tryz.prog 59 #[v, EnV e vV] w (OutPost B (L ++ enumB e) w) := by
  obtain ⟨name, l, at_⟩ := e
  unfold ERead at hm
  simp only at hm hd hll
  have HR : Hid (enumB ⟨name, l, at_⟩ = lineB [wEnum, [32], name, [32, 123]] ++ valsB l ++ lineB [[125]]) := Lib.hid rfl
  have hln : L.length + (lineB [wEnum, [32], name, [32, 123]]).length + (valsB l).length + (lineB [[125]]).length ≤ 1000000000000 := by
    rw [HR.out] at hl
    simp only [List.length_append] at hl
    omega
  have HLN := Lib.hid hln
  have hl1 : L.length + [wEnum, [32], name, [32, 123]].flatten.length ≤ 1000000000000 := by
    unfold lineB at hln
    simp only [List.length_append] at hln ⊢
    omega
  obtain ⟨A, c, hvm, -⟩ := Sl.of_own hm
  have HX : Hid (EnV ⟨name, l, at_⟩ vV = .agg #[.string (txt name), .slice A l.length c, .int .i64 at_]) := Lib.hid (by rw [hvm]; rfl)
  rw [HX.out]
  have HB0 : Hid (Out B (w.alloc (.cells #[.string (txt name), .slice A l.length c, .int .i64 at_] 65)) v L) := Lib.hid (ho.alloc _)
  have H1 := Lib.hid (line_any B (w.heap.size + 1) 4 v L [wEnum, [32], name, [32, 123]] ((w.alloc (.cells #[.string (txt name), .slice A l.length c, .int .i64 at_] 65)).alloc (.cells (strv [wEnum, [32], name, [32, 123]]).toArray 9)) rfl (HB0.out.alloc _) (heap_second w _ _) (by simp; omega) hl1 (by simp))
  subst hvm
  have HM := Lib.hid hm
  have HD := Lib.hid hd
  have HLV := Lib.hid LV
  clear hl hln hl1 hm hd LV ho
  go_enter Tryz.func59, Tryz.ntmps59
  go_wp2_with fail
  refine H1.out.mono ?_
  rintro e w1 ⟨v1, rfl, ho1, hpr1⟩
  have HO1 := Lib.hid ho1
  have hs1 := hpr1.size
  simp at hs1
  have hb1 := (hpr1.typed w.heap.size _ _ _ (heap_first w (.cells #[.string (txt name), .slice A l.length c, .int .i64 at_] 65) (.cells (strv [wEnum, [32], name, [32, 123]]).toArray 9) rfl) (by decide)).trans (heap_first w _ _ rfl)
  have e1 := heap_cell hb1 1
  simp at e1
  have HP1 := Lib.hid ((((Pr.refl B w).alloc hB _).alloc hB _).trans hpr1)
  clear ho1 hpr1 hb1
  go_wp2
  go_loopw [0, 15] (fun o i wr => VsRel B (L ++ lineB [wEnum, [32], name, [32, 123]]) l w o i wr) (fun _ i _ => l.length - (intOf i).toNat)
  case atStart => exact ⟨0, rfl, by omega, by simpa [valsB] using HO1.out, HP1.out⟩
  case round =>
    obtain ⟨k, rfl, hk, ho, hpr⟩ := hrel
    have HO5 := Lib.hid ho
    have HPR := Lib.hid hpr
    have hsz := hpr.size
    clear ho hpr
    by_cases h1 : k < l.length
    · obtain ⟨d, hdk⟩ : ∃ d, l[k]? = some d := ⟨_, List.getElem?_eq_getElem h1⟩
      obtain ⟨g, cap, hv, hg, c0, c1, c2⟩ := vl_at (HPR.out.own HM.out (by decide)) hdk
      injection hv with hA hn hc
      subst hA hc
      obtain ⟨n1, n2⟩ := HD.out d (List.mem_of_getElem? hdk)
      have hft := valsB_take l k d hdk
      have hfl := valsB_le l (k + 1)
      rw [hft, List.length_append] at hfl
      have HFT := Lib.hid hft
      have hle : (L ++ lineB [wEnum, [32], name, [32, 123]] ++ valsB (l.take k)).length + [[32, 32], d.name, [32, 61, 32], digB d.n, [59]].flatten.length ≤ 1000000000000 := by
        have := HLN.out
        simp only [valB] at hfl
        unfold lineB at hfl this ⊢
        simp only [List.length_append] at this hfl ⊢
        omega
      have HLE := Lib.hid hle
      have H2 := Lib.hid (fun w L => digits_any d.n n1 n2 w L)
      have h0 := box3_keep (w' := (wr.alloc (.cells (VC d).toArray 83)).drew) rfl (box3_new wr d)
      simp only [VC] at h0
      have LB : Laid ((wr.alloc (.cells #[.string (txt d.name), .int .i64 d.n, .int .i64 d.at_] 83)).drew) := ((HLV.out.pr HPR.out).laid.on (below_new _ _)).on (Below.refl _ _).drew
      have HOB := Lib.hid ((HO5.out.alloc (.cells #[.string (txt d.name), .int .i64 d.n, .int .i64 d.at_] 83)).below (Below.refl _ _).drew)
      clear hft hdk hfl hn n1 n2 hle
      go_wp2_with fail
      go_region_held3 (fun w' => w'.heap[wr.heap.size]? = some (.cells #[.string (txt d.name), .int .i64 d.n, .int .i64 d.at_] 83 (0, 0)) ∧ w'.cell? ⟨wr.heap.size, 0, none⟩ = some (.string (txt d.name)) ∧ w'.cell? ⟨wr.heap.size, 1, none⟩ = some (.int .i64 d.n) ∧ w'.cell? ⟨wr.heap.size, 2, none⟩ = some (.int .i64 d.at_))
        (first | exact h0 | exact box3_below hb2 ‹_› | exact box3_below (below_new _ _) ‹_› | exact box3_pr hpr4 ‹_› | go_keep)
        ((first
          | (go_at_call 112; refine (H2.out _ LB).mono ?_; rintro e w2 ⟨rfl, hb2⟩)
          | (go_at_call 106; refine (line_any B _ 5 _ _ [[32, 32], d.name, [32, 61, 32], digB d.n, [59]] _ rfl ((HOB.out.below hb2).alloc _) (heap_alloc_new _ _) (by have h2 := hb2.size; simp at h2 ⊢; omega) HLE.out (by simp)).mono ?_; rintro e w4 ⟨v4, rfl, ho4, hpr4⟩)))
      all_goals
        have h2 := hb2.size
        simp at h2
        go_wp2
        refine ⟨VsRel.mk (k + 1) (by go_num) (by omega) ?_ ?_, by simp [intOf]; omega⟩
        · rw [HFT.out, ← List.append_assoc]
          exact ho4
        · exact (((HPR.out.alloc hB _).drew.trans (Pr.below hb2 (by simp; omega))).trans ((Pr.refl B w2).alloc (by omega) _)).trans hpr4
    · obtain rfl : k = l.length := by omega
      rw [List.take_of_length_le (Nat.le_refl _)] at HO5
      have hle : (L ++ lineB [wEnum, [32], name, [32, 123]] ++ valsB l).length + ([[125]] : List (List UInt8)).flatten.length ≤ 1000000000000 := by
        have := HLN.out
        unfold lineB at this ⊢
        simp only [List.length_append] at this ⊢
        omega
      have H2 := Lib.hid (line_any B wr.heap.size 1 _ _ [[125]] (wr.alloc (.cells (strv [[125]]).toArray 9)) rfl (HO5.out.alloc _) (heap_alloc_new _ _) (by simp; omega) hle (by simp))
      clear hle
      go_wp2_with fail
      refine H2.out.mono ?_
      rintro e w8 ⟨v8, rfl, ho8, hpr8⟩
      go_wp2
      go_ret
      refine ⟨v8, rfl, ?_, (HPR.out.alloc hB _).trans hpr8⟩
      rw [HR.out, ← List.append_assoc, ← List.append_assoc]
      exact ho8
end Go.Proofs.YtciiemomfniecaaGreatDoor
/-
  The fields of each oneof, in rows of their own: the contract.
-/
namespace Go.Proofs.YtciiemomfniecaaGreatDoor
set_option maxRecDepth 100000

open Go.RowKit

/-- A row of rows of fields. -/
structure MemAt (w : World) (B g : Nat) (us : List Value) (ms : List (List Fd)) : Prop where
  heap : w.heap[g]? = some (.cells us.toArray 47 (0, 0))
  len : us.length = ms.length
  row : ∀ (k : Nat) (u : Value) (l : List Fd), us[k]? = some u → ms[k]? = some l → w.ownsRow B 53 7 u l.length (fdv l)
  apart : ∀ (j k : Nat) (u v : Value), j ≠ k → us[j]? = some u → us[k]? = some v → u.ownBlock = none ∨ u.ownBlock ≠ v.ownBlock
theorem MemAt.kept {w w' : World} {B g : Nat} {us : List Value} {ms : List (List Fd)} (h : MemAt w B g us ms) (hk : ∀ (k : Nat) (cs : Array Value) (t : TypeId) (fr : Nat × Nat), w.heap[k]? = some (Obj.cells cs t fr) → w'.heap[k]? = w.heap[k]?) : MemAt w' B g us ms := by
  refine ⟨(hk g _ _ _ h.heap).trans h.heap, h.len, fun k u l hu hl => ?_, h.apart⟩
  rcases h.row k u l hu hl with ⟨hl, ⟨rfl, h0⟩ | ⟨g, cap, cur, rfl, h1, h2, h3⟩⟩
  · exact ⟨hl, .inl ⟨rfl, h0⟩⟩
  · exact ⟨hl, .inr ⟨g, cap, cur, rfl, h1, (hk g _ _ _ h2).trans h2, h3⟩⟩
theorem MemAt.below {w w' : World} {B g : Nat} {us : List Value} {ms : List (List Fd)} (h : MemAt w B g us ms) (hb : Below w.heap.size w w') : MemAt w' B g us ms :=
  h.kept fun k _ _ _ hk => hb.block k (Array.getElem?_eq_some_iff.1 hk).1
theorem MemAt.drew {w : World} {B g : Nat} {us : List Value} {ms : List (List Fd)} (h : MemAt w B g us ms) : MemAt w.drew B g us ms := h.kept fun _ _ _ _ _ => rfl
theorem MemAt.lt {w : World} {B g : Nat} {us : List Value} {ms : List (List Fd)} (h : MemAt w B g us ms) : g < w.heap.size := (Array.getElem?_eq_some_iff.1 h.heap).1
theorem MemAt.cell {w : World} {B g : Nat} {us : List Value} {ms : List (List Fd)} (h : MemAt w B g us ms) {k : Nat} {u : Value} (hu : us[k]? = some u) : w.cell? ⟨g, k, none⟩ = some u := by
  rw [heap_cell h.heap]; simpa using hu
/-- The field's row has been appended to; then its slice is stored. -/
theorem MemAt.add {w w' : World} {B g k : Nat} {us : List Value} {ms : List (List Fd)} {u v : Value} {l : List Fd} {d : Fd} {n : Nat} {a : Nat} (h : MemAt w B g us ms) (hu : us[k]? = some u) (hl : ms[k]? = some l) (hg : w.grownBy w' u.ownBlock)
    (hown : w'.ownsRow B 53 7 v n (fdv l ++ FC d)) (hn : n = (l ++ [d]).length) (hv : v.ownBlock = some a) (ha : u.ownBlock = some a ∨ a = w.heap.size) (hgB : g < B) : MemAt (w'.setCell ⟨g, k, none⟩ v) B g (us.set k v) (ms.set k (l ++ [d])) := by
  subst hn
  have hne : ∀ j, u.ownBlock = some j → B ≤ j := fun j hj => ((h.row k u l hu hl).lt j hj).1
  have hb : w'.heap[g]? = _ := (hg.block g h.lt (fun e => by have := hne g e.symm; omega)).trans h.heap
  have hkl : k < us.length := (List.getElem?_eq_some_iff.1 hu).1
  have hkm : k < ms.length := (List.getElem?_eq_some_iff.1 hl).1
  have hlast : ∀ (j : Nat) (x : Value), j ≠ k → us[j]? = some x → x.ownBlock = none ∨ x.ownBlock ≠ v.ownBlock := by
    intro j x hj hx
    rcases h.apart j k x u hj hx hu with h1 | h1
    · exact .inl h1
    · rcases ha with h2 | h2
      · right; rw [hv, ← h2]; exact h1
      · have hlj : ∃ lj, ms[j]? = some lj := by
          have : j < us.length := (List.getElem?_eq_some_iff.1 hx).1
          exact ⟨_, List.getElem?_eq_getElem (by rw [← h.len]; exact this)⟩
        obtain ⟨lj, hlj⟩ := hlj
        cases hxb : x.ownBlock with
        | none => exact .inl rfl
        | some q =>
          right
          rw [hv]
          have := ((h.row j x lj hx hlj).lt q hxb).2
          intro e
          injection e with e
          omega
  refine ⟨?_, by simp [h.len], fun j x lj hx hlj => ?_, fun i j x y hij hx hy => ?_⟩
  · have := heap_setCell_same hb (j := k) v
    simpa using this
  · rw [List.getElem?_set] at hx hlj
    by_cases hjk : k = j
    · subst hjk
      rw [if_pos rfl, if_pos hkl] at hx
      rw [if_pos rfl, if_pos hkm] at hlj
      obtain rfl := Option.some.inj hx
      obtain rfl := Option.some.inj hlj
      have := own_set hown (a := ⟨g, k, none⟩) hgB v
      rw [fdv_append, fdv_one]
      exact this
    · rw [if_neg hjk] at hx hlj
      have hr := h.row j x lj hx hlj
      refine own_set (hr.kept hg ?_) hgB v
      exact h.apart j k x u (fun e => hjk e.symm) hx hu
  · rw [List.getElem?_set] at hx hy
    by_cases hik : k = i
    · subst hik
      rw [if_pos rfl, if_pos hkl] at hx
      rw [if_neg (by omega)] at hy
      obtain rfl := Option.some.inj hx
      rcases hlast j y (by omega) hy with h1 | h1
      · right; rw [h1, hv]; simp
      · right; exact fun e => h1 e.symm
    · rw [if_neg hik] at hx
      by_cases hjk : k = j
      · subst hjk
        rw [if_pos rfl, if_pos hkl] at hy
        obtain rfl := Option.some.inj hy
        exact hlast i x (by omega) hx
      · rw [if_neg hjk] at hy
        exact h.apart i j x y hij hx hy
theorem infoSl : (Tryz.prog.info? 47).map (fun i => (i.zero, i.size, i.bytes)) = some (some (.slice none 0 0), 1, 24) := by kernel_rfl
theorem made_nil (n : Nat) : madeCells (Value.slice none 0 0).cells n = (List.replicate n (Value.slice none 0 0)).toArray := by
  apply Array.ext
  · simp [madeCells]
  · intro i h1 h2
    simp only [madeCells, Array.getElem_map, Array.getElem_range]
    simp [Value.cells, Nat.mod_one]
theorem make_mem (n : Nat) (hn : n ≤ 1000000) (w : World) : (Instr.makeSlice 168 (.int .i64 n) (.int .i64 n)).run Tryz.prog w = .ok (.slice (some ⟨w.heap.size, 0, none⟩) n n) (w.alloc (.cells (List.replicate n (Value.slice none 0 0)).toArray 47)) := by
  obtain ⟨i0, hi, hz0, hz1, hz2⟩ := info_parts infoSl
  have h := run_make (P := Tryz.prog) w 168 47 i0 _ Tryz.underlying168 hi hz0 .i64 .i64 n n (by omega) (by omega) (by rw [hz2]; omega) (by omega)
  rw [hz1] at h
  simp only [Int.toNat_natCast, Nat.mul_one, made_nil] at h
  exact h
theorem MemAt.made (w : World) (B n : Nat) : MemAt (w.alloc (.cells (List.replicate n (Value.slice none 0 0)).toArray 47)) B w.heap.size (List.replicate n (Value.slice none 0 0)) (List.replicate n []) := by
  refine ⟨heap_alloc_new _ _, by simp, fun k u l hu hl => ?_, fun j k u v _ hu _ => ?_⟩
  · rw [List.getElem?_replicate] at hu hl
    split at hu
    · rw [if_pos ‹_›] at hl
      cases hu
      cases hl
      exact World.ownsRow_nil _ _ _ _
    · cases hu
  · rw [List.getElem?_replicate] at hu
    split at hu
    · cases hu; exact .inl rfl
    · cases hu

def MmRel (B g : Nat) (n : Nat) (l : List Fd) (w : World) (i : Value) (wr : World) : Prop := ∃ (k : Nat) (us : List Value), i = .int .i64 k ∧ k ≤ l.length ∧ MemAt wr B g us (memsB n (l.take k)) ∧ Below w.heap.size w wr
theorem MmRel.mk {B g n : Nat} {l : List Fd} {w wr : World} {i : Value} (k : Nat) (us : List Value) (h1 : i = .int .i64 k) (h2 : k ≤ l.length) (h3 : MemAt wr B g us (memsB n (l.take k))) (h4 : Below w.heap.size w wr) : MmRel B g n l w i wr := ⟨k, us, h1, h2, h3, h4⟩
def MmPost (ms : List (List Fd)) (w : World) (e : Ending) (w' : World) : Prop := ∃ (g : Nat) (us : List Value), e = .returned (.slice (some ⟨g, 0, none⟩) ms.length ms.length) ∧ w.heap.size ≤ g ∧ MemAt w' 0 g us ms ∧ Below w.heap.size w w'
theorem MemAt.zero {w : World} {B g : Nat} {us : List Value} {ms : List (List Fd)} (h : MemAt w B g us ms) : MemAt w 0 g us ms := ⟨h.heap, h.len, fun k u l hu hl => own_mono (h.row k u l hu hl) (Nat.zero_le _), h.apart⟩
set_option maxHeartbeats 4000000 in
theorem pmem_any (m : Ms) (vF vO vR : Value) (w : World) (hm : MRead w m vF vO vR) (hf : m.F.length ≤ 100000) (hn : m.ones.length ≤ 100000) :
    Calls Tryz.prog 107 #[MsV m vF vO vR] w (MmPost (memsB m.ones.length m.F) w) := by
  obtain ⟨i0, hi, hz0, hz1, hz2⟩ := info_parts infoFds
  obtain ⟨name, l, ones, res, at_⟩ := m
  obtain ⟨A1, q1, h1, -⟩ := Sl.of_own hm.f
  obtain ⟨A2, q2, h2, -⟩ := Sl.of_own hm.o
  obtain ⟨A3, q3, h3, -⟩ := Sl.of_own hm.r
  simp only at h1 h2 h3 hf hn
  have HX : Hid (MsV ⟨name, l, ones, res, at_⟩ vF vO vR = .agg #[.string (txt name), .slice A1 l.length q1, .slice A2 ones.length q2, .slice A3 res.length q3, .int .i64 at_]) := Lib.hid (by rw [h1, h2, h3]; rfl)
  rw [HX.out]
  have hF := hm.f
  simp only at hF
  rw [h1] at hF
  have HF := Lib.hid hF
  have hmk := make_mem ones.length (by omega)
  clear hm hF h1 h2 h3
  go_enter Tryz.func107, Tryz.ntmps107
  go_wp2
  go_loopw [13] (fun i wr => MmRel (w.heap.size + 2) (w.heap.size + 1) ones.length l (w.alloc (.cells #[.string (txt name), .slice A1 l.length q1, .slice A2 ones.length q2, .slice A3 res.length q3, .int .i64 at_] 51)) i wr) (fun i _ => l.length - (intOf i).toNat)
  case atStart => exact MmRel.mk 0 _ rfl (by omega) (by have := MemAt.made (w.alloc (.cells #[.string (txt name), .slice A1 l.length q1, .slice A2 ones.length q2, .slice A3 res.length q3, .int .i64 at_] 51)) (w.heap.size + 2) ones.length; simpa [memsB] using this) (below_new _ _)
  case round =>
    obtain ⟨k, us, rfl, hk, hma, hb⟩ := hrel
    have HMA := Lib.hid hma
    have HB := Lib.hid hb
    have hsz := hb.size
    simp at hsz
    have hbox := (hb.block w.heap.size (by simp)).trans (heap_alloc_new w _)
    have m0 := heap_cell hbox 0
    have m1 := heap_cell hbox 1
    have m2 := heap_cell hbox 2
    have m3 := heap_cell hbox 3
    have m4 := heap_cell hbox 4
    simp at m0 m1 m2 m3 m4
    have hszl : w.heap.size < wr.heap.size := by omega
    clear hma hb hbox
    by_cases h1 : k < l.length
    · obtain ⟨d, hdk⟩ : ∃ d, l[k]? = some d := ⟨_, List.getElem?_eq_getElem h1⟩
      obtain ⟨g, cap, hv, hg, c0, c1, c2, c3, c4, c5, c6⟩ := fd_at (own_below HF.out ((below_new w _).trans (HB.out.mono (by simp)))) hdk
      injection hv with hA hn hc
      subst hA hc
      have HT := Lib.hid (memsB_take ones.length l k d hdk)
      have hI := inOne_any (txt name) (some ⟨g, 0, none⟩) A2 A3 l.length ones.length res.length q1 q2 q3 at_ d (wr.alloc (.cells #[.string (txt d.type), .string (txt d.key), .bool d.rep, .int .i64 d.one, .string (txt d.name), .int .i64 d.no, .int .i64 d.at_] 53))
      have HXD : Hid (FdV d = .agg #[.string (txt d.type), .string (txt d.key), .bool d.rep, .int .i64 d.one, .string (txt d.name), .int .i64 d.no, .int .i64 d.at_]) := Lib.hid rfl
      rw [HXD.out] at hI
      have HI := Lib.hid hI
      clear hdk hn hI
      go_wp2_with fail
      refine HI.out.mono ?_
      cases hin : inOne ones.length d
      · have HN : Hid (memStep ones.length (memsB ones.length (l.take k)) d = memsB ones.length (l.take k)) := Lib.hid (by simp [memStep, hin])
        clear hin
        rintro e w6 ⟨rfl, hb6⟩
        go_wp2
        refine ⟨MmRel.mk (k + 1) us (by go_num) (by omega) ?_ (HB.out.trans ((below_lit (Below.refl _ _) _ |>.trans (hb6.mono (by simp))).mono (by simp; omega))), by simp [intOf]; omega⟩
        rw [HT.out, HN.out]
        exact (HMA.out.below (below_new wr _)).below hb6
      · obtain ⟨j, hj⟩ : ∃ j : Nat, d.one = (j : Int) + 1 := ⟨d.one.toNat - 1, by simp only [inOne, Bool.and_eq_true, decide_eq_true_eq] at hin; omega⟩
        have hoj : oneAt d = j := by unfold oneAt; omega
        have hjn : j < ones.length := by simp only [inOne, Bool.and_eq_true, decide_eq_true_eq] at hin; omega
        have hml := memsB_length ones.length (l.take k)
        have hju : j < us.length := by rw [HMA.out.len, hml]; exact hjn
        obtain ⟨u, hu⟩ : ∃ u, us[j]? = some u := ⟨_, List.getElem?_eq_getElem hju⟩
        obtain ⟨lj, hlj⟩ : ∃ lj, (memsB ones.length (l.take k))[j]? = some lj := ⟨_, List.getElem?_eq_getElem (by rw [hml]; exact hjn)⟩
        have hfew : lj.length ≤ 100000 := by
          have h := memsB_few ones.length (l.take k) j
          rw [List.getD_eq_getElem?_getD, hlj, Option.getD_some, List.length_take] at h
          omega
        have HN : Hid (memStep ones.length (memsB ones.length (l.take k)) d = (memsB ones.length (l.take k)).set j (lj ++ [d])) := Lib.hid (by simp [memStep, hin, hoj, hlj])
        have ew : IntKind.i64.wrap ((d.one : Int) - 1) = (j : Int) := by rw [IntKind.wrap_i64]; omega
        have ei1 : (0 : Int) ≤ (j : Int) := by omega
        have ei2 : (j : Int) < (ones.length : Int) := by omega
        have HU := Lib.hid hu
        have HLJ := Lib.hid hlj
        clear hin hj hoj hml hju hu hlj
        rintro e w6 ⟨rfl, hb6⟩
        have hma6 := (HMA.out.below (below_new wr _)).below hb6
        have hbf := (hb6.block wr.heap.size (by simp)).trans (heap_alloc_new wr _)
        have f0 := heap_cell hbf 0
        have f1 := heap_cell hbf 1
        have f2 := heap_cell hbf 2
        have f3 := heap_cell hbf 3
        have f4 := heap_cell hbf 4
        have f5 := heap_cell hbf 5
        have f6 := heap_cell hbf 6
        simp at f0 f1 f2 f3 f4 f5 f6
        have HBF6 := Lib.hid hbf
        have cu := hma6.cell HU.out
        have hs6 := hb6.size
        simp at hs6
        have hs7 : wr.heap.size < w6.heap.size := by omega
        have hs8 : w.heap.size + 1 < w6.heap.size := by have := HMA.out.lt; omega
        have HM6 := Lib.hid (hma6.below (below_new w6 (.cells #[.string (txt d.type), .string (txt d.key), .bool d.rep, .int .i64 d.one, .string (txt d.name), .int .i64 d.no, .int .i64 d.at_] 53)))
        have HB6 := Lib.hid (HB.out.trans ((below_lit (Below.refl _ _) _ |>.trans (hb6.mono (by simp))).mono (by simp; omega)))
        have HBF := Lib.hid ((Below.heap_alloc w6 (.cells #[.string (txt d.type), .string (txt d.key), .bool d.rep, .int .i64 d.one, .string (txt d.name), .int .i64 d.no, .int .i64 d.at_] 53) wr.heap.size (by omega)).trans hbf)
        clear hma6 hbf hb6 c0 c1 c2 c3 c4 c5 c6 m0 m1 m2 m3 m4
        have hS0 : w6.drew.heap[wr.heap.size]? = some (.cells #[.string (txt d.type), .string (txt d.key), .bool d.rep, .int .i64 d.one, .string (txt d.name), .int .i64 d.no, .int .i64 d.at_] 53 (0, 0)) ∧ w6.drew.cell? ⟨wr.heap.size, 0, none⟩ = some (.string (txt d.type)) ∧ w6.drew.cell? ⟨wr.heap.size, 1, none⟩ = some (.string (txt d.key)) ∧ w6.drew.cell? ⟨wr.heap.size, 2, none⟩ = some (.bool d.rep) ∧ w6.drew.cell? ⟨wr.heap.size, 3, none⟩ = some (.int .i64 d.one) ∧ w6.drew.cell? ⟨wr.heap.size, 4, none⟩ = some (.string (txt d.name)) ∧ w6.drew.cell? ⟨wr.heap.size, 5, none⟩ = some (.int .i64 d.no) ∧ w6.drew.cell? ⟨wr.heap.size, 6, none⟩ = some (.int .i64 d.at_) := box7_keep (w := w6) rfl ⟨HBF6.out, f0, f1, f2, f3, f4, f5, f6⟩
        go_wp2_with fail
        refine wp_region_noPanic ?_
        refine wp_region_held_drew (S := fun w' => w'.heap[wr.heap.size]? = some (.cells #[.string (txt d.type), .string (txt d.key), .bool d.rep, .int .i64 d.one, .string (txt d.name), .int .i64 d.no, .int .i64 d.at_] 53 (0, 0)) ∧ w'.cell? ⟨wr.heap.size, 0, none⟩ = some (.string (txt d.type)) ∧ w'.cell? ⟨wr.heap.size, 1, none⟩ = some (.string (txt d.key)) ∧ w'.cell? ⟨wr.heap.size, 2, none⟩ = some (.bool d.rep) ∧ w'.cell? ⟨wr.heap.size, 3, none⟩ = some (.int .i64 d.one) ∧ w'.cell? ⟨wr.heap.size, 4, none⟩ = some (.string (txt d.name)) ∧ w'.cell? ⟨wr.heap.size, 5, none⟩ = some (.int .i64 d.no) ∧ w'.cell? ⟨wr.heap.size, 6, none⟩ = some (.int .i64 d.at_)) (by kernel_rfl) hS0 (fun hHeld => ?_)
        refine wpAnyH_take (i := 0) (v := ?_) rfl (by kernel_rfl) (by kernel_rfl) (by kernel_rfl) (fun _ _ _ h => h) (Or.inl ⟨by rfl, ?_⟩) (by assumption) ?_
        rotate_left
        · intro w hSw; (try dsimp only at hSw); go_simp; with_reducible rfl
        try simp only [Act.put, List.setIfInBounds_toArray, List.set_cons_zero, List.set_cons_succ]
        refine wpAnyH_take (i := 1) (v := ?_) rfl (by kernel_rfl) (by kernel_rfl) (by kernel_rfl) (fun _ _ _ h => h) (Or.inl ⟨by rfl, ?_⟩) (by assumption) ?_
        rotate_left
        · intro w hSw; (try dsimp only at hSw); go_simp; with_reducible rfl
        try simp only [Act.put, List.setIfInBounds_toArray, List.set_cons_zero, List.set_cons_succ]
        refine wpAnyH_take (i := 2) (v := ?_) rfl (by kernel_rfl) (by kernel_rfl) (by kernel_rfl) (fun _ _ _ h => h) (Or.inl ⟨by rfl, ?_⟩) (by assumption) ?_
        rotate_left
        · intro w hSw; (try dsimp only at hSw); go_simp; with_reducible rfl
        try simp only [Act.put, List.setIfInBounds_toArray, List.set_cons_zero, List.set_cons_succ]
        refine wpAnyH_take (i := 3) (v := ?_) rfl (by kernel_rfl) (by kernel_rfl) (by kernel_rfl) (fun _ _ _ h => h) (Or.inl ⟨by rfl, ?_⟩) (by assumption) ?_
        rotate_left
        · intro w hSw; (try dsimp only at hSw); go_simp; with_reducible rfl
        try simp only [Act.put, List.setIfInBounds_toArray, List.set_cons_zero, List.set_cons_succ]
        refine wpAnyH_take (i := 4) (v := ?_) rfl (by kernel_rfl) (by kernel_rfl) (by kernel_rfl) (fun _ _ _ h => h) (Or.inl ⟨by rfl, ?_⟩) (by assumption) ?_
        rotate_left
        · intro w hSw; (try dsimp only at hSw); go_simp; with_reducible rfl
        try simp only [Act.put, List.setIfInBounds_toArray, List.set_cons_zero, List.set_cons_succ]
        refine wpAnyH_take (i := 5) (v := ?_) rfl (by kernel_rfl) (by kernel_rfl) (by kernel_rfl) (fun _ _ _ h => h) (Or.inl ⟨by rfl, ?_⟩) (by assumption) ?_
        rotate_left
        · intro w hSw; (try dsimp only at hSw); go_simp; with_reducible rfl
        try simp only [Act.put, List.setIfInBounds_toArray, List.set_cons_zero, List.set_cons_succ]
        refine wpAnyH_take (i := 6) (v := ?_) rfl (by kernel_rfl) (by kernel_rfl) (by kernel_rfl) (fun _ _ _ h => h) (Or.inl ⟨by rfl, ?_⟩) (by assumption) ?_
        rotate_left
        · intro w hSw; (try dsimp only at hSw); go_simp; with_reducible rfl
        try simp only [Act.put, List.setIfInBounds_toArray, List.set_cons_zero, List.set_cons_succ]
        refine wpAnyH_take (i := 7) (v := ?_) rfl (by kernel_rfl) (by kernel_rfl) (by kernel_rfl) (fun _ _ _ h => h) (Or.inl ⟨by rfl, ?_⟩) (by assumption) ?_
        rotate_left
        · intro w hSw; (try dsimp only at hSw); go_simp; with_reducible rfl
        try simp only [Act.put, List.setIfInBounds_toArray, List.set_cons_zero, List.set_cons_succ]
        refine wpAnyH_take (i := 8) (v := ?_) rfl (by kernel_rfl) (by kernel_rfl) (by kernel_rfl) (fun _ _ _ h => h) (Or.inl ⟨by rfl, ?_⟩) (by assumption) ?_
        rotate_left
        · intro w hSw; (try dsimp only at hSw); go_simp; with_reducible rfl
        try simp only [Act.put, List.setIfInBounds_toArray, List.set_cons_zero, List.set_cons_succ]
        refine wpAnyH_take (i := 10) (v := ?_) rfl (by kernel_rfl) (by kernel_rfl) (by kernel_rfl) (fun _ _ _ h => h) (Or.inl ⟨by rfl, ?_⟩) (by assumption) ?_
        rotate_left
        · intro w hSw; (try dsimp only at hSw); go_simp; with_reducible rfl
        try simp only [Act.put, List.setIfInBounds_toArray, List.set_cons_zero, List.set_cons_succ]
        have hS1 := box7_keep (w' := ((w6.alloc (.cells #[.string (txt d.type), .string (txt d.key), .bool d.rep, .int .i64 d.one, .string (txt d.name), .int .i64 d.no, .int .i64 d.at_] 53)).drew)) (Below.heap_alloc w6 _ _ hs7) hS0
        have hne8 : wr.heap.size ≠ w.heap.size + 1 := by have := HMA.out.lt; omega
        refine wpAnyH_ready (rs := [9, 11]) (by kernel_rfl) (by simp) ?_
        refine AllReadyH.cons (o := _) rfl (fun K hK => ?_) (AllReadyH.cons (o := _) rfl (fun K hK => ?_) AllReadyH.nil)
        · go_simp
          refine hK.out _ _ hS0 (fun _ => ?_)
          clear hK K
          try simp only [Act.put, List.setIfInBounds_toArray, List.set_cons_zero, List.set_cons_succ]
          refine wpAnyH_ready (rs := [11]) (by kernel_rfl) (by simp) ?_
          refine AllReadyH.cons (o := _) rfl (fun K hK => ?_) AllReadyH.nil
          go_simp
          refine hK.out _ _ hS1 (fun _ => ?_)
          clear hK K
          try simp only [Act.put, List.setIfInBounds_toArray, List.set_cons_zero, List.set_cons_succ]
          refine wpAnyH_ready (rs := [12]) (by kernel_rfl) (by simp) ?_
          refine AllReadyH.cons (o := _) rfl (fun K hK => ?_) AllReadyH.nil
          refine step_append_lies _ rfl _ _ 47 rfl (w.heap.size + 2) 53 i0 _ 7 80 Tryz.underlying47 hi hz0 hz1 hz2 rfl (by decide) u lj.length (fdv lj) (by simp [Act.eval, Act.put]) (HM6.out.row j u lj HU.out HLJ.out) ⟨w6.heap.size, 0, none⟩ 1 1 (FC d) (by simp [Act.eval, Act.put]) rfl (World.news_of_block (heap_alloc_new _ _)) (by intro u hu; exact fdv_cells [d] u (by rw [fdv_one]; exact hu)) (by decide) (by unfold maxLen; omega) (by omega) (by simp; omega) (w6.heap.size + 1) (by simp) ?_
          intro g8 cap8 w8 hown8 hg8 hat8 hlt8
          have hS8 := box7_keep (hg8.block wr.heap.size (by simp; omega) (fun e => by have := ((HMA.out.row j u lj HU.out HLJ.out).lt _ e.symm).2; omega)) hS1
          refine hK.out _ _ hS8 (fun _ => ?_)
          clear hK K
          try simp only [Act.put, List.setIfInBounds_toArray, List.set_cons_zero, List.set_cons_succ]
          have hb8 := (hg8.block (w.heap.size + 1) HM6.out.lt (fun e => by have := ((HM6.out.row j u lj HU.out HLJ.out).lt _ e.symm).1; omega)).trans HM6.out.heap
          have c8 := heap_cell hb8 j
          have f8 := heap_free hb8 j
          rw [show (us.toArray)[j]? = some u from by simpa using HU.out] at c8
          have HB8 := Lib.hid hb8
          clear hb8
          refine wpAnyH_take (i := 13) (v := ?_) rfl (by kernel_rfl) (by kernel_rfl) (by kernel_rfl) (fun _ _ _ h => h) (Or.inl ⟨by rfl, ?_⟩) (by assumption) ?_
          rotate_left
          · intro w hSw; (try dsimp only at hSw); go_simp; with_reducible rfl
          try simp only [Act.put, List.setIfInBounds_toArray, List.set_cons_zero, List.set_cons_succ]
          refine wpAnyH_ready (rs := [14]) (by kernel_rfl) (by simp) ?_
          refine AllReadyH.cons (o := _) rfl (fun K hK => ?_) AllReadyH.nil
          go_simp
          refine hK.out _ _ (box7_keep (Below.heap_setCell w8 ⟨w.heap.size + 1, j, none⟩ (.slice (some ⟨g8, 0, none⟩) (lj.length + 1) cap8) wr.heap.size (by simp; omega)) hS8) (fun _ => ?_)
          clear hK K
          try simp only [Act.put, List.setIfInBounds_toArray, List.set_cons_zero, List.set_cons_succ]
          refine wpAnyH_done (by kernel_rfl) ?_ _
          refine NoPanic.normal ?_
          go_wp2
          refine ⟨MmRel.mk (k + 1) (us.set j (.slice (some ⟨g8, 0, none⟩) (lj.length + 1) cap8)) (by go_num) (by omega) ?_ (((HB6.out.alloc (by simp; omega) _).drew.grown hg8 (by simp; omega) (fun q hq => by have := ((HM6.out.row j u lj HU.out HLJ.out).lt q hq).1; simp; omega)).setCell (by simp) _), by simp [intOf]; omega⟩
          rw [HT.out, HN.out]
          exact HM6.out.drew.add HU.out HLJ.out hg8 hown8 (by simp) rfl (by simpa using hat8) (by omega)
        · go_simp
          refine hK.out _ _ hS1 (fun _ => ?_)
          clear hK K
          try simp only [Act.put, List.setIfInBounds_toArray, List.set_cons_zero, List.set_cons_succ]
          refine wpAnyH_ready (rs := [9]) (by kernel_rfl) (by simp) ?_
          refine AllReadyH.cons (o := _) rfl (fun K hK => ?_) AllReadyH.nil
          go_simp
          refine hK.out _ _ hS1 (fun _ => ?_)
          clear hK K
          try simp only [Act.put, List.setIfInBounds_toArray, List.set_cons_zero, List.set_cons_succ]
          refine wpAnyH_ready (rs := [12]) (by kernel_rfl) (by simp) ?_
          refine AllReadyH.cons (o := _) rfl (fun K hK => ?_) AllReadyH.nil
          refine step_append_lies _ rfl _ _ 47 rfl (w.heap.size + 2) 53 i0 _ 7 80 Tryz.underlying47 hi hz0 hz1 hz2 rfl (by decide) u lj.length (fdv lj) (by simp [Act.eval, Act.put]) (HM6.out.row j u lj HU.out HLJ.out) ⟨w6.heap.size, 0, none⟩ 1 1 (FC d) (by simp [Act.eval, Act.put]) rfl (World.news_of_block (heap_alloc_new _ _)) (by intro u hu; exact fdv_cells [d] u (by rw [fdv_one]; exact hu)) (by decide) (by unfold maxLen; omega) (by omega) (by simp; omega) (w6.heap.size + 1) (by simp) ?_
          intro g8 cap8 w8 hown8 hg8 hat8 hlt8
          have hS8 := box7_keep (hg8.block wr.heap.size (by simp; omega) (fun e => by have := ((HMA.out.row j u lj HU.out HLJ.out).lt _ e.symm).2; omega)) hS1
          refine hK.out _ _ hS8 (fun _ => ?_)
          clear hK K
          try simp only [Act.put, List.setIfInBounds_toArray, List.set_cons_zero, List.set_cons_succ]
          have hb8 := (hg8.block (w.heap.size + 1) HM6.out.lt (fun e => by have := ((HM6.out.row j u lj HU.out HLJ.out).lt _ e.symm).1; omega)).trans HM6.out.heap
          have c8 := heap_cell hb8 j
          have f8 := heap_free hb8 j
          rw [show (us.toArray)[j]? = some u from by simpa using HU.out] at c8
          have HB8 := Lib.hid hb8
          clear hb8
          refine wpAnyH_take (i := 13) (v := ?_) rfl (by kernel_rfl) (by kernel_rfl) (by kernel_rfl) (fun _ _ _ h => h) (Or.inl ⟨by rfl, ?_⟩) (by assumption) ?_
          rotate_left
          · intro w hSw; (try dsimp only at hSw); go_simp; with_reducible rfl
          try simp only [Act.put, List.setIfInBounds_toArray, List.set_cons_zero, List.set_cons_succ]
          refine wpAnyH_ready (rs := [14]) (by kernel_rfl) (by simp) ?_
          refine AllReadyH.cons (o := _) rfl (fun K hK => ?_) AllReadyH.nil
          go_simp
          refine hK.out _ _ (box7_keep (Below.heap_setCell w8 ⟨w.heap.size + 1, j, none⟩ (.slice (some ⟨g8, 0, none⟩) (lj.length + 1) cap8) wr.heap.size (by simp; omega)) hS8) (fun _ => ?_)
          clear hK K
          try simp only [Act.put, List.setIfInBounds_toArray, List.set_cons_zero, List.set_cons_succ]
          refine wpAnyH_done (by kernel_rfl) ?_ _
          refine NoPanic.normal ?_
          go_wp2
          refine ⟨MmRel.mk (k + 1) (us.set j (.slice (some ⟨g8, 0, none⟩) (lj.length + 1) cap8)) (by go_num) (by omega) ?_ (((HB6.out.alloc (by simp; omega) _).drew.grown hg8 (by simp; omega) (fun q hq => by have := ((HM6.out.row j u lj HU.out HLJ.out).lt q hq).1; simp; omega)).setCell (by simp) _), by simp [intOf]; omega⟩
          rw [HT.out, HN.out]
          exact HM6.out.drew.add HU.out HLJ.out hg8 hown8 (by simp) rfl (by simpa using hat8) (by omega)
    · obtain rfl : k = l.length := by omega
      rw [List.take_of_length_le (Nat.le_refl _)] at HMA
      go_wp2
      go_ret
      exact ⟨w.heap.size + 1, us, by rw [memsB_length]; rfl, by omega, HMA.out.zero, (below_new w _).trans (HB.out.mono (by simp))⟩
end Go.Proofs.YtciiemomfniecaaGreatDoor
/-
  A message is printed: the contract.
-/
namespace Go.Proofs.YtciiemomfniecaaGreatDoor
set_option maxRecDepth 100000

open Go.RowKit

theorem MemAt.pr {B B' : Nat} {w w' : World} {g : Nat} {us : List Value} {ms : List (List Fd)} (h : MemAt w B' g us ms) (hp : Pr B w w') : MemAt w' B' g us ms :=
  ⟨(hp.typed g _ _ _ h.heap (by decide)).trans h.heap, h.len, fun k u l hu hl => hp.own (h.row k u l hu hl) (by decide), h.apart⟩
theorem MemAt.clear {w : World} {B g j : Nat} {us : List Value} {ms : List (List Fd)} (h : MemAt w B g us ms) (hj : j < ms.length) : MemAt (w.setCell ⟨g, j, none⟩ (.slice none 0 0)) B g (us.set j (.slice none 0 0)) (ms.set j []) := by
  have hju : j < us.length := by rw [h.len]; exact hj
  have hl : ∀ k u l, us[k]? = some u → ms[k]? = some l → (w.setCell ⟨g, j, none⟩ (.slice none 0 0)).ownsRow B 53 7 u l.length (fdv l) := fun k u l hu hl => own_other (h.row k u l hu hl) (grown_set w g j _) h.heap (by decide)
  refine ⟨?_, by simp [h.len], fun k u l hu hm => ?_, fun i k u v hik hu hv => ?_⟩
  · have := heap_setCell_same h.heap (j := j) (.slice none 0 0)
    simpa using this
  · rw [List.getElem?_set] at hu hm
    by_cases hjk : j = k
    · subst hjk
      rw [if_pos rfl, if_pos hju] at hu
      rw [if_pos rfl, if_pos hj] at hm
      cases hu; cases hm
      exact World.ownsRow_nil _ _ _ _
    · rw [if_neg hjk] at hu hm
      exact hl k u l hu hm
  · rw [List.getElem?_set] at hu hv
    by_cases h1 : j = i
    · subst h1
      rw [if_pos rfl, if_pos hju] at hu
      cases hu; exact .inl rfl
    · rw [if_neg h1] at hu
      by_cases h2 : j = k
      · subst h2
        rw [if_pos rfl, if_pos hju] at hv
        cases hv
        cases hb : u.ownBlock with
        | none => exact .inl rfl
        | some q => right; simp [Value.ownBlock]
      · rw [if_neg h2] at hv
        exact h.apart i k u v hik hu hv
theorem foldl_mem (n : Nat) : ∀ (l : List Fd) (ms : List (List Fd)) (P : Fd → Prop), (∀ d ∈ l, P d) → (∀ (j : Nat) (x : List Fd), ms[j]? = some x → ∀ d ∈ x, P d) → ∀ (j : Nat) (x : List Fd), (l.foldl (memStep n) ms)[j]? = some x → ∀ d ∈ x, P d
  | [], ms, P, _, h2, j, x, hx, d, hd => h2 j x hx d hd
  | e :: l, ms, P, h1, h2, j, x, hx, d, hd => by
    rw [List.foldl_cons] at hx
    refine foldl_mem n l _ P (fun d hd => h1 d (by simp [hd])) (fun j x hx d hd => ?_) j x hx d hd
    unfold memStep at hx
    split at hx
    · rw [List.getElem?_set] at hx
      split at hx
      · rename_i h3
        subst h3
        split at hx
        · injection hx with hx
          subst hx
          rcases List.mem_append.1 hd with h4 | h4
          · rw [List.getD_eq_getElem?_getD] at h4
            cases h5 : ms[oneAt e]? with
            | none => rw [h5] at h4; simp at h4
            | some y => rw [h5] at h4; exact h2 _ y h5 d h4
          · rw [List.mem_singleton.1 h4]; exact h1 e (by simp)
        · cases hx
      · exact h2 j x hx d hd
    · exact h2 j x hx d hd
theorem memsB_mem (n : Nat) (l : List Fd) (P : Fd → Prop) (h : ∀ d ∈ l, P d) (j : Nat) (x : List Fd) (hx : (memsB n l)[j]? = some x) : ∀ d ∈ x, P d :=
  foldl_mem n l _ P h (fun j x hx d hd => by rw [List.getElem?_replicate] at hx; split at hx <;> cases hx; cases hd) j x hx
theorem strrow_at {w : World} {b : Nat} {v : Value} {l : List (List UInt8)} (h : w.ownsRow b 9 1 v l.length (strv l)) {k : Nat} {x : List UInt8} (hk : l[k]? = some x) :
    ∃ g cap, v = .slice (some ⟨g, 0, none⟩) l.length cap ∧ g < w.heap.size ∧ w.cell? ⟨g, k, none⟩ = some (.string (txt x)) := by
  have hlt : k < l.length := (List.getElem?_eq_some_iff.1 hk).1
  rcases h.2 with ⟨_, h0⟩ | ⟨g, cap, cur, rfl, _, hh, _⟩
  · omega
  · have := h.cells (g := g) rfl k (.string (txt x)) (by simp [strv, hk])
    exact ⟨g, cap, rfl, (Array.getElem?_eq_some_iff.1 hh).1, by simpa [Addr.add_lit] using this⟩
structure MsOk (m : Ms) : Prop where
  f : ∀ d ∈ m.F, FdOk d
  r : ∀ n ∈ m.res, -9223372036854775808 ≤ n ∧ n ≤ 9223372036854775807
  lf : m.F.length ≤ 100000
  lo : m.ones.length ≤ 100000
  lr : m.res.length ≤ 100000
def PmRel (B gM : Nat) (L : List UInt8) (ones : List (List UInt8)) (l : List Fd) (w : World) (o i : Value) (wr : World) : Prop :=
  ∃ (k : Nat) (us : List Value) (ms : List (List Fd)) (X : List UInt8), i = .int .i64 k ∧ k ≤ l.length ∧ Out B wr o (L ++ X) ∧ itemsB ones (memsB ones.length l) l = X ++ itemsB ones ms (l.drop k) ∧ MemAt wr 0 gM us ms ∧ ms.length = ones.length ∧
    (∀ (j : Nat) (x : List Fd), ms[j]? = some x → (∀ d ∈ x, FdOk d) ∧ x.length ≤ l.length) ∧ Pr B w wr
theorem PmRel.mk {B gM : Nat} {L : List UInt8} {ones : List (List UInt8)} {l : List Fd} {w wr : World} {o i : Value} (k : Nat) (us : List Value) (ms : List (List Fd)) (X : List UInt8) (h1 : i = .int .i64 k) (h2 : k ≤ l.length) (h3 : Out B wr o (L ++ X))
    (h4 : itemsB ones (memsB ones.length l) l = X ++ itemsB ones ms (l.drop k)) (h5 : MemAt wr 0 gM us ms) (h6 : ms.length = ones.length) (h7 : ∀ (j : Nat) (x : List Fd), ms[j]? = some x → (∀ d ∈ x, FdOk d) ∧ x.length ≤ l.length) (h8 : Pr B w wr) : PmRel B gM L ones l w o i wr :=
  ⟨k, us, ms, X, h1, h2, h3, h4, h5, h6, h7, h8⟩
theorem items_out {ones : List (List UInt8)} {ms : List (List Fd)} {d : Fd} {l : List Fd} (h : inOne ones.length d = false) : itemsB ones ms (d :: l) = fieldB [32, 32] d ++ itemsB ones ms l := by simp [itemsB, h]
theorem items_in {ones : List (List UInt8)} {ms : List (List Fd)} {d : Fd} {l : List Fd} {j : Nat} {x : List UInt8} {y : List Fd} (h : inOne ones.length d = true) (hj : oneAt d = j) (hx : ones[j]? = some x) (hy : ms[j]? = some y) : itemsB ones ms (d :: l) = oneB x y ++ itemsB ones (ms.set j []) l := by
  simp [itemsB, h, hj, hx, hy]
set_option maxHeartbeats 8000000 in
theorem pmsg_any (B : Nat) (v vF vO vR : Value) (L : List UInt8) (m : Ms) (w : World) (LV : LaidB B w) (ho : Out B w v L) (hm : MRead w m vF vO vR) (hB : B ≤ w.heap.size) (hd : MsOk m) (hl : L.length + (messageB m).length ≤ 1000000000000) :
    Calls Tryz.prog 58 #[v, MsV m vF vO vR] w (OutPost B (L ++ messageB m) w) := by
  obtain ⟨name, l, ones, res, at_⟩ := m
  obtain ⟨A1, q1, h1, -⟩ := Sl.of_own hm.f
  obtain ⟨A2, q2, h2, -⟩ := Sl.of_own hm.o
  obtain ⟨A3, q3, h3, -⟩ := Sl.of_own hm.r
  simp only at h1 h2 h3
  have HX : Hid (MsV ⟨name, l, ones, res, at_⟩ vF vO vR = .agg #[.string (txt name), .slice A1 l.length q1, .slice A2 ones.length q2, .slice A3 res.length q3, .int .i64 at_]) := Lib.hid (by rw [h1, h2, h3]; rfl)
  obtain ⟨w0, hw0⟩ : ∃ w0, w0 = w.alloc (.cells #[.string (txt name), .slice A1 l.length q1, .slice A2 ones.length q2, .slice A3 res.length q3, .int .i64 at_] 51) := ⟨_, rfl⟩
  have hs0 : w0.heap.size = w.heap.size + 1 := by rw [hw0]; simp
  have HP0 : Hid (Pr B w w0) := Lib.hid (by rw [hw0]; exact (Pr.refl B w).alloc hB _)
  have hbox : w0.heap[w.heap.size]? = some (.cells #[.string (txt name), .slice A1 l.length q1, .slice A2 ones.length q2, .slice A3 res.length q3, .int .i64 at_] 51 (0, 0)) := by rw [hw0]; exact heap_alloc_new w _
  have hm0 := hm.leaf HP0.out.leaf
  have hmem := pmem_any ⟨name, l, ones, res, at_⟩ vF vO vR
  rw [HX.out] at hmem
  have HF : Hid (w0.ownsRow 0 53 7 (.slice A1 l.length q1) l.length (fdv l)) := Lib.hid (by have := hm0.f; rw [h1] at this; exact this)
  have HO : Hid (w0.ownsRow 0 9 1 (.slice A2 ones.length q2) ones.length (strv ones)) := Lib.hid (by have := hm0.o; rw [h2] at this; exact this)
  have HR : Hid (w0.ownsRow 0 2 1 (.slice A3 res.length q3) res.length (intv res)) := Lib.hid (by have := hm0.r; rw [h3] at this; exact this)
  have HMR := Lib.hid hm0
  have HBOX := Lib.hid hbox
  have HLV := Lib.hid (LV.pr HP0.out)
  have HD := Lib.hid hd
  have hlf := hd.lf
  have hlo := hd.lo
  have hlr := hd.lr
  simp only at hlf hlo hlr
  have HMEM := Lib.hid (fun (w : World) (h : MRead w ⟨name, l, ones, res, at_⟩ vF vO vR) => hmem w h hlf hlo)
  have HT : Hid (messageB ⟨name, l, ones, res, at_⟩ = lineB [wMessage, [32], name, [32, 123]] ++ itemsB ones (memsB ones.length l) l ++ (if res = [] then [] else resB res) ++ lineB [[125]]) := Lib.hid rfl
  have hln : L.length + (lineB [wMessage, [32], name, [32, 123]]).length + (itemsB ones (memsB ones.length l) l).length + (if res = [] then [] else resB res).length + (lineB [[125]]).length ≤ 1000000000000 := by
    rw [HT.out] at hl
    simp only [List.length_append] at hl
    omega
  have HLN := Lib.hid hln
  have hl1 : L.length + [wMessage, [32], name, [32, 123]].flatten.length ≤ 1000000000000 := by
    unfold lineB at hln
    simp only [List.length_append] at hln ⊢
    omega
  have HO0 : Hid (Out B w0 v L) := Lib.hid (by rw [hw0]; exact ho.alloc _)
  have H1 := Lib.hid (line_any B (w.heap.size + 1) 4 v L [wMessage, [32], name, [32, 123]] (w0.alloc (.cells (strv [wMessage, [32], name, [32, 123]]).toArray 9)) rfl (HO0.out.alloc _) (by rw [← hs0]; exact heap_alloc_new _ _) (by simp; omega) hl1 (by simp))
  rw [HX.out]
  clear hm hm0 hmem hd hl hln hl1 h1 h2 h3 hbox LV ho
  go_enter Tryz.func58, Tryz.ntmps58
  have HW0 := Lib.hid hw0
  clear hw0
  go_wp2_with fail
  rw [← HW0.out]
  refine H1.out.mono ?_
  rintro e w1 ⟨v1, rfl, ho1, hpr1⟩
  have hs1 := hpr1.size
  simp at hs1
  have HP1 := Lib.hid (((Pr.refl B w0).alloc (by omega) _).trans hpr1)
  have HO1 := Lib.hid ho1
  have hb1 := (HP1.out.typed w.heap.size _ _ _ HBOX.out (by decide)).trans HBOX.out
  have m0 := heap_cell hb1 0
  have m1 := heap_cell hb1 1
  have m2 := heap_cell hb1 2
  have m3 := heap_cell hb1 3
  have m4 := heap_cell hb1 4
  simp at m0 m1 m2 m3 m4
  clear ho1 hpr1 hb1
  go_wp2_with fail
  refine (HMEM.out w1 (HMR.out.leaf HP1.out.leaf)).mono ?_
  rintro e w2 ⟨g, us, rfl, hgs, hma, hb2⟩
  simp only [memsB_length]
  have hs2 := hb2.size
  have HP2 := Lib.hid (HP1.out.trans (Pr.below hb2 (by omega)))
  have HO2 := Lib.hid (HO1.out.below hb2)
  have HM2 := Lib.hid hma
  have hbx := (HP2.out.typed w.heap.size _ _ _ HBOX.out (by decide)).trans HBOX.out
  have n1 := heap_cell hbx 1
  simp at n1
  clear hma hb2 m0 m1 m2 m3 m4 hbx
  go_wp2
  go_loopw [0, 19] (fun o i wr => PmRel B g (L ++ lineB [wMessage, [32], name, [32, 123]]) ones l w0 o i wr) (fun _ i _ => l.length - (intOf i).toNat)
  case atStart => exact PmRel.mk 0 us _ [] rfl (by omega) (by simpa using HO2.out) (by simp) HM2.out (memsB_length _ _) (fun j x hx => ⟨memsB_mem _ _ FdOk HD.out.f j x hx, by have h := memsB_few ones.length l j; rw [List.getD_eq_getElem?_getD, hx] at h; simpa using h⟩) HP2.out
  case round =>
    obtain ⟨k, us, ms, X, rfl, hk, ho, hit, hma, hml, hmo, hpr⟩ := hrel
    have HO5 := Lib.hid ho
    have HIT := Lib.hid hit
    have HMA := Lib.hid hma
    have HML := Lib.hid hml
    have HMO := Lib.hid hmo
    have HPR := Lib.hid hpr
    have hsz := hpr.size
    have hszl : w.heap.size < wr.heap.size := by omega
    have hbx := (hpr.typed w.heap.size _ _ _ HBOX.out (by decide)).trans HBOX.out
    have m0 := heap_cell hbx 0
    have m1 := heap_cell hbx 1
    have m2 := heap_cell hbx 2
    have m3 := heap_cell hbx 3
    have m4 := heap_cell hbx 4
    simp at m0 m1 m2 m3 m4
    have HBX := Lib.hid hbx
    clear ho hit hma hml hmo hpr hbx
    by_cases h1 : k < l.length
    · obtain ⟨d, hdk⟩ : ∃ d, l[k]? = some d := ⟨_, List.getElem?_eq_getElem h1⟩
      obtain ⟨gf, cap, hv, hg, c0, c1, c2, c3, c4, c5, c6⟩ := fd_at (HPR.out.own HF.out (by decide)) hdk
      injection hv with hA hn hc
      subst hA hc
      have hdr : l.drop k = d :: l.drop (k + 1) := by
        obtain ⟨h, e⟩ := List.getElem?_eq_some_iff.1 hdk
        rw [List.drop_eq_getElem_cons h, e]
      have hdok := HD.out.f d (List.mem_of_getElem? hdk)
      have HDR := Lib.hid hdr
      have hI := inOne_any (txt name) (some ⟨gf, 0, none⟩) A2 A3 l.length ones.length res.length q1 q2 q3 at_ d (wr.alloc (.cells #[.string (txt d.type), .string (txt d.key), .bool d.rep, .int .i64 d.one, .string (txt d.name), .int .i64 d.no, .int .i64 d.at_] 53))
      have HXD : Hid (FdV d = .agg #[.string (txt d.type), .string (txt d.key), .bool d.rep, .int .i64 d.one, .string (txt d.name), .int .i64 d.no, .int .i64 d.at_]) := Lib.hid rfl
      rw [HXD.out] at hI
      have HI := Lib.hid hI
      have HDK := Lib.hid hdok
      clear hdk hn hI hdr hdok
      go_wp2_with fail
      refine HI.out.mono ?_
      have hi6 : ∀ w6, Below (wr.alloc (.cells #[.string (txt d.type), .string (txt d.key), .bool d.rep, .int .i64 d.one, .string (txt d.name), .int .i64 d.no, .int .i64 d.at_] 53)).heap.size (wr.alloc (.cells #[.string (txt d.type), .string (txt d.key), .bool d.rep, .int .i64 d.one, .string (txt d.name), .int .i64 d.no, .int .i64 d.at_] 53)) w6 → Below wr.heap.size wr w6 ∧ w6.heap[wr.heap.size]? = some (.cells #[.string (txt d.type), .string (txt d.key), .bool d.rep, .int .i64 d.one, .string (txt d.name), .int .i64 d.no, .int .i64 d.at_] 53 (0, 0)) := fun w6 hb6 => ⟨(below_new wr _).trans (hb6.mono (by simp)), (hb6.block wr.heap.size (by simp)).trans (heap_alloc_new wr _)⟩
      have HI6 := Lib.hid hi6
      clear hi6
      cases hin : inOne ones.length d
      · have hio := items_out (ms := ms) (l := l.drop (k + 1)) hin
        have hfl : (L ++ lineB [wMessage, [32], name, [32, 123]] ++ X).length + (fieldB [32, 32] d).length ≤ 1000000000000 := by
          have h2 := HLN.out
          rw [HIT.out, HDR.out, hio] at h2
          simp only [List.length_append] at h2 ⊢
          omega
        have HIO : Hid (itemsB ones (memsB ones.length l) l = (X ++ fieldB [32, 32] d) ++ itemsB ones ms (l.drop (k + 1))) := Lib.hid (by rw [HIT.out, HDR.out, hio, List.append_assoc])
        have HFL := Lib.hid hfl
        clear hin hio hfl
        rintro e w6 ⟨rfl, hb6⟩
        obtain ⟨hbw, hbf⟩ := HI6.out w6 hb6
        have f0 := heap_cell hbf 0
        have f1 := heap_cell hbf 1
        have f2 := heap_cell hbf 2
        have f3 := heap_cell hbf 3
        have f4 := heap_cell hbf 4
        have f5 := heap_cell hbf 5
        have f6 := heap_cell hbf 6
        simp at f0 f1 f2 f3 f4 f5 f6
        have hs6 := hbw.size
        have HQ6 := Lib.hid (HPR.out.trans (Pr.below hbw (by omega)))
        have H2 := Lib.hid (pfld_any B _ _ [32, 32] d w6 (HLV.out.pr HQ6.out).laid (HO5.out.below hbw) (by omega) HDK.out HFL.out)
        have HBW := Lib.hid hbw
        clear hb6 hbw hbf
        go_wp2_with fail
        refine H2.out.mono ?_
        rintro e w8 ⟨v8, rfl, ho8, hpr8⟩
        go_wp2
        refine ⟨PmRel.mk (k + 1) us ms (X ++ fieldB [32, 32] d) (by go_num) (by omega) (by rw [← List.append_assoc]; exact ho8) HIO.out ((HMA.out.below HBW.out).pr hpr8) HML.out HMO.out (HQ6.out.trans hpr8), by simp [intOf]; omega⟩
      · obtain ⟨j, hj⟩ : ∃ j : Nat, d.one = (j : Int) + 1 := ⟨d.one.toNat - 1, by simp only [inOne, Bool.and_eq_true, decide_eq_true_eq] at hin; omega⟩
        have hoj : oneAt d = j := by unfold oneAt; omega
        have hjn : j < ones.length := by simp only [inOne, Bool.and_eq_true, decide_eq_true_eq] at hin; omega
        have hjm : j < ms.length := by rw [HML.out]; exact hjn
        have hju : j < us.length := by rw [HMA.out.len]; exact hjm
        obtain ⟨u, hu⟩ : ∃ u, us[j]? = some u := ⟨_, List.getElem?_eq_getElem hju⟩
        obtain ⟨lj, hlj⟩ : ∃ lj, ms[j]? = some lj := ⟨_, List.getElem?_eq_getElem hjm⟩
        obtain ⟨x, hx⟩ : ∃ x, ones[j]? = some x := ⟨_, List.getElem?_eq_getElem hjn⟩
        have hio := items_in (ms := ms) (l := l.drop (k + 1)) hin hoj hx hlj
        have hfl : (L ++ lineB [wMessage, [32], name, [32, 123]] ++ X).length + (oneB x lj).length ≤ 1000000000000 := by
          have h2 := HLN.out
          rw [HIT.out, HDR.out, hio] at h2
          simp only [List.length_append] at h2 ⊢
          omega
        have HIO : Hid (itemsB ones (memsB ones.length l) l = (X ++ oneB x lj) ++ itemsB ones (ms.set j []) (l.drop (k + 1))) := Lib.hid (by rw [HIT.out, HDR.out, hio, List.append_assoc])
        have HFL := Lib.hid hfl
        have ew : IntKind.i64.wrap ((d.one : Int) - 1) = (j : Int) := by rw [IntKind.wrap_i64]; omega
        have ei1 : (0 : Int) ≤ (j : Int) := by omega
        have ei2 : (j : Int) < (ones.length : Int) := by omega
        have hmo := HMO.out j lj hlj
        have HMJ := Lib.hid hmo
        have HU := Lib.hid hu
        have HLJ := Lib.hid hlj
        have HXX := Lib.hid hx
        have HJM := Lib.hid hjm
        clear hin hio hfl hj hoj hju hu hlj hx hmo hjm
        rintro e w6 ⟨rfl, hb6⟩
        obtain ⟨hbw, hbf⟩ := HI6.out w6 hb6
        have f3 := heap_cell hbf 3
        simp at f3
        have hs6 := hbw.size
        have hq6 := HPR.out.trans (Pr.below hbw (by omega))
        have hbx6 := (hq6.typed w.heap.size _ _ _ HBOX.out (by decide)).trans HBOX.out
        have n2 := heap_cell hbx6 2
        simp at n2
        obtain ⟨go, co, hvo, hgo, cx⟩ := strrow_at (hq6.own HO.out (by decide)) HXX.out
        injection hvo with hA2 _ hc2
        subst hA2 hc2
        have hma6 := HMA.out.below hbw
        have cu := hma6.cell HU.out
        have HQ6 := Lib.hid hq6
        have HM6 := Lib.hid hma6
        have H2 := Lib.hid (pone_any B _ u _ x lj w6.drew ((HLV.out.pr HQ6.out).pr (Pr.refl B w6).drew) (Out.below (HO5.out.below hbw) (Below.refl _ _).drew) (own_mono (hma6.drew.row j u lj HU.out HLJ.out) (Nat.zero_le _)) (by show B ≤ w6.heap.size; omega) HMJ.out.1 HFL.out (by have := HMJ.out.2; omega))
        have hkeep : Hid (∀ w', Pr B w6.drew w' → w'.cell? ⟨w.heap.size, 2, none⟩ = some (.slice (some ⟨go, 0, none⟩) ones.length q2) ∧ w'.cell? ⟨go, j, none⟩ = some (.string (txt x)) ∧ w'.cell? ⟨g, j, none⟩ = some u) := Lib.hid (fun w' h => by
          have q := (HQ6.out.drew).trans h
          refine ⟨?_, ?_, ((HM6.out.drew).pr h).cell HU.out⟩
          · rw [heap_cell ((q.typed w.heap.size _ _ _ HBOX.out (by decide)).trans HBOX.out)]; rfl
          · obtain ⟨go', co', hvo', _, cx'⟩ := strrow_at (q.own HO.out (by decide)) HXX.out
            injection hvo' with hA3 _ _
            injection hA3 with hA3
            injection hA3 with hA3
            subst hA3
            exact cx')
        clear hb6 hbw hbf hq6 hbx6 hma6 c0 c1 c2 c3 c4 c5 c6
        go_wp2_with fail
        go_region_held3 (fun w' => w'.cell? ⟨w.heap.size, 2, none⟩ = some (.slice (some ⟨go, 0, none⟩) ones.length q2) ∧ w'.cell? ⟨go, j, none⟩ = some (.string (txt x)) ∧ w'.cell? ⟨g, j, none⟩ = some u)
          (first | exact hkeep.out _ (Pr.refl _ _) | exact hkeep.out _ hpr8 | go_keep)
          ((first
            | (go_at_call 110; refine H2.out.mono ?_; rintro e w8 ⟨v8, rfl, ho8, hpr8⟩)))
        all_goals
          have hm8 := HM6.out.drew.pr hpr8
          have cu8 := hm8.cell HU.out
          have fu8 := heap_free hm8.heap j
          have HM8 := Lib.hid hm8
          clear hm8 cu n2 cx
          go_wp2
          refine ⟨PmRel.mk (k + 1) (us.set j (.slice none 0 0)) (ms.set j []) (X ++ oneB x lj) (by go_num) (by omega) ?_ HIO.out (HM8.out.clear HJM.out) (by simp [HML.out]) ?_ ((HQ6.out.drew.trans hpr8).setCell (by omega) (by simp; omega) _), by simp [intOf]; omega⟩
          · rw [← List.append_assoc]
            exact own_other ho8 (grown_set w8 g j _) HM8.out.heap (by decide)
          · intro i y hy
            rw [List.getElem?_set] at hy
            split at hy
            · split at hy
              · cases hy; exact ⟨fun d hd => (by cases hd), by simp⟩
              · cases hy
            · exact HMO.out i y hy
    · obtain rfl : k = l.length := by omega
      have hix : itemsB ones (memsB ones.length l) l = X := by rw [HIT.out, List.drop_of_length_le (Nat.le_refl _)]; simp [itemsB]
      have hln2 := HLN.out
      rw [hix] at hln2
      have HIX := Lib.hid hix
      have HLN2 := Lib.hid hln2
      have hle1 : (L ++ lineB [wMessage, [32], name, [32, 123]] ++ X).length + (if res = [] then [] else resB res).length + (lineB [[125]]).length ≤ 1000000000000 := by
        simp only [List.length_append] at hln2 ⊢
        omega
      clear hix hln2 m0 m1 m2 m4
      by_cases hr0 : res = []
      · subst hr0
        have hle : (L ++ lineB [wMessage, [32], name, [32, 123]] ++ X).length + ([[125]] : List (List UInt8)).flatten.length ≤ 1000000000000 := by
          unfold lineB at hle1 ⊢
          simp only [List.length_append] at hle1 ⊢
          omega
        have H2 := Lib.hid (line_any B wr.heap.size 1 _ _ [[125]] (wr.alloc (.cells (strv [[125]]).toArray 9)) rfl (HO5.out.alloc _) (heap_alloc_new _ _) (by simp; omega) hle (by simp))
        clear hle hle1
        go_wp2_with fail
        refine H2.out.mono ?_
        rintro e w8 ⟨v8, rfl, ho8, hpr8⟩
        go_wp2
        go_ret
        refine ⟨v8, rfl, ?_, HP0.out.trans ((HPR.out.alloc (by omega) _).trans hpr8)⟩
        rw [HT.out, HIX.out]
        simp only [if_pos, List.append_nil, ← List.append_assoc]
        exact ho8
      · have hrp : 0 < res.length := List.length_pos_iff.2 hr0
        have HIF : Hid ((if res = [] then [] else resB res) = resB res) := Lib.hid (if_neg hr0)
        rw [HIF.out] at hle1
        have hd1 : decide ((0 : Int) < (res.length : Int)) = true := by rw [decide_eq_true_eq]; omega
        have hd2 : decide (0 < res.length) = true := by rw [decide_eq_true_eq]; omega
        have H2 := Lib.hid (pres_any B _ (.slice A3 res.length q3) _ res wr (HLV.out.pr HPR.out) HO5.out (HPR.out.own HR.out (by decide)) (by omega) HD.out.r (by omega) (by omega))
        have hle : (L ++ lineB [wMessage, [32], name, [32, 123]] ++ X ++ resB res).length + ([[125]] : List (List UInt8)).flatten.length ≤ 1000000000000 := by
          unfold lineB at hle1 ⊢
          simp only [List.length_append] at hle1 ⊢
          omega
        have HLE := Lib.hid hle
        clear hle hle1 hr0
        go_wp2_with fail
        refine H2.out.mono ?_
        rintro e w7 ⟨v7, rfl, ho7, hpr7⟩
        have hs7 := hpr7.size
        have H3 := Lib.hid (line_any B w7.heap.size 1 _ _ [[125]] (w7.alloc (.cells (strv [[125]]).toArray 9)) rfl (ho7.alloc _) (heap_alloc_new _ _) (by simp; omega) HLE.out (by simp))
        go_wp2_with fail
        refine H3.out.mono ?_
        rintro e w8 ⟨v8, rfl, ho8, hpr8⟩
        go_wp2
        go_ret
        refine ⟨v8, rfl, ?_, HP0.out.trans (((HPR.out.trans hpr7).alloc (by omega) _).trans hpr8)⟩
        rw [HT.out, HIX.out, HIF.out]
        simp only [← List.append_assoc]
        exact ho8
end Go.Proofs.YtciiemomfniecaaGreatDoor
/-
  A file is printed: the contract.
-/
namespace Go.Proofs.YtciiemomfniecaaGreatDoor
set_option maxRecDepth 100000

open Go.RowKit

theorem ms_at {w : World} : ∀ {l : List Ms} {xs : List Value}, MsAre w l xs → ∀ {k : Nat} {m : Ms}, l[k]? = some m → ∃ vF vO vR, MRead w m vF vO vR ∧ ∀ j, j < 5 → xs[k * 5 + j]? = (MC m vF vO vR)[j]?
  | [], _, _, k, m, hk => by simp at hk
  | x :: l, xs, ⟨vF, vO, vR, ys, h1, h2, h3⟩, 0, m, hk => by
    obtain rfl : x = m := by simpa using hk
    refine ⟨vF, vO, vR, h2, fun j hj => ?_⟩
    rw [h1, Nat.zero_mul, Nat.zero_add, List.getElem?_append_left (by simp [MC]; omega)]
  | x :: l, xs, ⟨vF, vO, vR, ys, h1, h2, h3⟩, k + 1, m, hk => by
    obtain ⟨a, b, c, h4, h5⟩ := ms_at h3 (k := k) (m := m) (by simpa using hk)
    refine ⟨a, b, c, h4, fun j hj => ?_⟩
    rw [h1, List.getElem?_append_right (by simp [MC]; omega), ← h5 j hj]
    congr 1
    simp [MC]; omega
theorem en_at {w : World} : ∀ {l : List En} {xs : List Value}, EnAre w l xs → ∀ {k : Nat} {m : En}, l[k]? = some m → ∃ vV, ERead w m vV ∧ ∀ j, j < 3 → xs[k * 3 + j]? = (EC m vV)[j]?
  | [], _, _, k, m, hk => by simp at hk
  | x :: l, xs, ⟨vV, ys, h1, h2, h3⟩, 0, m, hk => by
    obtain rfl : x = m := by simpa using hk
    refine ⟨vV, h2, fun j hj => ?_⟩
    rw [h1, Nat.zero_mul, Nat.zero_add, List.getElem?_append_left (by simp [EC]; omega)]
  | x :: l, xs, ⟨vV, ys, h1, h2, h3⟩, k + 1, m, hk => by
    obtain ⟨a, h4, h5⟩ := en_at h3 (k := k) (m := m) (by simpa using hk)
    refine ⟨a, h4, fun j hj => ?_⟩
    rw [h1, List.getElem?_append_right (by simp [EC]; omega), ← h5 j hj]
    congr 1
    simp [EC]; omega
/-- Message k of a row, as it lies there. -/
theorem msrow_at {w : World} {b : Nat} {v : Value} {l : List Ms} {xs : List Value} (h : w.ownsRow b 51 5 v l.length xs) (ha : MsAre w l xs) {k : Nat} {m : Ms} (hk : l[k]? = some m) :
    ∃ g cap vF vO vR, v = .slice (some ⟨g, 0, none⟩) l.length cap ∧ g < w.heap.size ∧ MRead w m vF vO vR ∧ w.cell? ⟨g, k * 5, none⟩ = some (.string (txt m.name)) ∧ w.cell? ⟨g, k * 5 + 1, none⟩ = some vF ∧ w.cell? ⟨g, k * 5 + 2, none⟩ = some vO ∧
      w.cell? ⟨g, k * 5 + 3, none⟩ = some vR ∧ w.cell? ⟨g, k * 5 + 4, none⟩ = some (.int .i64 m.at_) := by
  have hlt : k < l.length := (List.getElem?_eq_some_iff.1 hk).1
  obtain ⟨vF, vO, vR, hr, hx⟩ := ms_at ha hk
  rcases h.2 with ⟨_, h0⟩ | ⟨g, cap, cur, rfl, _, hh, _⟩
  · omega
  · have key : ∀ (j : Nat) (hj : j < 5) (u : Value), (MC m vF vO vR)[j]? = some u → w.cell? ⟨g, k * 5 + j, none⟩ = some u := by
      intro j hj u hu
      have := h.cells (g := g) rfl (k * 5 + j) u (by rw [hx j hj, hu])
      simpa [Addr.add_lit] using this
    exact ⟨g, cap, vF, vO, vR, rfl, (Array.getElem?_eq_some_iff.1 hh).1, hr, key 0 (by omega) _ rfl, key 1 (by omega) _ rfl, key 2 (by omega) _ rfl, key 3 (by omega) _ rfl, key 4 (by omega) _ rfl⟩
theorem enrow_at {w : World} {b : Nat} {v : Value} {l : List En} {xs : List Value} (h : w.ownsRow b 65 3 v l.length xs) (ha : EnAre w l xs) {k : Nat} {m : En} (hk : l[k]? = some m) :
    ∃ g cap vV, v = .slice (some ⟨g, 0, none⟩) l.length cap ∧ g < w.heap.size ∧ ERead w m vV ∧ w.cell? ⟨g, k * 3, none⟩ = some (.string (txt m.name)) ∧ w.cell? ⟨g, k * 3 + 1, none⟩ = some vV ∧ w.cell? ⟨g, k * 3 + 2, none⟩ = some (.int .i64 m.at_) := by
  have hlt : k < l.length := (List.getElem?_eq_some_iff.1 hk).1
  obtain ⟨vV, hr, hx⟩ := en_at ha hk
  rcases h.2 with ⟨_, h0⟩ | ⟨g, cap, cur, rfl, _, hh, _⟩
  · omega
  · have key : ∀ (j : Nat) (hj : j < 3) (u : Value), (EC m vV)[j]? = some u → w.cell? ⟨g, k * 3 + j, none⟩ = some u := by
      intro j hj u hu
      have := h.cells (g := g) rfl (k * 3 + j) u (by rw [hx j hj, hu])
      simpa [Addr.add_lit] using this
    exact ⟨g, cap, vV, rfl, (Array.getElem?_eq_some_iff.1 hh).1, hr, key 0 (by omega) _ rfl, key 1 (by omega) _ rfl, key 2 (by omega) _ rfl⟩
structure FlOk (f : Fl) : Prop where
  m : ∀ m ∈ f.M, MsOk m
  e : ∀ e ∈ f.E, (∀ d ∈ e.V, VlOk d) ∧ e.V.length ≤ 1000000
  lm : f.M.length ≤ 1000000
  le : f.E.length ≤ 1000000
def listB {α : Type} (g : α → List UInt8) (l : List α) : List UInt8 := (l.map g).flatten
theorem listB_take {α : Type} (g : α → List UInt8) (l : List α) (k : Nat) (d : α) (h : l[k]? = some d) : listB g (l.take (k + 1)) = listB g (l.take k) ++ g d := by
  rw [List.take_add_one, h]; simp [listB]
theorem listB_le {α : Type} (g : α → List UInt8) (l : List α) (k : Nat) : (listB g (l.take k)).length ≤ (listB g l).length := by
  conv => rhs; rw [← List.take_append_drop k l]
  simp only [listB, List.map_append, List.flatten_append, List.length_append]
  omega
def PfRel {α : Type} (B : Nat) (g : α → List UInt8) (L : List UInt8) (l : List α) (w : World) (o i : Value) (wr : World) : Prop := ∃ k : Nat, i = .int .i64 k ∧ k ≤ l.length ∧ Out B wr o (L ++ listB g (l.take k)) ∧ Pr B w wr
theorem PfRel.mk {α : Type} {B : Nat} {g : α → List UInt8} {L : List UInt8} {l : List α} {w wr : World} {o i : Value} (k : Nat) (h1 : i = .int .i64 k) (h2 : k ≤ l.length) (h3 : Out B wr o (L ++ listB g (l.take k))) (h4 : Pr B w wr) : PfRel B g L l w o i wr := ⟨k, h1, h2, h3, h4⟩
set_option maxHeartbeats 8000000 in
theorem print_any (f : Fl) (vM vE : Value) (w : World) (LV : Laid w) (hf : FRead w f vM vE) (hok : FlOk f) (hl : (fileB f).length ≤ 1000000000000) :
    Calls Tryz.prog 28 #[.agg #[vM, vE]] w fun e w' => e = .returned (.string (txt (fileB f))) ∧ Below w.heap.size w w' := by
  obtain ⟨M, E⟩ := f
  obtain ⟨xs, ys, h1, h2, h3, h4⟩ := hf
  simp only at h1 h2 h3 h4
  obtain ⟨A1, q1, e1, -⟩ := Sl.of_own h1
  obtain ⟨A2, q2, e2, -⟩ := Sl.of_own h3
  subst e1 e2
  have HM := Lib.hid h1
  have HMA := Lib.hid h2
  have HE := Lib.hid h3
  have HEA := Lib.hid h4
  have hlm := hok.lm
  have hle := hok.le
  simp only at hlm hle
  have HOK := Lib.hid hok
  have HLV := Lib.hid (LaidB.start LV)
  have HT : Hid (fileB ⟨M, E⟩ = listB messageB M ++ listB enumB E) := Lib.hid rfl
  have hln : (listB messageB M).length + (listB enumB E).length ≤ 1000000000000 := by rw [HT.out, List.length_append] at hl; exact hl
  have HLN := Lib.hid hln
  clear hl hln hok h1 h2 h3 h4 LV
  go_enter Tryz.func28, Tryz.ntmps28
  go_wp2
  go_loopw [3, 11] (fun o i wr => PfRel w.heap.size messageB [] M (w.alloc (.cells #[.slice A1 M.length q1, .slice A2 E.length q2] 25)) o i wr) (fun _ i _ => M.length - (intOf i).toNat)
  case atStart => exact PfRel.mk 0 rfl (by omega) (World.ownsRow_nil _ _ _ _) (Pr.refl _ _)
  case round =>
    obtain ⟨k, rfl, hk, ho, hpr⟩ := hrel
    have HO5 := Lib.hid ho
    have hp0 : Pr w.heap.size w (w.alloc (.cells #[.slice A1 M.length q1, .slice A2 E.length q2] 25)) := (Pr.refl _ _).alloc (Nat.le_refl _) _
    have HPW := Lib.hid (hp0.trans hpr)
    have HPR := Lib.hid hpr
    have hsz := hpr.size
    simp at hsz
    clear ho hpr hp0
    by_cases h1 : k < M.length
    · obtain ⟨m, hdk⟩ : ∃ m, M[k]? = some m := ⟨_, List.getElem?_eq_getElem h1⟩
      obtain ⟨g, cap, vF, vO, vR, hv, hg, hmr, c0, c1, c2, c3, c4⟩ := msrow_at (HPW.out.own HM.out (by decide)) (HMA.out.leaf HPW.out.leaf) hdk
      injection hv with hA hn hc
      subst hA hc
      have hmok := HOK.out.m m (List.mem_of_getElem? hdk)
      have hft := listB_take messageB M k m hdk
      have hfl := listB_le messageB M (k + 1)
      rw [hft, List.length_append] at hfl
      have HFT := Lib.hid hft
      have hle2 : ([] ++ listB messageB (M.take k)).length + (messageB m).length ≤ 1000000000000 := by
        have := HLN.out
        simp only [List.nil_append]
        omega
      obtain ⟨B1, r1, e1, -⟩ := Sl.of_own hmr.f
      obtain ⟨B2, r2, e2, -⟩ := Sl.of_own hmr.o
      obtain ⟨B3, r3, e3, -⟩ := Sl.of_own hmr.r
      subst e1 e2 e3
      have H2 := Lib.hid (pmsg_any w.heap.size _ _ _ _ _ m (wr.alloc (.cells #[.string (txt m.name), .slice B1 m.F.length r1, .slice B2 m.ones.length r2, .slice B3 m.res.length r3, .int .i64 m.at_] 51)) ((HLV.out.pr HPW.out).pr ((Pr.refl _ _).alloc (by omega) _)) (HO5.out.alloc _) (hmr.leaf (Leaf.alloc _ _)) (by simp; omega) hmok hle2)
      have HXM : Hid (MsV m (.slice B1 m.F.length r1) (.slice B2 m.ones.length r2) (.slice B3 m.res.length r3) = .agg #[.string (txt m.name), .slice B1 m.F.length r1, .slice B2 m.ones.length r2, .slice B3 m.res.length r3, .int .i64 m.at_]) := Lib.hid rfl
      rw [HXM.out] at H2
      clear hmok hft hdk hfl hle2 hn hmr
      go_wp2_with fail
      refine H2.out.mono ?_
      rintro e w8 ⟨v8, rfl, ho8, hpr8⟩
      go_wp2
      refine ⟨PfRel.mk (k + 1) (by go_num) (by omega) ?_ ((HPR.out.trans ((Pr.refl _ _).alloc (by omega) _)).trans hpr8), by simp [intOf]; omega⟩
      rw [HFT.out, ← List.append_assoc]
      exact ho8
    · obtain rfl : k = M.length := by omega
      rw [List.take_of_length_le (Nat.le_refl _), List.nil_append] at HO5
      have hb := (HPR.out.typed w.heap.size _ _ _ (heap_alloc_new w (.cells #[.slice A1 M.length q1, .slice A2 E.length q2] 25)) (by decide)).trans (heap_alloc_new w _)
      have n1 := heap_cell hb 1
      simp at n1
      have HPX := Lib.hid HPW.out
      clear hb
      go_wp2
      go_loopw [3, 22] (fun o i w5 => PfRel w.heap.size enumB (listB messageB M) E wr o i w5) (fun _ i _ => E.length - (intOf i).toNat)
      case atStart => exact PfRel.mk 0 rfl (by omega) (by simpa [listB] using HO5.out) (Pr.refl _ _)
      case round =>
        obtain ⟨k, rfl, hk, ho, hpr⟩ := hrel
        have HO6 := Lib.hid ho
        have HPY := Lib.hid (HPX.out.trans hpr)
        have HPS := Lib.hid hpr
        have hsy := hpr.size
        clear ho hpr
        by_cases h1 : k < E.length
        · obtain ⟨m, hdk⟩ : ∃ m, E[k]? = some m := ⟨_, List.getElem?_eq_getElem h1⟩
          obtain ⟨g, cap, vV, hv, hg, hmr, c0, c1, c2⟩ := enrow_at (HPY.out.own HE.out (by decide)) (HEA.out.leaf HPY.out.leaf) hdk
          injection hv with hA hn hc
          subst hA hc
          obtain ⟨hmo1, hmo2⟩ := HOK.out.e m (List.mem_of_getElem? hdk)
          have hft := listB_take enumB E k m hdk
          have hfl := listB_le enumB E (k + 1)
          rw [hft, List.length_append] at hfl
          have HFT := Lib.hid hft
          have hle2 : (listB messageB M ++ listB enumB (E.take k)).length + (enumB m).length ≤ 1000000000000 := by
            have := HLN.out
            rw [List.length_append]
            omega
          obtain ⟨B1, r1, e1, -⟩ := Sl.of_own hmr
          subst e1
          have H2 := Lib.hid (penum_any w.heap.size _ _ _ m (wr.alloc (.cells #[.string (txt m.name), .slice B1 m.V.length r1, .int .i64 m.at_] 65)) ((HLV.out.pr HPY.out).pr ((Pr.refl _ _).alloc (by omega) _)) (HO6.out.alloc _) (hmr.leaf (Leaf.alloc _ _)) (by simp; omega) hmo1 hle2 hmo2)
          have HXM : Hid (EnV m (.slice B1 m.V.length r1) = .agg #[.string (txt m.name), .slice B1 m.V.length r1, .int .i64 m.at_]) := Lib.hid rfl
          rw [HXM.out] at H2
          clear hmo1 hmo2 hft hdk hfl hle2 hn hmr
          go_wp2_with fail
          refine H2.out.mono ?_
          rintro e w8 ⟨v8, rfl, ho8, hpr8⟩
          go_wp2
          refine ⟨PfRel.mk (k + 1) (by go_num) (by omega) ?_ ((HPS.out.trans ((Pr.refl _ _).alloc (by omega) _)).trans hpr8), by simp [intOf]; omega⟩
          rw [HFT.out, ← List.append_assoc]
          exact ho8
        · obtain rfl : k = E.length := by omega
          rw [List.take_of_length_le (Nat.le_refl _)] at HO6
          obtain ⟨A, c, rfl, hr⟩ := SlB.of_own HO6.out
          have hcv := run_str_of_bytes (P := Tryz.prog) wr 106 9 5 Tryz.underlying106 Tryz.underlying5 Tryz.underlying9 A c _ hr
          rw [← HT.out] at hcv
          have HTT := Lib.hid HT.out
          rw [← HT.out]
          clear hr
          go_wp2
          go_ret
          exact ⟨rfl, HPY.out.os, HPY.out.tape, HPY.out.output, HPY.out.size, HPY.out.block⟩
end Go.Proofs.YtciiemomfniecaaGreatDoor
