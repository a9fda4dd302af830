/-
  An enum is printed: the contract.
-/
import Derived.Test.YtldgfepimegbmaaDoorProPres
namespace Go.Proofs.YtldgfepimegbmaaDoor
set_option maxRecDepth 100000
open Go.RowKit

theorem vlv_length (l : List Vl) : (vlv l).length = l.length * 3 := by
  induction l with
  | nil => rfl
  | cons d l ih => simp only [vlv, List.flatMap_cons, List.length_append, List.length_cons] at ih ⊢; rw [ih]; simp [VC]; omega
theorem vlv_get : ∀ (l : List Vl) (k j : Nat) (d : Vl), l[k]? = some d → j < 3 → (vlv l)[k * 3 + j]? = (VC d)[j]?
  | [], k, j, r, h, _ => by simp at h
  | x :: l, 0, j, r, h, hj => by
    obtain rfl : x = r := by simpa using h
    rw [show vlv (x :: l) = VC x ++ vlv l by simp [vlv], Nat.zero_mul, Nat.zero_add, List.getElem?_append_left (by simp [VC]; omega)]
  | x :: l, k + 1, j, r, h, hj => by
    rw [show vlv (x :: l) = VC x ++ vlv l by simp [vlv], List.getElem?_append_right (by simp [VC]; omega)]
    rw [show (k + 1) * 3 + j - (VC x).length = k * 3 + j by simp [VC]; omega]
    exact vlv_get l k j r (by simpa using h) hj
theorem vl_at {w : World} {b : Nat} {v : Value} {l : List Vl} (h : w.ownsRow b 83 3 v l.length (vlv l)) {k : Nat} {d : Vl} (hk : l[k]? = some d) :
    ∃ g cap, v = .slice (some ⟨g, 0, none⟩) l.length cap ∧ g < w.heap.size ∧ w.cell? ⟨g, k * 3, none⟩ = some (.string (txt d.name)) ∧ w.cell? ⟨g, k * 3 + 1, none⟩ = some (.int .i64 d.n) ∧ w.cell? ⟨g, k * 3 + 2, none⟩ = some (.int .i64 d.at_) := by
  have hlt : k < l.length := (List.getElem?_eq_some_iff.1 hk).1
  rcases h.2 with ⟨_, h0⟩ | ⟨g, cap, cur, rfl, _, hh, _⟩
  · omega
  · have hc := fun (j : Nat) (hj : j < 3) => h.cells (g := g) rfl (k * 3 + j)
    have hv := fun (j : Nat) (hj : j < 3) => vlv_get l k j d hk hj
    have key : ∀ (j : Nat) (hj : j < 3) (u : Value), (VC d)[j]? = some u → w.cell? ⟨g, k * 3 + j, none⟩ = some u := by
      intro j hj u hu
      have := hc j hj u (by rw [hv j hj, hu])
      simpa [Addr.add_lit] using this
    exact ⟨g, cap, rfl, (Array.getElem?_eq_some_iff.1 hh).1, key 0 (by omega) _ rfl, key 1 (by omega) _ rfl, key 2 (by omega) _ rfl⟩
theorem box3_keep {w w' : World} {b : Nat} {d : Vl} (hk : w'.heap[b]? = w.heap[b]?) (h : w.heap[b]? = some (.cells #[.string (txt d.name), .int .i64 d.n, .int .i64 d.at_] 83 (0, 0)) ∧ w.cell? ⟨b, 0, none⟩ = some (.string (txt d.name)) ∧ w.cell? ⟨b, 1, none⟩ = some (.int .i64 d.n) ∧ w.cell? ⟨b, 2, none⟩ = some (.int .i64 d.at_)) : w'.heap[b]? = some (.cells #[.string (txt d.name), .int .i64 d.n, .int .i64 d.at_] 83 (0, 0)) ∧ w'.cell? ⟨b, 0, none⟩ = some (.string (txt d.name)) ∧ w'.cell? ⟨b, 1, none⟩ = some (.int .i64 d.n) ∧ w'.cell? ⟨b, 2, none⟩ = some (.int .i64 d.at_) := by
  have hb := hk.trans h.1
  refine ⟨hb, ?_, ?_, ?_⟩
  all_goals (rw [heap_cell hb]; rfl)
theorem box3_below {w w' : World} {b : Nat} {d : Vl} (hb : Below w.heap.size w w') (h : w.heap[b]? = some (.cells #[.string (txt d.name), .int .i64 d.n, .int .i64 d.at_] 83 (0, 0)) ∧ w.cell? ⟨b, 0, none⟩ = some (.string (txt d.name)) ∧ w.cell? ⟨b, 1, none⟩ = some (.int .i64 d.n) ∧ w.cell? ⟨b, 2, none⟩ = some (.int .i64 d.at_)) : w'.heap[b]? = some (.cells #[.string (txt d.name), .int .i64 d.n, .int .i64 d.at_] 83 (0, 0)) ∧ w'.cell? ⟨b, 0, none⟩ = some (.string (txt d.name)) ∧ w'.cell? ⟨b, 1, none⟩ = some (.int .i64 d.n) ∧ w'.cell? ⟨b, 2, none⟩ = some (.int .i64 d.at_) := box3_keep (hb.block b (Array.getElem?_eq_some_iff.1 h.1).1) h
theorem box3_pr {B : Nat} {w w' : World} {b : Nat} {d : Vl} (hb : Pr B w w') (h : w.heap[b]? = some (.cells #[.string (txt d.name), .int .i64 d.n, .int .i64 d.at_] 83 (0, 0)) ∧ w.cell? ⟨b, 0, none⟩ = some (.string (txt d.name)) ∧ w.cell? ⟨b, 1, none⟩ = some (.int .i64 d.n) ∧ w.cell? ⟨b, 2, none⟩ = some (.int .i64 d.at_)) : w'.heap[b]? = some (.cells #[.string (txt d.name), .int .i64 d.n, .int .i64 d.at_] 83 (0, 0)) ∧ w'.cell? ⟨b, 0, none⟩ = some (.string (txt d.name)) ∧ w'.cell? ⟨b, 1, none⟩ = some (.int .i64 d.n) ∧ w'.cell? ⟨b, 2, none⟩ = some (.int .i64 d.at_) := box3_keep (hb.typed b _ _ _ h.1 (by decide)) h
theorem box3_new (w : World) (d : Vl) : (w.alloc (.cells #[.string (txt d.name), .int .i64 d.n, .int .i64 d.at_] 83)).heap[w.heap.size]? = some (.cells #[.string (txt d.name), .int .i64 d.n, .int .i64 d.at_] 83 (0, 0)) ∧ (w.alloc (.cells #[.string (txt d.name), .int .i64 d.n, .int .i64 d.at_] 83)).cell? ⟨w.heap.size, 0, none⟩ = some (.string (txt d.name)) ∧ (w.alloc (.cells #[.string (txt d.name), .int .i64 d.n, .int .i64 d.at_] 83)).cell? ⟨w.heap.size, 1, none⟩ = some (.int .i64 d.n) ∧ (w.alloc (.cells #[.string (txt d.name), .int .i64 d.n, .int .i64 d.at_] 83)).cell? ⟨w.heap.size, 2, none⟩ = some (.int .i64 d.at_) := by
  have hb := heap_alloc_new w (.cells #[.string (txt d.name), .int .i64 d.n, .int .i64 d.at_] 83)
  refine ⟨hb, ?_, ?_, ?_⟩
  all_goals (rw [heap_cell hb]; rfl)
def valsB (l : List Vl) : List UInt8 := (l.map valB).flatten
theorem valsB_take (l : List Vl) (k : Nat) (d : Vl) (h : l[k]? = some d) : valsB (l.take (k + 1)) = valsB (l.take k) ++ valB d := by
  rw [List.take_add_one, h]; simp [valsB]
theorem valsB_le (l : List Vl) (k : Nat) : (valsB (l.take k)).length ≤ (valsB l).length := by
  conv => rhs; rw [← List.take_append_drop k l]
  simp only [valsB, List.map_append, List.flatten_append, List.length_append]
  omega
structure VlOk (d : Vl) : Prop where
  lo : -9223372036854775808 ≤ d.n
  hi : d.n ≤ 9223372036854775807
def VsRel (B : Nat) (L : List UInt8) (l : List Vl) (w : World) (o i : Value) (wr : World) : Prop := ∃ k : Nat, i = .int .i64 k ∧ k ≤ l.length ∧ Out B wr o (L ++ valsB (l.take k)) ∧ Pr B w wr
theorem VsRel.mk {B : Nat} {L : List UInt8} {l : List Vl} {w wr : World} {o i : Value} (k : Nat) (h1 : i = .int .i64 k) (h2 : k ≤ l.length) (h3 : Out B wr o (L ++ valsB (l.take k))) (h4 : Pr B w wr) : VsRel B L l w o i wr := ⟨k, h1, h2, h3, h4⟩
set_option maxHeartbeats 4000000 in
theorem penum_any (B : Nat) (v vV : Value) (L : List UInt8) (e : En) (w : World) (LV : LaidB B w) (ho : Out B w v L) (hm : ERead w e vV) (hB : B ≤ w.heap.size) (hd : ∀ d ∈ e.V, VlOk d) (hl : L.length + (enumB e).length ≤ 1000000000) (hll : e.V.length ≤ 1000000) :
    Calls Tryd.prog 15 #[v, EnV e vV] w (OutPost B (L ++ enumB e) w) := by
  obtain ⟨name, l, at_⟩ := e
  unfold ERead at hm
  simp only at hm hd hll
  have HR : Hid (enumB ⟨name, l, at_⟩ = lineB [wEnum, [32], name, [32, 123]] ++ valsB l ++ lineB [[125]]) := Lib.hid rfl
  have hln : L.length + (lineB [wEnum, [32], name, [32, 123]]).length + (valsB l).length + (lineB [[125]]).length ≤ 1000000000 := by
    rw [HR.out] at hl
    simp only [List.length_append] at hl
    omega
  have HLN := Lib.hid hln
  have hl1 : L.length + [wEnum, [32], name, [32, 123]].flatten.length ≤ 1000000000 := by
    unfold lineB at hln
    simp only [List.length_append] at hln ⊢
    omega
  obtain ⟨A, c, hvm, -⟩ := Sl.of_own hm
  have HX : Hid (EnV ⟨name, l, at_⟩ vV = .agg #[.string (txt name), .slice A l.length c, .int .i64 at_]) := Lib.hid (by rw [hvm]; rfl)
  rw [HX.out]
  have HB0 : Hid (Out B (w.alloc (.cells #[.string (txt name), .slice A l.length c, .int .i64 at_] 58)) v L) := Lib.hid (ho.alloc _)
  have H1 := Lib.hid (line_any B (w.heap.size + 1) 4 v L [wEnum, [32], name, [32, 123]] ((w.alloc (.cells #[.string (txt name), .slice A l.length c, .int .i64 at_] 58)).alloc (.cells (strv [wEnum, [32], name, [32, 123]]).toArray 9)) rfl (HB0.out.alloc _) (heap_second w _ _) (by simp; omega) hl1 (by simp))
  subst hvm
  have HM := Lib.hid hm
  have HD := Lib.hid hd
  have HLV := Lib.hid LV
  clear hl hln hl1 hm hd LV ho
  go_enter Tryd.func15, Tryd.ntmps15
  go_wp2_with fail
  refine H1.out.mono ?_
  rintro e w1 ⟨v1, rfl, ho1, hpr1⟩
  have HO1 := Lib.hid ho1
  have hs1 := hpr1.size
  simp at hs1
  have hb1 := (hpr1.typed w.heap.size _ _ _ (heap_first w (.cells #[.string (txt name), .slice A l.length c, .int .i64 at_] 58) (.cells (strv [wEnum, [32], name, [32, 123]]).toArray 9) rfl) (by decide)).trans (heap_first w _ _ rfl)
  have e1 := heap_cell hb1 1
  simp at e1
  have HP1 := Lib.hid ((((Pr.refl B w).alloc hB _).alloc hB _).trans hpr1)
  clear ho1 hpr1 hb1
  go_wp2
  go_loopw [0, 15] (fun o i wr => VsRel B (L ++ lineB [wEnum, [32], name, [32, 123]]) l w o i wr) (fun _ i _ => l.length - (intOf i).toNat)
  case atStart => exact ⟨0, rfl, by omega, by simpa [valsB] using HO1.out, HP1.out⟩
  case round =>
    obtain ⟨k, rfl, hk, ho, hpr⟩ := hrel
    have HO5 := Lib.hid ho
    have HPR := Lib.hid hpr
    have hsz := hpr.size
    clear ho hpr
    by_cases h1 : k < l.length
    · obtain ⟨d, hdk⟩ : ∃ d, l[k]? = some d := ⟨_, List.getElem?_eq_getElem h1⟩
      obtain ⟨g, cap, hv, hg, c0, c1, c2⟩ := vl_at (HPR.out.own HM.out (by decide)) hdk
      injection hv with hA hn hc
      subst hA hc
      obtain ⟨n1, n2⟩ := HD.out d (List.mem_of_getElem? hdk)
      have hft := valsB_take l k d hdk
      have hfl := valsB_le l (k + 1)
      rw [hft, List.length_append] at hfl
      have HFT := Lib.hid hft
      have hle : (L ++ lineB [wEnum, [32], name, [32, 123]] ++ valsB (l.take k)).length + [[32, 32], d.name, [32, 61, 32], digB d.n, [59]].flatten.length ≤ 1000000000 := by
        have := HLN.out
        simp only [valB] at hfl
        unfold lineB at hfl this ⊢
        simp only [List.length_append] at this hfl ⊢
        omega
      have HLE := Lib.hid hle
      have H2 := Lib.hid (fun w L => digits_any d.n n1 n2 w L)
      have h0 := box3_keep (w' := (wr.alloc (.cells (VC d).toArray 83)).drew) rfl (box3_new wr d)
      simp only [VC] at h0
      have LB : Laid ((wr.alloc (.cells #[.string (txt d.name), .int .i64 d.n, .int .i64 d.at_] 83)).drew) := ((HLV.out.pr HPR.out).laid.on (below_new _ _)).on (Below.refl _ _).drew
      have HOB := Lib.hid ((HO5.out.alloc (.cells #[.string (txt d.name), .int .i64 d.n, .int .i64 d.at_] 83)).below (Below.refl _ _).drew)
      clear hft hdk hfl hn n1 n2 hle
      go_wp2_with fail
      go_region_held3 (fun w' => w'.heap[wr.heap.size]? = some (.cells #[.string (txt d.name), .int .i64 d.n, .int .i64 d.at_] 83 (0, 0)) ∧ w'.cell? ⟨wr.heap.size, 0, none⟩ = some (.string (txt d.name)) ∧ w'.cell? ⟨wr.heap.size, 1, none⟩ = some (.int .i64 d.n) ∧ w'.cell? ⟨wr.heap.size, 2, none⟩ = some (.int .i64 d.at_))
        (first | exact h0 | exact box3_below hb2 ‹_› | exact box3_below (below_new _ _) ‹_› | exact box3_pr hpr4 ‹_› | go_keep)
        ((first
          | (go_at_call 31; refine (H2.out _ LB).mono ?_; rintro e w2 ⟨rfl, hb2⟩)
          | (go_at_call 25; refine (line_any B _ 5 _ _ [[32, 32], d.name, [32, 61, 32], digB d.n, [59]] _ rfl ((HOB.out.below hb2).alloc _) (heap_alloc_new _ _) (by have h2 := hb2.size; simp at h2 ⊢; omega) HLE.out (by simp)).mono ?_; rintro e w4 ⟨v4, rfl, ho4, hpr4⟩)))
      all_goals
        have h2 := hb2.size
        simp at h2
        go_wp2
        refine ⟨VsRel.mk (k + 1) (by go_num) (by omega) ?_ ?_, by simp [intOf]; omega⟩
        · rw [HFT.out, ← List.append_assoc]
          exact ho4
        · exact (((HPR.out.alloc hB _).drew.trans (Pr.below hb2 (by simp; omega))).trans ((Pr.refl B w2).alloc (by omega) _)).trans hpr4
    · obtain rfl : k = l.length := by omega
      rw [List.take_of_length_le (Nat.le_refl _)] at HO5
      have hle : (L ++ lineB [wEnum, [32], name, [32, 123]] ++ valsB l).length + ([[125]] : List (List UInt8)).flatten.length ≤ 1000000000 := by
        have := HLN.out
        unfold lineB at this ⊢
        simp only [List.length_append] at this ⊢
        omega
      have H2 := Lib.hid (line_any B wr.heap.size 1 _ _ [[125]] (wr.alloc (.cells (strv [[125]]).toArray 9)) rfl (HO5.out.alloc _) (heap_alloc_new _ _) (by simp; omega) hle (by simp))
      clear hle
      go_wp2_with fail
      refine H2.out.mono ?_
      rintro e w8 ⟨v8, rfl, ho8, hpr8⟩
      go_wp2
      go_ret
      refine ⟨v8, rfl, ?_, (HPR.out.alloc hB _).trans hpr8⟩
      rw [HR.out, ← List.append_assoc, ← List.append_assoc]
      exact ho8
end Go.Proofs.YtldgfepimegbmaaDoor
