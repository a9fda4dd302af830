/-
  The statement SexpStr's own body, for every text.
-/
import Derived.Test.YtceomdbahiimlaaDoorSexAw
import Derived.Test.YtceomdbahiimlaaDoorSexNest
import Derived.Test.YtceomdbahiimlaaDoorSexSame
namespace Go.Proofs.YtceomdbahiimlaaDoor.T14
set_option maxRecDepth 100000

open Go.RowKit

theorem strN_nat (t : ByteArray) (B : Nat) (w : World) : NAt (Rd B w) 17 (strN t.data.toList) [.int .i64 2, .string t, .int .i64 0, .int .i64 0, .slice none 0 0] :=
  ⟨.slice none 0 0, by rw [show (strN t.data.toList).text = t.data.toList from rfl, tx_of]; rfl, [], ⟨Rr.nil _ _ _, Nat.zero_le _⟩, rfl⟩
theorem row_of_box {w : World} {g : Nat} {cs : Array Value} {ty : TypeId} {fr : Nat × Nat} (h : w.heap[g]? = some (.cells cs ty fr)) {n size : Nat} (hn : cs.size = n * size) (hl : n ≤ maxLen) {B : Nat} (hB : g < B) : Rr B w (.slice (some ⟨g, 0, none⟩) n n) n size cs.toList :=
  ⟨some ⟨g, 0, none⟩, n, rfl, ⟨by simpa using hn, Nat.le_refl _, hl, (fun e => by cases e), (fun ad ha _ => by obtain rfl := Option.some.inj ha; exact box_lt h), fun ad ha k u hu => by
    obtain rfl := Option.some.inj ha
    have e : (⟨g, 0, none⟩ : Addr).add k = ⟨g, k, none⟩ := by cases k <;> simp [Addr.add]
    rw [e, box_cell h]
    simpa using hu⟩, fun ad ha _ => by obtain rfl := Option.some.inj ha; exact hB⟩
theorem strL_nat (t : ByteArray) {B : Nat} {w : World} {g : Nat} {ty : TypeId} {fr : Nat × Nat} (h : w.heap[g]? = some (.cells #[.int .i64 2, .string t, .int .i64 0, .int .i64 0, .slice none 0 0, .int .i64 2, .string t, .int .i64 0, .int .i64 0, .slice none 0 0] ty fr)) (hB : g < B) :
    NAt (Rd B w) 18 (strL t.data.toList) [.int .i64 4, .string ⟨#[]⟩, .int .i64 0, .int .i64 0, .slice (some ⟨g, 0, none⟩) 2 2] := by
  refine ⟨.slice (some ⟨g, 0, none⟩) 2 2, rfl, _, ⟨row_of_box h (n := 2) (size := 5) rfl (by decide) hB, (by show 2 ≤ _; omega)⟩, ?_⟩
  refine ⟨[.int .i64 2, .string t, .int .i64 0, .int .i64 0, .slice none 0 0], _, rfl, strN_nat t B w, ?_⟩
  exact ⟨[.int .i64 2, .string t, .int .i64 0, .int .i64 0, .slice none 0 0], [], rfl, strN_nat t B w, rfl⟩
theorem strN_sm (T : List UInt8) (h : T.length ≤ 600) : Sm 1000000 (strN T) := Sm.intro (show T.length ≤ _ by omega) (fun y hy => by cases hy)
theorem strL_sm (T : List UInt8) (h : T.length ≤ 600) : Sm 1000000 (strL T) := Sm.intro (Nat.zero_le _) (fun y hy => by
  rcases List.mem_cons.1 (show y ∈ [strN T, strN T] from hy) with rfl | hy
  · exact strN_sm T h
  · obtain rfl := List.mem_singleton.1 hy
    exact strN_sm T h)
theorem strN_str (T : List UInt8) : (strN T).str = quote T := by rw [Nd.str_eq]; rfl
theorem strL_str (T : List UInt8) : (strL T).str = 40 :: (quote T ++ 32 :: quote T ++ [41]) := by
  rw [Nd.str_eq]
  show 40 :: (sepB [(strN T).str, (strN T).str] ++ [41]) = _
  rw [strN_str]
  rfl
theorem print_strN (t : ByteArray) (h : t.size ≤ 600) (w : World) (LV : Laid w) :
    Calls Tryd.prog 16 #[.agg #[.int .i64 2, .string t, .int .i64 0, .int .i64 0, .slice none 0 0]] w fun e w' => e = .returned (.string (tx (strN t.data.toList).str)) ∧ Below w.heap.size w w' := by
  have hT : t.data.toList.length ≤ 600 := by simpa using h
  have hq := quote_len t.data.toList
  have hx : tx (strN t.data.toList).text = t := tx_of t
  have hp := print14_any 17 (strN t.data.toList) (.slice none 0 0) w (by decide) (by rw [hx]; exact strN_nat t _ w) (strN_sm _ hT) (by rw [strN_str]; omega) LV
  rw [printB, (str14 (it := Lib.itoa) _ hT).1, if_pos rfl, hx] at hp
  exact hp
theorem may_strN (t : ByteArray) (h : t.size ≤ 600) (w : World) (LV : Laid w) :
    Calls Tryd.prog 14 #[.agg #[.int .i64 2, .string t, .int .i64 0, .int .i64 0, .slice none 0 0]] w fun e w' => e = .returned (.bool true) ∧ Below w.heap.size w w' := by
  have hT : t.data.toList.length ≤ 600 := by simpa using h
  have hx : tx (strN t.data.toList).text = t := tx_of t
  have hp := may14_any 17 (strN t.data.toList) (.slice none 0 0) w (by decide) (by rw [hx]; exact strN_nat t _ w) (strN_sm _ hT) LV
  rw [(str14 (it := Lib.itoa) _ hT).1, hx] at hp
  exact hp
theorem print_strL (t : ByteArray) (h : t.size ≤ 600) (w : World) (LV : Laid w) {g : Nat} {ty : TypeId} {fr : Nat × Nat} (hg : w.heap[g]? = some (.cells #[.int .i64 2, .string t, .int .i64 0, .int .i64 0, .slice none 0 0, .int .i64 2, .string t, .int .i64 0, .int .i64 0, .slice none 0 0] ty fr)) :
    Calls Tryd.prog 16 #[.agg #[.int .i64 4, .string ⟨#[]⟩, .int .i64 0, .int .i64 0, .slice (some ⟨g, 0, none⟩) 2 2]] w fun e w' => e = .returned (.string (tx (strL t.data.toList).str)) ∧ Below w.heap.size w w' := by
  have hT : t.data.toList.length ≤ 600 := by simpa using h
  have hq := quote_len t.data.toList
  have hp := print14_any 18 (strL t.data.toList) (.slice (some ⟨g, 0, none⟩) 2 2) w (by decide) (strL_nat t hg (box_lt hg)) (strL_sm _ hT) (by rw [strL_str]; simp only [List.length_cons, List.length_append, List.length_nil]; omega) LV
  rw [printB, (str14 (it := Lib.itoa) _ hT).2.1, if_pos rfl] at hp
  exact hp
theorem may_strL (t : ByteArray) (h : t.size ≤ 600) (w : World) (LV : Laid w) {g : Nat} {ty : TypeId} {fr : Nat × Nat} (hg : w.heap[g]? = some (.cells #[.int .i64 2, .string t, .int .i64 0, .int .i64 0, .slice none 0 0, .int .i64 2, .string t, .int .i64 0, .int .i64 0, .slice none 0 0] ty fr)) :
    Calls Tryd.prog 14 #[.agg #[.int .i64 4, .string ⟨#[]⟩, .int .i64 0, .int .i64 0, .slice (some ⟨g, 0, none⟩) 2 2]] w fun e w' => e = .returned (.bool true) ∧ Below w.heap.size w w' := by
  have hT : t.data.toList.length ≤ 600 := by simpa using h
  have hp := may14_any 18 (strL t.data.toList) (.slice (some ⟨g, 0, none⟩) 2 2) w (by decide) (strL_nat t hg (box_lt hg)) (strL_sm _ hT) LV
  rw [(str14 (it := Lib.itoa) _ hT).2.1] at hp
  exact hp
/-- What is printed is parsed: a node with these parts, the place, no error. -/
theorem par_of (x : Nd) (h0 : (parR Lib.itoa x.str).2.2 = 0) (h1 : (parR Lib.itoa x.str).2.1 = x.str.length) (hl : x.str.length ≤ 1000000) (w : World) (LV : Laid w) :
    ∃ y : Nd, y = (parR Lib.itoa x.str).1 ∧ Calls Tryd.prog 11 #[.string (tx x.str)] w fun e w' => ∃ g, e = .returned (.tuple #[.agg #[.int .i64 y.kind, .string (tx y.text), .int .i64 y.num, .int .i64 y.at_, g], .int .i64 (tx x.str).size, .int .i64 0]) ∧
      NAt (Rd w'.heap.size w') 17 y [.int .i64 y.kind, .string (tx y.text), .int .i64 y.num, .int .i64 y.at_, g] ∧ Below w.heap.size w w' := by
  refine ⟨_, rfl, ?_⟩
  have hp := parse14_rd (tx x.str) (by rw [size_tx]; exact hl) w LV
  rw [tx_list, h0, h1, ← size_tx] at hp
  exact hp
theorem same_strN (y : Nd) (g : Value) (t : ByteArray) (hy : y.un = (strN t.data.toList).un) (w : World) (hn : NAt (Rd w.heap.size w) 17 y [.int .i64 y.kind, .string (tx y.text), .int .i64 y.num, .int .i64 y.at_, g]) :
    Calls Tryd.prog 18 #[.agg #[.int .i64 y.kind, .string (tx y.text), .int .i64 y.num, .int .i64 y.at_, g], .agg #[.int .i64 2, .string t, .int .i64 0, .int .i64 0, .slice none 0 0]] w fun e w' => e = .returned (.bool true) ∧ Below w.heap.size w w' := by
  have hx : tx (strN t.data.toList).text = t := tx_of t
  have h := same14_any w.heap.size 17 y (strN t.data.toList) g (.slice none 0 0) w (Nat.le_refl _) hn (by rw [hx]; exact strN_nat t _ w)
  rw [eqC_yes hy, hx] at h
  exact h
theorem same_strL (y : Nd) (u : Value) (t : ByteArray) (hy : y.un = (strL t.data.toList).un) (w : World) (hn : NAt (Rd w.heap.size w) 17 y [.int .i64 y.kind, .string (tx y.text), .int .i64 y.num, .int .i64 y.at_, u]) {g : Nat} {ty : TypeId} {fr : Nat × Nat} (hg : w.heap[g]? = some (.cells #[.int .i64 2, .string t, .int .i64 0, .int .i64 0, .slice none 0 0, .int .i64 2, .string t, .int .i64 0, .int .i64 0, .slice none 0 0] ty fr)) :
    Calls Tryd.prog 18 #[.agg #[.int .i64 y.kind, .string (tx y.text), .int .i64 y.num, .int .i64 y.at_, u], .agg #[.int .i64 4, .string ⟨#[]⟩, .int .i64 0, .int .i64 0, .slice (some ⟨g, 0, none⟩) 2 2]] w fun e w' => e = .returned (.bool true) ∧ Below w.heap.size w w' := by
  have h := same14_any w.heap.size 18 y (strL t.data.toList) u (.slice (some ⟨g, 0, none⟩) 2 2) w (Nat.le_refl _) (NAt.more (by decide) _ _ hn) (strL_nat t hg (box_lt hg))
  rw [eqC_yes hy] at h
  exact h
theorem three_boxes (w : World) (c1 c2 c3 : Array Value) (t1 t2 t3 : TypeId) : ∃ W, W = ((w.alloc (.cells c1 t1)).alloc (.cells c2 t2)).alloc (.cells c3 t3) ∧ W.heap[w.heap.size]? = some (.cells c1 t1 (0, 0)) ∧ W.heap[w.heap.size + 1]? = some (.cells c2 t2 (0, 0)) ∧ W.heap[w.heap.size + 1 + 1]? = some (.cells c3 t3 (0, 0)) ∧ Below w.heap.size w W := by
  have e1 : (w.alloc (.cells c1 t1)).heap.size = w.heap.size + 1 := by simp
  have e2 : ((w.alloc (.cells c1 t1)).alloc (.cells c2 t2)).heap.size = w.heap.size + 1 + 1 := by simp
  have h1 := heap_alloc_new w (.cells c1 t1)
  have h2 := heap_alloc_new (w.alloc (.cells c1 t1)) (.cells c2 t2)
  have h3 := heap_alloc_new ((w.alloc (.cells c1 t1)).alloc (.cells c2 t2)) (.cells c3 t3)
  have b2 := below_new (w.alloc (.cells c1 t1)) (.cells c2 t2)
  have b3 := below_new ((w.alloc (.cells c1 t1)).alloc (.cells c2 t2)) (.cells c3 t3)
  rw [e1] at h2
  rw [e2] at h3
  exact ⟨_, rfl, (b3.block _ (by omega)).trans ((b2.block _ (by omega)).trans h1), (b3.block _ (by omega)).trans h2, h3, below_lit (below_lit (below_new _ _) _) _⟩
set_option maxRecDepth 1000000 in
set_option maxHeartbeats 4000000 in
theorem ssWalk (w : World) (LV : Laid w) (t : ByteArray) (ht0 : t.size ≤ maxLen) :
    Calls Tryd.prog 8 #[.string t] w fun e w' => e = .returned (.bool true) ∧ Below w.heap.size w w' := by
  by_cases h3 : 600 < t.size
  · have d3 : decide ((600 : Int) < (t.size : Int)) = true := by rw [decide_eq_true_eq]; omega
    go_enter Tryd.func8, Tryd.ntmps8
    go_wp2_with fail
    refine (awake14_any _ LV).mono ?_
    rintro e w1 ⟨rfl, hb1⟩
    go_wp2
    go_ret
    exact ⟨rfl, below_lit (below_lit (below_lit hb1 _) _) _⟩
  · have d3 : decide ((600 : Int) < (t.size : Int)) = false := by rw [decide_eq_false_iff_not]; omega
    have ht : t.size ≤ 600 := by omega
    have hT : t.data.toList.length ≤ 600 := by simpa using ht
    have hq := quote_len t.data.toList
    obtain ⟨-, -, ⟨a1, a2, a3⟩, b1, b3⟩ := str14 (it := Lib.itoa) t.data.toList hT
    have l1 : (strN t.data.toList).str.length ≤ 1000000 := by rw [strN_str]; omega
    have l2 : (strL t.data.toList).str.length ≤ 1000000 := by rw [strL_str]; simp only [List.length_cons, List.length_append, List.length_nil]; omega
    have b2 := (par_places b1).2
    have hp1 := fun w L => par_of (strN t.data.toList) a1 a2 l1 w L
    have hp2 := fun w L => par_of (strL t.data.toList) b1 b2 l2 w L
    have hn1 := fun w L => print_strN t ht w L
    have hn2 := fun w L g ty fr h => @print_strL t ht w L g ty fr h
    have hm1 := fun w L => may_strN t ht w L
    have hm2 := fun w L g ty fr h => @may_strL t ht w L g ty fr h
    generalize (strN t.data.toList).str = S1 at *
    generalize (strL t.data.toList).str = S2 at *
    have HP1 := Lib.hid hp1
    have HP2 := Lib.hid hp2
    have HN1 := Lib.hid hn1
    have HN2 := Lib.hid hn2
    have HM1 := Lib.hid hm1
    have HM2 := Lib.hid hm2
    have HU1 := Lib.hid a3
    have HU2 := Lib.hid b3
    clear h3 hT hq a1 a2 a3 b1 b2 b3 l1 l2 hp1 hp2 hn1 hn2 hm1 hm2
    go_enter Tryd.func8, Tryd.ntmps8
    go_wp2_with fail
    refine (awake14_any _ LV).mono ?_
    rintro e w1 ⟨rfl, hb1⟩
    go_wp2_with fail
    obtain ⟨W, hW, x1, x2, x3, hbW⟩ := three_boxes w1 #[.int .i64 2, .string t, .int .i64 0, .int .i64 0, .slice none 0 0] #[.int .i64 2, .string t, .int .i64 0, .int .i64 0, .slice none 0 0, .int .i64 2, .string t, .int .i64 0, .int .i64 0, .slice none 0 0] #[.int .i64 4, .string ⟨#[]⟩, .int .i64 0, .int .i64 0, .slice (some ⟨w1.heap.size + 1, 0, none⟩) 2 2] 24 24 24
    rw [← hW]
    have HX1 := Lib.hid x1
    have HX2 := Lib.hid x2
    have HX3 := Lib.hid x3
    have HBW := Lib.hid (below_then hb1 hbW)
    generalize w1.heap.size = G at *
    clear hW hbW x1 x2 x3
    refine (HN1.out W (LV.on HBW.out)).mono ?_
    rintro e w2 ⟨rfl, hb2⟩
    have HB2 := Lib.hid hb2
    obtain ⟨y1, hy1, hc1⟩ := HP1.out w2 (LV.on (below_then HBW.out hb2))
    rw [← hy1] at HU1
    have HC1 := Lib.hid hc1
    clear hb2 hc1 hy1
    go_wp2_with fail
    refine HC1.out.mono ?_
    rintro e w3 ⟨g1, rfl, hn1, hb3⟩
    obtain ⟨A1, c1, rfl⟩ := NAt.shape hn1
    obtain ⟨k1, hk1⟩ : ∃ k, y1.l.length = k := ⟨_, rfl⟩
    rw [hk1] at hn1 ⊢
    clear hk1
    have hB3 := below_then (below_then HB2.out hb3) (below_new w3 (.cells #[.int .i64 y1.kind, .string (tx y1.text), .int .i64 y1.num, .int .i64 y1.at_, .slice A1 k1 c1] 24))
    have x3 := (hB3.block _ (box_lt HX3.out)).trans HX3.out
    have x2 := (hB3.block _ (box_lt HX2.out)).trans HX2.out
    have HXY := Lib.hid (heap_alloc_new w3 (.cells #[.int .i64 y1.kind, .string (tx y1.text), .int .i64 y1.num, .int .i64 y1.at_, .slice A1 k1 c1] 24))
    have HN := Lib.hid hn1
    obtain ⟨n0, n1, n2, n3, n4⟩ := five_cells x3
    have HB3 := Lib.hid hB3
    have HP4 := Lib.hid (HN2.out _ (LV.on (below_then HBW.out hB3)) _ _ _ x2)
    clear hB3 hb3 hn1 x2 x3
    go_wp2_with fail
    refine HP4.out.mono ?_
    rintro e w4 ⟨rfl, hb4⟩
    obtain ⟨y2, hy2, hc2⟩ := HP2.out w4 (LV.on (below_then HBW.out (below_then HB3.out hb4)))
    rw [← hy2] at HU2
    have HC2 := Lib.hid hc2
    have HB4 := Lib.hid hb4
    clear hy2 hc2 hb4 n0 n1 n2 n3 n4
    go_wp2_with fail
    refine HC2.out.mono ?_
    rintro e w5 ⟨g2, rfl, hn2, hb5⟩
    obtain ⟨A2, c2, rfl⟩ := NAt.shape hn2
    obtain ⟨k2, hk2⟩ : ∃ k, y2.l.length = k := ⟨_, rfl⟩
    rw [hk2] at hn2 ⊢
    clear hk2
    have h4 := below_then HB4.out hb5
    have h5 := below_then h4 (below_new w5 (.cells #[.int .i64 y2.kind, .string (tx y2.text), .int .i64 y2.num, .int .i64 y2.at_, .slice A2 k2 c2] 24))
    have hB5 := below_then HB3.out h5
    have HY := Lib.hid ((h5.block _ (box_lt HXY.out)).trans HXY.out)
    have HZ := Lib.hid (heap_alloc_new w5 (.cells #[.int .i64 y2.kind, .string (tx y2.text), .int .i64 y2.num, .int .i64 y2.at_, .slice A2 k2 c2] 24))
    have H35 := Lib.hid (below_then (below_new w3 (.cells #[.int .i64 y1.kind, .string (tx y1.text), .int .i64 y1.num, .int .i64 y1.at_, .slice A1 k1 c1] 24)) h5)
    have H55 := Lib.hid (below_new w5 (.cells #[.int .i64 y2.kind, .string (tx y2.text), .int .i64 y2.num, .int .i64 y2.at_, .slice A2 k2 c2] 24))
    have HNZ := Lib.hid hn2
    have HB5 := Lib.hid hB5
    have x1 := (hB5.block _ (box_lt HX1.out)).trans HX1.out
    obtain ⟨n0, n1, n2, n3, n4⟩ := five_cells x1
    have HM := Lib.hid (HM1.out _ (LV.on (below_then HBW.out hB5)))
    clear h4 h5 hB5 hb5 hn2
    go_wp2_with fail
    refine HM.out.mono ?_
    rintro e w6 ⟨rfl, hb6⟩
    have hB6 := below_then HB5.out hb6
    obtain ⟨m0, m1, m2, m3, m4⟩ := five_cells ((hB6.block _ (box_lt HX3.out)).trans HX3.out)
    have HML := Lib.hid (HM2.out _ (LV.on (below_then HBW.out hB6)) _ _ _ ((hB6.block _ (box_lt HX2.out)).trans HX2.out))
    have H6 := Lib.hid (And.intro hB6 hb6)
    clear hB6 hb6
    go_wp2_with fail
    refine HML.out.mono ?_
    rintro e w7 ⟨rfl, hb7⟩
    have hB7 := below_then H6.out.1 hb7
    have hC7 := below_then H6.out.2 hb7
    clear n0 n1 n2 n3 n4 m0 m1 m2 m3 m4 hb7
    obtain ⟨n0, n1, n2, n3, n4⟩ := five_cells ((hB7.block _ (box_lt HX1.out)).trans HX1.out)
    have HPN := Lib.hid (HN1.out _ (LV.on (below_then HBW.out hB7)))
    have H7 := Lib.hid (And.intro hB7 hC7)
    clear hB7 hC7
    go_wp2_with fail
    refine HPN.out.mono ?_
    rintro e w8 ⟨rfl, hb8⟩
    have hB8 := below_then H7.out.1 hb8
    have hC8 := below_then H7.out.2 hb8
    clear n0 n1 n2 n3 n4 hb8
    obtain ⟨n0, n1, n2, n3, n4⟩ := five_cells ((hB8.block _ (box_lt HX1.out)).trans HX1.out)
    obtain ⟨m0, m1, m2, m3, m4⟩ := five_cells ((hC8.block _ (box_lt HY.out)).trans HY.out)
    have hD8 := below_then H35.out hC8
    have HS1 := Lib.hid (same_strN y1 _ t HU1.out w8 (NRd.mono hD8.size (NRd.low (Lo.below hD8 (Nat.le_refl _)) HN.out)))
    have H8 := Lib.hid (And.intro hB8 hC8)
    clear hB8 hC8 hD8
    go_wp2_with fail
    refine HS1.out.mono ?_
    rintro e w9 ⟨rfl, hb9⟩
    have hB9 := below_then H8.out.1 hb9
    have hC9 := below_then H8.out.2 hb9
    clear n0 n1 n2 n3 n4 m0 m1 m2 m3 m4 hb9
    obtain ⟨n0, n1, n2, n3, n4⟩ := five_cells ((hB9.block _ (box_lt HX3.out)).trans HX3.out)
    obtain ⟨m0, m1, m2, m3, m4⟩ := five_cells ((hC9.block _ (box_lt HZ.out)).trans HZ.out)
    have hD9 := below_then H55.out hC9
    have HS2 := Lib.hid (same_strL y2 _ t HU2.out w9 (NRd.mono hD9.size (NRd.low (Lo.below hD9 (Nat.le_refl _)) HNZ.out)) ((hB9.block _ (box_lt HX2.out)).trans HX2.out))
    have H9 := Lib.hid (below_then HBW.out hB9)
    clear hB9 hC9 hD9
    go_wp2_with fail
    refine HS2.out.mono ?_
    rintro e w10 ⟨rfl, hb10⟩
    go_wp2
    go_ret
    exact ⟨rfl, below_then H9.out hb10⟩
end Go.Proofs.YtceomdbahiimlaaDoor.T14
