/-
  A field that is resolved: the contract.
-/
import Derived.Test.YtciiemomfniecaaGreatDoorTabMean
import Derived.Great.BuildSlice
import Derived.Test.YtciiemomfniecaaGreatDoorBase
namespace Go.Proofs.YtciiemomfniecaaGreatDoor
set_option maxRecDepth 100000

open Go.RowKit Go.Maps

def df0 : Df := ⟨0, [], 0, 0, false, 0, 0⟩
/-- What is told of a field whose name, number and stance are right. -/
def fieldR (f : Fl) (x : Fd) : Df × Nat := if decide (x.key = []) || keyOK x.key then (if (kindF f x.type).isSome then (defF f x, 0) else (df0, 3)) else (df0, 5)
theorem infoDf : (Tryz.prog.info? 39).map (·.size) = some 7 := by kernel_rfl
theorem wpList_store_df {ops : Array Oper} {rest : List Oper} {o : Oper} {a : Act} {w : World} {Q : Exit → Act → World → Prop} (hgd : o.guard = none) (x y : Operand) (ho : o.op = .store 39 x y)
    (hd : o.dst = none) (g : Nat) (b1 : ByteArray) (b4 : Bool) (b0 b2 b3 b5 b6 : Int) (u0 u1 u2 u3 u4 u5 u6 : Value) (hx : a.eval x = .pointer (some ⟨g, 0, none⟩)) (hy : a.eval y = .agg #[.int .i64 b0, .string b1, .int .i64 b2, .int .i64 b3, .bool b4, .int .i64 b5, .int .i64 b6])
    (t : TypeId) (hg : w.heap[g]? = some (.cells #[u0, u1, u2, u3, u4, u5, u6] t (0, 0)))
    (h : wpList Tryz.prog ops Q rest a (w.setRow g #[.int .i64 b0, .string b1, .int .i64 b2, .int .i64 b3, .bool b4, .int .i64 b5, .int .i64 b6])) : wpList Tryz.prog ops Q (o :: rest) a w :=
  wpList_store_rowTo hgd 39 x y ho hd g _ hx hy t _ hg infoDf rfl (by simp [Value.oneCell']) h
theorem results_df1 {fn : Func} {p u : Tmp} (h : fn.results = #[.cell p 39, .tmp u]) (tmps : Array Value) (w : World) (g : Nat) (t : TypeId) (u0 u1 u2 u3 u4 u5 u6 : Value) (fr : Nat × Nat)
    (hp : tmps.getD p undef = .pointer (some ⟨g, 0, none⟩)) (hg : w.heap[g]? = some (.cells #[u0, u1, u2, u3, u4, u5, u6] t fr)) :
    (results fn tmps).run Tryz.prog w = .ok (.tuple #[.agg #[u0, u1, u2, u3, u4, u5, u6], tmps.getD u undef]) w :=
  results_row_tmp1 h tmps w g t _ fr _ hp hg Tryz.underlying39 rfl infoDf
theorem setRow_below {w w' : World} {g : Nat} (h : Below w.heap.size w w') (hg : w.heap.size ≤ g) (cs : Array Value) : Below w.heap.size w (w'.setRow g cs) := below_setRow h hg cs

set_option maxRecDepth 1000000 in
set_option maxHeartbeats 4000000 in
theorem field_anyT (b n : Nat) (f : Fl) (x : Fd) (hx : FdIn x) (w : World) (hm : Mean w b n (kindF f)) (T : Tabs w) :
    Calls Tryz.prog 80 #[.map (some b), .agg #[.string (txt x.type), .string (txt x.key), .bool x.rep, .int .i64 x.one, .string (txt x.name), .int .i64 x.no, .int .i64 x.at_]] w fun e w' => e = .returned (.tuple #[.agg (DC (fieldR f x).1).toArray, .int .i64 ((fieldR f x).2 : Nat)]) ∧ Below w.heap.size w w' := by
  have hb0 : Below w.heap.size w ((w.alloc (.cells #[.string (txt x.type), .string (txt x.key), .bool x.rep, .int .i64 x.one, .string (txt x.name), .int .i64 x.no, .int .i64 x.at_] 53)).alloc (.cells #[.int .i64 0, .string ⟨#[]⟩, .int .i64 0, .int .i64 0, .bool false, .int .i64 0, .int .i64 0] 39)) := below_lit (below_new _ _) _
  have HK := Lib.hid (keyOf_any x.key _ (T.on hb0))
  have hx0 : ((w.alloc (.cells #[.string (txt x.type), .string (txt x.key), .bool x.rep, .int .i64 x.one, .string (txt x.name), .int .i64 x.no, .int .i64 x.at_] 53)).alloc (.cells #[.int .i64 0, .string ⟨#[]⟩, .int .i64 0, .int .i64 0, .bool false, .int .i64 0, .int .i64 0] 39)).heap[w.heap.size]? = some (.cells #[.string (txt x.type), .string (txt x.key), .bool x.rep, .int .i64 x.one, .string (txt x.name), .int .i64 x.no, .int .i64 x.at_] 53 (0, 0)) := ((below_new _ _).block _ (by simp)).trans (heap_alloc_new w _)
  have hx1 := heap_second w (.cells #[.string (txt x.type), .string (txt x.key), .bool x.rep, .int .i64 x.one, .string (txt x.name), .int .i64 x.no, .int .i64 x.at_] 53) (.cells #[.int .i64 0, .string ⟨#[]⟩, .int .i64 0, .int .i64 0, .bool false, .int .i64 0, .int .i64 0] 39)
  have HX0 := Lib.hid hx0
  have HX1 := Lib.hid hx1
  have HB0 := Lib.hid hb0
  have HM := Lib.hid hm
  have htl := hx.type
  clear hx0 hx1 hb0 hm hx T
  obtain ⟨kb, hkb⟩ : ∃ kb, (decide (x.key = []) || keyOK x.key) = kb := ⟨_, rfl⟩
  obtain ⟨ty, hty⟩ : ∃ ty, kindF f x.type = ty := ⟨_, rfl⟩
  rw [hkb] at HK
  have HD : Hid (defF f x = ⟨x.no, x.name, (ty.getD (0, 0)).1, (ty.getD (0, 0)).2, x.rep, keyK x.key, x.one⟩) := Lib.hid (by rw [← hty]; rfl)
  have HTY := Lib.hid hty
  cases kb with
  | false =>
    have HR : Hid (fieldR f x = (df0, 5)) := Lib.hid (by unfold fieldR; rw [hkb]; rfl)
    clear hkb hty
    go_enter Tryz.func80, Tryz.ntmps80
    go_wp2_with (first
      | (go_at_call 118; refine HK.out.mono ?_; rintro e w1 ⟨rfl, hb1⟩; have hz := (hb1.block (w.heap.size + 1) (by simp)).trans HX1.out)
      | (refine wpList_store_df rfl _ _ rfl rfl (w.heap.size + 1) _ _ _ _ _ _ _ _ _ _ _ _ _ _ rfl rfl _ hz ?_))
    refine bodyPost_ret (results_df1 rfl _ _ (w.heap.size + 1) _ _ _ _ _ _ _ _ (0, 0) rfl (setRow_heap _ _ _ _ _ _ hz)) rfl ?_
    exact ⟨by rw [HR.out]; rfl, below_setRow (below_then HB0.out hb1) (by omega) _⟩
  | true =>
    cases ty with
    | none =>
      have HR : Hid (fieldR f x = (df0, 3)) := Lib.hid (by unfold fieldR; rw [hkb, hty]; rfl)
      clear hkb hty
      go_enter Tryz.func80, Tryz.ntmps80
      go_wp2_with (first
        | (go_at_call 118; refine HK.out.mono ?_; rintro e w1 ⟨rfl, hb1⟩; have hz := (hb1.block (w.heap.size + 1) (by simp)).trans HX1.out; have hy := (hb1.block w.heap.size (by simp; omega)).trans HX0.out; have d0 := heap_cell hy 0; simp at d0; have hm1 := (HM.out.on HB0.out).on hb1)
        | (at_lookup; refine wpList_mean_look rfl _ _ rfl b n _ rfl hm1 x.type rfl htl ?_; rw [HTY.out])
        | (refine wpList_store_df rfl _ _ rfl rfl (w.heap.size + 1) _ _ _ _ _ _ _ _ _ _ _ _ _ _ rfl rfl _ (((below_new w1 _).block (w.heap.size + 1) (Array.getElem?_eq_some_iff.1 hz).1).trans hz) ?_))
      refine bodyPost_ret (results_df1 rfl _ _ (w.heap.size + 1) _ _ _ _ _ _ _ _ (0, 0) rfl (setRow_heap _ _ _ _ _ _ (((below_new w1 _).block (w.heap.size + 1) (Array.getElem?_eq_some_iff.1 hz).1).trans hz))) rfl ?_
      exact ⟨by rw [HR.out]; rfl, below_setRow (below_lit (below_then HB0.out hb1) _) (by omega) _⟩
    | some r =>
      have HR : Hid (fieldR f x = (defF f x, 0)) := Lib.hid (by unfold fieldR; rw [hkb, hty]; rfl)
      clear hkb hty
      go_enter Tryz.func80, Tryz.ntmps80
      go_wp2_with (first
        | (go_at_call 118; refine HK.out.mono ?_; rintro e w1 ⟨rfl, hb1⟩; have hz := (hb1.block (w.heap.size + 1) (by simp)).trans HX1.out; have hy := (hb1.block w.heap.size (by simp; omega)).trans HX0.out; have d0 := heap_cell hy 0; have d2 := heap_cell hy 2; have d3 := heap_cell hy 3; have d4 := heap_cell hy 4; have d5 := heap_cell hy 5; simp at d0 d2 d3 d4 d5; have hl1 : w.heap.size < w1.heap.size := (Array.getElem?_eq_some_iff.1 hy).1; have hl2 : w.heap.size + 1 < w1.heap.size := (Array.getElem?_eq_some_iff.1 hz).1; have hm1 := (HM.out.on HB0.out).on hb1)
        | (at_lookup; refine wpList_mean_look rfl _ _ rfl b n _ rfl hm1 x.type rfl htl ?_; rw [HTY.out])
        | (refine wpList_store_df rfl _ _ rfl rfl (w.heap.size + 1) _ _ _ _ _ _ _ _ _ _ _ _ _ _ rfl rfl _ (((below_new w1 _).block (w.heap.size + 1) (Array.getElem?_eq_some_iff.1 hz).1).trans hz) ?_))
      refine bodyPost_ret (results_df1 rfl _ _ (w.heap.size + 1) _ _ _ _ _ _ _ _ (0, 0) rfl (setRow_heap _ _ _ _ _ _ (((below_new w1 _).block (w.heap.size + 1) (Array.getElem?_eq_some_iff.1 hz).1).trans hz))) rfl ?_
      exact ⟨by rw [HR.out, HD.out]; rfl, below_setRow (below_lit (below_then HB0.out hb1) _) (by omega) _⟩
end Go.Proofs.YtciiemomfniecaaGreatDoor
/-
  A message's fields are sorted by their numbers: the contract.
-/
namespace Go.Proofs.YtciiemomfniecaaGreatDoor
set_option maxRecDepth 100000

open Go.RowKit Go.Lib Go.Sort

def cmpNo (x y : Df) : Int := Lib.compareInt x.no y.no
theorem lt_no (x y : Df) : ltOf cmpNo x y = decide (x.no < y.no) := by
  unfold ltOf cmpNo Lib.compareInt
  by_cases h1 : x.no < y.no
  · simp [h1]
  · by_cases h2 : y.no < x.no <;> simp [h1, h2]
theorem swo_no : SWO (ltOf cmpNo) where
  irrefl x := by rw [lt_no]; simp
  trans x y z h1 h2 := by rw [lt_no] at *; simp at *; omega
  ntrans x y z h1 h2 := by rw [lt_no] at *; simp at *; omega
set_option maxHeartbeats 1000000 in
theorem compare_any (x y : Int) (w : World) : Calls Tryz.prog 83 #[.int .i64 x, .int .i64 y] w fun e w' => e = .returned (.int .i64 (Lib.compareInt x y)) ∧ w = w' := by
  have H : Hid (Lib.compareInt x y = if x < y then -1 else if y < x then 1 else 0) := Lib.hid rfl
  by_cases h1 : x < y
  · rw [if_pos h1] at H
    go_enter Tryz.func83, Tryz.ntmps83
    go_wp2
    go_ret
    exact ⟨ret_int H.out.symm, rfl⟩
  · rw [if_neg h1] at H
    by_cases h2 : y < x
    · rw [if_pos h2] at H
      go_enter Tryz.func83, Tryz.ntmps83
      go_wp2
      go_ret
      exact ⟨ret_int H.out.symm, rfl⟩
    · rw [if_neg h2] at H
      go_enter Tryz.func83, Tryz.ntmps83
      go_wp2
      go_ret
      exact ⟨ret_int H.out.symm, rfl⟩
set_option maxHeartbeats 1000000 in
theorem cmp_clo (x y : Df) (W : World) : Calls Tryz.prog 82 #[.agg (DC x).toArray, .agg (DC y).toArray] W fun e w' => e = .returned (.int .i64 (cmpNo x y)) ∧ ∃ q os', w' = grow (W.drewN q) os' := by
  have hcon := fun W' => compare_any x.no y.no W'
  unfold cmpNo DC
  generalize Lib.compareInt x.no y.no = r at hcon ⊢
  go_enter Tryz.func82, Tryz.ntmps82
  go_wp2_with (go_at_call 83; refine (hcon _).mono ?_; rintro e w' ⟨rfl, rfl⟩)
  go_ret
  exact ⟨rfl, 0, _, by rw [alloc_eq_grow, alloc_eq_grow, grow_grow]; rfl⟩
theorem DC_len (d : Df) : (DC d).length = 7 := rfl
theorem DC_one (d : Df) : ∀ v ∈ DC d, v.oneCell' = true := by
  intro v hv
  simp only [DC, List.mem_cons, List.not_mem_nil, or_false] at hv
  rcases hv with rfl | rfl | rfl | rfl | rfl | rfl | rfl <;> rfl
theorem flat_dfv (d : Array Df) : (flatK DC 7 d).toList = dfv d.toList := by
  apply List.ext_getElem?
  intro t
  by_cases ht : t < d.size * 7
  · have h1 := get_flatK DC 7 d t ht
    rw [getElem!_pos _ t (by rw [size_flatK]; exact ht)] at h1
    have h2 := dfv_get d.toList (t / 7) (t % 7) d[t / 7]! (by
      rw [getElem!_pos d (t / 7) (by omega), Array.getElem?_toList, Array.getElem?_eq_getElem (by omega)]) (Nat.mod_lt _ (by omega))
    rw [show t / 7 * 7 + t % 7 = t by omega] at h2
    rw [h2, Array.getElem?_toList, Array.getElem?_eq_getElem (by rw [size_flatK]; exact ht), h1]
    have h3 : t % 7 < (DC d[t / 7]!).length := by rw [DC_len]; exact Nat.mod_lt _ (by omega)
    rw [List.getElem?_eq_getElem h3, getElem!_pos (DC d[t / 7]!) (t % 7) h3]
  · rw [List.getElem?_eq_none (by rw [Array.length_toList, size_flatK]; omega), List.getElem?_eq_none (by rw [dfv_length, Array.length_toList]; omega)]
theorem holds_own {w : World} {g : Nat} {cur : Array Value} {t : TypeId} {l : List Df} (hh : w.heap[g]? = some (.cells cur t (0, 0))) (ht : cur.toList.take (l.length * 7) = dfv l) : HoldsK DC 7 w g 0 l.toArray := by
  intro j hj
  rw [size_flatK] at hj
  have hj' : j < l.length * 7 := by simpa using hj
  rw [Nat.zero_add]
  refine ⟨?_, heap_free hh j⟩
  rw [heap_cell hh j]
  have h1 : (flatK DC 7 l.toArray)[j]? = (dfv l)[j]? := by rw [← Array.getElem?_toList, flat_dfv]
  have h2 : cur[j]? = (dfv l)[j]? := by
    rw [← ht, List.getElem?_take_of_lt hj', Array.getElem?_toList]
  rw [h2, ← h1, getElem!_pos (flatK DC 7 l.toArray) j (by rw [size_flatK]; exact hj), Array.getElem?_eq_getElem (by rw [size_flatK]; exact hj)]
  rfl
theorem sorted_own {w : World} {g n : Nat} {cur : Array Value} {t : TypeId} {d : Array Df} {os : Array Obj} (hh : w.heap[g]? = some (.cells cur t (0, 0))) (hs : d.size * 7 ≤ cur.size) :
    ∃ cur', (sortWorldK DC 7 w g 0 n d os).heap[g]? = some (.cells cur' t (0, 0)) ∧ cur'.size = cur.size ∧ cur'.toList.take (d.size * 7) = dfv d.toList ∧ w.grownBy (sortWorldK DC 7 w g 0 n d os) (some g) := by
  have hlt := (Array.getElem?_eq_some_iff.1 hh).1
  refine ⟨putCells id 0 (flatK DC 7 d) cur, ?_, by simp [putCells], ?_, rfl, rfl, rfl, ?_, ?_⟩
  · unfold sortWorldK putRowK putRow mapBlock grow
    simp only
    rw [Array.getElem?_append_left (by simpa using hlt), Array.getElem?_modify, if_pos rfl]
    show Option.map _ w.heap[g]? = _
    rw [hh]
    rfl
  · rw [← flat_dfv]
    apply List.ext_getElem?
    intro k
    by_cases hk : k < d.size * 7
    · rw [List.getElem?_take_of_lt hk, Array.getElem?_toList, Array.getElem?_toList]
      unfold putCells
      rw [Array.getElem?_mapIdx, Array.getElem?_eq_getElem (by omega), Array.getElem?_eq_getElem (by rw [size_flatK]; exact hk)]
      simp only [Option.map_some]
      rw [if_pos (by rw [size_flatK]; omega), Nat.sub_zero, getElem!_pos _ k (by rw [size_flatK]; exact hk)]
      rfl
    · rw [List.getElem?_eq_none (by rw [List.length_take]; omega), List.getElem?_eq_none (by rw [Array.length_toList, size_flatK]; omega)]
  · unfold sortWorldK putRowK putRow mapBlock grow
    simp
  · intro i hi hne
    unfold sortWorldK putRowK putRow mapBlock grow
    simp only
    rw [Array.getElem?_append_left (by simpa using hi), Array.getElem?_modify, if_neg (fun e => hne (by rw [e]))]
    rfl
theorem sorted_is {l d : List Df} (hp : d.Perm l) (hd : l.Pairwise fun a b => a.no ≠ b.no) (hs : ∀ i j (hi : i < d.length) (hj : j < d.length), i < j → ¬ d[j].no < d[i].no) : d = sortF l := by
  refine rise_unique ?_ (sortF_rise hd) (hp.trans (sortF_perm l).symm)
  have h2 := (hp.pairwise_iff (R := fun a b : Df => a.no ≠ b.no) (fun hab => fun e => hab e.symm)).2 hd
  rw [List.pairwise_iff_getElem] at h2 ⊢
  intro i j hi hj hij
  have h3 := h2 i j hi hj hij
  have h4 := hs i j hi hj hij
  omega
theorem sort_any (base : Nat) (v : Value) (l : List Df) (w : World) (hown : w.ownsRow base 39 7 v l.length (dfv l)) (hd : l.Pairwise fun a b => a.no ≠ b.no) (hl : l.length ≤ 100000) :
    Calls Tryz.prog 81 #[v, .func (.func 82) #[] #[]] w fun e w' => e = .returned (.tuple #[]) ∧ w'.ownsRow base 39 7 v l.length (dfv (sortF l)) ∧ w.grownBy w' v.ownBlock := by
  have hown0 := hown
  obtain ⟨hlen, ⟨rfl, hn⟩ | ⟨g, cap, cur, rfl, hg, hh, hle, hmax, hsz, htake⟩⟩ := hown
  · refine (Tryz.slices_SortFunc_none (α := Df) none 0 _ w).mono ?_
    rintro e w' ⟨rfl, rfl⟩
    obtain rfl : l = [] := List.eq_nil_of_length_eq_zero hn
    exact ⟨rfl, hown0, World.grownBy.refl _ _⟩
  · have eg : ∀ args w, (callFunc 82 args).run Tryz.prog w = .ok (.enter 82 args) w := enters_of Tryz.func82 (by kernel_rfl) rfl
    have hcap : cap * 7 = cur.size := hsz.symm
    have hcon := Tryz.slices_SortFunc 7 Tryz.isAgg39 Tryz.sizeOf39 DC DC_len DC_one cmpNo swo_no 82 #[] g 0 cap l.toArray w eg (fun _ _ _ _ x y => cmp_clo x y _) (holds_own hh htake) (Array.getElem?_eq_some_iff.1 hh).1 (by simp; omega)
    rw [show l.toArray.size = l.length by simp] at hcon
    refine hcon.mono ?_
    rintro e w' ⟨rfl, d', n, os, hp, hs, rfl⟩
    have hsize : d'.size = l.length := by have := hp.1; simpa using this
    have hperm : d'.toList.Perm l := by
      have h3 := hp.2.2
      rw [show l.length = d'.size from hsize.symm, Array.extract_size] at h3
      have e2 : (l.toArray.extract 0 d'.size) = l.toArray := by
        rw [hsize, show l.length = l.toArray.size by simp, Array.extract_size]
      rw [e2] at h3
      simpa using h3
    have hsort : d'.toList = sortF l := by
      refine sorted_is hperm hd fun i j hi hj hij => ?_
      rw [Array.length_toList] at hi hj
      have := hs i j (Nat.zero_le _) hij (by omega)
      rw [lt_no, getElem!_pos d' j hj, getElem!_pos d' i hi] at this
      simpa using this
    obtain ⟨cur', r1, r2, r3, r4⟩ := sorted_own (n := n) (d := d') (os := os) hh (by rw [hsize]; omega)
    rw [hsize, hsort] at r3
    refine ⟨rfl, ⟨?_, .inr ⟨g, cap, cur', rfl, hg, r1, hle, hmax, by rw [r2]; exact hsz, r3⟩⟩, r4⟩
    rw [dfv_length, (sortF_perm l).length_eq]
end Go.Proofs.YtciiemomfniecaaGreatDoor
