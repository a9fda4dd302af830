/-
  A message's fields are sorted by their numbers: the contract.
-/
import Derived.Test.YtjmcpfckcajnjaaGreatDoorTokVars
import Derived.Test.YtjmcpfckcajnjaaGreatDoorTabFld
import Derived.StillTailTactics
import Derived.Test.YtjmcpfckcajnjaaGreatDoorTyMath
import Derived.DeepKeys5
import Derived.Test.YtjmcpfckcajnjaaGreatDoorTrSize
import Derived.OpenShut
import Derived.BigQuiet
namespace Go.Proofs.YtjmcpfckcajnjaaGreatDoor
set_option maxRecDepth 100000

open Go.RowKit Go.Lib Go.Sort

def cmpNo (x y : Df) : Int := Lib.compareInt x.no y.no
theorem lt_no (x y : Df) : ltOf cmpNo x y = decide (x.no < y.no) := by
  unfold ltOf cmpNo Lib.compareInt
  by_cases h1 : x.no < y.no
  · simp [h1]
  · by_cases h2 : y.no < x.no <;> simp [h1, h2]
theorem swo_no : SWO (ltOf cmpNo) where
  irrefl x := by rw [lt_no]; simp
  trans x y z h1 h2 := by rw [lt_no] at *; simp at *; omega
  ntrans x y z h1 h2 := by rw [lt_no] at *; simp at *; omega
set_option maxHeartbeats 1000000 in
theorem compare_any (x y : Int) (w : World) : Calls Tryz.prog 60 #[.int .i64 x, .int .i64 y] w fun e w' => e = .returned (.int .i64 (Lib.compareInt x y)) ∧ w = w' := by
  have H : Hid (Lib.compareInt x y = if x < y then -1 else if y < x then 1 else 0) := Lib.hid rfl
  by_cases h1 : x < y
  · rw [if_pos h1] at H
    go_enter Tryz.func60, Tryz.ntmps60
    go_wp2
    go_ret
    exact ⟨ret_int H.out.symm, rfl⟩
  · rw [if_neg h1] at H
    by_cases h2 : y < x
    · rw [if_pos h2] at H
      go_enter Tryz.func60, Tryz.ntmps60
      go_wp2
      go_ret
      exact ⟨ret_int H.out.symm, rfl⟩
    · rw [if_neg h2] at H
      go_enter Tryz.func60, Tryz.ntmps60
      go_wp2
      go_ret
      exact ⟨ret_int H.out.symm, rfl⟩
theorem DC_len (d : Df) : (DC d).length = 7 := rfl
theorem DC_one (d : Df) : ∀ v ∈ DC d, v.oneCell' = true := by
  intro v hv
  simp only [DC, List.mem_cons, List.not_mem_nil, or_false] at hv
  rcases hv with rfl | rfl | rfl | rfl | rfl | rfl | rfl <;> rfl
theorem flat_dfv (d : Array Df) : (flatK DC 7 d).toList = dfv d.toList := by
  apply List.ext_getElem?
  intro t
  by_cases ht : t < d.size * 7
  · have h1 := get_flatK DC 7 d t ht
    rw [getElem!_pos _ t (by rw [size_flatK]; exact ht)] at h1
    have h2 := dfv_get d.toList (t / 7) (t % 7) d[t / 7]! (by
      rw [getElem!_pos d (t / 7) (by omega), Array.getElem?_toList, Array.getElem?_eq_getElem (by omega)]) (Nat.mod_lt _ (by omega))
    rw [show t / 7 * 7 + t % 7 = t by omega] at h2
    rw [h2, Array.getElem?_toList, Array.getElem?_eq_getElem (by rw [size_flatK]; exact ht), h1]
    have h3 : t % 7 < (DC d[t / 7]!).length := by rw [DC_len]; exact Nat.mod_lt _ (by omega)
    rw [List.getElem?_eq_getElem h3, getElem!_pos (DC d[t / 7]!) (t % 7) h3]
  · rw [List.getElem?_eq_none (by rw [Array.length_toList, size_flatK]; omega), List.getElem?_eq_none (by rw [dfv_length, Array.length_toList]; omega)]
theorem holds_own {w : World} {g : Nat} {cur : Array Value} {t : TypeId} {l : List Df} (hh : w.heap[g]? = some (.cells cur t (0, 0))) (ht : cur.toList.take (l.length * 7) = dfv l) : HoldsK DC 7 w g 0 l.toArray := by
  intro j hj
  rw [size_flatK] at hj
  have hj' : j < l.length * 7 := by simpa using hj
  rw [Nat.zero_add]
  refine ⟨?_, heap_free hh j⟩
  rw [heap_cell hh j]
  have h1 : (flatK DC 7 l.toArray)[j]? = (dfv l)[j]? := by rw [← Array.getElem?_toList, flat_dfv]
  have h2 : cur[j]? = (dfv l)[j]? := by
    rw [← ht, List.getElem?_take_of_lt hj', Array.getElem?_toList]
  rw [h2, ← h1, getElem!_pos (flatK DC 7 l.toArray) j (by rw [size_flatK]; exact hj), Array.getElem?_eq_getElem (by rw [size_flatK]; exact hj)]
  rfl
theorem sorted_own {w : World} {g n : Nat} {cur : Array Value} {t : TypeId} {d : Array Df} {os : Array Obj} (hh : w.heap[g]? = some (.cells cur t (0, 0))) (hs : d.size * 7 ≤ cur.size) :
    ∃ cur', (sortWorldK DC 7 w g 0 n d os).heap[g]? = some (.cells cur' t (0, 0)) ∧ cur'.size = cur.size ∧ cur'.toList.take (d.size * 7) = dfv d.toList ∧ w.grownBy (sortWorldK DC 7 w g 0 n d os) (some g) := by
  have hlt := (Array.getElem?_eq_some_iff.1 hh).1
  refine ⟨putCells id 0 (flatK DC 7 d) cur, ?_, by simp [putCells], ?_, rfl, rfl, rfl, ?_, ?_⟩
  · unfold sortWorldK putRowK putRow mapBlock grow
    simp only
    rw [Array.getElem?_append_left (by simpa using hlt), Array.getElem?_modify, if_pos rfl]
    show Option.map _ w.heap[g]? = _
    rw [hh]
    rfl
  · rw [← flat_dfv]
    apply List.ext_getElem?
    intro k
    by_cases hk : k < d.size * 7
    · rw [List.getElem?_take_of_lt hk, Array.getElem?_toList, Array.getElem?_toList]
      unfold putCells
      rw [Array.getElem?_mapIdx, Array.getElem?_eq_getElem (by omega), Array.getElem?_eq_getElem (by rw [size_flatK]; exact hk)]
      simp only [Option.map_some]
      rw [if_pos (by rw [size_flatK]; omega), Nat.sub_zero, getElem!_pos _ k (by rw [size_flatK]; exact hk)]
      rfl
    · rw [List.getElem?_eq_none (by rw [List.length_take]; omega), List.getElem?_eq_none (by rw [Array.length_toList, size_flatK]; omega)]
  · unfold sortWorldK putRowK putRow mapBlock grow
    simp
  · intro i hi hne
    unfold sortWorldK putRowK putRow mapBlock grow
    simp only
    rw [Array.getElem?_append_left (by simpa using hi), Array.getElem?_modify, if_neg (fun e => hne (by rw [e]))]
    rfl
theorem sorted_is {l d : List Df} (hp : d.Perm l) (hd : l.Pairwise fun a b => a.no ≠ b.no) (hs : ∀ i j (hi : i < d.length) (hj : j < d.length), i < j → ¬ d[j].no < d[i].no) : d = sortF l := by
  refine rise_unique ?_ (sortF_rise hd) (hp.trans (sortF_perm l).symm)
  have h2 := (hp.pairwise_iff (R := fun a b : Df => a.no ≠ b.no) (fun hab => fun e => hab e.symm)).2 hd
  rw [List.pairwise_iff_getElem] at h2 ⊢
  intro i j hi hj hij
  have h3 := h2 i j hi hj hij
  have h4 := hs i j hi hj hij
  omega
end Go.Proofs.YtjmcpfckcajnjaaGreatDoor
/-
  A message that is resolved: the contract.
-/
namespace Go.Proofs.YtjmcpfckcajnjaaGreatDoor
set_option maxRecDepth 100000

open Go.RowKit Go.Maps

theorem lit_struct (w : World) (cs : List Value) (t : TypeId) (h : cs.length ≤ maxLen) : Sl (w.alloc (.cells cs.toArray t)) (some ⟨w.heap.size, 0, none⟩) 1 1 cs.length cs :=
  ⟨by simp, Nat.le_refl _, by unfold maxLen; omega, by simp, fun ad ha _ => by obtain rfl := Option.some.inj ha; simp, (Sl.new w cs t h).cell⟩
theorem lit_df2 (w : World) (o : Obj) (d : Df) : Sl ((w.alloc o).alloc (.cells #[.int .i64 d.no, .string (txt d.name), .int .i64 d.kind, .int .i64 d.ref, .bool d.rep, .int .i64 d.key, .int .i64 d.one] 48)) (some ⟨w.heap.size + 1, 0, none⟩) 1 1 7 (DC d) := by
  have h := lit_struct (w.alloc o) (DC d) 48 (by unfold maxLen; simp [DC])
  rw [World.size_alloc] at h
  exact h
theorem free1S (v : Value) (l : List (List UInt8)) (w : World) (hr : Rb w.heap.size w v l.length 1 (strv l)) (hl : l.length ≤ 100000) (hx : ∀ x ∈ l, x.length ≤ maxLen) :
    Calls Tryz.prog 110 #[.slice (some ⟨w.heap.size, 0, none⟩) 1 1] (w.alloc (.cells #[v] 72)) fun e w' => e = .returned (.map (some (w.heap.size + 1))) ∧ FreeS w' (w.heap.size + 1) l.length (fun y => l.contains y) ∧ Below w.heap.size w w' := by
  obtain ⟨A, c, rfl, hs, hA⟩ := hr
  have hbw := below_new w (.cells #[.slice A l.length c] 72)
  have h := freeOfS_any (some ⟨w.heap.size, 0, none⟩) 1 [l] [.slice A l.length c] (w.alloc (.cells #[.slice A l.length c] 72)) (Sl.new w [.slice A l.length c] _ (by unfold maxLen; simp)) (by
    intro k l' hk
    match k, hk with
    | 0, hk =>
      obtain rfl : l = l' := by simpa using hk
      exact ⟨A, c, rfl, hs.on hbw, fun ad ha hp => Nat.lt_of_lt_of_le (hA ad ha hp) hbw.size⟩
    | k + 1, hk => simp at hk) (by simpa using hl) (by
    intro l' hl' x hxl
    obtain rfl : l' = l := by simpa using hl'
    exact hx x hxl) (by simp)
  refine h.mono ?_
  rintro e w' ⟨rfl, hm, hb⟩
  have e1 : (w.alloc (.cells #[.slice A l.length c] 72)).heap.size = w.heap.size + 1 := by simp
  rw [e1] at hm
  have e2 : [l].flatten = l := by simp
  rw [e2] at hm
  exact ⟨by rw [e1], hm, below_then hbw hb⟩
theorem free1I (v : Value) (l : List Int) (w : World) (hr : Rb w.heap.size w v l.length 1 (intv l)) (hl : l.length ≤ 100000) (hx : ∀ x ∈ l, inr x) :
    Calls Tryz.prog 149 #[.slice (some ⟨w.heap.size, 0, none⟩) 1 1] (w.alloc (.cells #[v] 73)) fun e w' => e = .returned (.map (some (w.heap.size + 1))) ∧ FreeI w' (w.heap.size + 1) l.length (fun y => l.contains y) ∧ Below w.heap.size w w' := by
  obtain ⟨A, c, rfl, hs, hA⟩ := hr
  have hbw := below_new w (.cells #[.slice A l.length c] 73)
  have h := freeOfI_any (some ⟨w.heap.size, 0, none⟩) 1 [l] [.slice A l.length c] (w.alloc (.cells #[.slice A l.length c] 73)) (Sl.new w [.slice A l.length c] _ (by unfold maxLen; simp)) (by
    intro k l' hk
    match k, hk with
    | 0, hk =>
      obtain rfl : l = l' := by simpa using hk
      exact ⟨A, c, rfl, hs.on hbw, fun ad ha hp => Nat.lt_of_lt_of_le (hA ad ha hp) hbw.size⟩
    | k + 1, hk => simp at hk) (by simpa using hl) (by
    intro l' hl' x hxl
    obtain rfl : l' = l := by simpa using hl'
    exact hx x hxl) (by simp)
  refine h.mono ?_
  rintro e w' ⟨rfl, hm, hb⟩
  have e1 : (w.alloc (.cells #[.slice A l.length c] 73)).heap.size = w.heap.size + 1 := by simp
  rw [e1] at hm
  have e2 : [l].flatten = l := by simp
  rw [e2] at hm
  exact ⟨by rw [e1], hm, below_then hbw hb⟩

/-- What is told of a message. -/
def msgR (f : Fl) (m : Ms) : Md := if (errM f m).isSome then ⟨[], []⟩ else msgD f m
theorem infoMd : (Tryz.prog.info? 58).map (·.size) = some 2 := by kernel_rfl
theorem infoDfs : (Tryz.prog.info? 48).map (fun i => (i.zero, i.size, i.bytes)) = some (some (.agg #[.int .i64 0, .string ⟨#[]⟩, .int .i64 0, .int .i64 0, .bool false, .int .i64 0, .int .i64 0]), 7, 64) := by kernel_rfl
theorem wpList_store_md {ops : Array Oper} {rest : List Oper} {o : Oper} {a : Act} {w : World} {Q : Exit → Act → World → Prop} (hgd : o.guard = none) (x y : Operand) (ho : o.op = .store 58 x y)
    (hd : o.dst = none) (g : Nat) (v0 v1 u0 u1 : Value) (hx : a.eval x = .pointer (some ⟨g, 0, none⟩)) (hy : a.eval y = .agg #[v0, v1]) (h0 : v0.oneCell' = true) (h1 : v1.oneCell' = true)
    (t : TypeId) (hg : w.heap[g]? = some (.cells #[u0, u1] t (0, 0)))
    (h : wpList Tryz.prog ops Q rest a (w.setRow g #[v0, v1])) : wpList Tryz.prog ops Q (o :: rest) a w :=
  wpList_store_rowTo hgd 58 x y ho hd g _ hx hy t _ hg infoMd rfl (by simp [h0, h1]) h
theorem wpList_load_md {ops : Array Oper} {rest : List Oper} {o : Oper} {a : Act} {w : World} {Q : Exit → Act → World → Prop} (hgd : o.guard = none) (x : Operand) (ho : o.op = .load 58 x)
    (g : Nat) (u0 u1 : Value) (hx : a.eval x = .pointer (some ⟨g, 0, none⟩)) (t : TypeId) (fr : Nat × Nat) (hg : w.heap[g]? = some (.cells #[u0, u1] t fr))
    (h : wpList Tryz.prog ops Q rest (a.put o.dst (.agg #[u0, u1])) w) : wpList Tryz.prog ops Q (o :: rest) a w :=
  wpList_load_row hgd 58 x ho g hx t _ fr _ hg Tryz.underlying58 rfl infoMd h
theorem results_md2 {fn : Func} {p u v : Tmp} (h : fn.results = #[.cell p 58, .tmp u, .tmp v]) (tmps : Array Value) (w : World) (g : Nat) (t : TypeId) (u0 u1 : Value) (fr : Nat × Nat)
    (hp : tmps.getD p undef = .pointer (some ⟨g, 0, none⟩)) (hg : w.heap[g]? = some (.cells #[u0, u1] t fr)) :
    (results fn tmps).run Tryz.prog w = .ok (.tuple #[.agg #[u0, u1], tmps.getD u undef, tmps.getD v undef]) w :=
  results_row_tmp2 h tmps w g t _ fr _ hp hg Tryz.underlying58 rfl infoMd
theorem still_drop {α : Type} [BEq α] [LawfulBEq α] (l bar : List α) : (fun y => (fun y => l.contains y) y && !bar.contains y) = still l bar 0 := (still_start l bar).symm

theorem fdErr_form {f : Fl} {m : Ms} {k : Nat} {x : Fd} (h : fdForm m k x = true) : fdErr f m k x = some (x.at_, 4) := by unfold fdErr; rw [if_pos h]
theorem fdErr_field {f : Fl} {m : Ms} {k : Nat} {x : Fd} (h : fdForm m k x = false) : fdErr f m k x = if (fieldR f x).2 = 0 then none else some (x.at_, (fieldR f x).2) := by
  unfold fdErr fieldR
  rw [h]
  by_cases hk : x.key = []
  · rw [decide_eq_true hk]
    simp only [Bool.true_or, if_true]
    rw [show decide (x.key ≠ []) = false from by simp [hk]]
    cases ht : kindF f x.type <;> simp
  · rw [decide_eq_false hk, show decide (x.key ≠ []) = true from by simp [hk]]
    cases hq : keyOK x.key <;> cases ht : kindF f x.type <;> simp
theorem fieldR_zero {f : Fl} {x : Fd} (h : (fieldR f x).2 = 0) : (fieldR f x).1 = defF f x := by
  unfold fieldR at h ⊢
  split at h
  · split at h
    · rename_i h1 h2; rw [if_pos h1, if_pos h2]
    · simp at h
  · simp at h
theorem msgR_bad {f : Fl} {m : Ms} {r : Int × Nat} (h : errM f m = some r) : msgR f m = ⟨[], []⟩ := by unfold msgR; rw [h]; rfl

theorem set2 {w : World} {g : Nat} {a b : Value} {t : TypeId} (h : w.heap[g]? = some (.cells #[a, b] t (0, 0))) (u v : Value) : (((w.setCell ⟨g, 0, none⟩ u).setCell ⟨g, 1, none⟩ v).drew).heap[g]? = some (.cells #[u, v] t (0, 0)) := by
  have h1 := heap_setCell_same h (j := 0) u
  have h2 := heap_setCell_same h1 (j := 1) v
  show ((w.setCell ⟨g, 0, none⟩ u).setCell ⟨g, 1, none⟩ v).heap[g]? = _
  simpa using h2
theorem below_set2 {w w' : World} {g : Nat} (h : Below w.heap.size w w') (hg : w.heap.size ≤ g) (u v : Value) : Below w.heap.size w (((w'.setCell ⟨g, 0, none⟩ u).setCell ⟨g, 1, none⟩ v).drew) :=
  ((h.setCell hg u).setCell hg v).trans (Below.refl _ _).drew
def MesRel (f : Fl) (m : Ms) (w : World) (b1 b2 D : Nat) (wD : World) (i : Value) (wr : World) : Prop :=
  ∃ (k : Nat) (dv : Value), i = .int .i64 k ∧ k ≤ m.F.length ∧ (∀ j x, j < k → m.F[j]? = some x → fdErr f m j x = none) ∧ FreeS wr b1 m.F.length (still (nmF m) m.ones k) ∧ FreeI wr b2 m.F.length (still (noF m) m.res k) ∧
    wr.heap[D]? = some (.cells #[.string (txt m.name), dv] 58 (0, 0)) ∧ wr.ownsRow (D + 1) 48 7 dv k (dfv ((m.F.take k).map (defF f))) ∧ Below (w.heap.size + 2) wD wr

end Go.Proofs.YtjmcpfckcajnjaaGreatDoor
/-
  The first name, or number, of an enum that is wrong: the contract.
-/
namespace Go.Proofs.YtjmcpfckcajnjaaGreatDoor
set_option maxRecDepth 100000

open Go.RowKit Go.Maps

theorem wrongB_code {V : List (List UInt8)} {N : List Int} {k : Nat} {x : List UInt8} {n : Int} (hx : V[k]? = some x) (hn : N[k]? = some n) :
    wrongB V N k x n = (!still V [] k x || !still N [] k n || !(decide (-2147483648 ≤ n) && decide (n ≤ 2147483647)) || (k == 0 && n != 0)) := by
  rw [still_self hx, still_self hn]
  unfold wrongB
  simp
theorem still_none {α : Type} [BEq α] [LawfulBEq α] (l : List α) : (fun y => l.contains y) = still l [] 0 := by funext y; simp [still]
set_option maxRecDepth 1000000 in
set_option maxHeartbeats 4000000 in
theorem wrong_any (B : Nat) (vN vI : Value) (V : List (List UInt8)) (N : List Int) (w : World) (hB : B ≤ w.heap.size) (hN : Rb B w vN V.length 1 (strv V)) (hI : Rb B w vI N.length 1 (intv N)) (hlen : V.length = N.length) (hl : N.length ≤ 100000) (hV : ∀ x ∈ V, x.length ≤ maxLen) (hNi : ∀ n ∈ N, inr n) :
    Calls Tryz.prog 116 #[vN, vI] w fun e w' => ∃ r : Nat, e = .returned (.int .i64 r) ∧ r ≤ N.length ∧ (∀ (k : Nat) x n, k < r → V[k]? = some x → N[k]? = some n → wrongB V N k x n = false) ∧ (∀ x n, V[r]? = some x → N[r]? = some n → wrongB V N r x n = true) ∧ Below w.heap.size w w' := by
  have HF1 := Lib.hid (free1S vN V w (hN.mono hB) (by omega) hV)
  have HF2 := Lib.hid (fun wx (hx : Below w.heap.size w wx) => free1I vI N wx ((hI.low (Low.below hx hB)).mono (Nat.le_trans hB hx.size)) (by omega) hNi)
  obtain ⟨A1, c1, rfl, s1, a1⟩ := hN
  obtain ⟨A2, c2, rfl, s2, a2⟩ := hI
  have HS1 := Lib.hid s1
  have HS2 := Lib.hid s2
  have HV := Lib.hid hV
  have HN := Lib.hid hNi
  have HL := Lib.hid hlen
  clear s1 s2 hV hNi hlen
  go_enter Tryz.func116, Tryz.ntmps116
  go_wp2_with (first
    | (go_at_call 110; refine HF1.out.mono ?_; rintro e w2 ⟨rfl, hm2, hb2⟩; replace hm2 := hm2.eq (still_none V); have hz2 := hm2.lt)
    | (go_at_call 149; refine (HF2.out _ hb2).mono ?_; rintro e w3 ⟨rfl, hm3, hb3⟩; replace hm3 := hm3.eq (still_none N); have hn3 := hm2.on hb3; have hz3 := hm3.lt; have hbw3 := below_then hb2 hb3))
  obtain ⟨b1, hb1e⟩ : ∃ b1, w.heap.size + 1 = b1 := ⟨_, rfl⟩
  obtain ⟨b2, hb2e⟩ : ∃ b2, w2.heap.size + 1 = b2 := ⟨_, rfl⟩
  simp only [hb1e, hb2e] at hn3 hm3 hz2 hz3 ⊢
  have l1 : w.heap.size < b1 := by omega
  have l2 : b1 < b2 := by omega
  clear hm2 hb2 hb3 HF1 HF2
  go_loopw [17] (fun i wr => ∃ k : Nat, i = .int .i64 k ∧ k ≤ N.length ∧ (∀ (j : Nat) x n, j < k → V[j]? = some x → N[j]? = some n → wrongB V N j x n = false) ∧ FreeS wr b1 V.length (still V [] k) ∧ FreeI wr b2 N.length (still N [] k) ∧ Below w.heap.size w wr) (fun i _ => N.length - (intOf i).toNat)
  case atStart => exact ⟨0, rfl, by omega, fun j x n hj => by omega, hn3, hm3, hbw3⟩
  case round =>
    obtain ⟨k, rfl, hk, herr, hmS, hmI, hb⟩ := hrel
    have HER := Lib.hid herr
    clear herr
    by_cases hlt : k < N.length
    · have hlt2 : k < V.length := by rw [HL.out]; exact hlt
      obtain ⟨n, hn0⟩ : ∃ n, N[k]? = some n := ⟨_, List.getElem?_eq_getElem hlt⟩
      obtain ⟨x, hx0⟩ : ∃ x, V[k]? = some x := ⟨_, List.getElem?_eq_getElem hlt2⟩
      obtain ⟨ad, rfl, hg, c0⟩ := intr_at (HS2.out.low a2 (Low.below hb hB)) hn0
      obtain ⟨ad', rfl, hg', c0'⟩ := strr_at (HS1.out.low a1 (Low.below hb hB)) hx0
      have hxl := HV.out x (List.mem_of_getElem? hx0)
      have hnl := HN.out n (List.mem_of_getElem? hn0)
      obtain ⟨p1, hp1⟩ : ∃ p, still V [] k x = p := ⟨_, rfl⟩
      obtain ⟨p2, hp2⟩ : ∃ p, still N [] k n = p := ⟨_, rfl⟩
      obtain ⟨p3, hp3⟩ : ∃ p, (decide (-2147483648 ≤ n) && decide (n ≤ 2147483647)) = p := ⟨_, rfl⟩
      have HW := Lib.hid (wrongB_code hx0 hn0)
      have HT1 := fun wx hx => takeS_any b1 V.length (still V [] k) x hxl wx hx
      have HT2 := fun wx hx => takeI_any b2 N.length (still N [] k) n hnl wx hx
      have HT3 := fun wx => isEnums_any n wx
      simp only [hp1] at HT1
      simp only [hp2] at HT2
      simp only [hp3] at HT3
      rw [hp1, hp2, hp3] at HW
      have HQ1 := Lib.hid HT1
      have HQ2 := Lib.hid HT2
      have HQ3 := Lib.hid HT3
      have HX0 := Lib.hid hx0
      have HN0 := Lib.hid hn0
      have HB := Lib.hid hb
      have fin : ∀ (w' : World), wrongB V N k x n = true → Below w.heap.size w w' → ∃ r : Nat, Ending.returned (.int .i64 ((k : Nat) : Int)) = .returned (.int .i64 r) ∧ r ≤ N.length ∧ (∀ (k : Nat) x n, k < r → V[k]? = some x → N[k]? = some n → wrongB V N k x n = false) ∧ (∀ x n, V[r]? = some x → N[r]? = some n → wrongB V N r x n = true) ∧ Below w.heap.size w w' := by
        intro w' hwr hbw
        refine ⟨k, rfl, by omega, HER.out, fun y q hy hq => ?_, hbw⟩
        rw [HX0.out] at hy
        rw [HN0.out] at hq
        obtain rfl := Option.some.inj hy
        obtain rfl := Option.some.inj hq
        exact hwr
      have FIN := Lib.hid fin
      clear hx0 hn0 hp1 hp2 hp3 HT1 HT2 HT3 hg hg' fin hxl hnl
      cases p1 with
      | false =>
        go_wp2_with (go_at_call 69; refine (HQ1.out _ hmS).mono ?_; rintro e w8 ⟨rfl, hm8, hg8⟩)
        go_ret
        exact FIN.out _ (by rw [HW.out]; rfl) (HB.out.grown hg8 HB.out.size (fun j hj => by injection hj with hj; omega))
      | true =>
        cases p2 with
        | false =>
          go_wp2_with (first
            | (go_at_call 69; refine (HQ1.out _ hmS).mono ?_; rintro e w8 ⟨rfl, hm8, hg8⟩; have hbw8 := HB.out.grown hg8 HB.out.size (fun j hj => by injection hj with hj; omega))
            | (go_at_call 150; refine (HQ2.out _ (hmI.kept hg8 (by simp; omega))).mono ?_; rintro e w9 ⟨rfl, hm9, hg9⟩))
          go_ret
          exact FIN.out _ (by rw [HW.out]; rfl) (hbw8.grown hg9 hbw8.size (fun j hj => by injection hj with hj; omega))
        | true =>
          cases p3 with
          | false =>
            go_wp2_with (first
              | (go_at_call 69; refine (HQ1.out _ hmS).mono ?_; rintro e w8 ⟨rfl, hm8, hg8⟩; have hbw8 := HB.out.grown hg8 HB.out.size (fun j hj => by injection hj with hj; omega))
              | (go_at_call 150; refine (HQ2.out _ (hmI.kept hg8 (by simp; omega))).mono ?_; rintro e w9 ⟨rfl, hm9, hg9⟩)
              | (go_at_call 151; refine (HQ3.out _).mono ?_; rintro e w9' ⟨rfl, rfl⟩))
            go_ret
            exact FIN.out _ (by rw [HW.out]; rfl) (hbw8.grown hg9 hbw8.size (fun j hj => by injection hj with hj; omega))
          | true =>
            by_cases hz : k = 0 ∧ n ≠ 0
            · have hk0 : ((k : Int) == 0) = true := by simp [hz.1]
              have hn1 : (n != 0) = true := by simp [hz.2]
              have HWW : Hid (wrongB V N k x n = true) := Lib.hid (by rw [HW.out]; simp [hz.1, hz.2])
              clear hz
              go_wp2_with (first
                | (go_at_call 69; refine (HQ1.out _ hmS).mono ?_; rintro e w8 ⟨rfl, hm8, hg8⟩; have hbw8 := HB.out.grown hg8 HB.out.size (fun j hj => by injection hj with hj; omega))
                | (go_at_call 150; refine (HQ2.out _ (hmI.kept hg8 (by simp; omega))).mono ?_; rintro e w9 ⟨rfl, hm9, hg9⟩)
                | (go_at_call 151; refine (HQ3.out _).mono ?_; rintro e w9' ⟨rfl, rfl⟩))
              go_ret
              exact FIN.out _ HWW.out (hbw8.grown hg9 hbw8.size (fun j hj => by injection hj with hj; omega))
            · have HWW : Hid (wrongB V N k x n = false) := Lib.hid (by
                rw [HW.out]
                by_cases h1 : k = 0
                · have : n = 0 := Classical.byContradiction fun h2 => hz ⟨h1, h2⟩
                  simp [this]
                · simp [h1])
              obtain ⟨a1', ha1⟩ : ∃ a, ((k : Int) == 0) = a := ⟨_, rfl⟩
              obtain ⟨a2', ha2⟩ : ∃ a, (n != 0) = a := ⟨_, rfl⟩
              have HZ : Hid ((a1' && a2') = false) := Lib.hid (by
                rw [← ha1, ← ha2]
                by_cases h1 : k = 0
                · have : n = 0 := Classical.byContradiction fun h2 => hz ⟨h1, h2⟩
                  simp [this]
                · have : ((k : Int) == 0) = false := by simp; omega
                  simp [this])
              clear hz
              have next : ∀ w8 w9, FreeS w8 b1 V.length (fun y => still V [] k y && decide (y ≠ x)) → wr.grownBy w8 (some b1) → FreeI w9 b2 N.length (fun y => still N [] k y && decide (y ≠ n)) → w8.grownBy w9 (some b2) →
                  (∀ (j : Nat) x n, j < k + 1 → V[j]? = some x → N[j]? = some n → wrongB V N j x n = false) ∧ FreeS w9 b1 V.length (still V [] (k + 1)) ∧ FreeI w9 b2 N.length (still N [] (k + 1)) ∧ Below w.heap.size w w9 := by
                intro w8 w9 hm8 hg8 hm9 hg9
                have hbw8 := HB.out.grown hg8 HB.out.size (fun j hj => by injection hj with hj; omega)
                refine ⟨fun j y q hj hy hq => ?_, (hm8.kept hg9 (by simp; omega)).eq (still_next HX0.out), hm9.eq (still_next HN0.out), hbw8.grown hg9 hbw8.size (fun j hj => by injection hj with hj; omega)⟩
                by_cases hj2 : j < k
                · exact HER.out j y q hj2 hy hq
                · obtain rfl : j = k := by omega
                  rw [HX0.out] at hy
                  rw [HN0.out] at hq
                  obtain rfl := Option.some.inj hy
                  obtain rfl := Option.some.inj hq
                  exact HWW.out
              have NX := Lib.hid next
              clear next
              cases a1' <;> cases a2'
              case true.true => exact absurd HZ.out (by simp)
              all_goals
                go_wp2_with (first
                  | (go_at_call 69; refine (HQ1.out _ hmS).mono ?_; rintro e w8 ⟨rfl, hm8, hg8⟩)
                  | (go_at_call 150; refine (HQ2.out _ (hmI.kept hg8 (by simp; omega))).mono ?_; rintro e w9 ⟨rfl, hm9, hg9⟩)
                  | (go_at_call 151; refine (HQ3.out _).mono ?_; rintro e w9' ⟨rfl, rfl⟩))
                obtain ⟨r1, r2, r3, r4⟩ := NX.out w8 w9 hm8 hg8 hm9 hg9
                exact ⟨⟨k + 1, by go_num, by omega, r1, r2, r3, r4⟩, by simp [intOf]; omega⟩
    · obtain rfl : k = N.length := by omega
      go_wp2
      go_ret
      refine ⟨N.length, rfl, Nat.le_refl _, HER.out, fun x n _ hn => ?_, hb⟩
      rw [List.getElem?_eq_none (Nat.le_refl _)] at hn
      cases hn
end Go.Proofs.YtjmcpfckcajnjaaGreatDoor
/-
  May a field, a message, an enum be: the contracts.
-/
namespace Go.Proofs.YtjmcpfckcajnjaaGreatDoor
set_option maxRecDepth 100000

open Go.RowKit Go.Maps

set_option maxHeartbeats 2000000 in
theorem mayRefer_any (A1 A2 : Option Addr) (q1 q2 : Nat) (s : Sc) (kind ref : Int) (w : World) :
    Calls Tryz.prog 147 #[.agg #[.slice A1 s.M.length q1, .slice A2 s.E.length q2], .int .i64 kind, .int .i64 ref] w fun e w' => e = .returned (.bool (referB s kind ref)) ∧ Below w.heap.size w w' := by
  have H : Hid (referB s kind ref = (decide (0 ≤ kind) && decide (kind < 10) && decide (0 ≤ ref) && decide (ref < if kind = 9 then (s.M.length : Int) else if kind = 6 then (s.E.length : Int) else 1))) := Lib.hid rfl
  by_cases h9 : kind = 9
  · subst h9
    rw [if_pos rfl] at H
    go_enter Tryz.func147, Tryz.ntmps147
    go_wp2
    all_goals (go_ret; refine ⟨ret_bool ?_, below_new _ _⟩; rw [H.out]; first | (simp_all; done) | (rw [Bool.eq_iff_iff]; simp only [Bool.and_eq_true, decide_eq_true_eq, Bool.false_eq_true, true_iff, false_iff]; omega))
  · rw [if_neg h9] at H
    have n9 : (kind == 9) = false := beq_eq_false_iff_ne.2 h9
    by_cases h6 : kind = 6
    · subst h6
      rw [if_pos rfl] at H
      clear h9
      go_enter Tryz.func147, Tryz.ntmps147
      go_wp2
      all_goals (go_ret; refine ⟨ret_bool ?_, below_new _ _⟩; rw [H.out]; first | (simp_all; done) | (rw [Bool.eq_iff_iff]; simp only [Bool.and_eq_true, decide_eq_true_eq, Bool.false_eq_true, true_iff, false_iff]; omega))
    · rw [if_neg h6] at H
      have n6 : (kind == 6) = false := beq_eq_false_iff_ne.2 h6
      go_enter Tryz.func147, Tryz.ntmps147
      go_wp2
      all_goals (go_ret; refine ⟨ret_bool ?_, below_new _ _⟩; rw [H.out]; first | (simp_all; done) | (rw [Bool.eq_iff_iff]; simp only [Bool.and_eq_true, decide_eq_true_eq, Bool.false_eq_true, true_iff, false_iff]; omega))
set_option maxHeartbeats 4000000 in
theorem mayField_any (A1 A2 : Option Addr) (q1 q2 : Nat) (s : Sc) (d : Df) (w : World) (T : Tabs w) :
    Calls Tryz.prog 114 #[.agg #[.slice A1 s.M.length q1, .slice A2 s.E.length q2], .agg #[.int .i64 d.no, .string (txt d.name), .int .i64 d.kind, .int .i64 d.ref, .bool d.rep, .int .i64 d.key, .int .i64 d.one]] w fun e w' => e = .returned (.bool (fdMayB s d)) ∧ Below w.heap.size w w' := by
  obtain ⟨kb, hkb⟩ : ∃ b, decide (d.key ≠ -1) = b := ⟨_, rfl⟩
  obtain ⟨p1, hp1⟩ : ∃ b, keyedB d.key = b := ⟨_, rfl⟩
  obtain ⟨p2, hp2⟩ : ∃ b, referB s d.kind d.ref = b := ⟨_, rfl⟩
  obtain ⟨p3, hp3⟩ : ∃ b, standB 30 d.one d.rep kb = b := ⟨_, rfl⟩
  have H : Hid (fdMayB s d = (!(kb && !p1) && p2 && p3)) := Lib.hid (by unfold fdMayB; rw [hkb, hp1, hp2, hp3])
  have hk2 : (d.key != -1) = kb := by rw [← hkb]; by_cases h : d.key = -1 <;> simp [h]
  have H1 := fun wx => isKey_any d.key wx
  have H2 := fun wx => mayRefer_any A1 A2 q1 q2 s d.kind d.ref wx
  have H3 := fun wx (hT : Tabs wx) => mayStand_any 30 d.one d.rep kb wx hT
  simp only [hp1] at H1
  simp only [hp2] at H2
  simp only [hp3] at H3
  have Q1 := Lib.hid H1
  have Q2 := Lib.hid H2
  have Q3 := Lib.hid H3
  have hb0 : Below w.heap.size w ((w.alloc (.cells #[.slice A1 s.M.length q1, .slice A2 s.E.length q2] 25)).alloc (.cells #[.int .i64 d.no, .string (txt d.name), .int .i64 d.kind, .int .i64 d.ref, .bool d.rep, .int .i64 d.key, .int .i64 d.one] 48)) := below_lit (below_new _ _) _
  have hx0 := heap_second w (.cells #[.slice A1 s.M.length q1, .slice A2 s.E.length q2] 25) (.cells #[.int .i64 d.no, .string (txt d.name), .int .i64 d.kind, .int .i64 d.ref, .bool d.rep, .int .i64 d.key, .int .i64 d.one] 48)
  have HT := Lib.hid T
  clear H1 H2 H3 hkb hp1 hp2 hp3 T
  have hs0 : ((w.alloc (.cells #[.slice A1 s.M.length q1, .slice A2 s.E.length q2] 25)).alloc (.cells #[.int .i64 d.no, .string (txt d.name), .int .i64 d.kind, .int .i64 d.ref, .bool d.rep, .int .i64 d.key, .int .i64 d.one] 48)).heap.size = w.heap.size + 2 := by simp
  cases kb with
  | true =>
    cases p1 with
    | false =>
      go_enter Tryz.func114, Tryz.ntmps114
      go_wp2_with (go_at_call 146; refine (Q1.out _).mono ?_; rintro e w1 ⟨rfl, rfl⟩)
      go_ret
      exact ⟨by rw [H.out]; rfl, hb0⟩
    | true =>
      cases p2 with
      | false =>
        go_enter Tryz.func114, Tryz.ntmps114
        go_wp2_with (first
          | (go_at_call 146; refine (Q1.out _).mono ?_; rintro e w1 ⟨rfl, rfl⟩)
          | (go_at_call 147; refine (Q2.out _).mono ?_; rintro e w1 ⟨rfl, hb1⟩))
        go_ret
        exact ⟨by rw [H.out]; rfl, below_then hb0 hb1⟩
      | true =>
        go_enter Tryz.func114, Tryz.ntmps114
        go_wp2_with (first
          | (go_at_call 146; refine (Q1.out _).mono ?_; rintro e w1 ⟨rfl, rfl⟩)
          | (go_at_call 147; refine (Q2.out _).mono ?_; rintro e w1 ⟨rfl, hb1⟩; have hx1 := (hb1.block _ (by rw [hs0]; omega)).trans hx0; have c4 := heap_cell hx1 4; have c6 := heap_cell hx1 6; simp at c4 c6)
          | (go_at_call 148; refine (Q3.out _ (HT.out.on (below_then hb0 hb1))).mono ?_; rintro e w2 ⟨rfl, hb2⟩))
        go_ret
        exact ⟨by rw [H.out]; cases p3 <;> rfl, below_then (below_then hb0 hb1) hb2⟩
  | false =>
    cases p2 with
    | false =>
      go_enter Tryz.func114, Tryz.ntmps114
      go_wp2_with (go_at_call 147; refine (Q2.out _).mono ?_; rintro e w1 ⟨rfl, hb1⟩)
      go_ret
      exact ⟨by rw [H.out]; cases p1 <;> rfl, below_then hb0 hb1⟩
    | true =>
      go_enter Tryz.func114, Tryz.ntmps114
      go_wp2_with (first
        | (go_at_call 147; refine (Q2.out _).mono ?_; rintro e w1 ⟨rfl, hb1⟩; have hx1 := (hb1.block _ (by rw [hs0]; omega)).trans hx0; have c4 := heap_cell hx1 4; have c6 := heap_cell hx1 6; simp at c4 c6)
        | (go_at_call 148; refine (Q3.out _ (HT.out.on (below_then hb0 hb1))).mono ?_; rintro e w2 ⟨rfl, hb2⟩))
      go_ret
      exact ⟨by rw [H.out]; cases p1 <;> cases p3 <;> rfl, below_then (below_then hb0 hb1) hb2⟩
set_option maxRecDepth 1000000 in
set_option maxHeartbeats 4000000 in
theorem mayMessage_any (B : Nat) (A1 A2 : Option Addr) (q1 q2 : Nat) (s : Sc) (m : Md) (vF : Value) (w : World) (hB : B ≤ w.heap.size) (hr : Rb B w vF m.F.length 7 (dfv m.F)) (hin : MdIn m) (T : Tabs w) :
    Calls Tryz.prog 70 #[.agg #[.slice A1 s.M.length q1, .slice A2 s.E.length q2], .agg #[.string (txt m.name), vF]] w fun e w' => ∃ b, e = .returned (.bool b) ∧ (b = true ↔ MdMay s m) ∧ Below w.heap.size w w' := by
  have HEA := Lib.hid (fun wx (hx : Below w.heap.size w wx) (hl : m.F.length ≤ 30) => eachDf_any B vF m.F (by omega) wx (Nat.le_trans hB hx.size) (hr.low (Low.below hx hB)))
  obtain ⟨AF, cF, rfl, sF, aF⟩ := hr
  have HSF := Lib.hid sF
  have HIN := Lib.hid hin
  have HT := Lib.hid T
  have HI := Lib.hid (mdMay_iff s m)
  have hb0 : Below w.heap.size w ((w.alloc (.cells #[.slice A1 s.M.length q1, .slice A2 s.E.length q2] 25)).alloc (.cells #[.string (txt m.name), .slice AF m.F.length cF] 58)) := below_lit (below_new _ _) _
  have hx0 : ((w.alloc (.cells #[.slice A1 s.M.length q1, .slice A2 s.E.length q2] 25)).alloc (.cells #[.string (txt m.name), .slice AF m.F.length cF] 58)).heap[w.heap.size]? = some (.cells #[.slice A1 s.M.length q1, .slice A2 s.E.length q2] 25 (0, 0)) := ((below_new _ _).block _ (by simp)).trans (heap_alloc_new w _)
  have hr0 := heap_second w (.cells #[.slice A1 s.M.length q1, .slice A2 s.E.length q2] 25) (.cells #[.string (txt m.name), .slice AF m.F.length cF] 58)
  have hs0 : ((w.alloc (.cells #[.slice A1 s.M.length q1, .slice A2 s.E.length q2] 25)).alloc (.cells #[.string (txt m.name), .slice AF m.F.length cF] 58)).heap.size = w.heap.size + 2 := by simp
  have hnx : ∀ x ∈ mdNames m, x.length ≤ maxLen := by
    intro x hx
    obtain ⟨d, hd, rfl⟩ := List.mem_map.1 hx
    exact (hin.F d hd).name
  have hnl : (mdNames m).length = m.F.length := by simp [mdNames]
  clear sF hin T
  by_cases h30 : m.F.length ≤ 30
  · have hd : decide ((30 : Int) < (m.F.length : Int)) = false := by rw [decide_eq_false_iff_not]; omega
    have HE1 := Lib.hid (HEA.out _ hb0 h30)
    clear HEA
    go_enter Tryz.func70, Tryz.ntmps70
    go_wp2_with (first
      | (go_at_call 111; refine HE1.out.mono ?_; rintro e w1 ⟨uN, rfl, ho1, hb1⟩; obtain ⟨AN, cN, rfl, -⟩ := Sl.of_own ho1; have hz1 := hb1.size; rw [hs0] at hz1; have HF1 := Lib.hid (free1S _ (mdNames m) w1 (by rw [hnl]; exact Rb.of_own ho1) (by omega) hnx))
      | (go_at_call 110; refine HF1.out.mono ?_; rintro e w2 ⟨rfl, hm2, hb2⟩; replace hm2 := hm2.eq (still_none (mdNames m)); rw [hnl] at hm2; have hbw2 := below_then (below_then hb0 hb1) hb2; have hx2 := (hb2.block _ (by omega)).trans ((hb1.block _ (by rw [hs0]; omega)).trans hx0); have hr2 := (hb2.block _ (by omega)).trans ((hb1.block _ (by rw [hs0]; omega)).trans hr0); have c2 := heap_cell hr2 1; simp at c2; have hz2 := hm2.lt))
    obtain ⟨b1, hb1e⟩ : ∃ b1, w1.heap.size + 1 = b1 := ⟨_, rfl⟩
    simp only [hb1e] at hm2 hz2 ⊢
    have l1 : w.heap.size + 2 ≤ b1 := by omega
    have HX2 := Lib.hid hx2
    have HB2 := Lib.hid hbw2
    clear hx0 hr0 hx2 hr2 hb0 hb1 hb2 hbw2 c2 HF1 HE1 hnx ho1
    go_loopw [6, 21] (fun o i wr => ∃ k : Nat, i = .int .i64 k ∧ o = .int .i64 (lastNo m.F k) ∧ k ≤ m.F.length ∧ (∀ j d, j < k → m.F[j]? = some d → mdAtB s m j d = true) ∧ FreeS wr b1 m.F.length (still (mdNames m) [] k) ∧ Below (w.heap.size + 1) w2 wr) (fun _ i _ => m.F.length - (intOf i).toNat)
    case atStart => exact ⟨0, rfl, rfl, by omega, fun j d hj => by omega, hm2, Below.refl _ _⟩
    case round =>
      obtain ⟨k, rfl, rfl, hk, herr, hmS, hb⟩ := hrel
      have hxr := (hb.block w.heap.size (by omega)).trans HX2.out
      have hbw := HB2.out.trans (hb.mono (by omega))
      have hzr := hb.size
      have HQ := Lib.hid herr
      clear herr
      by_cases hlt : k < m.F.length
      · obtain ⟨d, hd0⟩ : ∃ d, m.F[k]? = some d := ⟨_, List.getElem?_eq_getElem hlt⟩
        obtain ⟨ad, rfl, hg, c0, c1, c2, c3, c4, c5, c6⟩ := dfr_at (HSF.out.low aF (Low.below hbw hB)) hd0
        have hdl := (HIN.out.F d (List.mem_of_getElem? hd0)).name
        obtain ⟨ln, hln⟩ : ∃ l, lastNo m.F k = l := ⟨_, rfl⟩
        obtain ⟨p0, hp0⟩ : ∃ b, decide (d.no ≤ ln) = b := ⟨_, rfl⟩
        obtain ⟨p1, hp1⟩ : ∃ b, numberB d.no = b := ⟨_, rfl⟩
        obtain ⟨p2, hp2⟩ : ∃ b, still (mdNames m) [] k d.name = b := ⟨_, rfl⟩
        obtain ⟨p3, hp3⟩ : ∃ b, fdMayB s d = b := ⟨_, rfl⟩
        have HA : Hid (mdAtB s m k d = (!p0 && p1 && p2 && p3)) := Lib.hid (by unfold mdAtB; rw [hln, hp0, hp1, hp2, hp3])
        have T1 := fun wx => isNumber_any d.no wx
        have T2 := fun wx hx => takeS_any b1 m.F.length (still (mdNames m) [] k) d.name hdl wx hx
        have T3 := fun wx (hT : Tabs wx) => mayField_any A1 A2 q1 q2 s d wx hT
        simp only [hp1] at T1
        simp only [hp2] at T2
        simp only [hp3] at T3
        have Q1 := Lib.hid T1
        have Q2 := Lib.hid T2
        have Q3 := Lib.hid T3
        have HD0 := Lib.hid hd0
        have HBW := Lib.hid hbw
        have HXR := Lib.hid hxr
        have bad : ∀ w', mdAtB s m k d = false → Below w.heap.size w w' → ∃ b, Ending.returned (.bool false) = .returned (.bool b) ∧ (b = true ↔ MdMay s m) ∧ Below w.heap.size w w' := fun w' hf hb' => ⟨false, rfl, ⟨fun h => (by cases h), fun h => (by have := (HI.out.1 h).2 k d HD0.out; rw [hf] at this; cases this)⟩, hb'⟩
        have HBAD := Lib.hid bad
        have hne : wr.heap.size ≠ b1 := by have := hmS.lt; omega
        clear hd0 hp1 hp2 hp3 T1 T2 T3 hg bad hbw hxr
        rw [hln]
        cases p0 with
        | true =>
          go_wp2
          go_ret
          exact HBAD.out _ (by rw [HA.out]; rfl) (below_lit HBW.out _)
        | false =>
          cases p1 with
          | false =>
            go_wp2_with (go_at_call 113; refine (Q1.out _).mono ?_; rintro e w7 ⟨rfl, rfl⟩)
            go_ret
            exact HBAD.out _ (by rw [HA.out]; rfl) (below_lit HBW.out _)
          | true =>
            cases p2 with
            | false =>
              go_wp2_with (first
                | (go_at_call 113; refine (Q1.out _).mono ?_; rintro e w7 ⟨rfl, rfl⟩)
                | (go_at_call 69; refine (Q2.out _ (hmS.alloc _)).mono ?_; rintro e w8 ⟨rfl, hm8, hg8⟩))
              go_ret
              exact HBAD.out _ (by rw [HA.out]; rfl) ((below_lit HBW.out _).grown hg8 (by have := HBW.out.size; simp; omega) (fun j hj => by injection hj with hj; omega))
            | true =>
              have hyr := ((below_new wr (.cells #[.int .i64 d.no, .string (txt d.name), .int .i64 d.kind, .int .i64 d.ref, .bool d.rep, .int .i64 d.key, .int .i64 d.one] 48)).block _ (Array.getElem?_eq_some_iff.1 HXR.out).1).trans HXR.out
              cases p3 with
              | false =>
                go_wp2_with (first
                  | (go_at_call 113; refine (Q1.out _).mono ?_; rintro e w7 ⟨rfl, rfl⟩)
                  | (go_at_call 69; refine (Q2.out _ (hmS.alloc _)).mono ?_; rintro e w8 ⟨rfl, hm8, hg8⟩; have hbw8 := (below_lit HBW.out _).grown hg8 (by have := HBW.out.size; simp; omega) (fun j hj => by injection hj with hj; omega); have hx8 := box_kept (heap_alloc_new wr _) hg8 hne; have hy8 := box_kept hyr hg8 (by omega); have e0 := heap_cell hx8 0; have e1 := heap_cell hx8 1; have e2 := heap_cell hx8 2; have e3 := heap_cell hx8 3; have e4 := heap_cell hx8 4; have e5 := heap_cell hx8 5; have e6 := heap_cell hx8 6; have y0 := heap_cell hy8 0; have y1 := heap_cell hy8 1; simp at e0 e1 e2 e3 e4 e5 e6 y0 y1)
                  | (go_at_call 114; refine (Q3.out _ (HT.out.on hbw8)).mono ?_; rintro e w9 ⟨rfl, hb9⟩))
                go_ret
                exact HBAD.out _ (by rw [HA.out]; rfl) (below_then hbw8 hb9)
              | true =>
                go_wp2_with (first
                  | (go_at_call 113; refine (Q1.out _).mono ?_; rintro e w7 ⟨rfl, rfl⟩)
                  | (go_at_call 69; refine (Q2.out _ (hmS.alloc _)).mono ?_; rintro e w8 ⟨rfl, hm8, hg8⟩; have hbw8 := (below_lit HBW.out _).grown hg8 (by have := HBW.out.size; simp; omega) (fun j hj => by injection hj with hj; omega); have hx8 := box_kept (heap_alloc_new wr _) hg8 hne; have hy8 := box_kept hyr hg8 (by omega); have e0 := heap_cell hx8 0; have e1 := heap_cell hx8 1; have e2 := heap_cell hx8 2; have e3 := heap_cell hx8 3; have e4 := heap_cell hx8 4; have e5 := heap_cell hx8 5; have e6 := heap_cell hx8 6; have y0 := heap_cell hy8 0; have y1 := heap_cell hy8 1; simp at e0 e1 e2 e3 e4 e5 e6 y0 y1)
                  | (go_at_call 114; refine (Q3.out _ (HT.out.on hbw8)).mono ?_; rintro e w9 ⟨rfl, hb9⟩; have hx9 := (hb9.block _ (Array.getElem?_eq_some_iff.1 hx8).1).trans hx8; have g0 := heap_cell hx9 0; simp at g0))
                have z8 := hg8.size
                rw [World.size_alloc] at z8
                refine ⟨⟨k + 1, by go_num, ?_, by omega, fun j y hj hy => ?_, (hm8.on hb9).eq (still_next (by simp [mdNames, HD0.out])), ?_⟩, by simp [intOf]; omega⟩
                · have : lastNo m.F (k + 1) = d.no := by unfold lastNo; rw [if_neg (by omega), Nat.add_sub_cancel, HD0.out]; rfl
                  rw [this]
                · by_cases hj2 : j < k
                  · exact HQ.out j y hj2 hy
                  · obtain rfl : j = k := by omega
                    rw [HD0.out] at hy
                    obtain rfl := Option.some.inj hy
                    rw [HA.out]; rfl
                · exact ((hb.alloc (by omega) _).grown hg8 (by simp; omega) (fun j hj => by injection hj with hj; omega)).trans (hb9.mono (by omega))
      · obtain rfl : k = m.F.length := by omega
        go_wp2
        go_ret
        exact ⟨true, rfl, ⟨fun _ => HI.out.2 ⟨h30, fun j d hd => HQ.out j d (List.getElem?_eq_some_iff.1 hd).1 hd⟩, fun _ => rfl⟩, hbw⟩
  · have hd : decide ((30 : Int) < (m.F.length : Int)) = true := by rw [decide_eq_true_eq]; omega
    have HN : Hid (¬ MdMay s m) := Lib.hid (fun h => h30 (HI.out.1 h).1)
    clear h30 HEA hnx
    go_enter Tryz.func70, Tryz.ntmps70
    go_wp2
    go_ret
    exact ⟨false, rfl, ⟨fun h => (by cases h), fun h => absurd h HN.out⟩, hb0⟩
end Go.Proofs.YtjmcpfckcajnjaaGreatDoor
/-
  What a field claims, as a map of the program: the contracts of take and claims.
-/
namespace Go.Proofs.YtjmcpfckcajnjaaGreatDoor.T9
set_option maxRecDepth 100000
open Go.RowKit Go.Maps

/-- A claim of two numbers that a machine has. -/
abbrev Cl := {p : Int × Int // inr p.1 ∧ inr p.2}
def cVal (p : Int × Int) : Value := .agg #[.int .i64 p.1, .int .i64 p.2]
theorem cl_wf {n : Int} (h : inr n) : (Lit.int .i64 n).wf = true := by
  simp only [Lit.wf, Bool.and_eq_true, decide_eq_true_eq]
  exact ⟨by show (-9223372036854775808 : Int) ≤ _; unfold inr at h; omega, by show _ ≤ (9223372036854775807 : Int); unfold inr at h; omega⟩
theorem cl_law : Keyed Tryz.prog 140 := Keyed.of_law (deep_law_laid Tryz.laidOut (m := 2) (by omega) (by decide +kernel) (by kernel_rfl) (by kernel_rfl))
theorem ck_int : Tryz.prog.cellsOf 3 = 1 := by kernel_rfl
theorem ck_claim : Tryz.prog.cellsOf 140 = 2 := by kernel_rfl
theorem ck_key : Tryz.prog.keyType 140 = true := by kernel_rfl
theorem ck_size : ∃ n, Tryz.prog.types.size + 1 = n + 1 + 1 := by
  have : 0 < Tryz.prog.types.size := by decide +kernel
  exact ⟨Tryz.prog.types.size - 1, by omega⟩
theorem lits_int {n : Int} (d : Nat) (h : (Lit.int .i64 n).wf = true) : Tryz.prog.keyLits (d + 1) 3 [.int .i64 n] = some [.int .i64 n] := by
  simp [Program.keyLits, Tryz.underlying3, h]
theorem cl_some (p : Cl) : ∃ l, keyOf Tryz.prog 140 (cVal p.1) = some l := by
  have h1 := cl_wf p.2.1
  have h2 := cl_wf p.2.2
  obtain ⟨n, hn⟩ := ck_size
  have hf : (cVal p.1).formed Tryz.prog 140 = true := by
    unfold Value.formed cVal
    simp [Tryz.underlying140, ck_claim]
  unfold keyOf
  rw [Tryz.underlying140]
  simp only [ck_key, hf, Bool.and_self, if_true]
  rw [hn]
  unfold Program.keyLits
  rw [Tryz.underlying140]
  simp [cVal, Value.cells, ck_claim, ck_int, lits_int n h1, lits_int n h2]
noncomputable def kC (p : Cl) : Lit := (keyOf Tryz.prog 140 (cVal p.1)).getD (.bool false)
theorem kC_key (p : Cl) : keyOf Tryz.prog 140 (cVal p.1) = some (kC p) := by
  obtain ⟨l, hl⟩ := cl_some p
  unfold kC
  rw [hl]; rfl
theorem kC_inj (x y : Cl) (h : kC x = kC y) : x = y := by
  have h1 := kC_key x
  rw [h] at h1
  have h2 := cl_law.inj h1 (kC_key y)
  unfold cVal at h2
  simp only [Value.agg.injEq, Array.mk.injEq, List.cons.injEq, Value.int.injEq, true_and, and_true] at h2
  exact Subtype.ext (Prod.ext h2.1 h2.2)
theorem kC_lit (x : Cl) : WideAt.IsKeyLit (kC x) := cl_law.key (kC_key x)
abbrev FreeC := Free 140 kC
/-- The map of what has been claimed. -/
def Claims (w : World) (b n : Nat) (cl : List (Int × Int)) : Prop := FreeC w b n fun p => cl.contains p.1
theorem Claims.made (w : World) : Claims (w.alloc (.map #[] 0)) w.heap.size 0 [] := Free.made w
set_option maxRecDepth 1000000 in
set_option maxHeartbeats 2000000 in
theorem take_any (b n : Nat) (cl : List (Int × Int)) (x y : Int) (hx : inr x) (hy : inr y) (w : World) (h : Claims w b n cl) (hn : n < 1000000) :
    Calls Tryz.prog 117 #[.map (some b), .agg #[.int .i64 x, .int .i64 y]] w fun e w' => e = .returned (.bool (!cl.contains (x, y))) ∧ Claims w' b (n + 1) ((x, y) :: cl) ∧ w.grownBy w' (some b) := by
  obtain ⟨kl, hkl⟩ : ∃ p : Cl, p.1 = (x, y) := ⟨⟨(x, y), hx, hy⟩, rfl⟩
  have hkey := kC_key kl
  rw [hkl] at hkey
  have X1 := heap_alloc_new w (.cells #[.int .i64 x, .int .i64 y] 140)
  have H1 := Lib.hid (Free.alloc h (.cells #[.int .i64 x, .int .i64 y] 140))
  have H2 := Lib.hid (H1.out.alloc (.cells #[] 132))
  have c0 := heap_cell X1 0
  have c1 := heap_cell X1 1
  simp at c0 c1
  go_enter Tryz.func117, Tryz.ntmps117
  go_wp2_with (first
    | (at_lookup; refine wpList_free_look rfl _ _ 94 132 rfl cl_law Tryz.underlying94 (zero_unit _) b n _ rfl H1.out _ kl rfl hkey ?_)
    | (at_mapUpdate; refine wpList_free_put rfl _ _ _ 94 132 rfl cl_law Tryz.underlying94 kC_inj kC_lit b n _ rfl H2.out (by omega) _ kl rfl rfl hkey ?_; intro w1 h1 hg1)
    | fail)
  go_ret
  refine ⟨by simp, h1.eq ?_, ((World.grownBy_alloc w _ _).trans (World.grownBy_alloc _ _ _)).trans hg1⟩
  funext z
  rw [Bool.eq_iff_iff]
  simp only [Bool.or_eq_true, decide_eq_true_eq, List.contains_cons, beq_iff_eq]
  constructor
  · rintro (h | h)
    · exact .inr h
    · exact .inl (by rw [h, hkl])
  · rintro (h | h)
    · exact .inr (Subtype.ext (h.trans hkl.symm))
    · exact .inl h
abbrev dC (f : Df) : Obj := .cells #[.int .i64 f.no, .string (txt f.name), .int .i64 f.kind, .int .i64 f.ref, .bool f.rep, .int .i64 f.key, .int .i64 f.one] 48
set_option maxRecDepth 1000000 in
set_option maxHeartbeats 2000000 in
theorem claims_any (b n : Nat) (cl : List (Int × Int)) (f : Df) (hf : DfIn f) (w : World) (h : Claims w b n cl) (hn : n < 900000) :
    Calls Tryz.prog 72 #[.map (some b), .agg #[.int .i64 f.no, .string (txt f.name), .int .i64 f.kind, .int .i64 f.ref, .bool f.rep, .int .i64 f.key, .int .i64 f.one]] w fun e w' => e = .returned (.bool (claimB cl f)) ∧ (claimB cl f = true → Claims w' b (n + 2) (claimsOf f ++ cl)) ∧ w.grownBy w' (some b) := by
  have i0 : inr 0 := by unfold inr; omega
  have X1 := heap_alloc_new w (dC f)
  have LBD := World.grownBy_alloc w (dC f) (some b)
  have hlt := Free.lt h
  have H1 := take_any b n cl f.no 0 hf.no i0 (w.alloc (dC f)) (Free.alloc h _) (by omega)
  have HB : Hid (claimB cl f = (!cl.contains (f.no, 0) && (f.one == 0 || !((f.no, 0) :: cl).contains (0, f.one)))) := Lib.hid rfl
  have hne : w.heap.size ≠ b := by omega
  obtain ⟨d, hd⟩ : ∃ d, (!cl.contains (f.no, 0)) = d := ⟨_, rfl⟩
  rw [hd] at H1 HB
  have HH1 := Lib.hid H1
  clear hd H1
  cases d with
  | false =>
    go_enter Tryz.func72, Tryz.ntmps72
    go_wp2_with (go_at_call 117; refine HH1.out.mono ?_; rintro e w1 ⟨rfl, hc1, hg1⟩)
    go_ret
    rw [HB.out]
    exact ⟨rfl, fun h => by simp at h, LBD.trans hg1⟩
  | true =>
    by_cases h0 : f.one = 0
    · have hb0 : (f.one == 0) = true := by simp [h0]
      have HO := Lib.hid h0
      clear h0
      go_enter Tryz.func72, Tryz.ntmps72
      go_wp2_with (go_at_call 117; refine HH1.out.mono ?_; rintro e w1 ⟨rfl, hc1, hg1⟩; have X2 := box_kept X1 hg1 hne; have d6 := heap_cell X2 6; simp at d6)
      go_ret
      rw [HB.out]
      refine ⟨by simp [hb0], fun _ => ?_, LBD.trans hg1⟩
      unfold claimsOf
      rw [if_pos HO.out]
      exact Free.mono hc1 (by omega)
    · have hb0 : (f.one == 0) = false := by simp [h0]
      have HO := Lib.hid h0
      obtain ⟨d2, hd2⟩ : ∃ d, (!((f.no, 0) :: cl).contains (0, f.one)) = d := ⟨_, rfl⟩
      rw [hd2] at HB
      have HH2 := Lib.hid (fun wx (hx : Claims wx b (n + 1) ((f.no, 0) :: cl)) => hd2 ▸ take_any b (n + 1) ((f.no, 0) :: cl) 0 f.one i0 hf.one wx hx (by omega))
      clear h0 hd2
      go_enter Tryz.func72, Tryz.ntmps72
      go_wp2_with fail
      refine HH1.out.mono ?_
      rintro e w1 ⟨rfl, hc1, hg1⟩
      have X2 := box_kept X1 hg1 hne
      have d6 := heap_cell X2 6
      simp at d6
      go_wp2_with fail
      refine (HH2.out _ hc1).mono ?_
      rintro e w2 ⟨rfl, hc2, hg2⟩
      go_wp2
      go_ret
      rw [HB.out]
      refine ⟨by simp [hb0], fun _ => ?_, (LBD.trans hg1).trans hg2⟩
      unfold claimsOf
      rw [if_neg HO.out]
      exact hc2
end Go.Proofs.YtjmcpfckcajnjaaGreatDoor.T9
/-
  Messages, slots and values as arguments, with what their numbers and texts fit.
-/
namespace Go.Proofs.YtjmcpfckcajnjaaGreatDoor.T9
set_option maxRecDepth 100000

open Go.RowKit Go.ChangeShapes Go.WideShapes Go.ChangeAt

/-- A number of 64 bits. -/
def inI (n : Int) : Prop := -9223372036854775808 ≤ n ∧ n ≤ 9223372036854775807
/-- All numbers of a tree have 64 bits, all texts fit the form's memory. -/
inductive MIn : Mg → Prop
  | mk {m : Mg} (h1 : ∀ s ∈ m.F, inI s.no) (h2 : ∀ s ∈ m.F, ∀ v, v ∈ s.K ∨ v ∈ s.V → inI v.n ∧ v.s.length ≤ 140737488351232) (h3 : ∀ s ∈ m.F, ∀ v, v ∈ s.K ∨ v ∈ s.V → ∀ x ∈ v.M, MIn x) : MIn m
def VIn (v : Vl') : Prop := (inI v.n ∧ v.s.length ≤ 140737488351232) ∧ ∀ x ∈ v.M, MIn x
def SIn (s : So) : Prop := inI s.no ∧ ∀ v, v ∈ s.K ∨ v ∈ s.V → VIn v
theorem MIn.slot {m : Mg} (h : MIn m) {s : So} (hs : s ∈ m.F) : SIn s := by
  cases h with
  | mk h1 h2 h3 => exact ⟨h1 s hs, fun v hv => ⟨h2 s hs v hv, h3 s hs v hv⟩⟩
theorem MIn.of {m : Mg} (h : ∀ s ∈ m.F, SIn s) : MIn m := .mk (fun s hs => (h s hs).1) (fun s hs v hv => ((h s hs).2 v hv).1) fun s hs v hv => ((h s hs).2 v hv).2
theorem SIn.val {s : So} (h : SIn s) {v : Vl'} (hv : v ∈ s.K ∨ v ∈ s.V) : VIn v := h.2 v hv
theorem VIn.msg {v : Vl'} (h : VIn v) {x : Mg} (hx : x ∈ v.M) : MIn x := h.2 x hx
/-- What is so of each element, beside how it lies. -/
theorem LsAt.both {α : Type} {R : RP} {e : TypeId} {size : Nat} {C : α → List Value → Prop} {p : α → Prop} {l : List α} {u : Value} (h : LsAt R e size (fun a cs => C a cs ∧ p a) l u) : LsAt R e size C l u ∧ ∀ a ∈ l, p a := by
  obtain ⟨xs, h1, h2⟩ := h
  refine ⟨⟨xs, h1, h2.imp fun a cs h => h.1⟩, ?_⟩
  clear h1
  induction l generalizing xs with
  | nil => intro a ha; cases ha
  | cons y l ih =>
    obtain ⟨cs, ys, h3, h4, h5⟩ := h2
    intro a ha
    rcases List.mem_cons.1 ha with rfl | ha
    · exact h4.2
    · exact ih ys h5 a ha

section

variable {H : Type} {enc : TypeId × Value → H} {W : World} {n : Nat}

theorem ti_string {v : Value} {y : DataW H × List MemPlace} (h : DataW.trod enc Tryz.prog W 0 (fun _ => true) true n 9 [v] = some y) (hz : Szd 9 y.1) : ∃ x : List UInt8, v = .string (tx x) ∧ x.length ≤ 140737488351232 := by
  obtain ⟨s, h1, h3, h2⟩ := DataW.trod_string Tryz.underlying9 h
  refine ⟨s.data.toList, by rw [tx_of]; simpa using h1, ?_⟩
  rw [h3] at hz
  exact hz _ (by simp [DataW.weights])
theorem ti_int {v : Value} {y : DataW H × List MemPlace} (h : DataW.trod enc Tryz.prog W 0 (fun _ => true) true n 3 [v] = some y) : ∃ k : Int, v = .int .i64 k ∧ inI k := by
  obtain ⟨k, h1, _, h2⟩ := DataW.trod_int Tryz.underlying3 h
  exact ⟨k, by simpa using h1, bounds_i64 h2⟩
theorem ti_int64 {v : Value} {y : DataW H × List MemPlace} (h : DataW.trod enc Tryz.prog W 0 (fun _ => true) true n 2 [v] = some y) : ∃ k : Int, v = .int .i64 k ∧ inI k := by
  obtain ⟨k, h1, _, h2⟩ := DataW.trod_int Tryz.underlying2 h
  exact ⟨k, by simpa using h1, bounds_i64 h2⟩
theorem open_valI {N : Nat} (ih : ∀ (n : Nat) (cs : List Value) (y : DataW H × List MemPlace), cs.length = 1 → DataW.trod enc Tryz.prog W 0 (fun _ => true) true n 28 cs = some y → SizeOf.sizeOf y.1 < N → Szd 28 y.1 → ∃ m, MAt (Rd W.heap.size W) N m cs ∧ MIn m)
    {cs : List Value} {y : DataW H × List MemPlace} (hl : cs.length = 3) (h : DataW.trod enc Tryz.prog W 0 (fun _ => true) true n 31 cs = some y) (hy : SizeOf.sizeOf y.1 < N + 2) (hz : Szd 31 y.1) : ∃ v, VAt (Rd W.heap.size W) N v cs ∧ VIn v := by
  obtain ⟨xs, k, -, hx0, -, hxl, hg⟩ := DataW.trod_struct Tryz.underlying31 h
  obtain ⟨x0, x1, x2, rfl⟩ := tr_list3 (show xs.length = 3 from hxl)
  obtain ⟨v0, v1, v2, rfl⟩ := tr_list3 hl
  have g0 : DataW.trod enc Tryz.prog W 0 (fun _ => true) true k 2 (List.take (Tryz.prog.cellsOf 2) [v0, v1, v2]) = some x0 := hg 0 _ rfl
  have g1 : DataW.trod enc Tryz.prog W 0 (fun _ => true) true k 9 (List.take (Tryz.prog.cellsOf 9) [v1, v2]) = some x1 := hg 1 _ rfl
  have g2 : DataW.trod enc Tryz.prog W 0 (fun _ => true) true k 29 (List.take (Tryz.prog.cellsOf 29) [v2]) = some x2 := hg 2 _ rfl
  rw [kt_int64] at g0
  rw [kt_string] at g1
  rw [kt_msgs] at g2
  subst hx0
  obtain ⟨a0, rfl, b0⟩ := ti_int64 g0
  obtain ⟨a1, rfl, b1⟩ := ti_string g1 (hz.struct Tryz.underlying31 1 rfl rfl)
  have hz2 : Szd 29 x2.1 := hz.struct Tryz.underlying31 2 rfl rfl
  have hlt : SizeOf.sizeOf x2.1 < _ := sz_part (parts := [x0.1, x1.1, x2.1]) (by simp : x2.1 ∈ _)
  obtain ⟨M, hM⟩ := open_lesser Tryz.underlying29 kt_msg (by decide) kb_msg (fun m cs => MAt (Rd W.heap.size W) N m cs ∧ MIn m) (fun n cs y hl h hy hz => ih n cs y hl h (by simp only [List.map_cons, List.map_nil] at *; omega) hz) (show DataW.trod enc Tryz.prog W 0 (fun _ => true) true k 29 [v2] = some x2 from g2) hz2
  obtain ⟨hM1, hM2⟩ := hM.both
  exact ⟨⟨a0, a1, M⟩, ⟨v2, rfl, hM1⟩, ⟨b0, b1⟩, hM2⟩
theorem open_slotI {N : Nat} (ih : ∀ (n : Nat) (cs : List Value) (y : DataW H × List MemPlace), cs.length = 1 → DataW.trod enc Tryz.prog W 0 (fun _ => true) true n 28 cs = some y → SizeOf.sizeOf y.1 < N → Szd 28 y.1 → ∃ m, MAt (Rd W.heap.size W) N m cs ∧ MIn m)
    {cs : List Value} {y : DataW H × List MemPlace} (hl : cs.length = 3) (h : DataW.trod enc Tryz.prog W 0 (fun _ => true) true n 36 cs = some y) (hy : SizeOf.sizeOf y.1 < N + 3) (hz : Szd 36 y.1) : ∃ s, SAt' (Rd W.heap.size W) N s cs ∧ SIn s := by
  obtain ⟨xs, k, -, hx0, -, hxl, hg⟩ := DataW.trod_struct Tryz.underlying36 h
  obtain ⟨x0, x1, x2, rfl⟩ := tr_list3 (show xs.length = 3 from hxl)
  obtain ⟨v0, v1, v2, rfl⟩ := tr_list3 hl
  have g0 : DataW.trod enc Tryz.prog W 0 (fun _ => true) true k 3 (List.take (Tryz.prog.cellsOf 3) [v0, v1, v2]) = some x0 := hg 0 _ rfl
  have g1 : DataW.trod enc Tryz.prog W 0 (fun _ => true) true k 34 (List.take (Tryz.prog.cellsOf 34) [v1, v2]) = some x1 := hg 1 _ rfl
  have g2 : DataW.trod enc Tryz.prog W 0 (fun _ => true) true k 34 (List.take (Tryz.prog.cellsOf 34) [v2]) = some x2 := hg 2 _ rfl
  rw [kt_int] at g0
  rw [kt_vals] at g1 g2
  obtain ⟨a0, rfl, b0⟩ := ti_int g0
  subst hx0
  have hz1 : Szd 34 x1.1 := hz.struct Tryz.underlying36 1 rfl rfl
  have hz2 : Szd 34 x2.1 := hz.struct Tryz.underlying36 2 rfl rfl
  have hlt1 : SizeOf.sizeOf x1.1 < _ := sz_part (parts := [x0.1, x1.1, x2.1]) (by simp : x1.1 ∈ _)
  have hlt2 : SizeOf.sizeOf x2.1 < _ := sz_part (parts := [x0.1, x1.1, x2.1]) (by simp : x2.1 ∈ _)
  obtain ⟨K, hK⟩ := open_lesser Tryz.underlying34 kt_val (by decide) kb_val (fun m cs => VAt (Rd W.heap.size W) N m cs ∧ VIn m) (fun n cs y hl h hy hz => open_valI ih hl h (by simp only [List.map_cons, List.map_nil] at *; omega) hz) (show DataW.trod enc Tryz.prog W 0 (fun _ => true) true k 34 [v1] = some x1 from g1) hz1
  obtain ⟨V, hV⟩ := open_lesser Tryz.underlying34 kt_val (by decide) kb_val (fun m cs => VAt (Rd W.heap.size W) N m cs ∧ VIn m) (fun n cs y hl h hy hz => open_valI ih hl h (by simp only [List.map_cons, List.map_nil] at *; omega) hz) (show DataW.trod enc Tryz.prog W 0 (fun _ => true) true k 34 [v2] = some x2 from g2) hz2
  obtain ⟨hK1, hK2⟩ := hK.both
  obtain ⟨hV1, hV2⟩ := hV.both
  exact ⟨⟨a0, K, V⟩, ⟨v1, v2, rfl, hK1, hV1⟩, b0, fun v hv => hv.elim (hK2 v) (hV2 v)⟩
theorem open_msg0I : ∀ (N n : Nat) (cs : List Value) (y : DataW H × List MemPlace), cs.length = 1 → DataW.trod enc Tryz.prog W 0 (fun _ => true) true n 28 cs = some y → SizeOf.sizeOf y.1 < N → Szd 28 y.1 → ∃ m, MAt (Rd W.heap.size W) N m cs ∧ MIn m
  | 0, _, _, _, _, _, h, _ => by omega
  | N + 1, n, cs, y, hl, h, hy, hz => by
    obtain ⟨xs, k, -, hx0, -, hxl, hg⟩ := DataW.trod_struct Tryz.underlying28 h
    obtain ⟨x0, rfl⟩ := tr_list1 (show xs.length = 1 from hxl)
    obtain ⟨v0, rfl⟩ := tr_list1 hl
    have g0 : DataW.trod enc Tryz.prog W 0 (fun _ => true) true k 26 (List.take (Tryz.prog.cellsOf 26) [v0]) = some x0 := hg 0 _ rfl
    rw [kt_slots] at g0
    subst hx0
    have hz1 : Szd 26 x0.1 := hz.struct Tryz.underlying28 0 rfl rfl
    have hlt1 : SizeOf.sizeOf x0.1 < _ := sz_part (parts := [x0.1]) (by simp : x0.1 ∈ _)
    obtain ⟨F, hF⟩ := open_lesser Tryz.underlying26 kt_slot (by decide) kb_slot (fun m cs => SAt' (Rd W.heap.size W) N m cs ∧ SIn m) (fun n cs y hl h hy hz => open_slotI (open_msg0I N) hl h (by simp only [List.map_cons, List.map_nil] at *; omega) hz) (show DataW.trod enc Tryz.prog W 0 (fun _ => true) true k 26 [v0] = some x0 from g0) hz1
    obtain ⟨hF1, hF2⟩ := hF.both
    exact ⟨.mk F, ⟨v0, rfl, hF1⟩, .of hF2⟩
/-- A message that comes in. -/
theorem open_msgI {base : Nat} {v : Value} {d : DataW H} {ps : List MemPlace}
    (hval : Value.okWide Tryz.prog W .any base 28 v) (h : DataW.Trod enc Tryz.prog W 0 (fun _ => true) true 28 v d ps) (hz : Szd 28 d) :
    ∃ (m : Mg) (u : Value) (k : Nat), v = .agg #[u] ∧ MRd W.heap.size W k m u ∧ MIn m := by
  obtain ⟨cs, rfl, hsz⟩ := okWide_struct Tryz.underlying28 hval
  obtain ⟨l⟩ := cs
  obtain ⟨fuel, hf⟩ := h
  obtain ⟨xs, k, -, -, hlen, hxl, hg⟩ := DataW.trod_struct Tryz.underlying28 hf
  have hl1 : l.length = 1 := by rw [kt_msg] at hlen; simpa [Value.cells] using hlen
  obtain ⟨u, rfl⟩ := tr_list1 hl1
  obtain ⟨m, hm, hi⟩ := open_msg0I (SizeOf.sizeOf d + 1) fuel [u] (d, ps) rfl (by simpa [Value.cells] using hf) (Nat.lt_succ_self _) hz
  exact ⟨m, u, _, rfl, hm, hi⟩
/-- A slot that comes in. -/
theorem open_slI {base : Nat} {v : Value} {d : DataW H} {ps : List MemPlace}
    (hval : Value.okWide Tryz.prog W .any base 36 v) (h : DataW.Trod enc Tryz.prog W 0 (fun _ => true) true 36 v d ps) (hz : Szd 36 d) :
    ∃ (s : So) (u1 u2 : Value) (k : Nat), v = .agg #[.int .i64 s.no, u1, u2] ∧ SAt' (Rd W.heap.size W) k s [.int .i64 s.no, u1, u2] ∧ SIn s := by
  obtain ⟨cs, rfl, hsz⟩ := okWide_struct Tryz.underlying36 hval
  obtain ⟨l⟩ := cs
  obtain ⟨fuel, hf⟩ := h
  obtain ⟨xs, k, -, -, hlen, hxl, hg⟩ := DataW.trod_struct Tryz.underlying36 hf
  have hl1 : l.length = 3 := by rw [kt_slot] at hlen; simpa [Value.cells] using hlen
  obtain ⟨s, hs, hi⟩ := open_slotI (open_msg0I (SizeOf.sizeOf d + 1)) (y := (d, ps)) hl1 (by simpa [Value.cells] using hf) (show SizeOf.sizeOf d < _ by omega) hz
  obtain ⟨u1, u2, rfl, h2⟩ := id hs
  exact ⟨s, u1, u2, _, rfl, hs, hi⟩
/-- A value that comes in. -/
theorem open_vaI {base : Nat} {v : Value} {d : DataW H} {ps : List MemPlace}
    (hval : Value.okWide Tryz.prog W .any base 31 v) (h : DataW.Trod enc Tryz.prog W 0 (fun _ => true) true 31 v d ps) (hz : Szd 31 d) :
    ∃ (s : Vl') (u : Value) (k : Nat), v = .agg #[.int .i64 s.n, .string (tx s.s), u] ∧ VAt (Rd W.heap.size W) k s [.int .i64 s.n, .string (tx s.s), u] ∧ VIn s := by
  obtain ⟨cs, rfl, hsz⟩ := okWide_struct Tryz.underlying31 hval
  obtain ⟨l⟩ := cs
  obtain ⟨fuel, hf⟩ := h
  obtain ⟨xs, k, -, -, hlen, hxl, hg⟩ := DataW.trod_struct Tryz.underlying31 hf
  have hl1 : l.length = 3 := by rw [kt_val] at hlen; simpa [Value.cells] using hlen
  obtain ⟨s, hs, hi⟩ := open_valI (open_msg0I (SizeOf.sizeOf d + 1)) (y := (d, ps)) hl1 (by simpa [Value.cells] using hf) (show SizeOf.sizeOf d < _ by omega) hz
  obtain ⟨u, rfl, h2⟩ := id hs
  exact ⟨s, u, _, rfl, hs, hi⟩
end

end Go.Proofs.YtjmcpfckcajnjaaGreatDoor.T9
/-
  An enum that is resolved: the contract.
-/
namespace Go.Proofs.YtjmcpfckcajnjaaGreatDoor
set_option maxRecDepth 100000

open Go.RowKit Go.Maps

def enmR (e : En) : Ed := if (firstOf (vlErr e) e.V).isSome then ⟨[], [], []⟩ else enD e
theorem enmR_bad {e : En} {r : Int × Nat} (h : firstOf (vlErr e) e.V = some r) : enmR e = ⟨[], [], []⟩ := by unfold enmR; rw [h]; rfl
theorem infoEd : (Tryz.prog.info? 75).map (·.size) = some 3 := by kernel_rfl
theorem wpList_store_ed {ops : Array Oper} {rest : List Oper} {o : Oper} {a : Act} {w : World} {Q : Exit → Act → World → Prop} (hgd : o.guard = none) (x y : Operand) (ho : o.op = .store 75 x y)
    (hd : o.dst = none) (g : Nat) (v0 v1 v2 u0 u1 u2 : Value) (hx : a.eval x = .pointer (some ⟨g, 0, none⟩)) (hy : a.eval y = .agg #[v0, v1, v2]) (h0 : v0.oneCell' = true) (h1 : v1.oneCell' = true) (h2 : v2.oneCell' = true)
    (t : TypeId) (hg : w.heap[g]? = some (.cells #[u0, u1, u2] t (0, 0)))
    (h : wpList Tryz.prog ops Q rest a (w.setRow g #[v0, v1, v2])) : wpList Tryz.prog ops Q (o :: rest) a w :=
  wpList_store_rowTo hgd 75 x y ho hd g _ hx hy t _ hg infoEd rfl (by simp [h0, h1, h2]) h
theorem wpList_load_ed {ops : Array Oper} {rest : List Oper} {o : Oper} {a : Act} {w : World} {Q : Exit → Act → World → Prop} (hgd : o.guard = none) (x : Operand) (ho : o.op = .load 75 x)
    (g : Nat) (u0 u1 u2 : Value) (hx : a.eval x = .pointer (some ⟨g, 0, none⟩)) (t : TypeId) (fr : Nat × Nat) (hg : w.heap[g]? = some (.cells #[u0, u1, u2] t fr))
    (h : wpList Tryz.prog ops Q rest (a.put o.dst (.agg #[u0, u1, u2])) w) : wpList Tryz.prog ops Q (o :: rest) a w :=
  wpList_load_row hgd 75 x ho g hx t _ fr _ hg Tryz.underlying75 rfl infoEd h
theorem results_ed2 {fn : Func} {p u v : Tmp} (h : fn.results = #[.cell p 75, .tmp u, .tmp v]) (tmps : Array Value) (w : World) (g : Nat) (t : TypeId) (u0 u1 u2 : Value) (fr : Nat × Nat)
    (hp : tmps.getD p undef = .pointer (some ⟨g, 0, none⟩)) (hg : w.heap[g]? = some (.cells #[u0, u1, u2] t fr)) :
    (results fn tmps).run Tryz.prog w = .ok (.tuple #[.agg #[u0, u1, u2], tmps.getD u undef, tmps.getD v undef]) w :=
  results_row_tmp2 h tmps w g t _ fr _ hp hg Tryz.underlying75 rfl infoEd
theorem box3c {w : World} {g : Nat} {a b c : Value} {t : TypeId} (h : w.heap[g]? = some (.cells #[a, b, c] t (0, 0))) : w.heap[g]? = some (.cells #[a, b, c] t (0, 0)) ∧ w.cell? ⟨g, 0, none⟩ = some a ∧ w.cell? ⟨g, 1, none⟩ = some b ∧ w.cell? ⟨g, 2, none⟩ = some c :=
  ⟨h, by rw [heap_cell h 0]; rfl, by rw [heap_cell h 1]; rfl, by rw [heap_cell h 2]; rfl⟩
theorem box3c_below {w w' : World} {g : Nat} {a b c : Value} {t : TypeId} (hb : Below w.heap.size w w') (h : w.heap[g]? = some (.cells #[a, b, c] t (0, 0)) ∧ w.cell? ⟨g, 0, none⟩ = some a ∧ w.cell? ⟨g, 1, none⟩ = some b ∧ w.cell? ⟨g, 2, none⟩ = some c) : w'.heap[g]? = some (.cells #[a, b, c] t (0, 0)) ∧ w'.cell? ⟨g, 0, none⟩ = some a ∧ w'.cell? ⟨g, 1, none⟩ = some b ∧ w'.cell? ⟨g, 2, none⟩ = some c :=
  box3c ((hb.block g (Array.getElem?_eq_some_iff.1 h.1).1).trans h.1)
theorem box3c_cells {w : World} {g p : Nat} {a b c : Value} {t : TypeId} (u v x : Value) (hne : g ≠ p) (h : w.heap[g]? = some (.cells #[a, b, c] t (0, 0)) ∧ w.cell? ⟨g, 0, none⟩ = some a ∧ w.cell? ⟨g, 1, none⟩ = some b ∧ w.cell? ⟨g, 2, none⟩ = some c) :
    (((w.setCell ⟨p, 0, none⟩ u).setCell ⟨p, 1, none⟩ v).setCell ⟨p, 2, none⟩ x).heap[g]? = some (.cells #[a, b, c] t (0, 0)) ∧ (((w.setCell ⟨p, 0, none⟩ u).setCell ⟨p, 1, none⟩ v).setCell ⟨p, 2, none⟩ x).cell? ⟨g, 0, none⟩ = some a ∧ (((w.setCell ⟨p, 0, none⟩ u).setCell ⟨p, 1, none⟩ v).setCell ⟨p, 2, none⟩ x).cell? ⟨g, 1, none⟩ = some b ∧ (((w.setCell ⟨p, 0, none⟩ u).setCell ⟨p, 1, none⟩ v).setCell ⟨p, 2, none⟩ x).cell? ⟨g, 2, none⟩ = some c :=
  box3c (by rw [Below.heap_setCell _ _ _ _ hne, Below.heap_setCell _ _ _ _ hne, Below.heap_setCell _ _ _ _ hne]; exact h.1)
theorem zed {X w' : World} {cs : Array Value} {t : TypeId} (hb : Below (X.alloc (.cells cs t)).heap.size (X.alloc (.cells cs t)) w') : w'.heap[X.heap.size]? = some (.cells cs t (0, 0)) := (hb.block _ (by simp)).trans (heap_alloc_new X _)
theorem zedD {X w' : World} {cs : Array Value} {t : TypeId} (hb : Below ((X.alloc (.cells cs t)).drew).heap.size ((X.alloc (.cells cs t)).drew) w') : w'.heap[X.heap.size]? = some (.cells cs t (0, 0)) := (hb.block _ (by show _ < (X.alloc _).heap.size; simp)).trans (heap_alloc_new X _)
theorem zed_cells {w : World} {g : Nat} {t : TypeId} (h : w.heap[g]? = some (.cells #[.string ⟨#[]⟩, .slice none 0 0, .slice none 0 0] t (0, 0))) : w.cell? ⟨g, 0, none⟩ = some (.string ⟨#[]⟩) ∧ w.cell? ⟨g, 1, none⟩ = some (.slice none 0 0) ∧ w.cell? ⟨g, 2, none⟩ = some (.slice none 0 0) ∧ w.frozen? ⟨g, 0, none⟩ = false ∧ w.frozen? ⟨g, 1, none⟩ = false ∧ w.frozen? ⟨g, 2, none⟩ = false :=
  ⟨by rw [heap_cell h 0]; rfl, by rw [heap_cell h 1]; rfl, by rw [heap_cell h 2]; rfl, heap_free h 0, heap_free h 1, heap_free h 2⟩
theorem set3 {w : World} {g : Nat} {a b c : Value} {t : TypeId} (h : w.heap[g]? = some (.cells #[a, b, c] t (0, 0))) (u v x : Value) : ((((w.setCell ⟨g, 0, none⟩ u).setCell ⟨g, 1, none⟩ v).setCell ⟨g, 2, none⟩ x).drew).heap[g]? = some (.cells #[u, v, x] t (0, 0)) := by
  have h1 := heap_setCell_same h (j := 0) u
  have h2 := heap_setCell_same h1 (j := 1) v
  have h3 := heap_setCell_same h2 (j := 2) x
  show (((w.setCell ⟨g, 0, none⟩ u).setCell ⟨g, 1, none⟩ v).setCell ⟨g, 2, none⟩ x).heap[g]? = _
  simpa using h3
theorem below_set3 {w w' : World} {g : Nat} (h : Below w.heap.size w w') (hg : w.heap.size ≤ g) (u v x : Value) : Below w.heap.size w ((((w'.setCell ⟨g, 0, none⟩ u).setCell ⟨g, 1, none⟩ v).setCell ⟨g, 2, none⟩ x).drew) :=
  (((h.setCell hg u).setCell hg v).setCell hg x).trans (Below.refl _ _).drew
theorem heap_cells3 (w : World) {g p : Nat} (u v x : Value) (hne : g ≠ p) : (((w.setCell ⟨p, 0, none⟩ u).setCell ⟨p, 1, none⟩ v).setCell ⟨p, 2, none⟩ x).heap[g]? = w.heap[g]? := by
  rw [Below.heap_setCell _ _ _ _ hne, Below.heap_setCell _ _ _ _ hne, Below.heap_setCell _ _ _ _ hne]
theorem cells3_same {w : World} {g : Nat} {a b c : Value} {t : TypeId} (h : w.heap[g]? = some (.cells #[a, b, c] t (0, 0))) (u v x : Value) : (((w.setCell ⟨g, 0, none⟩ u).setCell ⟨g, 1, none⟩ v).setCell ⟨g, 2, none⟩ x).heap[g]? = some (.cells #[u, v, x] t (0, 0)) := by
  have h1 := heap_setCell_same h (j := 0) u
  have h2 := heap_setCell_same h1 (j := 1) v
  have h3 := heap_setCell_same h2 (j := 2) x
  simpa using h3
theorem cells3_grown (w : World) (g : Nat) (u v x : Value) : w.grownBy (((w.setCell ⟨g, 0, none⟩ u).setCell ⟨g, 1, none⟩ v).setCell ⟨g, 2, none⟩ x) (some g) := ((grown_set w g 0 u).trans (grown_set _ g 1 v)).trans (grown_set _ g 2 x)
theorem en_err {e : En} {r : Nat} (h1 : ∀ (k : Nat) x n, k < r → (e.V.map (·.name))[k]? = some x → (e.V.map (·.n))[k]? = some n → wrongB (e.V.map (·.name)) (e.V.map (·.n)) k x n = false) (h2 : ∀ x n, (e.V.map (·.name))[r]? = some x → (e.V.map (·.n))[r]? = some n → wrongB (e.V.map (·.name)) (e.V.map (·.n)) r x n = true) :
    (∀ v, e.V[r]? = some v → firstOf (vlErr e) e.V = some (v.at_, 4)) ∧ (e.V.length ≤ r → firstOf (vlErr e) e.V = none) := by
  have hb : ∀ k v, k < r → e.V[k]? = some v → vlErr e k v = none := by
    intro k v hk hv
    rw [wrong_vl, h1 k v.name v.n hk (by simp [hv]) (by simp [hv])]
    rfl
  constructor
  · intro v hv
    refine firstOf_at hb hv ?_
    rw [wrong_vl, h2 v.name v.n (by simp [hv]) (by simp [hv])]
    rfl
  · intro hr
    refine firstOf_none.2 fun k v hv => hb k v ?_ hv
    have := (List.getElem?_eq_some_iff.1 hv).1
    omega

end Go.Proofs.YtjmcpfckcajnjaaGreatDoor
/-
  May an enum be: the contract.
-/
namespace Go.Proofs.YtjmcpfckcajnjaaGreatDoor
set_option maxRecDepth 100000

open Go.RowKit Go.Maps

set_option maxRecDepth 1000000 in
set_option maxHeartbeats 8000000 in
theorem mayEnum_any (B : Nat) (e : Ed) (vV vN : Value) (w : World) (hB : B ≤ w.heap.size) (hV : Rb B w vV e.V.length 1 (strv e.V)) (hN : Rb B w vN e.N.length 1 (intv e.N)) (hin : EdIn e) :
    Calls Tryz.prog 71 #[.agg #[.string (txt e.name), vV, vN]] w fun ee w' => ∃ b, ee = .returned (.bool b) ∧ (b = true ↔ EdMay e) ∧ Below w.heap.size w w' := by
  have HWR := Lib.hid (fun wx (hx : Below w.heap.size w wx) (hlen : e.V.length = e.N.length) (hl : e.N.length ≤ 100000) => wrong_any B vV vN e.V e.N wx (Nat.le_trans hB hx.size) (hV.low (Low.below hx hB)) (hN.low (Low.below hx hB)) hlen hl hin.V hin.N)
  obtain ⟨A1, q1, rfl, -, -⟩ := hV
  obtain ⟨A2, q2, rfl, -, -⟩ := hN
  have HI := Lib.hid (edMay_iff e)
  have HMN := Lib.hid (fun wx => mayName_any (e.V.length : Int) wx)
  have hb0 : Below w.heap.size w ((w.alloc (.cells #[.string (txt e.name), .slice A1 e.V.length q1, .slice A2 e.N.length q2] 75)).drew) := (below_new _ _).trans (Below.refl _ _).drew
  have h0 := box3c (w := (w.alloc (.cells #[.string (txt e.name), .slice A1 e.V.length q1, .slice A2 e.N.length q2] 75)).drew) (heap_alloc_new w (.cells #[.string (txt e.name), .slice A1 e.V.length q1, .slice A2 e.N.length q2] 75))
  clear hin
  by_cases ha : 1 ≤ e.V.length ∧ e.V.length ≤ 30
  · have h1 : (decide (1 ≤ (e.V.length : Int)) && decide ((e.V.length : Int) ≤ 30)) = true := by
      simp only [Bool.and_eq_true, decide_eq_true_eq]; omega
    rw [h1] at HMN
    by_cases hl : e.V.length = e.N.length
    · have HW2 := Lib.hid (HWR.out _ hb0 hl (by omega))
      have he : ((e.V.length : Int) == (e.N.length : Int)) = true := by rw [beq_iff_eq]; omega
      have HHL := Lib.hid hl
      have HHA := Lib.hid ha
      clear h1 ha hl HWR
      go_enter Tryz.func71, Tryz.ntmps71
      go_wp2_with fail
      go_region_held3 (fun w' => w'.heap[w.heap.size]? = some (.cells #[.string (txt e.name), .slice A1 e.V.length q1, .slice A2 e.N.length q2] 75 (0, 0)) ∧ w'.cell? ⟨w.heap.size, 0, none⟩ = some (.string (txt e.name)) ∧ w'.cell? ⟨w.heap.size, 1, none⟩ = some (.slice A1 e.V.length q1) ∧ w'.cell? ⟨w.heap.size, 2, none⟩ = some (.slice A2 e.N.length q2))
        (first | exact h0 | exact box3c_below hb6 ‹_› | go_keep)
        ((first
          | (go_at_call 115; refine (HMN.out _).mono ?_; rintro ee w1 ⟨rfl, rfl⟩)
          | (go_at_call 116; refine HW2.out.mono ?_; rintro ee w6 ⟨r, rfl, hr1, hr2, hr3, hb6⟩)))
      go_wp2
      go_ret
      refine ⟨_, rfl, ?_, below_then hb0 hb6⟩
      rw [HI.out]
      show ((r : Int) == (e.V.length : Int)) = true ↔ _
      rw [beq_iff_eq]
      constructor
      · intro hr
        refine ⟨HHA.out.1, HHA.out.2, HHL.out, fun k x n hx hn => hr2 k x n ?_ hx hn⟩
        have := (List.getElem?_eq_some_iff.1 hx).1
        omega
      · rintro ⟨-, -, -, h4⟩
        by_cases hlt : r < e.V.length
        · have hlt2 : r < e.N.length := by have := HHL.out; omega
          have h5 := h4 r _ _ (List.getElem?_eq_getElem hlt) (List.getElem?_eq_getElem hlt2)
          rw [hr3 _ _ (List.getElem?_eq_getElem hlt) (List.getElem?_eq_getElem hlt2)] at h5
          cases h5
        · have := HHL.out
          omega
    · have he : ((e.V.length : Int) == (e.N.length : Int)) = false := by rw [beq_eq_false_iff_ne]; omega
      have HNO : Hid (¬ EdMay e) := Lib.hid (fun h => hl (HI.out.1 h).2.2.1)
      have hl2 : ¬ ((e.V.length : Int) = (e.N.length : Int)) := by omega
      clear h1 ha HWR
      go_enter Tryz.func71, Tryz.ntmps71
      go_wp2_with fail
      go_quiet (first | (go_at_call_of 115 (Value.int IntKind.i64 (e.V.length : Int)); refine Calls.quiet_of_same ((HMN.out _).mono fun _ _ h => ⟨h.1, h.2.symm⟩)))
      go_wp2
      go_ret
      exact ⟨false, rfl, ⟨fun h => (by cases h), fun h => absurd h HNO.out⟩, below_draws (below_new _ _) _⟩
  · have h1 : (decide (1 ≤ (e.V.length : Int)) && decide ((e.V.length : Int) ≤ 30)) = false := by
      simp only [Bool.and_eq_false_iff, decide_eq_false_iff_not]; omega
    rw [h1] at HMN
    have HNO : Hid (¬ EdMay e) := Lib.hid (fun h => ha ⟨(HI.out.1 h).1, (HI.out.1 h).2.1⟩)
    clear h1 ha HWR
    go_enter Tryz.func71, Tryz.ntmps71
    go_wp2_with fail
    go_quiet (first | (go_at_call_of 115 (Value.int IntKind.i64 (e.V.length : Int)); refine Calls.quiet_of_same ((HMN.out _).mono fun _ _ h => ⟨h.1, h.2.symm⟩)))
    go_wp2
    go_ret
    exact ⟨false, rfl, ⟨fun h => (by cases h), fun h => absurd h HNO.out⟩, below_draws (below_new _ _) _⟩
end Go.Proofs.YtjmcpfckcajnjaaGreatDoor
