/-
  slices.Insert at slots: one slot goes into a row of the call's own.
-/
import Derived.Test.YtggcjdajmbkpiaaGreatDoorTrOwn
import Derived.Laws.CopyRow
import Derived.Lib.AppendZerosOnto
import Derived.Lib.AppendZeros
import Derived.Lib.Overlaps
import Derived.Laws.Externs
import Derived.Shelf.RegionOpenPlain
namespace Go.Proofs.YtggcjdajmbkpiaaGreatDoor.T9
set_option maxRecDepth 100000

open Go.RowKit

section

variable {P : Program}

/-- copy, of elements of so many cells, into a row that is wholly known. -/
theorem run_copy_many (w : World) (dT sT ty elem : TypeId) (g o dLen dCap : Nat) (a : Addr) (sLen sCap : Nat) (cur : Array Value) (t : TypeId) (cs : List Value) (k n : Nat)
    (hu : P.underlying dT = some (.slice elem)) (hs : (P.info? elem).map (·.size) = some k)
    (hg : w.heap[g]? = some (.cells cur t (0, 0))) (hn : Nat.min sLen dLen = n) (hcs : cs.length = n * k)
    (hsrc : ∀ j v, cs[j]? = some v → w.cell? (a.add j) = some v) (hfit : o + cs.length ≤ cur.size) (h1 : ∀ v ∈ cs, v.oneCell' = true) :
    (Builtin.copy_ #[dT, sT] ty #[.slice (some ⟨g, o, none⟩) dLen dCap, .slice (some a) sLen sCap]).run P w =
      .ok (goInt n) (w.setRow g (cur.toList.take o ++ cs ++ cur.toList.drop (o + cs.length)).toArray) := by
  have hl := run_loadCells_list (P := P) w a cs hsrc
  have hst := run_storeCells_at P g o t cs 0 cur w hg (by simpa using hfit) h1
  rw [hcs] at hl
  cases hq : P.info? elem with
  | none => simp [hq] at hs
  | some i =>
    have hi : i.size = k := by simpa [hq] using hs
    simp [Builtin.copy_, run_underlying hu, Builtin.lenOf, Builtin.firstCells, sizeOf, typeInfo, hq, hi, hn, hl, hst]
theorem wpList_copy_is (w : World) {ops : Array Oper} {rest : List Oper} {o : Oper} {a : Act} {Q : Exit → Act → World → Prop} (hgd : o.guard = none) (d s : Operand) (t t' : TypeId)
    (ho : o.op = .call { callee := .builtin .copy, args := #[d, s], argTypes := #[t, t'] }) (v u : Value) (hd : a.eval d = v) (hs : a.eval s = u) {v' : Value} {w' : World}
    (hr : (Builtin.copy_ #[t, t'] o.type #[v, u]).run P w = .ok v' w') (h : wpList P ops Q rest (a.put o.dst v') w') : wpList P ops Q (o :: rest) a w :=
  wpList_plain hgd fun _ hK => by
    unfold Oper.wp execOp
    simp only [ho, resolve, invoke, builtin, Sem.run_bind, Sem.run_pure, Result.andThen_ok, List.map_toArray, List.map_cons, List.map_nil, hd, hs, hr]
    exact hK _ _ h
theorem step_copy_is {ops : Array Oper} {o : Oper} {a : Act} {w : World} {K : Act → World → Prop} {Q : Exit → Act → World → Prop} {E : Prop}
    (hg : o.guard = none) (d x : Operand) (dT sT : TypeId) (hop : o.op = Op.call { callee := Callee.builtin Builtin.copy, args := #[d, x], argTypes := #[dT, sT] })
    (v u : Value) (hd : a.eval d = v) (hx : a.eval x = u) {v' : Value} {w' : World} (hr : (Builtin.copy_ #[dT, sT] o.type #[v, u]).run P w = .ok v' w') (hK : K (a.put o.dst v') w') :
    if Region.wanted o (yielded ops a.tmps) = true then Oper.wp P o a w K Q else E := by
  have hw : Region.wanted o (yielded ops a.tmps) = true := by simp [Region.wanted, hg]
  rw [if_pos hw]
  unfold Oper.wp
  simp [execOp, hop, resolve, invoke, builtin, hd, hx, hr, Result.andThen]
  exact hK
end

set_option maxRecDepth 1000000 in
set_option maxHeartbeats 4000000 in
theorem insert_end (b n : Nat) (xs : List Value) (v x y z : Value) (gv : Nat) (w : World) (hown : w.ownsRow b 36 3 v n xs) (hbw : b ≤ w.heap.size) (hv : w.heap[gv]? = some (.cells #[x, y, z] 36 (0, 0)))
    (h1 : ∀ u ∈ [x, y, z], u.oneCell' = true) (hn : n ≤ 1000000000) :
    Calls Tryz.prog 67 #[v, .int .i64 n, .slice (some ⟨gv, 0, none⟩) 1 1] w fun e w' => ∃ v', e = .returned v' ∧ w'.ownsRow b 36 3 v' (n + 1) (xs ++ [x, y, z]) ∧ w.grownBy w' v.ownBlock := by
  obtain ⟨i0, hi, hz0, hz1, hz2⟩ := info_parts info_slot
  have hvl : Sl w (some ⟨gv, 0, none⟩) 1 1 3 [x, y, z] := by
    refine ⟨by simp, by omega, by unfold maxLen; omega, by simp, fun ad ha _ => ?_, fun ad ha k u hu => ?_⟩
    · obtain rfl := Option.some.inj ha
      exact box_lt hv
    · obtain rfl := Option.some.inj ha
      rw [Addr.add_lit, box_cell hv]
      simpa using hu
  obtain ⟨A, c, rfl, hsl⟩ := Sl.of_own hown
  have hle := hsl.le
  have hcap := hsl.cap
  unfold maxLen at hcap
  clear hsl
  have HO := Lib.hid hown
  by_cases hc : n = c
  · subst hc
    go_enter Tryz.func67, Tryz.ntmps67
    go_wp2_with (at_builtin; refine wpList_app_sl rfl _ _ 26 rfl b 36 i0 (.agg #[.int .i64 0, .slice none 0 0, .slice none 0 0]) 3 56 Tryz.underlying26 hi hz0 hz1 hz2 rfl (by omega) _ n xs rfl HO.out _ 1 1 [x, y, z] rfl hvl h1 (by unfold maxLen; omega) (by omega) hbw ?_; intro v' w' hown' hg')
    go_ret
    exact ⟨_, rfl, hown', hg'⟩
  · have hlt : ¬ (c = n) := fun h => hc h.symm
    go_enter Tryz.func67, Tryz.ntmps67
    cases A with
    | none =>
      have := hown.2
      simp at this
      omega
    | some ad =>
      go_wp2_with (at_builtin; refine wpList_app_sl rfl _ _ 26 rfl b 36 i0 (.agg #[.int .i64 0, .slice none 0 0, .slice none 0 0]) 3 56 Tryz.underlying26 hi hz0 hz1 hz2 rfl (by omega) _ n xs rfl HO.out _ 1 1 [x, y, z] rfl hvl h1 (by unfold maxLen; omega) (by omega) hbw ?_; intro v' w' hown' hg')
      go_ret
      exact ⟨_, rfl, hown', hg'⟩
/-- What an insertion makes of a row's cells. -/
theorem mid_cells {α : Type} {L xs vs : List α} {n cap i : Nat} (hi : i < n) (hc : n + 1 ≤ cap) (hL : L.length = cap * 3) (hx : L.take (n * 3) = xs) (hv : vs.length = 3) :
    ∀ L1 L2, L1 = L.take ((i + 1) * 3) ++ xs.drop (i * 3) ++ L.drop ((i + 1) * 3 + (xs.drop (i * 3)).length) → L2 = L1.take (i * 3) ++ vs ++ L1.drop (i * 3 + vs.length) →
      L1.length = cap * 3 ∧ L2.length = cap * 3 ∧ L2.take ((n + 1) * 3) = xs.take (i * 3) ++ vs ++ xs.drop (i * 3) := by
  intro L1 L2 h1 h2
  have hxl : xs.length = n * 3 := by rw [← hx, List.length_take]; omega
  have hl1 : L1.length = cap * 3 := by rw [h1]; simp only [List.length_append, List.length_take, List.length_drop, hxl, hL]; omega
  have hl2 : L2.length = cap * 3 := by rw [h2]; simp only [List.length_append, List.length_take, List.length_drop, hl1, hv]; omega
  refine ⟨hl1, hl2, ?_⟩
  have e1 : L1.take (i * 3) = xs.take (i * 3) := by
    rw [h1, List.append_assoc, List.take_append_of_le_length (by rw [List.length_take]; omega), List.take_take, ← hx, List.take_take]
    congr 1
    omega
  have e2 : (L1.drop (i * 3 + 3)).take ((n - i) * 3) = xs.drop (i * 3) := by
    have hll : (L.take ((i + 1) * 3)).length = i * 3 + 3 := by rw [List.length_take]; omega
    rw [h1, List.append_assoc, List.drop_append, hll, List.drop_of_length_le (by omega), Nat.sub_self, List.drop_zero, List.nil_append, List.take_append_of_le_length (by rw [List.length_drop]; omega), List.take_of_length_le (by rw [List.length_drop]; omega)]
  have hal : (xs.take (i * 3) ++ vs).length = i * 3 + 3 := by rw [List.length_append, List.length_take, hv]; omega
  have e3 : (xs.take (i * 3) ++ vs).take ((n + 1) * 3) = xs.take (i * 3) ++ vs := List.take_of_length_le (by rw [hal]; omega)
  rw [h2, e1, hv, List.take_append, hal, e3, show (n + 1) * 3 - (i * 3 + 3) = (n - i) * 3 by omega, e2]
set_option maxRecDepth 1000000 in
set_option maxHeartbeats 4000000 in
theorem insert_room (b n i g cap : Nat) (cur : Array Value) (xs : List Value) (x y z : Value) (gv : Nat) (w : World) (hb : b ≤ g) (hg : w.heap[g]? = some (.cells cur 36 (0, 0))) (hcm : cap ≤ maxLen) (hcs : cur.size = cap * 3) (htk : cur.toList.take (n * 3) = xs)
    (hv : w.heap[gv]? = some (.cells #[x, y, z] 36 (0, 0))) (hne : gv ≠ g) (h1 : ∀ u ∈ [x, y, z], u.oneCell' = true) (h1x : ∀ u ∈ xs, u.oneCell' = true) (hn : n ≤ 1000000000) (hi : i < n) (hroom : n + 1 ≤ cap) :
    Calls Tryz.prog 67 #[.slice (some ⟨g, 0, none⟩) n cap, .int .i64 i, .slice (some ⟨gv, 0, none⟩) 1 1] w fun e w' => ∃ v', e = .returned v' ∧ w'.ownsRow b 36 3 v' (n + 1) (xs.take (i * 3) ++ [x, y, z] ++ xs.drop (i * 3)) ∧ w.grownBy w' (some g) := by
  unfold maxLen at hcm
  have hxl : xs.length = n * 3 := by rw [← htk, List.length_take, Array.length_toList, hcs]; omega
  obtain ⟨l1, l2, hfin⟩ := mid_cells hi hroom (by rw [Array.length_toList, hcs]) htk (show [x, y, z].length = 3 from rfl) _ _ rfl rfl
  have hdl : (xs.drop (i * 3)).length = (n - i) * 3 := by rw [List.length_drop, hxl, Nat.sub_mul]
  have hov : ∀ lb cb, (callFunc 123 #[.slice (some ⟨gv, 0, none⟩) 1 1, .slice (some ⟨g, (i + 1) * 3, none⟩) lb cb]).run Tryz.prog w = .ok (.value (.bool false)) w := fun lb cb => by
    rw [run_callFunc_extern Tryz.func123 (by kernel_rfl) (by kernel_rfl) (by kernel_rfl) (e := Extern.SlicesOverlaps.overlaps #[26, 26] #[4]) (by kernel_rfl),
      Lib.run_overlaps_apart w 26 4 36 Tryz.underlying26 3 (fun w => by kernel_rfl) ⟨gv, 0, none⟩ ⟨g, (i + 1) * 3, none⟩ 1 1 lb cb hne 36 36 3 (cap * 3) (by simp [World.shape?, hv]) (by simp [World.shape?, hg, hcs]) (by omega) (by simp [World.frozen?, hv]) (by simp [World.frozen?, hv])]
    rfl
  obtain ⟨L1, hL1⟩ : ∃ L1, L1 = cur.toList.take ((i + 1) * 3) ++ xs.drop (i * 3) ++ cur.toList.drop ((i + 1) * 3 + (xs.drop (i * 3)).length) := ⟨_, rfl⟩
  rw [← hL1] at l1 l2 hfin
  obtain ⟨L2, hL2⟩ : ∃ L2, L2 = L1.take (i * 3) ++ [x, y, z] ++ L1.drop (i * 3 + [x, y, z].length) := ⟨_, rfl⟩
  rw [← hL2] at l2 hfin
  have hcp1 : ∀ ty dc sc, (Builtin.copy_ #[26, 26] ty #[.slice (some ⟨g, (i + 1) * 3, none⟩) (n - i) dc, .slice (some ⟨g, i * 3, none⟩) (n + 1 - i) sc]).run Tryz.prog w.drew = .ok (goInt (n - i : Nat)) (w.drew.setRow g L1.toArray) := fun ty dc sc => by
    rw [hL1]
    refine run_copy_many w.drew _ _ ty 36 g ((i + 1) * 3) (n - i) dc ⟨g, i * 3, none⟩ (n + 1 - i) sc cur 36 (xs.drop (i * 3)) 3 (n - i) Tryz.underlying26 sz_slot hg (by simp only [Nat.min_def]; split <;> omega) hdl (fun j u hj => ?_) (by rw [hdl, hcs]; omega) fun u hu => h1x u (List.mem_of_mem_drop hu)
    rw [Addr.add_lit]
    show w.cell? _ = _
    rw [box_cell hg, ← Array.getElem?_toList]
    rw [List.getElem?_drop, ← htk, List.getElem?_take] at hj
    split at hj
    · exact hj
    · cases hj
  obtain ⟨W1, hW1⟩ : ∃ W1, W1 = w.drew.setRow g L1.toArray := ⟨_, rfl⟩
  have hg1 : W1.heap[g]? = some (.cells L1.toArray 36 (0, 0)) := by rw [hW1]; exact setRow_heap w.drew g cur _ _ _ hg
  have hv1 : W1.heap[gv]? = some (.cells #[x, y, z] 36 (0, 0)) := by
    rw [hW1]
    exact (setRow_other w.drew g gv _ hne).trans hv
  have hgr1 : w.grownBy W1 (some g) := by
    rw [hW1]
    exact ⟨rfl, rfl, rfl, by simp, fun k _ hk => setRow_other w.drew g k _ (fun e => hk (by rw [e]))⟩
  have hcp2 : ∀ ty dc, (Builtin.copy_ #[26, 26] ty #[.slice (some ⟨g, i * 3, none⟩) (n + 1 - i) dc, .slice (some ⟨gv, 0, none⟩) 1 1]).run Tryz.prog W1 = .ok (goInt (1 : Nat)) (W1.setRow g L2.toArray) := fun ty dc => by
    rw [hL2]
    refine run_copy_many W1 _ _ ty 36 g (i * 3) (n + 1 - i) dc ⟨gv, 0, none⟩ 1 1 L1.toArray 36 [x, y, z] 3 1 Tryz.underlying26 sz_slot hg1 (by simp only [Nat.min_def]; split <;> omega) rfl (fun j u hj => ?_) (by simp only [List.size_toArray, l1]; show i * 3 + 3 ≤ _; omega) h1
    rw [Addr.add_lit, box_cell hv1]
    simpa using hj
  rw [← hW1] at hcp1
  have hz2 : ¬ ((i : Int) = (n : Int)) := by omega
  have hw1 : IntKind.i64.wrap ((i : Int) + 1) = (i : Int) + 1 := by rw [IntKind.wrap_i64]; omega
  have hw2 : IntKind.i64.wrap ((n : Int) + 1) = (n : Int) + 1 := by rw [IntKind.wrap_i64]; omega
  have hb1 : (0 : Int) ≤ (i : Int) + 1 := by omega
  have hin : i ≤ n := by omega
  have hb2 : ¬ (cap = i + 1) := by omega
  have hb3 : (i : Int) ≤ (n : Int) + 1 := by omega
  have hb4 : ¬ (cap = i) := by omega
  have HOV := Lib.hid hov
  have HC1 := Lib.hid hcp1
  have HC2 := Lib.hid hcp2
  clear hov hcp1 hcp2 hxl hdl hL1 hL2 hW1 htk hcs
  go_enter Tryz.func67, Tryz.ntmps67
  go_wp2_with (simp only [HOV.out])
  have mixed : Tryz.prog.follows Departure.mixedOrders = true := by kernel_rfl
  go_region_law_o (refine step_copy_is rfl _ _ 26 26 rfl (.slice (some ⟨g, (i + 1) * 3, none⟩) (n - i) (cap - (i + 1))) (.slice (some ⟨g, i * 3, none⟩) (n + 1 - i) (cap - i)) (by simp [Act.eval, Act.put]) (by simp [Act.eval, Act.put]) (HC1.out 3 (cap - (i + 1)) (cap - i)) ?_)
  go_wp2_with (simp only [HC2.out])
  go_ret
  refine ⟨_, rfl, ⟨?_, .inr ⟨g, cap, L2.toArray, rfl, hb, setRow_heap _ _ _ _ _ _ hg1, hroom, hcm, by simpa using l2, by simpa using hfin⟩⟩, ?_⟩
  · rw [← hfin, List.length_take, l2]
    omega
  · exact ⟨hgr1.os, hgr1.tape, hgr1.output, by simpa using hgr1.size, fun k hk hn => (setRow_other _ g k _ (fun e => hn (by rw [e]))).trans (hgr1.block k hk hn)⟩
theorem grow_cells {α : Type} {R xs vs : List α} {n G i : Nat} (hi : i < n) (hG : n + 1 ≤ G) (hR : R.length = G * 3) (hx : xs.length = n * 3) (hv : vs.length = 3) (hr : R.take (i * 3) = xs.take (i * 3)) :
    ∀ L1 L2, L1 = R.take (i * 3) ++ vs ++ R.drop (i * 3 + vs.length) → L2 = L1.take ((i + 1) * 3) ++ xs.drop (i * 3) ++ L1.drop ((i + 1) * 3 + (xs.drop (i * 3)).length) →
      L1.length = G * 3 ∧ L2.length = G * 3 ∧ L2.take ((n + 1) * 3) = xs.take (i * 3) ++ vs ++ xs.drop (i * 3) := by
  intro L1 L2 h1 h2
  have hl1 : L1.length = G * 3 := by rw [h1]; simp only [List.length_append, List.length_take, List.length_drop, hR, hv]; omega
  have hl2 : L2.length = G * 3 := by rw [h2]; simp only [List.length_append, List.length_take, List.length_drop, hl1, hx]; omega
  refine ⟨hl1, hl2, ?_⟩
  have hal : (xs.take (i * 3) ++ vs).length = (i + 1) * 3 := by rw [List.length_append, List.length_take, hv]; omega
  have e1 : L1.take ((i + 1) * 3) = xs.take (i * 3) ++ vs := by
    rw [h1, hr, List.take_append, hal, Nat.sub_self, List.take_zero, List.append_nil]
    exact List.take_of_length_le (by rw [hal]; omega)
  have hal2 : (xs.take (i * 3) ++ vs ++ xs.drop (i * 3)).length = (n + 1) * 3 := by rw [List.length_append, hal, List.length_drop]; omega
  rw [h2, e1, List.take_append, hal2, Nat.sub_self, List.take_zero, List.append_nil]
  exact List.take_of_length_le (by rw [hal2]; omega)
set_option maxRecDepth 1000000 in
set_option maxHeartbeats 4000000 in
theorem insert_grow (b n i g cap : Nat) (cur : Array Value) (xs : List Value) (x y z : Value) (gv : Nat) (w : World) (hbw : b ≤ w.heap.size) (hg : w.heap[g]? = some (.cells cur 36 (0, 0))) (hnc : n ≤ cap) (htk : cur.toList.take (n * 3) = xs) (hxl : xs.length = n * 3)
    (hv : w.heap[gv]? = some (.cells #[x, y, z] 36 (0, 0))) (h1 : ∀ u ∈ [x, y, z], u.oneCell' = true) (h1x : ∀ u ∈ xs, u.oneCell' = true) (hn : n ≤ 1000000000) (hi : i < n) (hroom : cap < n + 1) :
    Calls Tryz.prog 67 #[.slice (some ⟨g, 0, none⟩) n cap, .int .i64 i, .slice (some ⟨gv, 0, none⟩) 1 1] w fun e w' => ∃ v', e = .returned v' ∧ w'.ownsRow b 36 3 v' (n + 1) (xs.take (i * 3) ++ [x, y, z] ++ xs.drop (i * 3)) ∧ w.grownBy w' none := by
  obtain ⟨i0, hi0, hz0, hzs, hzb⟩ := info_parts info_slot
  have hdl : (xs.drop (i * 3)).length = (n - i) * 3 := by rw [List.length_drop, hxl, Nat.sub_mul]
  have hcell : ∀ j u, xs[j]? = some u → w.cell? ⟨g, j, none⟩ = some u := fun j u hj => by
    rw [box_cell hg, ← Array.getElem?_toList]
    rw [← htk, List.getElem?_take] at hj
    split at hj
    · exact hj
    · cases hj
  have hold : (Builtin.firstCells i0.size i (.slice (some ⟨g, 0, none⟩) i cap)).run Tryz.prog w.drew = .ok (xs.take (i * 3)).toArray w.drew := by
    rw [hzs]
    exact run_firstCells_some w.drew 3 i ⟨g, 0, none⟩ i cap (xs.take (i * 3)) (by rw [List.length_take]; omega) (fun j u hj => by
      rw [Addr.add_lit, Nat.zero_add]
      rw [List.getElem?_take] at hj
      split at hj
      · exact hcell j u hj
      · cases hj)
  have hkk : (n : Int) + 1 - (i : Int) = ((n + 1 - i : Nat) : Int) := by omega
  have hik : i + (n + 1 - i) = n + 1 := by omega
  have hrz : ∀ ty, (Builtin.append_ #[26, 3] ty #[.slice (some ⟨g, 0, none⟩) i cap, .int .i64 ((n : Int) + 1 - (i : Int))]).run Tryz.prog w =
      .ok (.slice (some ⟨w.heap.size, 0, none⟩) (n + 1) (grownCap w (n + 1) cap 36)) (w.drew.alloc (.cells ((xs.take (i * 3)).toArray ++ Builtin.zeroCells (Value.agg #[.int .i64 0, .slice none 0 0, .slice none 0 0]).cells (n + 1 - i) ++ Builtin.zeroCells (Value.agg #[.int .i64 0, .slice none 0 0, .slice none 0 0]).cells (grownCap w (n + 1) cap 36 - (n + 1))) 36)) := fun ty => by
    have h := Lib.run_append_grow_zeros w 26 3 ty 36 i0 _ .i64 .i64 Tryz.underlying26 Tryz.underlying3 hi0 hz0 (some ⟨g, 0, none⟩) i cap (xs.take (i * 3)) hold (n + 1 - i) (by omega) (by omega) (by omega) (by omega) (by rw [hzb]; omega) (by rw [hzb, hik]; exact growslice_fits hroom (by omega))
    rw [hik] at h
    rw [hkk]
    exact h
  obtain ⟨G, hG⟩ : ∃ G, G = grownCap w (n + 1) cap 36 := ⟨_, rfl⟩
  have hGn : n + 1 ≤ G := by rw [hG]; exact grownCap_ge w _ _ _
  have hG63 : G ≤ maxLen := by rw [hG]; exact grownCap_le_maxLen w (n + 1) cap _ (by unfold maxLen; omega)
  rw [← hG] at hrz
  obtain ⟨ROW, hROW⟩ : ∃ ROW : Array Value, ROW = (xs.take (i * 3)).toArray ++ Builtin.zeroCells (Value.agg #[.int .i64 0, .slice none 0 0, .slice none 0 0]).cells (n + 1 - i) ++ Builtin.zeroCells (Value.agg #[.int .i64 0, .slice none 0 0, .slice none 0 0]).cells (G - (n + 1)) := ⟨_, rfl⟩
  rw [← hROW] at hrz
  have hRl : ROW.toList.length = G * 3 := by
    rw [Array.length_toList, hROW]
    simp only [Array.size_append, size_zeroCells, List.size_toArray, List.length_take, hxl]
    show min (i * 3) (n * 3) + (n + 1 - i) * 3 + (G - (n + 1)) * 3 = G * 3
    omega
  have hRt : ROW.toList.take (i * 3) = xs.take (i * 3) := by
    rw [hROW, Array.toList_append, Array.toList_append, List.append_assoc]
    exact (List.take_append_of_le_length (by simp [hxl]; omega)).trans (List.take_of_length_le (by simp; omega))
  clear hROW
  obtain ⟨l1, l2, hfin⟩ := grow_cells hi hGn hRl hxl (show [x, y, z].length = 3 from rfl) hRt _ _ rfl rfl
  obtain ⟨L1, hL1⟩ : ∃ L1, L1 = ROW.toList.take (i * 3) ++ [x, y, z] ++ ROW.toList.drop (i * 3 + [x, y, z].length) := ⟨_, rfl⟩
  rw [← hL1] at l1 l2 hfin
  obtain ⟨L2, hL2⟩ : ∃ L2, L2 = L1.take ((i + 1) * 3) ++ xs.drop (i * 3) ++ L1.drop ((i + 1) * 3 + (xs.drop (i * 3)).length) := ⟨_, rfl⟩
  rw [← hL2] at l2 hfin
  obtain ⟨W1, hW1⟩ : ∃ W1, W1 = w.drew.alloc (.cells ROW 36) := ⟨_, rfl⟩
  have hg1 : W1.heap[w.heap.size]? = some (.cells ROW 36 (0, 0)) := by rw [hW1]; exact heap_alloc_new w.drew _
  have hgr1 : w.grownBy W1 none := by rw [hW1]; exact ⟨rfl, rfl, rfl, by simp, fun k hk _ => heap_alloc_old w.drew _ hk⟩
  rw [← hW1] at hrz
  have hgw : g < w.heap.size := box_lt hg
  have hcpA : ∀ ty dc, (Builtin.copy_ #[26, 26] ty #[.slice (some ⟨w.heap.size, i * 3, none⟩) (n + 1 - i) dc, .slice (some ⟨gv, 0, none⟩) 1 1]).run Tryz.prog W1 = .ok (goInt (1 : Nat)) (W1.setRow w.heap.size L1.toArray) := fun ty dc => by
    rw [hL1]
    refine run_copy_many W1 _ _ ty 36 w.heap.size (i * 3) (n + 1 - i) dc ⟨gv, 0, none⟩ 1 1 ROW 36 [x, y, z] 3 1 Tryz.underlying26 sz_slot hg1 (by simp only [Nat.min_def]; split <;> omega) rfl (fun j u hj => ?_) (by rw [← Array.length_toList, hRl]; show i * 3 + 3 ≤ _; omega) h1
    rw [Addr.add_lit, box_cell ((hgr1.block gv (box_lt hv) (by simp)).trans hv)]
    simpa using hj
  obtain ⟨W2, hW2⟩ : ∃ W2, W2 = W1.setRow w.heap.size L1.toArray := ⟨_, rfl⟩
  have hg2 : W2.heap[w.heap.size]? = some (.cells L1.toArray 36 (0, 0)) := by rw [hW2]; exact setRow_heap W1 _ ROW _ _ _ hg1
  have hgr2 : w.grownBy W2 none := by
    rw [hW2]
    exact ⟨hgr1.os, hgr1.tape, hgr1.output, by simpa using hgr1.size, fun k hk hn => (setRow_other W1 _ k _ (by omega)).trans (hgr1.block k hk hn)⟩
  rw [← hW2] at hcpA
  have hcpB : ∀ ty dc sc, (Builtin.copy_ #[26, 26] ty #[.slice (some ⟨w.heap.size, (i + 1) * 3, none⟩) (n - i) dc, .slice (some ⟨g, i * 3, none⟩) (n - i) sc]).run Tryz.prog W2.drew = .ok (goInt (n - i : Nat)) (W2.drew.setRow w.heap.size L2.toArray) := fun ty dc sc => by
    rw [hL2]
    refine run_copy_many W2.drew _ _ ty 36 w.heap.size ((i + 1) * 3) (n - i) dc ⟨g, i * 3, none⟩ (n - i) sc L1.toArray 36 (xs.drop (i * 3)) 3 (n - i) Tryz.underlying26 sz_slot hg2 (by simp) hdl (fun j u hj => ?_) (by rw [hdl, List.size_toArray, l1]; omega) fun u hu => h1x u (List.mem_of_mem_drop hu)
    rw [Addr.add_lit]
    show W2.cell? _ = _
    rw [World.cell?_of_block (hgr2.block g hgw (by simp))]
    exact hcell _ u (by rwa [List.getElem?_drop] at hj)
  have hz2 : ¬ ((i : Int) = (n : Int)) := by omega
  have hw1 : IntKind.i64.wrap ((i : Int) + 1) = (i : Int) + 1 := by rw [IntKind.wrap_i64]; omega
  have hw2 : IntKind.i64.wrap ((n : Int) + 1) = (n : Int) + 1 := by rw [IntKind.wrap_i64]; omega
  have hw3 : IntKind.i64.wrap ((n : Int) + 1 - (i : Int)) = (n : Int) + 1 - (i : Int) := by rw [IntKind.wrap_i64]; omega
  have hb1 : (0 : Int) ≤ (i : Int) + 1 := by omega
  have hin : i ≤ n := by omega
  have hb2 : ¬ (cap = i + 1) ∨ cap = i + 1 := by omega
  have hb3 : (i : Int) ≤ (n : Int) := by omega
  have hb4 : ¬ (cap = i) := by omega
  have hb5 : ¬ (G = i) := by omega
  have hb6 : ¬ (G = i + 1) := by omega
  have hb7 : (i : Int) ≤ (n : Int) + 1 := by omega
  have hz3 : (cap : Int) < (n : Int) + 1 := by omega
  have hGi : G ≤ 9223372036854775807 := by unfold maxLen at hG63; omega
  have HA := Lib.hid hrz
  have HC1 := Lib.hid hcpA
  have HC2 := Lib.hid hcpB
  clear hrz hcpA hcpB hxl hdl hL1 hL2 hW1 hW2 htk hold hkk hik hcell hG hRl hRt hb2 l1
  go_enter Tryz.func67, Tryz.ntmps67
  go_wp2_with (first
    | (at_builtin; refine Lib.wpList_append_run _ rfl _ _ _ _ rfl _ _ rfl rfl _ _ (HA.out _) ?_)
    | (simp only [HC1.out]))
  have mixed : Tryz.prog.follows Departure.mixedOrders = true := by kernel_rfl
  go_region_law_o (refine step_copy_is rfl _ _ 26 26 rfl (.slice (some ⟨w.heap.size, (i + 1) * 3, none⟩) (n - i) (G - (i + 1))) (.slice (some ⟨g, i * 3, none⟩) (n - i) (cap - i)) (by simp [Act.eval, Act.put]) (by simp [Act.eval, Act.put]) (HC2.out 3 (G - (i + 1)) (cap - i)) ?_)
  go_wp2
  go_ret
  refine ⟨_, rfl, ⟨?_, .inr ⟨w.heap.size, G, L2.toArray, rfl, hbw, setRow_heap _ _ _ _ _ _ hg2, hGn, hG63, by simpa using l2, by simpa using hfin⟩⟩, ?_⟩
  · rw [← hfin, List.length_take, l2]
    omega
  · exact ⟨hgr2.os, hgr2.tape, hgr2.output, by simpa using hgr2.size, fun k hk hn => (setRow_other _ _ k _ (by omega)).trans (hgr2.block k hk hn)⟩
/-- slices.Insert of one slot into a row of the call's own. -/
theorem insert_any (b n i : Nat) (xs : List Value) (v x y z : Value) (gv : Nat) (w : World) (hown : w.ownsRow b 36 3 v n xs) (hbw : b ≤ w.heap.size) (hv : w.heap[gv]? = some (.cells #[x, y, z] 36 (0, 0))) (hne : v.ownBlock ≠ some gv)
    (h1 : ∀ u ∈ [x, y, z], u.oneCell' = true) (h1x : ∀ u ∈ xs, u.oneCell' = true) (hn : n ≤ 1000000000) (hi : i ≤ n) :
    Calls Tryz.prog 67 #[v, .int .i64 i, .slice (some ⟨gv, 0, none⟩) 1 1] w fun e w' => ∃ v', e = .returned v' ∧ w'.ownsRow b 36 3 v' (n + 1) (xs.take (i * 3) ++ [x, y, z] ++ xs.drop (i * 3)) ∧ w.grownBy w' v.ownBlock := by
  have hxl := hown.1
  by_cases hin : i = n
  · subst hin
    refine (insert_end b i xs v x y z gv w hown hbw hv h1 hn).mono ?_
    rintro e w' ⟨v', rfl, ho, hg⟩
    refine ⟨v', rfl, ?_, hg⟩
    rw [List.take_of_length_le (by omega), List.drop_of_length_le (by omega), List.append_nil]
    exact ho
  · obtain ⟨-, ⟨rfl, rfl⟩ | ⟨g, cap, cur, rfl, hb, hg, hnc, hcm, hcs, htk⟩⟩ := hown
    · omega
    · by_cases hr : n + 1 ≤ cap
      · exact insert_room b n i g cap cur xs x y z gv w hb hg hcm hcs htk hv (fun e => hne (by simp [Value.ownBlock, e])) h1 h1x hn (by omega) hr
      · refine (insert_grow b n i g cap cur xs x y z gv w hbw hg hnc htk hxl hv h1 h1x hn (by omega) (by omega)).mono ?_
        rintro e w' ⟨v', rfl, ho, hg⟩
        exact ⟨v', rfl, ho, ⟨hg.os, hg.tape, hg.output, hg.size, fun k hk _ => hg.block k hk (by simp)⟩⟩
end Go.Proofs.YtggcjdajmbkpiaaGreatDoor.T9
/-
  A slot that is got, and set; a value that is less: value's Get, Set, Less.
-/
namespace Go.Proofs.YtggcjdajmbkpiaaGreatDoor.T9
set_option maxRecDepth 100000

open Go.RowKit

/-! ### The functions that tell of a slot -/

theorem clo_get (a : So) (x y z : Value) (no : Int) (P : Nat) (W : World) (hs : x = .int .i64 a.no) (hc : W.heap[P]? = some (.cells #[.int .i64 no] 3 (0, 0))) :
    Calls Tryz.prog 62 #[.agg #[x, y, z], .pointer (some ⟨P, 0, none⟩)] W fun e w' => e = .returned (.bool (a.no == no)) ∧ Below W.heap.size W w' := by
  subst hs
  have c0 := bx1 hc
  have hlt := box_lt hc
  obtain ⟨k, hk⟩ : ∃ k, a.no = k := ⟨_, rfl⟩
  rw [hk]
  clear hc hk
  go_enter Tryz.func62, Tryz.ntmps62
  go_wp2
  go_ret
  exact ⟨rfl, below_new _ _⟩
theorem clo_rest (a : So) (x y z : Value) (no : Int) (u1 u2 : Value) (P : Nat) (W : World) (hs : x = .int .i64 a.no) (hc : W.heap[P]? = some (.cells #[.int .i64 no, u1, u2] 36 (0, 0))) :
    Calls Tryz.prog 65 #[.agg #[x, y, z], .pointer (some ⟨P, 0, none⟩)] W fun e w' => e = .returned (.bool (a.no != no)) ∧ Below W.heap.size W w' := by
  subst hs
  have c0 := (bx3 hc).1
  have hlt := box_lt hc
  obtain ⟨k, hk⟩ : ∃ k, a.no = k := ⟨_, rfl⟩
  rw [hk]
  clear hc hk
  go_enter Tryz.func65, Tryz.ntmps65
  go_wp2
  go_ret
  exact ⟨rfl, below_new _ _⟩
theorem clo_place (a : So) (x y z : Value) (no : Int) (u1 u2 : Value) (P : Nat) (W : World) (hs : x = .int .i64 a.no) (hc : W.heap[P]? = some (.cells #[.int .i64 no, u1, u2] 36 (0, 0))) :
    Calls Tryz.prog 66 #[.agg #[x, y, z], .pointer (some ⟨P, 0, none⟩)] W fun e w' => e = .returned (.bool (decide (no < a.no))) ∧ Below W.heap.size W w' := by
  subst hs
  have c0 := (bx3 hc).1
  have hlt := box_lt hc
  obtain ⟨k, hk⟩ : ∃ k, a.no = k := ⟨_, rfl⟩
  rw [hk]
  clear hc hk
  go_enter Tryz.func66, Tryz.ntmps66
  go_wp2
  go_ret
  exact ⟨rfl, below_new _ _⟩
theorem sAt.head {R : RP} {G : Mg → List Value → Prop} {a : So} {x y z : Value} (h : sAt R G a [x, y, z]) : x = .int .i64 a.no := by
  obtain ⟨u1, u2, hu, _⟩ := h
  simp only [List.cons.injEq] at hu
  exact hu.1

/-! ### The first of which something is so, and all of which something is so -/

theorem findIdx_next {l : List So} {p : So → Bool} {k : Nat} (h : ∀ j y, j < k → l[j]? = some y → p y = false) (hk : k ≤ l.length) : k ≤ l.findIdx p := by
  rcases Nat.lt_or_ge (l.findIdx p) k with hlt | hge
  · have h1 : l.findIdx p < l.length := by omega
    have h2 := List.findIdx_getElem (w := h1)
    rw [h _ _ hlt (List.getElem?_eq_getElem h1)] at h2
    cases h2
  · exact hge
theorem findIdx_here {l : List So} {p : So → Bool} {k : Nat} {a : So} (h : ∀ j y, j < k → l[j]? = some y → p y = false) (ha : l[k]? = some a) (hp : p a = true) : l.findIdx p = k := by
  obtain ⟨hk, rfl⟩ := List.getElem?_eq_some_iff.1 ha
  refine Nat.le_antisymm ?_ (findIdx_next h (Nat.le_of_lt hk))
  rcases Nat.lt_or_ge k (l.findIdx p) with hlt | hge
  · have h1 := List.not_of_lt_findIdx hlt
    rw [hp] at h1
    cases h1
  · exact hge
set_option maxRecDepth 1000000 in
set_option maxHeartbeats 4000000 in
theorem place_get (B d : Nat) (l : List So) (u : Value) (no : Int)  (P : Nat) (w : World) (hB : B ≤ w.heap.size) (hl : LsAt (Rd B w) 36 3 (SAt' (Rd B w) d) l u) (hc : w.heap[P]? = some (.cells #[.int .i64 no] 3 (0, 0))) :
    Calls Tryz.prog 61 #[u, .func (.func 62) #[] #[.pointer (some ⟨P, 0, none⟩)]] w fun e w' => e = .returned (.int .i64 (l.findIdx fun a => a.no == no : Nat)) ∧ Below w.heap.size w w' := by
  obtain ⟨A, c, xs, rfl, hs, hb, hr, hn⟩ := hl.open_
  have HS := Lib.hid hs
  have HR := Lib.hid hr
  have HBB := Lib.hid hb
  have HC := Lib.hid hc
  clear hs hr hl hb hc
  go_enter Tryz.func61, Tryz.ntmps61
  go_wp2
  go_loopw [8] (fun i wr => ∃ k : Nat, i = .int .i64 k ∧ k ≤ l.length ∧ (∀ j y, j < k → l[j]? = some y → (fun a : So => a.no == no) y = false) ∧ Below w.heap.size w wr) (fun i _ => l.length - (intOf i).toNat)
  case atStart => exact ⟨0, rfl, by omega, fun j y hj => by omega, Below.refl _ _⟩
  case round =>
    obtain ⟨k, rfl, hk, hq, hbw⟩ := hrel
    have HQ := Lib.hid hq
    clear hq
    by_cases hlt : k < l.length
    · obtain ⟨a, ha⟩ : ∃ a, l[k]? = some a := ⟨_, List.getElem?_eq_getElem hlt⟩
      obtain ⟨ad, x, y, z, rfl, hg, hcc, c0, c1, c2⟩ := row3 sAt.len (sl_low HS.out HBB.out (Lo.below hbw hB)) (HR.out.imp fun a cs h => SRd.low (Lo.below hbw hB) h) ha
      have HCL := Lib.hid (clo_get a x y z no  P wr hcc.head (box_on HC.out hbw))
      have HA := Lib.hid ha
      have HB2 := Lib.hid hbw
      obtain ⟨r, hr⟩ : ∃ r, (a.no == no) = r := ⟨_, rfl⟩
      rw [hr] at HCL
      have HRR := Lib.hid hr
      clear hcc ha hbw hr
      cases r with
      | true =>
        go_wp2_with (go_at_call 62; refine HCL.out.mono ?_; rintro e w1 ⟨rfl, hb1⟩)
        go_ret
        exact ⟨by rw [findIdx_here (p := fun a : So => a.no == no) HQ.out HA.out HRR.out]; rfl, HB2.out.trans (hb1.mono HB2.out.size)⟩
      | false =>
        go_wp2_with (go_at_call 62; refine HCL.out.mono ?_; rintro e w1 ⟨rfl, hb1⟩)
        refine ⟨⟨k + 1, by go_num, by omega, fun j y hj hy => ?_, HB2.out.trans (hb1.mono HB2.out.size)⟩, by simp [intOf]; omega⟩
        by_cases hj2 : j < k
        · exact HQ.out j y hj2 hy
        · obtain rfl : j = k := by omega
          have ha := HA.out
          rw [hy] at ha
          obtain rfl := Option.some.inj ha
          exact HRR.out
    · obtain rfl : k = l.length := by omega
      have e : l.findIdx (fun a => a.no == no) = l.length := Nat.le_antisymm List.findIdx_le_length (findIdx_next HQ.out (Nat.le_refl _))
      have HE := Lib.hid e
      clear e
      go_wp2
      go_ret
      exact ⟨by rw [HE.out]; rfl, hbw⟩
set_option maxRecDepth 1000000 in
set_option maxHeartbeats 4000000 in
theorem place_set (B d : Nat) (l : List So) (u : Value) (no : Int) (u1 u2 : Value) (P : Nat) (w : World) (hB : B ≤ w.heap.size) (hl : LsAt (Rd B w) 36 3 (SAt' (Rd B w) d) l u) (hc : w.heap[P]? = some (.cells #[.int .i64 no, u1, u2] 36 (0, 0))) :
    Calls Tryz.prog 61 #[u, .func (.func 66) #[] #[.pointer (some ⟨P, 0, none⟩)]] w fun e w' => e = .returned (.int .i64 (l.findIdx fun a => decide (no < a.no) : Nat)) ∧ Below w.heap.size w w' := by
  obtain ⟨A, c, xs, rfl, hs, hb, hr, hn⟩ := hl.open_
  have HS := Lib.hid hs
  have HR := Lib.hid hr
  have HBB := Lib.hid hb
  have HC := Lib.hid hc
  clear hs hr hl hb hc
  go_enter Tryz.func61, Tryz.ntmps61
  go_wp2
  go_loopw [8] (fun i wr => ∃ k : Nat, i = .int .i64 k ∧ k ≤ l.length ∧ (∀ j y, j < k → l[j]? = some y → (fun a : So => decide (no < a.no)) y = false) ∧ Below w.heap.size w wr) (fun i _ => l.length - (intOf i).toNat)
  case atStart => exact ⟨0, rfl, by omega, fun j y hj => by omega, Below.refl _ _⟩
  case round =>
    obtain ⟨k, rfl, hk, hq, hbw⟩ := hrel
    have HQ := Lib.hid hq
    clear hq
    by_cases hlt : k < l.length
    · obtain ⟨a, ha⟩ : ∃ a, l[k]? = some a := ⟨_, List.getElem?_eq_getElem hlt⟩
      obtain ⟨ad, x, y, z, rfl, hg, hcc, c0, c1, c2⟩ := row3 sAt.len (sl_low HS.out HBB.out (Lo.below hbw hB)) (HR.out.imp fun a cs h => SRd.low (Lo.below hbw hB) h) ha
      have HCL := Lib.hid (clo_place a x y z no u1 u2 P wr hcc.head (box_on HC.out hbw))
      have HA := Lib.hid ha
      have HB2 := Lib.hid hbw
      obtain ⟨r, hr⟩ : ∃ r, (decide (no < a.no)) = r := ⟨_, rfl⟩
      rw [hr] at HCL
      have HRR := Lib.hid hr
      clear hcc ha hbw hr
      cases r with
      | true =>
        go_wp2_with (go_at_call 66; refine HCL.out.mono ?_; rintro e w1 ⟨rfl, hb1⟩)
        go_ret
        exact ⟨by rw [findIdx_here (p := fun a : So => decide (no < a.no)) HQ.out HA.out HRR.out]; rfl, HB2.out.trans (hb1.mono HB2.out.size)⟩
      | false =>
        go_wp2_with (go_at_call 66; refine HCL.out.mono ?_; rintro e w1 ⟨rfl, hb1⟩)
        refine ⟨⟨k + 1, by go_num, by omega, fun j y hj hy => ?_, HB2.out.trans (hb1.mono HB2.out.size)⟩, by simp [intOf]; omega⟩
        by_cases hj2 : j < k
        · exact HQ.out j y hj2 hy
        · obtain rfl : j = k := by omega
          have ha := HA.out
          rw [hy] at ha
          obtain rfl := Option.some.inj ha
          exact HRR.out
    · obtain rfl : k = l.length := by omega
      have e : l.findIdx (fun a => decide (no < a.no)) = l.length := Nat.le_antisymm List.findIdx_le_length (findIdx_next HQ.out (Nat.le_refl _))
      have HE := Lib.hid e
      clear e
      go_wp2
      go_ret
      exact ⟨by rw [HE.out]; rfl, hbw⟩
theorem lit3 (w : World) (x y z : Value) (t : TypeId) : Sl (w.alloc (.cells #[x, y, z] t)) (some ⟨w.heap.size, 0, none⟩) 1 1 3 [x, y, z] := by
  refine ⟨by simp, by omega, by unfold maxLen; omega, by simp, fun ad ha _ => ?_, fun ad ha k u hu => ?_⟩
  · obtain rfl := Option.some.inj ha
    simp
  · obtain rfl := Option.some.inj ha
    rw [Addr.add_lit, World.cell?_alloc_at _ _ _ _ rfl]
    simpa using hu
theorem below_rows {w w1 w' : World} {B : Nat} {e : TypeId} {size : Nat} {v : Value} {n : Nat} {xs : List Value} (h : w1.ownsRow B e size v n xs) (hg : w.grownBy w' v.ownBlock) (hs : B ≤ w.heap.size) : Below B w w' :=
  ⟨hg.os, hg.tape, hg.output, hg.size, fun k hk => hg.block k (by omega) (fun e => by have := own_ge h k e.symm; omega)⟩
set_option maxRecDepth 1000000 in
set_option maxHeartbeats 4000000 in
theorem those_any (B d : Nat) (l : List So) (u : Value) (no : Int) (u1 u2 : Value) (P : Nat) (w : World) (hB : B ≤ w.heap.size) (hl : LsAt (Rd B w) 36 3 (SAt' (Rd B w) d) l u) (hsm : l.length ≤ 1000000000) (hc : w.heap[P]? = some (.cells #[.int .i64 no, u1, u2] 36 (0, 0))) :
    Calls Tryz.prog 64 #[u, .func (.func 65) #[] #[.pointer (some ⟨P, 0, none⟩)]] w fun e w' => ∃ v xs, e = .returned v ∧ w'.ownsRow w.heap.size 36 3 v (rest l no).length xs ∧ Rows (SAt' (Rd B w') d) (rest l no) xs ∧ Below w.heap.size w w' := by
  obtain ⟨A, c, xs, rfl, hs, hb, hr, hn⟩ := hl.open_
  obtain ⟨i0, hi, hz0, hz1, hz2⟩ := info_parts info_slot
  have HS := Lib.hid hs
  have HR := Lib.hid hr
  have HBB := Lib.hid hb
  have HC := Lib.hid hc
  clear hs hr hl hb hc
  go_enter Tryz.func64, Tryz.ntmps64
  go_wp2
  go_loopw [5, 9] (fun v i wr => ∃ (k : Nat) (ys : List Value), i = .int .i64 k ∧ k ≤ l.length ∧ wr.ownsRow w.heap.size 36 3 v (rest (l.take k) no).length ys ∧ Rows (SAt' (Rd B wr) d) (rest (l.take k) no) ys ∧ Below w.heap.size w wr) (fun _ i _ => l.length - (intOf i).toNat)
  case atStart => exact ⟨0, [], rfl, by omega, World.ownsRow_nil _ _ _ _, rfl, Below.refl _ _⟩
  case round =>
    obtain ⟨k, ys, rfl, hk, hown, hrows, hbw⟩ := hrel
    by_cases hlt : k < l.length
    · obtain ⟨a, ha⟩ : ∃ a, l[k]? = some a := ⟨_, List.getElem?_eq_getElem hlt⟩
      obtain ⟨ad, x, y, z, rfl, hg, hcc, c0, c1, c2⟩ := row3 sAt.len (sl_low HS.out HBB.out (Lo.below hbw hB)) (HR.out.imp fun a cs h => SRd.low (Lo.below hbw hB) h) ha
      have HCL := Lib.hid (clo_rest a x y z no u1 u2 P wr hcc.head (box_on HC.out hbw))
      have hlen : (rest (l.take k) no).length ≤ l.length := Nat.le_trans (List.length_filter_le _ _) (by rw [List.length_take]; omega)
      have HA := Lib.hid ha
      have HB2 := Lib.hid hbw
      have HOWN := Lib.hid hown
      have HROWS := Lib.hid hrows
      have HCC := Lib.hid hcc
      obtain ⟨r, hr⟩ : ∃ r, (a.no != no) = r := ⟨_, rfl⟩
      rw [hr] at HCL
      have HRR := Lib.hid hr
      clear hcc ha hbw hr hown hrows
      cases r with
      | false =>
        go_wp2_with (go_at_call 65; refine HCL.out.mono ?_; rintro e w1 ⟨rfl, hb1⟩)
        have e : rest (l.take (k + 1)) no = rest (l.take k) no := by
          unfold rest
          rw [List.take_add_one, HA.out, List.filter_append]
          simp [HRR.out]
        refine ⟨⟨k + 1, ys, by go_num, by omega, ?_, ?_, HB2.out.trans (hb1.mono HB2.out.size)⟩, by simp [intOf]; omega⟩
        · rw [e]; exact own_hi HOWN.out (hi_below _ hb1)
        · rw [e]; exact HROWS.out.imp fun a cs h => SRd.low (Lo.below hb1 (Nat.le_trans hB HB2.out.size)) h
      | true =>
        have hone := sAt.one a _ HCC.out
        go_wp2_with (first
          | (go_at_call 65; refine HCL.out.mono ?_; rintro e w1 ⟨rfl, hb1⟩; have g0 := cell_on hb1 c0; have g1 := cell_on hb1 c1; have g2 := cell_on hb1 c2; have hown1 := own_hi HOWN.out (hi_below _ hb1))
          | (at_builtin; refine wpList_app_sl rfl _ _ 26 rfl w.heap.size 36 i0 (.agg #[.int .i64 0, .slice none 0 0, .slice none 0 0]) 3 56 Tryz.underlying26 hi hz0 hz1 hz2 rfl (by omega) _ _ ys rfl (own_hi hown1 (hi_below _ (below_new w1 _))) (some ⟨w1.heap.size, 0, none⟩) 1 1 [x, y, z] rfl (lit3 w1 x y z _) hone (by unfold maxLen; omega) (by omega) (Nat.le_trans HB2.out.size (Nat.le_trans hb1.size (below_new w1 _).size)) ?_; intro v2 w2 hown2 hg2))
        have e : rest (l.take (k + 1)) no = rest (l.take k) no ++ [a] := by
          unfold rest
          rw [List.take_add_one, HA.out, List.filter_append]
          simp [HRR.out]
        have hb2 : Below w.heap.size w w2 := (HB2.out.trans ((hb1.mono HB2.out.size).trans ((below_new w1 _).mono (Nat.le_trans HB2.out.size hb1.size)))).trans (below_rows hown1 hg2 (Nat.le_trans HB2.out.size (Nat.le_trans hb1.size (below_new w1 _).size)))
        have hb3 : Below w.heap.size wr w2 := ((hb1.mono HB2.out.size).trans ((below_new w1 _).mono (Nat.le_trans HB2.out.size hb1.size))).trans (below_rows hown1 hg2 (Nat.le_trans HB2.out.size (Nat.le_trans hb1.size (below_new w1 _).size)))
        have hlo := (Lo.of hb3).mono hB
        refine ⟨⟨k + 1, ys ++ [x, y, z], by go_num, by omega, ?_, ?_, hb2⟩, by simp [intOf]; omega⟩
        · rw [e, List.length_append]; exact hown2
        · rw [e]; exact (HROWS.out.imp fun a cs h => SRd.low hlo h).append (Rows.single (SRd.low hlo HCC.out))
    · obtain rfl : k = l.length := by omega
      have e : l.take l.length = l := List.take_length
      rw [e] at hown hrows
      go_wp2
      go_ret
      exact ⟨_, ys, rfl, hown, hrows, hbw⟩
theorem three_boxes (w : World) (o1 o2 o3 : Obj) : (((w.alloc o1).alloc o2).alloc o3).heap[w.heap.size]? = some o1 ∧ (((w.alloc o1).alloc o2).alloc o3).heap[w.heap.size + 1]? = some o2 ∧ (((w.alloc o1).alloc o2).alloc o3).heap[w.heap.size + 2]? = some o3 ∧ Below w.heap.size w (((w.alloc o1).alloc o2).alloc o3) := by
  obtain ⟨h1, h2, h3⟩ := two_boxes w o1 o2
  have h4 := heap_alloc_new ((w.alloc o1).alloc o2) o3
  have hs : ((w.alloc o1).alloc o2).heap.size = w.heap.size + 2 := by simp
  rw [hs] at h4
  exact ⟨box_on h1 (below_new _ _), box_on h2 (below_new _ _), h4, below_lit h3 o3⟩
/-- A box of one cell that is written. -/
theorem one_set {w : World} {g : Nat} {a : Value} {t : TypeId} (h : w.heap[g]? = some (.cells #[a] t (0, 0))) (x : Value) :
    (w.setCell ⟨g, 0, none⟩ x).heap[g]? = some (.cells #[x] t (0, 0)) ∧ w.grownBy (w.setCell ⟨g, 0, none⟩ x) (some g) :=
  ⟨heap_setCell_same w g 0 #[a] t x h, ⟨rfl, rfl, rfl, by simp, fun k _ hk => heap_setCell_other _ ⟨g, 0, none⟩ k _ (fun e => hk (by simp [e]))⟩⟩
theorem own_ls {w : World} {b D : Nat} {l : List So} {v : Value} {xs : List Value} (h : w.ownsRow b 36 3 v l.length xs) (hn : l.length ≤ 10000000000000) {B : Nat} (hB : B ≤ w.heap.size) (hr : Rows (SAt' (Rd B w) D) l xs) : LsAt (Rd w.heap.size w) 36 3 (SAt' (Rd w.heap.size w) D) l v :=
  ⟨xs, ⟨Rr.of_own h, hn⟩, hr.imp fun a cs h => SRd.mono hB h⟩
theorem msg_moved {w w' : World} {b b' D : Nat} {m : Mg} {x : Value} (hk : ∀ k, b ≤ k → k < w.heap.size → w'.heap[k]? = w.heap[k]?) (hb : b' ≤ b) (h : MAt (Ow b w) D m [x]) : MAt (Ow b' w') D m [x] := MAt.imp (Ow.hi' hk hb) D m _ h
theorem sm_filter_le (l : List So) (p : So → Bool) (g : So → Nat) : sm ((l.filter p).map g) ≤ sm (l.map g) := by
  induction l with
  | nil => simp
  | cons a l ih =>
    by_cases h : p a = true
    · rw [List.filter_cons_of_pos h]; simp only [List.map_cons, sm]; omega
    · rw [List.filter_cons_of_neg h]; simp only [List.map_cons, sm]; omega
theorem sm_put (l : List So) (s : So) (g : So → Nat) : sm ((putS l s).map g) = sm (l.map g) + g s := by
  unfold putS
  have h : sm (l.map g) = sm ((l.take (place l s.no)).map g) + sm ((l.drop (place l s.no)).map g) := by rw [← sm_append, ← List.map_append, List.take_append_drop]
  rw [List.map_append, List.map_cons, sm_append, h]
  simp only [sm]
  omega
theorem cnt_set (m : Mg) (s : So) : (setM m s).cnt ≤ m.cnt + cS s := by
  rw [Mg.cnt_eq, Mg.cnt_eq]
  unfold setM rest
  show sm (List.map cS (if s.V = [] then _ else _)) ≤ _
  split
  · have := sm_filter_le m.F (fun x => x.no != s.no) cS; omega
  · rw [sm_put]; have := sm_filter_le m.F (fun x => x.no != s.no) cS; omega
set_option maxRecDepth 1000000 in
set_option maxHeartbeats 4000000 in
theorem set_any (B D : Nat) (m : Mg) (s : So) (u u1 u2 : Value) (w : World) (hB : B ≤ w.heap.size) (hm : MRd B w (D + 1) m u) (hs : SAt' (Rd B w) D s [.int .i64 s.no, u1, u2]) (hcm : m.cnt ≤ 100000000) (hcs : cS s ≤ 100000000) (b : Nat) (hb : b ≤ w.heap.size) :
    Calls Tryz.prog 31 #[.agg #[u], .agg #[.int .i64 s.no, u1, u2]] w fun e w' => ∃ x1, e = .returned (.agg #[x1]) ∧ MAt (Ow b w') (D + 1) (setM m s) [x1] ∧ Below w.heap.size w w' := by
  obtain ⟨u', hu, hl⟩ := hm
  simp only [List.cons.injEq, and_true] at hu
  subst hu
  obtain ⟨X1, X2, X3, LBD⟩ := three_boxes w (.cells #[u] 28) (.cells #[.int .i64 s.no, u1, u2] 36) (.cells #[.slice none 0 0] 28)
  have hF := cnt_F m
  have hcnt := cnt_set m s
  have hrl : (rest m.F s.no).length ≤ m.F.length := List.length_filter_le _ _
  have HT := Lib.hid (those_any B D m.F u s.no u1 u2 (w.heap.size + 1) _ (Nat.le_trans hB LBD.size) (hl.low (Lo.below LBD hB) fun a cs h => SRd.low (Lo.below LBD hB) h) (by omega) X2)
  have HL := Lib.hid hl
  have HSS := Lib.hid hs
  have hone := sAt.one s _ hs
  obtain ⟨u1', u2', hu, hk1, hv1⟩ := id hs
  simp only [List.cons.injEq, and_true, true_and] at hu
  obtain ⟨rfl, rfl⟩ := hu
  obtain ⟨A2, c2, xs2, rfl, -⟩ := hv1.open_
  clear hl hs hk1 hv1
  by_cases hV : s.V = []
  · have hV0 : s.V.length = 0 := by rw [hV]; rfl
    have hset : setM m s = .mk (rest m.F s.no) := by unfold setM; rw [if_pos hV]
    rw [hset] at hcnt ⊢
    have hp : decide ((0 : Int) < (s.V.length : Int)) = false := by rw [decide_eq_false_iff_not]; omega
    have hp2 : decide (0 < s.V.length) = false := by rw [decide_eq_false_iff_not]; omega
    clear hset hV hV0
    go_enter Tryz.func31, Tryz.ntmps31
    go_wp2_with fail
    refine HT.out.mono ?_
    rintro e w1 ⟨v1, xs1, rfl, ho1, hr1, hb1⟩
    have hb01 := below_then LBD hb1
    have Y2 := box_on X2 hb1
    have Y3 := box_on X3 hb1
    obtain ⟨A1, c1, rfl, -⟩ := Sl.of_own ho1
    obtain ⟨y0, y1, y2⟩ := bx3 Y2
    have HO := Lib.hid (own_any9 w1.heap.size (D + 1) (.mk (rest m.F s.no)) _ w1 (Nat.le_refl _) ⟨_, rfl, own_ls ho1 (show (rest m.F s.no).length ≤ _ by omega) (Nat.le_trans hB hb01.size) hr1⟩ (by omega) w1.heap.size (Nat.le_refl _))
    clear ho1 hr1 X1 X2
    go_wp2_with (go_at_call 68; refine HO.out.mono ?_; rintro e w4 ⟨q, rfl, ho4, hb4⟩; obtain ⟨q', hq, zs, ⟨hown, hzl⟩, hrz⟩ := id ho4; obtain ⟨A', c', hsl, -⟩ := Sl.of_own hown; obtain rfl : q = q' := (by simpa using hq); subst hsl; have Y4 := box_on Y3 hb4; have z0 := bx1 Y4; have z1 : w4.frozen? ⟨w.heap.size + 2, 0, none⟩ = false := by simp [World.frozen?, Y4])
    obtain ⟨Z1, Z2⟩ := one_set Y4 (.slice A' (rest m.F s.no).length c')
    have hhi := hi_grown Z2 (box_lt Y3)
    have hb5 := (below_then hb01 hb4).trans (below_own Z2 (show w.heap.size ≤ w.heap.size + 2 by omega) (Nat.le_trans hb01.size hb4.size))
    refine bodyPost_ret (results_cell_row rfl _ _ (w.heap.size + 2) _ _ (0, 0) _ rfl Z1 Tryz.underlying28 rfl sz_msg) rfl ?_
    exact ⟨_, rfl, msg_moved hhi (Nat.le_trans hb hb01.size) ho4, hb5⟩
  · have hV0 : 0 < s.V.length := List.length_pos_iff.2 hV
    have hset : setM m s = .mk (putS (rest m.F s.no) s) := by unfold setM; rw [if_neg hV]
    rw [hset] at hcnt ⊢
    have hp : decide ((0 : Int) < (s.V.length : Int)) = true := by rw [decide_eq_true_iff]; omega
    have hp2 : decide (0 < s.V.length) = true := by rw [decide_eq_true_iff]; omega
    clear hset hV
    go_enter Tryz.func31, Tryz.ntmps31
    go_wp2_with fail
    refine HT.out.mono ?_
    rintro e w1 ⟨v1, xs1, rfl, ho1, hr1, hb1⟩
    have hb01 := below_then LBD hb1
    have Y2 := box_on X2 hb1
    have Y3 := box_on X3 hb1
    have X3lt := box_lt X3
    obtain ⟨A1, c1, rfl, -⟩ := Sl.of_own ho1
    obtain ⟨y0, y1, y2⟩ := bx3 Y2
    have HPL := Lib.hid (place_set w1.heap.size D (rest m.F s.no) _ s.no u1 (.slice A2 s.V.length c2) (w.heap.size + 1) w1 (Nat.le_refl _) (own_ls ho1 (by omega) (Nat.le_trans hB hb01.size) hr1) Y2)
    have HO1 := Lib.hid ho1
    have HR1 := Lib.hid hr1
    have HY2 := Lib.hid Y2
    clear ho1 hr1 X1 X2 Y2
    go_wp2_with fail
    refine HPL.out.mono ?_
    rintro e w2 ⟨rfl, hb2⟩
    obtain ⟨at_, hat⟩ : ∃ k, (rest m.F s.no).findIdx (fun a => decide (s.no < a.no)) = k := ⟨_, rfl⟩
    rw [hat]
    have hatl : at_ ≤ (rest m.F s.no).length := by rw [← hat]; exact List.findIdx_le_length
    have HAT := Lib.hid (show place (rest m.F s.no) s.no = at_ from hat)
    clear hat y0 y1 y2
    have Y2b := box_on HY2.out hb2
    have Y3b := box_on Y3 hb2
    obtain ⟨y0, y1, y2⟩ := bx3 Y2b
    have hb02 := below_then hb01 hb2
    have HI := Lib.hid (insert_any _ _ at_ xs1 _ (.int .i64 s.no) u1 (.slice A2 s.V.length c2) w2.heap.size (w2.alloc (.cells #[.int .i64 s.no, u1, .slice A2 s.V.length c2] 36)) (own_hi (own_hi HO1.out (hi_below _ hb2)) (hi_below _ (below_new w2 _)))
      (Nat.le_trans (Nat.le_trans hb1.size hb2.size) (below_new w2 _).size) (heap_alloc_new w2 _) (fun e => by have := (HO1.out.lt _ e).2; have := hb2.size; omega) hone (HR1.out.one sAt.one) (by omega) hatl)
    go_wp2_with fail
    refine HI.out.mono ?_
    rintro e w3 ⟨v3, rfl, ho3, hg3⟩
    have hsz1 := Nat.le_trans (Nat.le_trans hb1.size hb2.size) (below_new w2 (.cells #[.int .i64 s.no, u1, .slice A2 s.V.length c2] 36)).size
    have hb3 := below_rows HO1.out hg3 hsz1
    have hb13 := (((hb2.mono hb1.size).trans ((below_new w2 _).mono (Nat.le_trans hb1.size hb2.size))).trans hb3)
    have hb03 := hb01.trans (hb13.mono LBD.size)
    have hlo13 := (Lo.of hb13).mono (Nat.le_trans hB LBD.size)
    have hlo03 := (Lo.of hb03).mono hB
    have hr3 : Rows (SAt' (Rd B w3) D) (putS (rest m.F s.no) s) (xs1.take (at_ * 3) ++ [.int .i64 s.no, u1, .slice A2 s.V.length c2] ++ xs1.drop (at_ * 3)) := by
      have h1 : Rows (SAt' (Rd B w3) D) (rest m.F s.no) xs1 := HR1.out.imp fun a cs h => SRd.low hlo13 h
      have e : putS (rest m.F s.no) s = ((rest m.F s.no).take at_ ++ [s]) ++ (rest m.F s.no).drop at_ := by unfold putS; rw [HAT.out]; simp
      rw [e]
      exact ((h1.take sAt.len at_).append (Rows.single (SRd.low hlo03 HSS.out))).append (h1.drop sAt.len at_)
    have hlen3 : (putS (rest m.F s.no) s).length = (rest m.F s.no).length + 1 := by unfold putS; simp; omega
    rw [← hlen3] at ho3
    obtain ⟨A3, c3, rfl, -⟩ := Sl.of_own ho3
    have Y3c := box_on Y3b (below_new w2 (.cells #[.int .i64 s.no, u1, .slice A2 s.V.length c2] 36))
    have Y3d := (hb3.block (w.heap.size + 2) X3lt).trans Y3c
    have HO := Lib.hid (own_any9 w3.heap.size (D + 1) (.mk (putS (rest m.F s.no) s)) _ w3 (Nat.le_refl _) ⟨_, rfl, own_ls ho3 (show (putS (rest m.F s.no) s).length ≤ _ by omega) (Nat.le_trans hB hb03.size) hr3⟩ (by omega) w3.heap.size (Nat.le_refl _))
    clear ho3 hr3 hg3 hb3 hb13 hlo13 hlo03 Y3b Y3c y0 y1 y2 Y2b HI hlen3
    go_wp2_with (go_at_call 68; refine HO.out.mono ?_; rintro e w4 ⟨q, rfl, ho4, hb4⟩; obtain ⟨q', hq, zs, ⟨hown, hzl⟩, hrz⟩ := id ho4; obtain ⟨A', c', hsl, -⟩ := Sl.of_own hown; obtain rfl : q = q' := (by simpa using hq); subst hsl; have Y4 := box_on Y3d hb4; have z0 := bx1 Y4; have z1 : w4.frozen? ⟨w.heap.size + 2, 0, none⟩ = false := by simp [World.frozen?, Y4])
    obtain ⟨Z1, Z2⟩ := one_set Y4 (.slice A' (putS (rest m.F s.no) s).length c')
    have hhi := hi_grown Z2 (box_lt Y3d)
    have hb5 := (below_then hb03 hb4).trans (below_own Z2 (show w.heap.size ≤ w.heap.size + 2 by omega) (Nat.le_trans hb03.size hb4.size))
    refine bodyPost_ret (results_cell_row rfl _ _ (w.heap.size + 2) _ _ (0, 0) _ rfl Z1 Tryz.underlying28 rfl sz_msg) rfl ?_
    exact ⟨_, rfl, msg_moved hhi (Nat.le_trans hb hb03.size) ho4, hb5⟩
end Go.Proofs.YtggcjdajmbkpiaaGreatDoor.T9
/-
  A slot that is got; a value that is less: value's Get and Less.
-/
namespace Go.Proofs.YtggcjdajmbkpiaaGreatDoor.T9
set_option maxRecDepth 100000

open Go.RowKit

theorem results_pair {P : Program} {fn : Func} {p u : Tmp} {ty : TypeId} (h : fn.results = #[.cell p ty, .tmp u]) (tmps : Array Value) (w : World) (g : Nat) (t : TypeId) (cs : Array Value) (fr : Nat × Nat) (d : TypeDesc)
    (hp : tmps.getD p undef = .pointer (some ⟨g, 0, none⟩)) (hg : w.heap[g]? = some (.cells cs t fr))
    (hu : P.underlying ty = some d) (hd : (match d with | .struct _ | .array _ _ => true | _ => false) = true) (hi : (P.info? ty).map (·.size) = some cs.size) :
    (results fn tmps).run P w = .ok (.tuple #[.agg cs, tmps.getD u undef]) w := by
  have hp' : tmps[p]?.getD undef = .pointer (some ⟨g, 0, none⟩) := by simpa using hp
  simp [results, h, hp', asAddr, run_loadVar_row w g t ty cs fr d hg hu hd hi]
def so0 : So := ⟨0, [], []⟩
theorem so0_at (b D : Nat) (w : World) : SAt' (Ow b w) D so0 [.int .i64 0, .slice none 0 0, .slice none 0 0] :=
  ⟨_, _, rfl, ⟨[], ⟨World.ownsRow_nil _ _ _ _, by decide⟩, rfl⟩, ⟨[], ⟨World.ownsRow_nil _ _ _ _, by decide⟩, rfl⟩⟩
theorem slot_moved {w w' : World} {b b' D : Nat} {m : So} {cs : List Value} (hk : ∀ k, b ≤ k → k < w.heap.size → w'.heap[k]? = w.heap[k]?) (hb : b' ≤ b) (h : SAt' (Ow b w) D m cs) : SAt' (Ow b' w') D m cs := sAt.imp (Ow.hi' hk hb) (fun m cs h => MAt.imp (Ow.hi' hk hb) D m cs h) _ _ h
theorem getM_at (m : Mg) (no : Int) : getM m no = m.F[m.F.findIdx (fun a => a.no == no)]? := by
  unfold getM
  exact List.find?_eq_getElem?_findIdx
set_option maxRecDepth 1000000 in
set_option maxHeartbeats 4000000 in
theorem get_any (B D : Nat) (m : Mg) (u : Value) (no : Int) (w : World) (hB : B ≤ w.heap.size) (hm : MRd B w (D + 1) m u) (hcm : m.cnt ≤ 100000000) (b : Nat) (hb : b ≤ w.heap.size) :
    Calls Tryz.prog 30 #[.agg #[u], .int .i64 no] w fun e w' => ∃ x1 x2 x3, e = .returned (.tuple #[.agg #[x1, x2, x3], .bool (getM m no).isSome]) ∧ SAt' (Ow b w') D ((getM m no).getD so0) [x1, x2, x3] ∧ Below w.heap.size w w' := by
  obtain ⟨u', hu, hl⟩ := hm
  simp only [List.cons.injEq, and_true] at hu
  subst hu
  obtain ⟨X1, X2, X3, LBD⟩ := three_boxes w (.cells #[u] 28) (.cells #[.int .i64 no] 3) (.cells #[.int .i64 0, .slice none 0 0, .slice none 0 0] 36)
  have hF := cnt_F m
  have HT := Lib.hid (place_get B D m.F u no (w.heap.size + 1) _ (Nat.le_trans hB LBD.size) (hl.low (Lo.below LBD hB) fun a cs h => SRd.low (Lo.below LBD hB) h) X2)
  obtain ⟨A, c, xs, rfl, hs, hbl, hr, hn⟩ := hl.open_
  have HS := Lib.hid hs
  have HR := Lib.hid hr
  have HBB := Lib.hid hbl
  have hg := getM_at m no
  obtain ⟨at_, hat⟩ : ∃ k, m.F.findIdx (fun a => a.no == no) = k := ⟨_, rfl⟩
  have hle : at_ ≤ m.F.length := by rw [← hat]; exact List.findIdx_le_length
  rw [hat] at HT hg
  clear hl hs hr hbl hat
  go_enter Tryz.func30, Tryz.ntmps30
  go_wp2_with fail
  refine HT.out.mono ?_
  rintro e w1 ⟨rfl, hb1⟩
  have hb01 := below_then LBD hb1
  have y0 := bx1 (box_on X1 hb1)
  have Y3 := box_on X3 hb1
  have hX3 := box_lt X3
  obtain ⟨⟨z0, z1, z2⟩, z3, z4, z5⟩ := wr3 Y3
  by_cases hlt : at_ < m.F.length
  · obtain ⟨s, hs⟩ : ∃ s, m.F[at_]? = some s := ⟨_, List.getElem?_eq_getElem hlt⟩
    rw [hs] at hg
    have HGG := Lib.hid hg
    have hne : ((at_ : Int) == (m.F.length : Int)) = false := by rw [beq_eq_false_iff_ne]; omega
    have hne2 : ¬ at_ = m.F.length := by omega
    obtain ⟨ad, x, y, z, rfl, hga, hcc, c0, c1, c2⟩ := row3 sAt.len (sl_low HS.out HBB.out (Lo.below hb01 hB)) (HR.out.imp fun a cs h => SRd.low (Lo.below hb01 hB) h) hs
    have hx := hcc.head
    subst hx
    have hcs := cS_le (List.mem_of_getElem? hs)
    have HO := Lib.hid (ownSlot_any (own_any9 B D) s y z w1 (Nat.le_trans hB hb01.size) hcc (by omega) w1.heap.size (Nat.le_refl _))
    clear hcc hs hg X1 X2
    go_wp2_with fail
    refine HO.out.mono ?_
    rintro e w2 ⟨x1, x2, x3, rfl, ho, hb2⟩
    have Y4 := box_on Y3 hb2
    have hone := sAt.oneO s _ ho
    have hh := ho.head
    obtain ⟨v1, v2, hv, hk, hvv⟩ := id ho
    simp only [List.cons.injEq, and_true] at hv
    obtain ⟨rfl, rfl, rfl⟩ := hv
    obtain ⟨q1, ⟨hq1, -⟩, -⟩ := hk
    obtain ⟨q2, ⟨hq2, -⟩, -⟩ := hvv
    obtain ⟨A1, c1', rfl, -⟩ := Sl.of_own hq1
    obtain ⟨A2, c2', rfl, -⟩ := Sl.of_own hq2
    clear z0 z1 z2 z3 z4 z5 hq1 hq2 c0 c1 c2
    obtain ⟨⟨z0, z1, z2⟩, z3, z4, z5⟩ := wr3 Y4
    go_wp2
    obtain ⟨Z1, Z2⟩ := three_set Y4 (.int .i64 s.no) (.slice A1 s.K.length c1') (.slice A2 s.V.length c2')
    have hhi := hi_grown Z2 (Nat.lt_of_lt_of_le hX3 hb1.size)
    have hb5 := (below_then hb01 hb2).trans (below_own Z2 (show w.heap.size ≤ w.heap.size + 2 by omega) (Nat.le_trans hb01.size hb2.size))
    refine bodyPost_ret (results_pair rfl _ _ (w.heap.size + 2) _ _ (0, 0) _ rfl Z1 Tryz.underlying36 rfl sz_slot) rfl ?_
    rw [HGG.out]
    exact ⟨_, _, _, rfl, slot_moved hhi (Nat.le_trans hb hb01.size) ho, hb5⟩
  · obtain rfl : at_ = m.F.length := by omega
    have hno : m.F[m.F.length]? = none := by simp
    rw [hno] at hg
    have HGG := Lib.hid hg
    clear hg hno X1 X2
    go_wp2
    obtain ⟨Z1, Z2⟩ := three_set Y3 (.int .i64 0) (.slice none 0 0) (.slice none 0 0)
    have hb5 := hb01.trans (below_own Z2 (show w.heap.size ≤ w.heap.size + 2 by omega) hb01.size)
    refine bodyPost_ret (results_pair rfl _ _ (w.heap.size + 2) _ _ (0, 0) _ rfl Z1 Tryz.underlying36 rfl sz_slot) rfl ?_
    rw [HGG.out]
    exact ⟨_, _, _, rfl, so0_at _ _ _, hb5⟩
def lessV (a b : Vl') : Bool := if a.n = b.n then Op.bytesLess a.s b.s else decide (a.n < b.n)
set_option maxRecDepth 1000000 in
set_option maxHeartbeats 4000000 in
theorem less_any (a b : Vl') (u1 u2 : Value) (w : World) :
    Calls Tryz.prog 29 #[.agg #[.int .i64 a.n, .string (tx a.s), u1], .agg #[.int .i64 b.n, .string (tx b.s), u2]] w fun e w' => e = .returned (.bool (lessV a b)) ∧ Below w.heap.size w w' := by
  unfold lessV
  obtain ⟨n1, hn1⟩ : ∃ n, a.n = n := ⟨_, rfl⟩
  obtain ⟨n2, hn2⟩ : ∃ n, b.n = n := ⟨_, rfl⟩
  obtain ⟨s1, hs1⟩ : ∃ n, a.s = n := ⟨_, rfl⟩
  obtain ⟨s2, hs2⟩ : ∃ n, b.s = n := ⟨_, rfl⟩
  rw [hn1, hn2, hs1, hs2]
  clear hn1 hn2 hs1 hs2
  obtain ⟨X1, X2, LBD⟩ := two_boxes w (.cells #[.int .i64 n1, .string (tx s1), u1] 31) (.cells #[.int .i64 n2, .string (tx s2), u2] 31)
  by_cases hn : n1 = n2
  · subst hn
    rw [if_pos rfl]
    go_enter Tryz.func29, Tryz.ntmps29
    go_wp2
    go_ret
    have e1 : (tx s1).toList = s1 := by rw [ByteArray.toList_eq, tx_list]
    have e2 : (tx s2).toList = s2 := by rw [ByteArray.toList_eq, tx_list]
    exact ⟨by rw [e1, e2]; rfl, LBD⟩
  · rw [if_neg hn]
    go_enter Tryz.func29, Tryz.ntmps29
    go_wp2
    go_ret
    exact ⟨by rfl, LBD⟩
end Go.Proofs.YtggcjdajmbkpiaaGreatDoor.T9
/-
  The chapter's example: the laws' own awake.
-/
namespace Go.Proofs.YtggcjdajmbkpiaaGreatDoor.T9
set_option maxRecDepth 100000

open Go.RowKit

def ex9 : So := ⟨3, [], [⟨1, [], []⟩, ⟨2, [], []⟩]⟩
theorem ex9_set : setM (.mk []) ex9 = .mk [ex9] := by
  unfold setM
  rw [if_neg (by simp [ex9])]
  rfl
theorem ex9_dS : dS ex9 = 0 := by decide
theorem ex9_zS : zS ex9 = 2 := by decide
theorem ex9_cS : cS ex9 = 3 := by decide
theorem ex9_deep : (Mg.mk [ex9]).deep = 1 := by
  rw [Mg.deep_eq]
  show 1 + mx [dS ex9] = 1
  rw [ex9_dS]
  rfl
theorem ex9_size : (Mg.mk [ex9]).size = 2 := by
  rw [Mg.size_eq]
  show sm [zS ex9] = 2
  rw [ex9_zS]
  rfl
theorem ex9_cnt : (Mg.mk [ex9]).cnt = 3 := by
  rw [Mg.cnt_eq]
  show sm [cS ex9] = 3
  rw [ex9_cS]
  rfl
theorem cnt_none : (Mg.mk []).cnt = 0 := by rw [Mg.cnt_eq]; rfl
theorem ex9_get : getM (.mk [ex9]) 3 = some ex9 := rfl
theorem none_at (B : Nat) (w : World) (D : Nat) : MRd B w (D + 1) (.mk []) (.slice none 0 0) := ⟨_, rfl, [], ⟨Rr.nil _ _ _, by decide⟩, rfl⟩
theorem ex9_at (w : World) (D : Nat) (e : Array Value) (he : e = #[.int .i64 1, .string ⟨#[]⟩, .slice none 0 0, .int .i64 2, .string ⟨#[]⟩, .slice none 0 0]) :
    SAt' (Rd (w.alloc (.cells e 31)).heap.size (w.alloc (.cells e 31))) D ex9 [.int .i64 3, .slice none 0 0, .slice (some ⟨w.heap.size, 0, none⟩) 2 2] := by
  subst he
  refine ⟨_, _, rfl, ⟨[], ⟨Rr.nil _ _ _, by decide⟩, rfl⟩, [.int .i64 1, .string ⟨#[]⟩, .slice none 0 0, .int .i64 2, .string ⟨#[]⟩, .slice none 0 0], ⟨⟨some ⟨w.heap.size, 0, none⟩, 2, rfl, ⟨rfl, by decide, by decide, by simp, fun ad ha _ => ?_, fun ad ha k u hu => ?_⟩, fun ad ha _ => ?_⟩, by decide⟩, ⟨[.int .i64 1, .string ⟨#[]⟩, .slice none 0 0], _, rfl, ⟨_, rfl, [], ⟨Rr.nil _ _ _, by decide⟩, rfl⟩, [.int .i64 2, .string ⟨#[]⟩, .slice none 0 0], [], rfl, ⟨_, rfl, [], ⟨Rr.nil _ _ _, by decide⟩, rfl⟩, rfl⟩⟩
  · obtain rfl := Option.some.inj ha
    simp
  · obtain rfl := Option.some.inj ha
    rw [Addr.add_lit, World.cell?_alloc_at _ _ _ _ rfl]
    simpa using hu
  · obtain rfl := Option.some.inj ha
    simp
end Go.Proofs.YtggcjdajmbkpiaaGreatDoor.T9
/-
  The document's own: a slot's values, those of K first.
-/
namespace Go.Proofs.YtggcjdajmbkpiaaGreatDoor.T9
set_option maxRecDepth 100000

open Go.RowKit

theorem below_app {w w' : World} {B : Nat} {e : TypeId} {size : Nat} {v : Value} {n : Nat} {xs : List Value} (h : w.ownsRow B e size v n xs) (hg : w.grownBy w' v.ownBlock) (hs : B ≤ w.heap.size) : Below B w w' := below_rows h hg hs
theorem none_sl (w : World) (size : Nat) : Sl w none 0 0 size [] := Sl.nothing w size
set_option maxRecDepth 1000000 in
set_option maxHeartbeats 4000000 in
theorem both_any (B d : Nat) (s : So) (u1 u2 : Value) (w : World) (hB : B ≤ w.heap.size) (hs : SAt' (Rd B w) d s [.int .i64 s.no, u1, u2]) (hk : s.K.length ≤ 1000000000) (hv : s.V.length ≤ 1000000000) :
    Calls Tryz.prog 106 #[.agg #[.int .i64 s.no, u1, u2]] w fun e w' => ∃ v xs, e = .returned v ∧ w'.ownsRow w.heap.size 31 3 v (s.K ++ s.V).length xs ∧ Rows (VAt (Rd B w') d) (s.K ++ s.V) xs ∧ Below w.heap.size w w' := by
  obtain ⟨i0, hi, hz0, hz1, hz2⟩ := info_parts info_val
  obtain ⟨u1', u2', hu, hlk, hlv⟩ := hs
  simp only [List.cons.injEq, and_true, true_and] at hu
  obtain ⟨rfl, rfl⟩ := hu
  obtain ⟨A1, c1, xs1, rfl, hs1, hb1, hr1, -⟩ := hlk.open_
  obtain ⟨A2, c2, xs2, rfl, hs2, hb2, hr2, -⟩ := hlv.open_
  have hbw := below_new w (.cells #[.int .i64 s.no, .slice A1 s.K.length c1, .slice A2 s.V.length c2] 36)
  have X1 := heap_alloc_new w (.cells #[.int .i64 s.no, .slice A1 s.K.length c1, .slice A2 s.V.length c2] 36)
  have hlt := box_lt X1
  have hs1' := sl_low hs1 hb1 (Lo.below hbw hB)
  have h11 := Rows.one vAt.one hr1
  have h12 := Rows.one vAt.one hr2
  have HR1 := Lib.hid hr1
  have HR2 := Lib.hid hr2
  have HS2 := Lib.hid hs2
  clear hr1 hr2 hs1 hs2 hlk hlv
  obtain ⟨p0, p1, p2⟩ := bx3 X1
  go_enter Tryz.func106, Tryz.ntmps106
  go_wp2_with (at_builtin; first
    | (refine wpList_app_sl rfl _ _ 34 rfl w.heap.size 31 i0 (.agg #[.int .i64 0, .string ⟨#[]⟩, .slice none 0 0]) 3 48 Tryz.underlying34 hi hz0 hz1 hz2 rfl (by omega) (.slice none 0 0) 0 [] rfl (World.ownsRow_nil _ _ _ _) A1 s.K.length c1 xs1 rfl hs1' h11 (by unfold maxLen; omega) (by omega) hbw.size ?_; intro v2 w2 hown2 hg2
       have Y1 := (hg2.block w.heap.size hlt (by simp [Value.ownBlock])).trans X1
       have q2 := (bx3 Y1).2.2
       have hb02 := hbw.trans (below_own (g := w2.heap.size + w.heap.size) ⟨hg2.os, hg2.tape, hg2.output, hg2.size, fun k hk _ => hg2.block k hk (by simp [Value.ownBlock])⟩ (by omega) hbw.size)
       have hs2' := sl_low HS2.out hb2 (Lo.below hb02 hB)
       rw [Nat.zero_add] at hown2)
    | (refine wpList_app_sl rfl _ _ 34 rfl w.heap.size 31 i0 (.agg #[.int .i64 0, .string ⟨#[]⟩, .slice none 0 0]) 3 48 Tryz.underlying34 hi hz0 hz1 hz2 rfl (by omega) _ s.K.length _ rfl hown2 A2 s.V.length c2 xs2 rfl hs2' h12 (by unfold maxLen; omega) (by omega) hb02.size ?_; intro v3 w3 hown3 hg3))
  go_ret
  have hb03 := hb02.trans (below_app hown2 hg3 hb02.size)
  refine ⟨_, _, rfl, by rw [List.length_append]; exact hown3, ?_, hb03⟩
  exact ((HR1.out.imp fun a cs h => VRd.low (Lo.below hb03 hB) h).append (HR2.out.imp fun a cs h => VRd.low (Lo.below hb03 hB) h))
end Go.Proofs.YtggcjdajmbkpiaaGreatDoor.T9
/-
  The document's own: is a tree not too great (truffleref09.Few)?
-/
namespace Go.Proofs.YtggcjdajmbkpiaaGreatDoor.T9
set_option maxRecDepth 100000

open Go.RowKit

def cS' (s : So) : Nat := sm ((s.K ++ s.V).map cV)
def cV' (v : Vl') : Nat := sm (v.M.map fun x => 1 + x.cnt)
theorem cS_eq (s : So) : cS s = 1 + cS' s := by unfold cS cS'; rw [List.map_append, sm_append]
theorem cV_eq (v : Vl') : cV v = 1 + cV' v := rfl
theorem cnt_split (m : Mg) : m.cnt = m.F.length + sm (m.F.map cS') := by
  rw [m.cnt_eq, ← sm_one m.F, ← sm_add]
  exact sm_congr fun s _ => cS_eq s
theorem cS_split (s : So) : cS' s = (s.K ++ s.V).length + sm ((s.K ++ s.V).map cV') := by
  unfold cS'
  rw [← sm_one (s.K ++ s.V), ← sm_add]
  exact sm_congr fun v _ => cV_eq v
theorem cV_split (v : Vl') : cV' v = v.M.length + sm (v.M.map Mg.cnt) := by
  unfold cV'
  rw [← sm_one v.M, ← sm_add]
/-- No message of these is deeper. -/
def DpV (d : Nat) (v : Vl') : Prop := ∀ x ∈ v.M, x.deep + 1 ≤ d
def DpS (d : Nat) (s : So) : Prop := ∀ v ∈ s.K ++ s.V, DpV d v
theorem deep_of {m : Mg} {d : Nat} (hd : 1 ≤ d) (h : ∀ s ∈ m.F, DpS d s) : m.deep ≤ d := by
  rw [m.deep_eq]
  have h1 : mx (m.F.map dS) ≤ d - 1 := by
    refine mx_le fun y hy => ?_
    obtain ⟨s, hs, rfl⟩ := List.mem_map.1 hy
    have h2 : ∀ v ∈ s.K ++ s.V, dV v ≤ d - 1 := fun v hv => by
      refine mx_le fun z hz => ?_
      obtain ⟨x, hx, rfl⟩ := List.mem_map.1 hz
      have := h s hs v hv x hx
      omega
    have h3 : mx (s.K.map dV) ≤ d - 1 := mx_le fun z hz => by
      obtain ⟨v, hv, rfl⟩ := List.mem_map.1 hz
      exact h2 v (List.mem_append.2 (.inl hv))
    have h4 : mx (s.V.map dV) ≤ d - 1 := mx_le fun z hz => by
      obtain ⟨v, hv, rfl⟩ := List.mem_map.1 hz
      exact h2 v (List.mem_append.2 (.inr hv))
    unfold dS
    omega
  omega
/-- How great a number is told at most. -/
def NB (d : Nat) : Nat := 20000000000000 + 10000 * d
/-- What is told so far: at least as many, unless it is too many already. -/
def So1 (m : Mg) (d i N : Nat) : Prop := N ≤ 3000 → m.F.length + sm ((m.F.take i).map cS') ≤ N ∧ ∀ s ∈ m.F.take i, DpS d s
def So2 (m : Mg) (d i : Nat) (L : List Vl') (k N : Nat) : Prop := N ≤ 3000 → (m.F.length + sm ((m.F.take i).map cS') + L.length + sm ((L.take k).map cV') ≤ N ∧ ∀ s ∈ m.F.take i, DpS d s) ∧ ∀ v ∈ L.take k, DpV d v
def So3 (m : Mg) (d i : Nat) (L : List Vl') (k : Nat) (M : List Mg) (j N : Nat) : Prop := N ≤ 3000 → ((m.F.length + sm ((m.F.take i).map cS') + L.length + sm ((L.take k).map cV') + M.length + sm ((M.take j).map Mg.cnt) ≤ N ∧ ∀ s ∈ m.F.take i, DpS d s) ∧ ∀ v ∈ L.take k, DpV d v) ∧ ∀ x ∈ M.take j, x.deep + 1 ≤ d
theorem mem_take_next {α : Type} {l : List α} {k : Nat} {a x : α} (h : l[k]? = some a) (hx : x ∈ l.take (k + 1)) : x ∈ l.take k ∨ x = a := by
  rw [List.take_add_one, h] at hx
  simpa using hx
theorem So3.next {m : Mg} {d i : Nat} {L : List Vl'} {k : Nat} {M : List Mg} {j N c : Nat} {x : Mg} (h : So3 m d i L k M j N) (hN : N ≤ 3000) (hx : M[j]? = some x) (hc : c ≤ 3000 → x.cnt ≤ c ∧ x.deep ≤ d - 1) (hd : 1 ≤ d) : So3 m d i L k M (j + 1) (N + c) := fun hn => by
  obtain ⟨⟨⟨h1, h2⟩, h3⟩, h4⟩ := h hN
  obtain ⟨h5, h6⟩ := hc (by omega)
  refine ⟨⟨⟨?_, h2⟩, h3⟩, fun y hy => ?_⟩
  · rw [sm_take_next Mg.cnt hx]; omega
  · rcases mem_take_next hx hy with hy | rfl
    · exact h4 y hy
    · omega
theorem So3.start {m : Mg} {d i : Nat} {L : List Vl'} {k : Nat} {M : List Mg} {N : Nat} (h : So2 m d i L k N) (hN : N ≤ 3000) : So3 m d i L k M 0 (N + M.length) := fun hn => by
  obtain ⟨⟨h1, h2⟩, h3⟩ := h hN
  exact ⟨⟨⟨by simp only [List.take_zero, List.map_nil, sm]; omega, h2⟩, h3⟩, fun y hy => by simp at hy⟩
theorem So3.done {m : Mg} {d i : Nat} {L : List Vl'} {k : Nat} {v : Vl'} {j N : Nat} (h : So3 m d i L k v.M j N) (hv : L[k]? = some v) (hj : N ≤ 3000 → j = v.M.length) : So2 m d i L (k + 1) N := fun hn => by
  obtain ⟨⟨⟨h1, h2⟩, h3⟩, h4⟩ := h hn
  obtain rfl := hj hn
  rw [List.take_length] at h1 h4
  refine ⟨⟨?_, h2⟩, fun y hy => ?_⟩
  · rw [sm_take_next cV' hv, cV_split v]; omega
  · rcases mem_take_next hv hy with hy | rfl
    · exact h3 y hy
    · exact h4
theorem So2.start {m : Mg} {d i : Nat} {L : List Vl'} {N : Nat} (h : So1 m d i N) (hN : N ≤ 3000) : So2 m d i L 0 (N + L.length) := fun hn => by
  obtain ⟨h1, h2⟩ := h hN
  exact ⟨⟨by simp only [List.take_zero, List.map_nil, sm]; omega, h2⟩, fun y hy => by simp at hy⟩
theorem So2.done {m : Mg} {d i : Nat} {s : So} {k N : Nat} (h : So2 m d i (s.K ++ s.V) k N) (hs : m.F[i]? = some s) (hk : N ≤ 3000 → k = (s.K ++ s.V).length) : So1 m d (i + 1) N := fun hn => by
  obtain ⟨⟨h1, h2⟩, h3⟩ := h hn
  obtain rfl := hk hn
  rw [List.take_length] at h1 h3
  refine ⟨?_, fun y hy => ?_⟩
  · rw [sm_take_next cS' hs, cS_split s]; omega
  · rcases mem_take_next hs hy with hy | rfl
    · exact h2 y hy
    · exact h3
theorem So1.start (m : Mg) (d : Nat) : So1 m d 0 m.F.length := fun _ => ⟨by simp [sm], fun y hy => by simp at hy⟩
theorem So1.done {m : Mg} {d i N : Nat} (h : So1 m d i N) (hi : N ≤ 3000 → i = m.F.length) (hd : 1 ≤ d) : N ≤ 3000 → m.cnt ≤ N ∧ m.deep ≤ d := fun hn => by
  obtain ⟨h1, h2⟩ := h hn
  obtain rfl := hi hn
  rw [List.take_length] at h1 h2
  exact ⟨by rw [cnt_split]; exact h1, deep_of hd h2⟩
end Go.Proofs.YtggcjdajmbkpiaaGreatDoor.T9
/-
  The document's own count of a tree, and whether it is not too great (truffleref09.count, Few).
-/
namespace Go.Proofs.YtggcjdajmbkpiaaGreatDoor.T9
set_option maxRecDepth 100000

open Go.RowKit

/-- count, of messages within so many levels. -/
def CountH (B D : Nat) : Prop := ∀ (m : Mg) (u : Value) (d : Nat) (w : World), B ≤ w.heap.size → MRd B w D m u → d ≤ 1000 → Calls Tryz.prog 85 #[.agg #[u], .int .i64 d] w fun e w' => ∃ n : Nat, e = .returned (.int .i64 n) ∧ n ≤ NB d ∧ (n ≤ 3000 → m.cnt ≤ n ∧ m.deep ≤ d) ∧ Below w.heap.size w w'
set_option maxRecDepth 1000000 in
set_option maxHeartbeats 8000000 in
theorem count_step {B D : Nat} (H : CountH B D) : CountH B (D + 1) := by
  rintro m u d w hB ⟨u', hu, hl⟩ hd
  simp only [List.cons.injEq, and_true] at hu
  subst hu
  obtain ⟨A, c, xs, rfl, hs, hbl, hr, hn⟩ := hl.open_
  have X1 := heap_alloc_new w (.cells #[.slice A m.F.length c] 28)
  have LBD := below_new w (.cells #[.slice A m.F.length c] 28)
  have HS := Lib.hid hs
  have HR := Lib.hid hr
  have HBB := Lib.hid hbl
  have HH := Lib.hid H
  clear hs hr hl hbl H
  by_cases hd0 : d = 0
  · subst hd0
    go_enter Tryz.func85, Tryz.ntmps85
    go_wp2
    go_ret
    exact ⟨10000, rfl, by unfold NB; omega, fun h => by omega, LBD⟩
  · have hd1 : 1 ≤ d := by omega
    have hdl : decide ((d : Int) ≤ 0) = false := by rw [decide_eq_false_iff_not]; omega
    by_cases hF : m.F.length ≤ 3000
    · have hfl : decide ((3000 : Int) < (m.F.length : Int)) = false := by rw [decide_eq_false_iff_not]; omega
      have hfl2 : decide (3000 < m.F.length) = false := by rw [decide_eq_false_iff_not]; omega
      clear hd0
      go_enter Tryz.func85, Tryz.ntmps85
      go_wp2
      obtain ⟨W0, hW0⟩ : ∃ W, W = w.alloc (.cells #[.slice A m.F.length c] 28) := ⟨_, rfl⟩
      rw [← hW0] at X1 LBD ⊢
      have hX := box_lt X1
      clear hW0
      go_loopw [5, 6, 7, 8, 9] (fun n i l k j wr => ∃ (p N : Nat), i = .int .i64 p ∧ p ≤ m.F.length ∧ n = .int .i64 N ∧ N ≤ NB d ∧ So1 m d p N ∧ Below W0.heap.size W0 wr) (fun _ i _ _ _ _ => m.F.length - (intOf i).toNat)
      case atStart => exact ⟨0, m.F.length, rfl, by omega, rfl, by unfold NB; omega, So1.start m d, Below.refl _ _⟩
      case round =>
        obtain ⟨p, N, rfl, hp, rfl, hNB, hso, hbw⟩ := hrel
        have HSO := Lib.hid hso
        have g0 := bx1 (box_on X1 hbw)
        have HBW := Lib.hid (LBD.trans (hbw.mono LBD.size))
        clear hso
        by_cases hlt : p < m.F.length
        · by_cases hN : N ≤ 3000
          · have hN3 : decide ((N : Int) ≤ 3000) = true := by rw [decide_eq_true_iff]; omega
            have hN4 : decide (N ≤ 3000) = true := by rw [decide_eq_true_iff]; omega
            obtain ⟨s, hs⟩ : ∃ s, m.F[p]? = some s := ⟨_, List.getElem?_eq_getElem hlt⟩
            obtain ⟨ad, x, y, z, rfl, hga, hcc, c0, c1, c2⟩ := row3 sAt.len (sl_low HS.out HBB.out (Lo.below HBW.out hB)) (HR.out.imp fun a cs h => SRd.low (Lo.below HBW.out hB) h) hs
            have HCC := Lib.hid hcc
            obtain ⟨u1, u2, hu, hlk, hlv⟩ := hcc
            simp only [List.cons.injEq, and_true] at hu
            obtain ⟨rfl, rfl, rfl⟩ := hu
            obtain ⟨AK, cK, xsK, rfl, -⟩ := hlk.open_
            obtain ⟨AV, cV_, xsV, rfl, -⟩ := hlv.open_
            have HSs := Lib.hid hs
            clear hlk hlv hs
            by_cases hK : s.K.length ≤ 3000
            · have hK1 : decide ((3000 : Int) < (s.K.length : Int)) = false := by rw [decide_eq_false_iff_not]; omega
              have hK2 : decide (3000 < s.K.length) = false := by rw [decide_eq_false_iff_not]; omega
              by_cases hV : s.V.length ≤ 3000
              · have hV1 : decide ((3000 : Int) < (s.V.length : Int)) = false := by rw [decide_eq_false_iff_not]; omega
                have hV2 : decide (3000 < s.V.length) = false := by rw [decide_eq_false_iff_not]; omega
                have HB7 := Lib.hid (both_any B D s _ _ wr (Nat.le_trans hB HBW.out.size) HCC.out (by omega) (by omega))
                have HLL := Lib.hid (show (s.K ++ s.V).length ≤ 6000 by rw [List.length_append]; omega)
                go_wp2_with fail
                refine HB7.out.mono ?_
                rintro e w2 ⟨v7, ys, rfl, ho7, hr7, hb2⟩
                have HSO2 := Lib.hid (fun q M => @So2.done m d p s q M)
                have HST := Lib.hid (So2.start (L := s.K ++ s.V) HSO.out hN)
                obtain ⟨L, hL⟩ : ∃ L, s.K ++ s.V = L := ⟨_, rfl⟩
                rw [hL] at ho7 hr7 HSO2 HST HLL
                obtain ⟨A7, c7, rfl, hs7⟩ := Sl.of_own ho7
                have HS7 := Lib.hid hs7
                have HR7 := Lib.hid hr7
                have HB2 := Lib.hid (below_then HBW.out hb2)
                have HB3 := Lib.hid (below_then hbw hb2)
                have hll := HLL.out
                have hw1 : IntKind.i64.wrap ((N : Int) + (L.length : Int)) = ((N + L.length : Nat) : Int) := by rw [IntKind.wrap_i64]; omega
                have hn2 : N + L.length ≤ NB d := by unfold NB; omega
                clear ho7 hr7 hs7 hL hb2 g0 c0 c1 c2 hK hK1 hK2 hV hV1 hV2 hbw hN3 hN4 HB7
                go_wp2
                go_loopw [5, 8, 9] (fun n k j wx => ∃ (q M : Nat), k = .int .i64 q ∧ q ≤ L.length ∧ n = .int .i64 M ∧ M ≤ NB d ∧ So2 m d p L q M ∧ Below w2.heap.size w2 wx) (fun _ k _ _ => L.length - (intOf k).toNat)
                case atStart => exact ⟨0, N + L.length, rfl, by omega, by go_num, hn2, HST.out, Below.refl _ _⟩
                case round =>
                  obtain ⟨q, M, rfl, hq, rfl, hMB, hso2, hbx⟩ := hrel
                  have HSOX := Lib.hid hso2
                  clear hso2
                  by_cases hql : q < L.length
                  · by_cases hM : M ≤ 3000
                    · have hM3 : decide ((M : Int) ≤ 3000) = true := by rw [decide_eq_true_iff]; omega
                      have hM4 : decide (M ≤ 3000) = true := by rw [decide_eq_true_iff]; omega
                      obtain ⟨v, hv⟩ : ∃ v, L[q]? = some v := ⟨_, List.getElem?_eq_getElem hql⟩
                      obtain ⟨a7, x, y, z, rfl, hga7, hcc, c0, c1, c2⟩ := row3 vAt.len (HS7.out.on hbx) (HR7.out.imp fun a cs h => VRd.low (Lo.below hbx (Nat.le_trans hB HB2.out.size)) h) hv
                      obtain ⟨um, hu, hlm⟩ := hcc
                      simp only [List.cons.injEq, and_true] at hu
                      obtain ⟨rfl, rfl, rfl⟩ := hu
                      obtain ⟨AM, cM, xsM, rfl, hsM, hbM, hrM, hnM⟩ := hlm.open_
                      have HSM := Lib.hid hsM
                      have HRM := Lib.hid hrM
                      have HBM := Lib.hid hbM
                      have HVV := Lib.hid hv
                      have HST3 := Lib.hid (So3.start (M := v.M) HSOX.out hM)
                      have HBX := Lib.hid hbx
                      have hw3 : IntKind.i64.wrap ((M : Int) + (v.M.length : Int)) = ((M + v.M.length : Nat) : Int) := by rw [IntKind.wrap_i64]; omega
                      have hn3 : M + v.M.length ≤ NB d := by unfold NB; omega
                      have C2 := Lib.hid c2
                      have hlt7 : a7.block < wr.heap.size := hga7
                      clear hsM hrM hbM hlm hv c0 c1 hbx
                      go_wp2
                      go_loopw [5, 9] (fun n j wy => ∃ (t M3 : Nat), j = .int .i64 t ∧ t ≤ v.M.length ∧ n = .int .i64 M3 ∧ M3 ≤ NB d ∧ So3 m d p L q v.M t M3 ∧ Below wr.heap.size wr wy) (fun _ j _ => v.M.length - (intOf j).toNat)
                      case atStart => exact ⟨0, M + v.M.length, rfl, by omega, by go_num, hn3, HST3.out, Below.refl _ _⟩
                      case round =>
                        obtain ⟨t, M3, rfl, ht, rfl, hM3B, hso3, hby⟩ := hrel
                        have HSO3 := Lib.hid hso3
                        have k2 := cell_on hby C2.out
                        clear hso3 c2
                        by_cases htl : t < v.M.length
                        · by_cases hM5 : M3 ≤ 3000
                          · have hM6 : decide ((M3 : Int) ≤ 3000) = true := by rw [decide_eq_true_iff]; omega
                            have hM7 : decide (M3 ≤ 3000) = true := by rw [decide_eq_true_iff]; omega
                            obtain ⟨x, hx⟩ : ∃ x, v.M[t]? = some x := ⟨_, List.getElem?_eq_getElem htl⟩
                            obtain ⟨am, ux, rfl, hgam, hcx, k0⟩ := row1 MAt.len (sl_low HSM.out HBM.out (Lo.below hby (Nat.le_trans hB (Nat.le_trans HB2.out.size HBX.out.size)))) (HRM.out.imp fun a cs h => MRd.low (Lo.below hby (Nat.le_trans hB (Nat.le_trans HB2.out.size HBX.out.size))) h) hx
                            have HCX := Lib.hid (HH.out x ux (d - 1) wr (Nat.le_trans hB (Nat.le_trans HB2.out.size (Nat.le_trans HBX.out.size hby.size))) hcx (by omega))
                            have hw4 : IntKind.i64.wrap ((d : Int) - 1) = ((d - 1 : Nat) : Int) := by rw [IntKind.wrap_i64]; omega
                            have HX := Lib.hid hx
                            have HBY := Lib.hid hby
                            clear hcx hx hby
                            go_wp2_with (go_at_call 85; refine HCX.out.mono ?_; rintro e w9 ⟨cn, rfl, hcn, hcf, hb9⟩; have hw5 : IntKind.i64.wrap ((M3 : Int) + (cn : Int)) = ((M3 + cn : Nat) : Int) := (by unfold NB at hcn; rw [IntKind.wrap_i64]; omega))
                            refine ⟨⟨t + 1, M3 + cn, by go_num, by omega, by go_num, by unfold NB at hcn ⊢; omega, So3.next HSO3.out hM5 HX.out (fun h => hcf h) hd1, HBY.out.trans (hb9.mono HBY.out.size)⟩, by simp [intOf]; omega⟩
                          · have hM6 : decide ((M3 : Int) ≤ 3000) = false := by rw [decide_eq_false_iff_not]; omega
                            have hM7 : decide (M3 ≤ 3000) = false := by rw [decide_eq_false_iff_not]; omega
                            go_wp2
                            exact ⟨⟨q + 1, M3, by go_num, by omega, rfl, hM3B, So3.done HSO3.out HVV.out (fun h => absurd h hM5), HBX.out.trans (hby.mono HBX.out.size)⟩, by simp [intOf]; omega⟩
                        · obtain rfl : t = v.M.length := by omega
                          go_wp2
                          exact ⟨⟨q + 1, M3, by go_num, by omega, rfl, hM3B, So3.done HSO3.out HVV.out (fun _ => rfl), HBX.out.trans (hby.mono HBX.out.size)⟩, by simp [intOf]; omega⟩
                    · have hM6 : decide ((M : Int) ≤ 3000) = false := by rw [decide_eq_false_iff_not]; omega
                      have hM7 : decide (M ≤ 3000) = false := by rw [decide_eq_false_iff_not]; omega
                      go_wp2
                      exact ⟨⟨p + 1, M, by go_num, by omega, rfl, hMB, HSO2.out q M HSOX.out HSs.out (fun h => absurd h hM), HB3.out.trans (hbx.mono HB3.out.size)⟩, by simp [intOf]; omega⟩
                  · obtain rfl : q = L.length := by omega
                    go_wp2
                    exact ⟨⟨p + 1, M, by go_num, by omega, rfl, hMB, HSO2.out _ M HSOX.out HSs.out (fun _ => rfl), HB3.out.trans (hbx.mono HB3.out.size)⟩, by simp [intOf]; omega⟩
              · have hV1 : decide ((3000 : Int) < (s.V.length : Int)) = true := by rw [decide_eq_true_iff]; omega
                have hV2 : decide (3000 < s.V.length) = true := by rw [decide_eq_true_iff]; omega
                go_wp2
                go_ret
                exact ⟨10000, rfl, by unfold NB; omega, fun h => by omega, HBW.out⟩
            · have hK1 : decide ((3000 : Int) < (s.K.length : Int)) = true := by rw [decide_eq_true_iff]; omega
              have hK2 : decide (3000 < s.K.length) = true := by rw [decide_eq_true_iff]; omega
              go_wp2
              go_ret
              exact ⟨10000, rfl, by unfold NB; omega, fun h => by omega, HBW.out⟩
          · have hN3 : decide ((N : Int) ≤ 3000) = false := by rw [decide_eq_false_iff_not]; omega
            have hN4 : decide (N ≤ 3000) = false := by rw [decide_eq_false_iff_not]; omega
            go_wp2
            go_ret
            exact ⟨N, rfl, hNB, So1.done HSO.out (fun h => absurd h hN) hd1, HBW.out⟩
        · obtain rfl : p = m.F.length := by omega
          go_wp2
          go_ret
          exact ⟨N, rfl, hNB, So1.done HSO.out (fun _ => rfl) hd1, HBW.out⟩
    · have hfl : decide ((3000 : Int) < (m.F.length : Int)) = true := by rw [decide_eq_true_iff]; omega
      have hfl2 : decide (3000 < m.F.length) = true := by rw [decide_eq_true_iff]; omega
      clear hd0
      go_enter Tryz.func85, Tryz.ntmps85
      go_wp2
      go_ret
      exact ⟨10000, rfl, by unfold NB; omega, fun h => by omega, LBD⟩
/-- truffleref09.count, of any message. -/
theorem count_any (B : Nat) : ∀ D, CountH B D
  | 0 => fun _ _ _ _ _ h _ => h.elim
  | D + 1 => count_step (count_any B D)
end Go.Proofs.YtggcjdajmbkpiaaGreatDoor.T9
/-
  Is a tree not too great: the document's own Few, and the laws' own few.
-/
namespace Go.Proofs.YtggcjdajmbkpiaaGreatDoor.T9
set_option maxRecDepth 100000

open Go.RowKit

theorem few_one (B D : Nat) (m : Mg) (u : Value) (d : Nat) (w : World) (hB : B ≤ w.heap.size) (hm : MRd B w D m u) (hd : d ≤ 1000) :
    Calls Tryz.prog 46 #[.agg #[u], .int .i64 d] w fun e w' => ∃ r : Bool, e = .returned (.bool r) ∧ (r = true → Fit 3000 d m) ∧ Below w.heap.size w w' := by
  have X1 := heap_alloc_new w (.cells #[u] 28)
  have LBD := below_new w (.cells #[u] 28)
  have HC := Lib.hid (count_any B D m u d _ (Nat.le_trans hB LBD.size) (MRd.low (Lo.below LBD hB) hm) hd)
  clear hm
  have y0 := bx1 X1
  go_enter Tryz.func46, Tryz.ntmps46
  go_wp2_with fail
  refine HC.out.mono ?_
  rintro e w1 ⟨n, rfl, hn, hf, hb1⟩
  have HF := Lib.hid hf
  clear hf
  go_wp2
  go_ret
  exact ⟨_, rfl, fun h => by
    have h1 : n ≤ 3000 := by have h2 := of_decide_eq_true h; omega
    exact ⟨Nat.le_trans (HF.out h1).1 h1, (HF.out h1).2⟩, below_then LBD hb1⟩
end Go.Proofs.YtggcjdajmbkpiaaGreatDoor.T9
/-
  What the laws of layer 9 share: rows that are written out, slots that are set and read.
-/
namespace Go.Proofs.YtggcjdajmbkpiaaGreatDoor.T9
set_option maxRecDepth 100000

open Go.RowKit

/-- A row that is written out. -/
theorem lit_row {w : World} {g B n size : Nat} {xs : List Value} {t : TypeId} {fr : Nat × Nat} (h : w.heap[g]? = some (.cells xs.toArray t fr)) (hl : xs.length = n * size) (hn : n ≤ 1000000) (hB : g < B) (e : TypeId) : Rd B w e size (.slice (some ⟨g, 0, none⟩) n n) n xs := by
  refine ⟨⟨some ⟨g, 0, none⟩, n, rfl, ⟨hl, Nat.le_refl _, by unfold maxLen; omega, by simp, fun ad ha _ => ?_, fun ad ha k u hu => ?_⟩, fun ad ha _ => ?_⟩, by omega⟩
  · obtain rfl := Option.some.inj ha
    exact box_lt h
  · obtain rfl := Option.some.inj ha
    rw [Addr.add_lit, Nat.zero_add, box_cell h]
    simpa using hu
  · obtain rfl := Option.some.inj ha
    exact hB
theorem slot_more {R : RP} {d e : Nat} (h : d ≤ e) {s : So} {cs : List Value} (hs : SAt' R d s cs) : SAt' R e s cs := sAt.imp (fun _ _ _ _ _ h => h) (fun m cs hm => MAt.more h m cs hm) _ _ hs
theorem msg_shape {b D : Nat} {w : World} {m : Mg} {x : Value} (h : MAt (Ow b w) D m [x]) : ∃ A c, x = .slice A m.F.length c := by
  cases D with
  | zero => exact h.elim
  | succ D =>
    obtain ⟨u, hu, xs, ⟨hown, -⟩, -⟩ := h
    obtain rfl : x = u := by simpa using hu
    obtain ⟨A, c, rfl, -⟩ := Sl.of_own hown
    exact ⟨A, c, rfl⟩
theorem rd_shape {B D : Nat} {w : World} {m : Mg} {x : Value} (h : MRd B w D m x) : ∃ A c, x = .slice A m.F.length c := by
  cases D with
  | zero => exact h.elim
  | succ D =>
    obtain ⟨u, hu, hl⟩ := h
    obtain rfl : x = u := by simpa using hu
    obtain ⟨A, c, xs, rfl, -⟩ := hl.open_
    exact ⟨A, c, rfl⟩
theorem slot_shape {B D : Nat} {w : World} {s : So} {x y z : Value} (h : SAt' (Rd B w) D s [x, y, z]) : ∃ A1 c1 A2 c2, x = .int .i64 s.no ∧ y = .slice A1 s.K.length c1 ∧ z = .slice A2 s.V.length c2 := by
  obtain ⟨u1, u2, hu, hk, hv⟩ := h
  simp only [List.cons.injEq, and_true] at hu
  obtain ⟨rfl, rfl, rfl⟩ := hu
  obtain ⟨A1, c1, _, rfl, -⟩ := hk.open_
  obtain ⟨A2, c2, _, rfl, -⟩ := hv.open_
  exact ⟨A1, c1, A2, c2, rfl, rfl, rfl⟩
/-- What is one's own is read. -/
theorem own_rd {b D : Nat} {w : World} {m : Mg} {x : Value} (h : MAt (Ow b w) D m [x]) : MRd w.heap.size w D m x := MAt.imp (fun e size v n xs h => Rd.of_own e size v n xs h) D _ _ h
theorem rd_on {B D : Nat} {w w' : World} {m : Mg} {x : Value} (hb : Below w.heap.size w w') (hB : B ≤ w.heap.size) (h : MRd B w D m x) : MRd B w' D m x := MRd.low (Lo.below hb hB) h
theorem rd_up {D : Nat} {w w' : World} {m : Mg} {x : Value} (hb : Below w.heap.size w w') (h : MRd w.heap.size w D m x) : MRd w'.heap.size w' D m x := MRd.mono hb.size (MRd.low (Lo.below hb (Nat.le_refl _)) h)
theorem srd_up {D : Nat} {w w' : World} {s : So} {cs : List Value} (hb : Below w.heap.size w w') (h : SAt' (Rd w.heap.size w) D s cs) : SAt' (Rd w'.heap.size w') D s cs := SRd.mono hb.size (SRd.low (Lo.below hb (Nat.le_refl _)) h)
/-- A slot without values. -/
def bare9 (no : Int) : So := ⟨no, [], []⟩
theorem bare9_at (B D : Nat) (w : World) (no : Int) : SAt' (Rd B w) D (bare9 no) [.int .i64 no, .slice none 0 0, .slice none 0 0] := ⟨_, _, rfl, ⟨[], ⟨Rr.nil _ _ _, Nat.zero_le _⟩, rfl⟩, ⟨[], ⟨Rr.nil _ _ _, Nat.zero_le _⟩, rfl⟩⟩
theorem bare9_c (no : Int) : cS (bare9 no) = 1 := rfl
/-- Set, where what comes in was read a while ago, and what comes out is read. -/
theorem set_rd (D : Nat) (m : Mg) (s : So) (u u1 u2 : Value) (w : World) (hm : MRd w.heap.size w (D + 1) m u) (hs : SAt' (Rd w.heap.size w) D s [.int .i64 s.no, u1, u2]) (hcm : m.cnt ≤ 10000) (hcs : cS s ≤ 10000) :
    Calls Tryz.prog 31 #[.agg #[u], .agg #[.int .i64 s.no, u1, u2]] w fun e w' => ∃ A c, e = .returned (.agg #[.slice A (setM m s).F.length c]) ∧ MRd w'.heap.size w' (D + 1) (setM m s) (.slice A (setM m s).F.length c) ∧ Below w.heap.size w w' := by
  refine (set_any w.heap.size D m s u u1 u2 w (Nat.le_refl _) hm hs (by omega) (by omega) w.heap.size (Nat.le_refl _)).mono ?_
  rintro e w' ⟨x1, rfl, h1, h2⟩
  obtain ⟨A, c, rfl⟩ := msg_shape h1
  exact ⟨A, c, rfl, own_rd h1, h2⟩
/-- Get, where what comes out is read. -/
theorem get_rd (D : Nat) (m : Mg) (u : Value) (no : Int) (w : World) (hm : MRd w.heap.size w (D + 1) m u) (hcm : m.cnt ≤ 10000) :
    Calls Tryz.prog 30 #[.agg #[u], .int .i64 no] w fun e w' => ∃ A1 c1 A2 c2, e = .returned (.tuple #[.agg #[.int .i64 ((getM m no).getD so0).no, .slice A1 ((getM m no).getD so0).K.length c1, .slice A2 ((getM m no).getD so0).V.length c2], .bool (getM m no).isSome]) ∧
      SAt' (Rd w'.heap.size w') D ((getM m no).getD so0) [.int .i64 ((getM m no).getD so0).no, .slice A1 ((getM m no).getD so0).K.length c1, .slice A2 ((getM m no).getD so0).V.length c2] ∧ Below w.heap.size w w' := by
  refine (get_any w.heap.size D m u no w (Nat.le_refl _) hm (by omega) w.heap.size (Nat.le_refl _)).mono ?_
  rintro e w' ⟨x1, x2, x3, rfl, h1, h2⟩
  have h3 : SAt' (Rd w'.heap.size w') D ((getM m no).getD so0) [x1, x2, x3] := sAt.imp (fun e size v n xs h => Rd.of_own e size v n xs h) (fun m cs h => MAt.imp (fun e size v n xs h => Rd.of_own e size v n xs h) D m cs h) _ _ h1
  obtain ⟨A1, c1, A2, c2, rfl, rfl, rfl⟩ := slot_shape h3
  exact ⟨A1, c1, A2, c2, rfl, h3, h2⟩
/-- A message of slots that are written out. -/
theorem one_rd {D g : Nat} {w : World} {s : So} {x y z : Value} {t : TypeId} {fr : Nat × Nat} (hs : SAt' (Rd w.heap.size w) D s [x, y, z]) (h : w.heap[g]? = some (.cells #[x, y, z] t fr)) : MRd w.heap.size w (D + 1) (.mk [s]) (.slice (some ⟨g, 0, none⟩) 1 1) :=
  ⟨_, rfl, [x, y, z], lit_row (xs := [x, y, z]) h rfl (by decide) (box_lt h) _, Rows.single hs⟩
theorem two_rd {D g : Nat} {w : World} {s s' : So} {x y z x' y' z' : Value} {t : TypeId} {fr : Nat × Nat} (hs : SAt' (Rd w.heap.size w) D s [x, y, z]) (hs' : SAt' (Rd w.heap.size w) D s' [x', y', z']) (h : w.heap[g]? = some (.cells #[x, y, z, x', y', z'] t fr)) : MRd w.heap.size w (D + 1) (.mk [s, s']) (.slice (some ⟨g, 0, none⟩) 2 2) :=
  ⟨_, rfl, [x, y, z, x', y', z'], lit_row (xs := [x, y, z, x', y', z']) h rfl (by decide) (box_lt h) _, (Rows.single hs).append (Rows.single hs')⟩
/-- Messages that are written out. -/
theorem msgs1_rd {D g : Nat} {w : World} {m : Mg} {x : Value} {t : TypeId} {fr : Nat × Nat} (hm : MRd w.heap.size w D m x) (h : w.heap[g]? = some (.cells #[x] t fr)) : LsAt (Rd w.heap.size w) 28 1 (MAt (Rd w.heap.size w) D) [m] (.slice (some ⟨g, 0, none⟩) 1 1) :=
  ⟨[x], lit_row (xs := [x]) h rfl (by decide) (box_lt h) _, Rows.single hm⟩
theorem msgs2_rd {D g : Nat} {w : World} {m m' : Mg} {x x' : Value} {t : TypeId} {fr : Nat × Nat} (hm : MRd w.heap.size w D m x) (hm' : MRd w.heap.size w D m' x') (h : w.heap[g]? = some (.cells #[x, x'] t fr)) : LsAt (Rd w.heap.size w) 28 1 (MAt (Rd w.heap.size w) D) [m, m'] (.slice (some ⟨g, 0, none⟩) 2 2) :=
  ⟨[x, x'], lit_row (xs := [x, x']) h rfl (by decide) (box_lt h) _, (Rows.single hm).append (Rows.single hm')⟩
theorem msgs3_rd {D g : Nat} {w : World} {m m' m'' : Mg} {x x' x'' : Value} {t : TypeId} {fr : Nat × Nat} (hm : MRd w.heap.size w D m x) (hm' : MRd w.heap.size w D m' x') (hm'' : MRd w.heap.size w D m'' x'') (h : w.heap[g]? = some (.cells #[x, x', x''] t fr)) : LsAt (Rd w.heap.size w) 28 1 (MAt (Rd w.heap.size w) D) [m, m', m''] (.slice (some ⟨g, 0, none⟩) 3 3) :=
  ⟨[x, x', x''], lit_row (xs := [x, x', x'']) h rfl (by decide) (box_lt h) _, ((Rows.single hm).append (Rows.single hm')).append (Rows.single hm'')⟩
theorem cnt_one (s : So) : (Mg.mk [s]).cnt = cS s := by rw [Mg.cnt_eq]; show sm [cS s] = _; simp [sm]
theorem cnt_two (s t : So) : (Mg.mk [s, t]).cnt = cS s + cS t := by rw [Mg.cnt_eq]; show sm [cS s, cS t] = _; simp [sm]
theorem size_one (s : So) : (Mg.mk [s]).size = zS s := by rw [Mg.size_eq]; show sm [zS s] = _; simp [sm]
theorem deep_one (s : So) : (Mg.mk [s]).deep = 1 + dS s := by rw [Mg.deep_eq]; show 1 + mx [dS s] = _; simp [mx]
theorem set_bare (m : Mg) (no : Int) : setM m (bare9 no) = .mk (rest m.F no) := by unfold setM; rw [if_pos (show (bare9 no).V = [] from rfl)]; rfl
theorem set_full {m : Mg} {s : So} (h : s.V ≠ []) : setM m s = .mk (putS (rest m.F s.no) s) := by unfold setM; rw [if_neg h]
theorem mx_put (l : List So) (s : So) (g : So → Nat) : mx ((putS l s).map g) = max (mx (l.map g)) (g s) := by
  unfold putS
  have h : mx (l.map g) = max (mx ((l.take (place l s.no)).map g)) (mx ((l.drop (place l s.no)).map g)) := by rw [← mx_append, ← List.map_append, List.take_append_drop]
  rw [List.map_append, List.map_cons, mx_append, h]
  simp only [mx]
  omega
end Go.Proofs.YtggcjdajmbkpiaaGreatDoor.T9
