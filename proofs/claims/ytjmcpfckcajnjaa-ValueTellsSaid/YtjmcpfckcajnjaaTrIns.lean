/-
  slices.Insert at slots: one slot goes into a row of the call's own.
-/
import Derived.Test.YtjmcpfckcajnjaaTrOwn
import Derived.Laws.CopyRow
import Derived.Lib.AppendZerosOnto
import Derived.Lib.AppendZeros
import Derived.Lib.Overlaps
import Derived.Laws.Externs
import Derived.Shelf.RegionOpenPlain
namespace Go.Proofs.Ytjmcpfckcajnjaa.T9
set_option maxRecDepth 100000

open Go.RowKit

section

variable {P : Program}

/-- copy, of elements of so many cells, into a row that is wholly known. -/
theorem run_copy_many (w : World) (dT sT ty elem : TypeId) (g o dLen dCap : Nat) (a : Addr) (sLen sCap : Nat) (cur : Array Value) (t : TypeId) (cs : List Value) (k n : Nat)
    (hu : P.underlying dT = some (.slice elem)) (hs : (P.info? elem).map (·.size) = some k)
    (hg : w.heap[g]? = some (.cells cur t (0, 0))) (hn : Nat.min sLen dLen = n) (hcs : cs.length = n * k)
    (hsrc : ∀ j v, cs[j]? = some v → w.cell? (a.add j) = some v) (hfit : o + cs.length ≤ cur.size) (h1 : ∀ v ∈ cs, v.oneCell' = true) :
    (Builtin.copy_ #[dT, sT] ty #[.slice (some ⟨g, o, none⟩) dLen dCap, .slice (some a) sLen sCap]).run P w =
      .ok (goInt n) (w.setRow g (cur.toList.take o ++ cs ++ cur.toList.drop (o + cs.length)).toArray) := by
  have hl := run_loadCells_list (P := P) w a cs hsrc
  have hst := run_storeCells_at P g o t cs 0 cur w hg (by simpa using hfit) h1
  rw [hcs] at hl
  cases hq : P.info? elem with
  | none => simp [hq] at hs
  | some i =>
    have hi : i.size = k := by simpa [hq] using hs
    simp [Builtin.copy_, run_underlying hu, Builtin.lenOf, Builtin.firstCells, sizeOf, typeInfo, hq, hi, hn, hl, hst]
theorem wpList_copy_is (w : World) {ops : Array Oper} {rest : List Oper} {o : Oper} {a : Act} {Q : Exit → Act → World → Prop} (hgd : o.guard = none) (d s : Operand) (t t' : TypeId)
    (ho : o.op = .call { callee := .builtin .copy, args := #[d, s], argTypes := #[t, t'] }) (v u : Value) (hd : a.eval d = v) (hs : a.eval s = u) {v' : Value} {w' : World}
    (hr : (Builtin.copy_ #[t, t'] o.type #[v, u]).run P w = .ok v' w') (h : wpList P ops Q rest (a.put o.dst v') w') : wpList P ops Q (o :: rest) a w :=
  wpList_plain hgd fun _ hK => by
    unfold Oper.wp execOp
    simp only [ho, resolve, invoke, builtin, Sem.run_bind, Sem.run_pure, Result.andThen_ok, List.map_toArray, List.map_cons, List.map_nil, hd, hs, hr]
    exact hK _ _ h
theorem step_copy_is {ops : Array Oper} {o : Oper} {a : Act} {w : World} {K : Act → World → Prop} {Q : Exit → Act → World → Prop} {E : Prop}
    (hg : o.guard = none) (d x : Operand) (dT sT : TypeId) (hop : o.op = Op.call { callee := Callee.builtin Builtin.copy, args := #[d, x], argTypes := #[dT, sT] })
    (v u : Value) (hd : a.eval d = v) (hx : a.eval x = u) {v' : Value} {w' : World} (hr : (Builtin.copy_ #[dT, sT] o.type #[v, u]).run P w = .ok v' w') (hK : K (a.put o.dst v') w') :
    if Region.wanted o (yielded ops a.tmps) = true then Oper.wp P o a w K Q else E := by
  have hw : Region.wanted o (yielded ops a.tmps) = true := by simp [Region.wanted, hg]
  rw [if_pos hw]
  unfold Oper.wp
  simp [execOp, hop, resolve, invoke, builtin, hd, hx, hr, Result.andThen]
  exact hK
end

set_option maxRecDepth 1000000 in
set_option maxHeartbeats 4000000 in
theorem insert_end (b n : Nat) (xs : List Value) (v x y z : Value) (gv : Nat) (w : World) (hown : w.ownsRow b 27 3 v n xs) (hbw : b ≤ w.heap.size) (hv : w.heap[gv]? = some (.cells #[x, y, z] 27 (0, 0)))
    (h1 : ∀ u ∈ [x, y, z], u.oneCell' = true) (hn : n ≤ 1000000000) :
    Calls Try.prog 30 #[v, .int .i64 n, .slice (some ⟨gv, 0, none⟩) 1 1] w fun e w' => ∃ v', e = .returned v' ∧ w'.ownsRow b 27 3 v' (n + 1) (xs ++ [x, y, z]) ∧ w.grownBy w' v.ownBlock := by
  obtain ⟨i0, hi, hz0, hz1, hz2⟩ := info_parts info_slot
  have hvl : Sl w (some ⟨gv, 0, none⟩) 1 1 3 [x, y, z] := by
    refine ⟨by simp, by omega, by unfold maxLen; omega, by simp, fun ad ha _ => ?_, fun ad ha k u hu => ?_⟩
    · obtain rfl := Option.some.inj ha
      exact box_lt hv
    · obtain rfl := Option.some.inj ha
      rw [Addr.add_lit, box_cell hv]
      simpa using hu
  obtain ⟨A, c, rfl, hsl⟩ := Sl.of_own hown
  have hle := hsl.le
  have hcap := hsl.cap
  unfold maxLen at hcap
  clear hsl
  have HO := Lib.hid hown
  by_cases hc : n = c
  · subst hc
    go_enter Try.func30, Try.ntmps30
    go_wp2_with (at_builtin; refine wpList_app_sl rfl _ _ 22 rfl b 27 i0 (.agg #[.int .i64 0, .slice none 0 0, .slice none 0 0]) 3 56 Try.underlying22 hi hz0 hz1 hz2 rfl (by omega) _ n xs rfl HO.out _ 1 1 [x, y, z] rfl hvl h1 (by unfold maxLen; omega) (by omega) hbw ?_; intro v' w' hown' hg')
    go_ret
    exact ⟨_, rfl, hown', hg'⟩
  · have hlt : ¬ (c = n) := fun h => hc h.symm
    go_enter Try.func30, Try.ntmps30
    cases A with
    | none =>
      have := hown.2
      simp at this
      omega
    | some ad =>
      go_wp2_with (at_builtin; refine wpList_app_sl rfl _ _ 22 rfl b 27 i0 (.agg #[.int .i64 0, .slice none 0 0, .slice none 0 0]) 3 56 Try.underlying22 hi hz0 hz1 hz2 rfl (by omega) _ n xs rfl HO.out _ 1 1 [x, y, z] rfl hvl h1 (by unfold maxLen; omega) (by omega) hbw ?_; intro v' w' hown' hg')
      go_ret
      exact ⟨_, rfl, hown', hg'⟩
/-- What an insertion makes of a row's cells. -/
theorem mid_cells {α : Type} {L xs vs : List α} {n cap i : Nat} (hi : i < n) (hc : n + 1 ≤ cap) (hL : L.length = cap * 3) (hx : L.take (n * 3) = xs) (hv : vs.length = 3) :
    ∀ L1 L2, L1 = L.take ((i + 1) * 3) ++ xs.drop (i * 3) ++ L.drop ((i + 1) * 3 + (xs.drop (i * 3)).length) → L2 = L1.take (i * 3) ++ vs ++ L1.drop (i * 3 + vs.length) →
      L1.length = cap * 3 ∧ L2.length = cap * 3 ∧ L2.take ((n + 1) * 3) = xs.take (i * 3) ++ vs ++ xs.drop (i * 3) := by
  intro L1 L2 h1 h2
  have hxl : xs.length = n * 3 := by rw [← hx, List.length_take]; omega
  have hl1 : L1.length = cap * 3 := by rw [h1]; simp only [List.length_append, List.length_take, List.length_drop, hxl, hL]; omega
  have hl2 : L2.length = cap * 3 := by rw [h2]; simp only [List.length_append, List.length_take, List.length_drop, hl1, hv]; omega
  refine ⟨hl1, hl2, ?_⟩
  have e1 : L1.take (i * 3) = xs.take (i * 3) := by
    rw [h1, List.append_assoc, List.take_append_of_le_length (by rw [List.length_take]; omega), List.take_take, ← hx, List.take_take]
    congr 1
    omega
  have e2 : (L1.drop (i * 3 + 3)).take ((n - i) * 3) = xs.drop (i * 3) := by
    have hll : (L.take ((i + 1) * 3)).length = i * 3 + 3 := by rw [List.length_take]; omega
    rw [h1, List.append_assoc, List.drop_append, hll, List.drop_of_length_le (by omega), Nat.sub_self, List.drop_zero, List.nil_append, List.take_append_of_le_length (by rw [List.length_drop]; omega), List.take_of_length_le (by rw [List.length_drop]; omega)]
  have hal : (xs.take (i * 3) ++ vs).length = i * 3 + 3 := by rw [List.length_append, List.length_take, hv]; omega
  have e3 : (xs.take (i * 3) ++ vs).take ((n + 1) * 3) = xs.take (i * 3) ++ vs := List.take_of_length_le (by rw [hal]; omega)
  rw [h2, e1, hv, List.take_append, hal, e3, show (n + 1) * 3 - (i * 3 + 3) = (n - i) * 3 by omega, e2]
set_option maxRecDepth 1000000 in
set_option maxHeartbeats 4000000 in
theorem insert_room (b n i g cap : Nat) (cur : Array Value) (xs : List Value) (x y z : Value) (gv : Nat) (w : World) (hb : b ≤ g) (hg : w.heap[g]? = some (.cells cur 27 (0, 0))) (hcm : cap ≤ maxLen) (hcs : cur.size = cap * 3) (htk : cur.toList.take (n * 3) = xs)
    (hv : w.heap[gv]? = some (.cells #[x, y, z] 27 (0, 0))) (hne : gv ≠ g) (h1 : ∀ u ∈ [x, y, z], u.oneCell' = true) (h1x : ∀ u ∈ xs, u.oneCell' = true) (hn : n ≤ 1000000000) (hi : i < n) (hroom : n + 1 ≤ cap) :
    Calls Try.prog 30 #[.slice (some ⟨g, 0, none⟩) n cap, .int .i64 i, .slice (some ⟨gv, 0, none⟩) 1 1] w fun e w' => ∃ v', e = .returned v' ∧ w'.ownsRow b 27 3 v' (n + 1) (xs.take (i * 3) ++ [x, y, z] ++ xs.drop (i * 3)) ∧ w.grownBy w' (some g) := by
  unfold maxLen at hcm
  have hxl : xs.length = n * 3 := by rw [← htk, List.length_take, Array.length_toList, hcs]; omega
  obtain ⟨l1, l2, hfin⟩ := mid_cells hi hroom (by rw [Array.length_toList, hcs]) htk (show [x, y, z].length = 3 from rfl) _ _ rfl rfl
  have hdl : (xs.drop (i * 3)).length = (n - i) * 3 := by rw [List.length_drop, hxl, Nat.sub_mul]
  have hov : ∀ lb cb, (callFunc 44 #[.slice (some ⟨gv, 0, none⟩) 1 1, .slice (some ⟨g, (i + 1) * 3, none⟩) lb cb]).run Try.prog w = .ok (.value (.bool false)) w := fun lb cb => by
    rw [run_callFunc_extern Try.func44 (by kernel_rfl) (by kernel_rfl) (by kernel_rfl) (e := Extern.SlicesOverlaps.overlaps #[22, 22] #[4]) (by kernel_rfl),
      Lib.run_overlaps_apart w 22 4 27 Try.underlying22 3 (fun w => by kernel_rfl) ⟨gv, 0, none⟩ ⟨g, (i + 1) * 3, none⟩ 1 1 lb cb hne 27 27 3 (cap * 3) (by simp [World.shape?, hv]) (by simp [World.shape?, hg, hcs]) (by omega) (by simp [World.frozen?, hv]) (by simp [World.frozen?, hv])]
    rfl
  obtain ⟨L1, hL1⟩ : ∃ L1, L1 = cur.toList.take ((i + 1) * 3) ++ xs.drop (i * 3) ++ cur.toList.drop ((i + 1) * 3 + (xs.drop (i * 3)).length) := ⟨_, rfl⟩
  rw [← hL1] at l1 l2 hfin
  obtain ⟨L2, hL2⟩ : ∃ L2, L2 = L1.take (i * 3) ++ [x, y, z] ++ L1.drop (i * 3 + [x, y, z].length) := ⟨_, rfl⟩
  rw [← hL2] at l2 hfin
  have hcp1 : ∀ ty dc sc, (Builtin.copy_ #[22, 22] ty #[.slice (some ⟨g, (i + 1) * 3, none⟩) (n - i) dc, .slice (some ⟨g, i * 3, none⟩) (n + 1 - i) sc]).run Try.prog w.drew = .ok (goInt (n - i : Nat)) (w.drew.setRow g L1.toArray) := fun ty dc sc => by
    rw [hL1]
    refine run_copy_many w.drew _ _ ty 27 g ((i + 1) * 3) (n - i) dc ⟨g, i * 3, none⟩ (n + 1 - i) sc cur 27 (xs.drop (i * 3)) 3 (n - i) Try.underlying22 sz_slot hg (by simp only [Nat.min_def]; split <;> omega) hdl (fun j u hj => ?_) (by rw [hdl, hcs]; omega) fun u hu => h1x u (List.mem_of_mem_drop hu)
    rw [Addr.add_lit]
    show w.cell? _ = _
    rw [box_cell hg, ← Array.getElem?_toList]
    rw [List.getElem?_drop, ← htk, List.getElem?_take] at hj
    split at hj
    · exact hj
    · cases hj
  obtain ⟨W1, hW1⟩ : ∃ W1, W1 = w.drew.setRow g L1.toArray := ⟨_, rfl⟩
  have hg1 : W1.heap[g]? = some (.cells L1.toArray 27 (0, 0)) := by rw [hW1]; exact setRow_heap w.drew g cur _ _ _ hg
  have hv1 : W1.heap[gv]? = some (.cells #[x, y, z] 27 (0, 0)) := by
    rw [hW1]
    exact (setRow_other w.drew g gv _ hne).trans hv
  have hgr1 : w.grownBy W1 (some g) := by
    rw [hW1]
    exact ⟨rfl, rfl, rfl, by simp, fun k _ hk => setRow_other w.drew g k _ (fun e => hk (by rw [e]))⟩
  have hcp2 : ∀ ty dc, (Builtin.copy_ #[22, 22] ty #[.slice (some ⟨g, i * 3, none⟩) (n + 1 - i) dc, .slice (some ⟨gv, 0, none⟩) 1 1]).run Try.prog W1 = .ok (goInt (1 : Nat)) (W1.setRow g L2.toArray) := fun ty dc => by
    rw [hL2]
    refine run_copy_many W1 _ _ ty 27 g (i * 3) (n + 1 - i) dc ⟨gv, 0, none⟩ 1 1 L1.toArray 27 [x, y, z] 3 1 Try.underlying22 sz_slot hg1 (by simp only [Nat.min_def]; split <;> omega) rfl (fun j u hj => ?_) (by simp only [List.size_toArray, l1]; show i * 3 + 3 ≤ _; omega) h1
    rw [Addr.add_lit, box_cell hv1]
    simpa using hj
  rw [← hW1] at hcp1
  have hz2 : ¬ ((i : Int) = (n : Int)) := by omega
  have hw1 : IntKind.i64.wrap ((i : Int) + 1) = (i : Int) + 1 := by rw [IntKind.wrap_i64]; omega
  have hw2 : IntKind.i64.wrap ((n : Int) + 1) = (n : Int) + 1 := by rw [IntKind.wrap_i64]; omega
  have hb1 : (0 : Int) ≤ (i : Int) + 1 := by omega
  have hin : i ≤ n := by omega
  have hb2 : ¬ (cap = i + 1) := by omega
  have hb3 : (i : Int) ≤ (n : Int) + 1 := by omega
  have hb4 : ¬ (cap = i) := by omega
  have HOV := Lib.hid hov
  have HC1 := Lib.hid hcp1
  have HC2 := Lib.hid hcp2
  clear hov hcp1 hcp2 hxl hdl hL1 hL2 hW1 htk hcs
  go_enter Try.func30, Try.ntmps30
  go_wp2_with (simp only [HOV.out])
  have mixed : Try.prog.follows Departure.mixedOrders = true := by kernel_rfl
  go_region_law_o (refine step_copy_is rfl _ _ 22 22 rfl (.slice (some ⟨g, (i + 1) * 3, none⟩) (n - i) (cap - (i + 1))) (.slice (some ⟨g, i * 3, none⟩) (n + 1 - i) (cap - i)) (by simp [Act.eval, Act.put]) (by simp [Act.eval, Act.put]) (HC1.out 3 (cap - (i + 1)) (cap - i)) ?_)
  go_wp2_with (simp only [HC2.out])
  go_ret
  refine ⟨_, rfl, ⟨?_, .inr ⟨g, cap, L2.toArray, rfl, hb, setRow_heap _ _ _ _ _ _ hg1, hroom, hcm, by simpa using l2, by simpa using hfin⟩⟩, ?_⟩
  · rw [← hfin, List.length_take, l2]
    omega
  · exact ⟨hgr1.os, hgr1.tape, hgr1.output, by simpa using hgr1.size, fun k hk hn => (setRow_other _ g k _ (fun e => hn (by rw [e]))).trans (hgr1.block k hk hn)⟩
theorem grow_cells {α : Type} {R xs vs : List α} {n G i : Nat} (hi : i < n) (hG : n + 1 ≤ G) (hR : R.length = G * 3) (hx : xs.length = n * 3) (hv : vs.length = 3) (hr : R.take (i * 3) = xs.take (i * 3)) :
    ∀ L1 L2, L1 = R.take (i * 3) ++ vs ++ R.drop (i * 3 + vs.length) → L2 = L1.take ((i + 1) * 3) ++ xs.drop (i * 3) ++ L1.drop ((i + 1) * 3 + (xs.drop (i * 3)).length) →
      L1.length = G * 3 ∧ L2.length = G * 3 ∧ L2.take ((n + 1) * 3) = xs.take (i * 3) ++ vs ++ xs.drop (i * 3) := by
  intro L1 L2 h1 h2
  have hl1 : L1.length = G * 3 := by rw [h1]; simp only [List.length_append, List.length_take, List.length_drop, hR, hv]; omega
  have hl2 : L2.length = G * 3 := by rw [h2]; simp only [List.length_append, List.length_take, List.length_drop, hl1, hx]; omega
  refine ⟨hl1, hl2, ?_⟩
  have hal : (xs.take (i * 3) ++ vs).length = (i + 1) * 3 := by rw [List.length_append, List.length_take, hv]; omega
  have e1 : L1.take ((i + 1) * 3) = xs.take (i * 3) ++ vs := by
    rw [h1, hr, List.take_append, hal, Nat.sub_self, List.take_zero, List.append_nil]
    exact List.take_of_length_le (by rw [hal]; omega)
  have hal2 : (xs.take (i * 3) ++ vs ++ xs.drop (i * 3)).length = (n + 1) * 3 := by rw [List.length_append, hal, List.length_drop]; omega
  rw [h2, e1, List.take_append, hal2, Nat.sub_self, List.take_zero, List.append_nil]
  exact List.take_of_length_le (by rw [hal2]; omega)
set_option maxRecDepth 1000000 in
set_option maxHeartbeats 4000000 in
theorem insert_grow (b n i g cap : Nat) (cur : Array Value) (xs : List Value) (x y z : Value) (gv : Nat) (w : World) (hbw : b ≤ w.heap.size) (hg : w.heap[g]? = some (.cells cur 27 (0, 0))) (hnc : n ≤ cap) (htk : cur.toList.take (n * 3) = xs) (hxl : xs.length = n * 3)
    (hv : w.heap[gv]? = some (.cells #[x, y, z] 27 (0, 0))) (h1 : ∀ u ∈ [x, y, z], u.oneCell' = true) (h1x : ∀ u ∈ xs, u.oneCell' = true) (hn : n ≤ 1000000000) (hi : i < n) (hroom : cap < n + 1) :
    Calls Try.prog 30 #[.slice (some ⟨g, 0, none⟩) n cap, .int .i64 i, .slice (some ⟨gv, 0, none⟩) 1 1] w fun e w' => ∃ v', e = .returned v' ∧ w'.ownsRow b 27 3 v' (n + 1) (xs.take (i * 3) ++ [x, y, z] ++ xs.drop (i * 3)) ∧ w.grownBy w' none := by
  obtain ⟨i0, hi0, hz0, hzs, hzb⟩ := info_parts info_slot
  have hdl : (xs.drop (i * 3)).length = (n - i) * 3 := by rw [List.length_drop, hxl, Nat.sub_mul]
  have hcell : ∀ j u, xs[j]? = some u → w.cell? ⟨g, j, none⟩ = some u := fun j u hj => by
    rw [box_cell hg, ← Array.getElem?_toList]
    rw [← htk, List.getElem?_take] at hj
    split at hj
    · exact hj
    · cases hj
  have hold : (Builtin.firstCells i0.size i (.slice (some ⟨g, 0, none⟩) i cap)).run Try.prog w.drew = .ok (xs.take (i * 3)).toArray w.drew := by
    rw [hzs]
    exact run_firstCells_some w.drew 3 i ⟨g, 0, none⟩ i cap (xs.take (i * 3)) (by rw [List.length_take]; omega) (fun j u hj => by
      rw [Addr.add_lit, Nat.zero_add]
      rw [List.getElem?_take] at hj
      split at hj
      · exact hcell j u hj
      · cases hj)
  have hkk : (n : Int) + 1 - (i : Int) = ((n + 1 - i : Nat) : Int) := by omega
  have hik : i + (n + 1 - i) = n + 1 := by omega
  have hrz : ∀ ty, (Builtin.append_ #[22, 3] ty #[.slice (some ⟨g, 0, none⟩) i cap, .int .i64 ((n : Int) + 1 - (i : Int))]).run Try.prog w =
      .ok (.slice (some ⟨w.heap.size, 0, none⟩) (n + 1) (grownCap w (n + 1) cap 27)) (w.drew.alloc (.cells ((xs.take (i * 3)).toArray ++ Builtin.zeroCells (Value.agg #[.int .i64 0, .slice none 0 0, .slice none 0 0]).cells (n + 1 - i) ++ Builtin.zeroCells (Value.agg #[.int .i64 0, .slice none 0 0, .slice none 0 0]).cells (grownCap w (n + 1) cap 27 - (n + 1))) 27)) := fun ty => by
    have h := Lib.run_append_grow_zeros w 22 3 ty 27 i0 _ .i64 .i64 Try.underlying22 Try.underlying3 hi0 hz0 (some ⟨g, 0, none⟩) i cap (xs.take (i * 3)) hold (n + 1 - i) (by omega) (by omega) (by omega) (by omega) (by rw [hzb]; omega) (by rw [hzb, hik]; exact growslice_fits hroom (by omega))
    rw [hik] at h
    rw [hkk]
    exact h
  obtain ⟨G, hG⟩ : ∃ G, G = grownCap w (n + 1) cap 27 := ⟨_, rfl⟩
  have hGn : n + 1 ≤ G := by rw [hG]; exact grownCap_ge w _ _ _
  have hG63 : G ≤ maxLen := by rw [hG]; exact grownCap_le_maxLen w (n + 1) cap _ (by unfold maxLen; omega)
  rw [← hG] at hrz
  obtain ⟨ROW, hROW⟩ : ∃ ROW : Array Value, ROW = (xs.take (i * 3)).toArray ++ Builtin.zeroCells (Value.agg #[.int .i64 0, .slice none 0 0, .slice none 0 0]).cells (n + 1 - i) ++ Builtin.zeroCells (Value.agg #[.int .i64 0, .slice none 0 0, .slice none 0 0]).cells (G - (n + 1)) := ⟨_, rfl⟩
  rw [← hROW] at hrz
  have hRl : ROW.toList.length = G * 3 := by
    rw [Array.length_toList, hROW]
    simp only [Array.size_append, size_zeroCells, List.size_toArray, List.length_take, hxl]
    show min (i * 3) (n * 3) + (n + 1 - i) * 3 + (G - (n + 1)) * 3 = G * 3
    omega
  have hRt : ROW.toList.take (i * 3) = xs.take (i * 3) := by
    rw [hROW, Array.toList_append, Array.toList_append, List.append_assoc]
    exact (List.take_append_of_le_length (by simp [hxl]; omega)).trans (List.take_of_length_le (by simp; omega))
  clear hROW
  obtain ⟨l1, l2, hfin⟩ := grow_cells hi hGn hRl hxl (show [x, y, z].length = 3 from rfl) hRt _ _ rfl rfl
  obtain ⟨L1, hL1⟩ : ∃ L1, L1 = ROW.toList.take (i * 3) ++ [x, y, z] ++ ROW.toList.drop (i * 3 + [x, y, z].length) := ⟨_, rfl⟩
  rw [← hL1] at l1 l2 hfin
  obtain ⟨L2, hL2⟩ : ∃ L2, L2 = L1.take ((i + 1) * 3) ++ xs.drop (i * 3) ++ L1.drop ((i + 1) * 3 + (xs.drop (i * 3)).length) := ⟨_, rfl⟩
  rw [← hL2] at l2 hfin
  obtain ⟨W1, hW1⟩ : ∃ W1, W1 = w.drew.alloc (.cells ROW 27) := ⟨_, rfl⟩
  have hg1 : W1.heap[w.heap.size]? = some (.cells ROW 27 (0, 0)) := by rw [hW1]; exact heap_alloc_new w.drew _
  have hgr1 : w.grownBy W1 none := by rw [hW1]; exact ⟨rfl, rfl, rfl, by simp, fun k hk _ => heap_alloc_old w.drew _ hk⟩
  rw [← hW1] at hrz
  have hgw : g < w.heap.size := box_lt hg
  have hcpA : ∀ ty dc, (Builtin.copy_ #[22, 22] ty #[.slice (some ⟨w.heap.size, i * 3, none⟩) (n + 1 - i) dc, .slice (some ⟨gv, 0, none⟩) 1 1]).run Try.prog W1 = .ok (goInt (1 : Nat)) (W1.setRow w.heap.size L1.toArray) := fun ty dc => by
    rw [hL1]
    refine run_copy_many W1 _ _ ty 27 w.heap.size (i * 3) (n + 1 - i) dc ⟨gv, 0, none⟩ 1 1 ROW 27 [x, y, z] 3 1 Try.underlying22 sz_slot hg1 (by simp only [Nat.min_def]; split <;> omega) rfl (fun j u hj => ?_) (by rw [← Array.length_toList, hRl]; show i * 3 + 3 ≤ _; omega) h1
    rw [Addr.add_lit, box_cell ((hgr1.block gv (box_lt hv) (by simp)).trans hv)]
    simpa using hj
  obtain ⟨W2, hW2⟩ : ∃ W2, W2 = W1.setRow w.heap.size L1.toArray := ⟨_, rfl⟩
  have hg2 : W2.heap[w.heap.size]? = some (.cells L1.toArray 27 (0, 0)) := by rw [hW2]; exact setRow_heap W1 _ ROW _ _ _ hg1
  have hgr2 : w.grownBy W2 none := by
    rw [hW2]
    exact ⟨hgr1.os, hgr1.tape, hgr1.output, by simpa using hgr1.size, fun k hk hn => (setRow_other W1 _ k _ (by omega)).trans (hgr1.block k hk hn)⟩
  rw [← hW2] at hcpA
  have hcpB : ∀ ty dc sc, (Builtin.copy_ #[22, 22] ty #[.slice (some ⟨w.heap.size, (i + 1) * 3, none⟩) (n - i) dc, .slice (some ⟨g, i * 3, none⟩) (n - i) sc]).run Try.prog W2.drew = .ok (goInt (n - i : Nat)) (W2.drew.setRow w.heap.size L2.toArray) := fun ty dc sc => by
    rw [hL2]
    refine run_copy_many W2.drew _ _ ty 27 w.heap.size ((i + 1) * 3) (n - i) dc ⟨g, i * 3, none⟩ (n - i) sc L1.toArray 27 (xs.drop (i * 3)) 3 (n - i) Try.underlying22 sz_slot hg2 (by simp) hdl (fun j u hj => ?_) (by rw [hdl, List.size_toArray, l1]; omega) fun u hu => h1x u (List.mem_of_mem_drop hu)
    rw [Addr.add_lit]
    show W2.cell? _ = _
    rw [World.cell?_of_block (hgr2.block g hgw (by simp))]
    exact hcell _ u (by rwa [List.getElem?_drop] at hj)
  have hz2 : ¬ ((i : Int) = (n : Int)) := by omega
  have hw1 : IntKind.i64.wrap ((i : Int) + 1) = (i : Int) + 1 := by rw [IntKind.wrap_i64]; omega
  have hw2 : IntKind.i64.wrap ((n : Int) + 1) = (n : Int) + 1 := by rw [IntKind.wrap_i64]; omega
  have hw3 : IntKind.i64.wrap ((n : Int) + 1 - (i : Int)) = (n : Int) + 1 - (i : Int) := by rw [IntKind.wrap_i64]; omega
  have hb1 : (0 : Int) ≤ (i : Int) + 1 := by omega
  have hin : i ≤ n := by omega
  have hb2 : ¬ (cap = i + 1) ∨ cap = i + 1 := by omega
  have hb3 : (i : Int) ≤ (n : Int) := by omega
  have hb4 : ¬ (cap = i) := by omega
  have hb5 : ¬ (G = i) := by omega
  have hb6 : ¬ (G = i + 1) := by omega
  have hb7 : (i : Int) ≤ (n : Int) + 1 := by omega
  have hz3 : (cap : Int) < (n : Int) + 1 := by omega
  have hGi : G ≤ 9223372036854775807 := by unfold maxLen at hG63; omega
  have HA := Lib.hid hrz
  have HC1 := Lib.hid hcpA
  have HC2 := Lib.hid hcpB
  clear hrz hcpA hcpB hxl hdl hL1 hL2 hW1 hW2 htk hold hkk hik hcell hG hRl hRt hb2 l1
  go_enter Try.func30, Try.ntmps30
  go_wp2_with (first
    | (at_builtin; refine Lib.wpList_append_run _ rfl _ _ _ _ rfl _ _ rfl rfl _ _ (HA.out _) ?_)
    | (simp only [HC1.out]))
  have mixed : Try.prog.follows Departure.mixedOrders = true := by kernel_rfl
  go_region_law_o (refine step_copy_is rfl _ _ 22 22 rfl (.slice (some ⟨w.heap.size, (i + 1) * 3, none⟩) (n - i) (G - (i + 1))) (.slice (some ⟨g, i * 3, none⟩) (n - i) (cap - i)) (by simp [Act.eval, Act.put]) (by simp [Act.eval, Act.put]) (HC2.out 3 (G - (i + 1)) (cap - i)) ?_)
  go_wp2
  go_ret
  refine ⟨_, rfl, ⟨?_, .inr ⟨w.heap.size, G, L2.toArray, rfl, hbw, setRow_heap _ _ _ _ _ _ hg2, hGn, hG63, by simpa using l2, by simpa using hfin⟩⟩, ?_⟩
  · rw [← hfin, List.length_take, l2]
    omega
  · exact ⟨hgr2.os, hgr2.tape, hgr2.output, by simpa using hgr2.size, fun k hk hn => (setRow_other _ _ k _ (by omega)).trans (hgr2.block k hk hn)⟩
/-- slices.Insert of one slot into a row of the call's own. -/
theorem insert_any (b n i : Nat) (xs : List Value) (v x y z : Value) (gv : Nat) (w : World) (hown : w.ownsRow b 27 3 v n xs) (hbw : b ≤ w.heap.size) (hv : w.heap[gv]? = some (.cells #[x, y, z] 27 (0, 0))) (hne : v.ownBlock ≠ some gv)
    (h1 : ∀ u ∈ [x, y, z], u.oneCell' = true) (h1x : ∀ u ∈ xs, u.oneCell' = true) (hn : n ≤ 1000000000) (hi : i ≤ n) :
    Calls Try.prog 30 #[v, .int .i64 i, .slice (some ⟨gv, 0, none⟩) 1 1] w fun e w' => ∃ v', e = .returned v' ∧ w'.ownsRow b 27 3 v' (n + 1) (xs.take (i * 3) ++ [x, y, z] ++ xs.drop (i * 3)) ∧ w.grownBy w' v.ownBlock := by
  have hxl := hown.1
  by_cases hin : i = n
  · subst hin
    refine (insert_end b i xs v x y z gv w hown hbw hv h1 hn).mono ?_
    rintro e w' ⟨v', rfl, ho, hg⟩
    refine ⟨v', rfl, ?_, hg⟩
    rw [List.take_of_length_le (by omega), List.drop_of_length_le (by omega), List.append_nil]
    exact ho
  · obtain ⟨-, ⟨rfl, rfl⟩ | ⟨g, cap, cur, rfl, hb, hg, hnc, hcm, hcs, htk⟩⟩ := hown
    · omega
    · by_cases hr : n + 1 ≤ cap
      · exact insert_room b n i g cap cur xs x y z gv w hb hg hcm hcs htk hv (fun e => hne (by simp [Value.ownBlock, e])) h1 h1x hn (by omega) hr
      · refine (insert_grow b n i g cap cur xs x y z gv w hbw hg hnc htk hxl hv h1 h1x hn (by omega) (by omega)).mono ?_
        rintro e w' ⟨v', rfl, ho, hg⟩
        exact ⟨v', rfl, ho, ⟨hg.os, hg.tape, hg.output, hg.size, fun k hk _ => hg.block k hk (by simp)⟩⟩
end Go.Proofs.Ytjmcpfckcajnjaa.T9
