/-
  The keys that there are, rising: the contracts of lastOnes, byLess and rising.
-/
import Derived.Test.YtggcjdajmbkpiaaGreatDoorTyKeys
import Derived.Deep.RegionHeld3
namespace Go.Proofs.YtggcjdajmbkpiaaGreatDoor.T9
set_option maxRecDepth 100000
open Go.RowKit Go.Maps Go.Lib Go.Sort

/-! ### Keys' row -/
def keyC (k : Vl') : List Value := [.int .i64 k.n, .string (tx k.s), .slice none 0 0]
theorem key_len (k : Vl') : (keyC k).length = 3 := rfl
theorem key_one (k : Vl') : ∀ v ∈ keyC k, v.oneCell' = true := by
  intro v hv
  simp only [keyC, List.mem_cons, List.not_mem_nil, or_false] at hv
  rcases hv with rfl | rfl | rfl <;> rfl
def cmpKey (x y : Vl') : Int := if lessV x y = true then -1 else if lessV y x = true then 1 else 0
theorem lt_key (x y : Vl') : ltOf cmpKey x y = lessV x y := by
  unfold ltOf cmpKey
  by_cases h1 : lessV x y = true
  · simp [h1]
  · by_cases h2 : lessV y x = true <;> simp [h1, h2]
theorem lv_ntr {x y z : Vl'} (h1 : lessV x y = false) (h2 : lessV y z = false) : lessV x z = false := by
  cases h3 : lessV x z with
  | false => rfl
  | true =>
    exfalso
    cases h4 : lessV y x with
    | true =>
      have := lessV_trans h4 h3
      rw [h2] at this; cases this
    | false =>
      obtain ⟨e1, e2⟩ := lessV_total h1 h4
      have : lessV y z = lessV x z := by unfold lessV; rw [e1, e2]
      rw [h2, h3] at this; cases this
theorem swo_key : SWO (ltOf cmpKey) where
  irrefl x := by rw [lt_key]; exact lv_irr _
  trans x y z h1 h2 := by rw [lt_key] at *; exact lv_tr _ _ _ h1 h2
  ntrans x y z h1 h2 := by
    rw [lt_key] at *
    exact lv_ntr h1 h2
set_option maxRecDepth 1000000 in
set_option maxHeartbeats 4000000 in
theorem less_grow (a b : Vl') (u1 u2 : Value) (w : World) :
    Calls Tryz.prog 29 #[.agg #[.int .i64 a.n, .string (tx a.s), u1], .agg #[.int .i64 b.n, .string (tx b.s), u2]] w fun e w' => e = .returned (.bool (lessV a b)) ∧ ∃ os', w' = grow w os' := by
  unfold lessV
  obtain ⟨n1, hn1⟩ : ∃ n, a.n = n := ⟨_, rfl⟩
  obtain ⟨n2, hn2⟩ : ∃ n, b.n = n := ⟨_, rfl⟩
  obtain ⟨s1, hs1⟩ : ∃ n, a.s = n := ⟨_, rfl⟩
  obtain ⟨s2, hs2⟩ : ∃ n, b.s = n := ⟨_, rfl⟩
  rw [hn1, hn2, hs1, hs2]
  clear hn1 hn2 hs1 hs2
  by_cases hn : n1 = n2
  · subst hn
    rw [if_pos rfl]
    go_enter Tryz.func29, Tryz.ntmps29
    go_wp2
    go_ret
    have e1 : (tx s1).toList = s1 := by rw [ByteArray.toList_eq, tx_list]
    have e2 : (tx s2).toList = s2 := by rw [ByteArray.toList_eq, tx_list]
    exact ⟨by rw [e1, e2]; rfl, _, by rw [alloc_eq_grow, alloc_eq_grow, grow_grow]⟩
  · rw [if_neg hn]
    go_enter Tryz.func29, Tryz.ntmps29
    go_wp2
    go_ret
    exact ⟨by rfl, _, by rw [alloc_eq_grow, alloc_eq_grow, grow_grow]⟩
theorem grow_on {w : World} {g : Nat} {o : Obj} (h : w.heap[g]? = some o) (os : Array Obj) : (grow w os).heap[g]? = some o := (heap_grow_old w os (box_lt h)).trans h
set_option maxRecDepth 1000000 in
set_option maxHeartbeats 4000000 in
theorem key_clo (x y : Vl') (W : World) : Calls Tryz.prog 184 #[.agg (keyC x).toArray, .agg (keyC y).toArray] W fun e w' => e = .returned (.int .i64 (cmpKey x y)) ∧ ∃ q os', w' = grow (W.drewN q) os' := by
  have H1 := Lib.hid (fun wx => less_grow x y (.slice none 0 0) (.slice none 0 0) wx)
  have H2 := Lib.hid (fun wx => less_grow y x (.slice none 0 0) (.slice none 0 0) wx)
  have HC : Hid (cmpKey x y = if lessV x y = true then -1 else if lessV y x = true then 1 else 0) := Lib.hid rfl
  obtain ⟨X1, X2, LBD⟩ := two_boxes W (.cells (keyC x).toArray 31) (.cells (keyC y).toArray 31)
  unfold keyC at *
  obtain ⟨d1, hd1⟩ : ∃ d, lessV x y = d := ⟨_, rfl⟩
  obtain ⟨d2, hd2⟩ : ∃ d, lessV y x = d := ⟨_, rfl⟩
  rw [hd1] at H1 HC
  rw [hd2] at H2 HC
  have HX := Lib.hid (And.intro X1 X2)
  clear X1 X2 LBD hd1 hd2
  cases d1 with
  | true =>
    go_enter Tryz.func184, Tryz.ntmps184
    go_wp2_with fail
    refine (H1.out _).mono ?_
    rintro e w1 ⟨rfl, os1, rfl⟩
    go_wp2
    go_ret
    exact ⟨by rw [HC.out]; rfl, 0, _, by rw [alloc_eq_grow, alloc_eq_grow, grow_grow, grow_grow]; rfl⟩
  | false =>
    cases d2
    all_goals
      go_enter Tryz.func184, Tryz.ntmps184
      go_wp2_with fail
      refine (H1.out _).mono ?_
      rintro e w1 ⟨rfl, os1, rfl⟩
      obtain ⟨a0, a1, a2⟩ := bx3 (grow_on HX.out.1 os1)
      obtain ⟨b0, b1, b2⟩ := bx3 (grow_on HX.out.2 os1)
      go_wp2_with fail
      refine (H2.out _).mono ?_
      rintro e w2 ⟨rfl, os2, rfl⟩
      go_wp2
      go_ret
      exact ⟨by rw [HC.out]; rfl, 0, _, by rw [alloc_eq_grow, alloc_eq_grow, grow_grow, grow_grow, grow_grow]; rfl⟩
set_option maxHeartbeats 1000000 in
/-- A row of keys of the call's own is sorted. -/
theorem sort_keys (base : Nat) (v : Value) (l : List Vl') (w : World) (hown : w.ownsRow base 31 3 v l.length (l.flatMap keyC)) (hd : l.Pairwise fun a b => lessV a b = true ∨ lessV b a = true) (hl : l.length ≤ 1000000) :
    Calls Tryz.prog 183 #[v, .func (.func 184) #[] #[]] w fun e w' => e = .returned (.tuple #[]) ∧ (∃ d : List Vl', d.length = l.length ∧ (∀ x, x ∈ d ↔ x ∈ l) ∧ Rise lessV d ∧ w'.ownsRow base 31 3 v l.length (d.flatMap keyC)) ∧ w.grownBy w' v.ownBlock := by
  have hown0 := hown
  obtain ⟨hlen, ⟨rfl, hn⟩ | ⟨g, cap, cur, rfl, hgb, hh, hle, hmax, hsz, htake⟩⟩ := hown
  · refine (Tryz.slices_SortFunc_none_f183 (α := Vl') none 0 _ w).mono ?_
    rintro e w' ⟨rfl, rfl⟩
    obtain rfl : l = [] := List.eq_nil_of_length_eq_zero hn
    exact ⟨rfl, ⟨[], rfl, fun _ => Iff.rfl, List.Pairwise.nil, hown0⟩, World.grownBy.refl _ _⟩
  · have eg : ∀ args w, (callFunc 184 args).run Tryz.prog w = .ok (.enter 184 args) w := enters_of Tryz.func184 (by kernel_rfl) rfl
    have hcap : cap * 3 = cur.size := hsz.symm
    have hcon := Tryz.slices_SortFunc_f183 3 Tryz.isAgg31 Tryz.sizeOf31 keyC key_len key_one cmpKey swo_key 184 #[] g 0 cap l.toArray w eg (fun _ _ _ _ x y => key_clo x y _) (holds_gen key_len (by omega) hh htake) (Array.getElem?_eq_some_iff.1 hh).1 (by simp; omega)
    rw [show l.toArray.size = l.length by simp] at hcon
    refine hcon.mono ?_
    rintro e w' ⟨rfl, d', n, os, hp, hs, rfl⟩
    have hsize : d'.size = l.length := by have := hp.1; simpa using this
    have hperm : d'.toList.Perm l := by
      have h3 := hp.2.2
      rw [show l.length = d'.size from hsize.symm, Array.extract_size] at h3
      have e4 : (l.toArray.extract 0 d'.size) = l.toArray := by
        rw [hsize, show l.length = l.toArray.size by simp, Array.extract_size]
      rw [e4] at h3
      simpa using h3
    have hd' := (hperm.pairwise_iff (R := fun a b : Vl' => lessV a b = true ∨ lessV b a = true) (fun hab => hab.symm)).2 hd
    have hrise : Rise lessV d'.toList := by
      refine rise_of_sorted hd' fun i j hi hj hij => ?_
      rw [Array.length_toList] at hi hj
      have := hs i j (Nat.zero_le _) hij (by omega)
      rw [lt_key, getElem!_pos d' j hj, getElem!_pos d' i hi] at this
      rw [Array.getElem_toList, Array.getElem_toList]
      simpa using this
    obtain ⟨cur', r1, r2, r3, r4⟩ := sorted_gen (n := n) (d := d') (os := os) key_len (by omega) hh (by rw [hsize]; omega)
    rw [hsize] at r3
    refine ⟨rfl, ⟨d'.toList, by rw [Array.length_toList, hsize], fun _ => hperm.mem_iff, hrise, ⟨?_, .inr ⟨g, cap, cur', rfl, hgb, r1, hle, hmax, by rw [r2]; exact hsz, r3⟩⟩⟩, r4⟩
    rw [fm_len key_len, Array.length_toList, hsize]
end Go.Proofs.YtggcjdajmbkpiaaGreatDoor.T9
/-
  Of each key of a map the last value: the contract of lastOnes.
-/
namespace Go.Proofs.YtggcjdajmbkpiaaGreatDoor.T9
set_option maxRecDepth 100000
open Go.RowKit Go.Maps

/-- A slice's values, as the program has them. -/
structure Vals (B D : Nat) (w : World) (V : List Vl') (vals : List Value) : Prop where
  len : vals.length = V.length
  at_ : ∀ (i : Nat) (v : Vl'), V[i]? = some v → ∃ A c, vals[i]? = some (.agg #[.int .i64 v.n, .string (tx v.s), .slice A v.M.length c]) ∧ VAt (Rd B w) D v [.int .i64 v.n, .string (tx v.s), .slice A v.M.length c]
theorem vals_of {B D : Nat} {w : World} {A : Option Addr} {c : Nat} {V : List Vl'} {xs : List Value} (hs : Sl w A V.length c 3 xs) (hr : Rows (VAt (Rd B w) D) V xs) :
    ∃ vals, Vals B D w V vals ∧ ∀ (k : Nat) v, V[k]? = some v → ∃ ad AM cM, A = some ad ∧ ad.block < w.heap.size ∧ vals[k]? = some (.agg #[.int .i64 v.n, .string (tx v.s), .slice AM v.M.length cM]) ∧ w.cell? (ad.add (k * 3)) = some (.int .i64 v.n) ∧ w.cell? ⟨(ad.add (k * 3)).block, (ad.add (k * 3)).off + 1, none⟩ = some (.string (tx v.s)) ∧ w.cell? ⟨(ad.add (k * 3)).block, (ad.add (k * 3)).off + 2, none⟩ = some (.slice AM v.M.length cM) := by
  have hat : ∀ (k : Nat) v, V[k]? = some v → ∃ q : Option Addr × Nat, VAt (Rd B w) D v [.int .i64 v.n, .string (tx v.s), .slice q.1 v.M.length q.2] ∧ ∃ ad, A = some ad ∧ ad.block < w.heap.size ∧ w.cell? (ad.add (k * 3)) = some (.int .i64 v.n) ∧ w.cell? ⟨(ad.add (k * 3)).block, (ad.add (k * 3)).off + 1, none⟩ = some (.string (tx v.s)) ∧ w.cell? ⟨(ad.add (k * 3)).block, (ad.add (k * 3)).off + 2, none⟩ = some (.slice q.1 v.M.length q.2) := by
    intro k v hk
    obtain ⟨ad, x, y, z, rfl, hg, hca, c0, c1, c2⟩ := row3 vAt.len hs hr hk
    obtain ⟨AM, cM, rfl, rfl, rfl⟩ := val_shape hca
    exact ⟨(AM, cM), hca, ad, rfl, hg, c0, c1, c2⟩
  obtain ⟨f, hf⟩ : ∃ f : Nat → Option Addr × Nat, ∀ k v, V[k]? = some v → VAt (Rd B w) D v [.int .i64 v.n, .string (tx v.s), .slice (f k).1 v.M.length (f k).2] ∧ ∃ ad, A = some ad ∧ ad.block < w.heap.size ∧ w.cell? (ad.add (k * 3)) = some (.int .i64 v.n) ∧ w.cell? ⟨(ad.add (k * 3)).block, (ad.add (k * 3)).off + 1, none⟩ = some (.string (tx v.s)) ∧ w.cell? ⟨(ad.add (k * 3)).block, (ad.add (k * 3)).off + 2, none⟩ = some (.slice (f k).1 v.M.length (f k).2) := by
    have hh : ∀ k : Nat, ∃ q : Option Addr × Nat, ∀ v, V[k]? = some v → VAt (Rd B w) D v [.int .i64 v.n, .string (tx v.s), .slice q.1 v.M.length q.2] ∧ ∃ ad, A = some ad ∧ ad.block < w.heap.size ∧ w.cell? (ad.add (k * 3)) = some (.int .i64 v.n) ∧ w.cell? ⟨(ad.add (k * 3)).block, (ad.add (k * 3)).off + 1, none⟩ = some (.string (tx v.s)) ∧ w.cell? ⟨(ad.add (k * 3)).block, (ad.add (k * 3)).off + 2, none⟩ = some (.slice q.1 v.M.length q.2) := by
      intro k
      cases h : V[k]? with
      | none => exact ⟨(none, 0), fun v hv => by simp at hv⟩
      | some v =>
        obtain ⟨q, hq⟩ := hat k v h
        exact ⟨q, fun v' hv => by obtain rfl := Option.some.inj hv; exact hq⟩
    exact ⟨fun k => Classical.choose (hh k), fun k v hv => Classical.choose_spec (hh k) v hv⟩
  refine ⟨(List.range V.length).map fun k => .agg #[.int .i64 (V.getD k ⟨0, [], []⟩).n, .string (tx (V.getD k ⟨0, [], []⟩).s), .slice (f k).1 (V.getD k ⟨0, [], []⟩).M.length (f k).2], ⟨by simp, fun i v hv => ?_⟩, fun k v hv => ?_⟩
  · have hlt := (List.getElem?_eq_some_iff.1 hv).1
    refine ⟨(f i).1, (f i).2, ?_, (hf i v hv).1⟩
    rw [List.getElem?_map, List.getElem?_range hlt]
    simp [hv]
  · have hlt := (List.getElem?_eq_some_iff.1 hv).1
    obtain ⟨ad, h1, h2, h3⟩ := (hf k v hv).2
    refine ⟨ad, (f k).1, (f k).2, h1, h2, ?_, h3⟩
    rw [List.getElem?_map, List.getElem?_range hlt]
    simp [hv]
theorem cell_kept {w w' : World} {b : Nat} (hg : w.grownBy w' (some b)) {a : Addr} {v : Value} (h : w.cell? a = some v) (hne : a.block ≠ b) : w'.cell? a = some v :=
  (World.cell?_of_block (hg.block _ (World.block_lt_of_cell? w _ h) (by simpa using hne))).trans h
set_option maxRecDepth 1000000 in
set_option maxHeartbeats 8000000 in
theorem lastOnes_any (B D : Nat) (a : So) (u1 u2 : Value) (w : World) (hB : B ≤ w.heap.size) (hs : SAt' (Rd B w) D a [.int .i64 a.no, u1, u2]) (hi : SIn a) (hlen : a.K.length = a.V.length) (hc : cS a ≤ 100000) :
    Calls Tryz.prog 148 #[.agg #[.int .i64 a.no, u1, u2]] w fun e w' => ∃ vals, e = .returned (.map (some (w.heap.size + 1))) ∧ Vals B D w a.V vals ∧ LastM w' (w.heap.size + 1) a.K.length (a.K.zip vals) ∧ Below w.heap.size w w' := by
  obtain ⟨u3, u4, hu, hk, hv⟩ := hs
  simp only [List.cons.injEq, and_true, true_and] at hu
  obtain ⟨rfl, rfl⟩ := hu
  obtain ⟨A1, c1, xs1, rfl, hs1, hb1, hr1, hn1⟩ := hk.open_
  obtain ⟨A2, c2, xs2, rfl, hs2, hb2, hr2, hn2⟩ := hv.open_
  obtain ⟨vals, hvals, hcells⟩ := vals_of hs2 hr2
  have hln := cS_len (s := a)
  have X1 := heap_alloc_new w (.cells #[.int .i64 a.no, .slice A1 a.K.length c1, .slice A2 a.V.length c2] 36)
  have LBD := below_new w (.cells #[.int .i64 a.no, .slice A1 a.K.length c1, .slice A2 a.V.length c2] 36)
  have hsz : (w.alloc (.cells #[.int .i64 a.no, .slice A1 a.K.length c1, .slice A2 a.V.length c2] 36)).heap.size = w.heap.size + 1 := by simp
  obtain ⟨W0, hW0⟩ : ∃ W, W = w.alloc (.cells #[.int .i64 a.no, .slice A1 a.K.length c1, .slice A2 a.V.length c2] 36) := ⟨_, rfl⟩
  have HS1 := Lib.hid hs1
  have HR1 := Lib.hid hr1
  have HB1 := Lib.hid hb1
  have HB2 := Lib.hid hb2
  have HV := Lib.hid hvals
  have HC := Lib.hid hcells
  have HI := Lib.hid hi
  have HLN := Lib.hid hlen
  have hmm := @run_makeMap Tryz.prog
  obtain ⟨x0, x1, x2⟩ := bx3 X1
  clear hs1 hr1 hb1 hb2 hs2 hr2 hvals hcells hi hlen hk hv
  go_enter Tryz.func148, Tryz.ntmps148
  go_wp2_with fail
  rw [← hW0] at X1 LBD hsz ⊢
  have HM0 : LastM (W0.alloc (.map #[] 0)) (w.heap.size + 1) 0 [] := hsz ▸ LastM.made W0
  have hBW : Below (w.heap.size + 1) W0 (W0.alloc (.map #[] 0)) := hsz ▸ below_new W0 _
  have hsz1 : (W0.alloc (.map #[] 0)).heap.size = w.heap.size + 2 := by simp [hsz]
  clear hW0 x0 x1 x2 hmm
  go_loopw [10] (fun i wr => ∃ k : Nat, i = .int .i64 k ∧ k ≤ a.K.length ∧ LastM wr (w.heap.size + 1) k ((a.K.zip vals).take k) ∧ Below (w.heap.size + 1) W0 wr ∧ w.heap.size + 2 ≤ wr.heap.size) (fun i _ => a.K.length - (intOf i).toNat)
  case atStart => exact ⟨0, rfl, by omega, HM0, hBW, by omega⟩
  case round =>
    obtain ⟨k, rfl, hk, hm, hbw, hsw⟩ := hrel
    have hbww : Below w.heap.size w wr := LBD.trans (hbw.mono (by omega))
    have hBw : B ≤ wr.heap.size := by omega
    have hlo : Lo B w wr := Lo.of (hbww.mono hB)
    have Y1 := (hbw.block _ (show w.heap.size < w.heap.size + 1 by omega)).trans X1
    by_cases hlt : k < a.K.length
    · obtain ⟨q, hq⟩ : ∃ q, a.K[k]? = some q := ⟨_, List.getElem?_eq_getElem hlt⟩
      have hltV : k < a.V.length := by have := HLN.out; omega
      obtain ⟨v, hv⟩ : ∃ v, a.V[k]? = some v := ⟨_, List.getElem?_eq_getElem hltV⟩
      obtain ⟨ad, x, y, z, rfl, hg, hca, c0, e1, e2⟩ := row3 vAt.len (sl_low HS1.out HB1.out hlo) (HR1.out.imp fun a cs h => VRd.low hlo h) hq
      obtain ⟨AM, cM, rfl, rfl, rfl⟩ := val_shape hca
      obtain ⟨ad2, AV, cV2, hA2, hg2, hval, d0, d1, d2⟩ := HC.out k v hv
      subst hA2
      have hvi := HI.out.2 q (.inl (List.mem_of_getElem? hq))
      have hblk : (ad2.add (k * 3)).block < B := by rw [add_same_block]; exact HB2.out ad2 rfl (by omega)
      have N1 := below_new wr (.cells #[.int .i64 q.n, .string (tx q.s), .slice AM q.M.length cM] 31)
      have T1 := heap_alloc_new wr (.cells #[.int .i64 q.n, .string (tx q.s), .slice AM q.M.length cM] 31)
      obtain ⟨W1, hW1⟩ : ∃ W, W = wr.alloc (.cells #[.int .i64 q.n, .string (tx q.s), .slice AM q.M.length cM] 31) := ⟨_, rfl⟩
      rw [← hW1] at N1 T1
      have hs1 : W1.heap.size = wr.heap.size + 1 := by rw [hW1]; simp
      have hbW : Below w.heap.size w W1 := hbww.trans (N1.mono hbww.size)
      have HSX : Hid (∀ wx, Below W1.heap.size W1 wx → (wx.cell? ⟨w.heap.size, 2, none⟩ = some (.slice (some ad2) a.V.length c2)) ∧ (wx.cell? ⟨wr.heap.size, 0, none⟩ = some (.int .i64 q.n) ∧ wx.cell? ⟨wr.heap.size, 1, none⟩ = some (.string (tx q.s)) ∧ wx.cell? ⟨wr.heap.size, 2, none⟩ = some (.slice AM q.M.length cM)) ∧ (wx.cell? (ad2.add (k * 3)) = some (.int .i64 v.n) ∧ wx.cell? ⟨(ad2.add (k * 3)).block, (ad2.add (k * 3)).off + 1, none⟩ = some (.string (tx v.s)) ∧ wx.cell? ⟨(ad2.add (k * 3)).block, (ad2.add (k * 3)).off + 2, none⟩ = some (.slice AV v.M.length cV2))) := Lib.hid (fun wx hx => by
        have hbx : Below w.heap.size w wx := hbW.trans (hx.mono hbW.size)
        exact ⟨(bx3 (box_on (box_on Y1 N1) hx)).2.2, bx3 (box_on T1 hx), cell_on hbx d0, cell_on hbx d1, cell_on hbx d2⟩)
      have hD : Below W1.heap.size W1 W1.drew := (Below.refl _ _).drew
      have HM := Lib.hid (hm.on N1)
      have HK := Lib.hid (fun wx => keyOf_any q (.slice AM q.M.length cM) wx)
      have hzip : (a.K.zip vals)[k]? = some (q, .agg #[.int .i64 v.n, .string (tx v.s), .slice AV v.M.length cV2]) := by
        rw [List.getElem?_zip_eq_some]
        exact ⟨hq, hval⟩
      have HZ := Lib.hid (take_snoc hzip)
      have HQ : Hid (inr q.n ∧ q.s.length ≤ maxLen) := Lib.hid ⟨by unfold inr; exact hvi.1.1, by have := hvi.1.2; unfold maxLen; omega⟩
      have hkb : decide ((k : Int) < (a.V.length : Int)) = true := decide_eq_true (by omega)
      have hk0 : decide ((0 : Int) ≤ (k : Int)) = true := decide_eq_true (by omega)
      have HBX := Lib.hid (And.intro hbw N1)
      clear hm hq hv hca hval d0 d1 d2 hzip hvi hbw Y1
      go_wp2_with fail
      rw [← hW1]
      clear hW1 c0 e1 e2
      refine wp_region_held_drew (S := (fun wx => (wx.cell? ⟨w.heap.size, 2, none⟩ = some (.slice (some ad2) a.V.length c2)) ∧ (wx.cell? ⟨wr.heap.size, 0, none⟩ = some (.int .i64 q.n) ∧ wx.cell? ⟨wr.heap.size, 1, none⟩ = some (.string (tx q.s)) ∧ wx.cell? ⟨wr.heap.size, 2, none⟩ = some (.slice AM q.M.length cM)) ∧ (wx.cell? (ad2.add (k * 3)) = some (.int .i64 v.n) ∧ wx.cell? ⟨(ad2.add (k * 3)).block, (ad2.add (k * 3)).off + 1, none⟩ = some (.string (tx v.s)) ∧ wx.cell? ⟨(ad2.add (k * 3)).block, (ad2.add (k * 3)).off + 2, none⟩ = some (.slice AV v.M.length cV2)))) (by kernel_rfl) (HSX.out _ hD) (fun hHeld => ?_)
      refine wpAnyH_take (i := 0) (oi := { dst := some 15, op := Go.Op.move (Go.Operand.tmp 3), type := 176, pos := "typed.go:186", after := #[], guard := none }) (v := ?_) rfl (by kernel_rfl) (by kernel_rfl) (by kernel_rfl) (fun _ _ _ h => h) (Or.inl ⟨by rfl, ?_⟩) hHeld ?_
      rotate_left
      · intro w hSw
        (try dsimp only at hSw)
        go_simp
        all_goals with_reducible rfl
      (try simp only [Act.put, List.setIfInBounds_toArray, List.set_cons_zero, List.set_cons_succ])
      refine wpAnyH_take (i := 1) (oi := { dst := some 16, op := Go.Op.load 31 (Go.Operand.tmp 5), type := 31, pos := "typed.go:186", after := #[], guard := none }) (v := ?_) rfl (by kernel_rfl) (by kernel_rfl) (by kernel_rfl) (fun _ _ _ h => h) (Or.inl ⟨by rfl, ?_⟩) hHeld ?_
      rotate_left
      · intro w hSw
        (try dsimp only at hSw)
        go_simp
        all_goals with_reducible rfl
      (try simp only [Act.put, List.setIfInBounds_toArray, List.set_cons_zero, List.set_cons_succ])
      refine wpAnyH_take (i := 3) (oi := { dst := some 18, op := Go.Op.fieldAddr 36 (Go.Operand.tmp 1) 2, type := 0, pos := "typed.go:186", after := #[], guard := none }) (v := ?_) rfl (by kernel_rfl) (by kernel_rfl) (by kernel_rfl) (fun _ _ _ h => h) (Or.inl ⟨by rfl, ?_⟩) hHeld ?_
      rotate_left
      · intro w hSw
        (try dsimp only at hSw)
        go_simp
        all_goals with_reducible rfl
      (try simp only [Act.put, List.setIfInBounds_toArray, List.set_cons_zero, List.set_cons_succ])
      refine wpAnyH_take (i := 4) (oi := { dst := some 19, op := Go.Op.load 34 (Go.Operand.tmp 18), type := 34, pos := "typed.go:186", after := #[{ on := 3, ground := Go.Ground.data }], guard := none }) (v := ?_) rfl (by kernel_rfl) (by kernel_rfl) (by kernel_rfl) (fun _ _ _ h => h) (Or.inl ⟨by rfl, ?_⟩) hHeld ?_
      rotate_left
      · intro w hSw
        (try dsimp only at hSw)
        go_simp
        all_goals with_reducible rfl
      (try simp only [Act.put, List.setIfInBounds_toArray, List.set_cons_zero, List.set_cons_succ])
      refine wpAnyH_take (i := 5) (oi := { dst := some 20, op := Go.Op.move (Go.Operand.tmp 4), type := 3, pos := "typed.go:186", after := #[], guard := none }) (v := ?_) rfl (by kernel_rfl) (by kernel_rfl) (by kernel_rfl) (fun _ _ _ h => h) (Or.inl ⟨by rfl, ?_⟩) hHeld ?_
      rotate_left
      · intro w hSw
        (try dsimp only at hSw)
        go_simp
        all_goals with_reducible rfl
      (try simp only [Act.put, List.setIfInBounds_toArray, List.set_cons_zero, List.set_cons_succ])
      refine wpAnyH_take (i := 6) (oi := { dst := some 21, op := Go.Op.indexAddr 34 (Go.Operand.tmp 19) (Go.Operand.tmp 20), type := 0, pos := "typed.go:186", after := #[{ on := 4, ground := Go.Ground.data }, { on := 5, ground := Go.Ground.data }], guard := none }) (v := ?_) rfl (by kernel_rfl) (by kernel_rfl) (by kernel_rfl) (fun _ _ _ h => h) (Or.inl ⟨by rfl, ?_⟩) hHeld ?_
      rotate_left
      · intro w hSw
        (try dsimp only at hSw)
        go_simp
        all_goals with_reducible rfl
      (try simp only [Act.put, List.setIfInBounds_toArray, List.set_cons_zero, List.set_cons_succ])
      refine wpAnyH_take (i := 7) (oi := { dst := some 22, op := Go.Op.load 31 (Go.Operand.tmp 21), type := 31, pos := "typed.go:186", after := #[{ on := 6, ground := Go.Ground.data }], guard := none }) (v := ?_) rfl (by kernel_rfl) (by kernel_rfl) (by kernel_rfl) (fun _ _ _ h => h) (Or.inl ⟨by rfl, ?_⟩) hHeld ?_
      rotate_left
      · intro w hSw
        (try dsimp only at hSw)
        go_simp
        all_goals with_reducible rfl
      (try simp only [Act.put, List.setIfInBounds_toArray, List.set_cons_zero, List.set_cons_succ])
      refine wpAnyH_ready (rs := [2]) (by kernel_rfl) (by simp) ?_
      refine AllReadyH.cons (o := { dst := some 17, op := Go.Op.call { callee := Go.Callee.value (Go.Operand.func 150), args := #[Go.Operand.tmp 16], argTypes := #[31] }, type := 180, pos := "typed.go:186", after := #[{ on := 1, ground := Go.Ground.data }], guard := none }) rfl (fun K hK => ?_) AllReadyH.nil
      go_simp
      (go_at_call 150; refine (HK.out _).mono ?_; rintro e w3 ⟨rfl, hb3⟩; have L3 := hD.trans hb3; obtain ⟨w4, hrun, hM4, hg4⟩ := (HM.out.on L3).put (by omega) q HQ.out (.agg #[.int .i64 v.n, .string (tx v.s), .slice AV v.M.length cV2]))
      go_wp2_with fail
      refine hK.out _ _ (HSX.out _ L3) (fun hHeld => ?_)
      clear hK K
      (try simp only [Act.put, List.setIfInBounds_toArray, List.set_cons_zero, List.set_cons_succ])
      refine wpAnyH_ready (rs := [8]) (by kernel_rfl) (by simp) ?_
      refine AllReadyH.cons (o := { dst := none, op := Go.Op.mapUpdate 176 (Go.Operand.tmp 15) (Go.Operand.tmp 17) (Go.Operand.tmp 22), type := 0, pos := "typed.go:186", after := #[{ on := 0, ground := Go.Ground.data }, { on := 2, ground := Go.Ground.data }, { on := 7, ground := Go.Ground.data }, { on := 2, ground := Go.Ground.chain }, { on := 0, ground := Go.Ground.phase }, { on := 1, ground := Go.Ground.phase }, { on := 2, ground := Go.Ground.phase }, { on := 3, ground := Go.Ground.phase }, { on := 4, ground := Go.Ground.phase }, { on := 5, ground := Go.Ground.phase }, { on := 6, ground := Go.Ground.phase }, { on := 7, ground := Go.Ground.phase }], guard := none }) rfl (fun K hK => ?_) AllReadyH.nil
      go_simp
      have hS3 := HSX.out _ L3
      have hsz3 := L3.size
      refine hK.out _ _ ⟨cell_kept hg4 hS3.1 (by simp), ⟨cell_kept hg4 hS3.2.1.1 (by simp; omega), cell_kept hg4 hS3.2.1.2.1 (by simp; omega), cell_kept hg4 hS3.2.1.2.2 (by simp; omega)⟩, cell_kept hg4 hS3.2.2.1 (by omega), cell_kept hg4 hS3.2.2.2.1 (by simp only; omega), cell_kept hg4 hS3.2.2.2.2 (by simp only; omega)⟩ (fun hHeld => ?_)
      clear hK K
      (try simp only [Act.put, List.setIfInBounds_toArray, List.set_cons_zero, List.set_cons_succ])
      refine wpAnyH_done (by kernel_rfl) ?_ _
      go_wp2
      rw [HZ.out] at hM4
      refine ⟨⟨k + 1, by go_num, by omega, hM4, HBX.out.1.trans ((HBX.out.2.mono (by omega)).trans ((L3.mono (by omega)).trans (below_own hg4 (Nat.le_refl _) (by omega)))), by have := hg4.size; omega⟩, by simp [intOf]; omega⟩
    · obtain rfl : k = a.K.length := by omega
      go_wp2
      go_ret
      have hzl : (a.K.zip vals).length = a.K.length := by rw [List.length_zip, HV.out.len, ← HLN.out, Nat.min_self]
      rw [List.take_of_length_le (by omega)] at hm
      exact ⟨vals, rfl, HV.out, hm, hbww⟩
end Go.Proofs.YtggcjdajmbkpiaaGreatDoor.T9
/-
  The keys that there are, rising: the contract of rising.
-/
namespace Go.Proofs.YtggcjdajmbkpiaaGreatDoor.T9
set_option maxRecDepth 100000
open Go.RowKit Go.Maps

def ofKk (k : Kk) : Vl' := ⟨k.1.1, k.1.2, []⟩
theorem wf_in {n : Int} (h : (Lit.int .i64 n).wf = true) : inr n := by
  simp only [Lit.wf, Bool.and_eq_true, decide_eq_true_eq] at h
  exact ⟨h.1, h.2⟩
set_option maxRecDepth 100000 in
/-- What reads as a key is one of the machine's keys. -/
theorem kk_inv (key : Value) (kl : Lit) (h : Go.keyOf Tryz.prog 180 key = some kl) : ∃ x : Kk, key = kkVal x.1 := by
  unfold Go.keyOf at h
  rw [Tryz.underlying180] at h
  simp only at h
  split at h
  · rename_i hc
    rw [Bool.and_eq_true] at hc
    obtain ⟨-, hf⟩ := hc
    cases key with
    | agg cs =>
      obtain ⟨n, hn⟩ := ck_size
      unfold Value.formed at hf
      rw [Tryz.underlying180] at hf
      simp only [kk_cells, beq_iff_eq] at hf
      obtain ⟨c0, c1, rfl⟩ : ∃ c0 c1, cs = #[c0, c1] := by
        match cs, hf with
        | ⟨[c0, c1]⟩, _ => exact ⟨c0, c1, rfl⟩
      rw [hn] at h
      unfold Program.keyLits at h
      rw [Tryz.underlying180] at h
      cases c0 <;> try (simp [Value.cells, kk_cells, kk_int, kk_string, Program.keyLits, Tryz.underlying2, Tryz.underlying9] at h; done)
      rename_i q a
      cases c1 <;> try (simp [Value.cells, kk_cells, kk_int, kk_string, Program.keyLits, Tryz.underlying2, Tryz.underlying9] at h; done)
      rename_i s
      by_cases h1 : q = .i64 ∧ (Lit.int .i64 a).wf = true
      · by_cases h2 : s.size ≤ maxLen
        · obtain ⟨rfl, h1⟩ := h1
          exact ⟨⟨(a, s.data.toList), wf_in h1, by rw [Array.length_toList]; exact h2⟩, by unfold kkVal; rw [tx_of]⟩
        · simp [Value.cells, kk_cells, kk_int, kk_string, Program.keyLits, Tryz.underlying2, Tryz.underlying9, h2] at h
      · have H1 := Lib.hid h1
        clear h1
        simp [Value.cells, kk_cells, kk_int, kk_string, Program.keyLits, Tryz.underlying2, Tryz.underlying9] at h
        rw [if_neg H1.out] at h
        simp at h
    | _ => unfold Value.formed at hf; rw [Tryz.underlying180] at hf; simp at hf
  · cases h
/-- What has come of a map's keys. -/
structure Came (D : DataW Value) (left : Lit → Bool) (cnt n : Nat) (ks : List Vl') : Prop where
  rest : ∀ k : Kk, has D (kKk k) = true → left (kKk k) = true ∨ ofKk k ∈ ks
  came : ∀ x ∈ ks, ∃ k : Kk, x = ofKk k ∧ has D (kKk k) = true ∧ left (kKk k) = false
  apart : ks.Pairwise fun a b => lessV a b = true ∨ lessV b a = true
  few : ks.length + cnt ≤ n
theorem ofKk_apart {a b : Kk} (h : a ≠ b) : lessV (ofKk a) (ofKk b) = true ∨ lessV (ofKk b) (ofKk a) = true := by
  cases h1 : lessV (ofKk a) (ofKk b) with
  | true => exact .inl rfl
  | false =>
    cases h2 : lessV (ofKk b) (ofKk a) with
    | true => exact .inr rfl
    | false =>
      obtain ⟨e1, e2⟩ := lessV_total h1 h2
      exact absurd (Subtype.ext (Prod.ext e1 e2)) h
theorem kk_same {k k' : Kk} : (kKk k).sameKey (kKk k') = decide (k = k') := by
  by_cases h : k = k'
  · subst h; rw [WideAt.sameKey_self (kKk_lit k)]; simp
  · rw [decide_eq_false h]
    cases hs : (kKk k).sameKey (kKk k') with
    | false => rfl
    | true => exact absurd (kKk_inj _ _ (WideAt.sameKey_eq hs)) h
theorem Came.start {D : DataW Value} {n : Nat} (h : size D ≤ n) : Came D (has D) (size D) n [] :=
  ⟨fun k hk => .inl hk, (fun x hx => absurd hx (by simp)), List.Pairwise.nil, by simpa using h⟩
theorem Came.step {D : DataW Value} {left : Lit → Bool} {cnt cnt' n : Nat} {ks : List Vl'} (h : Came D left cnt n ks) (k : Kk) (hl : left (kKk k) = true) (hD : has D (kKk k) = true) (hc : cnt' < cnt) :
    Came D (fun z => left z && !z.sameKey (kKk k)) cnt' n (ks ++ [ofKk k]) := by
  refine ⟨fun q hq => ?_, fun x hx => ?_, ?_, ?_⟩
  · rcases h.rest q hq with h1 | h1
    · by_cases e : q = k
      · right; simp [e]
      · left
        show (left (kKk q) && !(kKk q).sameKey (kKk k)) = true
        rw [h1, kk_same, decide_eq_false e]; rfl
    · right; simp [h1]
  · rcases List.mem_append.1 hx with hx | hx
    · obtain ⟨q, e, h1, h2⟩ := h.came x hx
      exact ⟨q, e, h1, by show (left (kKk q) && _) = false; rw [h2]; rfl⟩
    · obtain rfl : x = ofKk k := by simpa using hx
      exact ⟨k, rfl, hD, by show (left (kKk k) && !(kKk k).sameKey (kKk k)) = false; rw [kk_same]; simp⟩
  · rw [List.pairwise_append]
    refine ⟨h.apart, List.pairwise_singleton _ _, fun x hx y hy => ?_⟩
    obtain rfl : y = ofKk k := by simpa using hy
    obtain ⟨q, rfl, _, h2⟩ := h.came x hx
    exact ofKk_apart fun e => by rw [e, hl] at h2; cases h2
  · have := h.few
    simp only [List.length_append, List.length_singleton]
    omega
theorem key_rows {bb D : Nat} {w : World} : ∀ {d : List Vl'}, (∀ k ∈ d, bare k = k) → Rows (VAt (Ow bb w) D) d (d.flatMap keyC)
  | [], _ => rfl
  | k :: d, h => by
    refine ⟨keyC k, _, rfl, ⟨_, rfl, [], ⟨?_, ?_⟩, ?_⟩, key_rows fun k hk => h k (by simp [hk])⟩
    all_goals
      have hM : k.M = [] := by have := h k (by simp); rw [← this]; rfl
      rw [hM]
    · exact World.ownsRow_nil _ _ _ _
    · exact Nat.zero_le _
    · rfl
theorem last_some {P : List (Vl' × Value)} {k : Int × List UInt8} : (lastA P k).isSome = true ↔ ∃ p ∈ P, keyV p.1 = k := by
  unfold lastA
  rw [Option.isSome_map, List.find?_isSome]
  constructor
  · rintro ⟨p, hp, h⟩
    exact ⟨p, List.mem_reverse.1 hp, by simpa using h⟩
  · rintro ⟨p, hp, h⟩
    exact ⟨p, List.mem_reverse.2 hp, by simpa using h⟩
theorem size_le {w : World} {b n : Nat} {D : DataW Value} (h : w.ownsMap Tryz.prog 180 heldE b n D) : size D ≤ n := by
  obtain ⟨es, clock, _, _, hs, rfl⟩ := h
  show ((es.toList.map _).foldr DataW.insert []).length ≤ n
  rw [length_sorted]
  simpa using hs
set_option maxRecDepth 1000000 in
set_option maxHeartbeats 8000000 in
theorem rising_any (b n : Nat) (P : List (Vl' × Value)) (w : World) (h : LastM w b n P) (hn : n ≤ 100000) (hK : ∀ p ∈ P, inr p.1.n ∧ p.1.s.length ≤ maxLen) (bb : Nat) (hbb : bb ≤ w.heap.size) (D0 : Nat) :
    Calls Tryz.prog 149 #[.map (some b)] w fun e w' => ∃ v, e = .returned v ∧ LsAt (Ow bb w') 31 3 (VAt (Ow bb w') D0) (risen (P.map (·.1))) v ∧ Below w.heap.size w w' := by
  obtain ⟨D, hown, hD⟩ := h
  obtain ⟨i0, hi, hz0, hz1, hz2⟩ := info_parts info_val
  have hblt := hown.lt
  have HSZ := Lib.hid (size_le hown)
  have HDD := Lib.hid hD
  have HKK := Lib.hid hK
  clear hD hK
  go_enter Tryz.func149, Tryz.ntmps149
  go_wp2_with (first
    | (at_range; refine wpList_range_own _ rfl _ 176 rfl 180 31 kk_law Tryz.underlying176 _ b n _ rfl hown ?_; intro w0 hrg0 hg0 hs0)
    | fail)
  go_frame
  go_loopw [3] (fun o wr => ∃ (left : Lit → Bool) (cnt : Nat) (ks : List Vl'), wr.ranges Tryz.prog 180 heldE b w.heap.size n D left cnt ∧ Came D left cnt n ks ∧ wr.ownsRow (w.heap.size + 1) 31 3 o ks.length (ks.flatMap keyC) ∧ Below w.heap.size w wr ∧ w.heap.size + 1 ≤ wr.heap.size) (fun _ wr => wr.rangeLeft b w.heap.size)
  case atStart => exact ⟨_, _, [], hrg0, Came.start HSZ.out, World.ownsRow_nil _ _ _ _, below_none hg0, by omega⟩
  case round =>
    obtain ⟨left, cnt, ks, hrg, hcm, hrow, hbw, hsw⟩ := hrel
    go_wp2_with (first
      | (at_next; refine wpList_next_ranges _ rfl _ rfl 180 kk_law heldE (fun p : Kk => kkVal p.1) (fun v : Value => v) kk_inv (fun v _ _ => ⟨v, rfl⟩) b w.heap.size n D left cnt rfl hrg ?_ ?_)
      | fail)
    · intro hc0 hl0
      have hkl : ks.length ≤ 1000000 := by have := hcm.few; omega
      have HS := Lib.hid (fun wx (hx : wx = wr) => hx ▸ sort_keys (w.heap.size + 1) u3 ks wr hrow hcm.apart hkl)
      go_wp2_with fail
      refine (HS.out _ rfl).mono ?_
      rintro e w1 ⟨rfl, ⟨d, hdl, hdm, hdr, hdo⟩, hg1⟩
      go_wp2
      go_ret
      have hbare : ∀ k ∈ d, bare k = k := fun k hk => by
        obtain ⟨q, rfl, _⟩ := hcm.came k ((hdm k).1 hk)
        rfl
      have hd : d = risen (P.map (·.1)) := by
        refine srt_is lv_irr lv_tr (lv_tot _) hdr fun x => ?_
        rw [hdm x, List.mem_map]
        constructor
        · intro hx
          obtain ⟨q, rfl, h1, _⟩ := hcm.came x hx
          rw [(HDD.out q).1, last_some] at h1
          obtain ⟨p, hp, e⟩ := h1
          exact ⟨p.1, List.mem_map_of_mem hp, by unfold bare ofKk; rw [← e]; rfl⟩
        · rintro ⟨y, hy, rfl⟩
          obtain ⟨p, hp, rfl⟩ := List.mem_map.1 hy
          have hq := HKK.out p hp
          have h1 : has D (kKk ⟨keyV p.1, hq⟩) = true := by
            rw [(HDD.out _).1, last_some]
            exact ⟨p, hp, rfl⟩
          rcases hcm.rest _ h1 with h2 | h2
          · rw [hl0] at h2; cases h2
          · exact h2
      rw [← hd]
      have hown1 : LsAt (Ow bb w1) 31 3 (VAt (Ow bb w1) D0) d u3 := ⟨_, ⟨by rw [hdl]; exact own_less hdo (by omega), by omega⟩, key_rows hbare⟩
      exact ⟨u3, rfl, hown1, hbw.trans (below_row hg1 hrow (by omega) (by omega))⟩
    · intro xn xs hx1 hx2 v kl y ps w1 cnt1 hkey hlk hv hat hrg1 hlt hg1 hs1 hen
      obtain ⟨k, hk⟩ : ∃ k : Kk, k = ⟨(xn, xs), hx1, hx2⟩ := ⟨_, rfl⟩
      have hkl : kl = kKk k := by
        rw [hk]
        exact Option.some.inj (hkey.symm.trans (kKk_key ⟨(xn, xs), hx1, hx2⟩))
      subst hkl
      have hcm1 := hcm.step k hlk (has_true_of_atKey hat) hlt
      have hkc : keyC (ofKk k) = [.int .i64 xn, .string (tx xs), .slice none 0 0] := by rw [hk]; rfl
      have hsw1 : w.heap.size + 1 ≤ w1.heap.size := by omega
      have hrow1 : w1.ownsRow (w.heap.size + 1) 31 3 u3 ks.length (ks.flatMap keyC) := own_hi hrow (hi_grown hg1 (by omega))
      have N1 := below_new w1 (.cells #[.int .i64 xn, .string (tx xs)] 180)
      have hz1' : (w1.alloc (.cells #[.int .i64 xn, .string (tx xs)] 180)).heap.size = w1.heap.size + 1 := by simp
      have N2 := below_new (w1.alloc (.cells #[.int .i64 xn, .string (tx xs)] 180)) (.cells #[.int .i64 xn, .string (tx xs), .slice none 0 0] 31)
      have HRW := Lib.hid (own_hi (own_hi hrow1 (hi_below _ N1)) (hi_below _ N2))
      have HN := Lib.hid (heap_alloc_new (w1.alloc (.cells #[.int .i64 xn, .string (tx xs)] 180)) (.cells #[.int .i64 xn, .string (tx xs), .slice none 0 0] 31))
      have hfew := hcm1.few
      rw [List.length_append, List.length_singleton] at hfew
      have HC1 := Lib.hid hcm1
      have HRG := Lib.hid ((hrg1.alloc (.cells #[.int .i64 xn, .string (tx xs)] 180)).alloc (.cells #[.int .i64 xn, .string (tx xs), .slice none 0 0] 31))
      have HRG0 := Lib.hid hrg
      have HKC := Lib.hid hkc
      have HBW := Lib.hid (hbw.trans ((below_own hg1 (Nat.le_refl _) hbw.size).trans ((N1.mono (by omega)).trans (N2.mono (by omega)))))
      have HLT := Lib.hid hlt
      have h1c : ∀ u ∈ [Value.int .i64 xn, .string (tx xs), .slice none 0 0], u.oneCell' = true := fun u hu => key_one (ofKk k) u (by rw [hkc]; exact hu)
      unfold kkVal at hen
      simp only at hen
      clear hk hcm hcm1 hkc hrow hrow1 hrg hrg1 hat hkey hlt hbw N1 N2 hlk hv hs1
      simp only [kkVal]
      go_wp2_with (first
        | (at_builtin; go_loud (refine wpList_append_lies _ rfl _ _ 34 rfl (w.heap.size + 1) 31 i0 _ 3 48 Tryz.underlying34 hi hz0 hz1 hz2 rfl (by decide) _ ks.length _ rfl HRW.out ⟨w1.heap.size + 1, 0, none⟩ 1 1 [.int .i64 xn, .string (tx xs), .slice none 0 0] rfl rfl (World.news_of_block (hz1' ▸ HN.out)) h1c (by decide) (by unfold maxLen; omega) (by omega) (by simp; omega) (w1.heap.size + 2) (by simp) ?_); intro g8 cap8 w8 hown8 hg8 hat8 hlt8)
        | fail)
      have hnb : ∀ q, u3.ownBlock = some q → w.heap.size + 1 ≤ q := fun q hq => (own_blk HRW.out q hq).1
      have hrg8 := HRG.out.kept hg8 (fun e => by have := hnb b e.symm; omega) (fun e => by have := hnb _ e.symm; omega)
      have hs8 := hg8.size
      simp only [World.size_alloc] at hs8
      refine ⟨⟨_, cnt1, ks ++ [ofKk k], hrg8, HC1.out, ?_, HBW.out.trans (below_row hg8 HRW.out (by omega) (by simp; omega)), ?_⟩, ?_⟩
      · rw [List.flatMap_append, List.length_append]
        show w8.ownsRow _ _ _ _ _ (ks.flatMap keyC ++ ([ofKk k].flatMap keyC))
        rw [show [ofKk k].flatMap keyC = keyC (ofKk k) by simp, HKC.out]
        exact hown8
      · omega
      · rw [hrg8.left_eq, HRG0.out.left_eq]
        exact HLT.out
end Go.Proofs.YtggcjdajmbkpiaaGreatDoor.T9
