/-
  A message that is resolved: the contract.
-/
import Derived.Test.YtciiemomfniecaaGreatDoorTabSort
import Derived.StillTailTactics
namespace Go.Proofs.YtciiemomfniecaaGreatDoor
set_option maxRecDepth 100000

open Go.RowKit Go.Maps

theorem lit_struct (w : World) (cs : List Value) (t : TypeId) (h : cs.length ≤ maxLen) : Sl (w.alloc (.cells cs.toArray t)) (some ⟨w.heap.size, 0, none⟩) 1 1 cs.length cs :=
  ⟨by simp, Nat.le_refl _, by unfold maxLen; omega, by simp, fun ad ha _ => by obtain rfl := Option.some.inj ha; simp, (Sl.new w cs t h).cell⟩
theorem lit_df2 (w : World) (o : Obj) (d : Df) : Sl ((w.alloc o).alloc (.cells #[.int .i64 d.no, .string (txt d.name), .int .i64 d.kind, .int .i64 d.ref, .bool d.rep, .int .i64 d.key, .int .i64 d.one] 39)) (some ⟨w.heap.size + 1, 0, none⟩) 1 1 7 (DC d) := by
  have h := lit_struct (w.alloc o) (DC d) 39 (by unfold maxLen; simp [DC])
  rw [World.size_alloc] at h
  exact h
theorem free1S (v : Value) (l : List (List UInt8)) (w : World) (hr : Rb w.heap.size w v l.length 1 (strv l)) (hl : l.length ≤ 100000) (hx : ∀ x ∈ l, x.length ≤ maxLen) :
    Calls Tryz.prog 69 #[.slice (some ⟨w.heap.size, 0, none⟩) 1 1] (w.alloc (.cells #[v] 48)) fun e w' => e = .returned (.map (some (w.heap.size + 1))) ∧ FreeS w' (w.heap.size + 1) l.length (fun y => l.contains y) ∧ Below w.heap.size w w' := by
  obtain ⟨A, c, rfl, hs, hA⟩ := hr
  have hbw := below_new w (.cells #[.slice A l.length c] 48)
  have h := freeOfS_any (some ⟨w.heap.size, 0, none⟩) 1 [l] [.slice A l.length c] (w.alloc (.cells #[.slice A l.length c] 48)) (Sl.new w [.slice A l.length c] _ (by unfold maxLen; simp)) (by
    intro k l' hk
    match k, hk with
    | 0, hk =>
      obtain rfl : l = l' := by simpa using hk
      exact ⟨A, c, rfl, hs.on hbw, fun ad ha hp => Nat.lt_of_lt_of_le (hA ad ha hp) hbw.size⟩
    | k + 1, hk => simp at hk) (by simpa using hl) (by
    intro l' hl' x hxl
    obtain rfl : l' = l := by simpa using hl'
    exact hx x hxl) (by simp)
  refine h.mono ?_
  rintro e w' ⟨rfl, hm, hb⟩
  have e1 : (w.alloc (.cells #[.slice A l.length c] 48)).heap.size = w.heap.size + 1 := by simp
  rw [e1] at hm
  have e2 : [l].flatten = l := by simp
  rw [e2] at hm
  exact ⟨by rw [e1], hm, below_then hbw hb⟩
theorem free1I (v : Value) (l : List Int) (w : World) (hr : Rb w.heap.size w v l.length 1 (intv l)) (hl : l.length ≤ 100000) (hx : ∀ x ∈ l, inr x) :
    Calls Tryz.prog 73 #[.slice (some ⟨w.heap.size, 0, none⟩) 1 1] (w.alloc (.cells #[v] 49)) fun e w' => e = .returned (.map (some (w.heap.size + 1))) ∧ FreeI w' (w.heap.size + 1) l.length (fun y => l.contains y) ∧ Below w.heap.size w w' := by
  obtain ⟨A, c, rfl, hs, hA⟩ := hr
  have hbw := below_new w (.cells #[.slice A l.length c] 49)
  have h := freeOfI_any (some ⟨w.heap.size, 0, none⟩) 1 [l] [.slice A l.length c] (w.alloc (.cells #[.slice A l.length c] 49)) (Sl.new w [.slice A l.length c] _ (by unfold maxLen; simp)) (by
    intro k l' hk
    match k, hk with
    | 0, hk =>
      obtain rfl : l = l' := by simpa using hk
      exact ⟨A, c, rfl, hs.on hbw, fun ad ha hp => Nat.lt_of_lt_of_le (hA ad ha hp) hbw.size⟩
    | k + 1, hk => simp at hk) (by simpa using hl) (by
    intro l' hl' x hxl
    obtain rfl : l' = l := by simpa using hl'
    exact hx x hxl) (by simp)
  refine h.mono ?_
  rintro e w' ⟨rfl, hm, hb⟩
  have e1 : (w.alloc (.cells #[.slice A l.length c] 49)).heap.size = w.heap.size + 1 := by simp
  rw [e1] at hm
  have e2 : [l].flatten = l := by simp
  rw [e2] at hm
  exact ⟨by rw [e1], hm, below_then hbw hb⟩

/-- What is told of a message. -/
def msgR (f : Fl) (m : Ms) : Md := if (errM f m).isSome then ⟨[], []⟩ else msgD f m
theorem infoMd : (Tryz.prog.info? 56).map (·.size) = some 2 := by kernel_rfl
theorem infoDfs : (Tryz.prog.info? 39).map (fun i => (i.zero, i.size, i.bytes)) = some (some (.agg #[.int .i64 0, .string ⟨#[]⟩, .int .i64 0, .int .i64 0, .bool false, .int .i64 0, .int .i64 0]), 7, 64) := by kernel_rfl
theorem wpList_store_md {ops : Array Oper} {rest : List Oper} {o : Oper} {a : Act} {w : World} {Q : Exit → Act → World → Prop} (hgd : o.guard = none) (x y : Operand) (ho : o.op = .store 56 x y)
    (hd : o.dst = none) (g : Nat) (v0 v1 u0 u1 : Value) (hx : a.eval x = .pointer (some ⟨g, 0, none⟩)) (hy : a.eval y = .agg #[v0, v1]) (h0 : v0.oneCell' = true) (h1 : v1.oneCell' = true)
    (t : TypeId) (hg : w.heap[g]? = some (.cells #[u0, u1] t (0, 0)))
    (h : wpList Tryz.prog ops Q rest a (w.setRow g #[v0, v1])) : wpList Tryz.prog ops Q (o :: rest) a w :=
  wpList_store_rowTo hgd 56 x y ho hd g _ hx hy t _ hg infoMd rfl (by simp [h0, h1]) h
theorem wpList_load_md {ops : Array Oper} {rest : List Oper} {o : Oper} {a : Act} {w : World} {Q : Exit → Act → World → Prop} (hgd : o.guard = none) (x : Operand) (ho : o.op = .load 56 x)
    (g : Nat) (u0 u1 : Value) (hx : a.eval x = .pointer (some ⟨g, 0, none⟩)) (t : TypeId) (fr : Nat × Nat) (hg : w.heap[g]? = some (.cells #[u0, u1] t fr))
    (h : wpList Tryz.prog ops Q rest (a.put o.dst (.agg #[u0, u1])) w) : wpList Tryz.prog ops Q (o :: rest) a w :=
  wpList_load_row hgd 56 x ho g hx t _ fr _ hg Tryz.underlying56 rfl infoMd h
theorem results_md2 {fn : Func} {p u v : Tmp} (h : fn.results = #[.cell p 56, .tmp u, .tmp v]) (tmps : Array Value) (w : World) (g : Nat) (t : TypeId) (u0 u1 : Value) (fr : Nat × Nat)
    (hp : tmps.getD p undef = .pointer (some ⟨g, 0, none⟩)) (hg : w.heap[g]? = some (.cells #[u0, u1] t fr)) :
    (results fn tmps).run Tryz.prog w = .ok (.tuple #[.agg #[u0, u1], tmps.getD u undef, tmps.getD v undef]) w :=
  results_row_tmp2 h tmps w g t _ fr _ hp hg Tryz.underlying56 rfl infoMd
theorem still_drop {α : Type} [BEq α] [LawfulBEq α] (l bar : List α) : (fun y => (fun y => l.contains y) y && !bar.contains y) = still l bar 0 := (still_start l bar).symm

theorem fdErr_form {f : Fl} {m : Ms} {k : Nat} {x : Fd} (h : fdForm m k x = true) : fdErr f m k x = some (x.at_, 4) := by unfold fdErr; rw [if_pos h]
theorem fdErr_field {f : Fl} {m : Ms} {k : Nat} {x : Fd} (h : fdForm m k x = false) : fdErr f m k x = if (fieldR f x).2 = 0 then none else some (x.at_, (fieldR f x).2) := by
  unfold fdErr fieldR
  rw [h]
  by_cases hk : x.key = []
  · rw [decide_eq_true hk]
    simp only [Bool.true_or, if_true]
    rw [show decide (x.key ≠ []) = false from by simp [hk]]
    cases ht : kindF f x.type <;> simp
  · rw [decide_eq_false hk, show decide (x.key ≠ []) = true from by simp [hk]]
    cases hq : keyOK x.key <;> cases ht : kindF f x.type <;> simp
theorem fieldR_zero {f : Fl} {x : Fd} (h : (fieldR f x).2 = 0) : (fieldR f x).1 = defF f x := by
  unfold fieldR at h ⊢
  split at h
  · split at h
    · rename_i h1 h2; rw [if_pos h1, if_pos h2]
    · simp at h
  · simp at h
theorem msgR_bad {f : Fl} {m : Ms} {r : Int × Nat} (h : errM f m = some r) : msgR f m = ⟨[], []⟩ := by unfold msgR; rw [h]; rfl

theorem set2 {w : World} {g : Nat} {a b : Value} {t : TypeId} (h : w.heap[g]? = some (.cells #[a, b] t (0, 0))) (u v : Value) : (((w.setCell ⟨g, 0, none⟩ u).setCell ⟨g, 1, none⟩ v).drew).heap[g]? = some (.cells #[u, v] t (0, 0)) := by
  have h1 := heap_setCell_same h (j := 0) u
  have h2 := heap_setCell_same h1 (j := 1) v
  show ((w.setCell ⟨g, 0, none⟩ u).setCell ⟨g, 1, none⟩ v).heap[g]? = _
  simpa using h2
theorem below_set2 {w w' : World} {g : Nat} (h : Below w.heap.size w w') (hg : w.heap.size ≤ g) (u v : Value) : Below w.heap.size w (((w'.setCell ⟨g, 0, none⟩ u).setCell ⟨g, 1, none⟩ v).drew) :=
  ((h.setCell hg u).setCell hg v).trans (Below.refl _ _).drew
def MesRel (f : Fl) (m : Ms) (w : World) (b1 b2 D : Nat) (wD : World) (i : Value) (wr : World) : Prop :=
  ∃ (k : Nat) (dv : Value), i = .int .i64 k ∧ k ≤ m.F.length ∧ (∀ j x, j < k → m.F[j]? = some x → fdErr f m j x = none) ∧ FreeS wr b1 m.F.length (still (nmF m) m.ones k) ∧ FreeI wr b2 m.F.length (still (noF m) m.res k) ∧
    wr.heap[D]? = some (.cells #[.string (txt m.name), dv] 56 (0, 0)) ∧ wr.ownsRow (D + 1) 39 7 dv k (dfv ((m.F.take k).map (defF f))) ∧ Below (w.heap.size + 2) wD wr

set_option maxRecDepth 1000000 in
set_option maxHeartbeats 8000000 in
theorem messageT_any (B b n : Nat) (f : Fl) (m : Ms) (vF vO vR : Value) (w : World) (hB : B ≤ w.heap.size) (hmr : MAt B w m vF vO vR) (hin : MsIn m) (hF : m.F.length ≤ 30) (hO : m.ones.length ≤ 30) (hmn : Mean w b n (kindF f)) (T : Tabs w) :
    Calls Tryz.prog 34 #[.map (some b), .agg #[.string (txt m.name), vF, vO, vR, .int .i64 m.at_]] w fun e w' => ∃ v, e = .returned (.tuple #[.agg #[.string (txt (msgR f m).name), v], .int .i64 (((errM f m).map (·.1)).getD 0), .int .i64 ((((errM f m).map (·.2)).getD 0 : Nat) : Int)]) ∧
      w'.ownsRow w.heap.size 39 7 v (msgR f m).F.length (dfv (msgR f m).F) ∧ Below w.heap.size w w' := by
  obtain ⟨i0, hi, hz0, hz1, hz2⟩ := info_parts infoDfs
  have HFN := Lib.hid (fun wx (hx : Below w.heap.size w wx) => eachFdN_any B vF m.F (by omega) wx (Nat.le_trans hB hx.size) (hmr.f.low (Low.below hx hB)))
  have HFI := Lib.hid (fun wx (hx : Below w.heap.size w wx) => eachFdI_any B vF m.F (by omega) wx (Nat.le_trans hB hx.size) (hmr.f.low (Low.below hx hB)))
  have HDS := Lib.hid (fun wx b1 p (hx : Below w.heap.size w wx) (hb1 : B ≤ b1) hm => dropS_any b1 m.F.length B p vO m.ones hin.ones wx hb1 (hmr.o.low (Low.below hx hB)) hm)
  have HDI := Lib.hid (fun wx b2 p (hx : Below w.heap.size w wx) (hb2 : B ≤ b2) hm => dropI_any b2 m.F.length B p vR m.res hin.res wx hb2 (hmr.r.low (Low.below hx hB)) hm)
  obtain ⟨AF, cF, rfl, sF, aF⟩ := hmr.f
  obtain ⟨AO, cO, rfl, -, -⟩ := hmr.o
  obtain ⟨AR, cR, rfl, -, -⟩ := hmr.r
  have HSF := Lib.hid sF
  have HIN := Lib.hid hin
  have HMN := Lib.hid hmn
  have HT := Lib.hid T
  have hnl : (nmF m).length = m.F.length := by simp [nmF]
  have hol : (noF m).length = m.F.length := by simp [noF]
  have hnx : ∀ x ∈ nmF m, x.length ≤ maxLen := by
    intro x hx
    obtain ⟨d, hd, rfl⟩ := List.mem_map.1 hx
    exact (hin.F d hd).name
  have hox : ∀ x ∈ noF m, inr x := by
    intro x hx
    obtain ⟨d, hd, rfl⟩ := List.mem_map.1 hx
    exact (hin.F d hd).no
  have HSS := Lib.hid (still_drop (nmF m) m.ones)
  have HSI := Lib.hid (still_drop (noF m) m.res)
  clear hmr sF hin hmn T
  have hb0 : Below w.heap.size w ((w.alloc (.cells #[.string (txt m.name), .slice AF m.F.length cF, .slice AO m.ones.length cO, .slice AR m.res.length cR, .int .i64 m.at_] 51)).alloc (.cells #[.string ⟨#[]⟩, .slice none 0 0] 56)) := below_lit (below_new _ _) _
  have hx0 : ((w.alloc (.cells #[.string (txt m.name), .slice AF m.F.length cF, .slice AO m.ones.length cO, .slice AR m.res.length cR, .int .i64 m.at_] 51)).alloc (.cells #[.string ⟨#[]⟩, .slice none 0 0] 56)).heap[w.heap.size]? = some (.cells #[.string (txt m.name), .slice AF m.F.length cF, .slice AO m.ones.length cO, .slice AR m.res.length cR, .int .i64 m.at_] 51 (0, 0)) := ((below_new _ _).block _ (by simp)).trans (heap_alloc_new w _)
  have hr0 := heap_second w (.cells #[.string (txt m.name), .slice AF m.F.length cF, .slice AO m.ones.length cO, .slice AR m.res.length cR, .int .i64 m.at_] 51) (.cells #[.string ⟨#[]⟩, .slice none 0 0] 56)
  have hs0 : ((w.alloc (.cells #[.string (txt m.name), .slice AF m.F.length cF, .slice AO m.ones.length cO, .slice AR m.res.length cR, .int .i64 m.at_] 51)).alloc (.cells #[.string ⟨#[]⟩, .slice none 0 0] 56)).heap.size = w.heap.size + 2 := by simp
  go_enter Tryz.func34, Tryz.ntmps34
  go_wp2_with (first
    | (go_at_call 70; refine (HFN.out _ hb0).mono ?_; rintro e w1 ⟨uN, rfl, ho1, hb1⟩; obtain ⟨AN, cN, rfl, -⟩ := Sl.of_own ho1; have hz1 := hb1.size; rw [hs0] at hz1; have HF1 := Lib.hid (free1S _ (nmF m) w1 (by rw [hnl]; exact Rb.of_own ho1) (by omega) hnx))
    | (go_at_call 69; refine HF1.out.mono ?_; rintro e w2 ⟨rfl, hm2, hb2⟩; have hbw2 := below_then (below_then hb0 hb1) hb2; have hx2 := (hb2.block _ (by omega)).trans ((hb1.block _ (by rw [hs0]; omega)).trans hx0); have hr2 := (hb2.block _ (by omega)).trans ((hb1.block _ (by rw [hs0]; omega)).trans hr0); have c2 := heap_cell hx2 2; simp at c2; rw [hnl] at hm2)
    | (go_at_call 72; refine (HDS.out _ (w1.heap.size + 1) _ hbw2 (by omega) hm2).mono ?_; rintro e w3 ⟨rfl, hm3, hg3⟩; rw [HSS.out] at hm3; have hbw3 := hbw2.grown hg3 hbw2.size (fun j hj => by injection hj with hj; omega); have hx3 := box_kept hx2 hg3 (by omega); have hr3 := box_kept hr2 hg3 (by omega); have c3 := heap_cell hx3 1; simp at c3; have hz3 := hm3.lt)
    | (go_at_call 74; refine (HFI.out _ hbw3).mono ?_; rintro e w4 ⟨uI, rfl, ho4, hb4⟩; obtain ⟨AI, cI, rfl, -⟩ := Sl.of_own ho4; have hz4 := hb4.size; have HF4 := Lib.hid (free1I _ (noF m) w4 (by rw [hol]; exact Rb.of_own ho4) (by omega) hox))
    | (go_at_call 73; refine HF4.out.mono ?_; rintro e w5 ⟨rfl, hm5, hb5⟩; have hbw5 := below_then (below_then hbw3 hb4) hb5; have hx5 := (hb5.block _ (by omega)).trans ((hb4.block _ (by omega)).trans hx3); have hr5 := (hb5.block _ (by omega)).trans ((hb4.block _ (by omega)).trans hr3); have c5 := heap_cell hx5 3; simp at c5; rw [hol] at hm5; have hn5 := (hm3.on hb4).on hb5)
    | (go_at_call 76; refine (HDI.out _ (w4.heap.size + 1) _ hbw5 (by omega) hm5).mono ?_; rintro e w6 ⟨rfl, hm6, hg6⟩; rw [HSI.out] at hm6; have hbw6 := hbw5.grown hg6 hbw5.size (fun j hj => by injection hj with hj; omega); have hx6 := box_kept hx5 hg6 (by omega); have hr6 := box_kept hr5 hg6 (by omega); have d0 := heap_cell hx6 0; have d1 := heap_cell hx6 1; simp at d0 d1; have hz6 := hm6.lt; have hn6 := hn5.kept hg6 (by simp; omega); have hl6 := (Array.getElem?_eq_some_iff.1 hx6).1))
  have hbw7 := below_lit hbw6 (.cells #[.string (txt m.name), .slice none 0 0] 56)
  have hx7 := ((below_new w6 (.cells #[.string (txt m.name), .slice none 0 0] 56)).block _ hl6).trans hx6
  have hr7 := ((below_new w6 (.cells #[.string (txt m.name), .slice none 0 0] 56)).block _ (Array.getElem?_eq_some_iff.1 hr6).1).trans hr6
  have hD7 := heap_alloc_new w6 (.cells #[.string (txt m.name), .slice none 0 0] 56)
  have hn7 := hn6.alloc (.cells #[.string (txt m.name), .slice none 0 0] 56)
  have hm7 := hm6.alloc (.cells #[.string (txt m.name), .slice none 0 0] 56)
  obtain ⟨b1, hb1e⟩ : ∃ b1, w1.heap.size + 1 = b1 := ⟨_, rfl⟩
  obtain ⟨b2, hb2e⟩ : ∃ b2, w4.heap.size + 1 = b2 := ⟨_, rfl⟩
  have hs7 : (w6.alloc (.cells #[.string (txt m.name), .slice none 0 0] 56)).heap.size = w6.heap.size + 1 := by simp
  simp only [hb1e, hb2e] at hn7 hm7 hz3 hz6 ⊢
  have l1 : w.heap.size + 2 < b1 := by omega
  have l2 : b1 < b2 := by omega
  generalize w6.heap.size = D at *
  generalize w6.alloc (.cells #[.string (txt m.name), .slice none 0 0] 56) = w7 at *
  have HX7 := Lib.hid hx7
  have HR7 := Lib.hid hr7
  have HB7 := Lib.hid hbw7
  have HS7 := Lib.hid hs7
  clear hm2 hm3 hn5 hm5 hn6 hm6 hb1 hb2 hb4 hb5 hg3 hg6 hbw2 hbw3 hbw5 hbw6 hx0 hx2 hx3 hx5 hx6 hr0 hr2 hr3 hr5 hr6 hb0 ho1 ho4 HF1 HF4 c2 c3 c5 d0 d1 hl6 hx7 hr7 hbw7 hs0 hz1 hz4 hb1e hb2e hnx hox hs7 HDS HDI HFN HFI
  go_loopw [39] (fun i wr => MesRel f m w b1 b2 D w7 i wr) (fun i _ => m.F.length - (intOf i).toNat)
  case atStart => exact ⟨0, .slice none 0 0, rfl, by omega, fun j x hj => by omega, hn7, hm7, hD7, World.ownsRow_nil _ _ _ _, Below.refl _ _⟩
  case round =>
    obtain ⟨k, dv, rfl, hk, herr, hmS, hmI, hD, hown, hb⟩ := hrel
    have hsz := hb.size
    rw [HS7.out] at hsz
    have hxr := (hb.block w.heap.size (by omega)).trans HX7.out
    have hrr := (hb.block (w.heap.size + 1) (by omega)).trans HR7.out
    have hbw := HB7.out.trans (hb.mono (by omega))
    have HER := Lib.hid herr
    clear herr
    by_cases hlt : k < m.F.length
    · obtain ⟨x, hx0⟩ : ∃ x, m.F[k]? = some x := ⟨_, List.getElem?_eq_getElem hlt⟩
      obtain ⟨ad, rfl, hg, c0, c1, c2, c3, c4, c5, c6⟩ := fdr_at (HSF.out.low aF (Low.below hbw hB)) hx0
      have hxi := HIN.out.F x (List.mem_of_getElem? hx0)
      obtain ⟨p1, hp1⟩ : ∃ p, still (nmF m) m.ones k x.name = p := ⟨_, rfl⟩
      obtain ⟨p2, hp2⟩ : ∃ p, still (noF m) m.res k x.no = p := ⟨_, rfl⟩
      obtain ⟨p3, hp3⟩ : ∃ p, numberB x.no = p := ⟨_, rfl⟩
      obtain ⟨kb, hkb⟩ : ∃ p, decide (x.key ≠ []) = p := ⟨_, rfl⟩
      obtain ⟨p4, hp4⟩ : ∃ p, standB m.ones.length x.one x.rep kb = p := ⟨_, rfl⟩
      have hke : (txt x.key).toList.isEmpty = !kb := by rw [Lib.toList_data, txt_list, ← hkb]; cases x.key <;> simp
      have hke2 : ((txt x.key).toList == (⟨#[]⟩ : ByteArray).toList) = !kb := by rw [Lib.toList_data, txt_list, Lib.toList_data, ← hkb]; cases x.key <;> simp
      have HFM := Lib.hid (fdForm_code hx0)
      have HT1 := fun wx hx => takeS_any b1 m.F.length (still (nmF m) m.ones k) x.name hxi.name wx hx
      have HT2 := fun wx hx => takeI_any b2 m.F.length (still (noF m) m.res k) x.no hxi.no wx hx
      have HT3 := fun wx => isNumber_any x.no wx
      have HT4 := fun wx (hT : Tabs wx) => mayStand_any m.ones.length x.one x.rep kb wx hT
      simp only [hp1] at HT1
      simp only [hp2] at HT2
      simp only [hp3] at HT3
      simp only [hp4] at HT4
      rw [hkb, hp1, hp2, hp3, hp4] at HFM
      have HQ1 := Lib.hid HT1
      have HQ2 := Lib.hid HT2
      have HQ3 := Lib.hid HT3
      have HQ4 := Lib.hid HT4
      have HX0 := Lib.hid hx0
      have HXI := Lib.hid hxi
      have HRR := Lib.hid hrr
      have HXR := Lib.hid hxr
      have HBW := Lib.hid hbw
      have n1 : wr.heap.size ≠ b1 := by have := hmS.lt; omega
      have n2 : wr.heap.size ≠ b2 := by have := hmI.lt; omega
      clear hx0 hxi hp1 hp2 hp3 hp4 hkb HT1 HT2 HT3 HT4 hrr hxr hbw hg
      cases p1 with
      | false =>
        have HE : Hid (errM f m = some (x.at_, 4)) := Lib.hid (firstOf_at HER.out HX0.out (fdErr_form (f := f) HFM.out))
        go_wp2_with (go_at_call 49; refine (HQ1.out _ (hmS.alloc _)).mono ?_; rintro e w8 ⟨rfl, hm8, hg8⟩; have hbw8 := (below_lit HBW.out _).grown hg8 (by have := HBW.out.size; simp; omega) (fun j hj => by injection hj with hj; omega); have hx8 := box_kept (heap_alloc_new wr _) hg8 n1; have hr8 := box_kept (((below_new wr _).block _ (Array.getElem?_eq_some_iff.1 HRR.out).1).trans HRR.out) hg8 (by omega); have hy8 := box_kept (((below_new wr _).block _ (Array.getElem?_eq_some_iff.1 HXR.out).1).trans HXR.out) hg8 (by omega))
        have d6 := heap_cell hx8 6
        have r0 := heap_cell hr8 0
        have r1 := heap_cell hr8 1
        simp at d6 r0 r1
        have f0 := heap_free hr8 0
        have f1 := heap_free hr8 1
        have hne : w.heap.size + 1 ≠ wr.heap.size := by omega
        have hne2 : wr.heap.size ≠ w.heap.size + 1 := by omega
        go_region
        go_wp2
        refine bodyPost_ret (results_md2 rfl _ _ (w.heap.size + 1) _ _ _ (0, 0) rfl (set2 hr8 _ _)) rfl ?_
        exact ⟨.slice none 0 0, by rw [HE.out, msgR_bad HE.out]; rfl, by rw [msgR_bad HE.out]; exact World.ownsRow_nil _ _ _ _, below_set2 hbw8 (by omega) _ _⟩
      | true =>
        cases p2 with
        | false =>
          have HE : Hid (errM f m = some (x.at_, 4)) := Lib.hid (firstOf_at HER.out HX0.out (fdErr_form (f := f) HFM.out))
          go_wp2_with (first
            | (go_at_call 49; refine (HQ1.out _ (hmS.alloc _)).mono ?_; rintro e w8 ⟨rfl, hm8, hg8⟩; have hbw8 := (below_lit HBW.out _).grown hg8 (by have := HBW.out.size; simp; omega) (fun j hj => by injection hj with hj; omega); have hx8 := box_kept (heap_alloc_new wr _) hg8 n1; have hr8 := box_kept (((below_new wr _).block _ (Array.getElem?_eq_some_iff.1 HRR.out).1).trans HRR.out) hg8 (by omega); have hy8 := box_kept (((below_new wr _).block _ (Array.getElem?_eq_some_iff.1 HXR.out).1).trans HXR.out) hg8 (by omega); have d5 := heap_cell hx8 5; simp at d5)
            | (go_at_call 77; refine (HQ2.out _ ((hmI.alloc _).kept hg8 (by simp; omega))).mono ?_; rintro e w9 ⟨rfl, hm9, hg9⟩; have hbw9 := hbw8.grown hg9 hbw8.size (fun j hj => by injection hj with hj; omega); have hx9 := box_kept hx8 hg9 n2; have hr9 := box_kept hr8 hg9 (by omega); have hy9 := box_kept hy8 hg9 (by omega)))
          have d6 := heap_cell hx9 6
          have r0 := heap_cell hr9 0
          have r1 := heap_cell hr9 1
          simp at d6 r0 r1
          have f0 := heap_free hr9 0
          have f1 := heap_free hr9 1
          have hne : w.heap.size + 1 ≠ wr.heap.size := by omega
          have hne2 : wr.heap.size ≠ w.heap.size + 1 := by omega
          go_region
          go_wp2
          refine bodyPost_ret (results_md2 rfl _ _ (w.heap.size + 1) _ _ _ (0, 0) rfl (set2 hr9 _ _)) rfl ?_
          exact ⟨.slice none 0 0, by rw [HE.out, msgR_bad HE.out]; rfl, by rw [msgR_bad HE.out]; exact World.ownsRow_nil _ _ _ _, below_set2 hbw9 (by omega) _ _⟩
        | true =>
          cases p3 with
          | false =>
            have HE : Hid (errM f m = some (x.at_, 4)) := Lib.hid (firstOf_at HER.out HX0.out (fdErr_form (f := f) HFM.out))
            go_wp2_with (first
              | (go_at_call 49; refine (HQ1.out _ (hmS.alloc _)).mono ?_; rintro e w8 ⟨rfl, hm8, hg8⟩; have hbw8 := (below_lit HBW.out _).grown hg8 (by have := HBW.out.size; simp; omega) (fun j hj => by injection hj with hj; omega); have hx8 := box_kept (heap_alloc_new wr _) hg8 n1; have hr8 := box_kept (((below_new wr _).block _ (Array.getElem?_eq_some_iff.1 HRR.out).1).trans HRR.out) hg8 (by omega); have hy8 := box_kept (((below_new wr _).block _ (Array.getElem?_eq_some_iff.1 HXR.out).1).trans HXR.out) hg8 (by omega); have d5 := heap_cell hx8 5; simp at d5)
              | (go_at_call 77; refine (HQ2.out _ ((hmI.alloc _).kept hg8 (by simp; omega))).mono ?_; rintro e w9 ⟨rfl, hm9, hg9⟩; have hbw9 := hbw8.grown hg9 hbw8.size (fun j hj => by injection hj with hj; omega); have hx9 := box_kept hx8 hg9 n2; have hr9 := box_kept hr8 hg9 (by omega); have hy9 := box_kept hy8 hg9 (by omega); have e5 := heap_cell hx9 5; simp at e5)
              | (go_at_call 78; refine (HQ3.out _).mono ?_; rintro e w9' ⟨rfl, rfl⟩))
            have d6 := heap_cell hx9 6
            have r0 := heap_cell hr9 0
            have r1 := heap_cell hr9 1
            simp at d6 r0 r1
            have f0 := heap_free hr9 0
            have f1 := heap_free hr9 1
            have hne : w.heap.size + 1 ≠ wr.heap.size := by omega
            have hne2 : wr.heap.size ≠ w.heap.size + 1 := by omega
            go_region
            go_wp2
            refine bodyPost_ret (results_md2 rfl _ _ (w.heap.size + 1) _ _ _ (0, 0) rfl (set2 hr9 _ _)) rfl ?_
            exact ⟨.slice none 0 0, by rw [HE.out, msgR_bad HE.out]; rfl, by rw [msgR_bad HE.out]; exact World.ownsRow_nil _ _ _ _, below_set2 hbw9 (by omega) _ _⟩
          | true =>
            cases p4 with
            | false =>
              have HE : Hid (errM f m = some (x.at_, 4)) := Lib.hid (firstOf_at HER.out HX0.out (fdErr_form (f := f) HFM.out))
              go_wp2_with (first
                | (go_at_call 49; refine (HQ1.out _ (hmS.alloc _)).mono ?_; rintro e w8 ⟨rfl, hm8, hg8⟩; have hbw8 := (below_lit HBW.out _).grown hg8 (by have := HBW.out.size; simp; omega) (fun j hj => by injection hj with hj; omega); have hx8 := box_kept (heap_alloc_new wr _) hg8 n1; have hr8 := box_kept (((below_new wr _).block _ (Array.getElem?_eq_some_iff.1 HRR.out).1).trans HRR.out) hg8 (by omega); have hy8 := box_kept (((below_new wr _).block _ (Array.getElem?_eq_some_iff.1 HXR.out).1).trans HXR.out) hg8 (by omega); have d5 := heap_cell hx8 5; simp at d5)
                | (go_at_call 77; refine (HQ2.out _ ((hmI.alloc _).kept hg8 (by simp; omega))).mono ?_; rintro e w9 ⟨rfl, hm9, hg9⟩; have hbw9 := hbw8.grown hg9 hbw8.size (fun j hj => by injection hj with hj; omega); have hx9 := box_kept hx8 hg9 n2; have hr9 := box_kept hr8 hg9 (by omega); have hy9 := box_kept hy8 hg9 (by omega); have e1 := heap_cell hx9 1; have e2 := heap_cell hx9 2; have e3 := heap_cell hx9 3; have e5 := heap_cell hx9 5; simp at e1 e2 e3 e5; have g2 := heap_cell hy9 2; simp at g2)
                | (go_at_call 78; refine (HQ3.out _).mono ?_; rintro e w9' ⟨rfl, rfl⟩)
                | (go_at_call 79; refine (HQ4.out _ (HT.out.on hbw9)).mono ?_; rintro e w10 ⟨rfl, hb10⟩; have hbw10 := below_then hbw9 hb10; have hx10 := (hb10.block _ (Array.getElem?_eq_some_iff.1 hx9).1).trans hx9; have hr10 := (hb10.block _ (Array.getElem?_eq_some_iff.1 hr9).1).trans hr9))
              have d6 := heap_cell hx10 6
              have r0 := heap_cell hr10 0
              have r1 := heap_cell hr10 1
              simp at d6 r0 r1
              have f0 := heap_free hr10 0
              have f1 := heap_free hr10 1
              have hne : w.heap.size + 1 ≠ wr.heap.size := by omega
              have hne2 : wr.heap.size ≠ w.heap.size + 1 := by omega
              go_region
              go_wp2
              refine bodyPost_ret (results_md2 rfl _ _ (w.heap.size + 1) _ _ _ (0, 0) rfl (set2 hr10 _ _)) rfl ?_
              exact ⟨.slice none 0 0, by rw [HE.out, msgR_bad HE.out]; rfl, by rw [msgR_bad HE.out]; exact World.ownsRow_nil _ _ _ _, below_set2 hbw10 (by omega) _ _⟩
            | true =>
              have HQ5 := fun wx hm hT => field_anyT b n f x HXI.out wx hm hT
              have HF0 := fieldR_zero (f := f) (x := x)
              have HE0 := fdErr_field (f := f) HFM.out
              rcases hq : fieldR f x with ⟨d, er⟩
              rw [hq] at HF0 HE0
              simp only [hq, DC] at HQ5
              have HQF := Lib.hid HQ5
              clear HQ5 hq
              by_cases her : er = 0
              · subst her
                have HDD := Lib.hid (HF0 rfl)
                have HEN : Hid (fdErr f m k x = none) := Lib.hid HE0
                clear HF0 HE0
                go_wp2_with (first
                  | (go_at_call 49; refine (HQ1.out _ (hmS.alloc _)).mono ?_; rintro e w8 ⟨rfl, hm8, hg8⟩; have hbw8 := (below_lit HBW.out _).grown hg8 (by have := HBW.out.size; simp; omega) (fun j hj => by injection hj with hj; omega); have hx8 := box_kept (heap_alloc_new wr _) hg8 n1; have hr8 := box_kept (((below_new wr _).block _ (Array.getElem?_eq_some_iff.1 HRR.out).1).trans HRR.out) hg8 (by omega); have hy8 := box_kept (((below_new wr _).block _ (Array.getElem?_eq_some_iff.1 HXR.out).1).trans HXR.out) hg8 (by omega); have d5 := heap_cell hx8 5; simp at d5)
                  | (go_at_call 77; refine (HQ2.out _ ((hmI.alloc _).kept hg8 (by simp; omega))).mono ?_; rintro e w9 ⟨rfl, hm9, hg9⟩; have hbw9 := hbw8.grown hg9 hbw8.size (fun j hj => by injection hj with hj; omega); have hx9 := box_kept hx8 hg9 n2; have hr9 := box_kept hr8 hg9 (by omega); have hy9 := box_kept hy8 hg9 (by omega); have e1 := heap_cell hx9 1; have e2 := heap_cell hx9 2; have e3 := heap_cell hx9 3; have e5 := heap_cell hx9 5; simp at e1 e2 e3 e5; have g2 := heap_cell hy9 2; simp at g2)
                  | (go_at_call 78; refine (HQ3.out _).mono ?_; rintro e w9' ⟨rfl, rfl⟩)
                  | (go_at_call 79; refine (HQ4.out _ (HT.out.on hbw9)).mono ?_; rintro e w10 ⟨rfl, hb10⟩; have hbw10 := below_then hbw9 hb10; have hx10 := (hb10.block _ (Array.getElem?_eq_some_iff.1 hx9).1).trans hx9; have hr10 := (hb10.block _ (Array.getElem?_eq_some_iff.1 hr9).1).trans hr9; have h0 := heap_cell hx10 0; have h1 := heap_cell hx10 1; have h2 := heap_cell hx10 2; have h3 := heap_cell hx10 3; have h4 := heap_cell hx10 4; have h5 := heap_cell hx10 5; have h6 := heap_cell hx10 6; simp at h0 h1 h2 h3 h4 h5 h6))
                refine (HQF.out _ (HMN.out.on hbw10) (HT.out.on hbw10)).mono ?_
                rintro e w11 ⟨rfl, hb11⟩
                have z8 := hg8.size
                rw [World.size_alloc] at z8
                have z9 := hg9.size
                have z10 := hb10.size
                have z11 := hb11.size
                have hD11 := (hb11.block D (by omega)).trans ((hb10.block D (by omega)).trans (box_kept (box_kept (((below_new wr _).block D (by omega)).trans hD) hg8 (by omega)) hg9 (by omega)))
                have hl11 : D < w11.heap.size := by omega
                have g11 := heap_cell hD11 1
                simp at g11
                have ho9 := ((hown.alloc _).kept hg8 (.inr (fun e => by have := own_ge hown b1 e; omega))).kept hg9 (.inr (fun e => by have := own_ge hown b2 e; omega))
                have ho11 := own_below (own_below ho9 hb10) hb11
                go_wp2_with (at_builtin; refine wpList_app_sl rfl _ _ 54 rfl (D + 1) 39 i0 _ 7 64 Tryz.underlying54 hi hz0 hz1 hz2 rfl (by decide) dv k _ rfl ((ho11.alloc _).alloc _) _ 1 1 (DC d) rfl (lit_df2 _ _ d) (DC_one d) (by unfold maxLen; omega) (by omega) (by simp; omega) ?_; intro v14 w14 ho14 hg14; obtain ⟨A14, c14, rfl, -⟩ := Sl.of_own ho14; have z14 := hg14.size; rw [World.size_alloc, World.size_alloc] at z14; have hD14 := (hg14.block D (by simp; omega) (fun e => by have := own_ge hown D e.symm; omega)).trans (((below_new _ _).block D (by simp; omega)).trans (((below_new _ _).block D hl11).trans hD11)); have g14 := heap_cell hD14 1; have f14 := heap_free hD14 1; simp at g14)
                have hS14 := (((((((hm8.kept hg9 (by simp; omega)).on hb10).on hb11).alloc _).alloc _).kept hg14 (fun e => by have := own_ge hown b1 e.symm; omega)).kept (grown_set w14 D 1 (.slice A14 (k + 1) c14)) (by simp; omega)).eq (still_next (l := nmF m) (bar := m.ones) (k := k) (y := x.name) (by simp [nmF, HX0.out]))
                have hI14 := ((((((hm9.on hb10).on hb11).alloc _).alloc _).kept hg14 (fun e => by have := own_ge hown b2 e.symm; omega)).kept (grown_set w14 D 1 (.slice A14 (k + 1) c14)) (by simp; omega)).eq (still_next (l := noF m) (bar := m.res) (k := k) (y := x.no) (by simp [noF, HX0.out]))
                have hD15 := heap_setCell_same hD14 (j := 1) (.slice A14 (k + 1) c14)
                have hrow := own_set ho14 (a := ⟨D, 1, none⟩) (by simp) (.slice A14 (k + 1) c14)
                have hlist : dfv ((m.F.take k).map (defF f)) ++ DC d = dfv ((m.F.take (k + 1)).map (defF f)) := by
                  rw [List.take_add_one, HX0.out, HDD.out]; simp [dfv]
                rw [hlist] at hrow
                refine ⟨⟨k + 1, (.slice A14 (k + 1) c14), by go_num, by omega, fun j y hj hy => ?_, hS14, hI14, by simpa using hD15, hrow, ?_⟩, by simp [intOf]; omega⟩
                · by_cases hj2 : j < k
                  · exact HER.out j y hj2 hy
                  · obtain rfl : j = k := by omega
                    rw [HX0.out] at hy
                    obtain rfl := Option.some.inj hy
                    exact HEN.out
                · exact ((((((((hb.alloc (by omega) _).grown hg8 (by simp; omega) (fun j hj => by injection hj with hj; omega)).grown hg9 (by omega) (fun j hj => by injection hj with hj; omega)).trans (hb10.mono (by omega))).trans (hb11.mono (by omega))).alloc (by omega) _).alloc (by simp; omega) _).grown hg14 (by simp; omega) (fun j hj => by have := own_ge hown j hj; omega)).grown (grown_set w14 D 1 (.slice A14 (k + 1) c14)) (by omega) (fun j hj => by injection hj with hj; omega)
              · have HE : Hid (errM f m = some (x.at_, er)) := Lib.hid (firstOf_at HER.out HX0.out (by rw [HE0, if_neg her]))
                have hen : ((er : Int) != 0) = true := by rw [bne_iff_ne]; omega
                clear HF0 HE0 her
                go_wp2_with (first
                  | (go_at_call 49; refine (HQ1.out _ (hmS.alloc _)).mono ?_; rintro e w8 ⟨rfl, hm8, hg8⟩; have hbw8 := (below_lit HBW.out _).grown hg8 (by have := HBW.out.size; simp; omega) (fun j hj => by injection hj with hj; omega); have hx8 := box_kept (heap_alloc_new wr _) hg8 n1; have hr8 := box_kept (((below_new wr _).block _ (Array.getElem?_eq_some_iff.1 HRR.out).1).trans HRR.out) hg8 (by omega); have hy8 := box_kept (((below_new wr _).block _ (Array.getElem?_eq_some_iff.1 HXR.out).1).trans HXR.out) hg8 (by omega); have d5 := heap_cell hx8 5; simp at d5)
                  | (go_at_call 77; refine (HQ2.out _ ((hmI.alloc _).kept hg8 (by simp; omega))).mono ?_; rintro e w9 ⟨rfl, hm9, hg9⟩; have hbw9 := hbw8.grown hg9 hbw8.size (fun j hj => by injection hj with hj; omega); have hx9 := box_kept hx8 hg9 n2; have hr9 := box_kept hr8 hg9 (by omega); have hy9 := box_kept hy8 hg9 (by omega); have e1 := heap_cell hx9 1; have e2 := heap_cell hx9 2; have e3 := heap_cell hx9 3; have e5 := heap_cell hx9 5; simp at e1 e2 e3 e5; have g2 := heap_cell hy9 2; simp at g2)
                  | (go_at_call 78; refine (HQ3.out _).mono ?_; rintro e w9' ⟨rfl, rfl⟩)
                  | (go_at_call 79; refine (HQ4.out _ (HT.out.on hbw9)).mono ?_; rintro e w10 ⟨rfl, hb10⟩; have hbw10 := below_then hbw9 hb10; have hx10 := (hb10.block _ (Array.getElem?_eq_some_iff.1 hx9).1).trans hx9; have hr10 := (hb10.block _ (Array.getElem?_eq_some_iff.1 hr9).1).trans hr9; have h0 := heap_cell hx10 0; have h1 := heap_cell hx10 1; have h2 := heap_cell hx10 2; have h3 := heap_cell hx10 3; have h4 := heap_cell hx10 4; have h5 := heap_cell hx10 5; have h6 := heap_cell hx10 6; simp at h0 h1 h2 h3 h4 h5 h6))
                refine (HQF.out _ (HMN.out.on hbw10) (HT.out.on hbw10)).mono ?_
                rintro e w11 ⟨rfl, hb11⟩
                have hbw12 := below_lit (below_then hbw10 hb11) (.cells #[.int .i64 d.no, .string (txt d.name), .int .i64 d.kind, .int .i64 d.ref, .bool d.rep, .int .i64 d.key, .int .i64 d.one] 39)
                have hx12 := ((below_new w11 (.cells #[.int .i64 d.no, .string (txt d.name), .int .i64 d.kind, .int .i64 d.ref, .bool d.rep, .int .i64 d.key, .int .i64 d.one] 39)).block _ (Nat.lt_of_lt_of_le (Array.getElem?_eq_some_iff.1 hx10).1 hb11.size)).trans ((hb11.block _ (Array.getElem?_eq_some_iff.1 hx10).1).trans hx10)
                have hr12 := ((below_new w11 (.cells #[.int .i64 d.no, .string (txt d.name), .int .i64 d.kind, .int .i64 d.ref, .bool d.rep, .int .i64 d.key, .int .i64 d.one] 39)).block _ (Nat.lt_of_lt_of_le (Array.getElem?_eq_some_iff.1 hr10).1 hb11.size)).trans ((hb11.block _ (Array.getElem?_eq_some_iff.1 hr10).1).trans hr10)
                go_wp2_with fail
                generalize w11.alloc (.cells #[.int .i64 d.no, .string (txt d.name), .int .i64 d.kind, .int .i64 d.ref, .bool d.rep, .int .i64 d.key, .int .i64 d.one] 39) = w12 at *
                have d6 := heap_cell hx12 6
                have r0 := heap_cell hr12 0
                have r1 := heap_cell hr12 1
                simp at d6 r0 r1
                have f0 := heap_free hr12 0
                have f1 := heap_free hr12 1
                have hne : w.heap.size + 1 ≠ wr.heap.size := by omega
                have hne2 : wr.heap.size ≠ w.heap.size + 1 := by omega
                go_region
                go_wp2
                refine bodyPost_ret (results_md2 rfl _ _ (w.heap.size + 1) _ _ _ (0, 0) rfl (set2 hr12 _ _)) rfl ?_
                exact ⟨.slice none 0 0, by rw [HE.out, msgR_bad HE.out]; rfl, by rw [msgR_bad HE.out]; exact World.ownsRow_nil _ _ _ _, below_set2 hbw12 (by omega) _ _⟩
    · obtain rfl : k = m.F.length := by omega
      rw [List.take_length] at hown
      have hnone : errM f m = none := firstOf_none.2 (fun j y hy => HER.out j y (List.getElem?_eq_some_iff.1 hy).1 hy)
      have hdist : (m.F.map (defF f)).Pairwise fun a b => a.no ≠ b.no := by
        rw [List.pairwise_map]
        exact (errM_none.1 hnone).1.imp fun {a b} hab => hab.2
      have hml : (m.F.map (defF f)).length = m.F.length := by simp
      obtain ⟨Ad, cd, rfl, -⟩ := Sl.of_own hown
      have HSO := Lib.hid (sort_any (D + 1) (.slice Ad m.F.length cd) (m.F.map (defF f)) wr (by rw [hml]; exact hown) hdist (by rw [hml]; omega))
      have gD := heap_cell hD 1
      simp at gD
      go_wp2_with (first
        | (go_at_call 81; refine HSO.out.mono ?_; rintro e w9 ⟨rfl, hos, hgs⟩; have hDs := (hgs.block D (by omega) (fun e => by have := own_ge hown D e.symm; omega)).trans hD; have hrs := (hgs.block (w.heap.size + 1) (by omega) (fun e => by have := own_ge hown _ e.symm; omega)).trans hrr)
        | (refine wpList_load_md rfl _ rfl D _ _ rfl _ _ hDs ?_)
        | (refine wpList_store_md rfl _ _ rfl rfl (w.heap.size + 1) _ _ _ _ rfl rfl rfl rfl _ hrs ?_))
      refine bodyPost_ret (results_md2 rfl _ _ (w.heap.size + 1) _ _ _ (0, 0) rfl (setRow_heap _ _ _ _ _ _ hrs)) rfl ?_
      have hms : msgR f m = msgD f m := by unfold msgR; rw [hnone]; rfl
      have hgr : w9.grownBy (w9.setRow (w.heap.size + 1) #[.string (txt m.name), .slice Ad m.F.length cd]) (some (w.heap.size + 1)) := ⟨rfl, rfl, rfl, by simp, fun k _ hk => setRow_other _ _ _ _ (by simpa using hk)⟩
      have hos2 := own_mono (hos.kept hgr (.inr (fun e => by have := own_ge hown _ e; omega))) (show w.heap.size ≤ D + 1 by omega)
      refine ⟨.slice Ad m.F.length cd, by rw [hms, hnone]; rfl, ?_, (hbw.grown hgs (by have := hbw.size; omega) (fun j hj => by have := own_ge hown j hj; omega)).grown hgr (by have := hgs.size; have := hbw.size; omega) (fun j hj => by injection hj with hj; omega)⟩
      rw [hms]
      have hls : (msgD f m).F.length = (m.F.map (defF f)).length := (sortF_perm _).length_eq
      rw [hls]
      exact hos2
end Go.Proofs.YtciiemomfniecaaGreatDoor
/-
  The first name, or number, of an enum that is wrong: the contract.
-/
namespace Go.Proofs.YtciiemomfniecaaGreatDoor
set_option maxRecDepth 100000

open Go.RowKit Go.Maps

theorem wrongB_code {V : List (List UInt8)} {N : List Int} {k : Nat} {x : List UInt8} {n : Int} (hx : V[k]? = some x) (hn : N[k]? = some n) :
    wrongB V N k x n = (!still V [] k x || !still N [] k n || !(decide (-2147483648 ≤ n) && decide (n ≤ 2147483647)) || (k == 0 && n != 0)) := by
  rw [still_self hx, still_self hn]
  unfold wrongB
  simp
theorem still_none {α : Type} [BEq α] [LawfulBEq α] (l : List α) : (fun y => l.contains y) = still l [] 0 := by funext y; simp [still]
set_option maxRecDepth 1000000 in
set_option maxHeartbeats 4000000 in
theorem wrong_any (B : Nat) (vN vI : Value) (V : List (List UInt8)) (N : List Int) (w : World) (hB : B ≤ w.heap.size) (hN : Rb B w vN V.length 1 (strv V)) (hI : Rb B w vI N.length 1 (intv N)) (hlen : V.length = N.length) (hl : N.length ≤ 100000) (hV : ∀ x ∈ V, x.length ≤ maxLen) (hNi : ∀ n ∈ N, inr n) :
    Calls Tryz.prog 88 #[vN, vI] w fun e w' => ∃ r : Nat, e = .returned (.int .i64 r) ∧ r ≤ N.length ∧ (∀ (k : Nat) x n, k < r → V[k]? = some x → N[k]? = some n → wrongB V N k x n = false) ∧ (∀ x n, V[r]? = some x → N[r]? = some n → wrongB V N r x n = true) ∧ Below w.heap.size w w' := by
  have HF1 := Lib.hid (free1S vN V w (hN.mono hB) (by omega) hV)
  have HF2 := Lib.hid (fun wx (hx : Below w.heap.size w wx) => free1I vI N wx ((hI.low (Low.below hx hB)).mono (Nat.le_trans hB hx.size)) (by omega) hNi)
  obtain ⟨A1, c1, rfl, s1, a1⟩ := hN
  obtain ⟨A2, c2, rfl, s2, a2⟩ := hI
  have HS1 := Lib.hid s1
  have HS2 := Lib.hid s2
  have HV := Lib.hid hV
  have HN := Lib.hid hNi
  have HL := Lib.hid hlen
  clear s1 s2 hV hNi hlen
  go_enter Tryz.func88, Tryz.ntmps88
  go_wp2_with (first
    | (go_at_call 69; refine HF1.out.mono ?_; rintro e w2 ⟨rfl, hm2, hb2⟩; replace hm2 := hm2.eq (still_none V); have hz2 := hm2.lt)
    | (go_at_call 73; refine (HF2.out _ hb2).mono ?_; rintro e w3 ⟨rfl, hm3, hb3⟩; replace hm3 := hm3.eq (still_none N); have hn3 := hm2.on hb3; have hz3 := hm3.lt; have hbw3 := below_then hb2 hb3))
  obtain ⟨b1, hb1e⟩ : ∃ b1, w.heap.size + 1 = b1 := ⟨_, rfl⟩
  obtain ⟨b2, hb2e⟩ : ∃ b2, w2.heap.size + 1 = b2 := ⟨_, rfl⟩
  simp only [hb1e, hb2e] at hn3 hm3 hz2 hz3 ⊢
  have l1 : w.heap.size < b1 := by omega
  have l2 : b1 < b2 := by omega
  clear hm2 hb2 hb3 HF1 HF2
  go_loopw [17] (fun i wr => ∃ k : Nat, i = .int .i64 k ∧ k ≤ N.length ∧ (∀ (j : Nat) x n, j < k → V[j]? = some x → N[j]? = some n → wrongB V N j x n = false) ∧ FreeS wr b1 V.length (still V [] k) ∧ FreeI wr b2 N.length (still N [] k) ∧ Below w.heap.size w wr) (fun i _ => N.length - (intOf i).toNat)
  case atStart => exact ⟨0, rfl, by omega, fun j x n hj => by omega, hn3, hm3, hbw3⟩
  case round =>
    obtain ⟨k, rfl, hk, herr, hmS, hmI, hb⟩ := hrel
    have HER := Lib.hid herr
    clear herr
    by_cases hlt : k < N.length
    · have hlt2 : k < V.length := by rw [HL.out]; exact hlt
      obtain ⟨n, hn0⟩ : ∃ n, N[k]? = some n := ⟨_, List.getElem?_eq_getElem hlt⟩
      obtain ⟨x, hx0⟩ : ∃ x, V[k]? = some x := ⟨_, List.getElem?_eq_getElem hlt2⟩
      obtain ⟨ad, rfl, hg, c0⟩ := intr_at (HS2.out.low a2 (Low.below hb hB)) hn0
      obtain ⟨ad', rfl, hg', c0'⟩ := strr_at (HS1.out.low a1 (Low.below hb hB)) hx0
      have hxl := HV.out x (List.mem_of_getElem? hx0)
      have hnl := HN.out n (List.mem_of_getElem? hn0)
      obtain ⟨p1, hp1⟩ : ∃ p, still V [] k x = p := ⟨_, rfl⟩
      obtain ⟨p2, hp2⟩ : ∃ p, still N [] k n = p := ⟨_, rfl⟩
      obtain ⟨p3, hp3⟩ : ∃ p, (decide (-2147483648 ≤ n) && decide (n ≤ 2147483647)) = p := ⟨_, rfl⟩
      have HW := Lib.hid (wrongB_code hx0 hn0)
      have HT1 := fun wx hx => takeS_any b1 V.length (still V [] k) x hxl wx hx
      have HT2 := fun wx hx => takeI_any b2 N.length (still N [] k) n hnl wx hx
      have HT3 := fun wx => isEnums_any n wx
      simp only [hp1] at HT1
      simp only [hp2] at HT2
      simp only [hp3] at HT3
      rw [hp1, hp2, hp3] at HW
      have HQ1 := Lib.hid HT1
      have HQ2 := Lib.hid HT2
      have HQ3 := Lib.hid HT3
      have HX0 := Lib.hid hx0
      have HN0 := Lib.hid hn0
      have HB := Lib.hid hb
      have fin : ∀ (w' : World), wrongB V N k x n = true → Below w.heap.size w w' → ∃ r : Nat, Ending.returned (.int .i64 ((k : Nat) : Int)) = .returned (.int .i64 r) ∧ r ≤ N.length ∧ (∀ (k : Nat) x n, k < r → V[k]? = some x → N[k]? = some n → wrongB V N k x n = false) ∧ (∀ x n, V[r]? = some x → N[r]? = some n → wrongB V N r x n = true) ∧ Below w.heap.size w w' := by
        intro w' hwr hbw
        refine ⟨k, rfl, by omega, HER.out, fun y q hy hq => ?_, hbw⟩
        rw [HX0.out] at hy
        rw [HN0.out] at hq
        obtain rfl := Option.some.inj hy
        obtain rfl := Option.some.inj hq
        exact hwr
      have FIN := Lib.hid fin
      clear hx0 hn0 hp1 hp2 hp3 HT1 HT2 HT3 hg hg' fin hxl hnl
      cases p1 with
      | false =>
        go_wp2_with (go_at_call 49; refine (HQ1.out _ hmS).mono ?_; rintro e w8 ⟨rfl, hm8, hg8⟩)
        go_ret
        exact FIN.out _ (by rw [HW.out]; rfl) (HB.out.grown hg8 HB.out.size (fun j hj => by injection hj with hj; omega))
      | true =>
        cases p2 with
        | false =>
          go_wp2_with (first
            | (go_at_call 49; refine (HQ1.out _ hmS).mono ?_; rintro e w8 ⟨rfl, hm8, hg8⟩; have hbw8 := HB.out.grown hg8 HB.out.size (fun j hj => by injection hj with hj; omega))
            | (go_at_call 77; refine (HQ2.out _ (hmI.kept hg8 (by simp; omega))).mono ?_; rintro e w9 ⟨rfl, hm9, hg9⟩))
          go_ret
          exact FIN.out _ (by rw [HW.out]; rfl) (hbw8.grown hg9 hbw8.size (fun j hj => by injection hj with hj; omega))
        | true =>
          cases p3 with
          | false =>
            go_wp2_with (first
              | (go_at_call 49; refine (HQ1.out _ hmS).mono ?_; rintro e w8 ⟨rfl, hm8, hg8⟩; have hbw8 := HB.out.grown hg8 HB.out.size (fun j hj => by injection hj with hj; omega))
              | (go_at_call 77; refine (HQ2.out _ (hmI.kept hg8 (by simp; omega))).mono ?_; rintro e w9 ⟨rfl, hm9, hg9⟩)
              | (go_at_call 122; refine (HQ3.out _).mono ?_; rintro e w9' ⟨rfl, rfl⟩))
            go_ret
            exact FIN.out _ (by rw [HW.out]; rfl) (hbw8.grown hg9 hbw8.size (fun j hj => by injection hj with hj; omega))
          | true =>
            by_cases hz : k = 0 ∧ n ≠ 0
            · have hk0 : ((k : Int) == 0) = true := by simp [hz.1]
              have hn1 : (n != 0) = true := by simp [hz.2]
              have HWW : Hid (wrongB V N k x n = true) := Lib.hid (by rw [HW.out]; simp [hz.1, hz.2])
              clear hz
              go_wp2_with (first
                | (go_at_call 49; refine (HQ1.out _ hmS).mono ?_; rintro e w8 ⟨rfl, hm8, hg8⟩; have hbw8 := HB.out.grown hg8 HB.out.size (fun j hj => by injection hj with hj; omega))
                | (go_at_call 77; refine (HQ2.out _ (hmI.kept hg8 (by simp; omega))).mono ?_; rintro e w9 ⟨rfl, hm9, hg9⟩)
                | (go_at_call 122; refine (HQ3.out _).mono ?_; rintro e w9' ⟨rfl, rfl⟩))
              go_ret
              exact FIN.out _ HWW.out (hbw8.grown hg9 hbw8.size (fun j hj => by injection hj with hj; omega))
            · have HWW : Hid (wrongB V N k x n = false) := Lib.hid (by
                rw [HW.out]
                by_cases h1 : k = 0
                · have : n = 0 := Classical.byContradiction fun h2 => hz ⟨h1, h2⟩
                  simp [this]
                · simp [h1])
              obtain ⟨a1', ha1⟩ : ∃ a, ((k : Int) == 0) = a := ⟨_, rfl⟩
              obtain ⟨a2', ha2⟩ : ∃ a, (n != 0) = a := ⟨_, rfl⟩
              have HZ : Hid ((a1' && a2') = false) := Lib.hid (by
                rw [← ha1, ← ha2]
                by_cases h1 : k = 0
                · have : n = 0 := Classical.byContradiction fun h2 => hz ⟨h1, h2⟩
                  simp [this]
                · have : ((k : Int) == 0) = false := by simp; omega
                  simp [this])
              clear hz
              have next : ∀ w8 w9, FreeS w8 b1 V.length (fun y => still V [] k y && decide (y ≠ x)) → wr.grownBy w8 (some b1) → FreeI w9 b2 N.length (fun y => still N [] k y && decide (y ≠ n)) → w8.grownBy w9 (some b2) →
                  (∀ (j : Nat) x n, j < k + 1 → V[j]? = some x → N[j]? = some n → wrongB V N j x n = false) ∧ FreeS w9 b1 V.length (still V [] (k + 1)) ∧ FreeI w9 b2 N.length (still N [] (k + 1)) ∧ Below w.heap.size w w9 := by
                intro w8 w9 hm8 hg8 hm9 hg9
                have hbw8 := HB.out.grown hg8 HB.out.size (fun j hj => by injection hj with hj; omega)
                refine ⟨fun j y q hj hy hq => ?_, (hm8.kept hg9 (by simp; omega)).eq (still_next HX0.out), hm9.eq (still_next HN0.out), hbw8.grown hg9 hbw8.size (fun j hj => by injection hj with hj; omega)⟩
                by_cases hj2 : j < k
                · exact HER.out j y q hj2 hy hq
                · obtain rfl : j = k := by omega
                  rw [HX0.out] at hy
                  rw [HN0.out] at hq
                  obtain rfl := Option.some.inj hy
                  obtain rfl := Option.some.inj hq
                  exact HWW.out
              have NX := Lib.hid next
              clear next
              cases a1' <;> cases a2'
              case true.true => exact absurd HZ.out (by simp)
              all_goals
                go_wp2_with (first
                  | (go_at_call 49; refine (HQ1.out _ hmS).mono ?_; rintro e w8 ⟨rfl, hm8, hg8⟩)
                  | (go_at_call 77; refine (HQ2.out _ (hmI.kept hg8 (by simp; omega))).mono ?_; rintro e w9 ⟨rfl, hm9, hg9⟩)
                  | (go_at_call 122; refine (HQ3.out _).mono ?_; rintro e w9' ⟨rfl, rfl⟩))
                obtain ⟨r1, r2, r3, r4⟩ := NX.out w8 w9 hm8 hg8 hm9 hg9
                exact ⟨⟨k + 1, by go_num, by omega, r1, r2, r3, r4⟩, by simp [intOf]; omega⟩
    · obtain rfl : k = N.length := by omega
      go_wp2
      go_ret
      refine ⟨N.length, rfl, Nat.le_refl _, HER.out, fun x n _ hn => ?_, hb⟩
      rw [List.getElem?_eq_none (Nat.le_refl _)] at hn
      cases hn
end Go.Proofs.YtciiemomfniecaaGreatDoor
/-
  An enum that is resolved: the contract.
-/
namespace Go.Proofs.YtciiemomfniecaaGreatDoor
set_option maxRecDepth 100000

open Go.RowKit Go.Maps

def enmR (e : En) : Ed := if (firstOf (vlErr e) e.V).isSome then ⟨[], [], []⟩ else enD e
theorem enmR_bad {e : En} {r : Int × Nat} (h : firstOf (vlErr e) e.V = some r) : enmR e = ⟨[], [], []⟩ := by unfold enmR; rw [h]; rfl
theorem infoEd : (Tryz.prog.info? 68).map (·.size) = some 3 := by kernel_rfl
theorem wpList_store_ed {ops : Array Oper} {rest : List Oper} {o : Oper} {a : Act} {w : World} {Q : Exit → Act → World → Prop} (hgd : o.guard = none) (x y : Operand) (ho : o.op = .store 68 x y)
    (hd : o.dst = none) (g : Nat) (v0 v1 v2 u0 u1 u2 : Value) (hx : a.eval x = .pointer (some ⟨g, 0, none⟩)) (hy : a.eval y = .agg #[v0, v1, v2]) (h0 : v0.oneCell' = true) (h1 : v1.oneCell' = true) (h2 : v2.oneCell' = true)
    (t : TypeId) (hg : w.heap[g]? = some (.cells #[u0, u1, u2] t (0, 0)))
    (h : wpList Tryz.prog ops Q rest a (w.setRow g #[v0, v1, v2])) : wpList Tryz.prog ops Q (o :: rest) a w :=
  wpList_store_rowTo hgd 68 x y ho hd g _ hx hy t _ hg infoEd rfl (by simp [h0, h1, h2]) h
theorem wpList_load_ed {ops : Array Oper} {rest : List Oper} {o : Oper} {a : Act} {w : World} {Q : Exit → Act → World → Prop} (hgd : o.guard = none) (x : Operand) (ho : o.op = .load 68 x)
    (g : Nat) (u0 u1 u2 : Value) (hx : a.eval x = .pointer (some ⟨g, 0, none⟩)) (t : TypeId) (fr : Nat × Nat) (hg : w.heap[g]? = some (.cells #[u0, u1, u2] t fr))
    (h : wpList Tryz.prog ops Q rest (a.put o.dst (.agg #[u0, u1, u2])) w) : wpList Tryz.prog ops Q (o :: rest) a w :=
  wpList_load_row hgd 68 x ho g hx t _ fr _ hg Tryz.underlying68 rfl infoEd h
theorem results_ed2 {fn : Func} {p u v : Tmp} (h : fn.results = #[.cell p 68, .tmp u, .tmp v]) (tmps : Array Value) (w : World) (g : Nat) (t : TypeId) (u0 u1 u2 : Value) (fr : Nat × Nat)
    (hp : tmps.getD p undef = .pointer (some ⟨g, 0, none⟩)) (hg : w.heap[g]? = some (.cells #[u0, u1, u2] t fr)) :
    (results fn tmps).run Tryz.prog w = .ok (.tuple #[.agg #[u0, u1, u2], tmps.getD u undef, tmps.getD v undef]) w :=
  results_row_tmp2 h tmps w g t _ fr _ hp hg Tryz.underlying68 rfl infoEd
theorem box3c {w : World} {g : Nat} {a b c : Value} {t : TypeId} (h : w.heap[g]? = some (.cells #[a, b, c] t (0, 0))) : w.heap[g]? = some (.cells #[a, b, c] t (0, 0)) ∧ w.cell? ⟨g, 0, none⟩ = some a ∧ w.cell? ⟨g, 1, none⟩ = some b ∧ w.cell? ⟨g, 2, none⟩ = some c :=
  ⟨h, by rw [heap_cell h 0]; rfl, by rw [heap_cell h 1]; rfl, by rw [heap_cell h 2]; rfl⟩
theorem box3c_below {w w' : World} {g : Nat} {a b c : Value} {t : TypeId} (hb : Below w.heap.size w w') (h : w.heap[g]? = some (.cells #[a, b, c] t (0, 0)) ∧ w.cell? ⟨g, 0, none⟩ = some a ∧ w.cell? ⟨g, 1, none⟩ = some b ∧ w.cell? ⟨g, 2, none⟩ = some c) : w'.heap[g]? = some (.cells #[a, b, c] t (0, 0)) ∧ w'.cell? ⟨g, 0, none⟩ = some a ∧ w'.cell? ⟨g, 1, none⟩ = some b ∧ w'.cell? ⟨g, 2, none⟩ = some c :=
  box3c ((hb.block g (Array.getElem?_eq_some_iff.1 h.1).1).trans h.1)
theorem box3c_cells {w : World} {g p : Nat} {a b c : Value} {t : TypeId} (u v x : Value) (hne : g ≠ p) (h : w.heap[g]? = some (.cells #[a, b, c] t (0, 0)) ∧ w.cell? ⟨g, 0, none⟩ = some a ∧ w.cell? ⟨g, 1, none⟩ = some b ∧ w.cell? ⟨g, 2, none⟩ = some c) :
    (((w.setCell ⟨p, 0, none⟩ u).setCell ⟨p, 1, none⟩ v).setCell ⟨p, 2, none⟩ x).heap[g]? = some (.cells #[a, b, c] t (0, 0)) ∧ (((w.setCell ⟨p, 0, none⟩ u).setCell ⟨p, 1, none⟩ v).setCell ⟨p, 2, none⟩ x).cell? ⟨g, 0, none⟩ = some a ∧ (((w.setCell ⟨p, 0, none⟩ u).setCell ⟨p, 1, none⟩ v).setCell ⟨p, 2, none⟩ x).cell? ⟨g, 1, none⟩ = some b ∧ (((w.setCell ⟨p, 0, none⟩ u).setCell ⟨p, 1, none⟩ v).setCell ⟨p, 2, none⟩ x).cell? ⟨g, 2, none⟩ = some c :=
  box3c (by rw [Below.heap_setCell _ _ _ _ hne, Below.heap_setCell _ _ _ _ hne, Below.heap_setCell _ _ _ _ hne]; exact h.1)
theorem zed {X w' : World} {cs : Array Value} {t : TypeId} (hb : Below (X.alloc (.cells cs t)).heap.size (X.alloc (.cells cs t)) w') : w'.heap[X.heap.size]? = some (.cells cs t (0, 0)) := (hb.block _ (by simp)).trans (heap_alloc_new X _)
theorem zedD {X w' : World} {cs : Array Value} {t : TypeId} (hb : Below ((X.alloc (.cells cs t)).drew).heap.size ((X.alloc (.cells cs t)).drew) w') : w'.heap[X.heap.size]? = some (.cells cs t (0, 0)) := (hb.block _ (by show _ < (X.alloc _).heap.size; simp)).trans (heap_alloc_new X _)
theorem zed_cells {w : World} {g : Nat} {t : TypeId} (h : w.heap[g]? = some (.cells #[.string ⟨#[]⟩, .slice none 0 0, .slice none 0 0] t (0, 0))) : w.cell? ⟨g, 0, none⟩ = some (.string ⟨#[]⟩) ∧ w.cell? ⟨g, 1, none⟩ = some (.slice none 0 0) ∧ w.cell? ⟨g, 2, none⟩ = some (.slice none 0 0) ∧ w.frozen? ⟨g, 0, none⟩ = false ∧ w.frozen? ⟨g, 1, none⟩ = false ∧ w.frozen? ⟨g, 2, none⟩ = false :=
  ⟨by rw [heap_cell h 0]; rfl, by rw [heap_cell h 1]; rfl, by rw [heap_cell h 2]; rfl, heap_free h 0, heap_free h 1, heap_free h 2⟩
theorem set3 {w : World} {g : Nat} {a b c : Value} {t : TypeId} (h : w.heap[g]? = some (.cells #[a, b, c] t (0, 0))) (u v x : Value) : ((((w.setCell ⟨g, 0, none⟩ u).setCell ⟨g, 1, none⟩ v).setCell ⟨g, 2, none⟩ x).drew).heap[g]? = some (.cells #[u, v, x] t (0, 0)) := by
  have h1 := heap_setCell_same h (j := 0) u
  have h2 := heap_setCell_same h1 (j := 1) v
  have h3 := heap_setCell_same h2 (j := 2) x
  show (((w.setCell ⟨g, 0, none⟩ u).setCell ⟨g, 1, none⟩ v).setCell ⟨g, 2, none⟩ x).heap[g]? = _
  simpa using h3
theorem below_set3 {w w' : World} {g : Nat} (h : Below w.heap.size w w') (hg : w.heap.size ≤ g) (u v x : Value) : Below w.heap.size w ((((w'.setCell ⟨g, 0, none⟩ u).setCell ⟨g, 1, none⟩ v).setCell ⟨g, 2, none⟩ x).drew) :=
  (((h.setCell hg u).setCell hg v).setCell hg x).trans (Below.refl _ _).drew
theorem heap_cells3 (w : World) {g p : Nat} (u v x : Value) (hne : g ≠ p) : (((w.setCell ⟨p, 0, none⟩ u).setCell ⟨p, 1, none⟩ v).setCell ⟨p, 2, none⟩ x).heap[g]? = w.heap[g]? := by
  rw [Below.heap_setCell _ _ _ _ hne, Below.heap_setCell _ _ _ _ hne, Below.heap_setCell _ _ _ _ hne]
theorem cells3_same {w : World} {g : Nat} {a b c : Value} {t : TypeId} (h : w.heap[g]? = some (.cells #[a, b, c] t (0, 0))) (u v x : Value) : (((w.setCell ⟨g, 0, none⟩ u).setCell ⟨g, 1, none⟩ v).setCell ⟨g, 2, none⟩ x).heap[g]? = some (.cells #[u, v, x] t (0, 0)) := by
  have h1 := heap_setCell_same h (j := 0) u
  have h2 := heap_setCell_same h1 (j := 1) v
  have h3 := heap_setCell_same h2 (j := 2) x
  simpa using h3
theorem cells3_grown (w : World) (g : Nat) (u v x : Value) : w.grownBy (((w.setCell ⟨g, 0, none⟩ u).setCell ⟨g, 1, none⟩ v).setCell ⟨g, 2, none⟩ x) (some g) := ((grown_set w g 0 u).trans (grown_set _ g 1 v)).trans (grown_set _ g 2 x)
theorem en_err {e : En} {r : Nat} (h1 : ∀ (k : Nat) x n, k < r → (e.V.map (·.name))[k]? = some x → (e.V.map (·.n))[k]? = some n → wrongB (e.V.map (·.name)) (e.V.map (·.n)) k x n = false) (h2 : ∀ x n, (e.V.map (·.name))[r]? = some x → (e.V.map (·.n))[r]? = some n → wrongB (e.V.map (·.name)) (e.V.map (·.n)) r x n = true) :
    (∀ v, e.V[r]? = some v → firstOf (vlErr e) e.V = some (v.at_, 4)) ∧ (e.V.length ≤ r → firstOf (vlErr e) e.V = none) := by
  have hb : ∀ k v, k < r → e.V[k]? = some v → vlErr e k v = none := by
    intro k v hk hv
    rw [wrong_vl, h1 k v.name v.n hk (by simp [hv]) (by simp [hv])]
    rfl
  constructor
  · intro v hv
    refine firstOf_at hb hv ?_
    rw [wrong_vl, h2 v.name v.n (by simp [hv]) (by simp [hv])]
    rfl
  · intro hr
    refine firstOf_none.2 fun k v hv => hb k v ?_ hv
    have := (List.getElem?_eq_some_iff.1 hv).1
    omega

set_option maxRecDepth 1000000 in
set_option maxHeartbeats 8000000 in
theorem enumT_any (B : Nat) (e : En) (vV : Value) (w : World) (hB : B ≤ w.heap.size) (hr : EAt B w e vV) (hin : EnIn e) (hV : e.V.length ≤ 30) :
    Calls Tryz.prog 35 #[.agg #[.string (txt e.name), vV, .int .i64 e.at_]] w fun ee w' => ∃ v1 v2, ee = .returned (.tuple #[.agg #[.string (txt (enmR e).name), v1, v2], .int .i64 (((firstOf (vlErr e) e.V).map (·.1)).getD 0), .int .i64 ((((firstOf (vlErr e) e.V).map (·.2)).getD 0 : Nat) : Int)]) ∧
      w'.ownsRow 0 9 1 v1 (enmR e).V.length (strv (enmR e).V) ∧ w'.ownsRow 0 2 1 v2 (enmR e).N.length (intv (enmR e).N) ∧ Below w.heap.size w w' := by
  have HFN := Lib.hid (fun wx (hx : Below w.heap.size w wx) => eachVlN_any B vV e.V (by omega) wx (Nat.le_trans hB hx.size) (Rb.low hr (Low.below hx hB)))
  have HFI := Lib.hid (fun wx (hx : Below w.heap.size w wx) => eachVlI_any B vV e.V (by omega) wx (Nat.le_trans hB hx.size) (Rb.low hr (Low.below hx hB)))
  obtain ⟨AV, cV, rfl, sV, aV⟩ := hr
  have HSV := Lib.hid sV
  have hnx : ∀ x ∈ e.V.map (·.name), x.length ≤ maxLen := by
    intro x hx
    obtain ⟨d, hd, rfl⟩ := List.mem_map.1 hx
    exact (hin.V d hd).name
  have hox : ∀ x ∈ e.V.map (·.n), inr x := by
    intro x hx
    obtain ⟨d, hd, rfl⟩ := List.mem_map.1 hx
    exact (hin.V d hd).n
  have HW := Lib.hid (fun wx v1 v2 r1 r2 => wrong_any wx.heap.size v1 v2 (e.V.map (·.name)) (e.V.map (·.n)) wx (Nat.le_refl _) r1 r2 (by simp) (by simp; omega) hnx hox)
  clear sV hin hnx hox
  have hb0 : Below w.heap.size w ((w.alloc (.cells #[.string (txt e.name), .slice AV e.V.length cV, .int .i64 e.at_] 65)).alloc (.cells #[.string ⟨#[]⟩, .slice none 0 0, .slice none 0 0] 68)).drew := (below_lit (below_new _ _) _).trans (Below.refl _ _).drew
  have h0 := box3c (w := ((w.alloc (.cells #[.string (txt e.name), .slice AV e.V.length cV, .int .i64 e.at_] 65)).alloc (.cells #[.string ⟨#[]⟩, .slice none 0 0, .slice none 0 0] 68)).drew) (((below_new (w.alloc (.cells #[.string (txt e.name), .slice AV e.V.length cV, .int .i64 e.at_] 65)) (.cells #[.string ⟨#[]⟩, .slice none 0 0, .slice none 0 0] 68)).block w.heap.size (by simp)).trans (heap_alloc_new w _))
  have hr0 : ((w.alloc (.cells #[.string (txt e.name), .slice AV e.V.length cV, .int .i64 e.at_] 65)).alloc (.cells #[.string ⟨#[]⟩, .slice none 0 0, .slice none 0 0] 68)).drew.heap[w.heap.size + 1]? = some (.cells #[.string ⟨#[]⟩, .slice none 0 0, .slice none 0 0] 68 (0, 0)) := heap_second w _ _
  obtain ⟨wb, hwb⟩ : ∃ wb, wb = ((w.alloc (.cells #[.string (txt e.name), .slice AV e.V.length cV, .int .i64 e.at_] 65)).alloc (.cells #[.string ⟨#[]⟩, .slice none 0 0, .slice none 0 0] 68)) := ⟨_, rfl⟩
  have HB00 := Lib.hid (fun wx (h : wx = wb.drew ∨ wx = (wb.alloc (.cells #[.string ⟨#[]⟩, .slice none 0 0, .slice none 0 0] 68)).drew) => show Below wb.heap.size wb wx from by rcases h with rfl | rfl; exact (Below.refl _ _).drew; exact (below_new _ _).trans (Below.refl _ _).drew)
  have HBA := Lib.hid (fun wy (hy : Below wb.heap.size wb wy) wx (h : wx = wy ∨ wx = wy.alloc (.cells #[.string ⟨#[]⟩, .slice none 0 0, .slice none 0 0] 68)) => show Below wb.heap.size wb wx from by rcases h with rfl | rfl; exact hy; exact below_lit hy _)
  have HBO := Lib.hid (fun wy base {v xs} (hy : World.ownsRow wy base 9 1 v e.V.length xs) wx (h : wx = wy ∨ wx = wy.alloc (.cells #[.string ⟨#[]⟩, .slice none 0 0, .slice none 0 0] 68)) => show wx.ownsRow base 9 1 v e.V.length xs from by rcases h with rfl | rfl; exact hy; exact hy.alloc _)
  have HWB := Lib.hid hwb
  have HSB := Lib.hid (show wb.heap.size = w.heap.size + 2 by rw [hwb]; simp)
  have HXB := Lib.hid (show wb.heap[w.heap.size]? = some (.cells #[.string (txt e.name), .slice AV e.V.length cV, .int .i64 e.at_] 65 (0, 0)) by rw [hwb]; exact h0.1)
  have HRB := Lib.hid (show wb.heap[w.heap.size + 1]? = some (.cells #[.string ⟨#[]⟩, .slice none 0 0, .slice none 0 0] 68 (0, 0)) by rw [hwb]; exact hr0)
  have HBWB := Lib.hid (show Below w.heap.size w wb by rw [hwb]; exact below_lit (below_new _ _) _)
  go_enter Tryz.func35, Tryz.ntmps35
  go_wp2_with fail
  go_region_held3 (fun w' => w'.heap[w.heap.size]? = some (.cells #[.string (txt e.name), .slice AV e.V.length cV, .int .i64 e.at_] 65 (0, 0)) ∧ w'.cell? ⟨w.heap.size, 0, none⟩ = some (.string (txt e.name)) ∧ w'.cell? ⟨w.heap.size, 1, none⟩ = some (.slice AV e.V.length cV) ∧ w'.cell? ⟨w.heap.size, 2, none⟩ = some (.int .i64 e.at_))
    (first | exact h0 | exact box3c_below hbN ‹_› | exact box3c_below hbI ‹_› | exact box3c_below (below_new _ _) ‹_› | exact box3c_below (below_new wI _) (box3c_below hbI (box3c_below hbN h0)) | exact box3c_below (below_new wN _) (box3c_below hbN (box3c_below hbI h0)) | exact box3c_cells _ _ _ (by omega) ‹_› | go_keep)
    ((first
      | (go_at_call 84; refine (HFN.out _ (by first | exact hb0 | exact below_lit hb0 _ | exact below_then hb0 hbI | exact below_lit (below_then hb0 hbI) _ | exact below_then (below_lit hb0 _) hbI)).mono ?_; rintro ee wN ⟨uN, rfl, hoN, hbN⟩; have hbbN := below_then (HB00.out _ (by rw [HWB.out]; first | exact .inl rfl | exact .inr rfl)) hbN; obtain ⟨AN, cN, rfl, -⟩ := Sl.of_own hoN; have lN := hbN.size; (try (have bN := zed hbN; obtain ⟨bN0, bN1, bN2, fN0, fN1, fN2⟩ := zed_cells bN)); (try (have bN := (hbN.block _ (Array.getElem?_eq_some_iff.1 bI).1).trans bI; obtain ⟨bN0, bN1, bN2, fN0, fN1, fN2⟩ := zed_cells bN)); (try (have qN := zedD hbN; obtain ⟨qN0, qN1, qN2, eN0, eN1, eN2⟩ := zed_cells qN)); (try (have qN := (hbN.block _ (Array.getElem?_eq_some_iff.1 qI).1).trans qI; obtain ⟨qN0, qN1, qN2, eN0, eN1, eN2⟩ := zed_cells qN)); (try simp at qN0 qN1 qN2 eN0 eN1 eN2); (try simp at lN); (try simp at bN0 bN1 bN2 fN0 fN1 fN2))
      | (go_at_call 86; refine (HFI.out _ (by first | exact hb0 | exact below_lit hb0 _ | exact below_then hb0 hbN | exact below_lit (below_then hb0 hbN) _ | exact below_then (below_lit hb0 _) hbN)).mono ?_; rintro ee wI ⟨uI, rfl, hoI, hbI⟩; have hbbI := below_then (HBA.out wN hbbN _ (by first | exact .inl rfl | exact .inr rfl)) hbI; have hoN2 := own_below (HBO.out wN _ hoN _ (by first | exact .inl rfl | exact .inr rfl)) hbI; obtain ⟨AI, cI, rfl, -⟩ := Sl.of_own hoI; have lI := hbI.size; (try (have bI := zed hbI; obtain ⟨bI0, bI1, bI2, fI0, fI1, fI2⟩ := zed_cells bI)); (try (have bI := (hbI.block _ (Array.getElem?_eq_some_iff.1 bN).1).trans bN; obtain ⟨bI0, bI1, bI2, fI0, fI1, fI2⟩ := zed_cells bI)); (try (have qI := zedD hbI; obtain ⟨qI0, qI1, qI2, eI0, eI1, eI2⟩ := zed_cells qI)); (try (have qI := (hbI.block _ (Array.getElem?_eq_some_iff.1 qN).1).trans qN; obtain ⟨qI0, qI1, qI2, eI0, eI1, eI2⟩ := zed_cells qI)); (try simp at qI0 qI1 qI2 eI0 eI1 eI2); (try simp at lI); (try simp at bI0 bI1 bI2 fI0 fI1 fI2))))
  · have hxI := (hbbI.block _ (by rw [HSB.out]; omega)).trans HXB.out
    have hrI := (hbbI.block _ (by rw [HSB.out]; omega)).trans HRB.out
    have hbwI := HBWB.out.trans (hbbI.mono HBWB.out.size)
    have hzI := hbbI.size
    rw [HSB.out] at hzI
    have hoN3 := own_mono hoN2 (Nat.zero_le _)
    have hoI3 := own_mono hoI (Nat.zero_le _)
    have hG := heap_alloc_new wI (.cells #[.string (txt e.name), .slice AN e.V.length cN, .slice AI e.V.length cI] 68)
    have hx5 := ((below_new wI (.cells #[.string (txt e.name), .slice AN e.V.length cN, .slice AI e.V.length cI] 68)).block _ (Array.getElem?_eq_some_iff.1 hxI).1).trans hxI
    have hr5 := ((below_new wI (.cells #[.string (txt e.name), .slice AN e.V.length cN, .slice AI e.V.length cI] 68)).block _ (Array.getElem?_eq_some_iff.1 hrI).1).trans hrI
    have hoN5 := hoN3.alloc (.cells #[.string (txt e.name), .slice AN e.V.length cN, .slice AI e.V.length cI] 68)
    have hoI5 := hoI3.alloc (.cells #[.string (txt e.name), .slice AN e.V.length cN, .slice AI e.V.length cI] 68)
    have hbw5 := below_lit hbwI (.cells #[.string (txt e.name), .slice AN e.V.length cN, .slice AI e.V.length cI] 68)
    generalize wI.alloc (.cells #[.string (txt e.name), .slice AN e.V.length cN, .slice AI e.V.length cI] 68) = W5 at *
    generalize wI.heap.size = G at *
    have hoN6 : W5.ownsRow 0 9 1 (.slice AN e.V.length cN) (e.V.map (·.name)).length (strv (e.V.map (·.name))) := by simpa using hoN5
    have hoI6 : W5.ownsRow 0 2 1 (.slice AI e.V.length cI) (e.V.map (·.n)).length (intv (e.V.map (·.n))) := by simpa using hoI5
    have HWV := Lib.hid (HW.out W5 (.slice AN e.V.length cN) (.slice AI e.V.length cI) (Rb.of_own hoN6) (Rb.of_own hoI6))
    have g0 := heap_cell hG 1
    have g1 := heap_cell hG 2
    simp at g0 g1
    go_wp2_with fail
    refine HWV.out.mono ?_
    rintro ee w6 ⟨r, rfl, hq1, hq2, hq3, hb6⟩
    have hx6 := (hb6.block _ (Array.getElem?_eq_some_iff.1 hx5).1).trans hx5
    have hr6 := (hb6.block _ (Array.getElem?_eq_some_iff.1 hr5).1).trans hr5
    have hG6 := (hb6.block _ (Array.getElem?_eq_some_iff.1 hG).1).trans hG
    have hbw6 := below_then hbw5 hb6
    have k1 := heap_cell hx6 1
    simp at k1
    obtain ⟨hE1, hE2⟩ := en_err hq2 hq3
    have HE1 := Lib.hid hE1
    have HE2 := Lib.hid hE2
    clear hE1 hE2 hq2 hq3 g0 g1 HW
    by_cases hlt : r < e.V.length
    · obtain ⟨v, hv⟩ : ∃ v, e.V[r]? = some v := ⟨_, List.getElem?_eq_getElem hlt⟩
      obtain ⟨ad, rfl, hg, c0, c1, c2⟩ := vlr_at (HSV.out.low aV (Low.below hbw6 hB)) hv
      have HE := Lib.hid (HE1.out v hv)
      have hd : decide ((r : Int) < (e.V.length : Int)) = true := by rw [decide_eq_true_eq]; omega
      have hrl : (r : Int) < (e.V.length : Int) := by omega
      have r0 := heap_cell hr6 0
      have r1 := heap_cell hr6 1
      have r2 := heap_cell hr6 2
      simp at r0 r1 r2
      have f0 := heap_free hr6 0
      have f1 := heap_free hr6 1
      have f2 := heap_free hr6 2
      have hne1 : (ad.add (r * 3)).block ≠ w.heap.size + 1 := by rw [add_same_block]; have := aV ad rfl (by omega); omega
      have hne2 : w.heap.size + 1 ≠ (ad.add (r * 3)).block := fun h => hne1 h.symm
      clear hv HE1 HE2
      go_wp2_with fail
      go_region
      go_wp2
      refine bodyPost_ret (results_ed2 rfl _ _ (w.heap.size + 1) _ _ _ _ (0, 0) rfl (set3 hr6 _ _ _)) rfl ?_
      exact ⟨.slice none 0 0, .slice none 0 0, by rw [HE.out, enmR_bad HE.out]; rfl, by rw [enmR_bad HE.out]; exact World.ownsRow_nil _ _ _ _, by rw [enmR_bad HE.out]; exact World.ownsRow_nil _ _ _ _, below_set3 hbw6 (by omega) _ _ _⟩
    · have HE := Lib.hid (HE2.out (by omega))
      have hd : decide ((r : Int) < (e.V.length : Int)) = false := by rw [decide_eq_false_iff_not]; omega
      go_wp2_with (first
        | (refine wpList_load_ed rfl _ rfl G _ _ _ rfl _ _ hG6 ?_)
        | (refine wpList_store_ed rfl _ _ rfl rfl (w.heap.size + 1) _ _ _ _ _ _ rfl rfl rfl rfl rfl _ hr6 ?_))
      refine bodyPost_ret (results_ed2 rfl _ _ (w.heap.size + 1) _ _ _ _ (0, 0) rfl (setRow_heap _ _ _ _ _ _ hr6)) rfl ?_
      have hms : enmR e = enD e := by unfold enmR; rw [HE.out]; rfl
      have hgr : w6.grownBy (w6.setRow (w.heap.size + 1) #[.string (txt e.name), .slice AN e.V.length cN, .slice AI e.V.length cI]) (some (w.heap.size + 1)) := ⟨rfl, rfl, rfl, by simp, fun k _ hk => setRow_other _ _ _ _ (by simpa using hk)⟩
      refine ⟨.slice AN e.V.length cN, .slice AI e.V.length cI, by rw [hms, HE.out]; rfl, ?_, ?_, hbw6.grown hgr hbw6.size (fun j hj => by injection hj with hj; omega)⟩
      · rw [hms]; exact own_other (own_below hoN6 hb6) hgr hr6 (by decide)
      · rw [hms]; exact own_other (own_below hoI6 hb6) hgr hr6 (by decide)
  · have hxI := (hbbI.block _ (by rw [HSB.out]; omega)).trans HXB.out
    have hrI := (hbbI.block _ (by rw [HSB.out]; omega)).trans HRB.out
    have hbwI := HBWB.out.trans (hbbI.mono HBWB.out.size)
    have hzI := hbbI.size
    rw [HSB.out] at hzI
    have hoN3 := own_mono hoN2 (Nat.zero_le _)
    have hoI3 := own_mono hoI (Nat.zero_le _)
    have hbz := bI
    have hG := cells3_same hbz (.string (txt e.name)) (.slice AN e.V.length cN) (.slice AI e.V.length cI)
    have hx5 := (heap_cells3 wI (g := w.heap.size) (p := wN.heap.size) (.string (txt e.name)) (.slice AN e.V.length cN) (.slice AI e.V.length cI) (by omega)).trans hxI
    have hr5 := (heap_cells3 wI (g := w.heap.size + 1) (p := wN.heap.size) (.string (txt e.name)) (.slice AN e.V.length cN) (.slice AI e.V.length cI) (by omega)).trans hrI
    have hoN5 := own_other hoN3 (cells3_grown wI (wN.heap.size) (.string (txt e.name)) (.slice AN e.V.length cN) (.slice AI e.V.length cI)) hbz (by decide)
    have hoI5 := own_other hoI3 (cells3_grown wI (wN.heap.size) (.string (txt e.name)) (.slice AN e.V.length cN) (.slice AI e.V.length cI)) hbz (by decide)
    have hbw5 := hbwI.grown (cells3_grown wI (wN.heap.size) (.string (txt e.name)) (.slice AN e.V.length cN) (.slice AI e.V.length cI)) hbwI.size (fun j hj => by injection hj with hj; omega)
    generalize ((wI.setCell ⟨wN.heap.size, 0, none⟩ (.string (txt e.name))).setCell ⟨wN.heap.size, 1, none⟩ (.slice AN e.V.length cN)).setCell ⟨wN.heap.size, 2, none⟩ (.slice AI e.V.length cI) = W5 at *
    generalize wN.heap.size = G at *
    have hoN6 : W5.ownsRow 0 9 1 (.slice AN e.V.length cN) (e.V.map (·.name)).length (strv (e.V.map (·.name))) := by simpa using hoN5
    have hoI6 : W5.ownsRow 0 2 1 (.slice AI e.V.length cI) (e.V.map (·.n)).length (intv (e.V.map (·.n))) := by simpa using hoI5
    have HWV := Lib.hid (HW.out W5 (.slice AN e.V.length cN) (.slice AI e.V.length cI) (Rb.of_own hoN6) (Rb.of_own hoI6))
    have g0 := heap_cell hG 1
    have g1 := heap_cell hG 2
    simp at g0 g1
    go_wp2_with fail
    refine HWV.out.mono ?_
    rintro ee w6 ⟨r, rfl, hq1, hq2, hq3, hb6⟩
    have hx6 := (hb6.block _ (Array.getElem?_eq_some_iff.1 hx5).1).trans hx5
    have hr6 := (hb6.block _ (Array.getElem?_eq_some_iff.1 hr5).1).trans hr5
    have hG6 := (hb6.block _ (Array.getElem?_eq_some_iff.1 hG).1).trans hG
    have hbw6 := below_then hbw5 hb6
    have k1 := heap_cell hx6 1
    simp at k1
    obtain ⟨hE1, hE2⟩ := en_err hq2 hq3
    have HE1 := Lib.hid hE1
    have HE2 := Lib.hid hE2
    clear hE1 hE2 hq2 hq3 g0 g1 HW
    by_cases hlt : r < e.V.length
    · obtain ⟨v, hv⟩ : ∃ v, e.V[r]? = some v := ⟨_, List.getElem?_eq_getElem hlt⟩
      obtain ⟨ad, rfl, hg, c0, c1, c2⟩ := vlr_at (HSV.out.low aV (Low.below hbw6 hB)) hv
      have HE := Lib.hid (HE1.out v hv)
      have hd : decide ((r : Int) < (e.V.length : Int)) = true := by rw [decide_eq_true_eq]; omega
      have hrl : (r : Int) < (e.V.length : Int) := by omega
      have r0 := heap_cell hr6 0
      have r1 := heap_cell hr6 1
      have r2 := heap_cell hr6 2
      simp at r0 r1 r2
      have f0 := heap_free hr6 0
      have f1 := heap_free hr6 1
      have f2 := heap_free hr6 2
      have hne1 : (ad.add (r * 3)).block ≠ w.heap.size + 1 := by rw [add_same_block]; have := aV ad rfl (by omega); omega
      have hne2 : w.heap.size + 1 ≠ (ad.add (r * 3)).block := fun h => hne1 h.symm
      clear hv HE1 HE2
      go_wp2_with fail
      go_region
      go_wp2
      refine bodyPost_ret (results_ed2 rfl _ _ (w.heap.size + 1) _ _ _ _ (0, 0) rfl (set3 hr6 _ _ _)) rfl ?_
      exact ⟨.slice none 0 0, .slice none 0 0, by rw [HE.out, enmR_bad HE.out]; rfl, by rw [enmR_bad HE.out]; exact World.ownsRow_nil _ _ _ _, by rw [enmR_bad HE.out]; exact World.ownsRow_nil _ _ _ _, below_set3 hbw6 (by omega) _ _ _⟩
    · have HE := Lib.hid (HE2.out (by omega))
      have hd : decide ((r : Int) < (e.V.length : Int)) = false := by rw [decide_eq_false_iff_not]; omega
      go_wp2_with (first
        | (refine wpList_load_ed rfl _ rfl G _ _ _ rfl _ _ hG6 ?_)
        | (refine wpList_store_ed rfl _ _ rfl rfl (w.heap.size + 1) _ _ _ _ _ _ rfl rfl rfl rfl rfl _ hr6 ?_))
      refine bodyPost_ret (results_ed2 rfl _ _ (w.heap.size + 1) _ _ _ _ (0, 0) rfl (setRow_heap _ _ _ _ _ _ hr6)) rfl ?_
      have hms : enmR e = enD e := by unfold enmR; rw [HE.out]; rfl
      have hgr : w6.grownBy (w6.setRow (w.heap.size + 1) #[.string (txt e.name), .slice AN e.V.length cN, .slice AI e.V.length cI]) (some (w.heap.size + 1)) := ⟨rfl, rfl, rfl, by simp, fun k _ hk => setRow_other _ _ _ _ (by simpa using hk)⟩
      refine ⟨.slice AN e.V.length cN, .slice AI e.V.length cI, by rw [hms, HE.out]; rfl, ?_, ?_, hbw6.grown hgr hbw6.size (fun j hj => by injection hj with hj; omega)⟩
      · rw [hms]; exact own_other (own_below hoN6 hb6) hgr hr6 (by decide)
      · rw [hms]; exact own_other (own_below hoI6 hb6) hgr hr6 (by decide)
  · have hxI := (hbbI.block _ (by rw [HSB.out]; omega)).trans HXB.out
    have hrI := (hbbI.block _ (by rw [HSB.out]; omega)).trans HRB.out
    have hbwI := HBWB.out.trans (hbbI.mono HBWB.out.size)
    have hzI := hbbI.size
    rw [HSB.out] at hzI
    have hoN3 := own_mono hoN2 (Nat.zero_le _)
    have hoI3 := own_mono hoI (Nat.zero_le _)
    have hbz := (show wI.heap[w.heap.size + 1 + 1]? = some (.cells #[.string ⟨#[]⟩, .slice none 0 0, .slice none 0 0] 68 (0, 0)) from by simpa using qI)
    have hG := cells3_same hbz (.string (txt e.name)) (.slice AN e.V.length cN) (.slice AI e.V.length cI)
    have hx5 := (heap_cells3 wI (g := w.heap.size) (p := w.heap.size + 1 + 1) (.string (txt e.name)) (.slice AN e.V.length cN) (.slice AI e.V.length cI) (by omega)).trans hxI
    have hr5 := (heap_cells3 wI (g := w.heap.size + 1) (p := w.heap.size + 1 + 1) (.string (txt e.name)) (.slice AN e.V.length cN) (.slice AI e.V.length cI) (by omega)).trans hrI
    have hoN5 := own_other hoN3 (cells3_grown wI (w.heap.size + 1 + 1) (.string (txt e.name)) (.slice AN e.V.length cN) (.slice AI e.V.length cI)) hbz (by decide)
    have hoI5 := own_other hoI3 (cells3_grown wI (w.heap.size + 1 + 1) (.string (txt e.name)) (.slice AN e.V.length cN) (.slice AI e.V.length cI)) hbz (by decide)
    have hbw5 := hbwI.grown (cells3_grown wI (w.heap.size + 1 + 1) (.string (txt e.name)) (.slice AN e.V.length cN) (.slice AI e.V.length cI)) hbwI.size (fun j hj => by injection hj with hj; omega)
    generalize ((wI.setCell ⟨w.heap.size + 1 + 1, 0, none⟩ (.string (txt e.name))).setCell ⟨w.heap.size + 1 + 1, 1, none⟩ (.slice AN e.V.length cN)).setCell ⟨w.heap.size + 1 + 1, 2, none⟩ (.slice AI e.V.length cI) = W5 at *
    generalize w.heap.size + 1 + 1 = G at *
    have hoN6 : W5.ownsRow 0 9 1 (.slice AN e.V.length cN) (e.V.map (·.name)).length (strv (e.V.map (·.name))) := by simpa using hoN5
    have hoI6 : W5.ownsRow 0 2 1 (.slice AI e.V.length cI) (e.V.map (·.n)).length (intv (e.V.map (·.n))) := by simpa using hoI5
    have HWV := Lib.hid (HW.out W5 (.slice AN e.V.length cN) (.slice AI e.V.length cI) (Rb.of_own hoN6) (Rb.of_own hoI6))
    have g0 := heap_cell hG 1
    have g1 := heap_cell hG 2
    simp at g0 g1
    go_wp2_with fail
    refine HWV.out.mono ?_
    rintro ee w6 ⟨r, rfl, hq1, hq2, hq3, hb6⟩
    have hx6 := (hb6.block _ (Array.getElem?_eq_some_iff.1 hx5).1).trans hx5
    have hr6 := (hb6.block _ (Array.getElem?_eq_some_iff.1 hr5).1).trans hr5
    have hG6 := (hb6.block _ (Array.getElem?_eq_some_iff.1 hG).1).trans hG
    have hbw6 := below_then hbw5 hb6
    have k1 := heap_cell hx6 1
    simp at k1
    obtain ⟨hE1, hE2⟩ := en_err hq2 hq3
    have HE1 := Lib.hid hE1
    have HE2 := Lib.hid hE2
    clear hE1 hE2 hq2 hq3 g0 g1 HW
    by_cases hlt : r < e.V.length
    · obtain ⟨v, hv⟩ : ∃ v, e.V[r]? = some v := ⟨_, List.getElem?_eq_getElem hlt⟩
      obtain ⟨ad, rfl, hg, c0, c1, c2⟩ := vlr_at (HSV.out.low aV (Low.below hbw6 hB)) hv
      have HE := Lib.hid (HE1.out v hv)
      have hd : decide ((r : Int) < (e.V.length : Int)) = true := by rw [decide_eq_true_eq]; omega
      have hrl : (r : Int) < (e.V.length : Int) := by omega
      have r0 := heap_cell hr6 0
      have r1 := heap_cell hr6 1
      have r2 := heap_cell hr6 2
      simp at r0 r1 r2
      have f0 := heap_free hr6 0
      have f1 := heap_free hr6 1
      have f2 := heap_free hr6 2
      have hne1 : (ad.add (r * 3)).block ≠ w.heap.size + 1 := by rw [add_same_block]; have := aV ad rfl (by omega); omega
      have hne2 : w.heap.size + 1 ≠ (ad.add (r * 3)).block := fun h => hne1 h.symm
      clear hv HE1 HE2
      go_wp2_with fail
      go_region
      go_wp2
      refine bodyPost_ret (results_ed2 rfl _ _ (w.heap.size + 1) _ _ _ _ (0, 0) rfl (set3 hr6 _ _ _)) rfl ?_
      exact ⟨.slice none 0 0, .slice none 0 0, by rw [HE.out, enmR_bad HE.out]; rfl, by rw [enmR_bad HE.out]; exact World.ownsRow_nil _ _ _ _, by rw [enmR_bad HE.out]; exact World.ownsRow_nil _ _ _ _, below_set3 hbw6 (by omega) _ _ _⟩
    · have HE := Lib.hid (HE2.out (by omega))
      have hd : decide ((r : Int) < (e.V.length : Int)) = false := by rw [decide_eq_false_iff_not]; omega
      go_wp2_with (first
        | (refine wpList_load_ed rfl _ rfl G _ _ _ rfl _ _ hG6 ?_)
        | (refine wpList_store_ed rfl _ _ rfl rfl (w.heap.size + 1) _ _ _ _ _ _ rfl rfl rfl rfl rfl _ hr6 ?_))
      refine bodyPost_ret (results_ed2 rfl _ _ (w.heap.size + 1) _ _ _ _ (0, 0) rfl (setRow_heap _ _ _ _ _ _ hr6)) rfl ?_
      have hms : enmR e = enD e := by unfold enmR; rw [HE.out]; rfl
      have hgr : w6.grownBy (w6.setRow (w.heap.size + 1) #[.string (txt e.name), .slice AN e.V.length cN, .slice AI e.V.length cI]) (some (w.heap.size + 1)) := ⟨rfl, rfl, rfl, by simp, fun k _ hk => setRow_other _ _ _ _ (by simpa using hk)⟩
      refine ⟨.slice AN e.V.length cN, .slice AI e.V.length cI, by rw [hms, HE.out]; rfl, ?_, ?_, hbw6.grown hgr hbw6.size (fun j hj => by injection hj with hj; omega)⟩
      · rw [hms]; exact own_other (own_below hoN6 hb6) hgr hr6 (by decide)
      · rw [hms]; exact own_other (own_below hoI6 hb6) hgr hr6 (by decide)
end Go.Proofs.YtciiemomfniecaaGreatDoor
