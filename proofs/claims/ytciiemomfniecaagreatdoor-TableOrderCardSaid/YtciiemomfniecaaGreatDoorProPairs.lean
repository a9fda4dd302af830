/-
  A message as it is read: its block and its rows; items of one field: the contracts.
-/
import Derived.Test.YtciiemomfniecaaGreatDoorProField
import Derived.Deep.RegionLaw
namespace Go.Proofs.YtciiemomfniecaaGreatDoor
set_option maxRecDepth 100000

open Go.RowKit

def fdv (l : List Fd) : List Value := l.flatMap FC
def strv (l : List (List UInt8)) : List Value := l.map fun x => .string (txt x)
def intv (l : List Int) : List Value := l.map fun n => .int .i64 n
theorem fdv_append (a b : List Fd) : fdv (a ++ b) = fdv a ++ fdv b := by simp [fdv]
theorem fdv_one (d : Fd) : fdv [d] = FC d := by simp [fdv]
theorem fdv_cells (l : List Fd) : ∀ u ∈ fdv l, u.oneCell' = true := by
  intro u hu
  obtain ⟨r, _, hr⟩ := List.mem_flatMap.1 hu
  simp only [FC, List.mem_cons, List.not_mem_nil, or_false] at hr
  rcases hr with rfl | rfl | rfl | rfl | rfl | rfl | rfl <;> rfl
/-- A message under way: its block M, and its rows, which are younger. -/
def MBox (w : World) (M : Nat) (m : Ms) : Prop :=
  ∃ vF vO vR, w.heap[M]? = some (.cells #[.string (txt m.name), vF, vO, vR, .int .i64 m.at_] 51 (0, 0)) ∧ w.ownsRow (M + 1) 53 7 vF m.F.length (fdv m.F) ∧
    w.ownsRow (M + 1) 9 1 vO m.ones.length (strv m.ones) ∧ w.ownsRow (M + 1) 2 1 vR m.res.length (intv m.res)
theorem own_kept {w w' : World} {base B P : Nat} {e : TypeId} {size : Nat} {v : Value} {n : Nat} {xs : List Value} (h : w.ownsRow base e size v n xs) (hk : ∀ k, base ≤ k → k < w.heap.size → w'.heap[k]? = w.heap[k]?) : w'.ownsRow base e size v n xs := by
  rcases h with ⟨hl, ⟨rfl, rfl⟩ | ⟨g, cap, cur, rfl, h1, h2, h3⟩⟩
  · exact ⟨hl, .inl ⟨rfl, rfl⟩⟩
  · exact ⟨hl, .inr ⟨g, cap, cur, rfl, h1, (hk g h1 (Array.getElem?_eq_some_iff.1 h2).1).trans h2, h3⟩⟩
theorem infoFds : (Tryz.prog.info? 53).map (fun i => (i.zero, i.size, i.bytes)) = some (some (.agg #[.string ⟨#[]⟩, .string ⟨#[]⟩, .bool false, .int .i64 0, .string ⟨#[]⟩, .int .i64 0, .int .i64 0]), 7, 80) := by kernel_rfl

theorem PSt.drew {w : World} {P E : Nat} {s : S} (h : PSt w P E s) : PSt w.drew P E s := h.kept (Nat.le_refl _) (fun _ _ => rfl)
theorem heap_second' (w : World) (o o' : Obj) : ((w.alloc o).drew.alloc o').heap[w.heap.size + 1]? = some o' := heap_second w o o'
theorem own_apart {w : World} {b b' : Nat} {e e' : TypeId} {size size' : Nat} {v v' : Value} {n n' : Nat} {xs xs' : List Value} (h : w.ownsRow b e size v n xs) (h' : w.ownsRow b' e' size' v' n' xs') (hne : e ≠ e') : v.ownBlock = none ∨ v.ownBlock ≠ v'.ownBlock := by
  rcases h.2 with ⟨rfl, _⟩ | ⟨g, cap, cur, rfl, h1, h2, _⟩
  · exact .inl rfl
  · right
    rcases h'.2 with ⟨rfl, _⟩ | ⟨g', cap', cur', rfl, h1', h2', _⟩
    · simp [Value.ownBlock]
    · intro he
      simp only [Value.ownBlock, Option.some.injEq] at he
      subst he
      rw [h2] at h2'
      simp only [Option.some.injEq, Obj.cells.injEq] at h2'
      exact hne h2'.2.1
theorem own_set {w : World} {base : Nat} {e : TypeId} {size : Nat} {v : Value} {n : Nat} {xs : List Value} (h : w.ownsRow base e size v n xs) {a : Addr} (ha : a.block < base) (u : Value) : (w.setCell a u).ownsRow base e size v n xs := ownsRow_setCell_below h ha u
/-- What is known of a message's block and rows behind a step that lets them be. -/
structure MRow (w : World) (M : Nat) (m : Ms) (vF vO vR : Value) : Prop where
  box : w.heap[M]? = some (.cells #[.string (txt m.name), vF, vO, vR, .int .i64 m.at_] 51 (0, 0))
  f : w.ownsRow (M + 1) 53 7 vF m.F.length (fdv m.F)
  o : w.ownsRow (M + 1) 9 1 vO m.ones.length (strv m.ones)
  r : w.ownsRow (M + 1) 2 1 vR m.res.length (intv m.res)
theorem MRow.lt {w : World} {M : Nat} {m : Ms} {vF vO vR : Value} (h : MRow w M m vF vO vR) : M < w.heap.size := (Array.getElem?_eq_some_iff.1 h.box).1
theorem MBox.open_ {w : World} {M : Nat} {m : Ms} (h : MBox w M m) : ∃ vF vO vR, MRow w M m vF vO vR := by
  obtain ⟨vF, vO, vR, h1, h2, h3, h4⟩ := h
  exact ⟨vF, vO, vR, ⟨h1, h2, h3, h4⟩⟩
theorem MRow.shut {w : World} {M : Nat} {m : Ms} {vF vO vR : Value} (h : MRow w M m vF vO vR) : MBox w M m := ⟨vF, vO, vR, h.box, h.f, h.o, h.r⟩
theorem MRow.kept {w w' : World} {M : Nat} {m : Ms} {vF vO vR : Value} (h : MRow w M m vF vO vR) (hk : ∀ k, M ≤ k → k < w.heap.size → w'.heap[k]? = w.heap[k]?) : MRow w' M m vF vO vR :=
  ⟨(hk M (Nat.le_refl _) h.lt).trans h.box, own_kept (B := 0) (P := 0) h.f (fun k hk1 hk2 => hk k (by omega) hk2), own_kept (B := 0) (P := 0) h.o (fun k hk1 hk2 => hk k (by omega) hk2), own_kept (B := 0) (P := 0) h.r (fun k hk1 hk2 => hk k (by omega) hk2)⟩
theorem MRow.taken {w w' : World} {P M : Nat} {m : Ms} {vF vO vR : Value} (h : MRow w M m vF vO vR) (hg : w.grownBy w' (some P)) (hP : P < M) : MRow w' M m vF vO vR :=
  h.kept fun k hk1 hk2 => hg.block k hk2 (by simp; omega)
theorem MBox.taken {w w' : World} {P M : Nat} {m : Ms} (h : MBox w M m) (hg : w.grownBy w' (some P)) (hP : P < M) : MBox w' M m := by
  obtain ⟨vF, vO, vR, h⟩ := h.open_
  exact (h.taken hg hP).shut
theorem MRow.alloc {w : World} {M : Nat} {m : Ms} {vF vO vR : Value} (h : MRow w M m vF vO vR) (o : Obj) : MRow (w.alloc o) M m vF vO vR :=
  h.kept fun k _ hk2 => Below.heap_alloc w o k hk2
theorem MRow.drew {w : World} {M : Nat} {m : Ms} {vF vO vR : Value} (h : MRow w M m vF vO vR) : MRow w.drew M m vF vO vR := ⟨h.box, h.f, h.o, h.r⟩
theorem MBox.alloc {w : World} {M : Nat} {m : Ms} (h : MBox w M m) (o : Obj) : MBox (w.alloc o) M m := by
  obtain ⟨vF, vO, vR, h⟩ := h.open_
  exact (h.alloc o).shut
theorem own_M {w : World} {M : Nat} {e : TypeId} {size : Nat} {v : Value} {n : Nat} {xs : List Value} (h : w.ownsRow (M + 1) e size v n xs) : ∀ k, v.ownBlock = some k → M < k := fun k hk => (h.lt k hk).1
/-- A row has been appended to; then its slice is stored. -/
theorem MRow.addF {w w' : World} {M : Nat} {m : Ms} {vF vO vR v : Value} {d : Fd} (h : MRow w M m vF vO vR) (hg : w.grownBy w' vF.ownBlock) (hown : w'.ownsRow (M + 1) 53 7 v (m.F.length + 1) (fdv m.F ++ FC d)) :
    MBox (w'.setCell ⟨M, 1, none⟩ v) M (m.add d) := by
  have hb : w'.heap[M]? = _ := (hg.block M h.lt (fun e => by have := own_M h.f M e.symm; omega)).trans h.box
  refine ⟨v, vO, vR, ?_, ?_, ?_, ?_⟩
  · have := heap_setCell_same hb (j := 1) v
    simpa [Ms.add] using this
  · have := own_set hown (a := ⟨M, 1, none⟩) (by simp) v
    simpa [Ms.add, fdv_append, fdv_one] using this
  · exact own_set (h.o.kept hg (own_apart h.o h.f (by decide))) (by simp) v
  · exact own_set (h.r.kept hg (own_apart h.r h.f (by decide))) (by simp) v
theorem MRow.addO {w w' : World} {M : Nat} {m : Ms} {vF vO vR v : Value} {x : List UInt8} (h : MRow w M m vF vO vR) (hg : w.grownBy w' vO.ownBlock) (hown : w'.ownsRow (M + 1) 9 1 v (m.ones.length + 1) (strv m.ones ++ [.string (txt x)])) :
    MBox (w'.setCell ⟨M, 2, none⟩ v) M { m with ones := m.ones ++ [x] } := by
  have hb : w'.heap[M]? = _ := (hg.block M h.lt (fun e => by have := own_M h.o M e.symm; omega)).trans h.box
  refine ⟨vF, v, vR, ?_, ?_, ?_, ?_⟩
  · have := heap_setCell_same hb (j := 2) v
    simpa using this
  · exact own_set (h.f.kept hg (own_apart h.f h.o (by decide))) (by simp) v
  · have := own_set hown (a := ⟨M, 2, none⟩) (by simp) v
    simpa [strv] using this
  · exact own_set (h.r.kept hg (own_apart h.r h.o (by decide))) (by simp) v
theorem MRow.addR {w w' : World} {M : Nat} {m : Ms} {vF vO vR v : Value} {x : Int} (h : MRow w M m vF vO vR) (hg : w.grownBy w' vR.ownBlock) (hown : w'.ownsRow (M + 1) 2 1 v (m.res.length + 1) (intv m.res ++ [.int .i64 x])) :
    MBox (w'.setCell ⟨M, 3, none⟩ v) M { m with res := m.res ++ [x] } := by
  have hb : w'.heap[M]? = _ := (hg.block M h.lt (fun e => by have := own_M h.r M e.symm; omega)).trans h.box
  refine ⟨vF, vO, v, ?_, ?_, ?_, ?_⟩
  · have := heap_setCell_same hb (j := 3) v
    simpa using this
  · exact own_set (h.f.kept hg (own_apart h.f h.r (by decide))) (by simp) v
  · exact own_set (h.o.kept hg (own_apart h.o h.r (by decide))) (by simp) v
  · have := own_set hown (a := ⟨M, 3, none⟩) (by simp) v
    simpa [intv] using this
/-- The parser beside it. -/
theorem PSt.past {w w' : World} {P E M : Nat} {s : S} {e : TypeId} {size : Nat} {v0 v : Value} {n : Nat} {xs : List Value} (h : PSt w P E s) (hP : P < M) (h0 : w.ownsRow (M + 1) e size v0 n xs) (hg : w.grownBy w' v0.ownBlock) (j : Nat) : PSt (w'.setCell ⟨M, j, none⟩ v) P E s :=
  PSt.setCell (h.kept hg.size (fun k hk => hg.block k (by have := h.lt; omega) (fun e => by have := own_M h0 k e.symm; omega))) hP _
theorem Kp.past {a w w' : World} {P M : Nat} {e : TypeId} {size : Nat} {v0 v : Value} {n : Nat} {xs : List Value} (h : Kp M P a w) (hM : M ≤ w.heap.size) (h0 : w.ownsRow (M + 1) e size v0 n xs) (hg : w.grownBy w' v0.ownBlock) (j : Nat) : Kp M P a (w'.setCell ⟨M, j, none⟩ v) :=
  (h.grown hg hM (fun k hk => by have := own_M h0 k hk; omega)).setCell (Nat.le_refl _) _

set_option maxHeartbeats 1000000 in
theorem single_any (P E M : Nat) (s : S) (m : Ms) (w : World) (hp : PSt w P E s) (hm : MBox w M m) (hPM : P < M) (hn : m.F.length ≤ 100000) :
    Calls Tryz.prog 175 #[.pointer (some ⟨P, 0, none⟩), .pointer (some ⟨M, 0, none⟩)] w fun e w' => e = .returned (.tuple #[]) ∧ PSt w' P E (singleF E s m).1 ∧ MBox w' M (singleF E s m).2 ∧ Kp M P w w' := by
  obtain ⟨i0, hi, hz0, hz1, hz2⟩ := info_parts infoFds
  obtain ⟨vF, vO, vR, hr⟩ := hm.open_
  have c1 := heap_cell hr.box 1
  simp at c1
  have hM := hr.lt
  have HR := Lib.hid (show MRow w.drew M m vF vO vR from ⟨hr.box, hr.f, hr.o, hr.r⟩)
  have HK := Lib.hid (show Kp M P w w.drew from (Kp.refl M P w).drew 1)
  obtain ⟨d, hd⟩ : ∃ d, d = s.fld E := ⟨_, rfl⟩
  have h1 := field_any P E s w.drew hp.drew
  rw [← hd] at h1
  have HX : Hid (FdV d = .agg #[.string (txt d.type), .string (txt d.key), .bool d.rep, .int .i64 d.one, .string (txt d.name), .int .i64 d.no, .int .i64 d.at_]) := Lib.hid rfl
  have HS : Hid (singleF E s m = (s.fldS, m.add d)) := Lib.hid (by rw [hd]; rfl)
  have H1 := Lib.hid h1
  clear hr hd h1 hm hp
  go_enter Tryz.func175, Tryz.ntmps175
  go_wp2_with fail
  go_region_law
    (first
      | (refine step_append_lies _ rfl _ _ 47 rfl (M + 1) 53 i0 _ 7 80 Tryz.underlying47 hi hz0 hz1 hz2 rfl (by decide) vF m.F.length (fdv m.F) (by simp [Act.eval, Act.put]) (HR1.out.alloc _).f ⟨w1.heap.size, 0, none⟩ 1 1 (FC d) (by simp [Act.eval, Act.put]) rfl (World.news_of_block (heap_alloc_new _ _)) (by intro u hu; exact fdv_cells [d] u (by rw [fdv_one]; exact hu)) (by decide) (by unfold maxLen; omega) (by omega) (by simp; omega) w1.heap.size.succ (by simp) ?_; intro g3 cap3 w3 hown3 hg3 hat3 hlt3; have hb3 := (hg3.block M (HR1.out.alloc _).lt (fun e => by have := own_M HR1.out.f M e.symm; omega)).trans (HR1.out.alloc _).box; have c3 := heap_cell hb3 1; have f3 := heap_free hb3 1; simp at c3; have HB3 := Lib.hid hb3; clear hb3)
      | (go_simp; refine H1.out.mono ?_; rw [HX.out]; rintro e w1 ⟨rfl, hp1, hg1⟩; have hr1 := HR.out.taken hg1 hPM; have hk1 := HK.out.taken hg1 (by show M ≤ w.heap.size; omega); have c1' := heap_cell hr1.box 1; simp at c1'; have HR1 := Lib.hid hr1; have hM1 := hr1.lt; clear hr1))
  all_goals
    go_wp2
    refine bodyPost_end (results_none rfl _ _ _) rfl ?_
    rw [HS.out]
    exact ⟨rfl, (hp1.alloc _).past hPM (HR1.out.alloc _).f hg3 1, (HR1.out.alloc _).addF hg3 hown3, (hk1.alloc (Nat.le_of_lt hM1) _).past (by simp; omega) (HR1.out.alloc _).f hg3 1⟩

set_option maxHeartbeats 1000000 in
theorem repeated_any (P E M : Nat) (s : S) (m : Ms) (w : World) (hp : PSt w P E s) (hm : MBox w M m) (hPM : P < M) (hn : m.F.length ≤ 100000) :
    Calls Tryz.prog 170 #[.pointer (some ⟨P, 0, none⟩), .pointer (some ⟨M, 0, none⟩)] w fun e w' => e = .returned (.tuple #[]) ∧ PSt w' P E (repF E s m).1 ∧ MBox w' M (repF E s m).2 ∧ Kp M P w w' := by
  obtain ⟨i0, hi, hz0, hz1, hz2⟩ := info_parts infoFds
  obtain ⟨vF, vO, vR, hr⟩ := hm.open_
  have hM := hr.lt
  have HR := Lib.hid hr
  obtain ⟨d, hd⟩ : ∃ d, d = (s.word wRepeated).fld E := ⟨_, rfl⟩
  obtain ⟨d', hd'⟩ : ∃ d', d' = { d with rep := true, at_ := s.place E } := ⟨_, rfl⟩
  have H0 := Lib.hid (place_any P E s w hp)
  have H1 := Lib.hid (word_any7 P E s ⟨#[114, 101, 112, 101, 97, 116, 101, 100]⟩ w hp)
  have h2 := fun w h => field_any P E (s.word wRepeated) w h
  rw [← hd] at h2
  have HX : Hid (FdV d = .agg #[.string (txt d.type), .string (txt d.key), .bool d.rep, .int .i64 d.one, .string (txt d.name), .int .i64 d.no, .int .i64 d.at_]) := Lib.hid rfl
  have HC : Hid (FC d' = [.string (txt d.type), .string (txt d.key), .bool true, .int .i64 d.one, .string (txt d.name), .int .i64 d.no, .int .i64 (s.place E)]) := Lib.hid (by rw [hd']; rfl)
  have HS : Hid (repF E s m = ((s.word wRepeated).fldS, m.add d')) := Lib.hid (by rw [hd', hd]; rfl)
  have H2 := Lib.hid h2
  clear hr hd hd' h2 hm hp
  go_enter Tryz.func170, Tryz.ntmps170
  go_wp2_with fail
  refine H0.out.mono ?_
  rintro e w0 ⟨rfl, rfl⟩
  go_wp2_with fail
  refine H1.out.mono ?_
  rintro e w1 ⟨rfl, hp1, hg1⟩
  have HR1 := Lib.hid (HR.out.taken hg1 hPM)
  have hs1 := hg1.size
  go_wp2_with fail
  refine (H2.out w1 hp1).mono ?_
  rw [HX.out]
  rintro e w2 ⟨rfl, hp2, hg2⟩
  have hs2 := hg2.size
  have hr2 := HR1.out.taken hg2 hPM
  have hk2 := ((Kp.refl M P w).taken hg1 (by omega)).taken hg2 (by omega)
  have c1 := heap_cell hr2.box 1
  simp at c1
  have HR2 := Lib.hid hr2
  have hM2 := hr2.lt
  clear hr2
  go_wp2_with fail
  go_region_law
    (refine step_append_lies _ rfl _ _ 47 rfl (M + 1) 53 i0 _ 7 80 Tryz.underlying47 hi hz0 hz1 hz2 rfl (by decide) vF m.F.length (fdv m.F) (by simp [Act.eval, Act.put]) ((HR2.out.alloc _).alloc _).f ⟨w2.heap.size + 1, 0, none⟩ 1 1 (FC d') (by simp [Act.eval, Act.put]) rfl (by rw [HC.out]; exact World.news_of_block (heap_second' w2 _ _)) (by intro u hu; exact fdv_cells [d'] u (by rw [fdv_one]; exact hu)) (by decide) (by unfold maxLen; omega) (by omega) (by simp; omega) (w2.heap.size + 2) (by simp) ?_; intro g3 cap3 w3 hown3 hg3 hat3 hlt3; have hb3 := (hg3.block M ((HR2.out.alloc _).alloc _).lt (fun e => by have := own_M HR2.out.f M e.symm; omega)).trans ((HR2.out.alloc _).alloc _).box; have c3 := heap_cell hb3 1; have f3 := heap_free hb3 1; simp at c3; have HB3 := Lib.hid hb3; clear hb3)
  all_goals
    go_wp2
    refine bodyPost_end (results_none rfl _ _ _) rfl ?_
    rw [HS.out]
    exact ⟨rfl, ((hp2.alloc _).alloc _).drew.past hPM ((HR2.out.alloc _).alloc _).drew.f hg3 1, ((HR2.out.alloc _).alloc _).drew.addF hg3 hown3, (((hk2.alloc (Nat.le_of_lt hM2) _).alloc (by simp; omega) _).drew 1).past (by simp; omega) ((HR2.out.alloc _).alloc _).drew.f hg3 1⟩
end Go.Proofs.YtciiemomfniecaaGreatDoor
/-
  A map is read: the contract.
-/
namespace Go.Proofs.YtciiemomfniecaaGreatDoor
set_option maxRecDepth 100000

open Go.RowKit

theorem MRow.far {w w' : World} {P M : Nat} {m : Ms} {vF vO vR : Value} (h : MRow w M m vF vO vR) (hk : Kp w.heap.size P w w') (hP : P < M) : MRow w' M m vF vO vR :=
  h.kept fun k hk1 hk2 => hk.block k hk2 (by omega)
theorem heap_new_set (w : World) (a b : Addr) (u v : Value) (o : Obj) : ((((w.setCell a u).setCell b v).alloc o).drew).heap[w.heap.size]? = some o := by
  have := heap_alloc_new ((w.setCell a u).setCell b v) o
  simpa [World.setCell, World.drew] using this
set_option maxHeartbeats 2000000 in
theorem pairs_any (P E M : Nat) (s : S) (m : Ms) (w : World) (hp : PSt w P E s) (hm : MBox w M m) (hPM : P < M) (hn : m.F.length ≤ 100000) :
    Calls Tryz.prog 174 #[.pointer (some ⟨P, 0, none⟩), .pointer (some ⟨M, 0, none⟩)] w fun e w' => e = .returned (.tuple #[]) ∧ PSt w' P E (pairsF E s m).1 ∧ MBox w' M (pairsF E s m).2 ∧ Kp M P w w' := by
  obtain ⟨i0, hi, hz0, hz1, hz2⟩ := info_parts infoFds
  obtain ⟨vF, vO, vR, hr⟩ := hm.open_
  have hM := hr.lt
  have hPl : P < w.heap.size := by omega
  have HR := Lib.hid hr
  have HM0 := Lib.hid hm
  obtain ⟨d, hd⟩ : ∃ d : Fd, d = ⟨(mapS2 s).nameT, (mapS1 s).nameT, false, 0, (mapS3 s).nameT, (mapS3 s).nbdNo, s.place E⟩ := ⟨_, rfl⟩
  have H0 := Lib.hid (place_any P E s w hp)
  have H1 := Lib.hid (fun w h => word_any7 P E s ⟨#[109, 97, 112]⟩ w h)
  have H2 := Lib.hid (fun w h => sign_any7 P E (s.word wMap) ⟨#[60]⟩ w h)
  have H3 := Lib.hid (fun w h => name_any7 P E (mapS1 s) w h)
  have H4 := Lib.hid (fun w h => sign_any7 P E (mapS1 s).name ⟨#[44]⟩ w h)
  have H5 := Lib.hid (fun w h => name_any7 P E (mapS2 s) w h)
  have H6 := Lib.hid (fun w h => sign_any7 P E (mapS2 s).name ⟨#[62]⟩ w h)
  have H7 := Lib.hid (fun w h => nbd_any7 P E (mapS3 s) w h)
  have HC : Hid (FC d = [.string (txt (mapS2 s).nameT), .string (txt (mapS1 s).nameT), .bool false, .int .i64 0, .string (txt (mapS3 s).nameT), .int .i64 (mapS3 s).nbdNo, .int .i64 (s.place E)]) := Lib.hid (by rw [hd]; rfl)
  have HS : Hid (pairsF E s m = ((mapS3 s).nbd, m.add d)) := Lib.hid (by rw [hd]; rfl)
  have HP := Lib.hid hp
  clear hr hd hm hp
  go_enter Tryz.func174, Tryz.ntmps174
  go_wp2_with fail
  refine H0.out.mono ?_
  rintro e w0 ⟨rfl, rfl⟩
  go_wp2_with fail
  refine (H1.out _ (HP.out.alloc _)).mono ?_
  rintro e w1 ⟨rfl, hp1, hg1⟩
  have hs1 := hg1.size
  simp at hs1
  have HK1 := Lib.hid (((Kp.refl w.heap.size P w).alloc (Nat.le_refl _) _).taken hg1 (by simp))
  have HB1 := Lib.hid (stays (heap_alloc_new w _) hg1 hPl)
  clear hg1
  go_wp2_with fail
  refine (H2.out w1 hp1).mono ?_
  rintro e w2 ⟨rfl, hp2, hg2⟩
  have hs2 := hg2.size
  have HK2 := Lib.hid (HK1.out.taken hg2 (by omega))
  have HB2 := Lib.hid (stays HB1.out hg2 hPl)
  clear hg2 HK1 HB1
  go_wp2_with fail
  refine (H3.out w2 hp2).mono ?_
  rintro e w3 ⟨rfl, hp3, hg3⟩
  have hs3 := hg3.size
  have HK3 := Lib.hid (HK2.out.taken hg3 (by omega))
  have HB3 := Lib.hid (stays HB2.out hg3 hPl)
  have c1 := heap_cell HB3.out 1
  have f1 := heap_free HB3.out 1
  simp at c1
  clear hg3 HK2 HB2
  go_wp2_with fail
  refine (H4.out _ (hp3.setCell hPl _)).mono ?_
  rintro e w4 ⟨rfl, hp4, hg4⟩
  have hs4 := hg4.size
  simp [World.setCell] at hs4
  have HK4 := Lib.hid ((HK3.out.setCell (by simp) _).taken hg4 (by simp [World.setCell]; omega))
  have hb4 := stays (heap_setCell_same HB3.out _) hg4 hPl
  simp at hb4
  have HB4 := Lib.hid hb4
  clear hg4 HK3 HB3 hb4 c1 f1
  go_wp2_with fail
  refine (H5.out w4 hp4).mono ?_
  rintro e w5 ⟨rfl, hp5, hg5⟩
  have hs5 := hg5.size
  have HK5 := Lib.hid (HK4.out.taken hg5 (by omega))
  have HB5 := Lib.hid (stays HB4.out hg5 hPl)
  have c0 := heap_cell HB5.out 0
  have f0 := heap_free HB5.out 0
  simp at c0
  clear hg5 HK4 HB4
  go_wp2_with fail
  refine (H6.out _ (hp5.setCell hPl _)).mono ?_
  rintro e w6 ⟨rfl, hp6, hg6⟩
  have hs6 := hg6.size
  simp [World.setCell] at hs6
  have HK6 := Lib.hid ((HK5.out.setCell (by simp) _).taken hg6 (by simp [World.setCell]; omega))
  have hb6 := stays (heap_setCell_same HB5.out _) hg6 hPl
  simp at hb6
  have HB6 := Lib.hid hb6
  clear hg6 HK5 HB5 hb6 c0 f0
  go_wp2_with fail
  refine (H7.out w6 hp6).mono ?_
  rintro e w7 ⟨rfl, hp7, hg7⟩
  have hs7 := hg7.size
  have HK7 := Lib.hid (HK6.out.taken hg7 (by omega))
  have hb7 := stays HB6.out hg7 hPl
  have c0 := heap_cell hb7 0
  have c1 := heap_cell hb7 1
  have c2 := heap_cell hb7 2
  have c3 := heap_cell hb7 3
  have c4 := heap_cell hb7 4
  have c5 := heap_cell hb7 5
  have c6 := heap_cell hb7 6
  have f4 := heap_free hb7 4
  have f5 := heap_free hb7 5
  simp at c0 c1 c2 c3 c4 c5 c6
  have HB7 := Lib.hid hb7
  have hr7 := HR.out.far HK7.out hPM
  have cM := heap_cell hr7.box 1
  simp at cM
  have hM7 := hr7.lt
  have HR7 := Lib.hid ((HR.out.far ((HK7.out.setCell (p := ⟨w.heap.size, 4, none⟩) (by simp) (.string (txt (mapS3 s).nameT))).setCell (p := ⟨w.heap.size, 5, none⟩) (by simp) (.int .i64 (mapS3 s).nbdNo)) hPM).alloc (.cells #[.string (txt (mapS2 s).nameT), .string (txt (mapS1 s).nameT), .bool false, .int .i64 0, .string (txt (mapS3 s).nameT), .int .i64 (mapS3 s).nbdNo, .int .i64 (s.place E)] 53)).drew
  clear hg7 HK6 HB6 hb7 hr7
  go_wp2_with fail
  go_region_law
    (refine step_append_lies _ rfl _ _ 47 rfl (M + 1) 53 i0 _ 7 80 Tryz.underlying47 hi hz0 hz1 hz2 rfl (by decide) vF m.F.length (fdv m.F) (by simp [Act.eval, Act.put]) HR7.out.f ⟨w7.heap.size, 0, none⟩ 1 1 (FC d) (by simp [Act.eval, Act.put]) rfl (by rw [HC.out]; exact World.news_of_block (heap_new_set w7 _ _ _ _ _)) (by intro u hu; exact fdv_cells [d] u (by rw [fdv_one]; exact hu)) (by decide) (by unfold maxLen; omega) (by omega) (by simp [World.setCell]; omega) (w7.heap.size + 1) (by simp [World.setCell]) ?_; intro g8 cap8 w8 hown8 hg8 hat8 hlt8; have hb8 := (hg8.block M HR7.out.lt (fun e => by have := own_M HR7.out.f M e.symm; omega)).trans HR7.out.box; have cM8 := heap_cell hb8 1; have fM8 := heap_free hb8 1; simp at cM8; have HB8 := Lib.hid hb8; clear hb8)
  all_goals
    go_wp2
    refine bodyPost_end (results_none rfl _ _ _) rfl ?_
    rw [HS.out]
    exact ⟨rfl, (((hp7.setCell hPl _).setCell hPl _).alloc _).drew.past hPM HR7.out.f hg8 1, HR7.out.addF hg8 hown8, (((((HK7.out.setCell (by simp) _).setCell (by simp) _).alloc (by simp [World.setCell]; omega) _).drew 1).mono (Nat.le_of_lt hM)).past (by simp [World.setCell]; omega) HR7.out.f hg8 1⟩
end Go.Proofs.YtciiemomfniecaaGreatDoor
