/-
  A schema under way: its block, and its rows.
-/
import Derived.Test.YtciiemomfniecaaGreatDoorTabEnum
namespace Go.Proofs.YtciiemomfniecaaGreatDoor
set_option maxRecDepth 100000

open Go.RowKit Go.Maps

/-- The types of the innermost rows. -/
def leafS (t : TypeId) : Bool := t == 39 || t == 9 || t == 2
/-- The innermost rows stay. -/
def LeafS (w w' : World) : Prop := ∀ (k : Nat) (cs : Array Value) (t : TypeId), w.heap[k]? = some (Obj.cells cs t (0, 0)) → leafS t = true → w'.heap[k]? = w.heap[k]?
theorem LeafS.refl (w : World) : LeafS w w := fun _ _ _ _ _ => rfl
theorem LeafS.trans {a b c : World} (h : LeafS a b) (k : LeafS b c) : LeafS a c := fun i cs t hi ht => (k i cs t ((h i cs t hi ht).trans hi) ht).trans (h i cs t hi ht)
theorem LeafS.below {w w' : World} (h : Below w.heap.size w w') : LeafS w w' := fun i _ _ hi _ => h.block i (Array.getElem?_eq_some_iff.1 hi).1
theorem LeafS.alloc (w : World) (o : Obj) : LeafS w (w.alloc o) := fun i _ _ hi _ => Below.heap_alloc w o i (Array.getElem?_eq_some_iff.1 hi).1
theorem LeafS.grown {w w' : World} {g : Nat} {cs : Array Value} {t : TypeId} {fr : Nat × Nat} (hg : w.grownBy w' (some g)) (ho : w.heap[g]? = some (.cells cs t fr)) (ht : leafS t = false) : LeafS w w' := fun i cs' t' hi hl => by
  refine hg.block i (Array.getElem?_eq_some_iff.1 hi).1 ?_
  simp only [ne_eq, Option.some.injEq]
  rintro rfl
  rw [hi] at ho
  simp only [Option.some.injEq, Obj.cells.injEq] at ho
  rw [ho.2.1, ht] at hl
  cases hl
theorem LeafS.own {w w' : World} {b : Nat} {e : TypeId} {size : Nat} {v : Value} {n : Nat} {xs : List Value} (hr : w.ownsRow b e size v n xs) (hg : w.grownBy w' v.ownBlock) (ht : leafS e = false) : LeafS w w' := by
  rcases hr.2 with ⟨rfl, _⟩ | ⟨g', cap, cur, rfl, _, h2, _⟩
  · exact fun i _ _ hi _ => hg.block i (Array.getElem?_eq_some_iff.1 hi).1 (by simp [Value.ownBlock])
  · exact LeafS.grown hg h2 ht
theorem own_leafS {w w' : World} {b : Nat} {e : TypeId} {size : Nat} {v : Value} {n : Nat} {xs : List Value} (hr : w.ownsRow b e size v n xs) (h : LeafS w w') (ht : leafS e = true) : w'.ownsRow b e size v n xs := by
  rcases hr with ⟨hl, ⟨rfl, rfl⟩ | ⟨g, cap, cur, rfl, h1, h2, h3⟩⟩
  · exact ⟨hl, .inl ⟨rfl, rfl⟩⟩
  · exact ⟨hl, .inr ⟨g, cap, cur, rfl, h1, (h g _ _ h2 ht).trans h2, h3⟩⟩

def MdRead (w : World) (m : Md) (vF : Value) : Prop := w.ownsRow 0 39 7 vF m.F.length (dfv m.F)
structure EdRead (w : World) (e : Ed) (vV vN : Value) : Prop where
  v : w.ownsRow 0 9 1 vV e.V.length (strv e.V)
  n : w.ownsRow 0 2 1 vN e.N.length (intv e.N)
theorem MdRead.leaf {w w' : World} {m : Md} {vF : Value} (h : MdRead w m vF) (hl : LeafS w w') : MdRead w' m vF := own_leafS h hl rfl
theorem EdRead.leaf {w w' : World} {e : Ed} {vV vN : Value} (h : EdRead w e vV vN) (hl : LeafS w w') : EdRead w' e vV vN := ⟨own_leafS h.v hl rfl, own_leafS h.n hl rfl⟩
def MdsAre (w : World) : List Md → List Value → Prop
  | [], xs => xs = []
  | m :: l, xs => ∃ vF ys, xs = MDC m vF ++ ys ∧ MdRead w m vF ∧ MdsAre w l ys
def EdsAre (w : World) : List Ed → List Value → Prop
  | [], xs => xs = []
  | e :: l, xs => ∃ vV vN ys, xs = EDC e vV vN ++ ys ∧ EdRead w e vV vN ∧ EdsAre w l ys
theorem MdsAre.leaf {w w' : World} (hl : LeafS w w') : ∀ {l : List Md} {xs : List Value}, MdsAre w l xs → MdsAre w' l xs
  | [], _, h => h
  | _ :: _, _, ⟨vF, ys, h1, h2, h3⟩ => ⟨vF, ys, h1, h2.leaf hl, h3.leaf hl⟩
theorem EdsAre.leaf {w w' : World} (hl : LeafS w w') : ∀ {l : List Ed} {xs : List Value}, EdsAre w l xs → EdsAre w' l xs
  | [], _, h => h
  | _ :: _, _, ⟨vV, vN, ys, h1, h2, h3⟩ => ⟨vV, vN, ys, h1, h2.leaf hl, h3.leaf hl⟩
theorem MdsAre.snoc {w : World} {m : Md} {vF : Value} (hm : MdRead w m vF) : ∀ {l : List Md} {xs : List Value}, MdsAre w l xs → MdsAre w (l ++ [m]) (xs ++ MDC m vF)
  | [], xs, h => by cases h; exact ⟨vF, [], by simp, hm, rfl⟩
  | _ :: _, _, ⟨a, ys, h1, h2, h3⟩ => ⟨a, ys ++ MDC m vF, by rw [h1]; simp, h2, h3.snoc hm⟩
theorem EdsAre.snoc {w : World} {m : Ed} {vV vN : Value} (hm : EdRead w m vV vN) : ∀ {l : List Ed} {xs : List Value}, EdsAre w l xs → EdsAre w (l ++ [m]) (xs ++ EDC m vV vN)
  | [], xs, h => by cases h; exact ⟨vV, vN, [], by simp, hm, rfl⟩
  | _ :: _, _, ⟨a, b, ys, h1, h2, h3⟩ => ⟨a, b, ys ++ EDC m vV vN, by rw [h1]; simp, h2, h3.snoc hm⟩
theorem MdRead.cells {w : World} {m : Md} {vF : Value} (h : MdRead w m vF) : ∀ u ∈ MDC m vF, u.oneCell' = true := by
  intro u hu
  simp only [MDC, List.mem_cons, List.not_mem_nil, or_false] at hu
  rcases hu with rfl | rfl
  · rfl
  · exact own_one h
theorem EdRead.cells {w : World} {m : Ed} {vV vN : Value} (h : EdRead w m vV vN) : ∀ u ∈ EDC m vV vN, u.oneCell' = true := by
  intro u hu
  simp only [EDC, List.mem_cons, List.not_mem_nil, or_false] at hu
  rcases hu with rfl | rfl | rfl
  · rfl
  · exact own_one h.v
  · exact own_one h.n
theorem infoMds : (Tryz.prog.info? 56).map (fun i => (i.zero, i.size, i.bytes)) = some (some (.agg #[.string ⟨#[]⟩, .slice none 0 0]), 2, 40) := by kernel_rfl
theorem infoEds : (Tryz.prog.info? 68).map (fun i => (i.zero, i.size, i.bytes)) = some (some (.agg #[.string ⟨#[]⟩, .slice none 0 0, .slice none 0 0]), 3, 64) := by kernel_rfl
structure SRow (w : World) (S : Nat) (s : Sc) (vM vE : Value) (xs ys : List Value) : Prop where
  box : w.heap[S]? = some (.cells #[vM, vE] 29 (0, 0))
  m : w.ownsRow (S + 1) 56 2 vM s.M.length xs
  ms : MdsAre w s.M xs
  e : w.ownsRow (S + 1) 68 3 vE s.E.length ys
  es : EdsAre w s.E ys
theorem SRow.lt {w : World} {S : Nat} {s : Sc} {vM vE : Value} {xs ys : List Value} (h : SRow w S s vM vE xs ys) : S < w.heap.size := (Array.getElem?_eq_some_iff.1 h.box).1
theorem SRow.kept {w w' : World} {S : Nat} {s : Sc} {vM vE : Value} {xs ys : List Value} (h : SRow w S s vM vE xs ys) (hk : ∀ k, S ≤ k → k < w.heap.size → w'.heap[k]? = w.heap[k]?) (hl : LeafS w w') : SRow w' S s vM vE xs ys :=
  ⟨(hk S (Nat.le_refl _) h.lt).trans h.box, own_kept (B := 0) (P := 0) h.m (fun k hk1 hk2 => hk k (by omega) hk2), h.ms.leaf hl, own_kept (B := 0) (P := 0) h.e (fun k hk1 hk2 => hk k (by omega) hk2), h.es.leaf hl⟩
theorem SRow.alloc {w : World} {S : Nat} {s : Sc} {vM vE : Value} {xs ys : List Value} (h : SRow w S s vM vE xs ys) (o : Obj) : SRow (w.alloc o) S s vM vE xs ys :=
  h.kept (fun k _ hk => Below.heap_alloc w o k hk) (LeafS.alloc w o)
theorem SRow.on {w w' : World} {S : Nat} {s : Sc} {vM vE : Value} {xs ys : List Value} (h : SRow w S s vM vE xs ys) (hb : Below w.heap.size w w') : SRow w' S s vM vE xs ys :=
  h.kept (fun k _ hk => hb.block k hk) (LeafS.below hb)
theorem SRow.addM {w w' : World} {S : Nat} {s : Sc} {vM vE v : Value} {xs ys : List Value} {m : Md} {vF : Value} (h : SRow w S s vM vE xs ys) (hm : MdRead w m vF) (hg : w.grownBy w' vM.ownBlock) (hown : w'.ownsRow (S + 1) 56 2 v (s.M.length + 1) (xs ++ MDC m vF)) :
    SRow (w'.setCell ⟨S, 0, none⟩ v) S { s with M := s.M ++ [m] } v vE (xs ++ MDC m vF) ys := by
  have hb : w'.heap[S]? = _ := (hg.block S h.lt (fun e => by have := own_M h.m S e.symm; omega)).trans h.box
  have hl : LeafS w (w'.setCell ⟨S, 0, none⟩ v) := (LeafS.own h.m hg rfl).trans (LeafS.grown (grown_set w' S 0 v) hb rfl)
  refine ⟨?_, ?_, (h.ms.snoc hm).leaf hl, ?_, h.es.leaf hl⟩
  · have := heap_setCell_same hb (j := 0) v
    simpa using this
  · have := own_set hown (a := ⟨S, 0, none⟩) (by simp) v
    simpa using this
  · exact own_set (h.e.kept hg (own_apart h.e h.m (by decide))) (by simp) v
theorem SRow.addE {w w' : World} {S : Nat} {s : Sc} {vM vE v : Value} {xs ys : List Value} {m : Ed} {vV vN : Value} (h : SRow w S s vM vE xs ys) (hm : EdRead w m vV vN) (hg : w.grownBy w' vE.ownBlock) (hown : w'.ownsRow (S + 1) 68 3 v (s.E.length + 1) (ys ++ EDC m vV vN)) :
    SRow (w'.setCell ⟨S, 1, none⟩ v) S { s with E := s.E ++ [m] } vM v xs (ys ++ EDC m vV vN) := by
  have hb : w'.heap[S]? = _ := (hg.block S h.lt (fun e => by have := own_M h.e S e.symm; omega)).trans h.box
  have hl : LeafS w (w'.setCell ⟨S, 1, none⟩ v) := (LeafS.own h.e hg rfl).trans (LeafS.grown (grown_set w' S 1 v) hb rfl)
  refine ⟨?_, ?_, h.ms.leaf hl, ?_, (h.es.snoc hm).leaf hl⟩
  · have := heap_setCell_same hb (j := 1) v
    simpa using this
  · exact own_set (h.m.kept hg (own_apart h.m h.e (by decide))) (by simp) v
  · have := own_set hown (a := ⟨S, 1, none⟩) (by simp) v
    simpa using this
/-- A schema, as it is made. -/
def SRead (w : World) (s : Sc) (vM vE : Value) : Prop := ∃ xs ys, w.ownsRow 0 56 2 vM s.M.length xs ∧ MdsAre w s.M xs ∧ w.ownsRow 0 68 3 vE s.E.length ys ∧ EdsAre w s.E ys
theorem SRow.read {w : World} {S : Nat} {s : Sc} {vM vE : Value} {xs ys : List Value} (h : SRow w S s vM vE xs ys) : SRead w s vM vE := ⟨xs, ys, own_mono h.m (Nat.zero_le _), h.ms, own_mono h.e (Nat.zero_le _), h.es⟩
theorem SRead.nothing (w : World) : SRead w ⟨[], []⟩ (.slice none 0 0) (.slice none 0 0) := ⟨[], [], World.ownsRow_nil _ _ _ _, rfl, World.ownsRow_nil _ _ _ _, rfl⟩
theorem SRead.other {w w' : World} {s : Sc} {vM vE : Value} (h : SRead w s vM vE) {g : Nat} {cs : Array Value} {t : TypeId} {fr : Nat × Nat} (hg : w.grownBy w' (some g)) (ho : w.heap[g]? = some (.cells cs t fr)) (h1 : t ≠ 56) (h2 : t ≠ 68) (h3 : leafS t = false) : SRead w' s vM vE := by
  obtain ⟨xs, ys, a, b, c, d⟩ := h
  exact ⟨xs, ys, own_other a hg ho h1, b.leaf (LeafS.grown hg ho h3), own_other c hg ho h2, d.leaf (LeafS.grown hg ho h3)⟩
theorem SRead.on {w w' : World} {s : Sc} {vM vE : Value} (h : SRead w s vM vE) (hb : Below w.heap.size w w') : SRead w' s vM vE := by
  obtain ⟨xs, ys, a, b, c, d⟩ := h
  exact ⟨xs, ys, own_below a hb, b.leaf (LeafS.below hb), own_below c hb, d.leaf (LeafS.below hb)⟩
theorem MdsAt.of_own {w : World} : ∀ {l : List Md} {xs : List Value}, MdsAre w l xs → MdsAt w.heap.size w l xs
  | [], _, h => h
  | _ :: _, _, ⟨vF, ys, h1, h2, h3⟩ => ⟨vF, ys, h1, Rb.of_own h2, MdsAt.of_own h3⟩
theorem EdsAt.of_own {w : World} : ∀ {l : List Ed} {xs : List Value}, EdsAre w l xs → EdsAt w.heap.size w l xs
  | [], _, h => h
  | _ :: _, _, ⟨vV, vN, ys, h1, h2, h3⟩ => ⟨vV, vN, ys, h1, Rb.of_own h2.v, Rb.of_own h2.n, EdsAt.of_own h3⟩
theorem SRead.at {w : World} {s : Sc} {vM vE : Value} (h : SRead w s vM vE) : SAt w.heap.size w s vM vE := by
  obtain ⟨xs, ys, a, b, c, d⟩ := h
  exact ⟨xs, ys, Rb.of_own a, MdsAt.of_own b, Rb.of_own c, EdsAt.of_own d⟩
theorem infoSc : (Tryz.prog.info? 29).map (·.size) = some 2 := by kernel_rfl
theorem wpList_store_sc {ops : Array Oper} {rest : List Oper} {o : Oper} {a : Act} {w : World} {Q : Exit → Act → World → Prop} (hgd : o.guard = none) (x y : Operand) (ho : o.op = .store 29 x y)
    (hd : o.dst = none) (g : Nat) (v0 v1 u0 u1 : Value) (hx : a.eval x = .pointer (some ⟨g, 0, none⟩)) (hy : a.eval y = .agg #[v0, v1]) (h0 : v0.oneCell' = true) (h1 : v1.oneCell' = true)
    (t : TypeId) (hg : w.heap[g]? = some (.cells #[u0, u1] t (0, 0)))
    (h : wpList Tryz.prog ops Q rest a (w.setRow g #[v0, v1])) : wpList Tryz.prog ops Q (o :: rest) a w :=
  wpList_store_rowTo hgd 29 x y ho hd g _ hx hy t _ hg infoSc rfl (by simp [h0, h1]) h
theorem wpList_load_sc {ops : Array Oper} {rest : List Oper} {o : Oper} {a : Act} {w : World} {Q : Exit → Act → World → Prop} (hgd : o.guard = none) (x : Operand) (ho : o.op = .load 29 x)
    (g : Nat) (u0 u1 : Value) (hx : a.eval x = .pointer (some ⟨g, 0, none⟩)) (t : TypeId) (fr : Nat × Nat) (hg : w.heap[g]? = some (.cells #[u0, u1] t fr))
    (h : wpList Tryz.prog ops Q rest (a.put o.dst (.agg #[u0, u1])) w) : wpList Tryz.prog ops Q (o :: rest) a w :=
  wpList_load_row hgd 29 x ho g hx t _ fr _ hg Tryz.underlying29 rfl infoSc h
theorem results_sc2 {fn : Func} {p u v : Tmp} (h : fn.results = #[.cell p 29, .tmp u, .tmp v]) (tmps : Array Value) (w : World) (g : Nat) (t : TypeId) (u0 u1 : Value) (fr : Nat × Nat)
    (hp : tmps.getD p undef = .pointer (some ⟨g, 0, none⟩)) (hg : w.heap[g]? = some (.cells #[u0, u1] t fr)) :
    (results fn tmps).run Tryz.prog w = .ok (.tuple #[.agg #[u0, u1], tmps.getD u undef, tmps.getD v undef]) w :=
  results_row_tmp2 h tmps w g t _ fr _ hp hg Tryz.underlying29 rfl infoSc
theorem Mean.own_ne {w : World} {b n base : Nat} {f : List UInt8 → Option (Int × Int)} {e : TypeId} {size k : Nat} {v : Value} {xs : List Value} (h : Mean w b n f) (ho : w.ownsRow base e size v k xs) : some b ≠ v.ownBlock := by
  obtain ⟨D, ⟨es, clock, h1, _⟩, _⟩ := h
  rcases ho.2 with ⟨rfl, _⟩ | ⟨g, cap, cur, rfl, _, h2, _⟩
  · simp [Value.ownBlock]
  · intro e
    have : b = g := by simpa [Value.ownBlock] using e
    subst this
    rw [h1] at h2
    cases h2
theorem errM_code {f : Fl} {m : Ms} {a : Int} {c : Nat} (h : errM f m = some (a, c)) : c ≠ 0 := by
  unfold errM firstOf at h
  obtain ⟨k, hk⟩ := List.exists_of_findSome?_eq_some h
  obtain ⟨_, hk⟩ := hk
  obtain ⟨x, -, hx⟩ := Option.bind_eq_some_iff.1 hk
  unfold fdErr at hx
  split at hx
  · cases hx; omega
  · split at hx
    · cases hx; omega
    · split at hx
      · cases hx; omega
      · cases hx
theorem vlErr_code {e : En} {a : Int} {c : Nat} (h : firstOf (vlErr e) e.V = some (a, c)) : c ≠ 0 := by
  unfold firstOf at h
  obtain ⟨k, hk⟩ := List.exists_of_findSome?_eq_some h
  obtain ⟨_, hk⟩ := hk
  obtain ⟨x, -, hx⟩ := Option.bind_eq_some_iff.1 hk
  unfold vlErr at hx
  split at hx
  · cases hx; omega
  · cases hx
theorem errH_code {f : Fl} {a : Int} {c : Nat} (h : errH f = some (a, c)) : c ≠ 0 := by
  unfold errH at h
  obtain ⟨k, hk⟩ := List.exists_of_findSome?_eq_some h
  obtain ⟨_, hk⟩ := hk
  unfold hdErr at hk
  split at hk
  · cases hk; omega
  · split at hk
    · cases hk; omega
    · cases hk
end Go.Proofs.YtciiemomfniecaaGreatDoor
/-
  A file that is resolved: the contract.
-/
namespace Go.Proofs.YtciiemomfniecaaGreatDoor
set_option maxRecDepth 100000

open Go.RowKit Go.Maps

/-- What is told with an error, and with none. -/
theorem tab_bad {f : Fl} {r : Int × Nat} (h : errR f = some r) : tabS f = ⟨[], []⟩ ∧ tabAt f = r.1 ∧ tabE f = r.2 := by
  unfold tabS tabAt tabE; rw [h]; exact ⟨rfl, rfl, rfl⟩
theorem tab_fine {f : Fl} (h : errR f = none) : tabS f = schF f ∧ tabAt f = 0 ∧ tabE f = 0 := by
  unfold tabS tabAt tabE; rw [h]; exact ⟨rfl, rfl, rfl⟩
theorem errR_is {f : Fl} (h : sizeBad f = false) : errR f = ((errH f).or (errF f)).or (errV f) := by unfold errR; rw [h]; rfl
def ResPost (f : Fl) (w : World) (e : Ending) (w' : World) : Prop := ∃ vM vE, e = .returned (.tuple #[.agg #[vM, vE], .int .i64 (tabAt f), .int .i64 ((tabE f : Nat) : Int)]) ∧ SRead w' (tabS f) vM vE ∧ Below w.heap.size w w'
def ResRel1 (f : Fl) (S b n : Nat) (w5 : World) (i : Value) (wr : World) : Prop :=
  ∃ (k : Nat) (vM vE : Value) (xs ys : List Value), i = .int .i64 k ∧ k ≤ f.M.length ∧ (∀ j m, j < k → f.M[j]? = some m → errM f m = none) ∧ SRow wr S ⟨(f.M.take k).map (msgD f), []⟩ vM vE xs ys ∧ Mean wr b n (kindF f) ∧ Below S w5 wr
def ResRel2 (f : Fl) (S : Nat) (w5 : World) (i : Value) (wr : World) : Prop :=
  ∃ (k : Nat) (vM vE : Value) (xs ys : List Value), i = .int .i64 k ∧ k ≤ f.E.length ∧ (∀ j e, j < k → f.E[j]? = some e → firstOf (vlErr e) e.V = none) ∧ SRow wr S ⟨f.M.map (msgD f), (f.E.take k).map enD⟩ vM vE xs ys ∧ Below S w5 wr
theorem lit_md2 (w : World) (o : Obj) (m : Md) (vF : Value) : Sl ((w.alloc o).alloc (.cells #[.string (txt m.name), vF] 56)) (some ⟨w.heap.size + 1, 0, none⟩) 1 1 2 (MDC m vF) := by
  have h := lit_struct (w.alloc o) (MDC m vF) 56 (by unfold maxLen; simp [MDC])
  rw [World.size_alloc] at h
  exact h
theorem lit_ed2 (w : World) (o : Obj) (m : Ed) (vV vN : Value) : Sl ((w.alloc o).alloc (.cells #[.string (txt m.name), vV, vN] 68)) (some ⟨w.heap.size + 1, 0, none⟩) 1 1 3 (EDC m vV vN) := by
  have h := lit_struct (w.alloc o) (EDC m vV vN) 68 (by unfold maxLen; simp [EDC])
  rw [World.size_alloc] at h
  exact h
theorem ret_bad {f : Fl} {w w' : World} {r : Int × Nat} (h : errR f = some r) (hb : Below w.heap.size w w') : ∃ vM vE, Ending.returned (.tuple #[.agg #[.slice none 0 0, .slice none 0 0], .int .i64 r.1, .int .i64 ((r.2 : Nat) : Int)]) = .returned (.tuple #[.agg #[vM, vE], .int .i64 (tabAt f), .int .i64 ((tabE f : Nat) : Int)]) ∧ SRead w' (tabS f) vM vE ∧ Below w.heap.size w w' := by
  obtain ⟨h1, h2, h3⟩ := tab_bad h
  rw [h1, h2, h3]
  exact ⟨_, _, rfl, SRead.nothing _, hb⟩

set_option maxRecDepth 1000000 in
set_option maxHeartbeats 8000000 in
theorem resolve_any (B : Nat) (f : Fl) (vM vE : Value) (w : World) (hB : B ≤ w.heap.size) (hf : FAt B w f vM vE) (hin : FlIn f) (T : Tabs w) :
    Calls Tryz.prog 12 #[.agg #[vM, vE]] w (ResPost f w) := by
  have HC := Lib.hid (fun wx (hx : Below w.heap.size w wx) h1 h2 hT => checkHeads_any B f vM vE wx (Nat.le_trans hB hx.size) (hf.low (Low.below hx hB)) hin h1 h2 hT)
  have HMN := Lib.hid (fun wx (hx : Below w.heap.size w wx) h1 h2 h3 h4 hT => meanings_any B f vM vE wx (Nat.le_trans hB hx.size) (hf.low (Low.below hx hB)) hin h1 h2 h3 h4 hT)
  obtain ⟨xs, ys, ⟨A1, q1, rfl, s1, a1⟩, h2, ⟨A2, q2, rfl, s2, a2⟩, h4⟩ := hf
  have HM := Lib.hid s1
  have HE := Lib.hid s2
  have HMA := Lib.hid h2
  have HEA := Lib.hid h4
  have HIN := Lib.hid hin
  have HT := Lib.hid T
  obtain ⟨i0, hi, hz0, hz1, hz2⟩ := info_parts infoMds
  obtain ⟨j0, hj, hy0, hy1, hy2⟩ := info_parts infoEds
  have hb0 : Below w.heap.size w ((w.alloc (.cells #[.slice A1 f.M.length q1, .slice A2 f.E.length q2] 25)).alloc (.cells #[.slice none 0 0, .slice none 0 0] 29)) := below_lit (below_new _ _) _
  have hx0 : ((w.alloc (.cells #[.slice A1 f.M.length q1, .slice A2 f.E.length q2] 25)).alloc (.cells #[.slice none 0 0, .slice none 0 0] 29)).heap[w.heap.size]? = some (.cells #[.slice A1 f.M.length q1, .slice A2 f.E.length q2] 25 (0, 0)) := ((below_new _ _).block _ (by simp)).trans (heap_alloc_new w _)
  have hr0 := heap_second w (.cells #[.slice A1 f.M.length q1, .slice A2 f.E.length q2] 25) (.cells #[.slice none 0 0, .slice none 0 0] 29)
  have hs0 : ((w.alloc (.cells #[.slice A1 f.M.length q1, .slice A2 f.E.length q2] 25)).alloc (.cells #[.slice none 0 0, .slice none 0 0] 29)).heap.size = w.heap.size + 2 := by simp
  have HH := Lib.hid (fun wx => mayHold_any (f.M.length : Int) (f.E.length : Int) wx)
  clear s1 s2 h2 h4 hin T
  by_cases hsz : sizeBad f = true
  · have hh : (decide (1 ≤ (f.M.length : Int)) && decide ((f.M.length : Int) ≤ 20) && decide ((f.E.length : Int) ≤ 20)) = false := by
      simp only [sizeBad, Bool.or_eq_true, decide_eq_true_eq] at hsz
      simp only [Bool.and_eq_false_iff, decide_eq_false_iff_not]
      omega
    rw [hh] at HH
    have HE0 : Hid (errR f = some (0, 2)) := Lib.hid (by unfold errR; rw [if_pos hsz])
    clear hh hsz HC HMN
    go_enter Tryz.func12, Tryz.ntmps12
    go_wp2_with (first
      | (go_at_call 31; refine (HH.out _).mono ?_; rintro e w1 ⟨rfl, rfl⟩)
      | (refine wpList_store_sc rfl _ _ rfl rfl (w.heap.size + 1) _ _ _ _ rfl rfl rfl rfl _ hr0 ?_))
    refine bodyPost_ret (results_sc2 rfl _ _ (w.heap.size + 1) _ _ _ (0, 0) rfl (setRow_heap _ _ _ _ _ _ hr0)) rfl ?_
    exact ret_bad HE0.out (below_setRow hb0 (by omega) _)
  · have hsb : sizeBad f = false := by simpa using hsz
    have hn : 1 ≤ f.M.length ∧ f.M.length ≤ 20 ∧ f.E.length ≤ 20 := by
      simp only [sizeBad, Bool.or_eq_false_iff, decide_eq_false_iff_not] at hsb
      omega
    obtain ⟨hn0, hn1, hn2⟩ := hn
    have hh : (decide (1 ≤ (f.M.length : Int)) && decide ((f.M.length : Int) ≤ 20) && decide ((f.E.length : Int) ≤ 20)) = true := by
      simp only [Bool.and_eq_true, decide_eq_true_eq]
      omega
    rw [hh] at HH
    have HER := Lib.hid (errR_is hsb)
    have HC0 := Lib.hid (HC.out _ hb0 hn1 hn2 (HT.out.on hb0))
    clear hh hsz hsb HC
    cases hh2 : errH f with
    | some r =>
      obtain ⟨ra, rc⟩ := r
      have HE0 : Hid (errR f = some (ra, rc)) := Lib.hid (by rw [HER.out, hh2]; rfl)
      have hc := errH_code hh2
      have hcn : ((rc : Int) != 0) = true := by rw [bne_iff_ne]; omega
      rw [hh2] at HC0
      unfold errV2 at HC0
      simp only [Option.map_some, Option.getD_some] at HC0
      clear hh2 hc HMN
      go_enter Tryz.func12, Tryz.ntmps12
      go_wp2_with (first
        | (go_at_call 31; refine (HH.out _).mono ?_; rintro e w1 ⟨rfl, rfl⟩)
        | (go_at_call 32; refine HC0.out.mono ?_; rintro e w2 ⟨rfl, hb2⟩; have hr2 := (hb2.block _ (by rw [hs0]; omega)).trans hr0)
        | (refine wpList_store_sc rfl _ _ rfl rfl (w.heap.size + 1) _ _ _ _ rfl rfl rfl rfl _ hr2 ?_))
      refine bodyPost_ret (results_sc2 rfl _ _ (w.heap.size + 1) _ _ _ (0, 0) rfl (setRow_heap _ _ _ _ _ _ hr2)) rfl ?_
      exact ret_bad HE0.out (below_setRow (below_then hb0 hb2) (by omega) _)
    | none =>
      rw [hh2] at HC0
      unfold errV2 at HC0
      simp only [Option.map_none, Option.getD_none] at HC0
      obtain ⟨hp, hpl, hMs, hEs⟩ := errH_none.1 hh2
      rw [hh2, Option.none_or] at HER
      have HMS := Lib.hid hMs
      have HES := Lib.hid hEs
      have HMN2 := Lib.hid (fun wx hx hT => HMN.out wx hx hn1 hn2 hp hpl hT)
      clear hMs hEs HMN hp hpl hh2
      go_enter Tryz.func12, Tryz.ntmps12
      go_wp2_with (first
        | (go_at_call 31; refine (HH.out _).mono ?_; rintro e w1 ⟨rfl, rfl⟩)
        | (go_at_call 32; refine HC0.out.mono ?_; rintro e w2 ⟨rfl, hb2⟩; have z2 := hb2.size; rw [hs0] at z2; have hx2 := (hb2.block _ (by rw [hs0]; omega)).trans hx0; have hr2 := (hb2.block _ (by rw [hs0]; omega)).trans hr0; have hbw2 := below_then hb0 hb2; have x0 := heap_cell hx2 0; have x1 := heap_cell hx2 1; simp at x0 x1; have hlt2 : w.heap.size < w2.heap.size := by omega)
        | (go_at_call 33; refine (HMN2.out _ (below_lit hbw2 _) (HT.out.on (below_lit hbw2 _))).mono ?_; rintro e w5 ⟨b, n, rfl, hbl, hmn, hb5⟩; have z5 := hb5.size; rw [World.size_alloc] at z5 hbl; have hx5 := (hb5.block _ (by simp; omega)).trans (((below_new w2 _).block _ hlt2).trans hx2); have hr5 := (hb5.block _ (by simp; omega)).trans (((below_new w2 _).block _ (by omega)).trans hr2); have hbw5 := below_then (below_lit hbw2 _) hb5; have y0 := heap_cell hx5 0; have y1 := heap_cell hx5 1; simp at y0 y1; have hS5 := (hb5.block w2.heap.size (by simp)).trans (heap_alloc_new w2 _)))
      obtain ⟨S, hSe⟩ : ∃ S, w2.heap.size = S := ⟨_, rfl⟩
      simp only [hSe] at hS5 hbl z5 z2 hlt2 ⊢
      have HX5 := Lib.hid hx5
      have HR5 := Lib.hid hr5
      have HB5 := Lib.hid hbw5
      have hSR : SRow w5 S ⟨[], []⟩ (.slice none 0 0) (.slice none 0 0) [] [] := ⟨hS5, World.ownsRow_nil _ _ _ _, rfl, World.ownsRow_nil _ _ _ _, rfl⟩
      clear hx0 hx2 hx5 hr0 hr2 hr5 hbw2 hbw5 hb2 hb5 hS5 x0 x1 y0 y1 hb0 HC0 HMN2 hSe
      go_loopw [43] (fun i wr => ResRel1 f S b n w5 i wr) (fun i _ => f.M.length - (intOf i).toNat)
      case atStart => exact ⟨0, _, _, _, _, rfl, by omega, fun j m hj => by omega, hSR, hmn, Below.refl _ _⟩
      case round =>
        obtain ⟨k, vM, vE, xs, ys, rfl, hk, herr, hSR, hmn, hb⟩ := hrel
        have hzr := hb.size
        have hxr := (hb.block w.heap.size (by omega)).trans HX5.out
        have hrr := (hb.block (w.heap.size + 1) (by omega)).trans HR5.out
        have hbw := HB5.out.trans (hb.mono (by omega))
        have HQ := Lib.hid herr
        clear herr
        by_cases hlt : k < f.M.length
        · obtain ⟨m, hm0⟩ : ∃ m, f.M[k]? = some m := ⟨_, List.getElem?_eq_getElem hlt⟩
          obtain ⟨ad, vF, vO, vR, rfl, hg, hmr, c0, c1, c2, c3, c4⟩ := msr_at (HM.out.low a1 (Low.below hbw hB)) (HMA.out.low (Low.below hbw hB)) hm0
          have hmm := List.mem_of_getElem? hm0
          obtain ⟨hf30, ho30⟩ := HMS.out m hmm
          obtain ⟨AF, cF, rfl, -, -⟩ := hmr.f
          obtain ⟨AO, cO, rfl, -, -⟩ := hmr.o
          obtain ⟨AR, cR, rfl, -, -⟩ := hmr.r
          have HMG := messageT_any B b n f m (.slice AF m.F.length cF) (.slice AO m.ones.length cO) (.slice AR m.res.length cR) (wr.alloc (.cells #[.string (txt m.name), .slice AF m.F.length cF, .slice AO m.ones.length cO, .slice AR m.res.length cR, .int .i64 m.at_] 51)) (by have := hbw.size; simp; omega) (hmr.low (Low.alloc _ _ (Nat.le_trans hB hbw.size))) (HIN.out.M m hmm) hf30 ho30 (hmn.alloc _) (HT.out.on (below_lit hbw _))
          have hbx := below_lit hbw (.cells #[.string (txt m.name), .slice AF m.F.length cF, .slice AO m.ones.length cO, .slice AR m.res.length cR, .int .i64 m.at_] 51)
          have hrx := ((below_new wr (.cells #[.string (txt m.name), .slice AF m.F.length cF, .slice AO m.ones.length cO, .slice AR m.res.length cR, .int .i64 m.at_] 51)).block _ (Array.getElem?_eq_some_iff.1 hrr).1).trans hrr
          have hSx := hSR.alloc (.cells #[.string (txt m.name), .slice AF m.F.length cF, .slice AO m.ones.length cO, .slice AR m.res.length cR, .int .i64 m.at_] 51)
          have hmx := hmn.alloc (.cells #[.string (txt m.name), .slice AF m.F.length cF, .slice AO m.ones.length cO, .slice AR m.res.length cR, .int .i64 m.at_] 51)
          have HM0 := Lib.hid hm0
          clear hmr hm0 hmm
          cases hem : errM f m with
          | some r =>
            obtain ⟨ma, mc⟩ := r
            have HE0 : Hid (errR f = some (ma, mc)) := Lib.hid (by rw [HER.out, show errF f = some (ma, mc) from findSome_at HQ.out HM0.out hem]; rfl)
            have hcn : ((mc : Int) != 0) = true := by have := errM_code hem; rw [bne_iff_ne]; omega
            rw [msgR_bad hem, hem] at HMG
            simp only [Option.map_some, Option.getD_some] at HMG
            have HMG2 := Lib.hid HMG
            clear hem HMG
            go_wp2_with (first
              | (go_at_call 34; refine HMG2.out.mono ?_; rintro e w6 ⟨vv, rfl, hrow, hb6⟩; obtain ⟨Av, cv, rfl, -⟩ := Sl.of_own hrow; have hr6 := ((below_new w6 (.cells #[.string (txt []), .slice Av ([] : List Df).length cv] 56)).block _ (Nat.lt_of_lt_of_le (Array.getElem?_eq_some_iff.1 hrx).1 hb6.size)).trans ((hb6.block _ (Array.getElem?_eq_some_iff.1 hrx).1).trans hrx); have hbw6 := below_lit (below_then hbx hb6) (.cells #[.string (txt []), .slice Av ([] : List Df).length cv] 56))
              | (refine wpList_store_sc rfl _ _ rfl rfl (w.heap.size + 1) _ _ _ _ rfl rfl rfl rfl _ hr6 ?_))
            refine bodyPost_ret (results_sc2 rfl _ _ (w.heap.size + 1) _ _ _ (0, 0) rfl (setRow_heap _ _ _ _ _ _ hr6)) rfl ?_
            exact ret_bad HE0.out (below_setRow hbw6 (by omega) _)
          | none =>
            have HEM := Lib.hid hem
            rw [show msgR f m = msgD f m from by unfold msgR; rw [hem]; rfl, hem] at HMG
            simp only [Option.map_none, Option.getD_none] at HMG
            have HMG2 := Lib.hid HMG
            have hkl : ((f.M.take k).map (msgD f)).length = k := by simp; omega
            clear hem HMG
            go_wp2_with fail
            refine HMG2.out.mono ?_
            rintro e w6 ⟨vv, rfl, hrow, hb6⟩
            obtain ⟨Av, cv, rfl, -⟩ := Sl.of_own hrow
            have hS6 := hSx.on hb6
            have hm6 := hmx.on hb6
            have g6 := heap_cell hS6.box 0
            simp at g6
            have hlS := hS6.lt
            have z6 := hb6.size
            rw [World.size_alloc] at z6
            have ho8 : ((w6.alloc (.cells #[.string (txt (msgD f m).name), .slice Av (msgD f m).F.length cv] 56)).alloc (.cells #[.string (txt (msgD f m).name), .slice Av (msgD f m).F.length cv] 56)).ownsRow (S + 1) 56 2 vM k xs := by
              have := ((hS6.alloc (.cells #[.string (txt (msgD f m).name), .slice Av (msgD f m).F.length cv] 56)).alloc (.cells #[.string (txt (msgD f m).name), .slice Av (msgD f m).F.length cv] 56)).m
              rwa [hkl] at this
            have hmd6 : MdRead w6 (msgD f m) (.slice Av (msgD f m).F.length cv) := own_mono hrow (Nat.zero_le _)
            go_wp2_with (at_builtin; refine wpList_app_sl rfl _ _ 26 rfl (S + 1) 56 i0 _ 2 40 Tryz.underlying26 hi hz0 hz1 hz2 rfl (by decide) vM k _ rfl ho8 _ 1 1 (MDC (msgD f m) (.slice Av (msgD f m).F.length cv)) rfl (lit_md2 _ _ (msgD f m) _) hmd6.cells (by unfold maxLen; omega) (by omega) (by simp; omega) ?_; intro v9 w9 ho9 hg9; obtain ⟨A9, c9, rfl, -⟩ := Sl.of_own ho9; have z9 := hg9.size; rw [World.size_alloc, World.size_alloc] at z9; have hS9 := (hg9.block S (by simp; omega) (fun e => by have := own_ge ho8 S e.symm; omega)).trans (((hS6.alloc _).alloc _).box); have g9 := heap_cell hS9 0; have f9 := heap_free hS9 0; simp at g9)
            have hown9 : w9.ownsRow (S + 1) 56 2 (.slice A9 (k + 1) c9) (((f.M.take k).map (msgD f)).length + 1) (xs ++ MDC (msgD f m) (.slice Av (msgD f m).F.length cv)) := by rw [hkl]; exact ho9
            have hSN := ((hS6.alloc _).alloc _).addM ((hmd6.leaf (LeafS.alloc _ _)).leaf (LeafS.alloc _ _)) hg9 hown9
            have hmN := (((hm6.alloc _).alloc _).block (hg9.block b (by simp; have := hm6.lt; omega) (fun e => ((hm6.alloc _).alloc _).own_ne ho8 e)))
            have hmN2 := hmN.block (Below.heap_setCell w9 ⟨S, 0, none⟩ (.slice A9 (k + 1) c9) b (by simp; omega))
            refine ⟨⟨k + 1, _, _, _, _, by go_num, by omega, fun j y hj hy => ?_, by simpa [List.take_add_one, HM0.out] using hSN, hmN2, ?_⟩, by simp [intOf]; omega⟩
            · by_cases hj2 : j < k
              · exact HQ.out j y hj2 hy
              · obtain rfl : j = k := by omega
                rw [HM0.out] at hy
                obtain rfl := Option.some.inj hy
                exact HEM.out
            · exact (((((hb.alloc (by omega) _).trans (hb6.mono (by simp; omega))).alloc (by omega) _).alloc (by simp; omega) _).grown hg9 (by simp; omega) (fun j hj => by have := own_ge ho8 j hj; omega)).setCell (by simp) _
        · obtain rfl : k = f.M.length := by omega
          have hnF : errF f = none := by
            unfold errF
            rw [List.findSome?_eq_none_iff]
            intro m hm
            obtain ⟨j, hj⟩ := List.mem_iff_getElem?.1 hm
            exact HQ.out j m (List.getElem?_eq_some_iff.1 hj).1 hj
          rw [hnF, Option.none_or] at HER
          rw [List.take_length] at hSR
          have y1 := heap_cell hxr 1
          simp at y1
          have hlw : w.heap.size < wr.heap.size := by omega
          clear HQ hnF hmn hxr hrr
          go_wp2
          go_loopw [69] (fun i wr => ResRel2 f S w5 i wr) (fun i _ => f.E.length - (intOf i).toNat)
          case atStart => exact ⟨0, _, _, _, _, rfl, by omega, fun j m hj => by omega, hSR, hb⟩
          case round =>
            obtain ⟨k, vM, vE, xs, ys, rfl, hk, herr, hSR, hb⟩ := hrel
            have hzr := hb.size
            have hrr := (hb.block (w.heap.size + 1) (by omega)).trans HR5.out
            have hbw := HB5.out.trans (hb.mono (by omega))
            have HQ := Lib.hid herr
            clear herr
            by_cases hlt : k < f.E.length
            · obtain ⟨m, hm0⟩ : ∃ m, f.E[k]? = some m := ⟨_, List.getElem?_eq_getElem hlt⟩
              obtain ⟨ad, vV, rfl, hg, hmr, c0, c1, c2⟩ := enr_at (HE.out.low a2 (Low.below hbw hB)) (HEA.out.low (Low.below hbw hB)) hm0
              have hmm := List.mem_of_getElem? hm0
              have hv30 := HES.out m hmm
              obtain ⟨AF, cF, hvV, -, -⟩ := id hmr
              subst hvV
              have hbx := below_lit hbw (.cells #[.string (txt m.name), .slice AF m.V.length cF, .int .i64 m.at_] 65)
              have HMG := fun wx hw (he : EAt B wx m (.slice AF m.V.length cF)) => enumT_any B m (.slice AF m.V.length cF) wx hw he (HIN.out.E m hmm) hv30.2
              have hwB := Nat.le_trans hB hbx.size
              have hEx := EAt.low hmr (Low.alloc _ (.cells #[.string (txt m.name), .slice AF m.V.length cF, .int .i64 m.at_] 65) (Nat.le_trans hB hbw.size))
              have HMG := HMG _ hwB hEx
              have hrx := ((below_new _ (.cells #[.string (txt m.name), .slice AF m.V.length cF, .int .i64 m.at_] 65)).block _ (Array.getElem?_eq_some_iff.1 hrr).1).trans hrr
              have hSx := hSR.alloc (.cells #[.string (txt m.name), .slice AF m.V.length cF, .int .i64 m.at_] 65)
              have HM0 := Lib.hid hm0
              clear hmr hm0 hmm hEx hwB
              cases hem : firstOf (vlErr m) m.V with
              | some r =>
                obtain ⟨ma, mc⟩ := r
                have HE0 : Hid (errR f = some (ma, mc)) := Lib.hid (by rw [HER.out]; exact findSome_at (g := fun e : En => firstOf (vlErr e) e.V) HQ.out HM0.out hem)
                have hcn : ((mc : Int) != 0) = true := by have := vlErr_code hem; rw [bne_iff_ne]; omega
                rw [enmR_bad hem, hem] at HMG
                simp only [Option.map_some, Option.getD_some] at HMG
                have HMG2 := Lib.hid HMG
                clear hem HMG
                go_wp2_with fail
                refine HMG2.out.mono ?_
                rintro e w6 ⟨v1, v2, rfl, hrow, hrow2, hb6⟩
                obtain ⟨Av, cv, rfl, -⟩ := Sl.of_own hrow
                obtain ⟨Aw, cw, rfl, -⟩ := Sl.of_own hrow2
                have hr6 := ((below_new w6 (.cells #[.string (txt []), .slice Av ([] : List (List UInt8)).length cv, .slice Aw ([] : List Int).length cw] 68)).block _ (Nat.lt_of_lt_of_le (Array.getElem?_eq_some_iff.1 hrx).1 hb6.size)).trans ((hb6.block _ (Array.getElem?_eq_some_iff.1 hrx).1).trans hrx)
                have hbw6 := below_lit (below_then hbx hb6) (.cells #[.string (txt []), .slice Av ([] : List (List UInt8)).length cv, .slice Aw ([] : List Int).length cw] 68)
                go_wp2_with (refine wpList_store_sc rfl _ _ rfl rfl (w.heap.size + 1) _ _ _ _ rfl rfl rfl rfl _ hr6 ?_)
                refine bodyPost_ret (results_sc2 rfl _ _ (w.heap.size + 1) _ _ _ (0, 0) rfl (setRow_heap _ _ _ _ _ _ hr6)) rfl ?_
                exact ret_bad HE0.out (below_setRow hbw6 (by omega) _)
              | none =>
                have HEM := Lib.hid hem
                rw [show enmR m = enD m from by unfold enmR; rw [hem]; rfl, hem] at HMG
                simp only [Option.map_none, Option.getD_none] at HMG
                have HMG2 := Lib.hid HMG
                have hkl : ((f.E.take k).map enD).length = k := by simp; omega
                clear hem HMG
                go_wp2_with fail
                refine HMG2.out.mono ?_
                rintro e w6 ⟨v1, v2, rfl, hrow, hrow2, hb6⟩
                obtain ⟨Av, cv, rfl, -⟩ := Sl.of_own hrow
                obtain ⟨Aw, cw, rfl, -⟩ := Sl.of_own hrow2
                have hS6 := hSx.on hb6
                have g6 := heap_cell hS6.box 1
                simp at g6
                have hlS := hS6.lt
                have z6 := hb6.size
                rw [World.size_alloc] at z6
                have ho8 : ((w6.alloc (.cells #[.string (txt (enD m).name), .slice Av (enD m).V.length cv, .slice Aw (enD m).N.length cw] 68)).alloc (.cells #[.string (txt (enD m).name), .slice Av (enD m).V.length cv, .slice Aw (enD m).N.length cw] 68)).ownsRow (S + 1) 68 3 vE k ys := by
                  have := ((hS6.alloc (.cells #[.string (txt (enD m).name), .slice Av (enD m).V.length cv, .slice Aw (enD m).N.length cw] 68)).alloc (.cells #[.string (txt (enD m).name), .slice Av (enD m).V.length cv, .slice Aw (enD m).N.length cw] 68)).e
                  rwa [hkl] at this
                have hmd6 : EdRead w6 (enD m) (.slice Av (enD m).V.length cv) (.slice Aw (enD m).N.length cw) := ⟨hrow, hrow2⟩
                go_wp2_with (at_builtin; refine wpList_app_sl rfl _ _ 27 rfl (S + 1) 68 j0 _ 3 64 Tryz.underlying27 hj hy0 hy1 hy2 rfl (by decide) vE k _ rfl ho8 _ 1 1 (EDC (enD m) (.slice Av (enD m).V.length cv) (.slice Aw (enD m).N.length cw)) rfl (lit_ed2 _ _ (enD m) _ _) hmd6.cells (by unfold maxLen; omega) (by omega) (by simp; omega) ?_; intro v9 w9 ho9 hg9; obtain ⟨A9, c9, rfl, -⟩ := Sl.of_own ho9; have z9 := hg9.size; rw [World.size_alloc, World.size_alloc] at z9; have hS9 := (hg9.block S (by simp; omega) (fun e => by have := own_ge ho8 S e.symm; omega)).trans (((hS6.alloc _).alloc _).box); have g9 := heap_cell hS9 1; have f9 := heap_free hS9 1; simp at g9)
                have hown9 : w9.ownsRow (S + 1) 68 3 (.slice A9 (k + 1) c9) (((f.E.take k).map enD).length + 1) (ys ++ EDC (enD m) (.slice Av (enD m).V.length cv) (.slice Aw (enD m).N.length cw)) := by rw [hkl]; exact ho9
                have hSN := ((hS6.alloc _).alloc _).addE ((hmd6.leaf (LeafS.alloc _ _)).leaf (LeafS.alloc _ _)) hg9 hown9
                refine ⟨⟨k + 1, _, _, _, _, by go_num, by omega, fun j y hj hy => ?_, by simpa [List.take_add_one, HM0.out] using hSN, ?_⟩, by simp [intOf]; omega⟩
                · by_cases hj2 : j < k
                  · exact HQ.out j y hj2 hy
                  · obtain rfl : j = k := by omega
                    rw [HM0.out] at hy
                    obtain rfl := Option.some.inj hy
                    exact HEM.out
                · exact (((((hb.alloc (by omega) _).trans (hb6.mono (by simp; omega))).alloc (by omega) _).alloc (by simp; omega) _).grown hg9 (by simp; omega) (fun j hj => by have := own_ge ho8 j hj; omega)).setCell (by simp) _
            · obtain rfl : k = f.E.length := by omega
              rw [List.take_length] at hSR
              have hnV : errR f = none := by
                rw [HER.out]
                unfold errV
                rw [List.findSome?_eq_none_iff]
                intro m hm
                obtain ⟨j, hj⟩ := List.mem_iff_getElem?.1 hm
                exact HQ.out j m (List.getElem?_eq_some_iff.1 hj).1 hj
              obtain ⟨t1, t2, t3⟩ := tab_fine hnV
              have HTF := Lib.hid (And.intro t1 (And.intro t2 t3))
              have hSB := hSR.box
              have hrd := hSR.read
              obtain ⟨Am, cm, rfl, -⟩ := Sl.of_own hSR.m
              obtain ⟨Ae, ce, rfl, -⟩ := Sl.of_own hSR.e
              have hgr : ∀ wx : World, wx.grownBy (wx.setRow (w.heap.size + 1) #[.slice Am (f.M.map (msgD f)).length cm, .slice Ae (f.E.map enD).length ce]) (some (w.heap.size + 1)) := fun wx => ⟨rfl, rfl, rfl, by simp, fun k _ hk => setRow_other _ _ _ _ (by simpa using hk)⟩
              have hfin := hrd.other (hgr _) hrr (by decide) (by decide) rfl
              have hbf := below_setRow hbw (show w.heap.size ≤ w.heap.size + 1 by omega) #[.slice Am (f.M.map (msgD f)).length cm, .slice Ae (f.E.map enD).length ce]
              simp only [List.length_map] at hfin hbf
              clear hnV t1 t2 t3 HQ
              go_wp2_with (first
                | (refine wpList_load_sc rfl _ rfl S _ _ rfl _ _ hSB ?_)
                | (refine wpList_store_sc rfl _ _ rfl rfl (w.heap.size + 1) _ _ _ _ rfl rfl rfl rfl _ hrr ?_))
              refine bodyPost_ret (results_sc2 rfl _ _ (w.heap.size + 1) _ _ _ (0, 0) rfl (setRow_heap _ _ _ _ _ _ hrr)) rfl ?_
              refine ⟨_, _, by rw [HTF.out.2.1, HTF.out.2.2]; rfl, ?_, hbf⟩
              rw [HTF.out.1]
              exact hfin
end Go.Proofs.YtciiemomfniecaaGreatDoor
