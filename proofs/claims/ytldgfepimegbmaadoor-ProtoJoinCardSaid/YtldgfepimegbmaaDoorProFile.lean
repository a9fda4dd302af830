/-
  A file is read: its rows of messages and of enums; the contract.
-/
import Derived.Test.YtldgfepimegbmaaDoorProEnum
namespace Go.Proofs.YtldgfepimegbmaaDoor
set_option maxRecDepth 100000
open Go.RowKit

/-- The types of the innermost rows. -/
def leafT (t : TypeId) : Bool := t == 36 || t == 9 || t == 2 || t == 83
/-- The innermost rows stay. -/
def Leaf (w w' : World) : Prop := ∀ (k : Nat) (cs : Array Value) (t : TypeId), w.heap[k]? = some (Obj.cells cs t (0, 0)) → leafT t = true → w'.heap[k]? = w.heap[k]?
theorem Leaf.refl (w : World) : Leaf w w := fun _ _ _ _ _ => rfl
theorem Leaf.trans {a b c : World} (h : Leaf a b) (k : Leaf b c) : Leaf a c := fun i cs t hi ht => (k i cs t ((h i cs t hi ht).trans hi) ht).trans (h i cs t hi ht)
theorem Leaf.below {w w' : World} (h : Below w.heap.size w w') : Leaf w w' := fun i _ _ hi _ => h.block i (Array.getElem?_eq_some_iff.1 hi).1
theorem Leaf.alloc (w : World) (o : Obj) : Leaf w (w.alloc o) := fun i _ _ hi _ => Below.heap_alloc w o i (Array.getElem?_eq_some_iff.1 hi).1
theorem Leaf.grown {w w' : World} {g : Nat} {cs : Array Value} {t : TypeId} {fr : Nat × Nat} (hg : w.grownBy w' (some g)) (ho : w.heap[g]? = some (.cells cs t fr)) (ht : leafT t = false) : Leaf w w' := fun i cs' t' hi hl => by
  refine hg.block i (Array.getElem?_eq_some_iff.1 hi).1 ?_
  simp only [ne_eq, Option.some.injEq]
  rintro rfl
  rw [hi] at ho
  simp only [Option.some.injEq, Obj.cells.injEq] at ho
  rw [ho.2.1, ht] at hl
  cases hl
theorem Leaf.own {w w' : World} {b : Nat} {e : TypeId} {size : Nat} {v : Value} {n : Nat} {xs : List Value} (hr : w.ownsRow b e size v n xs) (hg : w.grownBy w' v.ownBlock) (ht : leafT e = false) : Leaf w w' := by
  rcases hr.2 with ⟨rfl, _⟩ | ⟨g', cap, cur, rfl, _, h2, _⟩
  · exact fun i _ _ hi _ => hg.block i (Array.getElem?_eq_some_iff.1 hi).1 (by simp [Value.ownBlock])
  · exact Leaf.grown hg h2 ht
theorem own_leaf {w w' : World} {b : Nat} {e : TypeId} {size : Nat} {v : Value} {n : Nat} {xs : List Value} (hr : w.ownsRow b e size v n xs) (h : Leaf w w') (ht : leafT e = true) : w'.ownsRow b e size v n xs := by
  rcases hr with ⟨hl, ⟨rfl, rfl⟩ | ⟨g, cap, cur, rfl, h1, h2, h3⟩⟩
  · exact ⟨hl, .inl ⟨rfl, rfl⟩⟩
  · exact ⟨hl, .inr ⟨g, cap, cur, rfl, h1, (h g _ _ h2 ht).trans h2, h3⟩⟩
theorem MRead.leaf {w w' : World} {m : Ms} {vF vO vR : Value} (h : MRead w m vF vO vR) (hl : Leaf w w') : MRead w' m vF vO vR := ⟨own_leaf h.f hl rfl, own_leaf h.o hl rfl, own_leaf h.r hl rfl⟩
theorem ERead.leaf {w w' : World} {e : En} {vV : Value} (h : ERead w e vV) (hl : Leaf w w') : ERead w' e vV := own_leaf h hl rfl
def MC (m : Ms) (vF vO vR : Value) : List Value := [.string (txt m.name), vF, vO, vR, .int .i64 m.at_]
def EC (e : En) (vV : Value) : List Value := [.string (txt e.name), vV, .int .i64 e.at_]
/-- Cells that read as messages. -/
def MsAre (w : World) : List Ms → List Value → Prop
  | [], xs => xs = []
  | m :: l, xs => ∃ vF vO vR ys, xs = MC m vF vO vR ++ ys ∧ MRead w m vF vO vR ∧ MsAre w l ys
def EnAre (w : World) : List En → List Value → Prop
  | [], xs => xs = []
  | e :: l, xs => ∃ vV ys, xs = EC e vV ++ ys ∧ ERead w e vV ∧ EnAre w l ys
theorem MsAre.leaf {w w' : World} (hl : Leaf w w') : ∀ {l : List Ms} {xs : List Value}, MsAre w l xs → MsAre w' l xs
  | [], _, h => h
  | _ :: _, _, ⟨vF, vO, vR, ys, h1, h2, h3⟩ => ⟨vF, vO, vR, ys, h1, h2.leaf hl, h3.leaf hl⟩
theorem EnAre.leaf {w w' : World} (hl : Leaf w w') : ∀ {l : List En} {xs : List Value}, EnAre w l xs → EnAre w' l xs
  | [], _, h => h
  | _ :: _, _, ⟨vV, ys, h1, h2, h3⟩ => ⟨vV, ys, h1, h2.leaf hl, h3.leaf hl⟩
theorem MsAre.snoc {w : World} {m : Ms} {vF vO vR : Value} (hm : MRead w m vF vO vR) : ∀ {l : List Ms} {xs : List Value}, MsAre w l xs → MsAre w (l ++ [m]) (xs ++ MC m vF vO vR)
  | [], xs, h => by cases h; exact ⟨vF, vO, vR, [], by simp, hm, rfl⟩
  | _ :: _, _, ⟨a, b, c, ys, h1, h2, h3⟩ => ⟨a, b, c, ys ++ MC m vF vO vR, by rw [h1]; simp, h2, h3.snoc hm⟩
theorem EnAre.snoc {w : World} {m : En} {vV : Value} (hm : ERead w m vV) : ∀ {l : List En} {xs : List Value}, EnAre w l xs → EnAre w (l ++ [m]) (xs ++ EC m vV)
  | [], xs, h => by cases h; exact ⟨vV, [], by simp, hm, rfl⟩
  | _ :: _, _, ⟨a, ys, h1, h2, h3⟩ => ⟨a, ys ++ EC m vV, by rw [h1]; simp, h2, h3.snoc hm⟩
theorem MRead.cells {w : World} {m : Ms} {vF vO vR : Value} (h : MRead w m vF vO vR) : ∀ u ∈ MC m vF vO vR, u.oneCell' = true := by
  intro u hu
  simp only [MC, List.mem_cons, List.not_mem_nil, or_false] at hu
  rcases hu with rfl | rfl | rfl | rfl | rfl
  · rfl
  · exact own_one h.f
  · exact own_one h.o
  · exact own_one h.r
  · rfl
theorem ERead.cells {w : World} {m : En} {vV : Value} (h : ERead w m vV) : ∀ u ∈ EC m vV, u.oneCell' = true := by
  intro u hu
  simp only [EC, List.mem_cons, List.not_mem_nil, or_false] at hu
  rcases hu with rfl | rfl | rfl
  · rfl
  · exact own_one h
  · rfl
theorem infoMss : (Tryd.prog.info? 34).map (fun i => (i.zero, i.size, i.bytes)) = some (some (.agg #[.string ⟨#[]⟩, .slice none 0 0, .slice none 0 0, .slice none 0 0, .int .i64 0]), 5, 96) := by kernel_rfl
theorem infoEns : (Tryd.prog.info? 58).map (fun i => (i.zero, i.size, i.bytes)) = some (some (.agg #[.string ⟨#[]⟩, .slice none 0 0, .int .i64 0]), 3, 48) := by kernel_rfl
/-- A file under way: its block, and its rows. -/
structure FRow (w : World) (F : Nat) (f : Fl) (vM vE : Value) (xs ys : List Value) : Prop where
  box : w.heap[F]? = some (.cells #[vM, vE] 26 (0, 0))
  m : w.ownsRow (F + 1) 34 5 vM f.M.length xs
  ms : MsAre w f.M xs
  e : w.ownsRow (F + 1) 58 3 vE f.E.length ys
  es : EnAre w f.E ys
theorem FRow.lt {w : World} {F : Nat} {f : Fl} {vM vE : Value} {xs ys : List Value} (h : FRow w F f vM vE xs ys) : F < w.heap.size := (Array.getElem?_eq_some_iff.1 h.box).1
theorem FRow.kept {w w' : World} {F : Nat} {f : Fl} {vM vE : Value} {xs ys : List Value} (h : FRow w F f vM vE xs ys) (hk : ∀ k, F ≤ k → k < w.heap.size → w'.heap[k]? = w.heap[k]?) (hl : Leaf w w') : FRow w' F f vM vE xs ys :=
  ⟨(hk F (Nat.le_refl _) h.lt).trans h.box, own_kept (B := 0) (P := 0) h.m (fun k hk1 hk2 => hk k (by omega) hk2), h.ms.leaf hl, own_kept (B := 0) (P := 0) h.e (fun k hk1 hk2 => hk k (by omega) hk2), h.es.leaf hl⟩
theorem FRow.alloc {w : World} {F : Nat} {f : Fl} {vM vE : Value} {xs ys : List Value} (h : FRow w F f vM vE xs ys) (o : Obj) : FRow (w.alloc o) F f vM vE xs ys :=
  h.kept (fun k _ hk => Below.heap_alloc w o k hk) (Leaf.alloc w o)
theorem FRow.drew {w : World} {F : Nat} {f : Fl} {vM vE : Value} {xs ys : List Value} (h : FRow w F f vM vE xs ys) : FRow w.drew F f vM vE xs ys :=
  h.kept (fun _ _ _ => rfl) (fun _ _ _ _ _ => rfl)
theorem PSt.leaf {w w' : World} {P E : Nat} {s : S} (h : PSt w P E s) (hg : w.grownBy w' (some P)) : Leaf w w' := by
  obtain ⟨A, c, h1, _⟩ := h
  exact Leaf.grown hg h1 rfl
theorem FRow.taken {w w' : World} {P E F : Nat} {s : S} {f : Fl} {vM vE : Value} {xs ys : List Value} (h : FRow w F f vM vE xs ys) (hp : PSt w P E s) (hg : w.grownBy w' (some P)) (hP : P < F) : FRow w' F f vM vE xs ys :=
  h.kept (fun k hk1 hk2 => hg.block k hk2 (by simp; omega)) (hp.leaf hg)
theorem FRow.addM {w w' : World} {F : Nat} {f : Fl} {vM vE v : Value} {xs ys : List Value} {m : Ms} {vF vO vR : Value} (h : FRow w F f vM vE xs ys) (hm : MRead w m vF vO vR) (hg : w.grownBy w' vM.ownBlock) (hown : w'.ownsRow (F + 1) 34 5 v (f.M.length + 1) (xs ++ MC m vF vO vR)) :
    FRow (w'.setCell ⟨F, 0, none⟩ v) F { f with M := f.M ++ [m] } v vE (xs ++ MC m vF vO vR) ys := by
  have hb : w'.heap[F]? = _ := (hg.block F h.lt (fun e => by have := own_M h.m F e.symm; omega)).trans h.box
  have hl : Leaf w (w'.setCell ⟨F, 0, none⟩ v) := (Leaf.own h.m hg rfl).trans (Leaf.grown (grown_set w' F 0 v) hb rfl)
  refine ⟨?_, ?_, (h.ms.snoc hm).leaf hl, ?_, h.es.leaf hl⟩
  · have := heap_setCell_same hb (j := 0) v
    simpa using this
  · have := own_set hown (a := ⟨F, 0, none⟩) (by simp) v
    simpa using this
  · exact own_set (h.e.kept hg (own_apart h.e h.m (by decide))) (by simp) v
theorem FRow.addE {w w' : World} {F : Nat} {f : Fl} {vM vE v : Value} {xs ys : List Value} {m : En} {vV : Value} (h : FRow w F f vM vE xs ys) (hm : ERead w m vV) (hg : w.grownBy w' vE.ownBlock) (hown : w'.ownsRow (F + 1) 58 3 v (f.E.length + 1) (ys ++ EC m vV)) :
    FRow (w'.setCell ⟨F, 1, none⟩ v) F { f with E := f.E ++ [m] } vM v xs (ys ++ EC m vV) := by
  have hb : w'.heap[F]? = _ := (hg.block F h.lt (fun e => by have := own_M h.e F e.symm; omega)).trans h.box
  have hl : Leaf w (w'.setCell ⟨F, 1, none⟩ v) := (Leaf.own h.e hg rfl).trans (Leaf.grown (grown_set w' F 1 v) hb rfl)
  refine ⟨?_, ?_, h.ms.leaf hl, ?_, (h.es.snoc hm).leaf hl⟩
  · have := heap_setCell_same hb (j := 1) v
    simpa using this
  · exact own_set (h.m.kept hg (own_apart h.m h.e (by decide))) (by simp) v
  · have := own_set hown (a := ⟨F, 1, none⟩) (by simp) v
    simpa using this
/-- A file, as it is read. -/
def FRead (w : World) (f : Fl) (vM vE : Value) : Prop := ∃ xs ys, w.ownsRow 0 34 5 vM f.M.length xs ∧ MsAre w f.M xs ∧ w.ownsRow 0 58 3 vE f.E.length ys ∧ EnAre w f.E ys
theorem FRow.read {w : World} {F : Nat} {f : Fl} {vM vE : Value} {xs ys : List Value} (h : FRow w F f vM vE xs ys) : FRead w f vM vE := ⟨xs, ys, own_mono h.m (Nat.zero_le _), h.ms, own_mono h.e (Nat.zero_le _), h.es⟩
theorem FRead.on {w w' : World} {f : Fl} {vM vE : Value} (h : FRead w f vM vE) (hb : Below w.heap.size w w') : FRead w' f vM vE := by
  obtain ⟨xs, ys, h1, h2, h3, h4⟩ := h
  exact ⟨xs, ys, own_below h1 hb, h2.leaf (.below hb), own_below h3 hb, h4.leaf (.below hb)⟩
theorem FRead.nothing (w : World) : FRead w ⟨[], []⟩ (.slice none 0 0) (.slice none 0 0) := ⟨[], [], World.ownsRow_nil _ _ _ _, rfl, World.ownsRow_nil _ _ _ _, rfl⟩
theorem infoFl : (Tryd.prog.info? 26).map (·.size) = some 2 := by kernel_rfl
theorem wpList_store_fl {ops : Array Oper} {rest : List Oper} {o : Oper} {a : Act} {w : World} {Q : Exit → Act → World → Prop} (hgd : o.guard = none) (x y : Operand) (ho : o.op = .store 26 x y)
    (hd : o.dst = none) (g : Nat) (v0 v1 : Value) (u0 u1 : Value) (hx : a.eval x = .pointer (some ⟨g, 0, none⟩)) (hy : a.eval y = .agg #[v0, v1])
    (h0 : v0.oneCell' = true) (h1 : v1.oneCell' = true) (t : TypeId) (hg : w.heap[g]? = some (.cells #[u0, u1] t (0, 0)))
    (h : wpList Tryd.prog ops Q rest a (w.setRow g #[v0, v1])) : wpList Tryd.prog ops Q (o :: rest) a w :=
  wpList_store_rowTo hgd 26 x y ho hd g _ hx hy t _ hg infoFl rfl (by simp [h0, h1]) h
theorem wpList_load_fl {ops : Array Oper} {rest : List Oper} {o : Oper} {a : Act} {w : World} {Q : Exit → Act → World → Prop} (hgd : o.guard = none) (x : Operand) (ho : o.op = .load 26 x)
    (g : Nat) (u0 u1 : Value) (hx : a.eval x = .pointer (some ⟨g, 0, none⟩)) (t : TypeId) (fr : Nat × Nat) (hg : w.heap[g]? = some (.cells #[u0, u1] t fr))
    (h : wpList Tryd.prog ops Q rest (a.put o.dst (.agg #[u0, u1])) w) : wpList Tryd.prog ops Q (o :: rest) a w :=
  wpList_load_row hgd 26 x ho g hx t _ fr _ hg Tryd.underlying26 rfl infoFl h
theorem results_fl {fn : Func} {p : Tmp} (h : fn.results = #[.cell p 26]) (tmps : Array Value) (w : World) (g : Nat) (t : TypeId) (u0 u1 : Value) (fr : Nat × Nat)
    (hp : tmps.getD p undef = .pointer (some ⟨g, 0, none⟩)) (hg : w.heap[g]? = some (.cells #[u0, u1] t fr)) :
    (results fn tmps).run Tryd.prog w = .ok (.agg #[u0, u1]) w :=
  results_cell_row h tmps w g t _ fr _ hp hg Tryd.underlying26 rfl infoFl
theorem fileF_en (E : Nat) (s : S) (f : Fl) (h : s.goes = true) (h2 : s.sees 0 wEnum = true) : fileF E s f = fileF E (enumF E s).1 { f with E := f.E ++ [(enumF E s).2] } := by rw [fileF, dif_pos h, if_pos h2]
theorem fileF_ms (E : Nat) (s : S) (f : Fl) (h : s.goes = true) (h2 : ¬ s.sees 0 wEnum = true) : fileF E s f = fileF E (messageF E s).1 { f with M := f.M ++ [(messageF E s).2] } := by rw [fileF, dif_pos h, if_neg h2]
def FlRel (P E F : Nat) (w : World) (X : S × Fl) (K : Nat) (wr : World) : Prop := ∃ s f vM vE xs ys, PSt wr P E s ∧ FRow wr F f vM vE xs ys ∧ Kp F P w wr ∧ fileF E s f = X ∧ f.M.length + f.E.length + s.mu ≤ K
def FlPost (P E : Nat) (w : World) (X : S × Fl) (e : Ending) (w' : World) : Prop := ∃ vM vE, e = .returned (.agg #[vM, vE]) ∧ FRead w' X.2 vM vE ∧ PSt w' P E X.1 ∧ w.grownBy w' (some P)
end Go.Proofs.YtldgfepimegbmaaDoor
