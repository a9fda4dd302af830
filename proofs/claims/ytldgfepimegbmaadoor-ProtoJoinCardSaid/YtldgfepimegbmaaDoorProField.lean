/-
  A field is read: the contract.
-/
import Derived.Test.YtldgfepimegbmaaDoorProTake
namespace Go.Proofs.YtldgfepimegbmaaDoor
set_option maxRecDepth 100000
open Go.RowKit

/-- A field's cells. -/
def FC (d : Fd) : List Value := [.string (txt d.type), .string (txt d.key), .bool d.rep, .int .i64 d.one, .string (txt d.name), .int .i64 d.no, .int .i64 d.at_]
def FdV (d : Fd) : Value := .agg (FC d).toArray
theorem infoFd : (Tryd.prog.info? 36).map (·.size) = some 7 := by kernel_rfl
theorem wpList_store_fd {ops : Array Oper} {rest : List Oper} {o : Oper} {a : Act} {w : World} {Q : Exit → Act → World → Prop} (hgd : o.guard = none) (x y : Operand) (ho : o.op = .store 36 x y)
    (hd : o.dst = none) (g : Nat) (b0 b1 b4 : ByteArray) (b2 : Bool) (b3 b5 b6 : Int) (u0 u1 u2 u3 u4 u5 u6 : Value) (hx : a.eval x = .pointer (some ⟨g, 0, none⟩)) (hy : a.eval y = .agg #[.string b0, .string b1, .bool b2, .int .i64 b3, .string b4, .int .i64 b5, .int .i64 b6])
    (t : TypeId) (hg : w.heap[g]? = some (.cells #[u0, u1, u2, u3, u4, u5, u6] t (0, 0)))
    (h : wpList Tryd.prog ops Q rest a (w.setRow g #[.string b0, .string b1, .bool b2, .int .i64 b3, .string b4, .int .i64 b5, .int .i64 b6])) : wpList Tryd.prog ops Q (o :: rest) a w :=
  wpList_store_rowTo hgd 36 x y ho hd g _ hx hy t _ hg infoFd rfl (by simp [Value.oneCell']) h
theorem wpList_load_fd {ops : Array Oper} {rest : List Oper} {o : Oper} {a : Act} {w : World} {Q : Exit → Act → World → Prop} (hgd : o.guard = none) (x : Operand) (ho : o.op = .load 36 x)
    (g : Nat) (u0 u1 u2 u3 u4 u5 u6 : Value) (hx : a.eval x = .pointer (some ⟨g, 0, none⟩)) (t : TypeId) (fr : Nat × Nat) (hg : w.heap[g]? = some (.cells #[u0, u1, u2, u3, u4, u5, u6] t fr))
    (h : wpList Tryd.prog ops Q rest (a.put o.dst (.agg #[u0, u1, u2, u3, u4, u5, u6])) w) : wpList Tryd.prog ops Q (o :: rest) a w :=
  wpList_load_row hgd 36 x ho g hx t _ fr _ hg Tryd.underlying36 rfl infoFd h
theorem results_fd {fn : Func} {p : Tmp} (h : fn.results = #[.cell p 36]) (tmps : Array Value) (w : World) (g : Nat) (t : TypeId) (u0 u1 u2 u3 u4 u5 u6 : Value) (fr : Nat × Nat)
    (hp : tmps.getD p undef = .pointer (some ⟨g, 0, none⟩)) (hg : w.heap[g]? = some (.cells #[u0, u1, u2, u3, u4, u5, u6] t fr)) :
    (results fn tmps).run Tryd.prog w = .ok (.agg #[u0, u1, u2, u3, u4, u5, u6]) w :=
  results_cell_row h tmps w g t _ fr _ hp hg Tryd.underlying36 rfl infoFd
/-- A block that is younger than the parser stays when the parser takes. -/
theorem stays {w w' : World} {P g : Nat} {o : Obj} (h : w.heap[g]? = some o) (hg : w.grownBy w' (some P)) (hP : P < g) : w'.heap[g]? = some o :=
  (hg.block g (Array.getElem?_eq_some_iff.1 h).1 (by simp; omega)).trans h

/-- Below block B nothing but block P has turned. -/
structure Kp (B P : Nat) (w w' : World) : Prop where
  os : w'.os = w.os
  tape : w'.tape = w.tape
  output : w'.output = w.output
  size : w.heap.size ≤ w'.heap.size
  block : ∀ k, k < B → k ≠ P → w'.heap[k]? = w.heap[k]?
theorem Kp.refl (B P : Nat) (w : World) : Kp B P w w := ⟨rfl, rfl, rfl, Nat.le_refl _, fun _ _ _ => rfl⟩
theorem Kp.trans {B P : Nat} {a b c : World} (h : Kp B P a b) (k : Kp B P b c) : Kp B P a c :=
  ⟨k.os.trans h.os, k.tape.trans h.tape, k.output.trans h.output, Nat.le_trans h.size k.size, fun i hi hp => (k.block i hi hp).trans (h.block i hi hp)⟩
theorem Kp.alloc {B P : Nat} {a w : World} (h : Kp B P a w) (hB : B ≤ w.heap.size) (o : Obj) : Kp B P a (w.alloc o) :=
  h.trans ⟨rfl, rfl, rfl, by simp, fun k hk _ => Below.heap_alloc _ _ _ (by omega)⟩
theorem Kp.setCell {B P : Nat} {a w : World} (h : Kp B P a w) {p : Addr} (hp : B ≤ p.block) (u : Value) : Kp B P a (w.setCell p u) :=
  h.trans ⟨rfl, rfl, rfl, by simp [World.setCell], fun k hk _ => Below.heap_setCell _ _ _ _ (by omega)⟩
theorem Kp.setRow {B P : Nat} {a w : World} (h : Kp B P a w) {g : Nat} (hp : B ≤ g) (cs : Array Value) : Kp B P a (w.setRow g cs) :=
  h.trans ⟨rfl, rfl, rfl, by simp, fun k hk _ => setRow_other _ _ _ _ (by omega)⟩
theorem Kp.taken {B P : Nat} {a w w' : World} (h : Kp B P a w) (hg : w.grownBy w' (some P)) (hB : B ≤ w.heap.size) : Kp B P a w' :=
  h.trans ⟨hg.os, hg.tape, hg.output, hg.size, fun k hk hp => hg.block k (by omega) (by simpa using hp)⟩
theorem Kp.grown {B P : Nat} {a w w' : World} {row : Option Nat} (h : Kp B P a w) (hg : w.grownBy w' row) (hB : B ≤ w.heap.size) (hr : ∀ k, row = some k → B ≤ k) : Kp B P a w' :=
  h.trans ⟨hg.os, hg.tape, hg.output, hg.size, fun k hk _ => hg.block k (by omega) (fun e => by have := hr k e.symm; omega)⟩
theorem Kp.drew {B P : Nat} {a w : World} (h : Kp B P a w) (n : Nat) : Kp B P a (w.drewN n) := h.trans ⟨rfl, rfl, rfl, Nat.le_refl _, fun _ _ _ => rfl⟩
theorem Kp.mono {B B' P : Nat} {a w : World} (h : Kp B P a w) (hB : B' ≤ B) : Kp B' P a w := ⟨h.os, h.tape, h.output, h.size, fun k hk hp => h.block k (by omega) hp⟩
theorem Kp.out {P : Nat} {w w' : World} (h : Kp w.heap.size P w w') : w.grownBy w' (some P) :=
  ⟨h.os, h.tape, h.output, h.size, fun k hk hp => h.block k hk (by simpa using hp)⟩
theorem heap_second (w : World) (o o' : Obj) : ((w.alloc o).alloc o').heap[w.heap.size + 1]? = some o' := by
  have := heap_alloc_new (w.alloc o) o'
  simpa using this
set_option maxHeartbeats 1000000 in
theorem field_any (P E : Nat) (s : S) (w : World) (h : PSt w P E s) : Calls Tryd.prog 74 #[.pointer (some ⟨P, 0, none⟩)] w fun e w' => e = .returned (FdV (s.fld E)) ∧ PSt w' P E s.fldS ∧ w.grownBy w' (some P) := by
  have H1 := Lib.hid (fun w h => place_any P E s w h)
  have H2 := Lib.hid (fun w h => name_any7 P E s w h)
  have H3 := Lib.hid (fun w h => nbd_any7 P E s.name w h)
  have hP := h.lt
  have HX : Hid (FdV (s.fld E) = .agg #[.string (txt s.nameT), .string ⟨#[]⟩, .bool false, .int .i64 0, .string (txt s.name.nameT), .int .i64 s.name.nbdNo, .int .i64 (s.place E)]) := Lib.hid rfl
  go_enter Tryd.func74, Tryd.ntmps74
  go_wp2_with fail
  refine (H1.out _ (h.alloc _)).mono ?_
  rintro e w1 ⟨rfl, rfl⟩
  go_wp2_with fail
  refine (H2.out _ ((h.alloc _).alloc _)).mono ?_
  rintro e w1 ⟨rfl, hp1, hg1⟩
  have hs1 := hg1.size
  simp at hs1
  have hR1 := stays (heap_first w _ _ rfl) hg1 hP
  have hB1 := stays (heap_second w _ _) hg1 (by omega)
  have c0 := heap_cell hB1 0
  have f0 := heap_free hB1 0
  simp at c0
  have HR1 := Lib.hid hR1
  have HB1 := Lib.hid hB1
  clear hR1 hB1
  go_wp2_with fail
  refine (H3.out _ (hp1.setCell (by simp; omega) _)).mono ?_
  rintro e w2 ⟨rfl, hp2, hg2⟩
  have hs2 := hg2.size
  simp [World.setCell] at hs2
  have hB2 := stays (heap_setCell_same HB1.out _) hg2 (by omega)
  have hR2 := stays ((Below.heap_setCell w1 _ _ _ (by simp)).trans HR1.out) hg2 hP
  simp at hB2
  have c4 := heap_cell hB2 4
  have f4 := heap_free hB2 4
  have c5 := heap_cell hB2 5
  have f5 := heap_free hB2 5
  simp at c4 c5
  have hB3 := fun u v => heap_setCell_same (heap_setCell_same hB2 (j := 4) u) (j := 5) v
  simp at hB3
  have hR3 := fun u v => ((Below.heap_setCell (w2.setCell ⟨w.heap.size + 1, 4, none⟩ u) ⟨w.heap.size + 1, 5, none⟩ v _ (by simp)).trans (Below.heap_setCell w2 ⟨w.heap.size + 1, 4, none⟩ u _ (by simp))).trans hR2
  have HB2 := Lib.hid hB2
  have HR2 := Lib.hid hR2
  clear hB2 hR2
  go_wp2_with (refine wpList_load_fd rfl _ rfl (w.heap.size + 1) _ _ _ _ _ _ _ rfl _ _ (hB3 _ _) ?_; refine wpList_store_fd rfl _ _ rfl rfl w.heap.size _ _ _ _ _ _ _ _ _ _ _ _ _ _ rfl rfl _ (hR3 _ _) ?_)
  refine bodyPost_ret (results_fd rfl _ _ w.heap.size _ _ _ _ _ _ _ _ (0, 0) rfl (setRow_heap _ _ _ _ _ _ (hR3 _ _))) rfl ?_
  exact ⟨by rw [HX.out], ((hp2.setCell (by simp; omega) _).setCell (by simp; omega) _).setRow hP _, (((((((Kp.refl w.heap.size P w).alloc (Nat.le_refl _) _).alloc (by simp) _).taken hg1 (by simp; omega)).setCell (by simp) _).taken hg2 (by simp [World.setCell]; omega)).setCell (by simp) _).setCell (by simp) _ |>.setRow (Nat.le_refl _) _ |>.out⟩
end Go.Proofs.YtldgfepimegbmaaDoor
