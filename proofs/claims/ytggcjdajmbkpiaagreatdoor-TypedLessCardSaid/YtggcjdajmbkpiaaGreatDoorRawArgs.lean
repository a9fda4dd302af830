/-
  A field is printed: the contracts.
-/
import Derived.Test.YtggcjdajmbkpiaaGreatDoorProLine
import Derived.Test.YtggcjdajmbkpiaaGreatDoorProTake
import Derived.Deep.RegionHeld3
import Derived.Laws.MakeOwn
import Derived.Deep.Slices
import Derived.Deep.Strs
import Derived.Test.YtggcjdajmbkpiaaGreatDoorTokSkip
namespace Go.Proofs.YtggcjdajmbkpiaaGreatDoor
set_option maxRecDepth 100000

open Go.RowKit

/-- A field whose texts and number are not too great. -/
structure FdOk (d : Fd) : Prop where
  key : d.key.length ≤ 2000000
  type : d.type.length ≤ 2000000
  name : d.name.length ≤ 2000000
  lo : -9223372036854775808 ≤ d.no
  hi : d.no ≤ 9223372036854775807
end Go.Proofs.YtggcjdajmbkpiaaGreatDoor
/-
  A oneof is printed: the contract.
-/
namespace Go.Proofs.YtggcjdajmbkpiaaGreatDoor
set_option maxRecDepth 100000

open Go.RowKit

/-- What is laid lies below B. -/
def LaidB (B : Nat) (w : World) : Prop := ∃ w0, Laid w0 ∧ w0.heap.size ≤ B ∧ Below w0.heap.size w0 w
theorem LaidB.laid {B : Nat} {w : World} (h : LaidB B w) : Laid w := by
  obtain ⟨w0, h1, h2, h3⟩ := h
  exact h1.on h3
theorem LaidB.pr {B : Nat} {w w' : World} (h : LaidB B w) (k : Pr B w w') : LaidB B w' := by
  obtain ⟨w0, h1, h2, h3⟩ := h
  exact ⟨w0, h1, h2, h3.trans ⟨k.os, k.tape, k.output, k.size, fun i hi => k.block i (by omega)⟩⟩
theorem LaidB.start {w : World} (h : Laid w) : LaidB w.heap.size w := ⟨w, h, Nat.le_refl _, Below.refl _ _⟩
theorem fdv_length (l : List Fd) : (fdv l).length = l.length * 7 := by
  induction l with
  | nil => rfl
  | cons d l ih => simp only [fdv, List.flatMap_cons, List.length_append, List.length_cons] at ih ⊢; rw [ih]; simp [FC]; omega
theorem fdv_get : ∀ (l : List Fd) (k j : Nat) (d : Fd), l[k]? = some d → j < 7 → (fdv l)[k * 7 + j]? = (FC d)[j]?
  | [], k, j, r, h, _ => by simp at h
  | x :: l, 0, j, r, h, hj => by
    obtain rfl : x = r := by simpa using h
    rw [show fdv (x :: l) = FC x ++ fdv l by simp [fdv], Nat.zero_mul, Nat.zero_add, List.getElem?_append_left (by simp [FC]; omega)]
  | x :: l, k + 1, j, r, h, hj => by
    rw [show fdv (x :: l) = FC x ++ fdv l by simp [fdv], List.getElem?_append_right (by simp [FC]; omega)]
    rw [show (k + 1) * 7 + j - (FC x).length = k * 7 + j by simp [FC]; omega]
    exact fdv_get l k j r (by simpa using h) hj
theorem fieldsB_take (a : List UInt8) (l : List Fd) (k : Nat) (d : Fd) (h : l[k]? = some d) : fieldsB a (l.take (k + 1)) = fieldsB a (l.take k) ++ fieldB a d := by
  rw [List.take_add_one, h]; simp [fieldsB]
theorem fieldsB_le (a : List UInt8) (l : List Fd) (k : Nat) : (fieldsB a (l.take k)).length ≤ (fieldsB a l).length := by
  conv => rhs; rw [← List.take_append_drop k l]
  simp only [fieldsB, List.map_append, List.flatten_append, List.length_append]
  omega
def FsRel (B : Nat) (a : List UInt8) (L : List UInt8) (l : List Fd) (w : World) (o i : Value) (wr : World) : Prop := ∃ k : Nat, i = .int .i64 k ∧ k ≤ l.length ∧ Out B wr o (L ++ fieldsB a (l.take k)) ∧ Pr B w wr
theorem FsRel.mk {B : Nat} {a L : List UInt8} {l : List Fd} {w wr : World} {o i : Value} (k : Nat) (h1 : i = .int .i64 k) (h2 : k ≤ l.length) (h3 : Out B wr o (L ++ fieldsB a (l.take k))) (h4 : Pr B w wr) : FsRel B a L l w o i wr := ⟨k, h1, h2, h3, h4⟩
end Go.Proofs.YtggcjdajmbkpiaaGreatDoor
/-
  Reserved numbers and an enum are printed: the contracts.
-/
namespace Go.Proofs.YtggcjdajmbkpiaaGreatDoor
set_option maxRecDepth 100000

open Go.RowKit

theorem int_at {w : World} {b : Nat} {v : Value} {l : List Int} (h : w.ownsRow b 2 1 v l.length (intv l)) {k : Nat} {n : Int} (hk : l[k]? = some n) :
    ∃ g cap, v = .slice (some ⟨g, 0, none⟩) l.length cap ∧ g < w.heap.size ∧ w.cell? ⟨g, k, none⟩ = some (.int .i64 n) := by
  have hlt : k < l.length := (List.getElem?_eq_some_iff.1 hk).1
  rcases h.2 with ⟨_, h0⟩ | ⟨g, cap, cur, rfl, _, hh, _⟩
  · omega
  · have := h.cells (g := g) rfl k (.int .i64 n) (by simp [intv, hk])
    exact ⟨g, cap, rfl, (Array.getElem?_eq_some_iff.1 hh).1, by simpa [Addr.add_lit] using this⟩
theorem numsB_take (a : List UInt8) (l : List Int) (k : Nat) (n : Int) (h : l[k]? = some n) : numsB a (l.take (k + 1)) = numsB a (l.take k) ++ ((if k = 0 then a else [44, 32]) ++ digB n) := by
  have hlt : k < l.length := (List.getElem?_eq_some_iff.1 h).1
  rw [List.take_add_one, h]
  simp only [Option.toList_some]
  rw [numsB_snoc]
  congr 2
  by_cases h0 : k = 0
  · subst h0; simp
  · have : l.take k ≠ [] := by intro e; have := congrArg List.length e; rw [List.length_take, List.length_nil] at this; omega
    simp [h0, this]
theorem numsB_app (a : List UInt8) (l : List Int) (k : Nat) : ∃ r, numsB a l = numsB a (l.take k) ++ r := by
  induction l generalizing a k with
  | nil => exact ⟨[], by simp [numsB]⟩
  | cons n l ih =>
    cases k with
    | zero => exact ⟨_, by rw [List.take_zero, numsB]; rfl⟩
    | succ k =>
      obtain ⟨r, hr⟩ := ih [44, 32] k
      exact ⟨r, by rw [numsB, hr, List.take_succ_cons, numsB]; simp⟩
theorem numsB_le (a : List UInt8) (l : List Int) (k : Nat) : (numsB a (l.take k)).length ≤ (numsB a l).length := by
  obtain ⟨r, hr⟩ := numsB_app a l k
  rw [hr, List.length_append]; omega
def NsRel (B : Nat) (L : List UInt8) (l : List Int) (w : World) (o s i : Value) (wr : World) : Prop := ∃ k : Nat, i = .int .i64 k ∧ s = .string (txt (if k = 0 then [32] else [44, 32])) ∧ k ≤ l.length ∧ Out B wr o (L ++ numsB [32] (l.take k)) ∧ Pr B w wr
theorem NsRel.mk {B : Nat} {L : List UInt8} {l : List Int} {w wr : World} {o s i : Value} (k : Nat) (h1 : i = .int .i64 k) (hs : s = .string (txt (if k = 0 then [32] else [44, 32]))) (h2 : k ≤ l.length) (h3 : Out B wr o (L ++ numsB [32] (l.take k))) (h4 : Pr B w wr) : NsRel B L l w o s i wr := ⟨k, h1, hs, h2, h3, h4⟩
end Go.Proofs.YtggcjdajmbkpiaaGreatDoor
/-
  An enum is printed: the contract.
-/
namespace Go.Proofs.YtggcjdajmbkpiaaGreatDoor
set_option maxRecDepth 100000

open Go.RowKit

theorem vlv_length (l : List Vl) : (vlv l).length = l.length * 3 := by
  induction l with
  | nil => rfl
  | cons d l ih => simp only [vlv, List.flatMap_cons, List.length_append, List.length_cons] at ih ⊢; rw [ih]; simp [VC]; omega
theorem vlv_get : ∀ (l : List Vl) (k j : Nat) (d : Vl), l[k]? = some d → j < 3 → (vlv l)[k * 3 + j]? = (VC d)[j]?
  | [], k, j, r, h, _ => by simp at h
  | x :: l, 0, j, r, h, hj => by
    obtain rfl : x = r := by simpa using h
    rw [show vlv (x :: l) = VC x ++ vlv l by simp [vlv], Nat.zero_mul, Nat.zero_add, List.getElem?_append_left (by simp [VC]; omega)]
  | x :: l, k + 1, j, r, h, hj => by
    rw [show vlv (x :: l) = VC x ++ vlv l by simp [vlv], List.getElem?_append_right (by simp [VC]; omega)]
    rw [show (k + 1) * 3 + j - (VC x).length = k * 3 + j by simp [VC]; omega]
    exact vlv_get l k j r (by simpa using h) hj
def valsB (l : List Vl) : List UInt8 := (l.map valB).flatten
theorem valsB_take (l : List Vl) (k : Nat) (d : Vl) (h : l[k]? = some d) : valsB (l.take (k + 1)) = valsB (l.take k) ++ valB d := by
  rw [List.take_add_one, h]; simp [valsB]
theorem valsB_le (l : List Vl) (k : Nat) : (valsB (l.take k)).length ≤ (valsB l).length := by
  conv => rhs; rw [← List.take_append_drop k l]
  simp only [valsB, List.map_append, List.flatten_append, List.length_append]
  omega
structure VlOk (d : Vl) : Prop where
  lo : -9223372036854775808 ≤ d.n
  hi : d.n ≤ 9223372036854775807
def VsRel (B : Nat) (L : List UInt8) (l : List Vl) (w : World) (o i : Value) (wr : World) : Prop := ∃ k : Nat, i = .int .i64 k ∧ k ≤ l.length ∧ Out B wr o (L ++ valsB (l.take k)) ∧ Pr B w wr
theorem VsRel.mk {B : Nat} {L : List UInt8} {l : List Vl} {w wr : World} {o i : Value} (k : Nat) (h1 : i = .int .i64 k) (h2 : k ≤ l.length) (h3 : Out B wr o (L ++ valsB (l.take k))) (h4 : Pr B w wr) : VsRel B L l w o i wr := ⟨k, h1, h2, h3, h4⟩
end Go.Proofs.YtggcjdajmbkpiaaGreatDoor
/-
  The fields of each oneof, in rows of their own: the contract.
-/
namespace Go.Proofs.YtggcjdajmbkpiaaGreatDoor
set_option maxRecDepth 100000

open Go.RowKit

theorem made_nil (n : Nat) : madeCells (Value.slice none 0 0).cells n = (List.replicate n (Value.slice none 0 0)).toArray := by
  apply Array.ext
  · simp [madeCells]
  · intro i h1 h2
    simp only [madeCells, Array.getElem_map, Array.getElem_range]
    simp [Value.cells, Nat.mod_one]
end Go.Proofs.YtggcjdajmbkpiaaGreatDoor
/-
  A message is printed: the contract.
-/
namespace Go.Proofs.YtggcjdajmbkpiaaGreatDoor
set_option maxRecDepth 100000

open Go.RowKit

theorem foldl_mem (n : Nat) : ∀ (l : List Fd) (ms : List (List Fd)) (P : Fd → Prop), (∀ d ∈ l, P d) → (∀ (j : Nat) (x : List Fd), ms[j]? = some x → ∀ d ∈ x, P d) → ∀ (j : Nat) (x : List Fd), (l.foldl (memStep n) ms)[j]? = some x → ∀ d ∈ x, P d
  | [], ms, P, _, h2, j, x, hx, d, hd => h2 j x hx d hd
  | e :: l, ms, P, h1, h2, j, x, hx, d, hd => by
    rw [List.foldl_cons] at hx
    refine foldl_mem n l _ P (fun d hd => h1 d (by simp [hd])) (fun j x hx d hd => ?_) j x hx d hd
    unfold memStep at hx
    split at hx
    · rw [List.getElem?_set] at hx
      split at hx
      · rename_i h3
        subst h3
        split at hx
        · injection hx with hx
          subst hx
          rcases List.mem_append.1 hd with h4 | h4
          · rw [List.getD_eq_getElem?_getD] at h4
            cases h5 : ms[oneAt e]? with
            | none => rw [h5] at h4; simp at h4
            | some y => rw [h5] at h4; exact h2 _ y h5 d h4
          · rw [List.mem_singleton.1 h4]; exact h1 e (by simp)
        · cases hx
      · exact h2 j x hx d hd
    · exact h2 j x hx d hd
theorem memsB_mem (n : Nat) (l : List Fd) (P : Fd → Prop) (h : ∀ d ∈ l, P d) (j : Nat) (x : List Fd) (hx : (memsB n l)[j]? = some x) : ∀ d ∈ x, P d :=
  foldl_mem n l _ P h (fun j x hx d hd => by rw [List.getElem?_replicate] at hx; split at hx <;> cases hx; cases hd) j x hx
theorem strrow_at {w : World} {b : Nat} {v : Value} {l : List (List UInt8)} (h : w.ownsRow b 9 1 v l.length (strv l)) {k : Nat} {x : List UInt8} (hk : l[k]? = some x) :
    ∃ g cap, v = .slice (some ⟨g, 0, none⟩) l.length cap ∧ g < w.heap.size ∧ w.cell? ⟨g, k, none⟩ = some (.string (txt x)) := by
  have hlt : k < l.length := (List.getElem?_eq_some_iff.1 hk).1
  rcases h.2 with ⟨_, h0⟩ | ⟨g, cap, cur, rfl, _, hh, _⟩
  · omega
  · have := h.cells (g := g) rfl k (.string (txt x)) (by simp [strv, hk])
    exact ⟨g, cap, rfl, (Array.getElem?_eq_some_iff.1 hh).1, by simpa [Addr.add_lit] using this⟩
structure MsOk (m : Ms) : Prop where
  f : ∀ d ∈ m.F, FdOk d
  r : ∀ n ∈ m.res, -9223372036854775808 ≤ n ∧ n ≤ 9223372036854775807
  lf : m.F.length ≤ 100000
  lo : m.ones.length ≤ 100000
  lr : m.res.length ≤ 100000
theorem items_out {ones : List (List UInt8)} {ms : List (List Fd)} {d : Fd} {l : List Fd} (h : inOne ones.length d = false) : itemsB ones ms (d :: l) = fieldB [32, 32] d ++ itemsB ones ms l := by simp [itemsB, h]
theorem items_in {ones : List (List UInt8)} {ms : List (List Fd)} {d : Fd} {l : List Fd} {j : Nat} {x : List UInt8} {y : List Fd} (h : inOne ones.length d = true) (hj : oneAt d = j) (hx : ones[j]? = some x) (hy : ms[j]? = some y) : itemsB ones ms (d :: l) = oneB x y ++ itemsB ones (ms.set j []) l := by
  simp [itemsB, h, hj, hx, hy]
end Go.Proofs.YtggcjdajmbkpiaaGreatDoor
/-
  A file is printed: the contract.
-/
namespace Go.Proofs.YtggcjdajmbkpiaaGreatDoor
set_option maxRecDepth 100000

open Go.RowKit

structure FlOk (f : Fl) : Prop where
  m : ∀ m ∈ f.M, MsOk m
  e : ∀ e ∈ f.E, (∀ d ∈ e.V, VlOk d) ∧ e.V.length ≤ 1000000
  lm : f.M.length ≤ 1000000
  le : f.E.length ≤ 1000000
def listB {α : Type} (g : α → List UInt8) (l : List α) : List UInt8 := (l.map g).flatten
theorem listB_take {α : Type} (g : α → List UInt8) (l : List α) (k : Nat) (d : α) (h : l[k]? = some d) : listB g (l.take (k + 1)) = listB g (l.take k) ++ g d := by
  rw [List.take_add_one, h]; simp [listB]
theorem listB_le {α : Type} (g : α → List UInt8) (l : List α) (k : Nat) : (listB g (l.take k)).length ≤ (listB g l).length := by
  conv => rhs; rw [← List.take_append_drop k l]
  simp only [listB, List.map_append, List.flatten_append, List.length_append]
  omega
def PfRel {α : Type} (B : Nat) (g : α → List UInt8) (L : List UInt8) (l : List α) (w : World) (o i : Value) (wr : World) : Prop := ∃ k : Nat, i = .int .i64 k ∧ k ≤ l.length ∧ Out B wr o (L ++ listB g (l.take k)) ∧ Pr B w wr
theorem PfRel.mk {α : Type} {B : Nat} {g : α → List UInt8} {L : List UInt8} {l : List α} {w wr : World} {o i : Value} (k : Nat) (h1 : i = .int .i64 k) (h2 : k ≤ l.length) (h3 : Out B wr o (L ++ listB g (l.take k))) (h4 : Pr B w wr) : PfRel B g L l w o i wr := ⟨k, h1, h2, h3, h4⟩
end Go.Proofs.YtggcjdajmbkpiaaGreatDoor
/-
  A file that comes in: its rows lie below a place, wherever they begin; what is read of them.
-/
namespace Go.Proofs.YtggcjdajmbkpiaaGreatDoor
set_option maxRecDepth 100000

open Go.RowKit

/-- A row that lies below B, wherever it begins. -/
def Rb (B : Nat) (w : World) (v : Value) (n size : Nat) (xs : List Value) : Prop := ∃ A c, v = .slice A n c ∧ Sl w A n c size xs ∧ ∀ ad, A = some ad → 0 < n → ad.block < B
/-- What lies below B is as it was. -/
def Low (B : Nat) (w w' : World) : Prop := w.heap.size ≤ w'.heap.size ∧ ∀ k, k < B → w'.heap[k]? = w.heap[k]?
theorem Low.refl (B : Nat) (w : World) : Low B w w := ⟨Nat.le_refl _, fun _ _ => rfl⟩
theorem Low.trans {B : Nat} {a b c : World} (h : Low B a b) (k : Low B b c) : Low B a c := ⟨Nat.le_trans h.1 k.1, fun i hi => (k.2 i hi).trans (h.2 i hi)⟩
theorem Pr.low {B : Nat} {w w' : World} (h : Pr B w w') : Low B w w' := ⟨h.size, h.block⟩
theorem Low.below {B : Nat} {w w' : World} (h : Below w.heap.size w w') (hB : B ≤ w.heap.size) : Low B w w' := ⟨h.size, fun k hk => h.block k (by omega)⟩
theorem Low.of {B : Nat} {w w' : World} (h : Below B w w') : Low B w w' := ⟨h.size, h.block⟩
theorem Low.alloc {B : Nat} (w : World) (o : Obj) (hB : B ≤ w.heap.size) : Low B w (w.alloc o) := Low.below (below_new w o) hB
theorem Sl.low {B : Nat} {w w' : World} {A : Option Addr} {n c size : Nat} {xs : List Value} (h : Sl w A n c size xs) (hA : ∀ ad, A = some ad → 0 < n → ad.block < B) (hl : Low B w w') : Sl w' A n c size xs := by
  refine ⟨h.len, h.le, h.cap, h.nil, fun ad ha hn => Nat.lt_of_lt_of_le (h.old ad ha hn) hl.1, fun ad ha k u hu => ?_⟩
  have hn : 0 < n := by
    rcases Nat.eq_zero_or_pos n with h0 | h0
    · have := h.len
      rw [h0, Nat.zero_mul] at this
      rw [List.eq_nil_of_length_eq_zero this] at hu
      simp at hu
    · exact h0
  have hk : w'.heap[(ad.add k).block]? = w.heap[(ad.add k).block]? := by rw [add_same_block]; exact hl.2 _ (hA ad ha hn)
  exact (World.cell?_of_block hk).trans (h.cell ad ha k u hu)
theorem Rb.low {B : Nat} {w w' : World} {v : Value} {n size : Nat} {xs : List Value} (h : Rb B w v n size xs) (hl : Low B w w') : Rb B w' v n size xs := by
  obtain ⟨A, c, rfl, h1, h2⟩ := h
  exact ⟨A, c, rfl, h1.low h2 hl, h2⟩
theorem Rb.mono {B B' : Nat} {w : World} {v : Value} {n size : Nat} {xs : List Value} (h : Rb B w v n size xs) (hB : B ≤ B') : Rb B' w v n size xs := by
  obtain ⟨A, c, rfl, h1, h2⟩ := h
  exact ⟨A, c, rfl, h1, fun ad ha hn => Nat.lt_of_lt_of_le (h2 ad ha hn) hB⟩
theorem Rb.of_own {w : World} {b : Nat} {e : TypeId} {v : Value} {n size : Nat} {xs : List Value} (h : w.ownsRow b e size v n xs) : Rb w.heap.size w v n size xs := by
  obtain ⟨A, c, rfl, hs⟩ := Sl.of_own h
  exact ⟨A, c, rfl, hs, fun ad ha hn => hs.old ad ha hn⟩
theorem Rb.one {B : Nat} {w : World} {v : Value} {n size : Nat} {xs : List Value} (h : Rb B w v n size xs) : v.oneCell' = true := by
  obtain ⟨A, c, rfl, _, _⟩ := h
  rfl
/-- Cell j of element k. -/
theorem Sl.elem {w : World} {A : Option Addr} {n c size : Nat} {xs : List Value} (h : Sl w A n c size xs) {k : Nat} (hk : k < n) : ∃ ad, A = some ad ∧ ad.block < w.heap.size ∧ (∀ u, xs[k * size]? = some u → w.cell? (ad.add (k * size)) = some u) ∧
    ∀ j u, 0 < j → xs[k * size + j]? = some u → w.cell? ⟨(ad.add (k * size)).block, (ad.add (k * size)).off + j, none⟩ = some u := by
  obtain ⟨ad, rfl, hb, hcell⟩ := Sl.there h (by omega)
  refine ⟨ad, rfl, hb, fun u hu => hcell _ _ hu, fun j u hj hu => ?_⟩
  have e : (⟨(ad.add (k * size)).block, (ad.add (k * size)).off + j, none⟩ : Addr) = ad.add (k * size + j) := by
    rw [← add_twice]
    cases j with
    | zero => omega
    | succ j => simp [Addr.add]
  rw [e]
  exact hcell _ _ hu

/-! ### Files that come in -/

structure MAt (B : Nat) (w : World) (m : Ms) (vF vO vR : Value) : Prop where
  f : Rb B w vF m.F.length 7 (fdv m.F)
  o : Rb B w vO m.ones.length 1 (strv m.ones)
  r : Rb B w vR m.res.length 1 (intv m.res)
def EAt (B : Nat) (w : World) (e : En) (vV : Value) : Prop := Rb B w vV e.V.length 3 (vlv e.V)
theorem MAt.low {B : Nat} {w w' : World} {m : Ms} {vF vO vR : Value} (h : MAt B w m vF vO vR) (hl : Low B w w') : MAt B w' m vF vO vR := ⟨h.f.low hl, h.o.low hl, h.r.low hl⟩
theorem EAt.low {B : Nat} {w w' : World} {e : En} {vV : Value} (h : EAt B w e vV) (hl : Low B w w') : EAt B w' e vV := Rb.low h hl
theorem MAt.mono {B B' : Nat} {w : World} {m : Ms} {vF vO vR : Value} (h : MAt B w m vF vO vR) (hB : B ≤ B') : MAt B' w m vF vO vR := ⟨h.f.mono hB, h.o.mono hB, h.r.mono hB⟩
theorem EAt.mono {B B' : Nat} {w : World} {e : En} {vV : Value} (h : EAt B w e vV) (hB : B ≤ B') : EAt B' w e vV := Rb.mono h hB
def MsAt (B : Nat) (w : World) : List Ms → List Value → Prop
  | [], xs => xs = []
  | m :: l, xs => ∃ vF vO vR ys, xs = MC m vF vO vR ++ ys ∧ MAt B w m vF vO vR ∧ MsAt B w l ys
def EnAt (B : Nat) (w : World) : List En → List Value → Prop
  | [], xs => xs = []
  | e :: l, xs => ∃ vV ys, xs = EC e vV ++ ys ∧ EAt B w e vV ∧ EnAt B w l ys
theorem MsAt.low {B : Nat} {w w' : World} (hl : Low B w w') : ∀ {l : List Ms} {xs : List Value}, MsAt B w l xs → MsAt B w' l xs
  | [], _, h => h
  | _ :: _, _, ⟨vF, vO, vR, ys, h1, h2, h3⟩ => ⟨vF, vO, vR, ys, h1, h2.low hl, h3.low hl⟩
theorem EnAt.low {B : Nat} {w w' : World} (hl : Low B w w') : ∀ {l : List En} {xs : List Value}, EnAt B w l xs → EnAt B w' l xs
  | [], _, h => h
  | _ :: _, _, ⟨vV, ys, h1, h2, h3⟩ => ⟨vV, ys, h1, h2.low hl, h3.low hl⟩
theorem MsAt.mono {B B' : Nat} {w : World} (hB : B ≤ B') : ∀ {l : List Ms} {xs : List Value}, MsAt B w l xs → MsAt B' w l xs
  | [], _, h => h
  | _ :: _, _, ⟨vF, vO, vR, ys, h1, h2, h3⟩ => ⟨vF, vO, vR, ys, h1, h2.mono hB, h3.mono hB⟩
theorem EnAt.mono {B B' : Nat} {w : World} (hB : B ≤ B') : ∀ {l : List En} {xs : List Value}, EnAt B w l xs → EnAt B' w l xs
  | [], _, h => h
  | _ :: _, _, ⟨vV, ys, h1, h2, h3⟩ => ⟨vV, ys, h1, h2.mono hB, h3.mono hB⟩
/-- A file, as it is read, wherever it lies below B. -/
def FAt (B : Nat) (w : World) (f : Fl) (vM vE : Value) : Prop := ∃ xs ys, Rb B w vM f.M.length 5 xs ∧ MsAt B w f.M xs ∧ Rb B w vE f.E.length 3 ys ∧ EnAt B w f.E ys
theorem FAt.low {B : Nat} {w w' : World} {f : Fl} {vM vE : Value} (h : FAt B w f vM vE) (hl : Low B w w') : FAt B w' f vM vE := by
  obtain ⟨xs, ys, h1, h2, h3, h4⟩ := h
  exact ⟨xs, ys, h1.low hl, h2.low hl, h3.low hl, h4.low hl⟩
theorem FAt.mono {B B' : Nat} {w : World} {f : Fl} {vM vE : Value} (h : FAt B w f vM vE) (hB : B ≤ B') : FAt B' w f vM vE := by
  obtain ⟨xs, ys, h1, h2, h3, h4⟩ := h
  exact ⟨xs, ys, h1.mono hB, h2.mono hB, h3.mono hB, h4.mono hB⟩
/-! ### What lies at a place -/

theorem fdr_at {w : World} {A : Option Addr} {c : Nat} {l : List Fd} (h : Sl w A l.length c 7 (fdv l)) {k : Nat} {d : Fd} (hk : l[k]? = some d) :
    ∃ ad, A = some ad ∧ ad.block < w.heap.size ∧ w.cell? (ad.add (k * 7)) = some (.string (txt d.type)) ∧ w.cell? ⟨(ad.add (k * 7)).block, (ad.add (k * 7)).off + 1, none⟩ = some (.string (txt d.key)) ∧ w.cell? ⟨(ad.add (k * 7)).block, (ad.add (k * 7)).off + 2, none⟩ = some (.bool d.rep) ∧
      w.cell? ⟨(ad.add (k * 7)).block, (ad.add (k * 7)).off + 3, none⟩ = some (.int .i64 d.one) ∧ w.cell? ⟨(ad.add (k * 7)).block, (ad.add (k * 7)).off + 4, none⟩ = some (.string (txt d.name)) ∧ w.cell? ⟨(ad.add (k * 7)).block, (ad.add (k * 7)).off + 5, none⟩ = some (.int .i64 d.no) ∧ w.cell? ⟨(ad.add (k * 7)).block, (ad.add (k * 7)).off + 6, none⟩ = some (.int .i64 d.at_) := by
  obtain ⟨ad, rfl, hb, h0, hj⟩ := Sl.elem h (List.getElem?_eq_some_iff.1 hk).1
  have hv := fun (j : Nat) (hj : j < 7) => fdv_get l k j d hk hj
  refine ⟨ad, rfl, hb, h0 _ (by have := hv 0 (by omega); rw [Nat.add_zero] at this; rw [this]; rfl), hj 1 _ (by omega) (by rw [hv 1 (by omega)]; rfl), hj 2 _ (by omega) (by rw [hv 2 (by omega)]; rfl), hj 3 _ (by omega) (by rw [hv 3 (by omega)]; rfl), hj 4 _ (by omega) (by rw [hv 4 (by omega)]; rfl), hj 5 _ (by omega) (by rw [hv 5 (by omega)]; rfl), hj 6 _ (by omega) (by rw [hv 6 (by omega)]; rfl)⟩
theorem vlr_at {w : World} {A : Option Addr} {c : Nat} {l : List Vl} (h : Sl w A l.length c 3 (vlv l)) {k : Nat} {d : Vl} (hk : l[k]? = some d) :
    ∃ ad, A = some ad ∧ ad.block < w.heap.size ∧ w.cell? (ad.add (k * 3)) = some (.string (txt d.name)) ∧ w.cell? ⟨(ad.add (k * 3)).block, (ad.add (k * 3)).off + 1, none⟩ = some (.int .i64 d.n) ∧ w.cell? ⟨(ad.add (k * 3)).block, (ad.add (k * 3)).off + 2, none⟩ = some (.int .i64 d.at_) := by
  obtain ⟨ad, rfl, hb, h0, hj⟩ := Sl.elem h (List.getElem?_eq_some_iff.1 hk).1
  have hv := fun (j : Nat) (hj : j < 3) => vlv_get l k j d hk hj
  refine ⟨ad, rfl, hb, h0 _ (by have := hv 0 (by omega); rw [Nat.add_zero] at this; rw [this]; rfl), hj 1 _ (by omega) (by rw [hv 1 (by omega)]; rfl), hj 2 _ (by omega) (by rw [hv 2 (by omega)]; rfl)⟩
theorem intr_at {w : World} {A : Option Addr} {c : Nat} {l : List Int} (h : Sl w A l.length c 1 (intv l)) {k : Nat} {n : Int} (hk : l[k]? = some n) : ∃ ad, A = some ad ∧ ad.block < w.heap.size ∧ w.cell? (ad.add k) = some (.int .i64 n) := by
  obtain ⟨ad, rfl, hb, hc⟩ := Sl.there h (by have := (List.getElem?_eq_some_iff.1 hk).1; omega)
  exact ⟨ad, rfl, hb, hc k _ (by simp [intv, hk])⟩
theorem strr_at {w : World} {A : Option Addr} {c : Nat} {l : List (List UInt8)} (h : Sl w A l.length c 1 (strv l)) {k : Nat} {x : List UInt8} (hk : l[k]? = some x) : ∃ ad, A = some ad ∧ ad.block < w.heap.size ∧ w.cell? (ad.add k) = some (.string (txt x)) := by
  obtain ⟨ad, rfl, hb, hc⟩ := Sl.there h (by have := (List.getElem?_eq_some_iff.1 hk).1; omega)
  exact ⟨ad, rfl, hb, hc k _ (by simp [strv, hk])⟩
theorem msr_list {B : Nat} {w : World} : ∀ {l : List Ms} {xs : List Value}, MsAt B w l xs → ∀ {k : Nat} {m : Ms}, l[k]? = some m → ∃ vF vO vR, MAt B w m vF vO vR ∧ ∀ j, j < 5 → xs[k * 5 + j]? = (MC m vF vO vR)[j]?
  | [], xs, _, k, m, hk => by simp at hk
  | x :: l, xs, ⟨vF, vO, vR, ys, h1, h2, h3⟩, 0, m, hk => by
    obtain rfl : x = m := by simpa using hk
    refine ⟨vF, vO, vR, h2, fun j hj => ?_⟩
    rw [h1, Nat.zero_mul, Nat.zero_add, List.getElem?_append_left (by simp [MC]; omega)]
  | x :: l, xs, ⟨vF, vO, vR, ys, h1, h2, h3⟩, k + 1, m, hk => by
    obtain ⟨a, b, c, h4, h5⟩ := msr_list h3 (k := k) (m := m) (by simpa using hk)
    refine ⟨a, b, c, h4, fun j hj => ?_⟩
    rw [h1, List.getElem?_append_right (by simp [MC]; omega), ← h5 j hj]
    congr 1
    simp [MC]; omega
theorem enr_list {B : Nat} {w : World} : ∀ {l : List En} {xs : List Value}, EnAt B w l xs → ∀ {k : Nat} {m : En}, l[k]? = some m → ∃ vV, EAt B w m vV ∧ ∀ j, j < 3 → xs[k * 3 + j]? = (EC m vV)[j]?
  | [], xs, _, k, m, hk => by simp at hk
  | x :: l, xs, ⟨vV, ys, h1, h2, h3⟩, 0, m, hk => by
    obtain rfl : x = m := by simpa using hk
    refine ⟨vV, h2, fun j hj => ?_⟩
    rw [h1, Nat.zero_mul, Nat.zero_add, List.getElem?_append_left (by simp [EC]; omega)]
  | x :: l, xs, ⟨vV, ys, h1, h2, h3⟩, k + 1, m, hk => by
    obtain ⟨a, h4, h5⟩ := enr_list h3 (k := k) (m := m) (by simpa using hk)
    refine ⟨a, h4, fun j hj => ?_⟩
    rw [h1, List.getElem?_append_right (by simp [EC]; omega), ← h5 j hj]
    congr 1
    simp [EC]; omega
theorem msr_at {B : Nat} {w : World} {A : Option Addr} {c : Nat} {l : List Ms} {xs : List Value} (h : Sl w A l.length c 5 xs) (ha : MsAt B w l xs) {k : Nat} {m : Ms} (hk : l[k]? = some m) :
    ∃ ad vF vO vR, A = some ad ∧ ad.block < w.heap.size ∧ MAt B w m vF vO vR ∧ w.cell? (ad.add (k * 5)) = some (.string (txt m.name)) ∧ w.cell? ⟨(ad.add (k * 5)).block, (ad.add (k * 5)).off + 1, none⟩ = some vF ∧ w.cell? ⟨(ad.add (k * 5)).block, (ad.add (k * 5)).off + 2, none⟩ = some vO ∧
      w.cell? ⟨(ad.add (k * 5)).block, (ad.add (k * 5)).off + 3, none⟩ = some vR ∧ w.cell? ⟨(ad.add (k * 5)).block, (ad.add (k * 5)).off + 4, none⟩ = some (.int .i64 m.at_) := by
  obtain ⟨vF, vO, vR, hr, hx⟩ := msr_list ha hk
  obtain ⟨ad, rfl, hb, h0, hj⟩ := Sl.elem h (List.getElem?_eq_some_iff.1 hk).1
  refine ⟨ad, vF, vO, vR, rfl, hb, hr, h0 _ (by have := hx 0 (by omega); rw [Nat.add_zero] at this; rw [this]; rfl), hj 1 _ (by omega) (by rw [hx 1 (by omega)]; rfl), hj 2 _ (by omega) (by rw [hx 2 (by omega)]; rfl), hj 3 _ (by omega) (by rw [hx 3 (by omega)]; rfl), hj 4 _ (by omega) (by rw [hx 4 (by omega)]; rfl)⟩
theorem enr_at {B : Nat} {w : World} {A : Option Addr} {c : Nat} {l : List En} {xs : List Value} (h : Sl w A l.length c 3 xs) (ha : EnAt B w l xs) {k : Nat} {m : En} (hk : l[k]? = some m) :
    ∃ ad vV, A = some ad ∧ ad.block < w.heap.size ∧ EAt B w m vV ∧ w.cell? (ad.add (k * 3)) = some (.string (txt m.name)) ∧ w.cell? ⟨(ad.add (k * 3)).block, (ad.add (k * 3)).off + 1, none⟩ = some vV ∧ w.cell? ⟨(ad.add (k * 3)).block, (ad.add (k * 3)).off + 2, none⟩ = some (.int .i64 m.at_) := by
  obtain ⟨vV, hr, hx⟩ := enr_list ha hk
  obtain ⟨ad, rfl, hb, h0, hj⟩ := Sl.elem h (List.getElem?_eq_some_iff.1 hk).1
  refine ⟨ad, vV, rfl, hb, hr, h0 _ (by have := hx 0 (by omega); rw [Nat.add_zero] at this; rw [this]; rfl), hj 1 _ (by omega) (by rw [hx 1 (by omega)]; rfl), hj 2 _ (by omega) (by rw [hx 2 (by omega)]; rfl)⟩
end Go.Proofs.YtggcjdajmbkpiaaGreatDoor
/-
  A file as an argument: how it lies there.
-/
namespace Go.Proofs.YtggcjdajmbkpiaaGreatDoor
set_option maxRecDepth 100000

open Go.RowKit Go.ChangeShapes Go.WideShapes Go.ChangeAt

section

variable {H : Type} {enc : TypeId × Value → H} {W : World} {n : Nat}

theorem txt_bytes (s : ByteArray) : s = txt s.data.toList := (txt_of s).symm
/-- A slice whose elements are read one by one. -/
theorem open_rows {α : Type} [Inhabited α] {t e : TypeId} {size : Nat} {v : Value} {x : DataW H × List MemPlace} (ht : Tryz.prog.underlying t = some (.slice e)) (hc : Tryz.prog.cellsOf e = size) (hpos : 0 < size)
    (C : α → List Value → Prop) (hone : ∀ (n : Nat) (cs : List Value) (y : DataW H × List MemPlace), cs.length = size → DataW.trod enc Tryz.prog W 0 (fun _ => true) true n e cs = some y → ∃ a, C a cs)
    (h : DataW.trod enc Tryz.prog W 0 (fun _ => true) true n t [v] = some x) :
    ∃ (A : Option Addr) (c : Nat) (l : List (α × List Value)), v = .slice A l.length c ∧ Sl W A l.length c size (l.flatMap Prod.snd) ∧ (∀ y ∈ l, C y.1 y.2 ∧ y.2.length = size) ∧ (∀ ad, A = some ad → 0 < l.length → ad.block < W.heap.size) := by
  rcases Deep.open_slice ht h with ⟨h0, _⟩ | ⟨a, len, cap, m, k, D, Pl, h0, _, hl, hm, hmm, _, hx⟩
  · have hv : v = .slice none 0 0 := by simpa using h0
    exact ⟨none, 0, [], hv, Sl.nothing W size, by simp, by simp⟩
  · have hv : v = .slice (some a) len cap := by simpa using h0
    subst hv
    have hlm : len ≤ m := by rw [hmm]; split <;> omega
    rw [hc] at hx
    have hy : ∀ i, i < len → ∃ y : α × List Value, C y.1 y.2 ∧ y.2.length = size ∧ W.cells? 0 (a.add (i * size)) size = some y.2 := fun i hi => by
      obtain ⟨cs, h1, h2⟩ := hx i (by omega)
      have hl2 := (World.cells?_some h1).2.1
      obtain ⟨b, hb⟩ := hone k cs _ hl2 h2
      exact ⟨(b, cs), hb, hl2, h1⟩
    obtain ⟨f, hf⟩ := Deep.choose_lt hy
    have hget : ∀ (L : List Nat) (i : Nat), (∀ j ∈ L, j < len) → i < L.length → ∀ q, q < size → ((L.map f).flatMap Prod.snd)[i * size + q]? = (f (L.getD i 0)).2[q]? := by
      intro L
      induction L with
      | nil => intro i _ hi; simp at hi
      | cons j L ih =>
        intro i hL hi q hq
        have hj := (hf j (hL j (by simp))).2.1
        cases i with
        | zero =>
          rw [List.map_cons, List.flatMap_cons, Nat.zero_mul, Nat.zero_add, List.getElem?_append_left (by omega)]
          rfl
        | succ i =>
          rw [List.map_cons, List.flatMap_cons, List.getElem?_append_right (by rw [hj, Nat.succ_mul]; omega), hj, show (i + 1) * size + q - size = i * size + q by rw [Nat.succ_mul]; omega]
          exact ih i (fun x hx => hL x (by simp [hx])) (by simpa using hi) q hq
    have hlen : ∀ (L : List Nat), (∀ j ∈ L, j < len) → ((L.map f).flatMap Prod.snd).length = L.length * size := by
      intro L
      induction L with
      | nil => intro _; simp
      | cons j L ih =>
        intro hL
        have hj := (hf j (hL j (by simp))).2.1
        rw [List.map_cons, List.flatMap_cons, List.length_append, hj, ih (fun x hx => hL x (by simp [hx])), List.length_cons, Nat.succ_mul]
        omega
    have hr : ∀ j ∈ List.range len, j < len := fun j hj => List.mem_range.1 hj
    have hcell : ∀ k u, (((List.range len).map f).flatMap Prod.snd)[k]? = some u → W.cell? (a.add k) = some u := by
      intro k u hu
      have hk : k < len * size := by
        have := (List.getElem?_eq_some_iff.1 hu).1
        rw [hlen _ hr, List.length_range] at this
        exact this
      have hi : k / size < len := (Nat.div_lt_iff_lt_mul hpos).2 hk
      have hq : k % size < size := Nat.mod_lt _ hpos
      have hk2 : k = k / size * size + k % size := by rw [Nat.mul_comm]; exact (Nat.div_add_mod k size).symm
      rw [hk2, hget (List.range len) (k / size) hr (by simpa using hi) _ hq] at hu
      have e : (List.range len).getD (k / size) 0 = k / size := by rw [List.getD_eq_getElem?_getD, List.getElem?_range hi]; rfl
      rw [e] at hu
      have h1 := (World.cells?_some (hf (k / size) hi).2.2).2.2 (k % size) hq
      rw [hu, add_twice, ← hk2] at h1
      exact h1
    refine ⟨some a, cap, (List.range len).map f, by simp, ⟨by rw [hlen _ hr]; simp, by simpa using hl, hm, by simp, fun ad ha hn => ?_, fun ad ha k u hu => ?_⟩, fun y hy => ?_, fun ad ha hn => ?_⟩
    · obtain rfl := Option.some.inj ha
      have h0 : 0 < len := by simpa using hn
      have h1 := (World.cells?_some (hf 0 h0).2.2).2.2 0 hpos
      have h2 := (hf 0 h0).2.1
      rw [List.getElem?_eq_getElem (by omega)] at h1
      have hb := World.block_lt_of_cell? W _ h1
      rwa [add_same_block, add_same_block] at hb
    · obtain rfl := Option.some.inj ha
      exact hcell k u hu
    · obtain ⟨i, hi, rfl⟩ := List.mem_map.1 hy
      have := hf i (hr i hi)
      exact ⟨this.1, this.2.1⟩
    · obtain rfl := Option.some.inj ha
      have h0 : 0 < len := by simpa using hn
      have h1 := (World.cells?_some (hf 0 h0).2.2).2.2 0 hpos
      have h2 := (hf 0 h0).2.1
      rw [List.getElem?_eq_getElem (by omega)] at h1
      have hb := World.block_lt_of_cell? W _ h1
      rwa [add_same_block, add_same_block] at hb
end

end Go.Proofs.YtggcjdajmbkpiaaGreatDoor
/-
  A file as an argument: how it is read.
-/
namespace Go.Proofs.YtggcjdajmbkpiaaGreatDoor
set_option maxRecDepth 100000

open Go.RowKit Go.ChangeShapes Go.WideShapes Go.ChangeAt

structure FdIn (d : Fd) : Prop where
  type : d.type.length ≤ maxLen
  key : d.key.length ≤ maxLen
  name : d.name.length ≤ maxLen
  one : inr d.one
  no : inr d.no
  at_ : inr d.at_
structure VlIn (d : Vl) : Prop where
  name : d.name.length ≤ maxLen
  n : inr d.n
  at_ : inr d.at_
structure MsIn (m : Ms) : Prop where
  name : m.name.length ≤ maxLen
  F : ∀ d ∈ m.F, FdIn d
  ones : ∀ x ∈ m.ones, x.length ≤ maxLen
  res : ∀ n ∈ m.res, inr n
  at_ : inr m.at_
structure EnIn (e : En) : Prop where
  name : e.name.length ≤ maxLen
  V : ∀ v ∈ e.V, VlIn v
  at_ : inr e.at_
structure FlIn (f : Fl) : Prop where
  M : ∀ m ∈ f.M, MsIn m
  E : ∀ e ∈ f.E, EnIn e
instance : Inhabited Fd := ⟨⟨[], [], false, 0, [], 0, 0⟩⟩
instance : Inhabited Vl := ⟨⟨[], 0, 0⟩⟩
instance : Inhabited Ms := ⟨⟨[], [], [], [], 0⟩⟩
instance : Inhabited En := ⟨⟨[], [], 0⟩⟩
section

variable {H : Type} {enc : TypeId × Value → H} {W : World} {n : Nat}

theorem list7 {α : Type} {l : List α} (h : l.length = 7) : ∃ a b c d e f g, l = [a, b, c, d, e, f, g] := by
  match l, h with
  | [a, b, c, d, e, f, g], _ => exact ⟨a, b, c, d, e, f, g, rfl⟩
theorem list5 {α : Type} {l : List α} (h : l.length = 5) : ∃ a b c d e, l = [a, b, c, d, e] := by
  match l, h with
  | [a, b, c, d, e], _ => exact ⟨a, b, c, d, e, rfl⟩
theorem list3 {α : Type} {l : List α} (h : l.length = 3) : ∃ a b c, l = [a, b, c] := by
  match l, h with
  | [a, b, c], _ => exact ⟨a, b, c, rfl⟩
theorem list2 {α : Type} {l : List α} (h : l.length = 2) : ∃ a b, l = [a, b] := by
  match l, h with
  | [a, b], _ => exact ⟨a, b, rfl⟩
theorem one_string {v : Value} {y : DataW H × List MemPlace} (h : DataW.trod enc Tryz.prog W 0 (fun _ => true) true n 9 [v] = some y) : ∃ x : List UInt8, v = .string (txt x) ∧ x.length ≤ maxLen := by
  obtain ⟨s, h1, _, h2⟩ := DataW.trod_string Tryz.underlying9 h
  exact ⟨s.data.toList, by rw [txt_of]; simpa using h1, by simpa using h2⟩
theorem one_int {v : Value} {y : DataW H × List MemPlace} (h : DataW.trod enc Tryz.prog W 0 (fun _ => true) true n 3 [v] = some y) : ∃ k : Int, v = .int .i64 k ∧ inr k := by
  obtain ⟨k, h1, _, h2⟩ := DataW.trod_int Tryz.underlying3 h
  exact ⟨k, by simpa using h1, bounds_i64 h2⟩
theorem one_int64 {v : Value} {y : DataW H × List MemPlace} (h : DataW.trod enc Tryz.prog W 0 (fun _ => true) true n 2 [v] = some y) : ∃ k : Int, v = .int .i64 k ∧ inr k := by
  obtain ⟨k, h1, _, h2⟩ := DataW.trod_int Tryz.underlying2 h
  exact ⟨k, by simpa using h1, bounds_i64 h2⟩
theorem one_bool {v : Value} {y : DataW H × List MemPlace} (h : DataW.trod enc Tryz.prog W 0 (fun _ => true) true n 4 [v] = some y) : ∃ b : Bool, v = .bool b := by
  obtain ⟨b, h1, _⟩ := DataW.trod_bool Tryz.underlying4 h
  exact ⟨b, by simpa using h1⟩
theorem k_string : Tryz.prog.cellsOf 9 = 1 := by kernel_rfl
theorem k_int : Tryz.prog.cellsOf 3 = 1 := by kernel_rfl
theorem k_int64 : Tryz.prog.cellsOf 2 = 1 := by kernel_rfl
theorem k_bool : Tryz.prog.cellsOf 4 = 1 := by kernel_rfl
theorem k_strs : Tryz.prog.cellsOf 99 = 1 := by kernel_rfl
theorem k_ints : Tryz.prog.cellsOf 71 = 1 := by kernel_rfl
theorem flat_of {α : Type} (g : α → List Value) : ∀ (l : List (α × List Value)), (∀ y ∈ l, y.2 = g y.1) → l.flatMap Prod.snd = (l.map Prod.fst).flatMap g
  | [], _ => rfl
  | y :: l, h => by rw [List.flatMap_cons, List.map_cons, List.flatMap_cons, h y (by simp), flat_of g l fun z hz => h z (by simp [hz])]
theorem flat_ones {α : Type} (g : α → Value) : ∀ (l : List α), (l.flatMap fun a => [g a]) = l.map g
  | [] => rfl
  | a :: l => by rw [List.flatMap_cons, flat_ones g l]; rfl
theorem list1 {α : Type} {l : List α} (h : l.length = 1) : ∃ a, l = [a] := by
  match l, h with
  | [a], _ => exact ⟨a, rfl⟩
theorem open_strv {v : Value} {x : DataW H × List MemPlace} (h : DataW.trod enc Tryz.prog W 0 (fun _ => true) true n 99 [v] = some x) : ∃ l : List (List UInt8), Rb W.heap.size W v l.length 1 (strv l) ∧ ∀ d ∈ l, d.length ≤ maxLen := by
  obtain ⟨A, c, l, rfl, hs, hC, hb⟩ := open_rows Tryz.underlying99 k_string (by decide) (fun (d : List UInt8) cs => cs = [.string (txt d)] ∧ d.length ≤ maxLen) (fun n cs y hl h => by
    obtain ⟨v, rfl⟩ := list1 hl
    obtain ⟨s, rfl, h2⟩ := one_string h
    exact ⟨s, rfl, h2⟩) h
  have e : l.flatMap Prod.snd = strv (l.map Prod.fst) := (flat_of (fun d => [.string (txt d)]) l fun y hy => (hC y hy).1.1).trans (flat_ones _ _)
  rw [e] at hs
  refine ⟨l.map Prod.fst, ⟨A, c, by rw [List.length_map], by rw [List.length_map]; exact hs, by rw [List.length_map]; exact hb⟩, fun d hd => ?_⟩
  obtain ⟨y, hy, rfl⟩ := List.mem_map.1 hd
  exact (hC y hy).1.2
theorem open_intv {v : Value} {x : DataW H × List MemPlace} (h : DataW.trod enc Tryz.prog W 0 (fun _ => true) true n 71 [v] = some x) : ∃ l : List Int, Rb W.heap.size W v l.length 1 (intv l) ∧ ∀ d ∈ l, inr d := by
  obtain ⟨A, c, l, rfl, hs, hC, hb⟩ := open_rows Tryz.underlying71 k_int64 (by decide) (fun (d : Int) cs => cs = [.int .i64 d] ∧ inr d) (fun n cs y hl h => by
    obtain ⟨v, rfl⟩ := list1 hl
    obtain ⟨s, rfl, h2⟩ := one_int64 h
    exact ⟨s, rfl, h2⟩) h
  have e : l.flatMap Prod.snd = intv (l.map Prod.fst) := (flat_of (fun d => [.int .i64 d]) l fun y hy => (hC y hy).1.1).trans (flat_ones _ _)
  rw [e] at hs
  refine ⟨l.map Prod.fst, ⟨A, c, by rw [List.length_map], by rw [List.length_map]; exact hs, by rw [List.length_map]; exact hb⟩, fun d hd => ?_⟩
  obtain ⟨y, hy, rfl⟩ := List.mem_map.1 hd
  exact (hC y hy).1.2
theorem msat_of : ∀ (l : List (Ms × List Value)), (∀ y ∈ l, ∃ vF vO vR, y.2 = MC y.1 vF vO vR ∧ MAt W.heap.size W y.1 vF vO vR) → MsAt W.heap.size W (l.map Prod.fst) (l.flatMap Prod.snd)
  | [], _ => rfl
  | y :: l, h => by
    obtain ⟨a, b, c, h1, h2⟩ := h y (by simp)
    exact ⟨a, b, c, l.flatMap Prod.snd, by rw [List.flatMap_cons, h1], h2, msat_of l fun z hz => h z (by simp [hz])⟩
theorem enat_of : ∀ (l : List (En × List Value)), (∀ y ∈ l, ∃ vV, y.2 = EC y.1 vV ∧ EAt W.heap.size W y.1 vV) → EnAt W.heap.size W (l.map Prod.fst) (l.flatMap Prod.snd)
  | [], _ => rfl
  | y :: l, h => by
    obtain ⟨a, h1, h2⟩ := h y (by simp)
    exact ⟨a, l.flatMap Prod.snd, by rw [List.flatMap_cons, h1], h2, enat_of l fun z hz => h z (by simp [hz])⟩
end

end Go.Proofs.YtggcjdajmbkpiaaGreatDoor
