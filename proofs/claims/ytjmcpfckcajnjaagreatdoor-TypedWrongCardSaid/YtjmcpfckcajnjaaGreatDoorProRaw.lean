/-
  A file is read: its rows of messages and of enums; the contract.
-/
import Derived.Test.YtjmcpfckcajnjaaGreatDoorProEnum
import Derived.Test.YtjmcpfckcajnjaaGreatDoorTokVars
import Derived.Test.YtjmcpfckcajnjaaGreatDoorTyMath
import Derived.Lib.AppendStr
import Derived.Test.YtjmcpfckcajnjaaGreatDoorProBox
import Derived.Deep.RegionHeld3
import Derived.Laws.MakeOwn
namespace Go.Proofs.YtjmcpfckcajnjaaGreatDoor
set_option maxRecDepth 100000

open Go.RowKit

def MC (m : Ms) (vF vO vR : Value) : List Value := [.string (txt m.name), vF, vO, vR, .int .i64 m.at_]
def EC (e : En) (vV : Value) : List Value := [.string (txt e.name), vV, .int .i64 e.at_]
theorem fileF_en (E : Nat) (s : S) (f : Fl) (h : s.goes = true) (h2 : s.sees 0 wEnum = true) : fileF E s f = fileF E (enumF E s).1 { f with E := f.E ++ [(enumF E s).2] } := by rw [fileF, dif_pos h, if_pos h2]
theorem fileF_ms (E : Nat) (s : S) (f : Fl) (h : s.goes = true) (h2 : ¬ s.sees 0 wEnum = true) : fileF E s f = fileF E (messageF E s).1 { f with M := f.M ++ [(messageF E s).2] } := by rw [fileF, dif_pos h, if_neg h2]
end Go.Proofs.YtjmcpfckcajnjaaGreatDoor
/-
  Lines are appended to what is printed: the frame, and the contract.
-/
namespace Go.Proofs.YtjmcpfckcajnjaaGreatDoor
set_option maxRecDepth 100000

open Go.RowKit

/-- Printing lets all be but the bytes' own block, and new ones: what lies below B, and what was there and is no row of bytes. -/
structure Pr (B : Nat) (w w' : World) : Prop where
  os : w'.os = w.os
  tape : w'.tape = w.tape
  output : w'.output = w.output
  size : w.heap.size ≤ w'.heap.size
  block : ∀ k, k < B → w'.heap[k]? = w.heap[k]?
  typed : ∀ (k : Nat) (cs : Array Value) (t : TypeId) (fr : Nat × Nat), w.heap[k]? = some (Obj.cells cs t fr) → t ≠ 5 → w'.heap[k]? = w.heap[k]?
theorem Pr.refl (B : Nat) (w : World) : Pr B w w := ⟨rfl, rfl, rfl, Nat.le_refl _, fun _ _ => rfl, fun _ _ _ _ _ _ => rfl⟩
theorem Pr.trans {B : Nat} {a b c : World} (h : Pr B a b) (k : Pr B b c) : Pr B a c :=
  ⟨k.os.trans h.os, k.tape.trans h.tape, k.output.trans h.output, Nat.le_trans h.size k.size, fun i hi => (k.block i hi).trans (h.block i hi),
    fun i cs t fr hi ht => (k.typed i cs t fr ((h.typed i cs t fr hi ht).trans hi) ht).trans (h.typed i cs t fr hi ht)⟩
theorem Pr.far {B : Nat} {a w w' : World} (h : Pr B a w) (os : w'.os = w.os) (tape : w'.tape = w.tape) (output : w'.output = w.output) (size : w.heap.size ≤ w'.heap.size)
    (hk : ∀ k, k < a.heap.size → w'.heap[k]? = w.heap[k]?) (hB : B ≤ a.heap.size) : Pr B a w' :=
  ⟨os.trans h.os, tape.trans h.tape, output.trans h.output, Nat.le_trans h.size size, fun k hkB => (hk k (by omega)).trans (h.block k hkB),
    fun k cs t fr hi ht => (hk k (Array.getElem?_eq_some_iff.1 hi).1).trans (h.typed k cs t fr hi ht)⟩
theorem Pr.alloc {B : Nat} {a w : World} (h : Pr B a w) (hB : B ≤ a.heap.size) (o : Obj) : Pr B a (w.alloc o) :=
  h.far rfl rfl rfl (by simp) (fun k hk => Below.heap_alloc w o k (Nat.lt_of_lt_of_le hk h.size)) hB
theorem Pr.drewN {B : Nat} {a w : World} (h : Pr B a w) (n : Nat) : Pr B a (w.drewN n) := ⟨h.os, h.tape, h.output, h.size, h.block, h.typed⟩
theorem Pr.drew {B : Nat} {a w : World} (h : Pr B a w) : Pr B a w.drew := ⟨h.os, h.tape, h.output, h.size, h.block, h.typed⟩
theorem Pr.setCell {B : Nat} {a w : World} (h : Pr B a w) (hB : B ≤ a.heap.size) {p : Addr} (hp : a.heap.size ≤ p.block) (u : Value) : Pr B a (w.setCell p u) :=
  h.far rfl rfl rfl (by simp [World.setCell]) (fun k hk => Below.heap_setCell w p u k (by omega)) hB
theorem Pr.below {B : Nat} {w w' : World} (h : Below w.heap.size w w') (hB : B ≤ w.heap.size) : Pr B w w' :=
  ⟨h.os, h.tape, h.output, h.size, fun k hk => h.block k (by omega), fun k _ _ _ hi _ => h.block k (Array.getElem?_eq_some_iff.1 hi).1⟩
theorem Pr.grown {B : Nat} {w w' : World} {v : Value} {n : Nat} {xs : List Value} (hr : w.ownsRow B 5 1 v n xs) (hg : w.grownBy w' v.ownBlock) (hB : B ≤ w.heap.size) : Pr B w w' := by
  refine ⟨hg.os, hg.tape, hg.output, hg.size, fun k hk => hg.block k (by omega) (fun e => by have := (hr.lt k e.symm).1; omega), fun k cs t fr hi ht => hg.block k (Array.getElem?_eq_some_iff.1 hi).1 ?_⟩
  rcases hr.2 with ⟨rfl, _⟩ | ⟨g, cap, cur, rfl, h1, h2, _⟩
  · simp [Value.ownBlock]
  · simp only [Value.ownBlock, ne_eq, Option.some.injEq]
    rintro rfl
    rw [hi] at h2
    simp only [Option.some.injEq, Obj.cells.injEq] at h2
    exact ht h2.2.1
theorem Pr.own {B b : Nat} {w w' : World} {e : TypeId} {size : Nat} {v : Value} {n : Nat} {xs : List Value} (h : Pr B w w') (hr : w.ownsRow b e size v n xs) (he : e ≠ 5) : w'.ownsRow b e size v n xs := by
  rcases hr with ⟨hl, ⟨rfl, rfl⟩ | ⟨g, cap, cur, rfl, h1, h2, h3⟩⟩
  · exact ⟨hl, .inl ⟨rfl, rfl⟩⟩
  · exact ⟨hl, .inr ⟨g, cap, cur, rfl, h1, (h.typed g _ _ _ h2 he).trans h2, h3⟩⟩
/-- What has been printed so far. -/
def Out (B : Nat) (w : World) (v : Value) (L : List UInt8) : Prop := w.ownsRow B 5 1 v L.length (bs L)
theorem Out.below {B : Nat} {w w' : World} {v : Value} {L : List UInt8} (h : Out B w v L) (hb : Below w.heap.size w w') : Out B w' v L := own_below h hb
theorem Out.alloc {B : Nat} {w : World} {v : Value} {L : List UInt8} (h : Out B w v L) (o : Obj) : Out B (w.alloc o) v L := World.ownsRow.alloc h o
theorem Out.grow {B : Nat} {w : World} {v : Value} {L X : List UInt8} {n : Nat} {xs : List Value} (h : w.ownsRow B 5 1 v n xs) (hn : n = (L ++ X).length) (hx : xs = bs L ++ bs X) : Out B w v (L ++ X) := by
  subst hn hx
  rw [← bs_append] at h
  exact h
def OutPost (B : Nat) (R : List UInt8) (w : World) (e : Ending) (w' : World) : Prop := ∃ v, e = .returned v ∧ Out B w' v R ∧ Pr B w w'
/-- Parts of a line, as they lie there. -/
def PartsAt (w : World) (g : Nat) (ps : List (List UInt8)) : Prop := w.heap[g]? = some (.cells (strv ps).toArray 9 (0, 0))
theorem strCells_bs (l : List UInt8) : Lib.strCells (txt l) = bs l := by simp [Lib.strCells, txt, bs, BV]
theorem flat_take (ps : List (List UInt8)) (k : Nat) (p : List UInt8) (h : ps[k]? = some p) : (ps.take (k + 1)).flatten = (ps.take k).flatten ++ p := by
  rw [List.take_add_one, h]; simp
theorem flat_le (ps : List (List UInt8)) (k : Nat) : (ps.take k).flatten.length ≤ ps.flatten.length := by
  conv => rhs; rw [← List.take_append_drop k ps]
  rw [List.flatten_append, List.length_append]
  omega
def LineRel (B g : Nat) (L : List UInt8) (ps : List (List UInt8)) (w : World) (o i : Value) (wr : World) : Prop := ∃ k : Nat, i = .int .i64 k ∧ k ≤ ps.length ∧ Out B wr o (L ++ (ps.take k).flatten) ∧ Pr B w wr
theorem LineRel.mk {B g : Nat} {L : List UInt8} {ps : List (List UInt8)} {w wr : World} {o i : Value} (k : Nat) (h1 : i = .int .i64 k) (h2 : k ≤ ps.length) (h3 : Out B wr o (L ++ (ps.take k).flatten)) (h4 : Pr B w wr) : LineRel B g L ps w o i wr := ⟨k, h1, h2, h3, h4⟩

end Go.Proofs.YtjmcpfckcajnjaaGreatDoor
/-
  A field is printed: the contracts.
-/
namespace Go.Proofs.YtjmcpfckcajnjaaGreatDoor
set_option maxRecDepth 100000

open Go.RowKit

/-- A field whose texts and number are not too great. -/
structure FdOk (d : Fd) : Prop where
  key : d.key.length ≤ 2000000
  type : d.type.length ≤ 2000000
  name : d.name.length ≤ 2000000
  lo : -9223372036854775808 ≤ d.no
  hi : d.no ≤ 9223372036854775807
end Go.Proofs.YtjmcpfckcajnjaaGreatDoor
/-
  A oneof is printed: the contract.
-/
namespace Go.Proofs.YtjmcpfckcajnjaaGreatDoor
set_option maxRecDepth 100000

open Go.RowKit

/-- What is laid lies below B. -/
def LaidB (B : Nat) (w : World) : Prop := ∃ w0, Laid w0 ∧ w0.heap.size ≤ B ∧ Below w0.heap.size w0 w
theorem LaidB.laid {B : Nat} {w : World} (h : LaidB B w) : Laid w := by
  obtain ⟨w0, h1, h2, h3⟩ := h
  exact h1.on h3
theorem LaidB.pr {B : Nat} {w w' : World} (h : LaidB B w) (k : Pr B w w') : LaidB B w' := by
  obtain ⟨w0, h1, h2, h3⟩ := h
  exact ⟨w0, h1, h2, h3.trans ⟨k.os, k.tape, k.output, k.size, fun i hi => k.block i (by omega)⟩⟩
theorem LaidB.start {w : World} (h : Laid w) : LaidB w.heap.size w := ⟨w, h, Nat.le_refl _, Below.refl _ _⟩
theorem fdv_length (l : List Fd) : (fdv l).length = l.length * 7 := by
  induction l with
  | nil => rfl
  | cons d l ih => simp only [fdv, List.flatMap_cons, List.length_append, List.length_cons] at ih ⊢; rw [ih]; simp [FC]; omega
theorem fdv_get : ∀ (l : List Fd) (k j : Nat) (d : Fd), l[k]? = some d → j < 7 → (fdv l)[k * 7 + j]? = (FC d)[j]?
  | [], k, j, r, h, _ => by simp at h
  | x :: l, 0, j, r, h, hj => by
    obtain rfl : x = r := by simpa using h
    rw [show fdv (x :: l) = FC x ++ fdv l by simp [fdv], Nat.zero_mul, Nat.zero_add, List.getElem?_append_left (by simp [FC]; omega)]
  | x :: l, k + 1, j, r, h, hj => by
    rw [show fdv (x :: l) = FC x ++ fdv l by simp [fdv], List.getElem?_append_right (by simp [FC]; omega)]
    rw [show (k + 1) * 7 + j - (FC x).length = k * 7 + j by simp [FC]; omega]
    exact fdv_get l k j r (by simpa using h) hj
theorem fieldsB_take (a : List UInt8) (l : List Fd) (k : Nat) (d : Fd) (h : l[k]? = some d) : fieldsB a (l.take (k + 1)) = fieldsB a (l.take k) ++ fieldB a d := by
  rw [List.take_add_one, h]; simp [fieldsB]
theorem fieldsB_le (a : List UInt8) (l : List Fd) (k : Nat) : (fieldsB a (l.take k)).length ≤ (fieldsB a l).length := by
  conv => rhs; rw [← List.take_append_drop k l]
  simp only [fieldsB, List.map_append, List.flatten_append, List.length_append]
  omega
def FsRel (B : Nat) (a : List UInt8) (L : List UInt8) (l : List Fd) (w : World) (o i : Value) (wr : World) : Prop := ∃ k : Nat, i = .int .i64 k ∧ k ≤ l.length ∧ Out B wr o (L ++ fieldsB a (l.take k)) ∧ Pr B w wr
theorem FsRel.mk {B : Nat} {a L : List UInt8} {l : List Fd} {w wr : World} {o i : Value} (k : Nat) (h1 : i = .int .i64 k) (h2 : k ≤ l.length) (h3 : Out B wr o (L ++ fieldsB a (l.take k))) (h4 : Pr B w wr) : FsRel B a L l w o i wr := ⟨k, h1, h2, h3, h4⟩
end Go.Proofs.YtjmcpfckcajnjaaGreatDoor
/-
  Reserved numbers and an enum are printed: the contracts.
-/
namespace Go.Proofs.YtjmcpfckcajnjaaGreatDoor
set_option maxRecDepth 100000

open Go.RowKit

theorem int_at {w : World} {b : Nat} {v : Value} {l : List Int} (h : w.ownsRow b 2 1 v l.length (intv l)) {k : Nat} {n : Int} (hk : l[k]? = some n) :
    ∃ g cap, v = .slice (some ⟨g, 0, none⟩) l.length cap ∧ g < w.heap.size ∧ w.cell? ⟨g, k, none⟩ = some (.int .i64 n) := by
  have hlt : k < l.length := (List.getElem?_eq_some_iff.1 hk).1
  rcases h.2 with ⟨_, h0⟩ | ⟨g, cap, cur, rfl, _, hh, _⟩
  · omega
  · have := h.cells (g := g) rfl k (.int .i64 n) (by simp [intv, hk])
    exact ⟨g, cap, rfl, (Array.getElem?_eq_some_iff.1 hh).1, by simpa [Addr.add_lit] using this⟩
theorem numsB_take (a : List UInt8) (l : List Int) (k : Nat) (n : Int) (h : l[k]? = some n) : numsB a (l.take (k + 1)) = numsB a (l.take k) ++ ((if k = 0 then a else [44, 32]) ++ digB n) := by
  have hlt : k < l.length := (List.getElem?_eq_some_iff.1 h).1
  rw [List.take_add_one, h]
  simp only [Option.toList_some]
  rw [numsB_snoc]
  congr 2
  by_cases h0 : k = 0
  · subst h0; simp
  · have : l.take k ≠ [] := by intro e; have := congrArg List.length e; rw [List.length_take, List.length_nil] at this; omega
    simp [h0, this]
theorem numsB_app (a : List UInt8) (l : List Int) (k : Nat) : ∃ r, numsB a l = numsB a (l.take k) ++ r := by
  induction l generalizing a k with
  | nil => exact ⟨[], by simp [numsB]⟩
  | cons n l ih =>
    cases k with
    | zero => exact ⟨_, by rw [List.take_zero, numsB]; rfl⟩
    | succ k =>
      obtain ⟨r, hr⟩ := ih [44, 32] k
      exact ⟨r, by rw [numsB, hr, List.take_succ_cons, numsB]; simp⟩
theorem numsB_le (a : List UInt8) (l : List Int) (k : Nat) : (numsB a (l.take k)).length ≤ (numsB a l).length := by
  obtain ⟨r, hr⟩ := numsB_app a l k
  rw [hr, List.length_append]; omega
def NsRel (B : Nat) (L : List UInt8) (l : List Int) (w : World) (o s i : Value) (wr : World) : Prop := ∃ k : Nat, i = .int .i64 k ∧ s = .string (txt (if k = 0 then [32] else [44, 32])) ∧ k ≤ l.length ∧ Out B wr o (L ++ numsB [32] (l.take k)) ∧ Pr B w wr
theorem NsRel.mk {B : Nat} {L : List UInt8} {l : List Int} {w wr : World} {o s i : Value} (k : Nat) (h1 : i = .int .i64 k) (hs : s = .string (txt (if k = 0 then [32] else [44, 32]))) (h2 : k ≤ l.length) (h3 : Out B wr o (L ++ numsB [32] (l.take k))) (h4 : Pr B w wr) : NsRel B L l w o s i wr := ⟨k, h1, hs, h2, h3, h4⟩
end Go.Proofs.YtjmcpfckcajnjaaGreatDoor
/-
  An enum is printed: the contract.
-/
namespace Go.Proofs.YtjmcpfckcajnjaaGreatDoor
set_option maxRecDepth 100000

open Go.RowKit

theorem vlv_length (l : List Vl) : (vlv l).length = l.length * 3 := by
  induction l with
  | nil => rfl
  | cons d l ih => simp only [vlv, List.flatMap_cons, List.length_append, List.length_cons] at ih ⊢; rw [ih]; simp [VC]; omega
theorem vlv_get : ∀ (l : List Vl) (k j : Nat) (d : Vl), l[k]? = some d → j < 3 → (vlv l)[k * 3 + j]? = (VC d)[j]?
  | [], k, j, r, h, _ => by simp at h
  | x :: l, 0, j, r, h, hj => by
    obtain rfl : x = r := by simpa using h
    rw [show vlv (x :: l) = VC x ++ vlv l by simp [vlv], Nat.zero_mul, Nat.zero_add, List.getElem?_append_left (by simp [VC]; omega)]
  | x :: l, k + 1, j, r, h, hj => by
    rw [show vlv (x :: l) = VC x ++ vlv l by simp [vlv], List.getElem?_append_right (by simp [VC]; omega)]
    rw [show (k + 1) * 3 + j - (VC x).length = k * 3 + j by simp [VC]; omega]
    exact vlv_get l k j r (by simpa using h) hj
def valsB (l : List Vl) : List UInt8 := (l.map valB).flatten
theorem valsB_take (l : List Vl) (k : Nat) (d : Vl) (h : l[k]? = some d) : valsB (l.take (k + 1)) = valsB (l.take k) ++ valB d := by
  rw [List.take_add_one, h]; simp [valsB]
theorem valsB_le (l : List Vl) (k : Nat) : (valsB (l.take k)).length ≤ (valsB l).length := by
  conv => rhs; rw [← List.take_append_drop k l]
  simp only [valsB, List.map_append, List.flatten_append, List.length_append]
  omega
structure VlOk (d : Vl) : Prop where
  lo : -9223372036854775808 ≤ d.n
  hi : d.n ≤ 9223372036854775807
def VsRel (B : Nat) (L : List UInt8) (l : List Vl) (w : World) (o i : Value) (wr : World) : Prop := ∃ k : Nat, i = .int .i64 k ∧ k ≤ l.length ∧ Out B wr o (L ++ valsB (l.take k)) ∧ Pr B w wr
theorem VsRel.mk {B : Nat} {L : List UInt8} {l : List Vl} {w wr : World} {o i : Value} (k : Nat) (h1 : i = .int .i64 k) (h2 : k ≤ l.length) (h3 : Out B wr o (L ++ valsB (l.take k))) (h4 : Pr B w wr) : VsRel B L l w o i wr := ⟨k, h1, h2, h3, h4⟩
end Go.Proofs.YtjmcpfckcajnjaaGreatDoor
/-
  The fields of each oneof, in rows of their own: the contract.
-/
namespace Go.Proofs.YtjmcpfckcajnjaaGreatDoor
set_option maxRecDepth 100000

open Go.RowKit

theorem made_nil (n : Nat) : madeCells (Value.slice none 0 0).cells n = (List.replicate n (Value.slice none 0 0)).toArray := by
  apply Array.ext
  · simp [madeCells]
  · intro i h1 h2
    simp only [madeCells, Array.getElem_map, Array.getElem_range]
    simp [Value.cells, Nat.mod_one]
end Go.Proofs.YtjmcpfckcajnjaaGreatDoor
/-
  A message is printed: the contract.
-/
namespace Go.Proofs.YtjmcpfckcajnjaaGreatDoor
set_option maxRecDepth 100000

open Go.RowKit

theorem foldl_mem (n : Nat) : ∀ (l : List Fd) (ms : List (List Fd)) (P : Fd → Prop), (∀ d ∈ l, P d) → (∀ (j : Nat) (x : List Fd), ms[j]? = some x → ∀ d ∈ x, P d) → ∀ (j : Nat) (x : List Fd), (l.foldl (memStep n) ms)[j]? = some x → ∀ d ∈ x, P d
  | [], ms, P, _, h2, j, x, hx, d, hd => h2 j x hx d hd
  | e :: l, ms, P, h1, h2, j, x, hx, d, hd => by
    rw [List.foldl_cons] at hx
    refine foldl_mem n l _ P (fun d hd => h1 d (by simp [hd])) (fun j x hx d hd => ?_) j x hx d hd
    unfold memStep at hx
    split at hx
    · rw [List.getElem?_set] at hx
      split at hx
      · rename_i h3
        subst h3
        split at hx
        · injection hx with hx
          subst hx
          rcases List.mem_append.1 hd with h4 | h4
          · rw [List.getD_eq_getElem?_getD] at h4
            cases h5 : ms[oneAt e]? with
            | none => rw [h5] at h4; simp at h4
            | some y => rw [h5] at h4; exact h2 _ y h5 d h4
          · rw [List.mem_singleton.1 h4]; exact h1 e (by simp)
        · cases hx
      · exact h2 j x hx d hd
    · exact h2 j x hx d hd
theorem memsB_mem (n : Nat) (l : List Fd) (P : Fd → Prop) (h : ∀ d ∈ l, P d) (j : Nat) (x : List Fd) (hx : (memsB n l)[j]? = some x) : ∀ d ∈ x, P d :=
  foldl_mem n l _ P h (fun j x hx d hd => by rw [List.getElem?_replicate] at hx; split at hx <;> cases hx; cases hd) j x hx
theorem strrow_at {w : World} {b : Nat} {v : Value} {l : List (List UInt8)} (h : w.ownsRow b 9 1 v l.length (strv l)) {k : Nat} {x : List UInt8} (hk : l[k]? = some x) :
    ∃ g cap, v = .slice (some ⟨g, 0, none⟩) l.length cap ∧ g < w.heap.size ∧ w.cell? ⟨g, k, none⟩ = some (.string (txt x)) := by
  have hlt : k < l.length := (List.getElem?_eq_some_iff.1 hk).1
  rcases h.2 with ⟨_, h0⟩ | ⟨g, cap, cur, rfl, _, hh, _⟩
  · omega
  · have := h.cells (g := g) rfl k (.string (txt x)) (by simp [strv, hk])
    exact ⟨g, cap, rfl, (Array.getElem?_eq_some_iff.1 hh).1, by simpa [Addr.add_lit] using this⟩
structure MsOk (m : Ms) : Prop where
  f : ∀ d ∈ m.F, FdOk d
  r : ∀ n ∈ m.res, -9223372036854775808 ≤ n ∧ n ≤ 9223372036854775807
  lf : m.F.length ≤ 100000
  lo : m.ones.length ≤ 100000
  lr : m.res.length ≤ 100000
theorem items_out {ones : List (List UInt8)} {ms : List (List Fd)} {d : Fd} {l : List Fd} (h : inOne ones.length d = false) : itemsB ones ms (d :: l) = fieldB [32, 32] d ++ itemsB ones ms l := by simp [itemsB, h]
theorem items_in {ones : List (List UInt8)} {ms : List (List Fd)} {d : Fd} {l : List Fd} {j : Nat} {x : List UInt8} {y : List Fd} (h : inOne ones.length d = true) (hj : oneAt d = j) (hx : ones[j]? = some x) (hy : ms[j]? = some y) : itemsB ones ms (d :: l) = oneB x y ++ itemsB ones (ms.set j []) l := by
  simp [itemsB, h, hj, hx, hy]
end Go.Proofs.YtjmcpfckcajnjaaGreatDoor
/-
  A file is printed: the contract.
-/
namespace Go.Proofs.YtjmcpfckcajnjaaGreatDoor
set_option maxRecDepth 100000

open Go.RowKit

structure FlOk (f : Fl) : Prop where
  m : ∀ m ∈ f.M, MsOk m
  e : ∀ e ∈ f.E, (∀ d ∈ e.V, VlOk d) ∧ e.V.length ≤ 1000000
  lm : f.M.length ≤ 1000000
  le : f.E.length ≤ 1000000
def listB {α : Type} (g : α → List UInt8) (l : List α) : List UInt8 := (l.map g).flatten
theorem listB_take {α : Type} (g : α → List UInt8) (l : List α) (k : Nat) (d : α) (h : l[k]? = some d) : listB g (l.take (k + 1)) = listB g (l.take k) ++ g d := by
  rw [List.take_add_one, h]; simp [listB]
theorem listB_le {α : Type} (g : α → List UInt8) (l : List α) (k : Nat) : (listB g (l.take k)).length ≤ (listB g l).length := by
  conv => rhs; rw [← List.take_append_drop k l]
  simp only [listB, List.map_append, List.flatten_append, List.length_append]
  omega
def PfRel {α : Type} (B : Nat) (g : α → List UInt8) (L : List UInt8) (l : List α) (w : World) (o i : Value) (wr : World) : Prop := ∃ k : Nat, i = .int .i64 k ∧ k ≤ l.length ∧ Out B wr o (L ++ listB g (l.take k)) ∧ Pr B w wr
theorem PfRel.mk {α : Type} {B : Nat} {g : α → List UInt8} {L : List UInt8} {l : List α} {w wr : World} {o i : Value} (k : Nat) (h1 : i = .int .i64 k) (h2 : k ≤ l.length) (h3 : Out B wr o (L ++ listB g (l.take k))) (h4 : Pr B w wr) : PfRel B g L l w o i wr := ⟨k, h1, h2, h3, h4⟩
end Go.Proofs.YtjmcpfckcajnjaaGreatDoor
/-
  A file that comes in: its rows lie below a place, wherever they begin; what is read of them.
-/
namespace Go.Proofs.YtjmcpfckcajnjaaGreatDoor
set_option maxRecDepth 100000

open Go.RowKit

/-- A row that lies below B, wherever it begins. -/
def Rb (B : Nat) (w : World) (v : Value) (n size : Nat) (xs : List Value) : Prop := ∃ A c, v = .slice A n c ∧ Sl w A n c size xs ∧ ∀ ad, A = some ad → 0 < n → ad.block < B
/-- What lies below B is as it was. -/
def Low (B : Nat) (w w' : World) : Prop := w.heap.size ≤ w'.heap.size ∧ ∀ k, k < B → w'.heap[k]? = w.heap[k]?
theorem Low.refl (B : Nat) (w : World) : Low B w w := ⟨Nat.le_refl _, fun _ _ => rfl⟩
theorem Low.trans {B : Nat} {a b c : World} (h : Low B a b) (k : Low B b c) : Low B a c := ⟨Nat.le_trans h.1 k.1, fun i hi => (k.2 i hi).trans (h.2 i hi)⟩
theorem Pr.low {B : Nat} {w w' : World} (h : Pr B w w') : Low B w w' := ⟨h.size, h.block⟩
theorem Low.below {B : Nat} {w w' : World} (h : Below w.heap.size w w') (hB : B ≤ w.heap.size) : Low B w w' := ⟨h.size, fun k hk => h.block k (by omega)⟩
theorem Low.of {B : Nat} {w w' : World} (h : Below B w w') : Low B w w' := ⟨h.size, h.block⟩
theorem Low.alloc {B : Nat} (w : World) (o : Obj) (hB : B ≤ w.heap.size) : Low B w (w.alloc o) := Low.below (below_new w o) hB
theorem Sl.low {B : Nat} {w w' : World} {A : Option Addr} {n c size : Nat} {xs : List Value} (h : Sl w A n c size xs) (hA : ∀ ad, A = some ad → 0 < n → ad.block < B) (hl : Low B w w') : Sl w' A n c size xs := by
  refine ⟨h.len, h.le, h.cap, h.nil, fun ad ha hn => Nat.lt_of_lt_of_le (h.old ad ha hn) hl.1, fun ad ha k u hu => ?_⟩
  have hn : 0 < n := by
    rcases Nat.eq_zero_or_pos n with h0 | h0
    · have := h.len
      rw [h0, Nat.zero_mul] at this
      rw [List.eq_nil_of_length_eq_zero this] at hu
      simp at hu
    · exact h0
  have hk : w'.heap[(ad.add k).block]? = w.heap[(ad.add k).block]? := by rw [add_same_block]; exact hl.2 _ (hA ad ha hn)
  exact (World.cell?_of_block hk).trans (h.cell ad ha k u hu)
theorem Rb.low {B : Nat} {w w' : World} {v : Value} {n size : Nat} {xs : List Value} (h : Rb B w v n size xs) (hl : Low B w w') : Rb B w' v n size xs := by
  obtain ⟨A, c, rfl, h1, h2⟩ := h
  exact ⟨A, c, rfl, h1.low h2 hl, h2⟩
theorem Rb.mono {B B' : Nat} {w : World} {v : Value} {n size : Nat} {xs : List Value} (h : Rb B w v n size xs) (hB : B ≤ B') : Rb B' w v n size xs := by
  obtain ⟨A, c, rfl, h1, h2⟩ := h
  exact ⟨A, c, rfl, h1, fun ad ha hn => Nat.lt_of_lt_of_le (h2 ad ha hn) hB⟩
theorem Rb.of_own {w : World} {b : Nat} {e : TypeId} {v : Value} {n size : Nat} {xs : List Value} (h : w.ownsRow b e size v n xs) : Rb w.heap.size w v n size xs := by
  obtain ⟨A, c, rfl, hs⟩ := Sl.of_own h
  exact ⟨A, c, rfl, hs, fun ad ha hn => hs.old ad ha hn⟩
theorem Rb.one {B : Nat} {w : World} {v : Value} {n size : Nat} {xs : List Value} (h : Rb B w v n size xs) : v.oneCell' = true := by
  obtain ⟨A, c, rfl, _, _⟩ := h
  rfl
/-- Cell j of element k. -/
theorem Sl.elem {w : World} {A : Option Addr} {n c size : Nat} {xs : List Value} (h : Sl w A n c size xs) {k : Nat} (hk : k < n) : ∃ ad, A = some ad ∧ ad.block < w.heap.size ∧ (∀ u, xs[k * size]? = some u → w.cell? (ad.add (k * size)) = some u) ∧
    ∀ j u, 0 < j → xs[k * size + j]? = some u → w.cell? ⟨(ad.add (k * size)).block, (ad.add (k * size)).off + j, none⟩ = some u := by
  obtain ⟨ad, rfl, hb, hcell⟩ := Sl.there h (by omega)
  refine ⟨ad, rfl, hb, fun u hu => hcell _ _ hu, fun j u hj hu => ?_⟩
  have e : (⟨(ad.add (k * size)).block, (ad.add (k * size)).off + j, none⟩ : Addr) = ad.add (k * size + j) := by
    rw [← add_twice]
    cases j with
    | zero => omega
    | succ j => simp [Addr.add]
  rw [e]
  exact hcell _ _ hu

/-! ### Files that come in -/

structure MAt (B : Nat) (w : World) (m : Ms) (vF vO vR : Value) : Prop where
  f : Rb B w vF m.F.length 7 (fdv m.F)
  o : Rb B w vO m.ones.length 1 (strv m.ones)
  r : Rb B w vR m.res.length 1 (intv m.res)
def EAt (B : Nat) (w : World) (e : En) (vV : Value) : Prop := Rb B w vV e.V.length 3 (vlv e.V)
theorem MAt.low {B : Nat} {w w' : World} {m : Ms} {vF vO vR : Value} (h : MAt B w m vF vO vR) (hl : Low B w w') : MAt B w' m vF vO vR := ⟨h.f.low hl, h.o.low hl, h.r.low hl⟩
theorem EAt.low {B : Nat} {w w' : World} {e : En} {vV : Value} (h : EAt B w e vV) (hl : Low B w w') : EAt B w' e vV := Rb.low h hl
theorem MAt.mono {B B' : Nat} {w : World} {m : Ms} {vF vO vR : Value} (h : MAt B w m vF vO vR) (hB : B ≤ B') : MAt B' w m vF vO vR := ⟨h.f.mono hB, h.o.mono hB, h.r.mono hB⟩
theorem EAt.mono {B B' : Nat} {w : World} {e : En} {vV : Value} (h : EAt B w e vV) (hB : B ≤ B') : EAt B' w e vV := Rb.mono h hB
def MsAt (B : Nat) (w : World) : List Ms → List Value → Prop
  | [], xs => xs = []
  | m :: l, xs => ∃ vF vO vR ys, xs = MC m vF vO vR ++ ys ∧ MAt B w m vF vO vR ∧ MsAt B w l ys
def EnAt (B : Nat) (w : World) : List En → List Value → Prop
  | [], xs => xs = []
  | e :: l, xs => ∃ vV ys, xs = EC e vV ++ ys ∧ EAt B w e vV ∧ EnAt B w l ys
theorem MsAt.low {B : Nat} {w w' : World} (hl : Low B w w') : ∀ {l : List Ms} {xs : List Value}, MsAt B w l xs → MsAt B w' l xs
  | [], _, h => h
  | _ :: _, _, ⟨vF, vO, vR, ys, h1, h2, h3⟩ => ⟨vF, vO, vR, ys, h1, h2.low hl, h3.low hl⟩
theorem EnAt.low {B : Nat} {w w' : World} (hl : Low B w w') : ∀ {l : List En} {xs : List Value}, EnAt B w l xs → EnAt B w' l xs
  | [], _, h => h
  | _ :: _, _, ⟨vV, ys, h1, h2, h3⟩ => ⟨vV, ys, h1, h2.low hl, h3.low hl⟩
theorem MsAt.mono {B B' : Nat} {w : World} (hB : B ≤ B') : ∀ {l : List Ms} {xs : List Value}, MsAt B w l xs → MsAt B' w l xs
  | [], _, h => h
  | _ :: _, _, ⟨vF, vO, vR, ys, h1, h2, h3⟩ => ⟨vF, vO, vR, ys, h1, h2.mono hB, h3.mono hB⟩
theorem EnAt.mono {B B' : Nat} {w : World} (hB : B ≤ B') : ∀ {l : List En} {xs : List Value}, EnAt B w l xs → EnAt B' w l xs
  | [], _, h => h
  | _ :: _, _, ⟨vV, ys, h1, h2, h3⟩ => ⟨vV, ys, h1, h2.mono hB, h3.mono hB⟩
/-- A file, as it is read, wherever it lies below B. -/
def FAt (B : Nat) (w : World) (f : Fl) (vM vE : Value) : Prop := ∃ xs ys, Rb B w vM f.M.length 5 xs ∧ MsAt B w f.M xs ∧ Rb B w vE f.E.length 3 ys ∧ EnAt B w f.E ys
theorem FAt.low {B : Nat} {w w' : World} {f : Fl} {vM vE : Value} (h : FAt B w f vM vE) (hl : Low B w w') : FAt B w' f vM vE := by
  obtain ⟨xs, ys, h1, h2, h3, h4⟩ := h
  exact ⟨xs, ys, h1.low hl, h2.low hl, h3.low hl, h4.low hl⟩
theorem FAt.mono {B B' : Nat} {w : World} {f : Fl} {vM vE : Value} (h : FAt B w f vM vE) (hB : B ≤ B') : FAt B' w f vM vE := by
  obtain ⟨xs, ys, h1, h2, h3, h4⟩ := h
  exact ⟨xs, ys, h1.mono hB, h2.mono hB, h3.mono hB, h4.mono hB⟩
/-! ### What lies at a place -/

theorem fdr_at {w : World} {A : Option Addr} {c : Nat} {l : List Fd} (h : Sl w A l.length c 7 (fdv l)) {k : Nat} {d : Fd} (hk : l[k]? = some d) :
    ∃ ad, A = some ad ∧ ad.block < w.heap.size ∧ w.cell? (ad.add (k * 7)) = some (.string (txt d.type)) ∧ w.cell? ⟨(ad.add (k * 7)).block, (ad.add (k * 7)).off + 1, none⟩ = some (.string (txt d.key)) ∧ w.cell? ⟨(ad.add (k * 7)).block, (ad.add (k * 7)).off + 2, none⟩ = some (.bool d.rep) ∧
      w.cell? ⟨(ad.add (k * 7)).block, (ad.add (k * 7)).off + 3, none⟩ = some (.int .i64 d.one) ∧ w.cell? ⟨(ad.add (k * 7)).block, (ad.add (k * 7)).off + 4, none⟩ = some (.string (txt d.name)) ∧ w.cell? ⟨(ad.add (k * 7)).block, (ad.add (k * 7)).off + 5, none⟩ = some (.int .i64 d.no) ∧ w.cell? ⟨(ad.add (k * 7)).block, (ad.add (k * 7)).off + 6, none⟩ = some (.int .i64 d.at_) := by
  obtain ⟨ad, rfl, hb, h0, hj⟩ := Sl.elem h (List.getElem?_eq_some_iff.1 hk).1
  have hv := fun (j : Nat) (hj : j < 7) => fdv_get l k j d hk hj
  refine ⟨ad, rfl, hb, h0 _ (by have := hv 0 (by omega); rw [Nat.add_zero] at this; rw [this]; rfl), hj 1 _ (by omega) (by rw [hv 1 (by omega)]; rfl), hj 2 _ (by omega) (by rw [hv 2 (by omega)]; rfl), hj 3 _ (by omega) (by rw [hv 3 (by omega)]; rfl), hj 4 _ (by omega) (by rw [hv 4 (by omega)]; rfl), hj 5 _ (by omega) (by rw [hv 5 (by omega)]; rfl), hj 6 _ (by omega) (by rw [hv 6 (by omega)]; rfl)⟩
theorem vlr_at {w : World} {A : Option Addr} {c : Nat} {l : List Vl} (h : Sl w A l.length c 3 (vlv l)) {k : Nat} {d : Vl} (hk : l[k]? = some d) :
    ∃ ad, A = some ad ∧ ad.block < w.heap.size ∧ w.cell? (ad.add (k * 3)) = some (.string (txt d.name)) ∧ w.cell? ⟨(ad.add (k * 3)).block, (ad.add (k * 3)).off + 1, none⟩ = some (.int .i64 d.n) ∧ w.cell? ⟨(ad.add (k * 3)).block, (ad.add (k * 3)).off + 2, none⟩ = some (.int .i64 d.at_) := by
  obtain ⟨ad, rfl, hb, h0, hj⟩ := Sl.elem h (List.getElem?_eq_some_iff.1 hk).1
  have hv := fun (j : Nat) (hj : j < 3) => vlv_get l k j d hk hj
  refine ⟨ad, rfl, hb, h0 _ (by have := hv 0 (by omega); rw [Nat.add_zero] at this; rw [this]; rfl), hj 1 _ (by omega) (by rw [hv 1 (by omega)]; rfl), hj 2 _ (by omega) (by rw [hv 2 (by omega)]; rfl)⟩
theorem intr_at {w : World} {A : Option Addr} {c : Nat} {l : List Int} (h : Sl w A l.length c 1 (intv l)) {k : Nat} {n : Int} (hk : l[k]? = some n) : ∃ ad, A = some ad ∧ ad.block < w.heap.size ∧ w.cell? (ad.add k) = some (.int .i64 n) := by
  obtain ⟨ad, rfl, hb, hc⟩ := Sl.there h (by have := (List.getElem?_eq_some_iff.1 hk).1; omega)
  exact ⟨ad, rfl, hb, hc k _ (by simp [intv, hk])⟩
theorem strr_at {w : World} {A : Option Addr} {c : Nat} {l : List (List UInt8)} (h : Sl w A l.length c 1 (strv l)) {k : Nat} {x : List UInt8} (hk : l[k]? = some x) : ∃ ad, A = some ad ∧ ad.block < w.heap.size ∧ w.cell? (ad.add k) = some (.string (txt x)) := by
  obtain ⟨ad, rfl, hb, hc⟩ := Sl.there h (by have := (List.getElem?_eq_some_iff.1 hk).1; omega)
  exact ⟨ad, rfl, hb, hc k _ (by simp [strv, hk])⟩
theorem msr_list {B : Nat} {w : World} : ∀ {l : List Ms} {xs : List Value}, MsAt B w l xs → ∀ {k : Nat} {m : Ms}, l[k]? = some m → ∃ vF vO vR, MAt B w m vF vO vR ∧ ∀ j, j < 5 → xs[k * 5 + j]? = (MC m vF vO vR)[j]?
  | [], xs, _, k, m, hk => by simp at hk
  | x :: l, xs, ⟨vF, vO, vR, ys, h1, h2, h3⟩, 0, m, hk => by
    obtain rfl : x = m := by simpa using hk
    refine ⟨vF, vO, vR, h2, fun j hj => ?_⟩
    rw [h1, Nat.zero_mul, Nat.zero_add, List.getElem?_append_left (by simp [MC]; omega)]
  | x :: l, xs, ⟨vF, vO, vR, ys, h1, h2, h3⟩, k + 1, m, hk => by
    obtain ⟨a, b, c, h4, h5⟩ := msr_list h3 (k := k) (m := m) (by simpa using hk)
    refine ⟨a, b, c, h4, fun j hj => ?_⟩
    rw [h1, List.getElem?_append_right (by simp [MC]; omega), ← h5 j hj]
    congr 1
    simp [MC]; omega
theorem enr_list {B : Nat} {w : World} : ∀ {l : List En} {xs : List Value}, EnAt B w l xs → ∀ {k : Nat} {m : En}, l[k]? = some m → ∃ vV, EAt B w m vV ∧ ∀ j, j < 3 → xs[k * 3 + j]? = (EC m vV)[j]?
  | [], xs, _, k, m, hk => by simp at hk
  | x :: l, xs, ⟨vV, ys, h1, h2, h3⟩, 0, m, hk => by
    obtain rfl : x = m := by simpa using hk
    refine ⟨vV, h2, fun j hj => ?_⟩
    rw [h1, Nat.zero_mul, Nat.zero_add, List.getElem?_append_left (by simp [EC]; omega)]
  | x :: l, xs, ⟨vV, ys, h1, h2, h3⟩, k + 1, m, hk => by
    obtain ⟨a, h4, h5⟩ := enr_list h3 (k := k) (m := m) (by simpa using hk)
    refine ⟨a, h4, fun j hj => ?_⟩
    rw [h1, List.getElem?_append_right (by simp [EC]; omega), ← h5 j hj]
    congr 1
    simp [EC]; omega
theorem msr_at {B : Nat} {w : World} {A : Option Addr} {c : Nat} {l : List Ms} {xs : List Value} (h : Sl w A l.length c 5 xs) (ha : MsAt B w l xs) {k : Nat} {m : Ms} (hk : l[k]? = some m) :
    ∃ ad vF vO vR, A = some ad ∧ ad.block < w.heap.size ∧ MAt B w m vF vO vR ∧ w.cell? (ad.add (k * 5)) = some (.string (txt m.name)) ∧ w.cell? ⟨(ad.add (k * 5)).block, (ad.add (k * 5)).off + 1, none⟩ = some vF ∧ w.cell? ⟨(ad.add (k * 5)).block, (ad.add (k * 5)).off + 2, none⟩ = some vO ∧
      w.cell? ⟨(ad.add (k * 5)).block, (ad.add (k * 5)).off + 3, none⟩ = some vR ∧ w.cell? ⟨(ad.add (k * 5)).block, (ad.add (k * 5)).off + 4, none⟩ = some (.int .i64 m.at_) := by
  obtain ⟨vF, vO, vR, hr, hx⟩ := msr_list ha hk
  obtain ⟨ad, rfl, hb, h0, hj⟩ := Sl.elem h (List.getElem?_eq_some_iff.1 hk).1
  refine ⟨ad, vF, vO, vR, rfl, hb, hr, h0 _ (by have := hx 0 (by omega); rw [Nat.add_zero] at this; rw [this]; rfl), hj 1 _ (by omega) (by rw [hx 1 (by omega)]; rfl), hj 2 _ (by omega) (by rw [hx 2 (by omega)]; rfl), hj 3 _ (by omega) (by rw [hx 3 (by omega)]; rfl), hj 4 _ (by omega) (by rw [hx 4 (by omega)]; rfl)⟩
theorem enr_at {B : Nat} {w : World} {A : Option Addr} {c : Nat} {l : List En} {xs : List Value} (h : Sl w A l.length c 3 xs) (ha : EnAt B w l xs) {k : Nat} {m : En} (hk : l[k]? = some m) :
    ∃ ad vV, A = some ad ∧ ad.block < w.heap.size ∧ EAt B w m vV ∧ w.cell? (ad.add (k * 3)) = some (.string (txt m.name)) ∧ w.cell? ⟨(ad.add (k * 3)).block, (ad.add (k * 3)).off + 1, none⟩ = some vV ∧ w.cell? ⟨(ad.add (k * 3)).block, (ad.add (k * 3)).off + 2, none⟩ = some (.int .i64 m.at_) := by
  obtain ⟨vV, hr, hx⟩ := enr_list ha hk
  obtain ⟨ad, rfl, hb, h0, hj⟩ := Sl.elem h (List.getElem?_eq_some_iff.1 hk).1
  refine ⟨ad, vV, rfl, hb, hr, h0 _ (by have := hx 0 (by omega); rw [Nat.add_zero] at this; rw [this]; rfl), hj 1 _ (by omega) (by rw [hx 1 (by omega)]; rfl), hj 2 _ (by omega) (by rw [hx 2 (by omega)]; rfl)⟩
end Go.Proofs.YtjmcpfckcajnjaaGreatDoor
