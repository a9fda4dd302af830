/-
  What the parser sees next: the contracts.
-/
import Derived.Test.YtjmcpfckcajnjaaGreatDoorProBox
import Derived.Deep.RegionLaw
namespace Go.Proofs.YtjmcpfckcajnjaaGreatDoor
set_option maxRecDepth 100000

open Go.RowKit

end Go.Proofs.YtjmcpfckcajnjaaGreatDoor
/-
  The parser takes tokens: the contracts of what takes one, and of a name with its number.
-/
namespace Go.Proofs.YtjmcpfckcajnjaaGreatDoor
set_option maxRecDepth 100000

open Go.RowKit

theorem SlT.none_left {w : World} {A : Option Addr} {c : Nat} (hc : c ≤ maxLen) (hA : A = none → c = 0) : SlT w A c [] :=
  ⟨by simp [tv], Nat.zero_le _, hc, hA, by simp, by simp [tv]⟩
theorem SlT.tail {w : World} {ad : Addr} {c : Nat} {t : T} {l : List T} (h : SlT w (some ad) c (t :: l)) : SlT w (some (ad.add 4)) (c - 1) l := by
  cases l with
  | nil => exact SlT.none_left (by have := h.cap; omega) (by simp)
  | cons u l =>
    obtain ⟨ad', ha, h2⟩ := Sl.from_ (k := 1) h (by simp)
    obtain rfl := Option.some.inj ha
    simpa [SlT, tv_cons, TC] using h2
def TokE (t : T) : Value := TokV t.kind (txt t.text) t.num t.at_
theorem grown_set (w : World) (P j : Nat) (v : Value) : w.grownBy (w.setCell ⟨P, j, none⟩ v) (some P) := ⟨rfl, rfl, rfl, by simp [World.setCell], fun k _ hk => Below.heap_setCell w _ v k (by simpa using hk)⟩
theorem grown_lit {w w' : World} {row : Option Nat} (h : w.grownBy w' row) (o : Obj) : w.grownBy (w'.alloc o) row := h.trans (World.grownBy_alloc w' o row)
/-- A cell behind a new block. -/
theorem up {w : World} {a : Addr} {v : Value} (h : w.cell? a = some v) (o : Obj) : (w.alloc o).cell? a = some v := (World.cell?_of_block (Below.heap_alloc w o a.block (World.block_lt_of_cell? w a h))).trans h
theorem heap_first (w : World) (o o' : Obj) {g : Nat} (hg : g = w.heap.size) : ((w.alloc o).alloc o').heap[g]? = some o := by
  subst hg
  rw [Below.heap_alloc _ _ _ (by simp)]
  exact heap_alloc_new w o
end Go.Proofs.YtjmcpfckcajnjaaGreatDoor
/-
  A field is read: the contract.
-/
namespace Go.Proofs.YtjmcpfckcajnjaaGreatDoor
set_option maxRecDepth 100000

open Go.RowKit

/-- A field's cells. -/
def FC (d : Fd) : List Value := [.string (txt d.type), .string (txt d.key), .bool d.rep, .int .i64 d.one, .string (txt d.name), .int .i64 d.no, .int .i64 d.at_]
def FdV (d : Fd) : Value := .agg (FC d).toArray
/-- A block that is younger than the parser stays when the parser takes. -/
theorem stays {w w' : World} {P g : Nat} {o : Obj} (h : w.heap[g]? = some o) (hg : w.grownBy w' (some P)) (hP : P < g) : w'.heap[g]? = some o :=
  (hg.block g (Array.getElem?_eq_some_iff.1 h).1 (by simp; omega)).trans h

/-- Below block B nothing but block P has turned. -/
structure Kp (B P : Nat) (w w' : World) : Prop where
  os : w'.os = w.os
  tape : w'.tape = w.tape
  output : w'.output = w.output
  size : w.heap.size ≤ w'.heap.size
  block : ∀ k, k < B → k ≠ P → w'.heap[k]? = w.heap[k]?
theorem Kp.refl (B P : Nat) (w : World) : Kp B P w w := ⟨rfl, rfl, rfl, Nat.le_refl _, fun _ _ _ => rfl⟩
theorem Kp.trans {B P : Nat} {a b c : World} (h : Kp B P a b) (k : Kp B P b c) : Kp B P a c :=
  ⟨k.os.trans h.os, k.tape.trans h.tape, k.output.trans h.output, Nat.le_trans h.size k.size, fun i hi hp => (k.block i hi hp).trans (h.block i hi hp)⟩
theorem Kp.alloc {B P : Nat} {a w : World} (h : Kp B P a w) (hB : B ≤ w.heap.size) (o : Obj) : Kp B P a (w.alloc o) :=
  h.trans ⟨rfl, rfl, rfl, by simp, fun k hk _ => Below.heap_alloc _ _ _ (by omega)⟩
theorem Kp.setCell {B P : Nat} {a w : World} (h : Kp B P a w) {p : Addr} (hp : B ≤ p.block) (u : Value) : Kp B P a (w.setCell p u) :=
  h.trans ⟨rfl, rfl, rfl, by simp [World.setCell], fun k hk _ => Below.heap_setCell _ _ _ _ (by omega)⟩
theorem Kp.setRow {B P : Nat} {a w : World} (h : Kp B P a w) {g : Nat} (hp : B ≤ g) (cs : Array Value) : Kp B P a (w.setRow g cs) :=
  h.trans ⟨rfl, rfl, rfl, by simp, fun k hk _ => setRow_other _ _ _ _ (by omega)⟩
theorem Kp.taken {B P : Nat} {a w w' : World} (h : Kp B P a w) (hg : w.grownBy w' (some P)) (hB : B ≤ w.heap.size) : Kp B P a w' :=
  h.trans ⟨hg.os, hg.tape, hg.output, hg.size, fun k hk hp => hg.block k (by omega) (by simpa using hp)⟩
theorem Kp.grown {B P : Nat} {a w w' : World} {row : Option Nat} (h : Kp B P a w) (hg : w.grownBy w' row) (hB : B ≤ w.heap.size) (hr : ∀ k, row = some k → B ≤ k) : Kp B P a w' :=
  h.trans ⟨hg.os, hg.tape, hg.output, hg.size, fun k hk _ => hg.block k (by omega) (fun e => by have := hr k e.symm; omega)⟩
theorem Kp.drew {B P : Nat} {a w : World} (h : Kp B P a w) (n : Nat) : Kp B P a (w.drewN n) := h.trans ⟨rfl, rfl, rfl, Nat.le_refl _, fun _ _ _ => rfl⟩
theorem Kp.mono {B B' P : Nat} {a w : World} (h : Kp B P a w) (hB : B' ≤ B) : Kp B' P a w := ⟨h.os, h.tape, h.output, h.size, fun k hk hp => h.block k (by omega) hp⟩
theorem Kp.out {P : Nat} {w w' : World} (h : Kp w.heap.size P w w') : w.grownBy w' (some P) :=
  ⟨h.os, h.tape, h.output, h.size, fun k hk hp => h.block k hk (by simpa using hp)⟩
theorem heap_second (w : World) (o o' : Obj) : ((w.alloc o).alloc o').heap[w.heap.size + 1]? = some o' := by
  have := heap_alloc_new (w.alloc o) o'
  simpa using this
end Go.Proofs.YtjmcpfckcajnjaaGreatDoor
/-
  A message as it is read: its block and its rows; items of one field: the contracts.
-/
namespace Go.Proofs.YtjmcpfckcajnjaaGreatDoor
set_option maxRecDepth 100000

open Go.RowKit

def fdv (l : List Fd) : List Value := l.flatMap FC
def strv (l : List (List UInt8)) : List Value := l.map fun x => .string (txt x)
def intv (l : List Int) : List Value := l.map fun n => .int .i64 n
theorem fdv_append (a b : List Fd) : fdv (a ++ b) = fdv a ++ fdv b := by simp [fdv]
theorem fdv_one (d : Fd) : fdv [d] = FC d := by simp [fdv]
theorem fdv_cells (l : List Fd) : ∀ u ∈ fdv l, u.oneCell' = true := by
  intro u hu
  obtain ⟨r, _, hr⟩ := List.mem_flatMap.1 hu
  simp only [FC, List.mem_cons, List.not_mem_nil, or_false] at hr
  rcases hr with rfl | rfl | rfl | rfl | rfl | rfl | rfl <;> rfl
theorem own_kept {w w' : World} {base B P : Nat} {e : TypeId} {size : Nat} {v : Value} {n : Nat} {xs : List Value} (h : w.ownsRow base e size v n xs) (hk : ∀ k, base ≤ k → k < w.heap.size → w'.heap[k]? = w.heap[k]?) : w'.ownsRow base e size v n xs := by
  rcases h with ⟨hl, ⟨rfl, rfl⟩ | ⟨g, cap, cur, rfl, h1, h2, h3⟩⟩
  · exact ⟨hl, .inl ⟨rfl, rfl⟩⟩
  · exact ⟨hl, .inr ⟨g, cap, cur, rfl, h1, (hk g h1 (Array.getElem?_eq_some_iff.1 h2).1).trans h2, h3⟩⟩
theorem heap_second' (w : World) (o o' : Obj) : ((w.alloc o).drew.alloc o').heap[w.heap.size + 1]? = some o' := heap_second w o o'
theorem own_apart {w : World} {b b' : Nat} {e e' : TypeId} {size size' : Nat} {v v' : Value} {n n' : Nat} {xs xs' : List Value} (h : w.ownsRow b e size v n xs) (h' : w.ownsRow b' e' size' v' n' xs') (hne : e ≠ e') : v.ownBlock = none ∨ v.ownBlock ≠ v'.ownBlock := by
  rcases h.2 with ⟨rfl, _⟩ | ⟨g, cap, cur, rfl, h1, h2, _⟩
  · exact .inl rfl
  · right
    rcases h'.2 with ⟨rfl, _⟩ | ⟨g', cap', cur', rfl, h1', h2', _⟩
    · simp [Value.ownBlock]
    · intro he
      simp only [Value.ownBlock, Option.some.injEq] at he
      subst he
      rw [h2] at h2'
      simp only [Option.some.injEq, Obj.cells.injEq] at h2'
      exact hne h2'.2.1
theorem own_set {w : World} {base : Nat} {e : TypeId} {size : Nat} {v : Value} {n : Nat} {xs : List Value} (h : w.ownsRow base e size v n xs) {a : Addr} (ha : a.block < base) (u : Value) : (w.setCell a u).ownsRow base e size v n xs := ownsRow_setCell_below h ha u
theorem own_M {w : World} {M : Nat} {e : TypeId} {size : Nat} {v : Value} {n : Nat} {xs : List Value} (h : w.ownsRow (M + 1) e size v n xs) : ∀ k, v.ownBlock = some k → M < k := fun k hk => (h.lt k hk).1
theorem Kp.past {a w w' : World} {P M : Nat} {e : TypeId} {size : Nat} {v0 v : Value} {n : Nat} {xs : List Value} (h : Kp M P a w) (hM : M ≤ w.heap.size) (h0 : w.ownsRow (M + 1) e size v0 n xs) (hg : w.grownBy w' v0.ownBlock) (j : Nat) : Kp M P a (w'.setCell ⟨M, j, none⟩ v) :=
  (h.grown hg hM (fun k hk => by have := own_M h0 k hk; omega)).setCell (Nat.le_refl _) _

end Go.Proofs.YtjmcpfckcajnjaaGreatDoor
/-
  A map is read: the contract.
-/
namespace Go.Proofs.YtjmcpfckcajnjaaGreatDoor
set_option maxRecDepth 100000

open Go.RowKit

theorem heap_new_set (w : World) (a b : Addr) (u v : Value) (o : Obj) : ((((w.setCell a u).setCell b v).alloc o).drew).heap[w.heap.size]? = some o := by
  have := heap_alloc_new ((w.setCell a u).setCell b v) o
  simpa [World.setCell, World.drew] using this
end Go.Proofs.YtjmcpfckcajnjaaGreatDoor
/-
  A oneof is read, and reserved numbers: the contracts.
-/
namespace Go.Proofs.YtjmcpfckcajnjaaGreatDoor
set_option maxRecDepth 100000

open Go.RowKit

theorem infoStrs : (Tryz.prog.info? 9).map (fun i => (i.zero, i.size, i.bytes)) = some (some (.string ⟨#[]⟩), 1, 16) := by kernel_rfl
theorem infoI64s : (Tryz.prog.info? 2).map (fun i => (i.zero, i.size, i.bytes)) = some (some (.int .i64 0), 1, 8) := by kernel_rfl
/-- How far the parser is from its end, as it lies there. -/
def muW (w : World) (P : Nat) : Nat := match w.heap[P]? with
  | some (Obj.cells cs _ _) => (match (cs[0]? : Option Value) with | some (.slice _ n _) => n | _ => 0) + (match (cs[2]? : Option Value) with | some (.bool b) => (if b then 0 else 1) | _ => 0)
  | _ => 0
theorem onesF_in (E : Nat) (s : S) (m : Ms) (h : s.inside = true) : onesF E s m = onesF E s.fldS (m.add { s.fld E with one := m.ones.length }) := by rw [onesF, dif_pos h]
theorem resF_in (s : S) (m : Ms) (h : s.sees 3 [44] = true) : resF s m = resF (s.sign [44]).num { m with res := m.res ++ [(s.sign [44]).numV] } := by rw [resF, dif_pos h]
theorem wt_le (m : Ms) : m.F.length ≤ m.wt ∧ m.ones.length ≤ m.wt ∧ m.res.length ≤ m.wt := by unfold Ms.wt; omega

end Go.Proofs.YtjmcpfckcajnjaaGreatDoor
/-
  Reserved numbers are read: the contract.
-/
namespace Go.Proofs.YtjmcpfckcajnjaaGreatDoor
set_option maxRecDepth 100000

open Go.RowKit

theorem resM_add (m : Ms) (n : Int) : ({ m with res := m.res ++ [n] } : Ms).wt = m.wt + 1 := by simp [Ms.wt]; omega
end Go.Proofs.YtjmcpfckcajnjaaGreatDoor
/-
  What reads an item, and a message: the contracts.
-/
namespace Go.Proofs.YtjmcpfckcajnjaaGreatDoor
set_option maxRecDepth 100000

open Go.RowKit

def itemV (P k : Nat) : Value := .func (.func k) #[.pointer (some ⟨P, 0, none⟩)] #[]
theorem ret_item {P k k' : Nat} (h : k = k') : Ending.returned (.func (.func k) #[.pointer (some ⟨P, 0, none⟩)] #[]) = .returned (itemV P k') := by rw [h]; rfl
end Go.Proofs.YtjmcpfckcajnjaaGreatDoor
/-
  A message is read: the contract.
-/
namespace Go.Proofs.YtjmcpfckcajnjaaGreatDoor
set_option maxRecDepth 100000

open Go.RowKit

theorem own_one {w : World} {b : Nat} {e : TypeId} {size : Nat} {v : Value} {n : Nat} {xs : List Value} (h : w.ownsRow b e size v n xs) : v.oneCell' = true := by
  rcases h.2 with ⟨rfl, _⟩ | ⟨g, cap, cur, rfl, _⟩ <;> rfl
def MsV (m : Ms) (vF vO vR : Value) : Value := .agg #[.string (txt m.name), vF, vO, vR, .int .i64 m.at_]
theorem itemsF_in (E : Nat) (s : S) (m : Ms) (h : s.inside = true) : itemsF E s m = itemsF E (itemF E s m).1 (itemF E s m).2 := by rw [itemsF, dif_pos h]
theorem msgM_wt (E : Nat) (s : S) : (msgM E s).wt = 0 := rfl
end Go.Proofs.YtjmcpfckcajnjaaGreatDoor
/-
  An enum is read: the contract.
-/
namespace Go.Proofs.YtjmcpfckcajnjaaGreatDoor
set_option maxRecDepth 100000

open Go.RowKit

def VC (v : Vl) : List Value := [.string (txt v.name), .int .i64 v.n, .int .i64 v.at_]
def vlv (l : List Vl) : List Value := l.flatMap VC
theorem vlv_append (a b : List Vl) : vlv (a ++ b) = vlv a ++ vlv b := by simp [vlv]
theorem vlv_one (d : Vl) : vlv [d] = VC d := by simp [vlv]
theorem vlv_cells (l : List Vl) : ∀ u ∈ vlv l, u.oneCell' = true := by
  intro u hu
  obtain ⟨r, _, hr⟩ := List.mem_flatMap.1 hu
  simp only [VC, List.mem_cons, List.not_mem_nil, or_false] at hr
  rcases hr with rfl | rfl | rfl <;> rfl
def EnV (e : En) (vV : Value) : Value := .agg #[.string (txt e.name), vV, .int .i64 e.at_]
theorem valsF_in (E : Nat) (s : S) (e : En) (h : s.inside = true) : valsF E s e = valsF E s.nbd { e with V := e.V ++ [⟨s.nameT, s.nbdNo, s.place E⟩] } := by rw [valsF, dif_pos h]
/-- A row of one type stays while a block of another type is written. -/
theorem own_other {w w' : World} {b : Nat} {e : TypeId} {size : Nat} {v : Value} {n : Nat} {xs : List Value} (hr : w.ownsRow b e size v n xs) {g : Nat} {cs : Array Value} {t : TypeId} {fr : Nat × Nat} (hg : w.grownBy w' (some g)) (ho : w.heap[g]? = some (.cells cs t fr)) (ht : t ≠ e) : w'.ownsRow b e size v n xs := by
  refine hr.kept hg ?_
  rcases hr.2 with ⟨rfl, _⟩ | ⟨g', cap, cur, rfl, _, h2, _⟩
  · exact .inl rfl
  · right
    simp only [Value.ownBlock, ne_eq, Option.some.injEq]
    rintro rfl
    rw [h2] at ho
    simp only [Option.some.injEq, Obj.cells.injEq] at ho
    exact ht ho.2.1.symm
theorem heap_new_set0 (w : World) (a b : Addr) (u v : Value) (o : Obj) : (((w.setCell a u).setCell b v).alloc o).heap[w.heap.size]? = some o := by
  have := heap_alloc_new ((w.setCell a u).setCell b v) o
  simpa [World.setCell] using this
end Go.Proofs.YtjmcpfckcajnjaaGreatDoor
