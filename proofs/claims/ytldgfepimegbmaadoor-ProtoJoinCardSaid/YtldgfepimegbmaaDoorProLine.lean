/-
  Lines are appended to what is printed: the frame, and the contract.
-/
import Derived.Test.YtldgfepimegbmaaDoorProText
import Derived.Test.YtldgfepimegbmaaDoorProFile
import Derived.Test.YtldgfepimegbmaaDoorText
import Derived.Lib.AppendStr
namespace Go.Proofs.YtldgfepimegbmaaDoor
set_option maxRecDepth 100000
open Go.RowKit

/-- Printing lets all be but the bytes' own block, and new ones: what lies below B, and what was there and is no row of bytes. -/
structure Pr (B : Nat) (w w' : World) : Prop where
  os : w'.os = w.os
  tape : w'.tape = w.tape
  output : w'.output = w.output
  size : w.heap.size ≤ w'.heap.size
  block : ∀ k, k < B → w'.heap[k]? = w.heap[k]?
  typed : ∀ (k : Nat) (cs : Array Value) (t : TypeId) (fr : Nat × Nat), w.heap[k]? = some (Obj.cells cs t fr) → t ≠ 5 → w'.heap[k]? = w.heap[k]?
theorem Pr.refl (B : Nat) (w : World) : Pr B w w := ⟨rfl, rfl, rfl, Nat.le_refl _, fun _ _ => rfl, fun _ _ _ _ _ _ => rfl⟩
theorem Pr.trans {B : Nat} {a b c : World} (h : Pr B a b) (k : Pr B b c) : Pr B a c :=
  ⟨k.os.trans h.os, k.tape.trans h.tape, k.output.trans h.output, Nat.le_trans h.size k.size, fun i hi => (k.block i hi).trans (h.block i hi),
    fun i cs t fr hi ht => (k.typed i cs t fr ((h.typed i cs t fr hi ht).trans hi) ht).trans (h.typed i cs t fr hi ht)⟩
theorem Pr.far {B : Nat} {a w w' : World} (h : Pr B a w) (os : w'.os = w.os) (tape : w'.tape = w.tape) (output : w'.output = w.output) (size : w.heap.size ≤ w'.heap.size)
    (hk : ∀ k, k < a.heap.size → w'.heap[k]? = w.heap[k]?) (hB : B ≤ a.heap.size) : Pr B a w' :=
  ⟨os.trans h.os, tape.trans h.tape, output.trans h.output, Nat.le_trans h.size size, fun k hkB => (hk k (by omega)).trans (h.block k hkB),
    fun k cs t fr hi ht => (hk k (Array.getElem?_eq_some_iff.1 hi).1).trans (h.typed k cs t fr hi ht)⟩
theorem Pr.alloc {B : Nat} {a w : World} (h : Pr B a w) (hB : B ≤ a.heap.size) (o : Obj) : Pr B a (w.alloc o) :=
  h.far rfl rfl rfl (by simp) (fun k hk => Below.heap_alloc w o k (Nat.lt_of_lt_of_le hk h.size)) hB
theorem Pr.drewN {B : Nat} {a w : World} (h : Pr B a w) (n : Nat) : Pr B a (w.drewN n) := ⟨h.os, h.tape, h.output, h.size, h.block, h.typed⟩
theorem Pr.drew {B : Nat} {a w : World} (h : Pr B a w) : Pr B a w.drew := ⟨h.os, h.tape, h.output, h.size, h.block, h.typed⟩
theorem Pr.setCell {B : Nat} {a w : World} (h : Pr B a w) (hB : B ≤ a.heap.size) {p : Addr} (hp : a.heap.size ≤ p.block) (u : Value) : Pr B a (w.setCell p u) :=
  h.far rfl rfl rfl (by simp [World.setCell]) (fun k hk => Below.heap_setCell w p u k (by omega)) hB
theorem Pr.below {B : Nat} {w w' : World} (h : Below w.heap.size w w') (hB : B ≤ w.heap.size) : Pr B w w' :=
  ⟨h.os, h.tape, h.output, h.size, fun k hk => h.block k (by omega), fun k _ _ _ hi _ => h.block k (Array.getElem?_eq_some_iff.1 hi).1⟩
theorem Pr.grown {B : Nat} {w w' : World} {v : Value} {n : Nat} {xs : List Value} (hr : w.ownsRow B 5 1 v n xs) (hg : w.grownBy w' v.ownBlock) (hB : B ≤ w.heap.size) : Pr B w w' := by
  refine ⟨hg.os, hg.tape, hg.output, hg.size, fun k hk => hg.block k (by omega) (fun e => by have := (hr.lt k e.symm).1; omega), fun k cs t fr hi ht => hg.block k (Array.getElem?_eq_some_iff.1 hi).1 ?_⟩
  rcases hr.2 with ⟨rfl, _⟩ | ⟨g, cap, cur, rfl, h1, h2, _⟩
  · simp [Value.ownBlock]
  · simp only [Value.ownBlock, ne_eq, Option.some.injEq]
    rintro rfl
    rw [hi] at h2
    simp only [Option.some.injEq, Obj.cells.injEq] at h2
    exact ht h2.2.1
theorem Pr.leaf {B : Nat} {w w' : World} (h : Pr B w w') : Leaf w w' := fun k cs t hi hl => h.typed k cs t (0, 0) hi (by rintro rfl; exact absurd hl (by decide))
theorem Pr.own {B b : Nat} {w w' : World} {e : TypeId} {size : Nat} {v : Value} {n : Nat} {xs : List Value} (h : Pr B w w') (hr : w.ownsRow b e size v n xs) (he : e ≠ 5) : w'.ownsRow b e size v n xs := by
  rcases hr with ⟨hl, ⟨rfl, rfl⟩ | ⟨g, cap, cur, rfl, h1, h2, h3⟩⟩
  · exact ⟨hl, .inl ⟨rfl, rfl⟩⟩
  · exact ⟨hl, .inr ⟨g, cap, cur, rfl, h1, (h.typed g _ _ _ h2 he).trans h2, h3⟩⟩
/-- What has been printed so far. -/
def Out (B : Nat) (w : World) (v : Value) (L : List UInt8) : Prop := w.ownsRow B 5 1 v L.length (bs L)
theorem Out.below {B : Nat} {w w' : World} {v : Value} {L : List UInt8} (h : Out B w v L) (hb : Below w.heap.size w w') : Out B w' v L := own_below h hb
theorem Out.alloc {B : Nat} {w : World} {v : Value} {L : List UInt8} (h : Out B w v L) (o : Obj) : Out B (w.alloc o) v L := World.ownsRow.alloc h o
theorem Out.grow {B : Nat} {w : World} {v : Value} {L X : List UInt8} {n : Nat} {xs : List Value} (h : w.ownsRow B 5 1 v n xs) (hn : n = (L ++ X).length) (hx : xs = bs L ++ bs X) : Out B w v (L ++ X) := by
  subst hn hx
  rw [← bs_append] at h
  exact h
def OutPost (B : Nat) (R : List UInt8) (w : World) (e : Ending) (w' : World) : Prop := ∃ v, e = .returned v ∧ Out B w' v R ∧ Pr B w w'
/-- Parts of a line, as they lie there. -/
def PartsAt (w : World) (g : Nat) (ps : List (List UInt8)) : Prop := w.heap[g]? = some (.cells (strv ps).toArray 9 (0, 0))
theorem strCells_bs (l : List UInt8) : Lib.strCells (txt l) = bs l := by simp [Lib.strCells, txt, bs, BV]
theorem flat_take (ps : List (List UInt8)) (k : Nat) (p : List UInt8) (h : ps[k]? = some p) : (ps.take (k + 1)).flatten = (ps.take k).flatten ++ p := by
  rw [List.take_add_one, h]; simp
theorem flat_le (ps : List (List UInt8)) (k : Nat) : (ps.take k).flatten.length ≤ ps.flatten.length := by
  conv => rhs; rw [← List.take_append_drop k ps]
  rw [List.flatten_append, List.length_append]
  omega
def LineRel (B g : Nat) (L : List UInt8) (ps : List (List UInt8)) (w : World) (o i : Value) (wr : World) : Prop := ∃ k : Nat, i = .int .i64 k ∧ k ≤ ps.length ∧ Out B wr o (L ++ (ps.take k).flatten) ∧ Pr B w wr
theorem LineRel.mk {B g : Nat} {L : List UInt8} {ps : List (List UInt8)} {w wr : World} {o i : Value} (k : Nat) (h1 : i = .int .i64 k) (h2 : k ≤ ps.length) (h3 : Out B wr o (L ++ (ps.take k).flatten)) (h4 : Pr B w wr) : LineRel B g L ps w o i wr := ⟨k, h1, h2, h3, h4⟩

set_option maxHeartbeats 2000000 in
theorem line_any (B g n : Nat) (v : Value) (L : List UInt8) (ps : List (List UInt8)) (w : World) (hn : n = ps.length) (ho : Out B w v L) (hp : PartsAt w g ps) (hB : B ≤ w.heap.size) (hl : L.length + ps.flatten.length ≤ 1000000000) (hps : ps.length ≤ 1000) :
    Calls Tryd.prog 25 #[v, .slice (some ⟨g, 0, none⟩) n n] w (OutPost B (L ++ lineB ps) w) := by
  obtain ⟨i0, hi, hz0, hz1, hz2⟩ := info_parts info_u8
  subst hn
  have HP := Lib.hid hp
  have HO := Lib.hid ho
  clear hp ho
  go_enter Tryd.func25, Tryd.ntmps25
  go_wp2
  go_loopw [0, 9] (fun o i wr => LineRel B g L ps w o i wr) (fun _ i _ => ps.length - (intOf i).toNat)
  case atStart => exact ⟨0, rfl, by omega, by simpa using HO.out, Pr.refl _ _⟩
  case round =>
    obtain ⟨k, rfl, hk, ho, hpr⟩ := hrel
    have HO5 := Lib.hid ho
    have HPR := Lib.hid hpr
    have hsz := hpr.size
    have hfl := flat_le ps k
    clear ho hpr
    by_cases h1 : k < ps.length
    · obtain ⟨p, hpk⟩ : ∃ p, ps[k]? = some p := ⟨_, List.getElem?_eq_getElem h1⟩
      have hcell : wr.cell? ⟨g, k, none⟩ = some (.string (txt p)) := by
        have := heap_cell ((HPR.out.typed g _ _ _ HP.out (by decide)).trans HP.out) k
        rw [this]
        simp [strv, hpk]
      have hfl2 := flat_le ps (k + 1)
      have hft := flat_take ps k p hpk
      have hts := txt_size p
      rw [hft, List.length_append] at hfl2
      have HFT := Lib.hid hft
      have hpl : p.length ≤ 1000000000 := by omega
      have HPK := Lib.hid hpk
      have hle : (L ++ (ps.take k).flatten).length + (txt p).size ≤ 1000000000 := by rw [hts, List.length_append]; omega
      clear hft hpk
      have HTS := Lib.hid hts
      clear hts
      go_wp2_with (refine Lib.wpList_append_own_string _ rfl _ _ _ _ rfl B 5 i0 Tryd.underlying54 Tryd.underlying9 hi hz0 hz1 hz2 _ _ _ rfl HO5.out (txt p) rfl (by unfold maxLen; omega) (by omega) (by omega) ?_; intro v8 w8 hown8 hg8 hnil8)
      refine ⟨LineRel.mk (k + 1) (by go_num) (by omega) ?_ (HPR.out.trans (Pr.grown HO5.out hg8 (by omega))), by simp [intOf]; omega⟩
      rw [HFT.out, ← List.append_assoc]
      exact Out.grow hown8 (by rw [HTS.out]; simp [Nat.add_assoc]) (by rw [strCells_bs])
    · obtain rfl : k = ps.length := by omega
      rw [List.take_of_length_le (Nat.le_refl _)] at HO5 hfl
      have hle : (L ++ ps.flatten).length + 1 ≤ 1000000001 := by rw [List.length_append]; omega
      go_wp2_with (at_builtin; refine wpList_app1 rfl _ _ 54 rfl B 5 i0 (.int .u8 0) 1 Tryd.underlying54 hi hz0 hz1 hz2 rfl _ _ _ rfl (Out.alloc HO5.out _) wr.heap.size 1 _ rfl (World.cell?_alloc_at _ _ _ _ rfl) rfl (by unfold maxLen; omega) (by omega) (by simp; omega) ?_; intro v8 w8 hown8 hg8)
      go_ret
      refine ⟨_, rfl, ?_, (HPR.out.alloc (by omega) _).trans (Pr.grown (Out.alloc HO5.out _) hg8 (by simp; omega))⟩
      unfold lineB
      rw [← List.append_assoc]
      exact Out.grow hown8 (by simp [Nat.add_assoc]) rfl
end Go.Proofs.YtldgfepimegbmaaDoor
