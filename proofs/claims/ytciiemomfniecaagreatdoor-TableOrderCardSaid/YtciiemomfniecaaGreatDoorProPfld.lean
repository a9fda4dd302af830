/-
  Lines are appended to what is printed: the frame, and the contract.
-/
import Derived.Test.YtciiemomfniecaaGreatDoorTokPlaces
import Derived.Test.YtciiemomfniecaaGreatDoorProFile
import Derived.Test.YtciiemomfniecaaGreatDoorTokNum
import Derived.Lib.AppendStr
import Derived.Test.YtciiemomfniecaaGreatDoorTokRdig
import Derived.Deep.RegionHeld3
namespace Go.Proofs.YtciiemomfniecaaGreatDoor
set_option maxRecDepth 100000

open Go.RowKit

/-- Printing lets all be but the bytes' own block, and new ones: what lies below B, and what was there and is no row of bytes. -/
structure Pr (B : Nat) (w w' : World) : Prop where
  os : w'.os = w.os
  tape : w'.tape = w.tape
  output : w'.output = w.output
  size : w.heap.size ≤ w'.heap.size
  block : ∀ k, k < B → w'.heap[k]? = w.heap[k]?
  typed : ∀ (k : Nat) (cs : Array Value) (t : TypeId) (fr : Nat × Nat), w.heap[k]? = some (Obj.cells cs t fr) → t ≠ 5 → w'.heap[k]? = w.heap[k]?
theorem Pr.refl (B : Nat) (w : World) : Pr B w w := ⟨rfl, rfl, rfl, Nat.le_refl _, fun _ _ => rfl, fun _ _ _ _ _ _ => rfl⟩
theorem Pr.trans {B : Nat} {a b c : World} (h : Pr B a b) (k : Pr B b c) : Pr B a c :=
  ⟨k.os.trans h.os, k.tape.trans h.tape, k.output.trans h.output, Nat.le_trans h.size k.size, fun i hi => (k.block i hi).trans (h.block i hi),
    fun i cs t fr hi ht => (k.typed i cs t fr ((h.typed i cs t fr hi ht).trans hi) ht).trans (h.typed i cs t fr hi ht)⟩
theorem Pr.far {B : Nat} {a w w' : World} (h : Pr B a w) (os : w'.os = w.os) (tape : w'.tape = w.tape) (output : w'.output = w.output) (size : w.heap.size ≤ w'.heap.size)
    (hk : ∀ k, k < a.heap.size → w'.heap[k]? = w.heap[k]?) (hB : B ≤ a.heap.size) : Pr B a w' :=
  ⟨os.trans h.os, tape.trans h.tape, output.trans h.output, Nat.le_trans h.size size, fun k hkB => (hk k (by omega)).trans (h.block k hkB),
    fun k cs t fr hi ht => (hk k (Array.getElem?_eq_some_iff.1 hi).1).trans (h.typed k cs t fr hi ht)⟩
theorem Pr.alloc {B : Nat} {a w : World} (h : Pr B a w) (hB : B ≤ a.heap.size) (o : Obj) : Pr B a (w.alloc o) :=
  h.far rfl rfl rfl (by simp) (fun k hk => Below.heap_alloc w o k (Nat.lt_of_lt_of_le hk h.size)) hB
theorem Pr.drewN {B : Nat} {a w : World} (h : Pr B a w) (n : Nat) : Pr B a (w.drewN n) := ⟨h.os, h.tape, h.output, h.size, h.block, h.typed⟩
theorem Pr.drew {B : Nat} {a w : World} (h : Pr B a w) : Pr B a w.drew := ⟨h.os, h.tape, h.output, h.size, h.block, h.typed⟩
theorem Pr.setCell {B : Nat} {a w : World} (h : Pr B a w) (hB : B ≤ a.heap.size) {p : Addr} (hp : a.heap.size ≤ p.block) (u : Value) : Pr B a (w.setCell p u) :=
  h.far rfl rfl rfl (by simp [World.setCell]) (fun k hk => Below.heap_setCell w p u k (by omega)) hB
theorem Pr.below {B : Nat} {w w' : World} (h : Below w.heap.size w w') (hB : B ≤ w.heap.size) : Pr B w w' :=
  ⟨h.os, h.tape, h.output, h.size, fun k hk => h.block k (by omega), fun k _ _ _ hi _ => h.block k (Array.getElem?_eq_some_iff.1 hi).1⟩
theorem Pr.grown {B : Nat} {w w' : World} {v : Value} {n : Nat} {xs : List Value} (hr : w.ownsRow B 5 1 v n xs) (hg : w.grownBy w' v.ownBlock) (hB : B ≤ w.heap.size) : Pr B w w' := by
  refine ⟨hg.os, hg.tape, hg.output, hg.size, fun k hk => hg.block k (by omega) (fun e => by have := (hr.lt k e.symm).1; omega), fun k cs t fr hi ht => hg.block k (Array.getElem?_eq_some_iff.1 hi).1 ?_⟩
  rcases hr.2 with ⟨rfl, _⟩ | ⟨g, cap, cur, rfl, h1, h2, _⟩
  · simp [Value.ownBlock]
  · simp only [Value.ownBlock, ne_eq, Option.some.injEq]
    rintro rfl
    rw [hi] at h2
    simp only [Option.some.injEq, Obj.cells.injEq] at h2
    exact ht h2.2.1
theorem Pr.leaf {B : Nat} {w w' : World} (h : Pr B w w') : Leaf w w' := fun k cs t hi hl => h.typed k cs t (0, 0) hi (by rintro rfl; exact absurd hl (by decide))
theorem Pr.own {B b : Nat} {w w' : World} {e : TypeId} {size : Nat} {v : Value} {n : Nat} {xs : List Value} (h : Pr B w w') (hr : w.ownsRow b e size v n xs) (he : e ≠ 5) : w'.ownsRow b e size v n xs := by
  rcases hr with ⟨hl, ⟨rfl, rfl⟩ | ⟨g, cap, cur, rfl, h1, h2, h3⟩⟩
  · exact ⟨hl, .inl ⟨rfl, rfl⟩⟩
  · exact ⟨hl, .inr ⟨g, cap, cur, rfl, h1, (h.typed g _ _ _ h2 he).trans h2, h3⟩⟩
/-- What has been printed so far. -/
def Out (B : Nat) (w : World) (v : Value) (L : List UInt8) : Prop := w.ownsRow B 5 1 v L.length (bs L)
theorem Out.below {B : Nat} {w w' : World} {v : Value} {L : List UInt8} (h : Out B w v L) (hb : Below w.heap.size w w') : Out B w' v L := own_below h hb
theorem Out.alloc {B : Nat} {w : World} {v : Value} {L : List UInt8} (h : Out B w v L) (o : Obj) : Out B (w.alloc o) v L := World.ownsRow.alloc h o
theorem Out.grow {B : Nat} {w : World} {v : Value} {L X : List UInt8} {n : Nat} {xs : List Value} (h : w.ownsRow B 5 1 v n xs) (hn : n = (L ++ X).length) (hx : xs = bs L ++ bs X) : Out B w v (L ++ X) := by
  subst hn hx
  rw [← bs_append] at h
  exact h
def OutPost (B : Nat) (R : List UInt8) (w : World) (e : Ending) (w' : World) : Prop := ∃ v, e = .returned v ∧ Out B w' v R ∧ Pr B w w'
/-- Parts of a line, as they lie there. -/
def PartsAt (w : World) (g : Nat) (ps : List (List UInt8)) : Prop := w.heap[g]? = some (.cells (strv ps).toArray 9 (0, 0))
theorem strCells_bs (l : List UInt8) : Lib.strCells (txt l) = bs l := by simp [Lib.strCells, txt, bs, BV]
theorem flat_take (ps : List (List UInt8)) (k : Nat) (p : List UInt8) (h : ps[k]? = some p) : (ps.take (k + 1)).flatten = (ps.take k).flatten ++ p := by
  rw [List.take_add_one, h]; simp
theorem flat_le (ps : List (List UInt8)) (k : Nat) : (ps.take k).flatten.length ≤ ps.flatten.length := by
  conv => rhs; rw [← List.take_append_drop k ps]
  rw [List.flatten_append, List.length_append]
  omega
def LineRel (B g : Nat) (L : List UInt8) (ps : List (List UInt8)) (w : World) (o i : Value) (wr : World) : Prop := ∃ k : Nat, i = .int .i64 k ∧ k ≤ ps.length ∧ Out B wr o (L ++ (ps.take k).flatten) ∧ Pr B w wr
theorem LineRel.mk {B g : Nat} {L : List UInt8} {ps : List (List UInt8)} {w wr : World} {o i : Value} (k : Nat) (h1 : i = .int .i64 k) (h2 : k ≤ ps.length) (h3 : Out B wr o (L ++ (ps.take k).flatten)) (h4 : Pr B w wr) : LineRel B g L ps w o i wr := ⟨k, h1, h2, h3, h4⟩

set_option maxHeartbeats 2000000 in
theorem line_any (B g n : Nat) (v : Value) (L : List UInt8) (ps : List (List UInt8)) (w : World) (hn : n = ps.length) (ho : Out B w v L) (hp : PartsAt w g ps) (hB : B ≤ w.heap.size) (hl : L.length + ps.flatten.length ≤ 1000000000) (hps : ps.length ≤ 1000) :
    Calls Tryz.prog 106 #[v, .slice (some ⟨g, 0, none⟩) n n] w (OutPost B (L ++ lineB ps) w) := by
  obtain ⟨i0, hi, hz0, hz1, hz2⟩ := info_parts info_u8
  subst hn
  have HP := Lib.hid hp
  have HO := Lib.hid ho
  clear hp ho
  go_enter Tryz.func106, Tryz.ntmps106
  go_wp2
  go_loopw [0, 9] (fun o i wr => LineRel B g L ps w o i wr) (fun _ i _ => ps.length - (intOf i).toNat)
  case atStart => exact ⟨0, rfl, by omega, by simpa using HO.out, Pr.refl _ _⟩
  case round =>
    obtain ⟨k, rfl, hk, ho, hpr⟩ := hrel
    have HO5 := Lib.hid ho
    have HPR := Lib.hid hpr
    have hsz := hpr.size
    have hfl := flat_le ps k
    clear ho hpr
    by_cases h1 : k < ps.length
    · obtain ⟨p, hpk⟩ : ∃ p, ps[k]? = some p := ⟨_, List.getElem?_eq_getElem h1⟩
      have hcell : wr.cell? ⟨g, k, none⟩ = some (.string (txt p)) := by
        have := heap_cell ((HPR.out.typed g _ _ _ HP.out (by decide)).trans HP.out) k
        rw [this]
        simp [strv, hpk]
      have hfl2 := flat_le ps (k + 1)
      have hft := flat_take ps k p hpk
      have hts := txt_size p
      rw [hft, List.length_append] at hfl2
      have HFT := Lib.hid hft
      have hpl : p.length ≤ 1000000000 := by omega
      have HPK := Lib.hid hpk
      have hle : (L ++ (ps.take k).flatten).length + (txt p).size ≤ 1000000000 := by rw [hts, List.length_append]; omega
      clear hft hpk
      have HTS := Lib.hid hts
      clear hts
      go_wp2_with (refine Lib.wpList_append_own_string _ rfl _ _ _ _ rfl B 5 i0 Tryz.underlying106 Tryz.underlying9 hi hz0 hz1 hz2 _ _ _ rfl HO5.out (txt p) rfl (by unfold maxLen; omega) (by omega) (by omega) ?_; intro v8 w8 hown8 hg8 hnil8)
      refine ⟨LineRel.mk (k + 1) (by go_num) (by omega) ?_ (HPR.out.trans (Pr.grown HO5.out hg8 (by omega))), by simp [intOf]; omega⟩
      rw [HFT.out, ← List.append_assoc]
      exact Out.grow hown8 (by rw [HTS.out]; simp [Nat.add_assoc]) (by rw [strCells_bs])
    · obtain rfl : k = ps.length := by omega
      rw [List.take_of_length_le (Nat.le_refl _)] at HO5 hfl
      have hle : (L ++ ps.flatten).length + 1 ≤ 1000000001 := by rw [List.length_append]; omega
      go_wp2_with (at_builtin; refine wpList_app1 rfl _ _ 106 rfl B 5 i0 (.int .u8 0) 1 Tryz.underlying106 hi hz0 hz1 hz2 rfl _ _ _ rfl (Out.alloc HO5.out _) wr.heap.size 1 _ rfl (World.cell?_alloc_at _ _ _ _ rfl) rfl (by unfold maxLen; omega) (by omega) (by simp; omega) ?_; intro v8 w8 hown8 hg8)
      go_ret
      refine ⟨_, rfl, ?_, (HPR.out.alloc (by omega) _).trans (Pr.grown (Out.alloc HO5.out _) hg8 (by simp; omega))⟩
      unfold lineB
      rw [← List.append_assoc]
      exact Out.grow hown8 (by simp [Nat.add_assoc]) rfl
end Go.Proofs.YtciiemomfniecaaGreatDoor
/-
  A field is printed: the contracts.
-/
namespace Go.Proofs.YtciiemomfniecaaGreatDoor
set_option maxRecDepth 100000

open Go.RowKit

set_option maxHeartbeats 1000000 in
theorem typeOf_any (d : Fd) (w : World) (hk0 : d.key.length ≤ 1000000) (ht0 : d.type.length ≤ 1000000) : Calls Tryz.prog 131 #[FdV d] w fun e w' => e = .returned (.string (txt (typeB d))) ∧ Below w.heap.size w w' := by
  have HX : Hid (FdV d = .agg #[.string (txt d.type), .string (txt d.key), .bool d.rep, .int .i64 d.one, .string (txt d.name), .int .i64 d.no, .int .i64 d.at_]) := Lib.hid rfl
  have hs1 : (txt d.key).size ≤ 1000000 := by rw [txt_size]; exact hk0
  have hs2 : (txt d.type).size ≤ 1000000 := by rw [txt_size]; exact ht0
  clear hk0 ht0
  rw [HX.out]
  by_cases hk : d.key = []
  · have hb : (!((txt d.key).toList).isEmpty) = false := by rw [Lib.toList_data, txt_list, hk]; rfl
    have hb2 : (txt d.key).toList = [] := by rw [Lib.toList_data, txt_list, hk]
    cases hr : d.rep
    · have HT : Hid (typeB d = d.type) := Lib.hid (by simp [typeB, hk, hr])
      clear hk
      go_enter Tryz.func131, Tryz.ntmps131
      go_wp2
      go_ret
      exact ⟨by rw [HT.out]; rfl, below_new _ _⟩
    · have HT : Hid (typeB d = [114, 101, 112, 101, 97, 116, 101, 100, 32] ++ d.type) := Lib.hid (by simp [typeB, hk, hr])
      clear hk
      go_enter Tryz.func131, Tryz.ntmps131
      go_wp2
      go_ret
      exact ⟨by rw [HT.out, ← txt_app]; rfl, below_new _ _⟩
  · have hb : (!((txt d.key).toList).isEmpty) = true := by rw [Lib.toList_data, txt_list]; cases h : d.key with | nil => exact absurd h hk | cons a b => rfl
    have hb2 : ((txt d.key).toList).isEmpty = false := by rw [Lib.toList_data, txt_list]; cases h : d.key with | nil => exact absurd h hk | cons a b => rfl
    have HT : Hid (typeB d = [109, 97, 112, 60] ++ d.key ++ [44, 32] ++ d.type ++ [62]) := Lib.hid (by simp [typeB, hk])
    clear hk
    go_enter Tryz.func131, Tryz.ntmps131
    go_wp2
    go_ret
    exact ⟨by rw [HT.out, ← txt_app, ← txt_app, ← txt_app, ← txt_app]; rfl, below_new _ _⟩
set_option maxHeartbeats 1000000 in
theorem inOne_any (name : ByteArray) (A1 A2 A3 : Option Addr) (n1 n2 n3 q1 q2 q3 : Nat) (at_ : Int) (d : Fd) (w : World) :
    Calls Tryz.prog 108 #[.agg #[.string name, .slice A1 n1 q1, .slice A2 n2 q2, .slice A3 n3 q3, .int .i64 at_], FdV d] w fun e w' => e = .returned (.bool (inOne n2 d)) ∧ Below w.heap.size w w' := by
  have HX : Hid (FdV d = .agg #[.string (txt d.type), .string (txt d.key), .bool d.rep, .int .i64 d.one, .string (txt d.name), .int .i64 d.no, .int .i64 d.at_]) := Lib.hid rfl
  rw [HX.out]
  by_cases h0 : 0 < d.one
  · have h1 : decide (0 < d.one) = true := by rw [decide_eq_true_eq]; omega
    have HT : Hid (inOne n2 d = decide (d.one ≤ n2)) := Lib.hid (by simp [inOne, h0])
    clear h0
    go_enter Tryz.func108, Tryz.ntmps108
    go_wp2
    go_ret
    exact ⟨by rw [HT.out]; first | rfl | simp, below_lit (below_new _ _) _⟩
  · have h1 : decide (0 < d.one) = false := by rw [decide_eq_false_iff_not]; omega
    have HT : Hid (inOne n2 d = false) := Lib.hid (by simp [inOne, h0])
    clear h0
    go_enter Tryz.func108, Tryz.ntmps108
    go_wp2
    go_ret
    exact ⟨by rw [HT.out]; rfl, below_lit (below_new _ _) _⟩
theorem box7_keep {w w' : World} {b : Nat} {d : Fd} (hk : w'.heap[b]? = w.heap[b]?) (h : w.heap[b]? = some (.cells #[.string (txt d.type), .string (txt d.key), .bool d.rep, .int .i64 d.one, .string (txt d.name), .int .i64 d.no, .int .i64 d.at_] 53 (0, 0)) ∧ w.cell? ⟨b, 0, none⟩ = some (.string (txt d.type)) ∧ w.cell? ⟨b, 1, none⟩ = some (.string (txt d.key)) ∧ w.cell? ⟨b, 2, none⟩ = some (.bool d.rep) ∧ w.cell? ⟨b, 3, none⟩ = some (.int .i64 d.one) ∧ w.cell? ⟨b, 4, none⟩ = some (.string (txt d.name)) ∧ w.cell? ⟨b, 5, none⟩ = some (.int .i64 d.no) ∧ w.cell? ⟨b, 6, none⟩ = some (.int .i64 d.at_)) : w'.heap[b]? = some (.cells #[.string (txt d.type), .string (txt d.key), .bool d.rep, .int .i64 d.one, .string (txt d.name), .int .i64 d.no, .int .i64 d.at_] 53 (0, 0)) ∧ w'.cell? ⟨b, 0, none⟩ = some (.string (txt d.type)) ∧ w'.cell? ⟨b, 1, none⟩ = some (.string (txt d.key)) ∧ w'.cell? ⟨b, 2, none⟩ = some (.bool d.rep) ∧ w'.cell? ⟨b, 3, none⟩ = some (.int .i64 d.one) ∧ w'.cell? ⟨b, 4, none⟩ = some (.string (txt d.name)) ∧ w'.cell? ⟨b, 5, none⟩ = some (.int .i64 d.no) ∧ w'.cell? ⟨b, 6, none⟩ = some (.int .i64 d.at_) := by
  have hb := hk.trans h.1
  refine ⟨hb, ?_, ?_, ?_, ?_, ?_, ?_, ?_⟩
  all_goals (rw [heap_cell hb]; rfl)
theorem box7_below {w w' : World} {b : Nat} {d : Fd} (hb : Below w.heap.size w w') (h : w.heap[b]? = some (.cells #[.string (txt d.type), .string (txt d.key), .bool d.rep, .int .i64 d.one, .string (txt d.name), .int .i64 d.no, .int .i64 d.at_] 53 (0, 0)) ∧ w.cell? ⟨b, 0, none⟩ = some (.string (txt d.type)) ∧ w.cell? ⟨b, 1, none⟩ = some (.string (txt d.key)) ∧ w.cell? ⟨b, 2, none⟩ = some (.bool d.rep) ∧ w.cell? ⟨b, 3, none⟩ = some (.int .i64 d.one) ∧ w.cell? ⟨b, 4, none⟩ = some (.string (txt d.name)) ∧ w.cell? ⟨b, 5, none⟩ = some (.int .i64 d.no) ∧ w.cell? ⟨b, 6, none⟩ = some (.int .i64 d.at_)) : w'.heap[b]? = some (.cells #[.string (txt d.type), .string (txt d.key), .bool d.rep, .int .i64 d.one, .string (txt d.name), .int .i64 d.no, .int .i64 d.at_] 53 (0, 0)) ∧ w'.cell? ⟨b, 0, none⟩ = some (.string (txt d.type)) ∧ w'.cell? ⟨b, 1, none⟩ = some (.string (txt d.key)) ∧ w'.cell? ⟨b, 2, none⟩ = some (.bool d.rep) ∧ w'.cell? ⟨b, 3, none⟩ = some (.int .i64 d.one) ∧ w'.cell? ⟨b, 4, none⟩ = some (.string (txt d.name)) ∧ w'.cell? ⟨b, 5, none⟩ = some (.int .i64 d.no) ∧ w'.cell? ⟨b, 6, none⟩ = some (.int .i64 d.at_) := box7_keep (hb.block b (Array.getElem?_eq_some_iff.1 h.1).1) h
theorem box7_pr {B : Nat} {w w' : World} {b : Nat} {d : Fd} (hb : Pr B w w') (h : w.heap[b]? = some (.cells #[.string (txt d.type), .string (txt d.key), .bool d.rep, .int .i64 d.one, .string (txt d.name), .int .i64 d.no, .int .i64 d.at_] 53 (0, 0)) ∧ w.cell? ⟨b, 0, none⟩ = some (.string (txt d.type)) ∧ w.cell? ⟨b, 1, none⟩ = some (.string (txt d.key)) ∧ w.cell? ⟨b, 2, none⟩ = some (.bool d.rep) ∧ w.cell? ⟨b, 3, none⟩ = some (.int .i64 d.one) ∧ w.cell? ⟨b, 4, none⟩ = some (.string (txt d.name)) ∧ w.cell? ⟨b, 5, none⟩ = some (.int .i64 d.no) ∧ w.cell? ⟨b, 6, none⟩ = some (.int .i64 d.at_)) : w'.heap[b]? = some (.cells #[.string (txt d.type), .string (txt d.key), .bool d.rep, .int .i64 d.one, .string (txt d.name), .int .i64 d.no, .int .i64 d.at_] 53 (0, 0)) ∧ w'.cell? ⟨b, 0, none⟩ = some (.string (txt d.type)) ∧ w'.cell? ⟨b, 1, none⟩ = some (.string (txt d.key)) ∧ w'.cell? ⟨b, 2, none⟩ = some (.bool d.rep) ∧ w'.cell? ⟨b, 3, none⟩ = some (.int .i64 d.one) ∧ w'.cell? ⟨b, 4, none⟩ = some (.string (txt d.name)) ∧ w'.cell? ⟨b, 5, none⟩ = some (.int .i64 d.no) ∧ w'.cell? ⟨b, 6, none⟩ = some (.int .i64 d.at_) := box7_keep (hb.typed b _ _ _ h.1 (by decide)) h
theorem box7_new (w : World) (d : Fd) : (w.alloc (.cells #[.string (txt d.type), .string (txt d.key), .bool d.rep, .int .i64 d.one, .string (txt d.name), .int .i64 d.no, .int .i64 d.at_] 53)).heap[w.heap.size]? = some (.cells #[.string (txt d.type), .string (txt d.key), .bool d.rep, .int .i64 d.one, .string (txt d.name), .int .i64 d.no, .int .i64 d.at_] 53 (0, 0)) ∧ (w.alloc (.cells #[.string (txt d.type), .string (txt d.key), .bool d.rep, .int .i64 d.one, .string (txt d.name), .int .i64 d.no, .int .i64 d.at_] 53)).cell? ⟨w.heap.size, 0, none⟩ = some (.string (txt d.type)) ∧ (w.alloc (.cells #[.string (txt d.type), .string (txt d.key), .bool d.rep, .int .i64 d.one, .string (txt d.name), .int .i64 d.no, .int .i64 d.at_] 53)).cell? ⟨w.heap.size, 1, none⟩ = some (.string (txt d.key)) ∧ (w.alloc (.cells #[.string (txt d.type), .string (txt d.key), .bool d.rep, .int .i64 d.one, .string (txt d.name), .int .i64 d.no, .int .i64 d.at_] 53)).cell? ⟨w.heap.size, 2, none⟩ = some (.bool d.rep) ∧ (w.alloc (.cells #[.string (txt d.type), .string (txt d.key), .bool d.rep, .int .i64 d.one, .string (txt d.name), .int .i64 d.no, .int .i64 d.at_] 53)).cell? ⟨w.heap.size, 3, none⟩ = some (.int .i64 d.one) ∧ (w.alloc (.cells #[.string (txt d.type), .string (txt d.key), .bool d.rep, .int .i64 d.one, .string (txt d.name), .int .i64 d.no, .int .i64 d.at_] 53)).cell? ⟨w.heap.size, 4, none⟩ = some (.string (txt d.name)) ∧ (w.alloc (.cells #[.string (txt d.type), .string (txt d.key), .bool d.rep, .int .i64 d.one, .string (txt d.name), .int .i64 d.no, .int .i64 d.at_] 53)).cell? ⟨w.heap.size, 5, none⟩ = some (.int .i64 d.no) ∧ (w.alloc (.cells #[.string (txt d.type), .string (txt d.key), .bool d.rep, .int .i64 d.one, .string (txt d.name), .int .i64 d.no, .int .i64 d.at_] 53)).cell? ⟨w.heap.size, 6, none⟩ = some (.int .i64 d.at_) := by
  have hb := heap_alloc_new w (.cells #[.string (txt d.type), .string (txt d.key), .bool d.rep, .int .i64 d.one, .string (txt d.name), .int .i64 d.no, .int .i64 d.at_] 53)
  refine ⟨hb, ?_, ?_, ?_, ?_, ?_, ?_, ?_⟩
  all_goals (rw [heap_cell hb]; rfl)
/-- A field whose texts and number are not too great. -/
structure FdOk (d : Fd) : Prop where
  key : d.key.length ≤ 1000000
  type : d.type.length ≤ 1000000
  name : d.name.length ≤ 1000000
  lo : -9223372036854775808 ≤ d.no
  hi : d.no ≤ 9223372036854775807
set_option maxHeartbeats 4000000 in
theorem pfld_any (B : Nat) (v : Value) (L ahead : List UInt8) (d : Fd) (w : World) (LV : Laid w) (ho : Out B w v L) (hB : B ≤ w.heap.size) (hd : FdOk d) (hl : L.length + (fieldB ahead d).length ≤ 1000000000) :
    Calls Tryz.prog 109 #[v, .string (txt ahead), FdV d] w (OutPost B (L ++ fieldB ahead d) w) := by
  have HX : Hid (FdV d = .agg #[.string (txt d.type), .string (txt d.key), .bool d.rep, .int .i64 d.one, .string (txt d.name), .int .i64 d.no, .int .i64 d.at_]) := Lib.hid rfl
  have H1 := Lib.hid (fun w => typeOf_any d w hd.key hd.type)
  have H2 := Lib.hid (fun w L => digits_any d.no hd.lo hd.hi w L)
  have HR : Hid (fieldB ahead d = lineB [ahead, typeB d, [32], d.name, [32, 61, 32], digB d.no, [59]]) := Lib.hid rfl
  have hsz : L.length + [ahead, typeB d, [32], d.name, [32, 61, 32], digB d.no, [59]].flatten.length ≤ 1000000000 := by
    rw [HR.out] at hl
    unfold lineB at hl
    rw [List.length_append] at hl
    omega
  have HSZ := Lib.hid hsz
  have HO := Lib.hid (ho.alloc (.cells #[.string (txt d.type), .string (txt d.key), .bool d.rep, .int .i64 d.one, .string (txt d.name), .int .i64 d.no, .int .i64 d.at_] 53))
  have HB := Lib.hid hB
  have LA := LV.on (below_new w (.cells #[.string (txt d.type), .string (txt d.key), .bool d.rep, .int .i64 d.one, .string (txt d.name), .int .i64 d.no, .int .i64 d.at_] 53))
  have LB : Laid ((w.alloc (.cells #[.string (txt d.type), .string (txt d.key), .bool d.rep, .int .i64 d.one, .string (txt d.name), .int .i64 d.no, .int .i64 d.at_] 53)).drew) := LA.on (Below.refl _ _).drew
  have h0 := box7_keep (w' := (w.alloc (.cells (FC d).toArray 53)).drew) rfl (box7_new w d)
  simp only [FC] at h0
  have HD := Lib.hid hd
  rw [HX.out]
  clear hd hl hsz ho hB LA LV
  generalize fieldB ahead d = R at *
  go_enter Tryz.func109, Tryz.ntmps109
  go_wp2_with fail
  go_region_held3 (fun w' => w'.heap[w.heap.size]? = some (.cells #[.string (txt d.type), .string (txt d.key), .bool d.rep, .int .i64 d.one, .string (txt d.name), .int .i64 d.no, .int .i64 d.at_] 53 (0, 0)) ∧ w'.cell? ⟨w.heap.size, 0, none⟩ = some (.string (txt d.type)) ∧ w'.cell? ⟨w.heap.size, 1, none⟩ = some (.string (txt d.key)) ∧ w'.cell? ⟨w.heap.size, 2, none⟩ = some (.bool d.rep) ∧ w'.cell? ⟨w.heap.size, 3, none⟩ = some (.int .i64 d.one) ∧ w'.cell? ⟨w.heap.size, 4, none⟩ = some (.string (txt d.name)) ∧ w'.cell? ⟨w.heap.size, 5, none⟩ = some (.int .i64 d.no) ∧ w'.cell? ⟨w.heap.size, 6, none⟩ = some (.int .i64 d.at_))
    (first | exact h0 | exact box7_below hb1 ‹_› | exact box7_below hb2 ‹_› | exact box7_below (below_new _ _) ‹_› | exact box7_pr hpr4 ‹_› | go_keep)
    ((first
      | (go_at_call 131; rw [← HX.out]; refine (H1.out _).mono ?_; rw [HX.out]; rintro e w1 ⟨rfl, hb1⟩)
      | (go_at_call 112; refine (H2.out _ (by first | exact LB | exact LB.on hb1)).mono ?_; rintro e w2 ⟨rfl, hb2⟩)
      | (go_at_call 106; refine (line_any B _ 7 v L [ahead, typeB d, [32], d.name, [32, 61, 32], digB d.no, [59]] _ rfl (by first | exact (((HO.out.below (Below.refl _ _).drew).below hb1).below hb2).alloc _ | exact (((HO.out.below (Below.refl _ _).drew).below hb2).below hb1).alloc _) (heap_alloc_new _ _) (by have h1 := hb1.size; have h2 := hb2.size; have h3 := HB.out; simp at h1 h2 ⊢; omega) HSZ.out (by simp)).mono ?_; rintro e w4 ⟨v4, rfl, ho4, hpr4⟩)))
  all_goals
    go_wp2
    go_ret
    have h1 := hb1.size
    have h2 := hb2.size
    have h3 := HB.out
    simp at h1 h2
    refine ⟨v4, rfl, by rw [HR.out]; exact ho4, ?_⟩
    first
      | exact ((((((Pr.refl B w).alloc HB.out _).drew.trans (Pr.below hb1 (by simp; omega))).trans (Pr.below hb2 (by omega))).trans ((Pr.refl B w2).alloc (by omega) _))).trans hpr4
      | exact ((((((Pr.refl B w).alloc HB.out _).drew.trans (Pr.below hb2 (by simp; omega))).trans (Pr.below hb1 (by omega))).trans ((Pr.refl B w1).alloc (by omega) _))).trans hpr4
end Go.Proofs.YtciiemomfniecaaGreatDoor
