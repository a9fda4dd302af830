/-
  The parser as it lies in memory; the contracts of what only looks at it.
-/
import Derived.Test.YtciiemomfniecaaGreatDoorTokList
import Derived.Test.YtciiemomfniecaaGreatDoorProMath
namespace Go.Proofs.YtciiemomfniecaaGreatDoor
set_option maxRecDepth 100000

open Go.RowKit

/-- The parser's block: the tokens that are left, how many bytes the text has, whether it is stuck. -/
def PSt (w : World) (P E : Nat) (s : S) : Prop :=
  ∃ A c, w.heap[P]? = some (.cells #[.slice A s.l.length c, .int .i64 E, .bool s.st] 116 (0, 0)) ∧ SlT w A c s.l ∧ (∀ ad, A = some ad → ad.block < P)
theorem heap_cell {w : World} {g : Nat} {cs : Array Value} {t : TypeId} {fr : Nat × Nat} (h : w.heap[g]? = some (.cells cs t fr)) (j : Nat) : w.cell? ⟨g, j, none⟩ = cs[j]? := by simp [World.cell?, h]
theorem heap_free {w : World} {g : Nat} {cs : Array Value} {t : TypeId} (h : w.heap[g]? = some (.cells cs t (0, 0))) (j : Nat) : w.frozen? ⟨g, j, none⟩ = false := by simp [World.frozen?, h]
theorem heap_setCell_same {w : World} {g j : Nat} {cs : Array Value} {t : TypeId} {fr : Nat × Nat} (h : w.heap[g]? = some (.cells cs t fr)) (v : Value) : (w.setCell ⟨g, j, none⟩ v).heap[g]? = some (.cells (cs.setIfInBounds j v) t fr) := by
  rw [setCell_eq_setRow w g j cs t fr v h]
  exact setRow_heap w g cs _ t fr h
/-- As a slice of tokens stays where no block of its own is written. -/
theorem SlT.kept {w w' : World} {A : Option Addr} {c : Nat} {l : List T} (h : SlT w A c l) (hs : w.heap.size ≤ w'.heap.size) (hb : ∀ ad, A = some ad → w'.heap[ad.block]? = w.heap[ad.block]?) : SlT w' A c l := by
  refine ⟨h.len, h.le, h.cap, h.nil, fun ad ha hn => Nat.lt_of_lt_of_le (h.old ad ha hn) hs, fun ad ha k u hu => ?_⟩
  have hk : w'.heap[(ad.add k).block]? = w.heap[(ad.add k).block]? := by rw [add_same_block]; exact hb ad ha
  exact (World.cell?_of_block hk).trans (h.cell ad ha k u hu)
theorem PSt.kept {w w' : World} {P E : Nat} {s : S} (h : PSt w P E s) (hs : w.heap.size ≤ w'.heap.size) (hb : ∀ k, k ≤ P → w'.heap[k]? = w.heap[k]?) : PSt w' P E s := by
  obtain ⟨A, c, h1, h2, h3⟩ := h
  exact ⟨A, c, (hb P (Nat.le_refl _)).trans h1, h2.kept hs (fun ad ha => hb _ (Nat.le_of_lt (h3 ad ha))), h3⟩
theorem PSt.lt {w : World} {P E : Nat} {s : S} (h : PSt w P E s) : P < w.heap.size := by
  obtain ⟨A, c, h1, _⟩ := h
  exact (Array.getElem?_eq_some_iff.1 h1).1
theorem PSt.grown {w w' : World} {P E : Nat} {s : S} {g : Nat} (h : PSt w P E s) (hg : w.grownBy w' (some g)) (hP : P < g) : PSt w' P E s :=
  h.kept hg.size (fun k hk => hg.block k (by have := h.lt; omega) (by simp; omega))
theorem PSt.alloc {w : World} {P E : Nat} {s : S} (h : PSt w P E s) (o : Obj) : PSt (w.alloc o) P E s :=
  h.kept (by simp) (fun k hk => Below.heap_alloc w o k (by have := h.lt; omega))
theorem PSt.setCell {w : World} {P E : Nat} {s : S} (h : PSt w P E s) {a : Addr} (ha : P < a.block) (v : Value) : PSt (w.setCell a v) P E s :=
  h.kept (by simp [World.setCell]) (fun k hk => Below.heap_setCell w a v k (by omega))
theorem PSt.setRow {w : World} {P E : Nat} {s : S} (h : PSt w P E s) {g : Nat} (ha : P < g) (cs : Array Value) : PSt (w.setRow g cs) P E s :=
  h.kept (by simp) (fun k hk => setRow_other w g k cs (by omega))
/-- The first token, as it lies there. -/
theorem SlT.head {w : World} {A : Option Addr} {c : Nat} {t : T} {l : List T} (h : SlT w A c (t :: l)) : ∃ ad, A = some ad ∧ w.cell? ad = some (.int .i64 t.kind) ∧ w.cell? ⟨ad.block, ad.off + 1, none⟩ = some (.string (txt t.text)) ∧
    w.cell? ⟨ad.block, ad.off + 2, none⟩ = some (.int .i64 t.num) ∧ w.cell? ⟨ad.block, ad.off + 3, none⟩ = some (.int .i64 t.at_) := by
  obtain ⟨ad, r, rfl, hb, hr, p0, p1, p2, p3⟩ := SlT.at_ h (k := 0) (by simp)
  obtain rfl : t = r := by simpa using hr
  simp only [Nat.zero_mul, add_nothing] at p0 p1 p2 p3
  exact ⟨ad, rfl, p0, p1, p2, p3⟩
theorem SlT.second {w : World} {A : Option Addr} {c : Nat} {t u : T} {l : List T} (h : SlT w A c (t :: u :: l)) : ∃ ad, A = some ad ∧ w.cell? ⟨ad.block, ad.off + 4, none⟩ = some (.int .i64 u.kind) ∧ w.cell? ⟨ad.block, ad.off + 5, none⟩ = some (.string (txt u.text)) := by
  obtain ⟨ad, r, rfl, hb, hr, p0, p1, p2, p3⟩ := SlT.at_ h (k := 1) (by simp)
  obtain rfl : u = r := by simpa using hr
  simp only [Nat.one_mul] at p0 p1
  exact ⟨ad, rfl, p0, p1⟩

theorem ret_int_pl {k : IntKind} {a b : Int} (h : a = b) : Ending.returned (.int k a) = .returned (.int k b) := by rw [h]
theorem place_any (P E : Nat) (s : S) (w : World) (h : PSt w P E s) : Calls Tryz.prog 62 #[.pointer (some ⟨P, 0, none⟩)] w fun e w' => e = .returned (.int .i64 (s.place E)) ∧ w = w' := by
  obtain ⟨A, c, hp, hl, hlt⟩ := h
  obtain ⟨l, st⟩ := s
  simp only at hp hl
  have c0 := heap_cell hp 0
  have c1 := heap_cell hp 1
  simp at c0 c1
  cases l with
  | nil =>
    have HL := Lib.hid hl
    clear hl
    go_enter Tryz.func62, Tryz.ntmps62
    go_wp2
    go_ret
    exact ⟨rfl, rfl⟩
  | cons t l =>
    obtain ⟨ad, rfl, p0, p1, p2, p3⟩ := hl.head
    have HL := Lib.hid hl
    clear hl
    have hn : (((t :: l).length : Int) == 0) = false := by simp; omega
    go_enter Tryz.func62, Tryz.ntmps62
    go_wp2
    go_ret
    exact ⟨rfl, rfl⟩
end Go.Proofs.YtciiemomfniecaaGreatDoor
/-
  What the parser sees next: the contracts.
-/
namespace Go.Proofs.YtciiemomfniecaaGreatDoor
set_option maxRecDepth 100000

open Go.RowKit

theorem is_any (P E k : Nat) (s : S) (w : World) (h : PSt w P E s) : Calls Tryz.prog 140 #[.pointer (some ⟨P, 0, none⟩), .int .i64 k] w fun e w' => e = .returned (.bool (s.is k)) ∧ w = w' := by
  obtain ⟨A, c, hp, hl, hlt⟩ := h
  obtain ⟨l, st⟩ := s
  simp only at hp hl
  have c0 := heap_cell hp 0
  have c2 := heap_cell hp 2
  simp at c0 c2
  cases st with
  | true =>
    have HL := Lib.hid hl
    clear hl
    go_enter Tryz.func140, Tryz.ntmps140
    go_wp2
    go_ret
    exact ⟨rfl, rfl⟩
  | false =>
    cases l with
    | nil =>
      have HL := Lib.hid hl
      clear hl
      go_enter Tryz.func140, Tryz.ntmps140
      go_wp2
      go_ret
      exact ⟨rfl, rfl⟩
    | cons t l =>
      obtain ⟨ad, rfl, p0, p1, p2, p3⟩ := hl.head
      have HL := Lib.hid hl
      clear hl
      have hn : decide ((0 : Int) < ((t :: l).length : Int)) = true := by simp
      have hn2 : decide (0 < (t :: l).length) = true := by simp
      have hk : S.is ⟨t :: l, false⟩ k = ((t.kind : Int) == (k : Int)) := by
        rw [Bool.eq_iff_iff]; simp [S.is]; omega
      have HK := Lib.hid hk
      clear hk
      go_enter Tryz.func140, Tryz.ntmps140
      go_wp2
      go_ret
      exact ⟨by rw [HK.out]; rfl, rfl⟩
theorem sees_any (P E k : Nat) (x : ByteArray) (s : S) (w : World) (h : PSt w P E s) : Calls Tryz.prog 115 #[.pointer (some ⟨P, 0, none⟩), .int .i64 k, .string x] w fun e w' => e = .returned (.bool (s.sees k x.data.toList)) ∧ w = w' := by
  have hi := fun w h => is_any P E k s w h
  have h0 := h
  obtain ⟨A, c, hp, hl, hlt⟩ := h
  obtain ⟨l, st⟩ := s
  simp only at hp hl
  have c0 := heap_cell hp 0
  simp at c0
  have HI := Lib.hid (hi w h0)
  clear hi
  cases hb : S.is ⟨l, st⟩ k with
  | false =>
    have HS : Hid (S.sees ⟨l, st⟩ k x.data.toList = false) := Lib.hid (by simp [S.sees, hb])
    have HL := Lib.hid hl
    have HB := Lib.hid hb
    have H0 := Lib.hid h0
    clear hl hb h0
    go_enter Tryz.func115, Tryz.ntmps115
    go_wp2_with fail
    refine HI.out.mono ?_
    rw [HB.out]
    rintro e w' ⟨rfl, rfl⟩
    go_wp2
    go_ret
    exact ⟨by rw [HS.out]; rfl, rfl⟩
  | true =>
    obtain ⟨h1, t, r, h2, h3⟩ := S.is_l hb
    simp only at h1 h2
    subst h1 h2
    obtain ⟨ad, rfl, p0, p1, p2, p3⟩ := hl.head
    have HS : Hid (S.sees ⟨t :: r, false⟩ k x.data.toList = ((txt t.text).toList == x.toList)) := Lib.hid (by
      rw [S.sees, hb, Bool.true_and, Lib.toList_data, Lib.toList_data, txt_list]; rfl)
    have HL := Lib.hid hl
    have HB := Lib.hid hb
    have H0 := Lib.hid h0
    clear hl hb h0 h3
    have hn : decide ((0 : Int) < ((t :: r).length : Int)) = true := by simp
    have hn2 : decide (0 < (t :: r).length) = true := by simp
    go_enter Tryz.func115, Tryz.ntmps115
    go_wp2_with fail
    refine HI.out.mono ?_
    rw [HB.out]
    rintro e w' ⟨rfl, rfl⟩
    go_wp2
    go_ret
    exact ⟨by rw [HS.out]; rfl, rfl⟩
theorem inside_any (P E : Nat) (s : S) (w : World) (h : PSt w P E s) : Calls Tryz.prog 144 #[.pointer (some ⟨P, 0, none⟩)] w fun e w' => e = .returned (.bool s.inside) ∧ w = w' := by
  have HI := Lib.hid (sees_any P E 3 ⟨#[125]⟩ s w h)
  obtain ⟨A, c, hp, hl, hlt⟩ := h
  have c2 := heap_cell hp 2
  simp at c2
  have HL := Lib.hid hl
  clear hl
  cases hs : s.st with
  | true =>
    have HS : Hid (s.inside = false) := Lib.hid (by simp [S.inside, hs])
    rw [hs] at c2
    clear hp
    have H2 := Lib.hid hs
    clear hs
    go_enter Tryz.func144, Tryz.ntmps144
    go_wp2
    go_ret
    exact ⟨by rw [HS.out]; rfl, rfl⟩
  | false =>
    have HS : Hid (s.inside = !(s.sees 3 [125])) := Lib.hid (by simp [S.inside, hs])
    rw [hs] at c2
    clear hp
    have H2 := Lib.hid hs
    clear hs
    go_enter Tryz.func144, Tryz.ntmps144
    go_wp2_with fail
    refine HI.out.mono ?_
    rintro e w' ⟨rfl, rfl⟩
    go_wp2
    go_ret
    exact ⟨by rw [HS.out]; rfl, rfl⟩
end Go.Proofs.YtciiemomfniecaaGreatDoor
