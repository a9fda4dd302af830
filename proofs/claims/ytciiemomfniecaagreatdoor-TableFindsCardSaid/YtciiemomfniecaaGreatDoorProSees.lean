/-
  Tokens as they lie in memory: boxes of one token, results of which the first is one.
-/
import Derived.Test.YtciiemomfniecaaGreatDoorTokMark
import Derived.Great.BuildSlice
import Derived.Deep.WholeRow
import Derived.Laws.CopyOwn
import Derived.BigQuiet
import Derived.Test.YtciiemomfniecaaGreatDoorProMath
namespace Go.Proofs.YtciiemomfniecaaGreatDoor
set_option maxRecDepth 100000

open Go.RowKit

theorem results_row_tmp2 {P : Program} {fn : Func} {p u v : Tmp} {ty : TypeId} (h : fn.results = #[.cell p ty, .tmp u, .tmp v]) (tmps : Array Value) (w : World) (g : Nat) (t : TypeId) (cs : Array Value) (fr : Nat × Nat) (d : TypeDesc)
    (hp : tmps.getD p undef = .pointer (some ⟨g, 0, none⟩)) (hg : w.heap[g]? = some (.cells cs t fr))
    (hu : P.underlying ty = some d) (hd : (match d with | .struct _ | .array _ _ => true | _ => false) = true) (hi : (P.info? ty).map (·.size) = some cs.size) :
    (results fn tmps).run P w = .ok (.tuple #[.agg cs, tmps.getD u undef, tmps.getD v undef]) w := by
  have hp' : tmps[p]?.getD undef = .pointer (some ⟨g, 0, none⟩) := by simpa using hp
  simp [results, h, hp', asAddr, run_loadVar_row w g t ty cs fr d hg hu hd hi]
theorem results_row_tmp1 {P : Program} {fn : Func} {p u : Tmp} {ty : TypeId} (h : fn.results = #[.cell p ty, .tmp u]) (tmps : Array Value) (w : World) (g : Nat) (t : TypeId) (cs : Array Value) (fr : Nat × Nat) (d : TypeDesc)
    (hp : tmps.getD p undef = .pointer (some ⟨g, 0, none⟩)) (hg : w.heap[g]? = some (.cells cs t fr))
    (hu : P.underlying ty = some d) (hd : (match d with | .struct _ | .array _ _ => true | _ => false) = true) (hi : (P.info? ty).map (·.size) = some cs.size) :
    (results fn tmps).run P w = .ok (.tuple #[.agg cs, tmps.getD u undef]) w := by
  have hp' : tmps[p]?.getD undef = .pointer (some ⟨g, 0, none⟩) := by simpa using hp
  simp [results, h, hp', asAddr, run_loadVar_row w g t ty cs fr d hg hu hd hi]

theorem own_mono {w : World} {base base' : Nat} {e : TypeId} {size : Nat} {v : Value} {n : Nat} {xs : List Value} (h : w.ownsRow base e size v n xs) (hb : base' ≤ base) : w.ownsRow base' e size v n xs := by
  rcases h with ⟨hl, ⟨rfl, rfl⟩ | ⟨g, cap, cur, rfl, h1, h2⟩⟩
  · exact ⟨hl, .inl ⟨rfl, rfl⟩⟩
  · exact ⟨hl, .inr ⟨g, cap, cur, rfl, Nat.le_trans hb h1, h2⟩⟩
/-- A row of the call's own stays where nothing old turns. -/
theorem own_below {w w' : World} {base : Nat} {e : TypeId} {size : Nat} {v : Value} {n : Nat} {xs : List Value} (h : w.ownsRow base e size v n xs) (hb : Below w.heap.size w w') : w'.ownsRow base e size v n xs := by
  rcases h with ⟨hl, ⟨rfl, rfl⟩ | ⟨g, cap, cur, rfl, h1, h2, h3⟩⟩
  · exact ⟨hl, .inl ⟨rfl, rfl⟩⟩
  · exact ⟨hl, .inr ⟨g, cap, cur, rfl, h1, (hb.block g (Array.getElem?_eq_some_iff.1 h2).1).trans h2, h3⟩⟩
theorem bs_snoc (a : List UInt8) (b : UInt8) : bs a ++ [Value.int .u8 (b.toNat : Int)] = bs (a ++ [b]) := by rw [bs_append]; rfl
/-- A box below a base stays where a row from that base on is written. -/
theorem box_grown {w w' : World} {g base : Nat} {o : Obj} {row : Option Nat} (h : w.heap[g]? = some o) (hg : w.grownBy w' row) (hr : ∀ k, row = some k → base ≤ k) (hlt : g < base) : w'.heap[g]? = some o := by
  have hlt2 := (Array.getElem?_eq_some_iff.1 h).1
  rw [hg.block g hlt2 (fun e => by have := hr g e.symm; omega)]
  exact h
theorem infoTok : (Tryz.prog.info? 155).map (·.size) = some 4 := by kernel_rfl
def TokV (kind : Nat) (text : ByteArray) (n : Int) (p : Nat) : Value := .agg #[.int .i64 kind, .string text, .int .i64 n, .int .i64 p]

/-- A token is stored where one lies. -/
theorem wpList_store_tok {ops : Array Oper} {rest : List Oper} {o : Oper} {a : Act} {w : World} {Q : Exit → Act → World → Prop} (hgd : o.guard = none) (x y : Operand) (ho : o.op = .store 155 x y)
    (hd : o.dst = none) (g : Nat) (k1 n1 p1 k0 n0 p0 : Int) (t1 t0 : ByteArray) (hx : a.eval x = .pointer (some ⟨g, 0, none⟩)) (hy : a.eval y = .agg #[.int .i64 k1, .string t1, .int .i64 n1, .int .i64 p1])
    (t : TypeId) (hg : w.heap[g]? = some (.cells #[.int .i64 k0, .string t0, .int .i64 n0, .int .i64 p0] t (0, 0)))
    (h : wpList Tryz.prog ops Q rest a (w.setRow g #[.int .i64 k1, .string t1, .int .i64 n1, .int .i64 p1])) : wpList Tryz.prog ops Q (o :: rest) a w :=
  wpList_store_rowTo hgd 155 x y ho hd g _ hx hy t _ hg infoTok rfl (by simp [Value.oneCell']) h
theorem results_tok {fn : Func} {p u v : Tmp} (h : fn.results = #[.cell p 155, .tmp u, .tmp v]) (tmps : Array Value) (w : World) (g : Nat) (t : TypeId) (k n q : Int) (s : ByteArray) (fr : Nat × Nat)
    (hp : tmps.getD p undef = .pointer (some ⟨g, 0, none⟩)) (hg : w.heap[g]? = some (.cells #[.int .i64 k, .string s, .int .i64 n, .int .i64 q] t fr)) :
    (results fn tmps).run Tryz.prog w = .ok (.tuple #[.agg #[.int .i64 k, .string s, .int .i64 n, .int .i64 q], tmps.getD u undef, tmps.getD v undef]) w :=
  results_row_tmp2 h tmps w g t _ fr _ hp hg Tryz.underlying155 rfl infoTok
theorem results_tok1 {fn : Func} {p u : Tmp} (h : fn.results = #[.cell p 155, .tmp u]) (tmps : Array Value) (w : World) (g : Nat) (t : TypeId) (k n q : Int) (s : ByteArray) (fr : Nat × Nat)
    (hp : tmps.getD p undef = .pointer (some ⟨g, 0, none⟩)) (hg : w.heap[g]? = some (.cells #[.int .i64 k, .string s, .int .i64 n, .int .i64 q] t fr)) :
    (results fn tmps).run Tryz.prog w = .ok (.tuple #[.agg #[.int .i64 k, .string s, .int .i64 n, .int .i64 q], tmps.getD u undef]) w :=
  results_row_tmp1 h tmps w g t _ fr _ hp hg Tryz.underlying155 rfl infoTok

/-- What is told of a token that begins at a place. -/
def SV (o : Option Tk) (p : Nat) : Value := match o with
  | none => .tuple #[TokV 0 ⟨#[]⟩ 0 0, .int .i64 0, .bool false]
  | some t => .tuple #[TokV t.kind (txt t.text) t.num p, .int .i64 ((p + t.more + 1 : Nat) : Int), .bool true]
def strT (l : List UInt8) : Option Tk := (strB 0 l).map fun x => ⟨2, x.1, 0, x.2⟩
end Go.Proofs.YtciiemomfniecaaGreatDoor
/-
  Slices of tokens that read as lists; the contract of the function that holds two of them against each other.
-/
namespace Go.Proofs.YtciiemomfniecaaGreatDoor
set_option maxRecDepth 100000

open Go.RowKit

/-- A token's cells. -/
def TC (t : T) : List Value := [.int .i64 t.kind, .string (txt t.text), .int .i64 t.num, .int .i64 t.at_]
def tv (l : List T) : List Value := l.flatMap TC
theorem tv_append (a b : List T) : tv (a ++ b) = tv a ++ tv b := by simp [tv]
theorem tv_cons (r : T) (l : List T) : tv (r :: l) = TC r ++ tv l := by simp [tv]
theorem tv_length (a : List T) : (tv a).length = a.length * 4 := by
  induction a with
  | nil => rfl
  | cons r a ih => rw [tv_cons, List.length_append, ih]; simp [TC]; omega
theorem tv_get : ∀ (l : List T) (k j : Nat) (r : T), l[k]? = some r → j < 4 → (tv l)[k * 4 + j]? = (TC r)[j]?
  | [], k, j, r, h, _ => by simp at h
  | x :: l, 0, j, r, h, hj => by
    obtain rfl : x = r := by simpa using h
    rw [tv_cons, Nat.zero_mul, Nat.zero_add, List.getElem?_append_left (by simp [TC]; omega)]
  | x :: l, k + 1, j, r, h, hj => by
    rw [tv_cons, List.getElem?_append_right (by simp [TC]; omega)]
    rw [show (k + 1) * 4 + j - (TC x).length = k * 4 + j by simp [TC]; omega]
    exact tv_get l k j r (by simpa using h) hj
theorem tv_one (a : List T) : ∀ u ∈ tv a, u.oneCell' = true := by
  intro u hu
  obtain ⟨r, _, hr⟩ := List.mem_flatMap.1 hu
  simp only [TC, List.mem_cons, List.not_mem_nil, or_false] at hr
  rcases hr with rfl | rfl | rfl | rfl <;> rfl
/-- A slice of tokens that reads as the list l. -/
def SlT (w : World) (A : Option Addr) (c : Nat) (l : List T) : Prop := Sl w A l.length c 4 (tv l)
theorem SlT.on {w w' : World} {A : Option Addr} {c : Nat} {l : List T} (h : SlT w A c l) (hb : Below w.heap.size w w') : SlT w' A c l := Sl.on h hb
theorem SlT.of_own {w : World} {base : Nat} {e : TypeId} {v : Value} {l : List T} (h : w.ownsRow base e 4 v l.length (tv l)) : ∃ A c, v = .slice A l.length c ∧ SlT w A c l := Sl.of_own h
/-- The token at k: its address, and its cells. -/
theorem SlT.at_ {w : World} {A : Option Addr} {c : Nat} {l : List T} (h : SlT w A c l) {k : Nat} (hk : k < l.length) : ∃ ad r, A = some ad ∧ ad.block < w.heap.size ∧ l[k]? = some r ∧
    w.cell? (ad.add (k * 4)) = some (.int .i64 r.kind) ∧ w.cell? ⟨(ad.add (k * 4)).block, (ad.add (k * 4)).off + 1, none⟩ = some (.string (txt r.text)) ∧ w.cell? ⟨(ad.add (k * 4)).block, (ad.add (k * 4)).off + 2, none⟩ = some (.int .i64 r.num) ∧
    w.cell? ⟨(ad.add (k * 4)).block, (ad.add (k * 4)).off + 3, none⟩ = some (.int .i64 r.at_) := by
  obtain ⟨ad, rfl, hb, hcell⟩ := Sl.there h (by omega)
  have hg : l[k]? = some l[k] := List.getElem?_eq_getElem hk
  have hadd : ∀ j : Nat, 0 < j → (⟨(ad.add (k * 4)).block, (ad.add (k * 4)).off + j, none⟩ : Addr) = ad.add (k * 4 + j) := fun j hj => by
    rw [← add_twice]
    cases j with
    | zero => omega
    | succ j => simp [Addr.add]
  refine ⟨ad, l[k], rfl, hb, hg, ?_, ?_, ?_, ?_⟩
  · exact hcell (k * 4) _ (by have := tv_get l k 0 _ hg (by omega); rw [Nat.add_zero] at this; rw [this]; rfl)
  · rw [hadd 1 (by omega)]; exact hcell _ _ (by rw [tv_get l k 1 _ hg (by omega)]; rfl)
  · rw [hadd 2 (by omega)]; exact hcell _ _ (by rw [tv_get l k 2 _ hg (by omega)]; rfl)
  · rw [hadd 3 (by omega)]; exact hcell _ _ (by rw [tv_get l k 3 _ hg (by omega)]; rfl)
theorem ttake_ne {l m : List T} {k : Nat} {x y : T} (hx : l[k]? = some x) (hy : m[k]? = some y) (hne : x ≠ y) : l ≠ m := by
  rintro rfl
  rw [hx] at hy
  exact hne (by injection hy)
theorem ttake_next {l m : List T} {k : Nat} {x : T} (hx : l[k]? = some x) (hy : m[k]? = some x) (h : l.take k = m.take k) : l.take (k + 1) = m.take (k + 1) := by
  rw [List.take_add_one, List.take_add_one, h, hx, hy]
instance : DecidableEq T := fun a b => by
  obtain ⟨a1, a2, a3, a4⟩ := a
  obtain ⟨b1, b2, b3, b4⟩ := b
  exact decidable_of_iff (a1 = b1 ∧ a2 = b2 ∧ a3 = b3 ∧ a4 = b4) (by simp)
theorem txt_ne {a b : List UInt8} (h : a ≠ b) : ((txt a).toList == (txt b).toList) = false := by
  rw [beq_eq_false_iff_ne, Lib.toList_data, Lib.toList_data, txt_list, txt_list]; exact h

end Go.Proofs.YtciiemomfniecaaGreatDoor
/-
  The parser as it lies in memory; the contracts of what only looks at it.
-/
namespace Go.Proofs.YtciiemomfniecaaGreatDoor
set_option maxRecDepth 100000

open Go.RowKit

/-- The parser's block: the tokens that are left, how many bytes the text has, whether it is stuck. -/
def PSt (w : World) (P E : Nat) (s : S) : Prop :=
  ∃ A c, w.heap[P]? = some (.cells #[.slice A s.l.length c, .int .i64 E, .bool s.st] 116 (0, 0)) ∧ SlT w A c s.l ∧ (∀ ad, A = some ad → ad.block < P)
theorem heap_cell {w : World} {g : Nat} {cs : Array Value} {t : TypeId} {fr : Nat × Nat} (h : w.heap[g]? = some (.cells cs t fr)) (j : Nat) : w.cell? ⟨g, j, none⟩ = cs[j]? := by simp [World.cell?, h]
theorem heap_free {w : World} {g : Nat} {cs : Array Value} {t : TypeId} (h : w.heap[g]? = some (.cells cs t (0, 0))) (j : Nat) : w.frozen? ⟨g, j, none⟩ = false := by simp [World.frozen?, h]
theorem heap_setCell_same {w : World} {g j : Nat} {cs : Array Value} {t : TypeId} {fr : Nat × Nat} (h : w.heap[g]? = some (.cells cs t fr)) (v : Value) : (w.setCell ⟨g, j, none⟩ v).heap[g]? = some (.cells (cs.setIfInBounds j v) t fr) := by
  rw [setCell_eq_setRow w g j cs t fr v h]
  exact setRow_heap w g cs _ t fr h
/-- As a slice of tokens stays where no block of its own is written. -/
theorem SlT.kept {w w' : World} {A : Option Addr} {c : Nat} {l : List T} (h : SlT w A c l) (hs : w.heap.size ≤ w'.heap.size) (hb : ∀ ad, A = some ad → w'.heap[ad.block]? = w.heap[ad.block]?) : SlT w' A c l := by
  refine ⟨h.len, h.le, h.cap, h.nil, fun ad ha hn => Nat.lt_of_lt_of_le (h.old ad ha hn) hs, fun ad ha k u hu => ?_⟩
  have hk : w'.heap[(ad.add k).block]? = w.heap[(ad.add k).block]? := by rw [add_same_block]; exact hb ad ha
  exact (World.cell?_of_block hk).trans (h.cell ad ha k u hu)
theorem PSt.kept {w w' : World} {P E : Nat} {s : S} (h : PSt w P E s) (hs : w.heap.size ≤ w'.heap.size) (hb : ∀ k, k ≤ P → w'.heap[k]? = w.heap[k]?) : PSt w' P E s := by
  obtain ⟨A, c, h1, h2, h3⟩ := h
  exact ⟨A, c, (hb P (Nat.le_refl _)).trans h1, h2.kept hs (fun ad ha => hb _ (Nat.le_of_lt (h3 ad ha))), h3⟩
theorem PSt.lt {w : World} {P E : Nat} {s : S} (h : PSt w P E s) : P < w.heap.size := by
  obtain ⟨A, c, h1, _⟩ := h
  exact (Array.getElem?_eq_some_iff.1 h1).1
theorem PSt.grown {w w' : World} {P E : Nat} {s : S} {g : Nat} (h : PSt w P E s) (hg : w.grownBy w' (some g)) (hP : P < g) : PSt w' P E s :=
  h.kept hg.size (fun k hk => hg.block k (by have := h.lt; omega) (by simp; omega))
theorem PSt.alloc {w : World} {P E : Nat} {s : S} (h : PSt w P E s) (o : Obj) : PSt (w.alloc o) P E s :=
  h.kept (by simp) (fun k hk => Below.heap_alloc w o k (by have := h.lt; omega))
theorem PSt.setCell {w : World} {P E : Nat} {s : S} (h : PSt w P E s) {a : Addr} (ha : P < a.block) (v : Value) : PSt (w.setCell a v) P E s :=
  h.kept (by simp [World.setCell]) (fun k hk => Below.heap_setCell w a v k (by omega))
theorem PSt.setRow {w : World} {P E : Nat} {s : S} (h : PSt w P E s) {g : Nat} (ha : P < g) (cs : Array Value) : PSt (w.setRow g cs) P E s :=
  h.kept (by simp) (fun k hk => setRow_other w g k cs (by omega))
/-- The first token, as it lies there. -/
theorem SlT.head {w : World} {A : Option Addr} {c : Nat} {t : T} {l : List T} (h : SlT w A c (t :: l)) : ∃ ad, A = some ad ∧ w.cell? ad = some (.int .i64 t.kind) ∧ w.cell? ⟨ad.block, ad.off + 1, none⟩ = some (.string (txt t.text)) ∧
    w.cell? ⟨ad.block, ad.off + 2, none⟩ = some (.int .i64 t.num) ∧ w.cell? ⟨ad.block, ad.off + 3, none⟩ = some (.int .i64 t.at_) := by
  obtain ⟨ad, r, rfl, hb, hr, p0, p1, p2, p3⟩ := SlT.at_ h (k := 0) (by simp)
  obtain rfl : t = r := by simpa using hr
  simp only [Nat.zero_mul, add_nothing] at p0 p1 p2 p3
  exact ⟨ad, rfl, p0, p1, p2, p3⟩
theorem SlT.second {w : World} {A : Option Addr} {c : Nat} {t u : T} {l : List T} (h : SlT w A c (t :: u :: l)) : ∃ ad, A = some ad ∧ w.cell? ⟨ad.block, ad.off + 4, none⟩ = some (.int .i64 u.kind) ∧ w.cell? ⟨ad.block, ad.off + 5, none⟩ = some (.string (txt u.text)) := by
  obtain ⟨ad, r, rfl, hb, hr, p0, p1, p2, p3⟩ := SlT.at_ h (k := 1) (by simp)
  obtain rfl : u = r := by simpa using hr
  simp only [Nat.one_mul] at p0 p1
  exact ⟨ad, rfl, p0, p1⟩

theorem ret_int_pl {k : IntKind} {a b : Int} (h : a = b) : Ending.returned (.int k a) = .returned (.int k b) := by rw [h]
theorem place_any (P E : Nat) (s : S) (w : World) (h : PSt w P E s) : Calls Tryz.prog 62 #[.pointer (some ⟨P, 0, none⟩)] w fun e w' => e = .returned (.int .i64 (s.place E)) ∧ w = w' := by
  obtain ⟨A, c, hp, hl, hlt⟩ := h
  obtain ⟨l, st⟩ := s
  simp only at hp hl
  have c0 := heap_cell hp 0
  have c1 := heap_cell hp 1
  simp at c0 c1
  cases l with
  | nil =>
    have HL := Lib.hid hl
    clear hl
    go_enter Tryz.func62, Tryz.ntmps62
    go_wp2
    go_ret
    exact ⟨rfl, rfl⟩
  | cons t l =>
    obtain ⟨ad, rfl, p0, p1, p2, p3⟩ := hl.head
    have HL := Lib.hid hl
    clear hl
    have hn : (((t :: l).length : Int) == 0) = false := by simp; omega
    go_enter Tryz.func62, Tryz.ntmps62
    go_wp2
    go_ret
    exact ⟨rfl, rfl⟩
end Go.Proofs.YtciiemomfniecaaGreatDoor
/-
  What the parser sees next: the contracts.
-/
namespace Go.Proofs.YtciiemomfniecaaGreatDoor
set_option maxRecDepth 100000

open Go.RowKit

theorem is_any (P E k : Nat) (s : S) (w : World) (h : PSt w P E s) : Calls Tryz.prog 140 #[.pointer (some ⟨P, 0, none⟩), .int .i64 k] w fun e w' => e = .returned (.bool (s.is k)) ∧ w = w' := by
  obtain ⟨A, c, hp, hl, hlt⟩ := h
  obtain ⟨l, st⟩ := s
  simp only at hp hl
  have c0 := heap_cell hp 0
  have c2 := heap_cell hp 2
  simp at c0 c2
  cases st with
  | true =>
    have HL := Lib.hid hl
    clear hl
    go_enter Tryz.func140, Tryz.ntmps140
    go_wp2
    go_ret
    exact ⟨rfl, rfl⟩
  | false =>
    cases l with
    | nil =>
      have HL := Lib.hid hl
      clear hl
      go_enter Tryz.func140, Tryz.ntmps140
      go_wp2
      go_ret
      exact ⟨rfl, rfl⟩
    | cons t l =>
      obtain ⟨ad, rfl, p0, p1, p2, p3⟩ := hl.head
      have HL := Lib.hid hl
      clear hl
      have hn : decide ((0 : Int) < ((t :: l).length : Int)) = true := by simp
      have hn2 : decide (0 < (t :: l).length) = true := by simp
      have hk : S.is ⟨t :: l, false⟩ k = ((t.kind : Int) == (k : Int)) := by
        rw [Bool.eq_iff_iff]; simp [S.is]; omega
      have HK := Lib.hid hk
      clear hk
      go_enter Tryz.func140, Tryz.ntmps140
      go_wp2
      go_ret
      exact ⟨by rw [HK.out]; rfl, rfl⟩
theorem sees_any (P E k : Nat) (x : ByteArray) (s : S) (w : World) (h : PSt w P E s) : Calls Tryz.prog 115 #[.pointer (some ⟨P, 0, none⟩), .int .i64 k, .string x] w fun e w' => e = .returned (.bool (s.sees k x.data.toList)) ∧ w = w' := by
  have hi := fun w h => is_any P E k s w h
  have h0 := h
  obtain ⟨A, c, hp, hl, hlt⟩ := h
  obtain ⟨l, st⟩ := s
  simp only at hp hl
  have c0 := heap_cell hp 0
  simp at c0
  have HI := Lib.hid (hi w h0)
  clear hi
  cases hb : S.is ⟨l, st⟩ k with
  | false =>
    have HS : Hid (S.sees ⟨l, st⟩ k x.data.toList = false) := Lib.hid (by simp [S.sees, hb])
    have HL := Lib.hid hl
    have HB := Lib.hid hb
    have H0 := Lib.hid h0
    clear hl hb h0
    go_enter Tryz.func115, Tryz.ntmps115
    go_wp2_with fail
    refine HI.out.mono ?_
    rw [HB.out]
    rintro e w' ⟨rfl, rfl⟩
    go_wp2
    go_ret
    exact ⟨by rw [HS.out]; rfl, rfl⟩
  | true =>
    obtain ⟨h1, t, r, h2, h3⟩ := S.is_l hb
    simp only at h1 h2
    subst h1 h2
    obtain ⟨ad, rfl, p0, p1, p2, p3⟩ := hl.head
    have HS : Hid (S.sees ⟨t :: r, false⟩ k x.data.toList = ((txt t.text).toList == x.toList)) := Lib.hid (by
      rw [S.sees, hb, Bool.true_and, Lib.toList_data, Lib.toList_data, txt_list]; rfl)
    have HL := Lib.hid hl
    have HB := Lib.hid hb
    have H0 := Lib.hid h0
    clear hl hb h0 h3
    have hn : decide ((0 : Int) < ((t :: r).length : Int)) = true := by simp
    have hn2 : decide (0 < (t :: r).length) = true := by simp
    go_enter Tryz.func115, Tryz.ntmps115
    go_wp2_with fail
    refine HI.out.mono ?_
    rw [HB.out]
    rintro e w' ⟨rfl, rfl⟩
    go_wp2
    go_ret
    exact ⟨by rw [HS.out]; rfl, rfl⟩
theorem inside_any (P E : Nat) (s : S) (w : World) (h : PSt w P E s) : Calls Tryz.prog 144 #[.pointer (some ⟨P, 0, none⟩)] w fun e w' => e = .returned (.bool s.inside) ∧ w = w' := by
  have HI := Lib.hid (sees_any P E 3 ⟨#[125]⟩ s w h)
  obtain ⟨A, c, hp, hl, hlt⟩ := h
  have c2 := heap_cell hp 2
  simp at c2
  have HL := Lib.hid hl
  clear hl
  cases hs : s.st with
  | true =>
    have HS : Hid (s.inside = false) := Lib.hid (by simp [S.inside, hs])
    rw [hs] at c2
    clear hp
    have H2 := Lib.hid hs
    clear hs
    go_enter Tryz.func144, Tryz.ntmps144
    go_wp2
    go_ret
    exact ⟨by rw [HS.out]; rfl, rfl⟩
  | false =>
    have HS : Hid (s.inside = !(s.sees 3 [125])) := Lib.hid (by simp [S.inside, hs])
    rw [hs] at c2
    clear hp
    have H2 := Lib.hid hs
    clear hs
    go_enter Tryz.func144, Tryz.ntmps144
    go_wp2_with fail
    refine HI.out.mono ?_
    rintro e w' ⟨rfl, rfl⟩
    go_wp2
    go_ret
    exact ⟨by rw [HS.out]; rfl, rfl⟩
end Go.Proofs.YtciiemomfniecaaGreatDoor
