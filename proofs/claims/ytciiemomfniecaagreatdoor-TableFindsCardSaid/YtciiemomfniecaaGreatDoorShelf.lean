/-
  Texts that are made of pieces: blanks, signs, and names and numbers with a blank or a sign behind them; what is told of their tokens.
-/
import Derived.Test.YtciiemomfniecaaGreatDoorTokPlaces
import Derived.Test.YtciiemomfniecaaGreatDoorBytes
import Derived.Maps.OwnSet
import Derived.Test.YtciiemomfniecaaGreatDoorProMath
import Derived.Lib.LaidTab
import Derived.Shelf.Small.Strs
import Derived.Shelf.Strconv.Itoa4
import Derived.Shelf.Strconv.ParseIntPublic10
import Derived.Shelf.Strconv.ErrVarParseInt
import Derived.Shelf.Strconv.Clone
import Derived.Shelf.LaysM
import Derived.Shelf.LaysC
import Derived.Test.YtciiemomfniecaaGreatDoorProg
namespace Go.Proofs.YtciiemomfniecaaGreatDoor
set_option maxRecDepth 100000

def nameOK (x : List UInt8) : Prop := (∃ c r, x = c :: r ∧ isFirst c = true ∧ ∀ d ∈ r, isNext d = true) ∧ x.length ≤ 1500
def inr (n : Int) : Prop := -9223372036854775808 ≤ n ∧ n ≤ 9223372036854775807
/-- A token of a text. -/
def tokOK (t : T) : Prop := (t.kind = 0 → nameOK t.text) ∧ (t.kind = 1 → inr t.num)
theorem lex_tokOK : ∀ (l : List UInt8) (k p : Nat), l.length ≤ 1500 → ∀ t ∈ (lex Lib.itoa k p l).1, tokOK t
  | [], k, p, _, t, h => by cases k <;> simp [lex] at h
  | c :: r, k + 1, p, hl, t, h => by
    simp only [lex] at h
    exact lex_tokOK r k (p + 1) (by simp at hl; omega) t h
  | c :: r, 0, p, hl, t, h => by
    have hl' : r.length ≤ 1500 := by simp at hl; omega
    simp only [lex] at h
    split at h
    · exact lex_tokOK r _ (p + 1) hl' t h
    · split at h
      · simp at h
      · rename_i x hx
        rcases List.mem_cons.1 h with rfl | h
        · have s1 := span_le isNext r
          simp only [tk] at hx
          by_cases h1 : isFirst c = true
          · rw [if_pos h1] at hx
            injection hx with hx
            subst hx
            refine ⟨fun _ => ⟨⟨c, _, rfl, h1, span_all isNext r⟩, ?_⟩, fun h => by simp at h⟩
            simp only [List.length_cons, List.length_take, Nat.min_eq_left s1]
            simp at hl
            omega
          · rw [if_neg h1] at hx
            by_cases h2 : (isDigit c || c == 45) = true
            · rw [if_pos h2] at hx
              simp only [Option.map_eq_some_iff] at hx
              obtain ⟨n, hn, rfl⟩ := hx
              exact ⟨fun h => by simp at h, fun _ => (numOf_some hn).2⟩
            · rw [if_neg h2] at hx
              by_cases h3 : (c == 34) = true
              · rw [if_pos h3] at hx
                simp only [Option.map_eq_some_iff] at hx
                obtain ⟨y, _, rfl⟩ := hx
                exact ⟨fun h => by simp at h, fun h => by simp at h⟩
              · rw [if_neg h3] at hx
                split at hx
                · injection hx with hx
                  subst hx
                  exact ⟨fun h => by simp at h, fun h => by simp at h⟩
                · cases hx
        · exact lex_tokOK r x.more (p + 1) hl' t h

/-! ### Pieces -/
inductive Pce where
  | bl (c : UInt8)
  | sg (c : UInt8)
  | nb (x : List UInt8)
  | ns (x : List UInt8) (c : UInt8)
  | us (n : Int) (c : UInt8)
def Pce.ok : Pce → Prop
  | .bl c => isBlank c = true
  | .sg c => isSign c = true
  | .nb x => nameOK x
  | .ns x c => nameOK x ∧ isSign c = true
  | .us n c => inr n ∧ isSign c = true
def Pce.byt : Pce → List UInt8
  | .bl c => [c]
  | .sg c => [c]
  | .nb x => x ++ [32]
  | .ns x c => x ++ [c]
  | .us n c => Lib.itoa n ++ [c]
def tSg (c : UInt8) : T := ⟨3, [c], 0, 0⟩
def tNm (x : List UInt8) : T := ⟨0, x, 0, 0⟩
def tNu (n : Int) : T := ⟨1, Lib.itoa n, n, 0⟩
def Pce.tks : Pce → List T
  | .bl _ => []
  | .sg c => [tSg c]
  | .nb x => [tNm x]
  | .ns x c => [tNm x, tSg c]
  | .us n c => [tNu n, tSg c]
def bytP (l : List Pce) : List UInt8 := l.flatMap Pce.byt
def tksP (l : List Pce) : List T := l.flatMap Pce.tks
def unAt (t : T) : T := { t with at_ := 0 }
/-- The tokens, but for where they are, and that there are no others. -/
def Lexed (l : List UInt8) (X : List T) : Prop := ∀ p, (lex Lib.itoa 0 p l).1.map unAt = X ∧ (lex Lib.itoa 0 p l).2 = none
theorem Lexed.nil : Lexed [] [] := fun p => by simp [lex]
theorem ws_hard {c : UInt8} (h1 : isBlank c = false) (h2 : c ≠ 47) (r : List UInt8) : ws false (c :: r) = 0 := by
  have h3 : (c == 47) = false := by simpa using h2
  simp [ws, h1, h3]
theorem Lexed.bl {c : UInt8} (h : isBlank c = true) {l : List UInt8} {X : List T} (hl : Lexed l X) : Lexed (c :: l) X := by
  intro p
  have e : lex Lib.itoa 0 p (c :: l) = lex Lib.itoa 0 (p + 1) l := by
    rw [lex_ws, show c :: l = [c] ++ l from rfl, ws_blanks [c] (by simpa using h), List.length_singleton]
    rw [show ([c] ++ l).drop (1 + ws false l) = l.drop (ws false l) by rw [Nat.add_comm]; rfl, ← Nat.add_assoc, ← lex_ws]
  rw [e]
  exact hl (p + 1)
theorem Lexed.tok {y : List UInt8} {k : Nat} {n : Int} {l : List UInt8} {X : List T} (hw : ws false (y ++ l) = 0) (hy : y ≠ []) (ht : tk Lib.itoa (y ++ l) = some ⟨k, y, n, y.length - 1⟩) (hl : Lexed l X) : Lexed (y ++ l) (⟨k, y, n, 0⟩ :: X) := by
  intro p
  have hpos : 0 < y.length := List.length_pos_iff.2 hy
  rw [lex_some hw ht]
  simp only
  rw [show y.length - 1 + 1 = y.length by omega, List.drop_left]
  obtain ⟨h1, h2⟩ := hl (p + (y.length - 1) + 1)
  exact ⟨by rw [List.map_cons, h1]; rfl, h2⟩
theorem sign_hard {c : UInt8} (h : isSign c = true) : isBlank c = false ∧ c ≠ 47 ∧ isFirst c = false ∧ (isDigit c || c == 45) = false ∧ (c == 34) = false ∧ isNext c = false ∧ isDigit c = false := by
  simp only [isSign, List.contains_eq_mem, List.mem_cons, List.not_mem_nil, or_false, decide_eq_true_eq] at h
  rcases h with rfl | rfl | rfl | rfl | rfl | rfl | rfl | rfl | rfl | rfl | rfl | rfl <;> decide
theorem Lexed.sg {c : UInt8} (h : isSign c = true) {l : List UInt8} {X : List T} (hl : Lexed l X) : Lexed (c :: l) (tSg c :: X) := by
  obtain ⟨h1, h2, h3, h4, h5, _, _⟩ := sign_hard h
  exact Lexed.tok (y := [c]) (ws_hard h1 h2 l) (by simp) (by simp [tk, h3, h4, h5, h]) hl
theorem first_hard {c : UInt8} (h : isFirst c = true) : isBlank c = false ∧ c ≠ 47 := by
  simp only [isFirst, Bool.or_eq_true, Bool.and_eq_true, decide_eq_true_eq, beq_iff_eq] at h
  constructor
  · simp only [isBlank, Bool.or_eq_false_iff, beq_eq_false_iff_ne]
    refine ⟨⟨⟨?_, ?_⟩, ?_⟩, ?_⟩ <;> (rintro rfl; simp at h)
  · rintro rfl; simp at h
theorem Lexed.nm {x : List UInt8} (h : nameOK x) {d : UInt8} (hd : isNext d = false) {l : List UInt8} {X : List T} (hl : Lexed (d :: l) X) : Lexed (x ++ d :: l) (tNm x :: X) := by
  obtain ⟨⟨c, r, rfl, hc, hr⟩, _⟩ := h
  obtain ⟨h1, h2⟩ := first_hard hc
  have hs : span isNext (r ++ d :: l) = r.length := by rw [span_app isNext d hd, span_whole isNext r hr]
  refine Lexed.tok (y := c :: r) (ws_hard h1 h2 _) (by simp) ?_ hl
  simp [tk, hc, hs]
theorem itoa_form (n : Int) : ∃ c r, Lib.itoa n = c :: r ∧ (c = 45 ∨ isDigit c = true) ∧ ∀ d ∈ r, isDigit d = true := by
  by_cases hn : n < 0
  · exact ⟨45, _, itoa_neg n hn, .inl rfl, dec_digits _⟩
  · rw [itoa_nonneg n (by omega)]
    have hd := dec_digits n.toNat
    cases hdd : Lib.decDigits n.toNat with
    | nil => exact absurd hdd (dec_ne _)
    | cons c r =>
      rw [hdd] at hd
      exact ⟨c, r, rfl, .inr (hd c (by simp)), fun d h => hd d (by simp [h])⟩
theorem num_hard {c : UInt8} (h : c = 45 ∨ isDigit c = true) : isBlank c = false ∧ c ≠ 47 ∧ isFirst c = false ∧ (isDigit c || c == 45) = true := by
  rcases h with rfl | h
  · decide
  · simp only [isDigit, Bool.and_eq_true, decide_eq_true_eq] at h
    refine ⟨?_, ?_, ?_, ?_⟩
    · simp only [isBlank, Bool.or_eq_false_iff, beq_eq_false_iff_ne]
      refine ⟨⟨⟨?_, ?_⟩, ?_⟩, ?_⟩ <;> (rintro rfl; simp at h)
    · rintro rfl; simp at h
    · have h95 : (c == 95) = false := by
        rw [beq_eq_false_iff_ne]; rintro rfl; simp at h
      simp only [isFirst, h95, Bool.or_false, Bool.or_eq_false_iff, Bool.and_eq_false_iff, decide_eq_false_iff_not]
      omega
    · simp [isDigit, h]
theorem Lexed.nu {n : Int} (h : inr n) {d : UInt8} (hd : isDigit d = false) {l : List UInt8} {X : List T} (hl : Lexed (d :: l) X) : Lexed (Lib.itoa n ++ d :: l) (tNu n :: X) := by
  obtain ⟨c, r, hc, hcc, hr⟩ := itoa_form n
  obtain ⟨h1, h2, h3, h4⟩ := num_hard hcc
  have hn := numOf_itoa h.1 h.2
  unfold tNu
  rw [hc] at hn ⊢
  have hs : span isDigit (r ++ d :: l) = r.length := by rw [span_app isDigit d hd, span_whole isDigit r hr]
  refine Lexed.tok (y := c :: r) (ws_hard h1 h2 _) (by simp) ?_ hl
  simp [tk, h3, h4, hs, hn]
theorem lexed_pcs : ∀ (l : List Pce), (∀ p ∈ l, p.ok) → Lexed (bytP l) (tksP l)
  | [], _ => Lexed.nil
  | q :: l, h => by
    have ih := lexed_pcs l fun p hp => h p (by simp [hp])
    have hq := h q (by simp)
    have e1 : bytP (q :: l) = q.byt ++ bytP l := by simp [bytP]
    have e2 : tksP (q :: l) = q.tks ++ tksP l := by simp [tksP]
    rw [e1, e2]
    cases q with
    | bl c => exact ih.bl hq
    | sg c => exact ih.sg hq
    | nb x =>
      simp only [Pce.byt, Pce.tks, List.append_assoc, List.singleton_append, List.cons_append, List.nil_append]
      exact Lexed.nm hq (by decide) (ih.bl (by decide))
    | ns x c =>
      simp only [Pce.byt, Pce.tks, List.append_assoc, List.singleton_append, List.cons_append, List.nil_append]
      exact Lexed.nm hq.1 (sign_hard hq.2).2.2.2.2.2.1 (ih.sg hq.2)
    | us n c =>
      simp only [Pce.byt, Pce.tks, List.append_assoc, List.singleton_append, List.cons_append, List.nil_append]
      exact Lexed.nu hq.1 (sign_hard hq.2).2.2.2.2.2.2 (ih.sg hq.2)
theorem bytP_app (a b : List Pce) : bytP (a ++ b) = bytP a ++ bytP b := by simp [bytP]
theorem tksP_app (a b : List Pce) : tksP (a ++ b) = tksP a ++ tksP b := by simp [tksP]
end Go.Proofs.YtciiemomfniecaaGreatDoor
/-
  A set of keys as a map of the program: 'Free'; its laws at the operations: a key is put, taken out, asked for.
-/
namespace Go.Proofs.YtciiemomfniecaaGreatDoor
set_option maxRecDepth 100000

open Go.RowKit Go.WideMaps Go.Maps

section

variable {α : Type} {K : TypeId} {ky : α → Lit}

/-- Block b is a map of at most n entries; its keys are those that p tells. -/
def Free (K : TypeId) (ky : α → Lit) (w : World) (b n : Nat) (p : α → Bool) : Prop := ∃ D : DataW Unit, w.ownsMap Tryz.prog K unitElem b n D ∧ ∀ x, has D (ky x) = p x
theorem Free.made (w : World) : Free K ky (w.alloc (.map #[] 0)) w.heap.size 0 (fun _ => false) := ⟨.map [], World.ownsMap_made w _ _ _, fun _ => rfl⟩
theorem Free.mono {w : World} {b n n' : Nat} {p : α → Bool} (h : Free K ky w b n p) (hn : n ≤ n') : Free K ky w b n' p := by
  obtain ⟨D, h1, h2⟩ := h
  exact ⟨D, h1.mono hn, h2⟩
theorem Free.lt {w : World} {b n : Nat} {p : α → Bool} (h : Free K ky w b n p) : b < w.heap.size := by
  obtain ⟨D, h1, _⟩ := h
  exact h1.lt
theorem Free.block {w w' : World} {b n : Nat} {p : α → Bool} (h : Free K ky w b n p) (hb : w'.heap[b]? = w.heap[b]?) : Free K ky w' b n p := by
  obtain ⟨D, ⟨es, clock, h1, h2⟩, h3⟩ := h
  exact ⟨D, ⟨es, clock, hb.trans h1, h2⟩, h3⟩
theorem Free.on {w w' : World} {b n : Nat} {p : α → Bool} (h : Free K ky w b n p) (hb : Below w.heap.size w w') : Free K ky w' b n p := h.block (hb.block b h.lt)
theorem Free.alloc {w : World} {b n : Nat} {p : α → Bool} (h : Free K ky w b n p) (o : Obj) : Free K ky (w.alloc o) b n p := h.on (below_new w o)
theorem Free.kept {w w' : World} {b n : Nat} {p : α → Bool} {row : Option Nat} (h : Free K ky w b n p) (hg : w.grownBy w' row) (hne : some b ≠ row) : Free K ky w' b n p := h.block (hg.block b h.lt hne)
theorem Free.eq {w : World} {b n : Nat} {p q : α → Bool} (h : Free K ky w b n p) (e : p = q) : Free K ky w b n q := e ▸ h

variable {w : World} {ops : Array Oper} {rest : List Oper} {o : Oper} {a : Act} {Q : Exit → Act → World → Prop}

theorem wpList_free_put [DecidableEq α] (hg : o.guard = none) (m x v : Operand) (T E : TypeId) (hop : o.op = Op.mapUpdate T m x v) (KK : Keyed Tryz.prog K) (ht : Tryz.prog.underlying T = some (.map K E)) (inj : ∀ x y, ky x = ky y → x = y) (lit : ∀ x, WideAt.IsKeyLit (ky x))
    (b n : Nat) (p : α → Bool) (hm : a.eval m = .map (some b)) (hown : Free K ky w b n p) (hn : n < 1000000000) (key : Value) (y : α) (hx : a.eval x = key) (hv : a.eval v = .agg #[]) (hkey : keyOf Tryz.prog K key = some (ky y))
    (hK : ∀ w', Free K ky w' b (n + 1) (fun z => p z || decide (z = y)) → w.grownBy w' (some b) → wpList Tryz.prog ops Q rest (a.put o.dst undef) w') : wpList Tryz.prog ops Q (o :: rest) a w := by
  obtain ⟨D, h1, h2⟩ := hown
  refine wpList_mapUpdate_own w hg m x v T hop K E KK ht unitElem b n D hm h1 (by unfold maxLen; omega) _ _ (ky y) hx hv hkey _ [] unitElem_mk ?_
  intro w' r1 r2
  refine hK w' ⟨_, r1, fun z => ?_⟩ r2
  by_cases hz : z = y
  · subst hz
    rw [has_put_same h1.isMap (lit z)]
    simp
  · rw [has_put_other (fun e => hz (inj _ _ e)), h2 z]
    simp [hz]
theorem wpList_free_del [DecidableEq α] (hg : o.guard = none) (m x : Operand) (T E : TypeId) (hop : o.op = Op.call { callee := Callee.builtin Builtin.delete, args := #[m, x], argTypes := #[T, K] }) (KK : Keyed Tryz.prog K) (ht : Tryz.prog.underlying T = some (.map K E)) (inj : ∀ x y, ky x = ky y → x = y)
    (b n : Nat) (p : α → Bool) (hm : a.eval m = .map (some b)) (hown : Free K ky w b n p) (key : Value) (y : α) (hx : a.eval x = key) (hkey : keyOf Tryz.prog K key = some (ky y))
    (hK : ∀ w', Free K ky w' b n (fun z => p z && decide (z ≠ y)) → w.grownBy w' (some b) → wpList Tryz.prog ops Q rest (a.put o.dst (.tuple #[])) w') : wpList Tryz.prog ops Q (o :: rest) a w := by
  obtain ⟨D, h1, h2⟩ := hown
  refine wpList_delete_own w hg m x T K hop E KK ht unitElem b n D hm h1 _ (ky y) hx hkey ?_
  intro w' r1 r2
  refine hK w' ⟨_, r1, fun z => ?_⟩ r2.grown
  by_cases hz : z = y
  · subst hz
    rw [has_del_same]
    simp
  · rw [has_del_other (fun e => hz (inj _ _ e)), h2 z]
    simp [hz]
theorem wpList_free_look (hg : o.guard = none) (m x : Operand) (T E : TypeId) (hop : o.op = Op.lookup T m x true) (KK : Keyed Tryz.prog K) (ht : Tryz.prog.underlying T = some (.map K E)) (hz : (zeroValue E).run Tryz.prog w = .ok (.agg #[]) w)
    (b n : Nat) (p : α → Bool) (hm : a.eval m = .map (some b)) (hown : Free K ky w b n p) (key : Value) (y : α) (hx : a.eval x = key) (hkey : keyOf Tryz.prog K key = some (ky y))
    (hK : wpList Tryz.prog ops Q rest (a.put o.dst (.tuple #[.agg #[], .bool (p y)])) w) : wpList Tryz.prog ops Q (o :: rest) a w := by
  obtain ⟨D, h1, h2⟩ := hown
  refine wpList_lookup_own_unit w hg m x T hop K E KK ht hz b n D hm h1 _ (ky y) hx hkey ?_
  rw [h2 y]
  exact hK
end

/-! ### The two kinds of keys -/

def kS (x : List UInt8) : Lit := .string x
def kI (n : Int) : Lit := .int .i64 n
theorem kS_inj (x y : List UInt8) (h : kS x = kS y) : x = y := by injection h
theorem kI_inj (x y : Int) (h : kI x = kI y) : x = y := by injection h
theorem kS_lit (x : List UInt8) : WideAt.IsKeyLit (kS x) := trivial
theorem kI_lit (x : Int) : WideAt.IsKeyLit (kI x) := trivial
theorem kS_law : Keyed Tryz.prog 9 := string_keyed Tryz.underlying9
theorem kI_law : Keyed Tryz.prog 2 := int_keyed Tryz.underlying2
theorem kS_key {x : List UInt8} (h : x.length ≤ maxLen) : keyOf Tryz.prog 9 (.string (txt x)) = some (kS x) := by
  have hs : (txt x).size ≤ maxLen := by simpa [txt, ByteArray.size] using h
  rw [keyOf_string_mk Tryz.underlying9 hs]
  rfl
theorem kI_key {n : Int} (h : inr n) : keyOf Tryz.prog 2 (.int .i64 n) = some (kI n) := by
  refine keyOf_int_mk Tryz.underlying2 ?_
  simp only [Lit.wf, Bool.and_eq_true, decide_eq_true_eq]
  exact ⟨by show (-9223372036854775808 : Int) ≤ _; unfold inr at h; omega, by show _ ≤ (9223372036854775807 : Int); unfold inr at h; omega⟩
end Go.Proofs.YtciiemomfniecaaGreatDoor
/-
  Package-level variables: an array of numbers that lies in its own block, and that nothing turns.
-/
namespace Go.Proofs.YtciiemomfniecaaGreatDoor
set_option maxRecDepth 100000

open Go.RowKit

/-- The block g holds these cells. -/
def TabAt (w : World) (g : Nat) (cs : Array Value) : Prop := ∃ t fr, w.heap[g]? = some (.cells cs t fr)
theorem TabAt.on {w w' : World} {g : Nat} {cs : Array Value} (h : TabAt w g cs) (hb : Below w.heap.size w w') : TabAt w' g cs := by
  obtain ⟨t, fr, h⟩ := h
  exact ⟨t, fr, (hb.block g (Array.getElem?_eq_some_iff.1 h).1).trans h⟩
theorem TabAt.of_var {P : Program} {w : World} {n : String} {g : Nat} {cs : Array Value} (hg : P.globalNamed n = some g) (h : w.var? P n = some cs) : TabAt w g cs := by
  simp only [World.var?, hg, Option.bind_some] at h
  split at h
  · rename_i c t fr hb
    cases h
    exact ⟨t, fr, hb⟩
  · cases h
end Go.Proofs.YtciiemomfniecaaGreatDoor
/-
  The contracts of the functions of Go that this program calls, laid at this program: each is one application of the theorem that the library proves once.
-/
namespace Go.Proofs
open Go.Shelf
def Tryz.lays137_ren : Go.Shelf.Ren := ⟨fun | 137 => 139 | 217 => 167 | 266 => 192 | n => n, fun | 9 => 9 | 5 => 5 | 3 => 3 | n => n, fun | n => n⟩
theorem Tryz.lays137 : Go.Proofs.Lays.n137 Tryz.prog Tryz.lays137_ren := {
  mixed := by kernel_rfl
  f137 := Tryz.func139.trans (congrArg some (by kernel_rfl))
  f217 := Tryz.func167.trans (congrArg some (by kernel_rfl))
  f266 := Tryz.func192.trans (congrArg some (by kernel_rfl))
  t3 := Tryz.underlying3
  a3 := Tryz.isAgg3
  z3 := Tryz.sizeOf3
  v3 := Tryz.zeroValue3
  t5 := Tryz.underlying5
  a5 := Tryz.isAgg5
  z5 := Tryz.sizeOf5
  v5 := Tryz.zeroValue5
  t9 := Tryz.underlying9
  a9 := Tryz.isAgg9
  z9 := Tryz.sizeOf9
  v9 := Tryz.zeroValue9 }
open Go.RowKit in
theorem Tryz.strings_IndexByte (s : ByteArray) (c : Int) (w : World) :
    Calls Tryz.prog 139 #[.string s, .int .u8 c] w fun e w' => e = .returned (.int .i64 (Lib.indexByte s.data.toList c.toNat.toUInt8)) ∧ w' = w := Any.strings_IndexByte Tryz.lays137 s c w
def Tryz.laysM173_ren : Go.Shelf.Ren := ⟨fun | 173 => 132 | 246 => 162 | 283 => 183 | 284 => 184 | 285 => 185 | 286 => 186 | 129 => 156 | 317 => 195 | 318 => 196 | 319 => 197 | 320 => 198 | 337 => 206 | 338 => 207 | n => n, fun | 2 => 2 | 3 => 3 | 9 => 9 | 4 => 4 | 171 => 247 | 0 => 0 | 53 => 224 | 37 => 106 | 5 => 5 | 173 => 249 | 212 => 259 | 51 => 222 | 20 => 20 | 213 => 260 | 46 => 194 | 232 => 272 | 233 => 273 | n => n, fun | 17 => 2 | 18 => 6 | 19 => 7 | n => n⟩
theorem Tryz.laysM173 : Go.Proofs.LaysM.n173 Tryz.prog Tryz.laysM173_ren := {
  mixed := by kernel_rfl
  f129 := Tryz.func156.trans (congrArg some (by kernel_rfl))
  f173 := Tryz.func132.trans (congrArg some (by kernel_rfl))
  f246 := Tryz.func162.trans (congrArg some (by kernel_rfl))
  f283 := Tryz.func183.trans (congrArg some (by kernel_rfl))
  f284 := Tryz.func184.trans (congrArg some (by kernel_rfl))
  f285 := Tryz.func185.trans (congrArg some (by kernel_rfl))
  f286 := Tryz.func186.trans (congrArg some (by kernel_rfl))
  f317 := Tryz.func195.trans (congrArg some (by kernel_rfl))
  f318 := Tryz.func196.trans (congrArg some (by kernel_rfl))
  f319 := Tryz.func197.trans (congrArg some (by kernel_rfl))
  f320 := Tryz.func198.trans (congrArg some (by kernel_rfl))
  f337 := Tryz.func206.trans (congrArg some (by kernel_rfl))
  f338 := Tryz.func207.trans (congrArg some (by kernel_rfl))
  t0 := Tryz.underlying0
  a0 := Tryz.isAgg0
  z0 := Tryz.sizeOf0
  v0 := Tryz.zeroValue0
  t2 := Tryz.underlying2
  a2 := Tryz.isAgg2
  z2 := Tryz.sizeOf2
  v2 := Tryz.zeroValue2
  t3 := Tryz.underlying3
  a3 := Tryz.isAgg3
  z3 := Tryz.sizeOf3
  v3 := Tryz.zeroValue3
  t4 := Tryz.underlying4
  a4 := Tryz.isAgg4
  z4 := Tryz.sizeOf4
  v4 := Tryz.zeroValue4
  t5 := Tryz.underlying5
  a5 := Tryz.isAgg5
  z5 := Tryz.sizeOf5
  v5 := Tryz.zeroValue5
  t9 := Tryz.underlying9
  a9 := Tryz.isAgg9
  z9 := Tryz.sizeOf9
  v9 := Tryz.zeroValue9
  t20 := Tryz.underlying20
  a20 := Tryz.isAgg20
  z20 := Tryz.sizeOf20
  v20 := Tryz.zeroValue20
  t37 := Tryz.underlying106
  a37 := Tryz.isAgg106
  z37 := Tryz.sizeOf106
  v37 := Tryz.zeroValue106
  t46 := Tryz.underlying194
  a46 := Tryz.isAgg194
  z46 := Tryz.sizeOf194
  v46 := Tryz.zeroValue194
  t51 := Tryz.underlying222
  a51 := Tryz.isAgg222
  z51 := Tryz.sizeOf222
  v51 := Tryz.zeroValue222
  t53 := Tryz.underlying224
  a53 := Tryz.isAgg224
  z53 := Tryz.sizeOf224
  v53 := Tryz.zeroValue224
  t171 := Tryz.underlying247
  a171 := Tryz.isAgg247
  z171 := Tryz.sizeOf247
  v171 := Tryz.zeroValue247
  t173 := Tryz.underlying249
  a173 := Tryz.isAgg249
  z173 := Tryz.sizeOf249
  v173 := Tryz.zeroValue249
  t212 := Tryz.underlying259
  a212 := Tryz.isAgg259
  z212 := Tryz.sizeOf259
  v212 := Tryz.zeroValue259
  t213 := Tryz.underlying260
  a213 := Tryz.isAgg260
  z213 := Tryz.sizeOf260
  t232 := Tryz.underlying272
  a232 := Tryz.isAgg272
  z232 := Tryz.sizeOf272
  v232 := Tryz.zeroValue272
  t233 := Tryz.underlying273
  a233 := Tryz.isAgg273
  z233 := Tryz.sizeOf273
  v233 := Tryz.zeroValue273
  g17 := by kernel_rfl
  g18 := by kernel_rfl
  g19 := by kernel_rfl
  i0 := by kernel_rfl
  i2 := by kernel_rfl
  i3 := by kernel_rfl
  i4 := by kernel_rfl
  i5 := by kernel_rfl
  i9 := by kernel_rfl
  i20 := by kernel_rfl
  i37 := by kernel_rfl
  i46 := by kernel_rfl
  i51 := by kernel_rfl
  i53 := by kernel_rfl
  i171 := by kernel_rfl
  i173 := by kernel_rfl
  i212 := by kernel_rfl
  i232 := by kernel_rfl
  i233 := by kernel_rfl
  m17 := by kernel_rfl
  m18 := by kernel_rfl
  m19 := by kernel_rfl }
open Go.RowKit Go.Sort Go.Lib in
theorem Tryz.strconv_FormatInt_10 (n : Int) (h0 : -9223372036854775808 ≤ n) (h1 : n ≤ 9223372036854775807) (w : World) (htab : Lib.TabIs Tryz.prog w "internal/strconv.uint64pow10" .u64 Lib.pow10Tab) :
    Calls Tryz.prog 132 #[.int .i64 n, .int .i64 10] w fun e w' => e = .returned (.string ⟨(Lib.itoa n).toArray⟩) ∧ ∃ k os, w' = grow (w.drewN k) os := Any.strconv_FormatInt_10 Tryz.laysM173 n h0 h1 w htab
def Tryz.laysM316_ren : Go.Shelf.Ren := ⟨fun | 316 => 200 | n => n, fun | 9 => 9 | 3 => 3 | 4 => 4 | 37 => 106 | 0 => 0 | 127 => 267 | 5 => 5 | n => n, fun | n => n⟩
theorem Tryz.laysM316 : Go.Proofs.LaysM.n316 Tryz.prog Tryz.laysM316_ren := {
  mixed := by kernel_rfl
  f316 := Tryz.func200.trans (congrArg some (by kernel_rfl))
  t0 := Tryz.underlying0
  a0 := Tryz.isAgg0
  z0 := Tryz.sizeOf0
  v0 := Tryz.zeroValue0
  t3 := Tryz.underlying3
  a3 := Tryz.isAgg3
  z3 := Tryz.sizeOf3
  v3 := Tryz.zeroValue3
  t4 := Tryz.underlying4
  a4 := Tryz.isAgg4
  z4 := Tryz.sizeOf4
  v4 := Tryz.zeroValue4
  t9 := Tryz.underlying9
  a9 := Tryz.isAgg9
  z9 := Tryz.sizeOf9
  v9 := Tryz.zeroValue9
  t37 := Tryz.underlying106
  a37 := Tryz.isAgg106
  z37 := Tryz.sizeOf106
  v37 := Tryz.zeroValue106
  t127 := Tryz.underlying267
  a127 := Tryz.isAgg267
  z127 := Tryz.sizeOf267
  v127 := Tryz.zeroValue267
  t5 := Tryz.underlying5
  a5 := Tryz.isAgg5
  z5 := Tryz.sizeOf5
  v5 := Tryz.zeroValue5
  i0 := by kernel_rfl
  i3 := by kernel_rfl
  i4 := by kernel_rfl
  i5 := by kernel_rfl
  i9 := by kernel_rfl
  i37 := by kernel_rfl
  i127 := by kernel_rfl }
open Go.RowKit in
theorem Tryz.stringslite_Clone (s : ByteArray) (w : World) (hlim : s.size ≤ 281474976710656) :
    Calls Tryz.prog 200 #[.string s] w fun e w' => e = .returned (.string s) ∧ Below w.heap.size w w' := Any.stringslite_Clone Tryz.laysM316 s w hlim
def Tryz.laysC174_ren : Go.Shelf.Ren := ⟨fun | 174 => 165 | 247 => 190 | 245 => 191 | 287 => 201 | 279 => 202 | 280 => 203 | 281 => 204 | 282 => 205 | 321 => 208 | 322 => 209 | 316 => 200 | 171 => 211 | 205 => 210 | 243 => 212 | 246 => 162 | 283 => 183 | 284 => 184 | 285 => 185 | 286 => 186 | 129 => 156 | 317 => 195 | 318 => 196 | 319 => 197 | 320 => 198 | 337 => 206 | 338 => 207 | n => n, fun | 9 => 9 | 3 => 3 | 2 => 2 | 75 => 234 | 85 => 235 | 4 => 4 | 167 => 261 | 5 => 5 | 53 => 224 | 175 => 262 | 46 => 194 | 168 => 264 | 37 => 106 | 0 => 0 | 210 => 270 | 21 => 21 | 127 => 267 | 145 => 276 | 143 => 274 | 171 => 247 | 173 => 249 | 212 => 259 | 51 => 222 | 20 => 20 | 213 => 260 | 232 => 272 | 233 => 273 | 80 => 208 | n => n, fun | 15 => 4 | 16 => 5 | 17 => 2 | 18 => 6 | 19 => 7 | n => n⟩
theorem Tryz.laysC174 : Go.Proofs.LaysC.n174 Tryz.prog Tryz.laysC174_ren := {
  mixed := by kernel_rfl
  f129 := Tryz.func156.trans (congrArg some (by kernel_rfl))
  f171 := Tryz.func211.trans (congrArg some (by kernel_rfl))
  f174 := Tryz.func165.trans (congrArg some (by kernel_rfl))
  f205 := Tryz.func210.trans (congrArg some (by kernel_rfl))
  f243 := Tryz.func212.trans (congrArg some (by kernel_rfl))
  f245 := Tryz.func191.trans (congrArg some (by kernel_rfl))
  f246 := Tryz.func162.trans (congrArg some (by kernel_rfl))
  f247 := Tryz.func190.trans (congrArg some (by kernel_rfl))
  f279 := Tryz.func202.trans (congrArg some (by kernel_rfl))
  f280 := Tryz.func203.trans (congrArg some (by kernel_rfl))
  f281 := Tryz.func204.trans (congrArg some (by kernel_rfl))
  f282 := Tryz.func205.trans (congrArg some (by kernel_rfl))
  f283 := Tryz.func183.trans (congrArg some (by kernel_rfl))
  f284 := Tryz.func184.trans (congrArg some (by kernel_rfl))
  f285 := Tryz.func185.trans (congrArg some (by kernel_rfl))
  f286 := Tryz.func186.trans (congrArg some (by kernel_rfl))
  f287 := Tryz.func201.trans (congrArg some (by kernel_rfl))
  f316 := Tryz.func200.trans (congrArg some (by kernel_rfl))
  f317 := Tryz.func195.trans (congrArg some (by kernel_rfl))
  f318 := Tryz.func196.trans (congrArg some (by kernel_rfl))
  f319 := Tryz.func197.trans (congrArg some (by kernel_rfl))
  f320 := Tryz.func198.trans (congrArg some (by kernel_rfl))
  f321 := Tryz.func208.trans (congrArg some (by kernel_rfl))
  f322 := Tryz.func209.trans (congrArg some (by kernel_rfl))
  f337 := Tryz.func206.trans (congrArg some (by kernel_rfl))
  f338 := Tryz.func207.trans (congrArg some (by kernel_rfl))
  t0 := Tryz.underlying0
  a0 := Tryz.isAgg0
  z0 := Tryz.sizeOf0
  v0 := Tryz.zeroValue0
  t2 := Tryz.underlying2
  a2 := Tryz.isAgg2
  z2 := Tryz.sizeOf2
  v2 := Tryz.zeroValue2
  t3 := Tryz.underlying3
  a3 := Tryz.isAgg3
  z3 := Tryz.sizeOf3
  v3 := Tryz.zeroValue3
  t4 := Tryz.underlying4
  a4 := Tryz.isAgg4
  z4 := Tryz.sizeOf4
  v4 := Tryz.zeroValue4
  t5 := Tryz.underlying5
  a5 := Tryz.isAgg5
  z5 := Tryz.sizeOf5
  v5 := Tryz.zeroValue5
  t9 := Tryz.underlying9
  a9 := Tryz.isAgg9
  z9 := Tryz.sizeOf9
  v9 := Tryz.zeroValue9
  t20 := Tryz.underlying20
  a20 := Tryz.isAgg20
  z20 := Tryz.sizeOf20
  v20 := Tryz.zeroValue20
  t21 := Tryz.underlying21
  a21 := Tryz.isAgg21
  z21 := Tryz.sizeOf21
  v21 := Tryz.zeroValue21
  t37 := Tryz.underlying106
  a37 := Tryz.isAgg106
  z37 := Tryz.sizeOf106
  v37 := Tryz.zeroValue106
  t46 := Tryz.underlying194
  a46 := Tryz.isAgg194
  z46 := Tryz.sizeOf194
  v46 := Tryz.zeroValue194
  t51 := Tryz.underlying222
  a51 := Tryz.isAgg222
  z51 := Tryz.sizeOf222
  v51 := Tryz.zeroValue222
  t53 := Tryz.underlying224
  a53 := Tryz.isAgg224
  z53 := Tryz.sizeOf224
  v53 := Tryz.zeroValue224
  t75 := Tryz.underlying234
  a75 := Tryz.isAgg234
  z75 := Tryz.sizeOf234
  v75 := Tryz.zeroValue234
  t85 := Tryz.underlying235
  a85 := Tryz.isAgg235
  z85 := Tryz.sizeOf235
  v85 := Tryz.zeroValue235
  t127 := Tryz.underlying267
  a127 := Tryz.isAgg267
  z127 := Tryz.sizeOf267
  v127 := Tryz.zeroValue267
  t143 := Tryz.underlying274
  a143 := Tryz.isAgg274
  z143 := Tryz.sizeOf274
  v143 := Tryz.zeroValue274
  t145 := Tryz.underlying276
  a145 := Tryz.isAgg276
  z145 := Tryz.sizeOf276
  v145 := Tryz.zeroValue276
  t167 := Tryz.underlying261
  a167 := Tryz.isAgg261
  z167 := Tryz.sizeOf261
  v167 := Tryz.zeroValue261
  t168 := Tryz.underlying264
  a168 := Tryz.isAgg264
  z168 := Tryz.sizeOf264
  v168 := Tryz.zeroValue264
  t171 := Tryz.underlying247
  a171 := Tryz.isAgg247
  z171 := Tryz.sizeOf247
  v171 := Tryz.zeroValue247
  t173 := Tryz.underlying249
  a173 := Tryz.isAgg249
  z173 := Tryz.sizeOf249
  v173 := Tryz.zeroValue249
  t175 := Tryz.underlying262
  a175 := Tryz.isAgg262
  z175 := Tryz.sizeOf262
  v175 := Tryz.zeroValue262
  t210 := Tryz.underlying270
  a210 := Tryz.isAgg270
  z210 := Tryz.sizeOf270
  v210 := Tryz.zeroValue270
  t212 := Tryz.underlying259
  a212 := Tryz.isAgg259
  z212 := Tryz.sizeOf259
  v212 := Tryz.zeroValue259
  t213 := Tryz.underlying260
  a213 := Tryz.isAgg260
  z213 := Tryz.sizeOf260
  t232 := Tryz.underlying272
  a232 := Tryz.isAgg272
  z232 := Tryz.sizeOf272
  v232 := Tryz.zeroValue272
  t233 := Tryz.underlying273
  a233 := Tryz.isAgg273
  z233 := Tryz.sizeOf273
  v233 := Tryz.zeroValue273
  g15 := by kernel_rfl
  g16 := by kernel_rfl
  g17 := by kernel_rfl
  g18 := by kernel_rfl
  g19 := by kernel_rfl
  t80 := Tryz.underlying208
  a80 := Tryz.isAgg208
  z80 := Tryz.sizeOf208
  v80 := Tryz.zeroValue208
  i0 := by kernel_rfl
  i2 := by kernel_rfl
  i3 := by kernel_rfl
  i4 := by kernel_rfl
  i5 := by kernel_rfl
  i9 := by kernel_rfl
  i20 := by kernel_rfl
  i21 := by kernel_rfl
  i37 := by kernel_rfl
  i46 := by kernel_rfl
  i51 := by kernel_rfl
  i53 := by kernel_rfl
  i75 := by kernel_rfl
  i80 := by kernel_rfl
  i85 := by kernel_rfl
  i127 := by kernel_rfl
  i143 := by kernel_rfl
  i145 := by kernel_rfl
  i167 := by kernel_rfl
  i168 := by kernel_rfl
  i171 := by kernel_rfl
  i173 := by kernel_rfl
  i175 := by kernel_rfl
  i210 := by kernel_rfl
  i212 := by kernel_rfl
  i232 := by kernel_rfl
  i233 := by kernel_rfl
  m15 := by kernel_rfl
  m16 := by kernel_rfl
  m17 := by kernel_rfl
  m18 := by kernel_rfl
  m19 := by kernel_rfl
  c0 := by kernel_rfl
  c2 := by kernel_rfl
  c3 := by kernel_rfl
  c4 := by kernel_rfl
  c5 := by kernel_rfl
  c9 := by kernel_rfl
  c20 := by kernel_rfl
  c21 := by kernel_rfl
  c37 := by kernel_rfl
  c46 := by kernel_rfl
  c51 := by kernel_rfl
  c53 := by kernel_rfl
  c75 := by kernel_rfl
  c80 := by kernel_rfl
  c85 := by kernel_rfl
  c127 := by kernel_rfl
  c143 := by kernel_rfl
  c145 := by kernel_rfl
  c167 := by kernel_rfl
  c168 := by kernel_rfl
  c171 := by kernel_rfl
  c173 := by kernel_rfl
  c175 := by kernel_rfl
  c210 := by kernel_rfl
  c212 := by kernel_rfl
  c213 := by kernel_rfl
  c232 := by kernel_rfl
  c233 := by kernel_rfl }
open Go.RowKit in
theorem Tryz.strconv_ParseInt_10_at64_ok (s : ByteArray) (hmax : s.size ≤ 9223372036854775806) (v : Int) (h : Lib.parseIntB 64 s.data.toList = .ok v) (w : World) :
    Calls Tryz.prog 165 #[.string s, .int .i64 10, .int .i64 64] w fun e w' => e = .returned (.tuple #[.int .i64 v, .nilIface]) ∧ (w' = w ∨ ∃ t, w' = Lib.bytesWorld w 5 t) := Any.strconv_ParseInt_10_at64_ok Tryz.laysC174 s hmax v h w
open Go.RowKit in
theorem Tryz.strconv_ParseInt_10_at64_syntax_var (s : ByteArray) (hlim : s.size ≤ 281474976710656) (h : Lib.parseIntB 64 s.data.toList = Lib.NumEnd.syntax) (tp : TypeId) (p : Value) (w : World) (hvar : w.var? Tryz.prog "strconv.ErrSyntax" = some #[.iface tp p]) :
    Calls Tryz.prog 165 #[.string s, .int .i64 10, .int .i64 64] w fun e w' => ∃ N, e = .returned (.tuple #[.int .i64 (0), .iface 264 (.pointer (some ⟨N, 0, none⟩))]) ∧ w.heap.size ≤ N ∧ w'.heap[N]? = some (.cells #[.string ⟨#[80, 97, 114, 115, 101, 73, 110, 116]⟩, .string s, .iface tp p] 270 (0, 0)) ∧ Below w.heap.size w w' := Any.strconv_ParseInt_10_at64_syntax_var Tryz.laysC174 s hlim h tp p w hvar
open Go.RowKit in
theorem Tryz.strconv_ParseInt_10_at64_range_var (s : ByteArray) (hlim : s.size ≤ 281474976710656) (h : Lib.parseIntB 64 s.data.toList = .range) (tp : TypeId) (p : Value) (w : World) (hvar : w.var? Tryz.prog "strconv.ErrRange" = some #[.iface tp p]) :
    Calls Tryz.prog 165 #[.string s, .int .i64 10, .int .i64 64] w fun e w' => ∃ N, e = .returned (.tuple #[.int .i64 (Lib.intSat 64 s.data.toList), .iface 264 (.pointer (some ⟨N, 0, none⟩))]) ∧ w.heap.size ≤ N ∧ w'.heap[N]? = some (.cells #[.string ⟨#[80, 97, 114, 115, 101, 73, 110, 116]⟩, .string s, .iface tp p] 270 (0, 0)) ∧ Below w.heap.size w w' := Any.strconv_ParseInt_10_at64_range_var Tryz.laysC174 s hlim h tp p w hvar
end Go.Proofs
