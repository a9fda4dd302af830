/-
  Where tokens begin, and by which byte; how All ends.
-/
import Derived.Test.YtipaangiehdgkaaGreatDoorProText
import Derived.Test.YtipaangiehdgkaaGreatDoorTyMath
import Derived.Maps.OwnSet
import Derived.Shelf.SlSortCmp.WholeK
import Derived.Shelf.SlSortCmp.NoneTotal
import Derived.Test.YtipaangiehdgkaaGreatDoorProg
import Derived.Shelf.Lays
import Derived.Shelf.LaysM
import Derived.Shelf.Small.Strs
import Derived.Lib.OthersKept
import Derived.Lib.Strings
import Derived.Lib.Index
import Derived.Sort.Grow
import Derived.Test.YtipaangiehdgkaaGreatDoorVarPuts
namespace Go.Proofs.YtipaangiehdgkaaGreatDoor
set_option maxRecDepth 100000

/-- A token at the beginning of what is left. -/
structure Good (l : List UInt8) (t : T) : Prop where
  kind : t.kind < 4
  str : t.kind = 2 ↔ l.head? = some 34
  ne : t.kind ≠ 2 → t.text ≠ []
  text : t.kind ≠ 2 → l.take t.text.length = t.text
theorem tk_good {it : Int → List UInt8} {l : List UInt8} {t : Tk} (h : tk it l = some t) (p : Nat) : Good l ⟨t.kind, t.text, t.num, p⟩ := by
  cases l with
  | nil => simp [tk] at h
  | cons c r =>
    have s1 := span_le isNext r
    have s2 := span_le isDigit r
    simp only [tk] at h
    by_cases h1 : isFirst c = true
    · rw [if_pos h1] at h
      injection h with h
      subst h
      have hc : c ≠ 34 := by rintro rfl; exact absurd h1 (by decide)
      exact ⟨by simp, by simp [hc], by simp, fun _ => by simp only [List.length_cons, List.length_take, Nat.min_eq_left s1, List.take_succ_cons]⟩
    · rw [if_neg h1] at h
      by_cases h2 : (isDigit c || c == 45) = true
      · rw [if_pos h2] at h
        simp only [Option.map_eq_some_iff] at h
        obtain ⟨n, _, rfl⟩ := h
        have hc : c ≠ 34 := by rintro rfl; exact absurd h2 (by decide)
        exact ⟨by simp, by simp [hc], by simp, fun _ => by simp only [List.length_cons, List.length_take, Nat.min_eq_left s2, List.take_succ_cons]⟩
      · rw [if_neg h2] at h
        by_cases h3 : (c == 34) = true
        · rw [if_pos h3] at h
          simp only [Option.map_eq_some_iff] at h
          obtain ⟨x, _, rfl⟩ := h
          have hc : c = 34 := by simpa using h3
          exact ⟨by simp, by simp [hc], by simp, by simp⟩
        · rw [if_neg h3] at h
          have hc : c ≠ 34 := by simpa using h3
          split at h
          · injection h with h
            subst h
            exact ⟨by simp, by simp [hc], by simp, fun _ => by simp⟩
          · cases h
section

variable {it : Int → List UInt8}

theorem lex_good : ∀ (l : List UInt8) (k p : Nat), ∀ t ∈ (lex it k p l).1, p + k ≤ t.at_ ∧ t.at_ < p + l.length ∧ Good (l.drop (t.at_ - p)) t
  | [], k, p, t, h => by cases k <;> simp [lex] at h
  | c :: r, k + 1, p, t, h => by
    simp only [lex] at h
    obtain ⟨h1, h2, h3⟩ := lex_good r k (p + 1) t h
    refine ⟨by omega, by simp only [List.length_cons]; omega, ?_⟩
    rw [show t.at_ - p = t.at_ - (p + 1) + 1 by omega, List.drop_succ_cons]
    exact h3
  | c :: r, 0, p, t, h => by
    simp only [lex] at h
    split at h
    · rename_i w _
      obtain ⟨h1, h2, h3⟩ := lex_good r w (p + 1) t h
      refine ⟨by omega, by simp only [List.length_cons]; omega, ?_⟩
      rw [show t.at_ - p = t.at_ - (p + 1) + 1 by omega, List.drop_succ_cons]
      exact h3
    · split at h
      · simp at h
      · rename_i x hx
        rcases List.mem_cons.1 h with rfl | h
        · refine ⟨by simp, by simp, ?_⟩
          simp only [Nat.sub_self, List.drop_zero]
          exact tk_good hx p
        · obtain ⟨h1, h2, h3⟩ := lex_good r x.more (p + 1) t h
          refine ⟨by omega, by simp only [List.length_cons]; omega, ?_⟩
          rw [show t.at_ - p = t.at_ - (p + 1) + 1 by omega, List.drop_succ_cons]
          exact h3
theorem lex_rise : ∀ (l : List UInt8) (k p : Nat), (lex it k p l).1.Pairwise fun a b => a.at_ < b.at_
  | [], k, p => by cases k <;> simp [lex]
  | c :: r, k + 1, p => by
    simp only [lex]
    exact lex_rise r k (p + 1)
  | c :: r, 0, p => by
    simp only [lex]
    split
    · exact lex_rise r _ (p + 1)
    · split
      · exact List.Pairwise.nil
      · rename_i x hx
        refine List.Pairwise.cons (fun b hb => ?_) (lex_rise r x.more (p + 1))
        have := (lex_good r x.more (p + 1) b hb).1
        show p < b.at_
        omega
theorem all_cases (L : List UInt8) :
    (allE it L = 0 ∧ allAt it L = L.length ∧ (allT it L).length ≤ 1000 ∧ allT it L = (lex it 0 0 L).1) ∨ (allT it L = [] ∧ allAt it L < L.length ∧ (allE it L = 4 ∨ allE it L = 2)) := by
  unfold allE allAt allT
  by_cases h5 : 5000 < L.length
  · right
    simp only [if_pos h5]
    exact ⟨trivial, by omega, .inr trivial⟩
  · simp only [if_neg h5]
    unfold ansT ansAt ansE
    by_cases h1 : 1000 < (lex it 0 0 L).1.length
    · right
      simp only [if_pos h1]
      refine ⟨trivial, ?_, .inr trivial⟩
      have hm := List.getElem_mem h1
      have hg := lex_good L 0 0 _ hm
      rw [List.getD_eq_getElem?_getD, List.getElem?_eq_getElem h1]
      simp only [Option.getD_some]
      omega
    · simp only [if_neg h1]
      cases h2 : (lex it 0 0 L).2 with
      | none =>
        left
        exact ⟨rfl, rfl, by simp; omega, by simp⟩
      | some q =>
        right
        have := lex_place L 0 0 q h2
        exact ⟨rfl, by simp; omega, .inl rfl⟩
end

end Go.Proofs.YtipaangiehdgkaaGreatDoor
/-
  Texts that are made of pieces: blanks, signs, and names and numbers with a blank or a sign behind them; what is told of their tokens.
-/
namespace Go.Proofs.YtipaangiehdgkaaGreatDoor
set_option maxRecDepth 100000

def nameOK (x : List UInt8) : Prop := (∃ c r, x = c :: r ∧ isFirst c = true ∧ ∀ d ∈ r, isNext d = true) ∧ x.length ≤ 1500
def inr (n : Int) : Prop := -9223372036854775808 ≤ n ∧ n ≤ 9223372036854775807
/-- A token of a text. -/
def tokOK (t : T) : Prop := (t.kind = 0 → nameOK t.text) ∧ (t.kind = 1 → inr t.num)
theorem lex_tokOK : ∀ (l : List UInt8) (k p : Nat), l.length ≤ 1500 → ∀ t ∈ (lex Lib.itoa k p l).1, tokOK t
  | [], k, p, _, t, h => by cases k <;> simp [lex] at h
  | c :: r, k + 1, p, hl, t, h => by
    simp only [lex] at h
    exact lex_tokOK r k (p + 1) (by simp at hl; omega) t h
  | c :: r, 0, p, hl, t, h => by
    have hl' : r.length ≤ 1500 := by simp at hl; omega
    simp only [lex] at h
    split at h
    · exact lex_tokOK r _ (p + 1) hl' t h
    · split at h
      · simp at h
      · rename_i x hx
        rcases List.mem_cons.1 h with rfl | h
        · have s1 := span_le isNext r
          simp only [tk] at hx
          by_cases h1 : isFirst c = true
          · rw [if_pos h1] at hx
            injection hx with hx
            subst hx
            refine ⟨fun _ => ⟨⟨c, _, rfl, h1, span_all isNext r⟩, ?_⟩, fun h => by simp at h⟩
            simp only [List.length_cons, List.length_take, Nat.min_eq_left s1]
            simp at hl
            omega
          · rw [if_neg h1] at hx
            by_cases h2 : (isDigit c || c == 45) = true
            · rw [if_pos h2] at hx
              simp only [Option.map_eq_some_iff] at hx
              obtain ⟨n, hn, rfl⟩ := hx
              exact ⟨fun h => by simp at h, fun _ => (numOf_some hn).2⟩
            · rw [if_neg h2] at hx
              by_cases h3 : (c == 34) = true
              · rw [if_pos h3] at hx
                simp only [Option.map_eq_some_iff] at hx
                obtain ⟨y, _, rfl⟩ := hx
                exact ⟨fun h => by simp at h, fun h => by simp at h⟩
              · rw [if_neg h3] at hx
                split at hx
                · injection hx with hx
                  subst hx
                  exact ⟨fun h => by simp at h, fun h => by simp at h⟩
                · cases hx
        · exact lex_tokOK r x.more (p + 1) hl' t h

/-! ### Pieces -/
inductive Pce where
  | bl (c : UInt8)
  | sg (c : UInt8)
  | nb (x : List UInt8)
  | ns (x : List UInt8) (c : UInt8)
  | us (n : Int) (c : UInt8)
def Pce.ok : Pce → Prop
  | .bl c => isBlank c = true
  | .sg c => isSign c = true
  | .nb x => nameOK x
  | .ns x c => nameOK x ∧ isSign c = true
  | .us n c => inr n ∧ isSign c = true
def Pce.byt : Pce → List UInt8
  | .bl c => [c]
  | .sg c => [c]
  | .nb x => x ++ [32]
  | .ns x c => x ++ [c]
  | .us n c => Lib.itoa n ++ [c]
def tSg (c : UInt8) : T := ⟨3, [c], 0, 0⟩
def tNm (x : List UInt8) : T := ⟨0, x, 0, 0⟩
def tNu (n : Int) : T := ⟨1, Lib.itoa n, n, 0⟩
def Pce.tks : Pce → List T
  | .bl _ => []
  | .sg c => [tSg c]
  | .nb x => [tNm x]
  | .ns x c => [tNm x, tSg c]
  | .us n c => [tNu n, tSg c]
def bytP (l : List Pce) : List UInt8 := l.flatMap Pce.byt
def tksP (l : List Pce) : List T := l.flatMap Pce.tks
def unAt (t : T) : T := { t with at_ := 0 }
/-- The tokens, but for where they are, and that there are no others. -/
def Lexed (l : List UInt8) (X : List T) : Prop := ∀ p, (lex Lib.itoa 0 p l).1.map unAt = X ∧ (lex Lib.itoa 0 p l).2 = none
theorem Lexed.nil : Lexed [] [] := fun p => by simp [lex]
theorem ws_hard {c : UInt8} (h1 : isBlank c = false) (h2 : c ≠ 47) (r : List UInt8) : ws false (c :: r) = 0 := by
  have h3 : (c == 47) = false := by simpa using h2
  simp [ws, h1, h3]
theorem Lexed.bl {c : UInt8} (h : isBlank c = true) {l : List UInt8} {X : List T} (hl : Lexed l X) : Lexed (c :: l) X := by
  intro p
  have e : lex Lib.itoa 0 p (c :: l) = lex Lib.itoa 0 (p + 1) l := by
    rw [lex_ws, show c :: l = [c] ++ l from rfl, ws_blanks [c] (by simpa using h), List.length_singleton]
    rw [show ([c] ++ l).drop (1 + ws false l) = l.drop (ws false l) by rw [Nat.add_comm]; rfl, ← Nat.add_assoc, ← lex_ws]
  rw [e]
  exact hl (p + 1)
theorem Lexed.tok {y : List UInt8} {k : Nat} {n : Int} {l : List UInt8} {X : List T} (hw : ws false (y ++ l) = 0) (hy : y ≠ []) (ht : tk Lib.itoa (y ++ l) = some ⟨k, y, n, y.length - 1⟩) (hl : Lexed l X) : Lexed (y ++ l) (⟨k, y, n, 0⟩ :: X) := by
  intro p
  have hpos : 0 < y.length := List.length_pos_iff.2 hy
  rw [lex_some hw ht]
  simp only
  rw [show y.length - 1 + 1 = y.length by omega, List.drop_left]
  obtain ⟨h1, h2⟩ := hl (p + (y.length - 1) + 1)
  exact ⟨by rw [List.map_cons, h1]; rfl, h2⟩
theorem sign_hard {c : UInt8} (h : isSign c = true) : isBlank c = false ∧ c ≠ 47 ∧ isFirst c = false ∧ (isDigit c || c == 45) = false ∧ (c == 34) = false ∧ isNext c = false ∧ isDigit c = false := by
  simp only [isSign, List.contains_eq_mem, List.mem_cons, List.not_mem_nil, or_false, decide_eq_true_eq] at h
  rcases h with rfl | rfl | rfl | rfl | rfl | rfl | rfl | rfl | rfl | rfl | rfl | rfl <;> decide
theorem Lexed.sg {c : UInt8} (h : isSign c = true) {l : List UInt8} {X : List T} (hl : Lexed l X) : Lexed (c :: l) (tSg c :: X) := by
  obtain ⟨h1, h2, h3, h4, h5, _, _⟩ := sign_hard h
  exact Lexed.tok (y := [c]) (ws_hard h1 h2 l) (by simp) (by simp [tk, h3, h4, h5, h]) hl
theorem first_hard {c : UInt8} (h : isFirst c = true) : isBlank c = false ∧ c ≠ 47 := by
  simp only [isFirst, Bool.or_eq_true, Bool.and_eq_true, decide_eq_true_eq, beq_iff_eq] at h
  constructor
  · simp only [isBlank, Bool.or_eq_false_iff, beq_eq_false_iff_ne]
    refine ⟨⟨⟨?_, ?_⟩, ?_⟩, ?_⟩ <;> (rintro rfl; simp at h)
  · rintro rfl; simp at h
theorem Lexed.nm {x : List UInt8} (h : nameOK x) {d : UInt8} (hd : isNext d = false) {l : List UInt8} {X : List T} (hl : Lexed (d :: l) X) : Lexed (x ++ d :: l) (tNm x :: X) := by
  obtain ⟨⟨c, r, rfl, hc, hr⟩, _⟩ := h
  obtain ⟨h1, h2⟩ := first_hard hc
  have hs : span isNext (r ++ d :: l) = r.length := by rw [span_app isNext d hd, span_whole isNext r hr]
  refine Lexed.tok (y := c :: r) (ws_hard h1 h2 _) (by simp) ?_ hl
  simp [tk, hc, hs]
theorem itoa_form (n : Int) : ∃ c r, Lib.itoa n = c :: r ∧ (c = 45 ∨ isDigit c = true) ∧ ∀ d ∈ r, isDigit d = true := by
  by_cases hn : n < 0
  · exact ⟨45, _, itoa_neg n hn, .inl rfl, dec_digits _⟩
  · rw [itoa_nonneg n (by omega)]
    have hd := dec_digits n.toNat
    cases hdd : Lib.decDigits n.toNat with
    | nil => exact absurd hdd (dec_ne _)
    | cons c r =>
      rw [hdd] at hd
      exact ⟨c, r, rfl, .inr (hd c (by simp)), fun d h => hd d (by simp [h])⟩
theorem num_hard {c : UInt8} (h : c = 45 ∨ isDigit c = true) : isBlank c = false ∧ c ≠ 47 ∧ isFirst c = false ∧ (isDigit c || c == 45) = true := by
  rcases h with rfl | h
  · decide
  · simp only [isDigit, Bool.and_eq_true, decide_eq_true_eq] at h
    refine ⟨?_, ?_, ?_, ?_⟩
    · simp only [isBlank, Bool.or_eq_false_iff, beq_eq_false_iff_ne]
      refine ⟨⟨⟨?_, ?_⟩, ?_⟩, ?_⟩ <;> (rintro rfl; simp at h)
    · rintro rfl; simp at h
    · have h95 : (c == 95) = false := by
        rw [beq_eq_false_iff_ne]; rintro rfl; simp at h
      simp only [isFirst, h95, Bool.or_false, Bool.or_eq_false_iff, Bool.and_eq_false_iff, decide_eq_false_iff_not]
      omega
    · simp [isDigit, h]
theorem Lexed.nu {n : Int} (h : inr n) {d : UInt8} (hd : isDigit d = false) {l : List UInt8} {X : List T} (hl : Lexed (d :: l) X) : Lexed (Lib.itoa n ++ d :: l) (tNu n :: X) := by
  obtain ⟨c, r, hc, hcc, hr⟩ := itoa_form n
  obtain ⟨h1, h2, h3, h4⟩ := num_hard hcc
  have hn := numOf_itoa h.1 h.2
  unfold tNu
  rw [hc] at hn ⊢
  have hs : span isDigit (r ++ d :: l) = r.length := by rw [span_app isDigit d hd, span_whole isDigit r hr]
  refine Lexed.tok (y := c :: r) (ws_hard h1 h2 _) (by simp) ?_ hl
  simp [tk, h3, h4, hs, hn]
theorem lexed_pcs : ∀ (l : List Pce), (∀ p ∈ l, p.ok) → Lexed (bytP l) (tksP l)
  | [], _ => Lexed.nil
  | q :: l, h => by
    have ih := lexed_pcs l fun p hp => h p (by simp [hp])
    have hq := h q (by simp)
    have e1 : bytP (q :: l) = q.byt ++ bytP l := by simp [bytP]
    have e2 : tksP (q :: l) = q.tks ++ tksP l := by simp [tksP]
    rw [e1, e2]
    cases q with
    | bl c => exact ih.bl hq
    | sg c => exact ih.sg hq
    | nb x =>
      simp only [Pce.byt, Pce.tks, List.append_assoc, List.singleton_append, List.cons_append, List.nil_append]
      exact Lexed.nm hq (by decide) (ih.bl (by decide))
    | ns x c =>
      simp only [Pce.byt, Pce.tks, List.append_assoc, List.singleton_append, List.cons_append, List.nil_append]
      exact Lexed.nm hq.1 (sign_hard hq.2).2.2.2.2.2.1 (ih.sg hq.2)
    | us n c =>
      simp only [Pce.byt, Pce.tks, List.append_assoc, List.singleton_append, List.cons_append, List.nil_append]
      exact Lexed.nu hq.1 (sign_hard hq.2).2.2.2.2.2.2 (ih.sg hq.2)
theorem bytP_app (a b : List Pce) : bytP (a ++ b) = bytP a ++ bytP b := by simp [bytP]
theorem tksP_app (a b : List Pce) : tksP (a ++ b) = tksP a ++ tksP b := by simp [tksP]
end Go.Proofs.YtipaangiehdgkaaGreatDoor
/-
  A set of keys as a map of the program: 'Free'; its laws at the operations: a key is put, taken out, asked for.
-/
namespace Go.Proofs.YtipaangiehdgkaaGreatDoor
set_option maxRecDepth 100000

open Go.RowKit Go.WideMaps Go.Maps

section

variable {α : Type} {K : TypeId} {ky : α → Lit}

/-- Block b is a map of at most n entries; its keys are those that p tells. -/
def Free (K : TypeId) (ky : α → Lit) (w : World) (b n : Nat) (p : α → Bool) : Prop := ∃ D : DataW Unit, w.ownsMap Tryz.prog K unitElem b n D ∧ ∀ x, has D (ky x) = p x
theorem Free.made (w : World) : Free K ky (w.alloc (.map #[] 0)) w.heap.size 0 (fun _ => false) := ⟨.map [], World.ownsMap_made w _ _ _, fun _ => rfl⟩
theorem Free.mono {w : World} {b n n' : Nat} {p : α → Bool} (h : Free K ky w b n p) (hn : n ≤ n') : Free K ky w b n' p := by
  obtain ⟨D, h1, h2⟩ := h
  exact ⟨D, h1.mono hn, h2⟩
theorem Free.lt {w : World} {b n : Nat} {p : α → Bool} (h : Free K ky w b n p) : b < w.heap.size := by
  obtain ⟨D, h1, _⟩ := h
  exact h1.lt
theorem Free.block {w w' : World} {b n : Nat} {p : α → Bool} (h : Free K ky w b n p) (hb : w'.heap[b]? = w.heap[b]?) : Free K ky w' b n p := by
  obtain ⟨D, ⟨es, clock, h1, h2⟩, h3⟩ := h
  exact ⟨D, ⟨es, clock, hb.trans h1, h2⟩, h3⟩
theorem Free.on {w w' : World} {b n : Nat} {p : α → Bool} (h : Free K ky w b n p) (hb : Below w.heap.size w w') : Free K ky w' b n p := h.block (hb.block b h.lt)
theorem Free.alloc {w : World} {b n : Nat} {p : α → Bool} (h : Free K ky w b n p) (o : Obj) : Free K ky (w.alloc o) b n p := h.on (below_new w o)
theorem Free.kept {w w' : World} {b n : Nat} {p : α → Bool} {row : Option Nat} (h : Free K ky w b n p) (hg : w.grownBy w' row) (hne : some b ≠ row) : Free K ky w' b n p := h.block (hg.block b h.lt hne)
theorem Free.eq {w : World} {b n : Nat} {p q : α → Bool} (h : Free K ky w b n p) (e : p = q) : Free K ky w b n q := e ▸ h

variable {w : World} {ops : Array Oper} {rest : List Oper} {o : Oper} {a : Act} {Q : Exit → Act → World → Prop}

theorem wpList_free_put [DecidableEq α] (hg : o.guard = none) (m x v : Operand) (T E : TypeId) (hop : o.op = Op.mapUpdate T m x v) (KK : Keyed Tryz.prog K) (ht : Tryz.prog.underlying T = some (.map K E)) (inj : ∀ x y, ky x = ky y → x = y) (lit : ∀ x, WideAt.IsKeyLit (ky x))
    (b n : Nat) (p : α → Bool) (hm : a.eval m = .map (some b)) (hown : Free K ky w b n p) (hn : n < 1000000000) (key : Value) (y : α) (hx : a.eval x = key) (hv : a.eval v = .agg #[]) (hkey : keyOf Tryz.prog K key = some (ky y))
    (hK : ∀ w', Free K ky w' b (n + 1) (fun z => p z || decide (z = y)) → w.grownBy w' (some b) → wpList Tryz.prog ops Q rest (a.put o.dst undef) w') : wpList Tryz.prog ops Q (o :: rest) a w := by
  obtain ⟨D, h1, h2⟩ := hown
  refine wpList_mapUpdate_own w hg m x v T hop K E KK ht unitElem b n D hm h1 (by unfold maxLen; omega) _ _ (ky y) hx hv hkey _ [] unitElem_mk ?_
  intro w' r1 r2
  refine hK w' ⟨_, r1, fun z => ?_⟩ r2
  by_cases hz : z = y
  · subst hz
    rw [has_put_same h1.isMap (lit z)]
    simp
  · rw [has_put_other (fun e => hz (inj _ _ e)), h2 z]
    simp [hz]
theorem wpList_free_del [DecidableEq α] (hg : o.guard = none) (m x : Operand) (T E : TypeId) (hop : o.op = Op.call { callee := Callee.builtin Builtin.delete, args := #[m, x], argTypes := #[T, K] }) (KK : Keyed Tryz.prog K) (ht : Tryz.prog.underlying T = some (.map K E)) (inj : ∀ x y, ky x = ky y → x = y)
    (b n : Nat) (p : α → Bool) (hm : a.eval m = .map (some b)) (hown : Free K ky w b n p) (key : Value) (y : α) (hx : a.eval x = key) (hkey : keyOf Tryz.prog K key = some (ky y))
    (hK : ∀ w', Free K ky w' b n (fun z => p z && decide (z ≠ y)) → w.grownBy w' (some b) → wpList Tryz.prog ops Q rest (a.put o.dst (.tuple #[])) w') : wpList Tryz.prog ops Q (o :: rest) a w := by
  obtain ⟨D, h1, h2⟩ := hown
  refine wpList_delete_own w hg m x T K hop E KK ht unitElem b n D hm h1 _ (ky y) hx hkey ?_
  intro w' r1 r2
  refine hK w' ⟨_, r1, fun z => ?_⟩ r2.grown
  by_cases hz : z = y
  · subst hz
    rw [has_del_same]
    simp
  · rw [has_del_other (fun e => hz (inj _ _ e)), h2 z]
    simp [hz]
theorem wpList_free_look (hg : o.guard = none) (m x : Operand) (T E : TypeId) (hop : o.op = Op.lookup T m x true) (KK : Keyed Tryz.prog K) (ht : Tryz.prog.underlying T = some (.map K E)) (hz : (zeroValue E).run Tryz.prog w = .ok (.agg #[]) w)
    (b n : Nat) (p : α → Bool) (hm : a.eval m = .map (some b)) (hown : Free K ky w b n p) (key : Value) (y : α) (hx : a.eval x = key) (hkey : keyOf Tryz.prog K key = some (ky y))
    (hK : wpList Tryz.prog ops Q rest (a.put o.dst (.tuple #[.agg #[], .bool (p y)])) w) : wpList Tryz.prog ops Q (o :: rest) a w := by
  obtain ⟨D, h1, h2⟩ := hown
  refine wpList_lookup_own_unit w hg m x T hop K E KK ht hz b n D hm h1 _ (ky y) hx hkey ?_
  rw [h2 y]
  exact hK
end

/-! ### The two kinds of keys -/

def kS (x : List UInt8) : Lit := .string x
def kI (n : Int) : Lit := .int .i64 n
theorem kS_inj (x y : List UInt8) (h : kS x = kS y) : x = y := by injection h
theorem kI_inj (x y : Int) (h : kI x = kI y) : x = y := by injection h
theorem kS_lit (x : List UInt8) : WideAt.IsKeyLit (kS x) := trivial
theorem kI_lit (x : Int) : WideAt.IsKeyLit (kI x) := trivial
theorem kS_law : Keyed Tryz.prog 9 := string_keyed Tryz.underlying9
theorem kI_law : Keyed Tryz.prog 2 := int_keyed Tryz.underlying2
theorem kS_key {x : List UInt8} (h : x.length ≤ maxLen) : keyOf Tryz.prog 9 (.string (txt x)) = some (kS x) := by
  have hs : (txt x).size ≤ maxLen := by simpa [txt, ByteArray.size] using h
  rw [keyOf_string_mk Tryz.underlying9 hs]
  rfl
theorem kI_key {n : Int} (h : inr n) : keyOf Tryz.prog 2 (.int .i64 n) = some (kI n) := by
  refine keyOf_int_mk Tryz.underlying2 ?_
  simp only [Lit.wf, Bool.and_eq_true, decide_eq_true_eq]
  exact ⟨by show (-9223372036854775808 : Int) ≤ _; unfold inr at h; omega, by show _ ≤ (9223372036854775807 : Int); unfold inr at h; omega⟩
end Go.Proofs.YtipaangiehdgkaaGreatDoor
/-
  The contracts of the functions of Go that this program calls, laid at this program: each is one application of the theorem that the library proves once.
-/
namespace Go.Proofs
open Go.Shelf
def Tryz.laysSlF06_f54_ren : Go.Shelf.Ren := ⟨fun | 6 => 54 | 15 => 98 | 14 => 97 | 28 => 150 | 29 => 151 | 20 => 142 | 21 => 143 | 22 => 144 | 23 => 145 | 24 => 146 | 25 => 147 | 26 => 148 | 27 => 149 | 46 => 169 | 47 => 170 | 48 => 171 | 49 => 172 | 50 => 173 | 57 => 191 | n => n, fun | 22 => 34 | 24 => 48 | 25 => 108 | 3 => 3 | 39 => 158 | 0 => 0 | 53 => 197 | 55 => 60 | 4 => 4 | 46 => 190 | 45 => 189 | 50 => 194 | 5 => 5 | 9 => 9 | 66 => 217 | 70 => 221 | 76 => 240 | 77 => 241 | n => n, fun | n => n⟩
theorem Tryz.laysSlF06_f54 : Go.Proofs.SlLaysF0.n6 Tryz.prog Tryz.laysSlF06_f54_ren := {
  mixed := by kernel_rfl
  f6 := ⟨Tryz.f54.name, by decide, Tryz.func54.trans (congrArg some (by kernel_rfl))⟩
  f14 := ⟨Tryz.f97.name, by decide, Tryz.func97.trans (congrArg some (by kernel_rfl))⟩
  f15 := Tryz.func98.trans (congrArg some (by kernel_rfl))
  f20 := ⟨Tryz.f142.name, by decide, Tryz.func142.trans (congrArg some (by kernel_rfl))⟩
  f21 := ⟨Tryz.f143.name, by decide, Tryz.func143.trans (congrArg some (by kernel_rfl))⟩
  f22 := ⟨Tryz.f144.name, by decide, Tryz.func144.trans (congrArg some (by kernel_rfl))⟩
  f23 := ⟨Tryz.f145.name, by decide, Tryz.func145.trans (congrArg some (by kernel_rfl))⟩
  f24 := ⟨Tryz.f146.name, by decide, Tryz.func146.trans (congrArg some (by kernel_rfl))⟩
  f25 := ⟨Tryz.f147.name, by decide, Tryz.func147.trans (congrArg some (by kernel_rfl))⟩
  f26 := ⟨Tryz.f148.name, by decide, Tryz.func148.trans (congrArg some (by kernel_rfl))⟩
  f27 := ⟨Tryz.f149.name, by decide, Tryz.func149.trans (congrArg some (by kernel_rfl))⟩
  f28 := Tryz.func150.trans (congrArg some (by kernel_rfl))
  f29 := Tryz.func151.trans (congrArg some (by kernel_rfl))
  f46 := ⟨Tryz.f169.name, by decide, Tryz.func169.trans (congrArg some (by kernel_rfl))⟩
  f47 := Tryz.func170.trans (congrArg some (by kernel_rfl))
  f48 := Tryz.func171.trans (congrArg some (by kernel_rfl))
  f49 := ⟨Tryz.f172.name, by decide, Tryz.func172.trans (congrArg some (by kernel_rfl))⟩
  f50 := ⟨Tryz.f173.name, by decide, Tryz.func173.trans (congrArg some (by kernel_rfl))⟩
  f57 := ⟨Tryz.f191.name, by decide, Tryz.func191.trans (congrArg some (by kernel_rfl))⟩
  t0 := Tryz.underlying0
  a0 := Tryz.isAgg0
  z0 := Tryz.sizeOf0
  v0 := Tryz.zeroValue0
  t3 := Tryz.underlying3
  a3 := Tryz.isAgg3
  z3 := Tryz.sizeOf3
  v3 := Tryz.zeroValue3
  t4 := Tryz.underlying4
  a4 := Tryz.isAgg4
  z4 := Tryz.sizeOf4
  v4 := Tryz.zeroValue4
  t5 := Tryz.underlying5
  a5 := Tryz.isAgg5
  z5 := Tryz.sizeOf5
  v5 := Tryz.zeroValue5
  t9 := Tryz.underlying9
  a9 := Tryz.isAgg9
  z9 := Tryz.sizeOf9
  v9 := Tryz.zeroValue9
  t22 := Tryz.underlying34
  a22 := Tryz.isAgg34
  z22 := Tryz.sizeOf34
  v22 := Tryz.zeroValue34
  t25 := Tryz.underlying108
  a25 := Tryz.isAgg108
  z25 := Tryz.sizeOf108
  v25 := Tryz.zeroValue108
  t39 := Tryz.underlying158
  a39 := Tryz.isAgg158
  z39 := Tryz.sizeOf158
  v39 := Tryz.zeroValue158
  t45 := Tryz.underlying189
  a45 := Tryz.isAgg189
  z45 := Tryz.sizeOf189
  v45 := Tryz.zeroValue189
  t46 := Tryz.underlying190
  a46 := Tryz.isAgg190
  z46 := Tryz.sizeOf190
  v46 := Tryz.zeroValue190
  t50 := Tryz.underlying194
  a50 := Tryz.isAgg194
  z50 := Tryz.sizeOf194
  v50 := Tryz.zeroValue194
  t53 := Tryz.underlying197
  a53 := Tryz.isAgg197
  z53 := Tryz.sizeOf197
  v53 := Tryz.zeroValue197
  t55 := Tryz.underlying60
  a55 := Tryz.isAgg60
  z55 := Tryz.sizeOf60
  v55 := Tryz.zeroValue60
  t66 := Tryz.underlying217
  a66 := Tryz.isAgg217
  z66 := Tryz.sizeOf217
  v66 := Tryz.zeroValue217
  t70 := Tryz.underlying221
  a70 := Tryz.isAgg221
  z70 := Tryz.sizeOf221
  v70 := Tryz.zeroValue221
  t76 := Tryz.underlying240
  a76 := Tryz.isAgg240
  z76 := Tryz.sizeOf240
  v76 := Tryz.zeroValue240
  t77 := Tryz.underlying241
  a77 := Tryz.isAgg241
  z77 := Tryz.sizeOf241
  v77 := Tryz.zeroValue241 }
def Tryz.laysSlF06_f140_ren : Go.Shelf.Ren := ⟨fun | 6 => 140 | 15 => 98 | 14 => 167 | 28 => 150 | 29 => 151 | 20 => 183 | 21 => 184 | 22 => 185 | 23 => 186 | 24 => 187 | 25 => 188 | 26 => 189 | 27 => 190 | 46 => 197 | 47 => 170 | 48 => 171 | 49 => 198 | 50 => 199 | 57 => 202 | n => n, fun | 22 => 46 | 24 => 51 | 25 => 187 | 3 => 3 | 39 => 158 | 0 => 0 | 53 => 197 | 55 => 60 | 4 => 4 | 46 => 190 | 45 => 189 | 50 => 194 | 5 => 5 | 9 => 9 | 66 => 217 | 70 => 221 | 76 => 240 | 77 => 241 | n => n, fun | n => n⟩
theorem Tryz.laysSlF06_f140 : Go.Proofs.SlLaysF0.n6 Tryz.prog Tryz.laysSlF06_f140_ren := {
  mixed := by kernel_rfl
  f6 := ⟨Tryz.f140.name, by decide, Tryz.func140.trans (congrArg some (by kernel_rfl))⟩
  f14 := ⟨Tryz.f167.name, by decide, Tryz.func167.trans (congrArg some (by kernel_rfl))⟩
  f15 := Tryz.func98.trans (congrArg some (by kernel_rfl))
  f20 := ⟨Tryz.f183.name, by decide, Tryz.func183.trans (congrArg some (by kernel_rfl))⟩
  f21 := ⟨Tryz.f184.name, by decide, Tryz.func184.trans (congrArg some (by kernel_rfl))⟩
  f22 := ⟨Tryz.f185.name, by decide, Tryz.func185.trans (congrArg some (by kernel_rfl))⟩
  f23 := ⟨Tryz.f186.name, by decide, Tryz.func186.trans (congrArg some (by kernel_rfl))⟩
  f24 := ⟨Tryz.f187.name, by decide, Tryz.func187.trans (congrArg some (by kernel_rfl))⟩
  f25 := ⟨Tryz.f188.name, by decide, Tryz.func188.trans (congrArg some (by kernel_rfl))⟩
  f26 := ⟨Tryz.f189.name, by decide, Tryz.func189.trans (congrArg some (by kernel_rfl))⟩
  f27 := ⟨Tryz.f190.name, by decide, Tryz.func190.trans (congrArg some (by kernel_rfl))⟩
  f28 := Tryz.func150.trans (congrArg some (by kernel_rfl))
  f29 := Tryz.func151.trans (congrArg some (by kernel_rfl))
  f46 := ⟨Tryz.f197.name, by decide, Tryz.func197.trans (congrArg some (by kernel_rfl))⟩
  f47 := Tryz.func170.trans (congrArg some (by kernel_rfl))
  f48 := Tryz.func171.trans (congrArg some (by kernel_rfl))
  f49 := ⟨Tryz.f198.name, by decide, Tryz.func198.trans (congrArg some (by kernel_rfl))⟩
  f50 := ⟨Tryz.f199.name, by decide, Tryz.func199.trans (congrArg some (by kernel_rfl))⟩
  f57 := ⟨Tryz.f202.name, by decide, Tryz.func202.trans (congrArg some (by kernel_rfl))⟩
  t0 := Tryz.underlying0
  a0 := Tryz.isAgg0
  z0 := Tryz.sizeOf0
  v0 := Tryz.zeroValue0
  t3 := Tryz.underlying3
  a3 := Tryz.isAgg3
  z3 := Tryz.sizeOf3
  v3 := Tryz.zeroValue3
  t4 := Tryz.underlying4
  a4 := Tryz.isAgg4
  z4 := Tryz.sizeOf4
  v4 := Tryz.zeroValue4
  t5 := Tryz.underlying5
  a5 := Tryz.isAgg5
  z5 := Tryz.sizeOf5
  v5 := Tryz.zeroValue5
  t9 := Tryz.underlying9
  a9 := Tryz.isAgg9
  z9 := Tryz.sizeOf9
  v9 := Tryz.zeroValue9
  t22 := Tryz.underlying46
  a22 := Tryz.isAgg46
  z22 := Tryz.sizeOf46
  v22 := Tryz.zeroValue46
  t25 := Tryz.underlying187
  a25 := Tryz.isAgg187
  z25 := Tryz.sizeOf187
  v25 := Tryz.zeroValue187
  t39 := Tryz.underlying158
  a39 := Tryz.isAgg158
  z39 := Tryz.sizeOf158
  v39 := Tryz.zeroValue158
  t45 := Tryz.underlying189
  a45 := Tryz.isAgg189
  z45 := Tryz.sizeOf189
  v45 := Tryz.zeroValue189
  t46 := Tryz.underlying190
  a46 := Tryz.isAgg190
  z46 := Tryz.sizeOf190
  v46 := Tryz.zeroValue190
  t50 := Tryz.underlying194
  a50 := Tryz.isAgg194
  z50 := Tryz.sizeOf194
  v50 := Tryz.zeroValue194
  t53 := Tryz.underlying197
  a53 := Tryz.isAgg197
  z53 := Tryz.sizeOf197
  v53 := Tryz.zeroValue197
  t55 := Tryz.underlying60
  a55 := Tryz.isAgg60
  z55 := Tryz.sizeOf60
  v55 := Tryz.zeroValue60
  t66 := Tryz.underlying217
  a66 := Tryz.isAgg217
  z66 := Tryz.sizeOf217
  v66 := Tryz.zeroValue217
  t70 := Tryz.underlying221
  a70 := Tryz.isAgg221
  z70 := Tryz.sizeOf221
  v70 := Tryz.zeroValue221
  t76 := Tryz.underlying240
  a76 := Tryz.isAgg240
  z76 := Tryz.sizeOf240
  v76 := Tryz.zeroValue240
  t77 := Tryz.underlying241
  a77 := Tryz.isAgg241
  z77 := Tryz.sizeOf241
  v77 := Tryz.zeroValue241 }
open Go.RowKit Go.Lib Go.Sort in
theorem Tryz.slices_SortFunc_f54 {α : Type} [Inhabited α] (k : Nat) (aE : ∀ w, (isAgg 48).run Tryz.prog w = .ok true w) (zE : ∀ w, (Go.sizeOf 48).run Tryz.prog w = .ok k w) (enc : α → List Value) (hk : ∀ x, (enc x).length = k) (h1 : ∀ x, ∀ v ∈ enc x, v.oneCell' = true) (cf : α → α → Int) (hO : SWO (ltOf cf)) (g : Nat) (cb : Array Value) (blk off cap : Nat) (d : Array α) (w : World) (eg : ∀ args w, (callFunc g args).run Tryz.prog w = .ok (.enter g args) w) (hcmp : CmpLays Tryz.prog g cb enc k cf blk off d.size w) (hH : HoldsK enc k w blk off d) (hblk : blk < w.heap.size) (hsz : d.size < 4611686018427387904) :
    Calls Tryz.prog 54 #[.slice (some ⟨blk, off, none⟩) d.size cap, .func (.func g) #[] cb] w fun e w' =>
      e = .returned (.tuple #[]) ∧ ∃ d' n os, PermIn 0 d.size d d' ∧ SortedIn (ltOf cf) 0 d.size d' ∧ w' = sortWorldK enc k w blk off n d' os := AnyQ.slices_SortFunc Tryz.laysSlF06_f54 k aE zE enc hk h1 cf hO g cb blk off cap d w eg hcmp hH hblk hsz
open Go.RowKit Go.Lib Go.Sort in
theorem Tryz.slices_SortFunc_f140 {α : Type} [Inhabited α] (k : Nat) (aE : ∀ w, (isAgg 51).run Tryz.prog w = .ok true w) (zE : ∀ w, (Go.sizeOf 51).run Tryz.prog w = .ok k w) (enc : α → List Value) (hk : ∀ x, (enc x).length = k) (h1 : ∀ x, ∀ v ∈ enc x, v.oneCell' = true) (cf : α → α → Int) (hO : SWO (ltOf cf)) (g : Nat) (cb : Array Value) (blk off cap : Nat) (d : Array α) (w : World) (eg : ∀ args w, (callFunc g args).run Tryz.prog w = .ok (.enter g args) w) (hcmp : CmpLays Tryz.prog g cb enc k cf blk off d.size w) (hH : HoldsK enc k w blk off d) (hblk : blk < w.heap.size) (hsz : d.size < 4611686018427387904) :
    Calls Tryz.prog 140 #[.slice (some ⟨blk, off, none⟩) d.size cap, .func (.func g) #[] cb] w fun e w' =>
      e = .returned (.tuple #[]) ∧ ∃ d' n os, PermIn 0 d.size d d' ∧ SortedIn (ltOf cf) 0 d.size d' ∧ w' = sortWorldK enc k w blk off n d' os := AnyQ.slices_SortFunc Tryz.laysSlF06_f140 k aE zE enc hk h1 cf hO g cb blk off cap d w eg hcmp hH hblk hsz
open Go.RowKit Go.Lib Go.Sort in
theorem Tryz.slices_SortFunc_none_f54 {α : Type} [Inhabited α] (p : Option Addr) (cap : Nat) (fv : Value) (w : World) :
    Calls Tryz.prog 54 #[.slice p 0 cap, fv] w fun e w' => e = .returned (.tuple #[]) ∧ w' = w := AnyF.slices_SortFunc_none Tryz.laysSlF06_f54 p cap fv w
open Go.RowKit Go.Lib Go.Sort in
theorem Tryz.slices_SortFunc_none_f140 {α : Type} [Inhabited α] (p : Option Addr) (cap : Nat) (fv : Value) (w : World) :
    Calls Tryz.prog 140 #[.slice p 0 cap, fv] w fun e w' => e = .returned (.tuple #[]) ∧ w' = w := AnyF.slices_SortFunc_none Tryz.laysSlF06_f140 p cap fv w
end Go.Proofs
/-
  The shelf of the library's contracts, where they lie.
-/

/-
  The package-level variables of Go's own packages that this program reads, and the contracts of the functions of Go that it calls.
-/
namespace Go.Proofs.YtipaangiehdgkaaGreatDoor
set_option maxRecDepth 100000

open Go.RowKit

theorem var_on {P : Program} {n : String} {w w' : World} {cs : Array Value} (h : w.var? P n = some cs) (hb : Below w.heap.size w w') : w'.var? P n = some cs := by
  unfold World.var? at h ⊢
  cases hg : P.globalNamed n with
  | none => simp [hg] at h
  | some g =>
    simp only [hg, Option.bind_some] at h ⊢
    have hlt : g < w.heap.size := by
      rcases Nat.lt_or_ge g w.heap.size with h' | h'
      · exact h'
      · rw [Array.getElem?_eq_none h'] at h; simp at h
    rw [hb.block g hlt]
    exact h
/-- The table of powers of ten, and the two errors of numbers, lie there. -/
structure Laid (w : World) : Prop where
  tab : Lib.TabIs Tryz.prog w "internal/strconv.uint64pow10" .u64 Lib.pow10Tab
  syn : ∃ tp p, w.var? Tryz.prog "strconv.ErrSyntax" = some #[.iface tp p]
  ran : ∃ tp p, w.var? Tryz.prog "strconv.ErrRange" = some #[.iface tp p]
theorem Laid.on {w w' : World} (h : Laid w) (hb : Below w.heap.size w w') : Laid w' := by
  obtain ⟨h1, ⟨t2, p2, h2⟩, ⟨t3, p3, h3⟩⟩ := h
  exact ⟨var_on h1 hb, ⟨t2, p2, var_on h2 hb⟩, ⟨t3, p3, var_on h3 hb⟩⟩
theorem below_grows (w : World) (k : Nat) (os : Array Obj) : Below w.heap.size w (Go.Sort.grow (w.drewN k) os) :=
  ⟨rfl, rfl, rfl, by simp [Go.Sort.grow], fun i hi => by simp only [Go.Sort.grow]; rw [Array.getElem?_append_left (by simpa using hi)]; rfl⟩

theorem prefix_any (s p : ByteArray) (w : World) :
    Calls Tryz.prog 192 #[.string s, .string p] w fun e w' => e = .returned (.bool (Lib.hasPrefix s.data.toList p.data.toList)) ∧ w = w' := by
  rw [← Lib.hasPrefix_of_take, ← Lib.size_eq, ← Lib.size_eq]
  go_enter Tryz.func192, Tryz.ntmps192
  go_wp2
  · rename_i h
    go_ret
    refine ⟨?_, rfl⟩
    show Ending.returned (Value.bool ((s.extract 0 p.size).toList == p.toList)) = _
    rw [Lib.extract_toList, Lib.toList_data]
    simp [h]
  · rename_i h
    go_ret
    refine ⟨?_, rfl⟩
    show Ending.returned (Value.bool false) = _
    simp [h]
end Go.Proofs.YtipaangiehdgkaaGreatDoor
/-
  The two tables of package table, and the contracts of its small functions.
-/
namespace Go.Proofs.YtipaangiehdgkaaGreatDoor
set_option maxRecDepth 100000

open Go.RowKit

def plainsC : Array Value := #[.string (txt tInt64), .int .i64 0, .string (txt tSint64), .int .i64 1, .string (txt tUint32), .int .i64 2, .string (txt tBool), .int .i64 3, .string (txt tFixed32), .int .i64 4, .string (txt tSfixed64), .int .i64 5, .string (txt tString), .int .i64 7, .string (txt tBytes), .int .i64 8]
def stancesC : Array Value := #[.bool false, .bool false, .bool false, .bool true, .bool false, .bool false, .bool false, .bool true, .bool false, .bool false, .bool false, .bool true]
/-- The tables lie there. -/
structure Tabs (w : World) : Prop where
  plains : TabAt w 0 plainsC
  stances : TabAt w 1 stancesC
theorem Tabs.on {w w' : World} (h : Tabs w) (hb : Below w.heap.size w w') : Tabs w' := ⟨h.plains.on hb, h.stances.on hb⟩

theorem index_plain (w : World) {k : Nat} {p : List UInt8 × Nat} (h : plainsL[k]? = some p) : (Instr.index 174 (.agg plainsC) (.int .i64 k)).run Tryz.prog w = .ok (.agg #[.string (txt p.1), .int .i64 p.2]) w := by
  obtain ⟨hk, rfl⟩ := List.getElem?_eq_some_iff.1 h
  have hc : k = 0 ∨ k = 1 ∨ k = 2 ∨ k = 3 ∨ k = 4 ∨ k = 5 ∨ k = 6 ∨ k = 7 := by simp [plainsL] at hk; omega
  clear h
  rcases hc with rfl | rfl | rfl | rfl | rfl | rfl | rfl | rfl <;> (change _ = _; kernel_rfl)
def stanceL : List (Bool × Bool × Bool) := [(false, false, false), (true, false, false), (false, true, false), (false, false, true)]
theorem index_stance (w : World) {k : Nat} {p : Bool × Bool × Bool} (h : stanceL[k]? = some p) : (Instr.index 233 (.agg stancesC) (.int .i64 k)).run Tryz.prog w = .ok (.agg #[.bool p.1, .bool p.2.1, .bool p.2.2]) w := by
  obtain ⟨hk, rfl⟩ := List.getElem?_eq_some_iff.1 h
  have hc : k = 0 ∨ k = 1 ∨ k = 2 ∨ k = 3 := by simp [stanceL] at hk; omega
  clear h
  rcases hc with rfl | rfl | rfl | rfl <;> (change _ = _; kernel_rfl)

theorem isKey_any (k : Int) (w : World) : Calls Tryz.prog 161 #[.int .i64 k] w fun e w' => e = .returned (.bool (keyedB k)) ∧ w = w' := by
  have H : Hid (keyedB k = (k == 0 || k == 1 || k == 2 || k == 3 || k == 4 || k == 5 || k == 7)) := Lib.hid rfl
  go_enter Tryz.func161, Tryz.ntmps161
  go_wp2
  all_goals (go_ret; refine ⟨ret_bool ?_, rfl⟩; rw [H.out]; first | (simp_all; done) | (rw [Bool.eq_iff_iff]; simp_all [or_assoc]))
theorem isNumber_any (n : Int) (w : World) : Calls Tryz.prog 133 #[.int .i64 n] w fun e w' => e = .returned (.bool (numberB n)) ∧ w = w' := by
  have H : Hid (numberB n = (decide (1 ≤ n) && decide (n ≤ 536870911) && (decide (n < 19000) || decide (19999 < n)))) := Lib.hid (by
    unfold numberB
    congr 1
    rw [Bool.eq_iff_iff]
    simp only [Bool.not_eq_true', Bool.and_eq_false_iff, decide_eq_false_iff_not, Bool.or_eq_true, decide_eq_true_eq]
    omega)
  go_enter Tryz.func133, Tryz.ntmps133
  go_wp2
  all_goals (go_ret; refine ⟨ret_bool ?_, rfl⟩; rw [H.out]; first | (simp_all; done) | (rw [Bool.eq_iff_iff]; simp only [Bool.and_eq_true, Bool.or_eq_true, decide_eq_true_eq, Bool.false_eq_true, true_iff, false_iff]; omega))
theorem isEnums_any (n : Int) (w : World) : Calls Tryz.prog 166 #[.int .i64 n] w fun e w' => e = .returned (.bool (decide (-2147483648 ≤ n) && decide (n ≤ 2147483647))) ∧ w = w' := by
  go_enter Tryz.func166, Tryz.ntmps166
  go_wp2
  all_goals (go_ret; refine ⟨ret_bool ?_, rfl⟩; first | (simp_all; done) | (rw [Bool.eq_iff_iff]; simp only [Bool.and_eq_true, Bool.or_eq_true, decide_eq_true_eq, Bool.false_eq_true, true_iff, false_iff]; omega))
theorem mayName_any (n : Int) (w : World) : Calls Tryz.prog 135 #[.int .i64 n] w fun e w' => e = .returned (.bool (decide (1 ≤ n) && decide (n ≤ 30))) ∧ w = w' := by
  go_enter Tryz.func135, Tryz.ntmps135
  go_wp2
  all_goals (go_ret; refine ⟨ret_bool ?_, rfl⟩; first | (simp_all; done) | (rw [Bool.eq_iff_iff]; simp only [Bool.and_eq_true, Bool.or_eq_true, decide_eq_true_eq, Bool.false_eq_true, true_iff, false_iff]; omega))
theorem mayHold_any (n m : Int) (w : World) : Calls Tryz.prog 80 #[.int .i64 n, .int .i64 m] w fun e w' => e = .returned (.bool (decide (1 ≤ n) && decide (n ≤ 20) && decide (m ≤ 20))) ∧ w = w' := by
  go_enter Tryz.func80, Tryz.ntmps80
  go_wp2
  all_goals (go_ret; refine ⟨ret_bool ?_, rfl⟩; first | (simp_all; done) | (rw [Bool.eq_iff_iff]; simp only [Bool.and_eq_true, Bool.or_eq_true, decide_eq_true_eq, Bool.false_eq_true, true_iff, false_iff]; omega))

theorem find_take_next {l : List (List UInt8 × Nat)} {k : Nat} {p : List UInt8 × Nat} {x : List UInt8} (hk : l[k]? = some p) (h : ((l.take k).find? fun q => q.1 == x) = none) : ((l.take (k + 1)).find? fun q => q.1 == x) = if p.1 = x then some p else none := by
  rw [List.take_add_one, hk, List.find?_append, h, Option.none_or]
  simp only [Option.toList, List.find?_cons, List.find?_nil]
  by_cases hx : p.1 = x
  · simp [hx]
  · have : (p.1 == x) = false := beq_eq_false_iff_ne.2 hx
    simp [hx, this]
theorem find_of_take {α : Type} {l : List α} {k : Nat} {g : α → Bool} {p : α} (h : (l.take k).find? g = some p) : l.find? g = some p := by
  rw [← List.take_append_drop k l, List.find?_append, h]
  rfl
theorem eql_stance (a b c a' b' c' : Bool) (w : World) : Sem.run Tryz.prog (binOp .eql 232 (.agg #[.bool a, .bool b, .bool c]) (.agg #[.bool a', .bool b', .bool c'])) w = .ok (.bool (decide ((a, b, c) = (a', b', c')))) w := by
  cases a <;> cases b <;> cases c <;> cases a' <;> cases b' <;> cases c' <;> kernel_rfl
theorem stand_list (ones one : Int) (rep pairs : Bool) (h0 : 0 ≤ one) (h1 : one ≤ ones) : standB ones one rep pairs = stanceL.contains (rep, pairs, decide (one ≠ 0)) := by
  unfold standB
  rw [decide_eq_true h0, decide_eq_true h1]
  cases rep <;> cases pairs <;> cases decide (one ≠ 0) <;> rfl
set_option maxRecDepth 1000000 in
set_option maxHeartbeats 1000000 in
theorem mayStand_any (ones one : Int) (rep pairs : Bool) (w : World) (T : Tabs w) :
    Calls Tryz.prog 163 #[.int .i64 ones, .int .i64 one, .bool rep, .bool pairs] w fun e w' => e = .returned (.bool (standB ones one rep pairs)) ∧ Below w.heap.size w w' := by
  obtain ⟨tt, fr, hT⟩ := T.stances
  clear T
  by_cases h0 : one < 0
  · have H : Hid (standB ones one rep pairs = false) := Lib.hid (by unfold standB; rw [decide_eq_false (by omega)]; simp)
    have hd : decide (one < 0) = true := decide_eq_true h0
    go_enter Tryz.func163, Tryz.ntmps163
    go_wp2
    go_ret
    exact ⟨by rw [H.out]; rfl, Below.refl _ _⟩
  · have hd : decide (one < 0) = false := decide_eq_false h0
    by_cases h1 : ones < one
    · have H : Hid (standB ones one rep pairs = false) := Lib.hid (by unfold standB; rw [decide_eq_false (show ¬ one ≤ ones by omega)]; simp)
      have hd2 : decide (one > ones) = true := decide_eq_true h1
      have hd3 : decide (ones < one) = true := decide_eq_true h1
      go_enter Tryz.func163, Tryz.ntmps163
      go_wp2
      go_ret
      exact ⟨by rw [H.out]; rfl, Below.refl _ _⟩
    · have H := Lib.hid (stand_list ones one rep pairs (by omega) (by omega))
      have hd2 : decide (one > ones) = false := decide_eq_false h1
      have hd3 : decide (ones < one) = false := decide_eq_false h1
      obtain ⟨o, ho⟩ : ∃ o, (one != 0) = o := ⟨_, rfl⟩
      have HO : Hid (decide (one ≠ 0) = o) := Lib.hid (by rw [← ho]; by_cases h : one = 0 <;> simp [h])
      go_enter Tryz.func163, Tryz.ntmps163
      go_wp2_with (refine wpList_load_row rfl 233 _ rfl 1 rfl tt _ fr _ hT Tryz.underlying233 rfl (by kernel_rfl) ?_)
      go_loopw [19] (fun i wr => ∃ k : Nat, i = .int .i64 k ∧ k ≤ 4 ∧ (stanceL.take k).contains (rep, pairs, o) = false ∧ Below w.heap.size w wr) (fun i _ => 4 - (intOf i).toNat)
      case atStart => exact ⟨0, rfl, by omega, rfl, Below.refl _ _⟩
      case round =>
        obtain ⟨k, rfl, hk, hf, hb⟩ := hrel
        by_cases hlt : k < 4
        · obtain ⟨p, hp⟩ : ∃ p, stanceL[k]? = some p := ⟨_, List.getElem?_eq_getElem hlt⟩
          have hi := index_stance wr hp
          have hq := fun w => eql_stance p.1 p.2.1 p.2.2 rep pairs o w
          have HF := Lib.hid hf
          have HP := Lib.hid hp
          clear hf hp
          obtain ⟨d, hd⟩ : ∃ d, decide ((p.1, p.2.1, p.2.2) = (rep, pairs, o)) = d := ⟨_, rfl⟩
          have HD := Lib.hid hd
          rw [hd] at hq
          clear hd
          cases d with
          | true =>
            go_wp2
            go_ret
            refine ⟨?_, hb.trans (below_new _ _ |>.mono hb.size)⟩
            rw [H.out, HO.out, ← of_decide_eq_true HD.out]
            have : stanceL.contains (p.1, p.2.1, p.2.2) = true := by rw [List.contains_eq_mem, decide_eq_true_eq]; exact List.mem_of_getElem? HP.out
            rw [this]; rfl
          | false =>
            go_wp2
            refine ⟨⟨k + 1, by go_num, by omega, ?_, hb.trans (below_new _ _ |>.mono hb.size)⟩, by simp [intOf]; omega⟩
            rw [List.take_add_one, HP.out]
            have h1 := HF.out
            have h2 := of_decide_eq_false HD.out
            rw [List.contains_eq_mem, decide_eq_false_iff_not] at h1 ⊢
            intro hm
            rcases List.mem_append.1 hm with hm | hm
            · exact h1 hm
            · have : (rep, pairs, o) = p := by simpa using hm
              exact h2 this.symm
        · obtain rfl : k = 4 := by omega
          go_wp2
          go_ret
          refine ⟨?_, hb⟩
          rw [H.out, HO.out]
          rw [show stanceL.take 4 = stanceL from rfl] at hf
          rw [hf]; rfl
end Go.Proofs.YtipaangiehdgkaaGreatDoor
/-
  Blanks: the contracts of the functions that go past them.
-/
namespace Go.Proofs.YtipaangiehdgkaaGreatDoor
set_option maxRecDepth 100000

open Go.RowKit

theorem index_span (c : UInt8) : ∀ l : List UInt8, Lib.indexByte l c = if c ∈ l then (span (fun d => d != c) l : Int) else -1
  | [] => by simp [Lib.indexByte]
  | d :: r => by
    have ih := index_span c r
    by_cases h : d = c
    · subst h; simp [Lib.indexByte, span]
    · have h1 : (d == c) = false := by simpa using h
      have h2 : (d != c) = true := by simpa using h
      have h3 : c ≠ d := fun e => h e.symm
      simp only [Lib.indexByte, h1, span, h2, if_true, List.mem_cons, h3, false_or, Bool.false_eq_true, if_false]
      rw [ih]
      by_cases hm : c ∈ r
      · simp only [hm, if_true]
        have : ((span (fun d => d != c) r : Int) == -1) = false := by rw [beq_eq_false_iff_ne]; omega
        simp [this]
      · simp [hm]
theorem at_list (s : ByteArray) (k : Nat) (h : k < s.size) : s.data.toList[k]? = some (s[k]'h) := by
  rw [List.getElem?_eq_getElem (by simpa using h)]
  simp [ByteArray.getElem_eq_getElem_data]
theorem from_list (s : ByteArray) (p : Nat) : (s.extract p s.size).data.toList = s.data.toList.drop p := by
  rw [Lib.extract_data]
  exact List.take_of_length_le (by simp)
theorem from_size (s : ByteArray) (p : Nat) : (s.extract p s.size).size = s.size - p := by simp

theorem span_next {f : UInt8 → Bool} {l : List UInt8} {k : Nat} {c : UInt8} (hc : l[k]? = some c) (hf : f c = true) : span f (l.drop k) = span f (l.drop (k + 1)) + 1 := by
  obtain ⟨h, e⟩ := List.getElem?_eq_some_iff.1 hc
  rw [List.drop_eq_getElem_cons h, e]
  simp [span, hf]
theorem span_stop {f : UInt8 → Bool} {l : List UInt8} {k : Nat} {c : UInt8} (hc : l[k]? = some c) (hf : f c = false) : span f (l.drop k) = 0 := by
  obtain ⟨h, e⟩ := List.getElem?_eq_some_iff.1 hc
  rw [List.drop_eq_getElem_cons h, e]
  simp [span, hf]
theorem span_end {f : UInt8 → Bool} {l : List UInt8} {k : Nat} (h : l.length ≤ k) : span f (l.drop k) = 0 := by
  rw [List.drop_of_length_le h]; rfl

def blankS : ByteArray := ⟨#[32, 9, 10, 13]⟩
theorem blank_set (c : UInt8) : decide (0 ≤ Lib.indexByte blankS.data.toList c) = isBlank c := by
  have h : ∀ k : Fin 256, decide (0 ≤ Lib.indexByte blankS.data.toList (UInt8.ofNat k.val)) = isBlank (UInt8.ofNat k.val) := by decide +kernel
  have := h ⟨c.toNat, c.toNat_lt⟩
  simpa using this
theorem prefix2 (s : ByteArray) : Lib.hasPrefix s.data.toList [47, 47] = decide (s.data.toList.take 2 = [47, 47]) := by
  generalize s.data.toList = l
  match l with
  | [] => rfl
  | [a] => simp [Lib.hasPrefix, List.isPrefixOf]
  | a :: b :: r =>
    rw [Bool.eq_iff_iff]
    simp only [Lib.hasPrefix, List.isPrefixOf, Bool.and_eq_true, beq_iff_eq, decide_eq_true_eq, List.take_succ_cons, List.take_zero, List.cons.injEq, and_true, Bool.and_true]
    constructor
    · rintro ⟨h1, h2⟩; exact ⟨h1.symm, h2.symm⟩
    · rintro ⟨h1, h2⟩; exact ⟨h1.symm, h2.symm⟩
/-- One step past blanks, and what is left. -/
theorem skip_more {l : List UInt8} {k : Nat} (hk : k ≤ l.length) (h2 : (l.drop k).take 2 = [47, 47]) :
    (10 ∉ l.drop k → k + ws false (l.drop k) = l.length) ∧
    (10 ∈ l.drop k → ∃ i, Lib.indexByte (l.drop k) 10 = ((i : Nat) : Int) ∧ 0 < i ∧ k + i ≤ l.length ∧ k + ws false (l.drop k) = k + i + span isBlank (l.drop (k + i)) + ws false (l.drop (k + i + span isBlank (l.drop (k + i))))) := by
  have hc := ws_comment h2
  have ht := ws_true (l.drop k)
  rw [hc, ht]
  constructor
  · intro h; rw [if_neg h, List.length_drop]; omega
  · intro h
    have hi := index_span 10 (l.drop k)
    rw [if_pos h] at hi
    have hle := span_le (fun d => d != 10) (l.drop k)
    rw [List.length_drop] at hle
    refine ⟨_, hi, ?_, by omega, ?_⟩
    · match hd : l.drop k with
      | [] => rw [hd] at h2; simp at h2
      | a :: b => rw [hd] at h2; simp at h2; obtain ⟨rfl, _⟩ := h2; simp [span]
    · rw [if_pos h, List.drop_drop]
      have := ws_step (l.drop (k + span (fun d => d != 10) (l.drop k)))
      rw [this, List.drop_drop]
      omega

end Go.Proofs.YtipaangiehdgkaaGreatDoor
/-
  Bytes by their sorts: the contracts of the small functions that tell them.
-/
namespace Go.Proofs.YtipaangiehdgkaaGreatDoor
set_option maxRecDepth 100000

open Go.RowKit

theorem u8_eq (c : UInt8) (k : Nat) (hk : k < 256) : ((c.toNat : Int) == (k : Int)) = (c == UInt8.ofNat k) := by
  rw [Bool.eq_iff_iff, beq_iff_eq, beq_iff_eq]
  constructor
  · intro h
    have : c.toNat = k := by omega
    rw [← this]; simp
  · intro h
    rw [h]; simp; omega

end Go.Proofs.YtipaangiehdgkaaGreatDoor
/-
  Blanks, signs, halves of bytes and digits, by the document's own functions: their contracts.
-/
namespace Go.Proofs.YtipaangiehdgkaaGreatDoor
set_option maxRecDepth 100000

open Go.RowKit

def hexI (c : UInt8) : Int := match hexv c with | some a => (a : Int) | none => -1
def signS : ByteArray := ⟨#[123, 125, 40, 41, 91, 93, 60, 62, 61, 59, 44, 46]⟩
theorem sign_list (c : UInt8) : isSign c = signS.data.toList.contains c := rfl
theorem contains_no {l : List UInt8} {c : UInt8} {k : Nat} (hk : l.length ≤ k) (h : ∀ j, j < k → ∀ d, l[j]? = some d → d ≠ c) : l.contains c = false := by
  rw [Bool.eq_false_iff]
  intro h2
  rw [List.contains_iff_mem] at h2
  obtain ⟨j, hj, e⟩ := List.getElem_of_mem h2
  exact h j (by omega) c (by rw [List.getElem?_eq_getElem hj, e]) rfl
theorem ws_at {l : List UInt8} {k : Nat} {c : UInt8} (hc : l[k]? = some c) : l.drop k = c :: l.drop (k + 1) := by
  obtain ⟨h, e⟩ := List.getElem?_eq_some_iff.1 hc
  rw [List.drop_eq_getElem_cons h, e]
theorem head_drop {l : List UInt8} {k : Nat} : (l.drop k).head? = l[k]? := by rw [List.head?_drop]
theorem blank_is (c : UInt8) : isBlank c = ((c.toNat : Int) == 32 || (c.toNat : Int) == 9 || (c.toNat : Int) == 10 || (c.toNat : Int) == 13) := by
  have e1 := u8_eq c 32 (by decide)
  have e2 := u8_eq c 9 (by decide)
  have e3 := u8_eq c 10 (by decide)
  have e4 := u8_eq c 13 (by decide)
  simp only [Int.cast_ofNat_Int] at e1 e2 e3 e4
  rw [e1, e2, e3, e4]; rfl
end Go.Proofs.YtipaangiehdgkaaGreatDoor
