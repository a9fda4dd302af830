/-
  Texts that are made of pieces: blanks, signs, and names and numbers with a blank or a sign behind them; what is told of their tokens.
-/
import Derived.Test.YtipaangiehdgkaaGreatDoorTokPlaces
import Derived.Test.YtipaangiehdgkaaGreatDoorTrIn
import Derived.Maps.OwnSet
import Derived.Shelf.SlSortCmp.WholeK
import Derived.Shelf.SlSortCmp.NoneTotal
import Derived.Test.YtipaangiehdgkaaGreatDoorProg
import Derived.Shelf.Lays
import Derived.Shelf.LaysM
import Derived.Shelf.Small.Strs
import Derived.Lib.OthersKept
import Derived.Lib.Strings
import Derived.Lib.Index
import Derived.Sort.Grow
import Derived.Test.YtipaangiehdgkaaGreatDoorTagKnown
import Derived.BigQuiet
import Derived.Deep.QuietTactic
namespace Go.Proofs.YtipaangiehdgkaaGreatDoor
set_option maxRecDepth 100000

def nameOK (x : List UInt8) : Prop := (∃ c r, x = c :: r ∧ isFirst c = true ∧ ∀ d ∈ r, isNext d = true) ∧ x.length ≤ 1500
def inr (n : Int) : Prop := -9223372036854775808 ≤ n ∧ n ≤ 9223372036854775807
/-! ### Pieces -/
inductive Pce where
  | bl (c : UInt8)
  | sg (c : UInt8)
  | nb (x : List UInt8)
  | ns (x : List UInt8) (c : UInt8)
  | us (n : Int) (c : UInt8)
def Pce.ok : Pce → Prop
  | .bl c => isBlank c = true
  | .sg c => isSign c = true
  | .nb x => nameOK x
  | .ns x c => nameOK x ∧ isSign c = true
  | .us n c => inr n ∧ isSign c = true
def tSg (c : UInt8) : T := ⟨3, [c], 0, 0⟩
def unAt (t : T) : T := { t with at_ := 0 }
/-- The tokens, but for where they are, and that there are no others. -/
def Lexed (l : List UInt8) (X : List T) : Prop := ∀ p, (lex Lib.itoa 0 p l).1.map unAt = X ∧ (lex Lib.itoa 0 p l).2 = none
theorem Lexed.nil : Lexed [] [] := fun p => by simp [lex]
theorem ws_hard {c : UInt8} (h1 : isBlank c = false) (h2 : c ≠ 47) (r : List UInt8) : ws false (c :: r) = 0 := by
  have h3 : (c == 47) = false := by simpa using h2
  simp [ws, h1, h3]
theorem Lexed.bl {c : UInt8} (h : isBlank c = true) {l : List UInt8} {X : List T} (hl : Lexed l X) : Lexed (c :: l) X := by
  intro p
  have e : lex Lib.itoa 0 p (c :: l) = lex Lib.itoa 0 (p + 1) l := by
    rw [lex_ws, show c :: l = [c] ++ l from rfl, ws_blanks [c] (by simpa using h), List.length_singleton]
    rw [show ([c] ++ l).drop (1 + ws false l) = l.drop (ws false l) by rw [Nat.add_comm]; rfl, ← Nat.add_assoc, ← lex_ws]
  rw [e]
  exact hl (p + 1)
theorem Lexed.tok {y : List UInt8} {k : Nat} {n : Int} {l : List UInt8} {X : List T} (hw : ws false (y ++ l) = 0) (hy : y ≠ []) (ht : tk Lib.itoa (y ++ l) = some ⟨k, y, n, y.length - 1⟩) (hl : Lexed l X) : Lexed (y ++ l) (⟨k, y, n, 0⟩ :: X) := by
  intro p
  have hpos : 0 < y.length := List.length_pos_iff.2 hy
  rw [lex_some hw ht]
  simp only
  rw [show y.length - 1 + 1 = y.length by omega, List.drop_left]
  obtain ⟨h1, h2⟩ := hl (p + (y.length - 1) + 1)
  exact ⟨by rw [List.map_cons, h1]; rfl, h2⟩
theorem sign_hard {c : UInt8} (h : isSign c = true) : isBlank c = false ∧ c ≠ 47 ∧ isFirst c = false ∧ (isDigit c || c == 45) = false ∧ (c == 34) = false ∧ isNext c = false ∧ isDigit c = false := by
  simp only [isSign, List.contains_eq_mem, List.mem_cons, List.not_mem_nil, or_false, decide_eq_true_eq] at h
  rcases h with rfl | rfl | rfl | rfl | rfl | rfl | rfl | rfl | rfl | rfl | rfl | rfl <;> decide
theorem Lexed.sg {c : UInt8} (h : isSign c = true) {l : List UInt8} {X : List T} (hl : Lexed l X) : Lexed (c :: l) (tSg c :: X) := by
  obtain ⟨h1, h2, h3, h4, h5, _, _⟩ := sign_hard h
  exact Lexed.tok (y := [c]) (ws_hard h1 h2 l) (by simp) (by simp [tk, h3, h4, h5, h]) hl
end Go.Proofs.YtipaangiehdgkaaGreatDoor
/-
  A set of keys as a map of the program: 'Free'; its laws at the operations: a key is put, taken out, asked for.
-/
namespace Go.Proofs.YtipaangiehdgkaaGreatDoor
set_option maxRecDepth 100000

open Go.RowKit Go.WideMaps Go.Maps

section

variable {α : Type} {K : TypeId} {ky : α → Lit}

/-- Block b is a map of at most n entries; its keys are those that p tells. -/
def Free (K : TypeId) (ky : α → Lit) (w : World) (b n : Nat) (p : α → Bool) : Prop := ∃ D : DataW Unit, w.ownsMap Tryz.prog K unitElem b n D ∧ ∀ x, has D (ky x) = p x
theorem Free.made (w : World) : Free K ky (w.alloc (.map #[] 0)) w.heap.size 0 (fun _ => false) := ⟨.map [], World.ownsMap_made w _ _ _, fun _ => rfl⟩
theorem Free.mono {w : World} {b n n' : Nat} {p : α → Bool} (h : Free K ky w b n p) (hn : n ≤ n') : Free K ky w b n' p := by
  obtain ⟨D, h1, h2⟩ := h
  exact ⟨D, h1.mono hn, h2⟩
theorem Free.lt {w : World} {b n : Nat} {p : α → Bool} (h : Free K ky w b n p) : b < w.heap.size := by
  obtain ⟨D, h1, _⟩ := h
  exact h1.lt
theorem Free.block {w w' : World} {b n : Nat} {p : α → Bool} (h : Free K ky w b n p) (hb : w'.heap[b]? = w.heap[b]?) : Free K ky w' b n p := by
  obtain ⟨D, ⟨es, clock, h1, h2⟩, h3⟩ := h
  exact ⟨D, ⟨es, clock, hb.trans h1, h2⟩, h3⟩
theorem Free.on {w w' : World} {b n : Nat} {p : α → Bool} (h : Free K ky w b n p) (hb : Below w.heap.size w w') : Free K ky w' b n p := h.block (hb.block b h.lt)
theorem Free.alloc {w : World} {b n : Nat} {p : α → Bool} (h : Free K ky w b n p) (o : Obj) : Free K ky (w.alloc o) b n p := h.on (below_new w o)
theorem Free.kept {w w' : World} {b n : Nat} {p : α → Bool} {row : Option Nat} (h : Free K ky w b n p) (hg : w.grownBy w' row) (hne : some b ≠ row) : Free K ky w' b n p := h.block (hg.block b h.lt hne)
theorem Free.eq {w : World} {b n : Nat} {p q : α → Bool} (h : Free K ky w b n p) (e : p = q) : Free K ky w b n q := e ▸ h

variable {w : World} {ops : Array Oper} {rest : List Oper} {o : Oper} {a : Act} {Q : Exit → Act → World → Prop}

theorem wpList_free_put [DecidableEq α] (hg : o.guard = none) (m x v : Operand) (T E : TypeId) (hop : o.op = Op.mapUpdate T m x v) (KK : Keyed Tryz.prog K) (ht : Tryz.prog.underlying T = some (.map K E)) (inj : ∀ x y, ky x = ky y → x = y) (lit : ∀ x, WideAt.IsKeyLit (ky x))
    (b n : Nat) (p : α → Bool) (hm : a.eval m = .map (some b)) (hown : Free K ky w b n p) (hn : n < 1000000000) (key : Value) (y : α) (hx : a.eval x = key) (hv : a.eval v = .agg #[]) (hkey : keyOf Tryz.prog K key = some (ky y))
    (hK : ∀ w', Free K ky w' b (n + 1) (fun z => p z || decide (z = y)) → w.grownBy w' (some b) → wpList Tryz.prog ops Q rest (a.put o.dst undef) w') : wpList Tryz.prog ops Q (o :: rest) a w := by
  obtain ⟨D, h1, h2⟩ := hown
  refine wpList_mapUpdate_own w hg m x v T hop K E KK ht unitElem b n D hm h1 (by unfold maxLen; omega) _ _ (ky y) hx hv hkey _ [] unitElem_mk ?_
  intro w' r1 r2
  refine hK w' ⟨_, r1, fun z => ?_⟩ r2
  by_cases hz : z = y
  · subst hz
    rw [has_put_same h1.isMap (lit z)]
    simp
  · rw [has_put_other (fun e => hz (inj _ _ e)), h2 z]
    simp [hz]
theorem wpList_free_del [DecidableEq α] (hg : o.guard = none) (m x : Operand) (T E : TypeId) (hop : o.op = Op.call { callee := Callee.builtin Builtin.delete, args := #[m, x], argTypes := #[T, K] }) (KK : Keyed Tryz.prog K) (ht : Tryz.prog.underlying T = some (.map K E)) (inj : ∀ x y, ky x = ky y → x = y)
    (b n : Nat) (p : α → Bool) (hm : a.eval m = .map (some b)) (hown : Free K ky w b n p) (key : Value) (y : α) (hx : a.eval x = key) (hkey : keyOf Tryz.prog K key = some (ky y))
    (hK : ∀ w', Free K ky w' b n (fun z => p z && decide (z ≠ y)) → w.grownBy w' (some b) → wpList Tryz.prog ops Q rest (a.put o.dst (.tuple #[])) w') : wpList Tryz.prog ops Q (o :: rest) a w := by
  obtain ⟨D, h1, h2⟩ := hown
  refine wpList_delete_own w hg m x T K hop E KK ht unitElem b n D hm h1 _ (ky y) hx hkey ?_
  intro w' r1 r2
  refine hK w' ⟨_, r1, fun z => ?_⟩ r2.grown
  by_cases hz : z = y
  · subst hz
    rw [has_del_same]
    simp
  · rw [has_del_other (fun e => hz (inj _ _ e)), h2 z]
    simp [hz]
theorem wpList_free_look (hg : o.guard = none) (m x : Operand) (T E : TypeId) (hop : o.op = Op.lookup T m x true) (KK : Keyed Tryz.prog K) (ht : Tryz.prog.underlying T = some (.map K E)) (hz : (zeroValue E).run Tryz.prog w = .ok (.agg #[]) w)
    (b n : Nat) (p : α → Bool) (hm : a.eval m = .map (some b)) (hown : Free K ky w b n p) (key : Value) (y : α) (hx : a.eval x = key) (hkey : keyOf Tryz.prog K key = some (ky y))
    (hK : wpList Tryz.prog ops Q rest (a.put o.dst (.tuple #[.agg #[], .bool (p y)])) w) : wpList Tryz.prog ops Q (o :: rest) a w := by
  obtain ⟨D, h1, h2⟩ := hown
  refine wpList_lookup_own_unit w hg m x T hop K E KK ht hz b n D hm h1 _ (ky y) hx hkey ?_
  rw [h2 y]
  exact hK
end

/-! ### The two kinds of keys -/

def kS (x : List UInt8) : Lit := .string x
def kI (n : Int) : Lit := .int .i64 n
theorem kS_inj (x y : List UInt8) (h : kS x = kS y) : x = y := by injection h
theorem kI_inj (x y : Int) (h : kI x = kI y) : x = y := by injection h
theorem kS_lit (x : List UInt8) : WideAt.IsKeyLit (kS x) := trivial
theorem kI_lit (x : Int) : WideAt.IsKeyLit (kI x) := trivial
theorem kS_law : Keyed Tryz.prog 9 := string_keyed Tryz.underlying9
theorem kI_law : Keyed Tryz.prog 2 := int_keyed Tryz.underlying2
theorem kS_key {x : List UInt8} (h : x.length ≤ maxLen) : keyOf Tryz.prog 9 (.string (txt x)) = some (kS x) := by
  have hs : (txt x).size ≤ maxLen := by simpa [txt, ByteArray.size] using h
  rw [keyOf_string_mk Tryz.underlying9 hs]
  rfl
theorem kI_key {n : Int} (h : inr n) : keyOf Tryz.prog 2 (.int .i64 n) = some (kI n) := by
  refine keyOf_int_mk Tryz.underlying2 ?_
  simp only [Lit.wf, Bool.and_eq_true, decide_eq_true_eq]
  exact ⟨by show (-9223372036854775808 : Int) ≤ _; unfold inr at h; omega, by show _ ≤ (9223372036854775807 : Int); unfold inr at h; omega⟩
end Go.Proofs.YtipaangiehdgkaaGreatDoor
/-
  The contracts of the functions of Go that this program calls, laid at this program: each is one application of the theorem that the library proves once.
-/
namespace Go.Proofs
open Go.Shelf
def Tryz.laysSlF06_f54_ren : Go.Shelf.Ren := ⟨fun | 6 => 54 | 15 => 98 | 14 => 97 | 28 => 150 | 29 => 151 | 20 => 142 | 21 => 143 | 22 => 144 | 23 => 145 | 24 => 146 | 25 => 147 | 26 => 148 | 27 => 149 | 46 => 169 | 47 => 170 | 48 => 171 | 49 => 172 | 50 => 173 | 57 => 191 | n => n, fun | 22 => 34 | 24 => 48 | 25 => 108 | 3 => 3 | 39 => 158 | 0 => 0 | 53 => 197 | 55 => 60 | 4 => 4 | 46 => 190 | 45 => 189 | 50 => 194 | 5 => 5 | 9 => 9 | 66 => 217 | 70 => 221 | 76 => 240 | 77 => 241 | n => n, fun | n => n⟩
theorem Tryz.laysSlF06_f54 : Go.Proofs.SlLaysF0.n6 Tryz.prog Tryz.laysSlF06_f54_ren := {
  mixed := by kernel_rfl
  f6 := ⟨Tryz.f54.name, by decide, Tryz.func54.trans (congrArg some (by kernel_rfl))⟩
  f14 := ⟨Tryz.f97.name, by decide, Tryz.func97.trans (congrArg some (by kernel_rfl))⟩
  f15 := Tryz.func98.trans (congrArg some (by kernel_rfl))
  f20 := ⟨Tryz.f142.name, by decide, Tryz.func142.trans (congrArg some (by kernel_rfl))⟩
  f21 := ⟨Tryz.f143.name, by decide, Tryz.func143.trans (congrArg some (by kernel_rfl))⟩
  f22 := ⟨Tryz.f144.name, by decide, Tryz.func144.trans (congrArg some (by kernel_rfl))⟩
  f23 := ⟨Tryz.f145.name, by decide, Tryz.func145.trans (congrArg some (by kernel_rfl))⟩
  f24 := ⟨Tryz.f146.name, by decide, Tryz.func146.trans (congrArg some (by kernel_rfl))⟩
  f25 := ⟨Tryz.f147.name, by decide, Tryz.func147.trans (congrArg some (by kernel_rfl))⟩
  f26 := ⟨Tryz.f148.name, by decide, Tryz.func148.trans (congrArg some (by kernel_rfl))⟩
  f27 := ⟨Tryz.f149.name, by decide, Tryz.func149.trans (congrArg some (by kernel_rfl))⟩
  f28 := Tryz.func150.trans (congrArg some (by kernel_rfl))
  f29 := Tryz.func151.trans (congrArg some (by kernel_rfl))
  f46 := ⟨Tryz.f169.name, by decide, Tryz.func169.trans (congrArg some (by kernel_rfl))⟩
  f47 := Tryz.func170.trans (congrArg some (by kernel_rfl))
  f48 := Tryz.func171.trans (congrArg some (by kernel_rfl))
  f49 := ⟨Tryz.f172.name, by decide, Tryz.func172.trans (congrArg some (by kernel_rfl))⟩
  f50 := ⟨Tryz.f173.name, by decide, Tryz.func173.trans (congrArg some (by kernel_rfl))⟩
  f57 := ⟨Tryz.f191.name, by decide, Tryz.func191.trans (congrArg some (by kernel_rfl))⟩
  t0 := Tryz.underlying0
  a0 := Tryz.isAgg0
  z0 := Tryz.sizeOf0
  v0 := Tryz.zeroValue0
  t3 := Tryz.underlying3
  a3 := Tryz.isAgg3
  z3 := Tryz.sizeOf3
  v3 := Tryz.zeroValue3
  t4 := Tryz.underlying4
  a4 := Tryz.isAgg4
  z4 := Tryz.sizeOf4
  v4 := Tryz.zeroValue4
  t5 := Tryz.underlying5
  a5 := Tryz.isAgg5
  z5 := Tryz.sizeOf5
  v5 := Tryz.zeroValue5
  t9 := Tryz.underlying9
  a9 := Tryz.isAgg9
  z9 := Tryz.sizeOf9
  v9 := Tryz.zeroValue9
  t22 := Tryz.underlying34
  a22 := Tryz.isAgg34
  z22 := Tryz.sizeOf34
  v22 := Tryz.zeroValue34
  t25 := Tryz.underlying108
  a25 := Tryz.isAgg108
  z25 := Tryz.sizeOf108
  v25 := Tryz.zeroValue108
  t39 := Tryz.underlying158
  a39 := Tryz.isAgg158
  z39 := Tryz.sizeOf158
  v39 := Tryz.zeroValue158
  t45 := Tryz.underlying189
  a45 := Tryz.isAgg189
  z45 := Tryz.sizeOf189
  v45 := Tryz.zeroValue189
  t46 := Tryz.underlying190
  a46 := Tryz.isAgg190
  z46 := Tryz.sizeOf190
  v46 := Tryz.zeroValue190
  t50 := Tryz.underlying194
  a50 := Tryz.isAgg194
  z50 := Tryz.sizeOf194
  v50 := Tryz.zeroValue194
  t53 := Tryz.underlying197
  a53 := Tryz.isAgg197
  z53 := Tryz.sizeOf197
  v53 := Tryz.zeroValue197
  t55 := Tryz.underlying60
  a55 := Tryz.isAgg60
  z55 := Tryz.sizeOf60
  v55 := Tryz.zeroValue60
  t66 := Tryz.underlying217
  a66 := Tryz.isAgg217
  z66 := Tryz.sizeOf217
  v66 := Tryz.zeroValue217
  t70 := Tryz.underlying221
  a70 := Tryz.isAgg221
  z70 := Tryz.sizeOf221
  v70 := Tryz.zeroValue221
  t76 := Tryz.underlying240
  a76 := Tryz.isAgg240
  z76 := Tryz.sizeOf240
  v76 := Tryz.zeroValue240
  t77 := Tryz.underlying241
  a77 := Tryz.isAgg241
  z77 := Tryz.sizeOf241
  v77 := Tryz.zeroValue241 }
def Tryz.laysSlF06_f140_ren : Go.Shelf.Ren := ⟨fun | 6 => 140 | 15 => 98 | 14 => 167 | 28 => 150 | 29 => 151 | 20 => 183 | 21 => 184 | 22 => 185 | 23 => 186 | 24 => 187 | 25 => 188 | 26 => 189 | 27 => 190 | 46 => 197 | 47 => 170 | 48 => 171 | 49 => 198 | 50 => 199 | 57 => 202 | n => n, fun | 22 => 46 | 24 => 51 | 25 => 187 | 3 => 3 | 39 => 158 | 0 => 0 | 53 => 197 | 55 => 60 | 4 => 4 | 46 => 190 | 45 => 189 | 50 => 194 | 5 => 5 | 9 => 9 | 66 => 217 | 70 => 221 | 76 => 240 | 77 => 241 | n => n, fun | n => n⟩
theorem Tryz.laysSlF06_f140 : Go.Proofs.SlLaysF0.n6 Tryz.prog Tryz.laysSlF06_f140_ren := {
  mixed := by kernel_rfl
  f6 := ⟨Tryz.f140.name, by decide, Tryz.func140.trans (congrArg some (by kernel_rfl))⟩
  f14 := ⟨Tryz.f167.name, by decide, Tryz.func167.trans (congrArg some (by kernel_rfl))⟩
  f15 := Tryz.func98.trans (congrArg some (by kernel_rfl))
  f20 := ⟨Tryz.f183.name, by decide, Tryz.func183.trans (congrArg some (by kernel_rfl))⟩
  f21 := ⟨Tryz.f184.name, by decide, Tryz.func184.trans (congrArg some (by kernel_rfl))⟩
  f22 := ⟨Tryz.f185.name, by decide, Tryz.func185.trans (congrArg some (by kernel_rfl))⟩
  f23 := ⟨Tryz.f186.name, by decide, Tryz.func186.trans (congrArg some (by kernel_rfl))⟩
  f24 := ⟨Tryz.f187.name, by decide, Tryz.func187.trans (congrArg some (by kernel_rfl))⟩
  f25 := ⟨Tryz.f188.name, by decide, Tryz.func188.trans (congrArg some (by kernel_rfl))⟩
  f26 := ⟨Tryz.f189.name, by decide, Tryz.func189.trans (congrArg some (by kernel_rfl))⟩
  f27 := ⟨Tryz.f190.name, by decide, Tryz.func190.trans (congrArg some (by kernel_rfl))⟩
  f28 := Tryz.func150.trans (congrArg some (by kernel_rfl))
  f29 := Tryz.func151.trans (congrArg some (by kernel_rfl))
  f46 := ⟨Tryz.f197.name, by decide, Tryz.func197.trans (congrArg some (by kernel_rfl))⟩
  f47 := Tryz.func170.trans (congrArg some (by kernel_rfl))
  f48 := Tryz.func171.trans (congrArg some (by kernel_rfl))
  f49 := ⟨Tryz.f198.name, by decide, Tryz.func198.trans (congrArg some (by kernel_rfl))⟩
  f50 := ⟨Tryz.f199.name, by decide, Tryz.func199.trans (congrArg some (by kernel_rfl))⟩
  f57 := ⟨Tryz.f202.name, by decide, Tryz.func202.trans (congrArg some (by kernel_rfl))⟩
  t0 := Tryz.underlying0
  a0 := Tryz.isAgg0
  z0 := Tryz.sizeOf0
  v0 := Tryz.zeroValue0
  t3 := Tryz.underlying3
  a3 := Tryz.isAgg3
  z3 := Tryz.sizeOf3
  v3 := Tryz.zeroValue3
  t4 := Tryz.underlying4
  a4 := Tryz.isAgg4
  z4 := Tryz.sizeOf4
  v4 := Tryz.zeroValue4
  t5 := Tryz.underlying5
  a5 := Tryz.isAgg5
  z5 := Tryz.sizeOf5
  v5 := Tryz.zeroValue5
  t9 := Tryz.underlying9
  a9 := Tryz.isAgg9
  z9 := Tryz.sizeOf9
  v9 := Tryz.zeroValue9
  t22 := Tryz.underlying46
  a22 := Tryz.isAgg46
  z22 := Tryz.sizeOf46
  v22 := Tryz.zeroValue46
  t25 := Tryz.underlying187
  a25 := Tryz.isAgg187
  z25 := Tryz.sizeOf187
  v25 := Tryz.zeroValue187
  t39 := Tryz.underlying158
  a39 := Tryz.isAgg158
  z39 := Tryz.sizeOf158
  v39 := Tryz.zeroValue158
  t45 := Tryz.underlying189
  a45 := Tryz.isAgg189
  z45 := Tryz.sizeOf189
  v45 := Tryz.zeroValue189
  t46 := Tryz.underlying190
  a46 := Tryz.isAgg190
  z46 := Tryz.sizeOf190
  v46 := Tryz.zeroValue190
  t50 := Tryz.underlying194
  a50 := Tryz.isAgg194
  z50 := Tryz.sizeOf194
  v50 := Tryz.zeroValue194
  t53 := Tryz.underlying197
  a53 := Tryz.isAgg197
  z53 := Tryz.sizeOf197
  v53 := Tryz.zeroValue197
  t55 := Tryz.underlying60
  a55 := Tryz.isAgg60
  z55 := Tryz.sizeOf60
  v55 := Tryz.zeroValue60
  t66 := Tryz.underlying217
  a66 := Tryz.isAgg217
  z66 := Tryz.sizeOf217
  v66 := Tryz.zeroValue217
  t70 := Tryz.underlying221
  a70 := Tryz.isAgg221
  z70 := Tryz.sizeOf221
  v70 := Tryz.zeroValue221
  t76 := Tryz.underlying240
  a76 := Tryz.isAgg240
  z76 := Tryz.sizeOf240
  v76 := Tryz.zeroValue240
  t77 := Tryz.underlying241
  a77 := Tryz.isAgg241
  z77 := Tryz.sizeOf241
  v77 := Tryz.zeroValue241 }
open Go.RowKit Go.Lib Go.Sort in
theorem Tryz.slices_SortFunc_f54 {α : Type} [Inhabited α] (k : Nat) (aE : ∀ w, (isAgg 48).run Tryz.prog w = .ok true w) (zE : ∀ w, (Go.sizeOf 48).run Tryz.prog w = .ok k w) (enc : α → List Value) (hk : ∀ x, (enc x).length = k) (h1 : ∀ x, ∀ v ∈ enc x, v.oneCell' = true) (cf : α → α → Int) (hO : SWO (ltOf cf)) (g : Nat) (cb : Array Value) (blk off cap : Nat) (d : Array α) (w : World) (eg : ∀ args w, (callFunc g args).run Tryz.prog w = .ok (.enter g args) w) (hcmp : CmpLays Tryz.prog g cb enc k cf blk off d.size w) (hH : HoldsK enc k w blk off d) (hblk : blk < w.heap.size) (hsz : d.size < 4611686018427387904) :
    Calls Tryz.prog 54 #[.slice (some ⟨blk, off, none⟩) d.size cap, .func (.func g) #[] cb] w fun e w' =>
      e = .returned (.tuple #[]) ∧ ∃ d' n os, PermIn 0 d.size d d' ∧ SortedIn (ltOf cf) 0 d.size d' ∧ w' = sortWorldK enc k w blk off n d' os := AnyQ.slices_SortFunc Tryz.laysSlF06_f54 k aE zE enc hk h1 cf hO g cb blk off cap d w eg hcmp hH hblk hsz
open Go.RowKit Go.Lib Go.Sort in
theorem Tryz.slices_SortFunc_f140 {α : Type} [Inhabited α] (k : Nat) (aE : ∀ w, (isAgg 51).run Tryz.prog w = .ok true w) (zE : ∀ w, (Go.sizeOf 51).run Tryz.prog w = .ok k w) (enc : α → List Value) (hk : ∀ x, (enc x).length = k) (h1 : ∀ x, ∀ v ∈ enc x, v.oneCell' = true) (cf : α → α → Int) (hO : SWO (ltOf cf)) (g : Nat) (cb : Array Value) (blk off cap : Nat) (d : Array α) (w : World) (eg : ∀ args w, (callFunc g args).run Tryz.prog w = .ok (.enter g args) w) (hcmp : CmpLays Tryz.prog g cb enc k cf blk off d.size w) (hH : HoldsK enc k w blk off d) (hblk : blk < w.heap.size) (hsz : d.size < 4611686018427387904) :
    Calls Tryz.prog 140 #[.slice (some ⟨blk, off, none⟩) d.size cap, .func (.func g) #[] cb] w fun e w' =>
      e = .returned (.tuple #[]) ∧ ∃ d' n os, PermIn 0 d.size d d' ∧ SortedIn (ltOf cf) 0 d.size d' ∧ w' = sortWorldK enc k w blk off n d' os := AnyQ.slices_SortFunc Tryz.laysSlF06_f140 k aE zE enc hk h1 cf hO g cb blk off cap d w eg hcmp hH hblk hsz
open Go.RowKit Go.Lib Go.Sort in
theorem Tryz.slices_SortFunc_none_f54 {α : Type} [Inhabited α] (p : Option Addr) (cap : Nat) (fv : Value) (w : World) :
    Calls Tryz.prog 54 #[.slice p 0 cap, fv] w fun e w' => e = .returned (.tuple #[]) ∧ w' = w := AnyF.slices_SortFunc_none Tryz.laysSlF06_f54 p cap fv w
open Go.RowKit Go.Lib Go.Sort in
theorem Tryz.slices_SortFunc_none_f140 {α : Type} [Inhabited α] (p : Option Addr) (cap : Nat) (fv : Value) (w : World) :
    Calls Tryz.prog 140 #[.slice p 0 cap, fv] w fun e w' => e = .returned (.tuple #[]) ∧ w' = w := AnyF.slices_SortFunc_none Tryz.laysSlF06_f140 p cap fv w
end Go.Proofs
/-
  The shelf of the library's contracts, where they lie.
-/

/-
  The package-level variables of Go's own packages that this program reads, and the contracts of the functions of Go that it calls.
-/
namespace Go.Proofs.YtipaangiehdgkaaGreatDoor
set_option maxRecDepth 100000

open Go.RowKit

theorem var_on {P : Program} {n : String} {w w' : World} {cs : Array Value} (h : w.var? P n = some cs) (hb : Below w.heap.size w w') : w'.var? P n = some cs := by
  unfold World.var? at h ⊢
  cases hg : P.globalNamed n with
  | none => simp [hg] at h
  | some g =>
    simp only [hg, Option.bind_some] at h ⊢
    have hlt : g < w.heap.size := by
      rcases Nat.lt_or_ge g w.heap.size with h' | h'
      · exact h'
      · rw [Array.getElem?_eq_none h'] at h; simp at h
    rw [hb.block g hlt]
    exact h
/-- The table of powers of ten, and the two errors of numbers, lie there. -/
structure Laid (w : World) : Prop where
  tab : Lib.TabIs Tryz.prog w "internal/strconv.uint64pow10" .u64 Lib.pow10Tab
  syn : ∃ tp p, w.var? Tryz.prog "strconv.ErrSyntax" = some #[.iface tp p]
  ran : ∃ tp p, w.var? Tryz.prog "strconv.ErrRange" = some #[.iface tp p]
theorem Laid.on {w w' : World} (h : Laid w) (hb : Below w.heap.size w w') : Laid w' := by
  obtain ⟨h1, ⟨t2, p2, h2⟩, ⟨t3, p3, h3⟩⟩ := h
  exact ⟨var_on h1 hb, ⟨t2, p2, var_on h2 hb⟩, ⟨t3, p3, var_on h3 hb⟩⟩
theorem prefix_any (s p : ByteArray) (w : World) :
    Calls Tryz.prog 192 #[.string s, .string p] w fun e w' => e = .returned (.bool (Lib.hasPrefix s.data.toList p.data.toList)) ∧ w = w' := by
  rw [← Lib.hasPrefix_of_take, ← Lib.size_eq, ← Lib.size_eq]
  go_enter Tryz.func192, Tryz.ntmps192
  go_wp2
  · rename_i h
    go_ret
    refine ⟨?_, rfl⟩
    show Ending.returned (Value.bool ((s.extract 0 p.size).toList == p.toList)) = _
    rw [Lib.extract_toList, Lib.toList_data]
    simp [h]
  · rename_i h
    go_ret
    refine ⟨?_, rfl⟩
    show Ending.returned (Value.bool false) = _
    simp [h]
end Go.Proofs.YtipaangiehdgkaaGreatDoor
/-
  The two tables of package table, and the contracts of its small functions.
-/
namespace Go.Proofs.YtipaangiehdgkaaGreatDoor
set_option maxRecDepth 100000

open Go.RowKit

def plainsC : Array Value := #[.string (txt tInt64), .int .i64 0, .string (txt tSint64), .int .i64 1, .string (txt tUint32), .int .i64 2, .string (txt tBool), .int .i64 3, .string (txt tFixed32), .int .i64 4, .string (txt tSfixed64), .int .i64 5, .string (txt tString), .int .i64 7, .string (txt tBytes), .int .i64 8]
def stancesC : Array Value := #[.bool false, .bool false, .bool false, .bool true, .bool false, .bool false, .bool false, .bool true, .bool false, .bool false, .bool false, .bool true]
/-- The tables lie there. -/
structure Tabs (w : World) : Prop where
  plains : TabAt w 0 plainsC
  stances : TabAt w 1 stancesC
theorem Tabs.on {w w' : World} (h : Tabs w) (hb : Below w.heap.size w w') : Tabs w' := ⟨h.plains.on hb, h.stances.on hb⟩

theorem index_plain (w : World) {k : Nat} {p : List UInt8 × Nat} (h : plainsL[k]? = some p) : (Instr.index 174 (.agg plainsC) (.int .i64 k)).run Tryz.prog w = .ok (.agg #[.string (txt p.1), .int .i64 p.2]) w := by
  obtain ⟨hk, rfl⟩ := List.getElem?_eq_some_iff.1 h
  have hc : k = 0 ∨ k = 1 ∨ k = 2 ∨ k = 3 ∨ k = 4 ∨ k = 5 ∨ k = 6 ∨ k = 7 := by simp [plainsL] at hk; omega
  clear h
  rcases hc with rfl | rfl | rfl | rfl | rfl | rfl | rfl | rfl <;> (change _ = _; kernel_rfl)
def stanceL : List (Bool × Bool × Bool) := [(false, false, false), (true, false, false), (false, true, false), (false, false, true)]
theorem index_stance (w : World) {k : Nat} {p : Bool × Bool × Bool} (h : stanceL[k]? = some p) : (Instr.index 233 (.agg stancesC) (.int .i64 k)).run Tryz.prog w = .ok (.agg #[.bool p.1, .bool p.2.1, .bool p.2.2]) w := by
  obtain ⟨hk, rfl⟩ := List.getElem?_eq_some_iff.1 h
  have hc : k = 0 ∨ k = 1 ∨ k = 2 ∨ k = 3 := by simp [stanceL] at hk; omega
  clear h
  rcases hc with rfl | rfl | rfl | rfl <;> (change _ = _; kernel_rfl)

theorem isKey_any (k : Int) (w : World) : Calls Tryz.prog 161 #[.int .i64 k] w fun e w' => e = .returned (.bool (keyedB k)) ∧ w = w' := by
  have H : Hid (keyedB k = (k == 0 || k == 1 || k == 2 || k == 3 || k == 4 || k == 5 || k == 7)) := Lib.hid rfl
  go_enter Tryz.func161, Tryz.ntmps161
  go_wp2
  all_goals (go_ret; refine ⟨ret_bool ?_, rfl⟩; rw [H.out]; first | (simp_all; done) | (rw [Bool.eq_iff_iff]; simp_all [or_assoc]))
theorem isNumber_any (n : Int) (w : World) : Calls Tryz.prog 133 #[.int .i64 n] w fun e w' => e = .returned (.bool (numberB n)) ∧ w = w' := by
  have H : Hid (numberB n = (decide (1 ≤ n) && decide (n ≤ 536870911) && (decide (n < 19000) || decide (19999 < n)))) := Lib.hid (by
    unfold numberB
    congr 1
    rw [Bool.eq_iff_iff]
    simp only [Bool.not_eq_true', Bool.and_eq_false_iff, decide_eq_false_iff_not, Bool.or_eq_true, decide_eq_true_eq]
    omega)
  go_enter Tryz.func133, Tryz.ntmps133
  go_wp2
  all_goals (go_ret; refine ⟨ret_bool ?_, rfl⟩; rw [H.out]; first | (simp_all; done) | (rw [Bool.eq_iff_iff]; simp only [Bool.and_eq_true, Bool.or_eq_true, decide_eq_true_eq, Bool.false_eq_true, true_iff, false_iff]; omega))
theorem isEnums_any (n : Int) (w : World) : Calls Tryz.prog 166 #[.int .i64 n] w fun e w' => e = .returned (.bool (decide (-2147483648 ≤ n) && decide (n ≤ 2147483647))) ∧ w = w' := by
  go_enter Tryz.func166, Tryz.ntmps166
  go_wp2
  all_goals (go_ret; refine ⟨ret_bool ?_, rfl⟩; first | (simp_all; done) | (rw [Bool.eq_iff_iff]; simp only [Bool.and_eq_true, Bool.or_eq_true, decide_eq_true_eq, Bool.false_eq_true, true_iff, false_iff]; omega))
theorem mayName_any (n : Int) (w : World) : Calls Tryz.prog 135 #[.int .i64 n] w fun e w' => e = .returned (.bool (decide (1 ≤ n) && decide (n ≤ 30))) ∧ w = w' := by
  go_enter Tryz.func135, Tryz.ntmps135
  go_wp2
  all_goals (go_ret; refine ⟨ret_bool ?_, rfl⟩; first | (simp_all; done) | (rw [Bool.eq_iff_iff]; simp only [Bool.and_eq_true, Bool.or_eq_true, decide_eq_true_eq, Bool.false_eq_true, true_iff, false_iff]; omega))
theorem mayHold_any (n m : Int) (w : World) : Calls Tryz.prog 80 #[.int .i64 n, .int .i64 m] w fun e w' => e = .returned (.bool (decide (1 ≤ n) && decide (n ≤ 20) && decide (m ≤ 20))) ∧ w = w' := by
  go_enter Tryz.func80, Tryz.ntmps80
  go_wp2
  all_goals (go_ret; refine ⟨ret_bool ?_, rfl⟩; first | (simp_all; done) | (rw [Bool.eq_iff_iff]; simp only [Bool.and_eq_true, Bool.or_eq_true, decide_eq_true_eq, Bool.false_eq_true, true_iff, false_iff]; omega))

theorem eql_stance (a b c a' b' c' : Bool) (w : World) : Sem.run Tryz.prog (binOp .eql 232 (.agg #[.bool a, .bool b, .bool c]) (.agg #[.bool a', .bool b', .bool c'])) w = .ok (.bool (decide ((a, b, c) = (a', b', c')))) w := by
  cases a <;> cases b <;> cases c <;> cases a' <;> cases b' <;> cases c' <;> kernel_rfl
theorem stand_list (ones one : Int) (rep pairs : Bool) (h0 : 0 ≤ one) (h1 : one ≤ ones) : standB ones one rep pairs = stanceL.contains (rep, pairs, decide (one ≠ 0)) := by
  unfold standB
  rw [decide_eq_true h0, decide_eq_true h1]
  cases rep <;> cases pairs <;> cases decide (one ≠ 0) <;> rfl
set_option maxRecDepth 1000000 in
set_option maxHeartbeats 1000000 in
theorem mayStand_any (ones one : Int) (rep pairs : Bool) (w : World) (T : Tabs w) :
    Calls Tryz.prog 163 #[.int .i64 ones, .int .i64 one, .bool rep, .bool pairs] w fun e w' => e = .returned (.bool (standB ones one rep pairs)) ∧ Below w.heap.size w w' := by
  obtain ⟨tt, fr, hT⟩ := T.stances
  clear T
  by_cases h0 : one < 0
  · have H : Hid (standB ones one rep pairs = false) := Lib.hid (by unfold standB; rw [decide_eq_false (by omega)]; simp)
    have hd : decide (one < 0) = true := decide_eq_true h0
    go_enter Tryz.func163, Tryz.ntmps163
    go_wp2
    go_ret
    exact ⟨by rw [H.out]; rfl, Below.refl _ _⟩
  · have hd : decide (one < 0) = false := decide_eq_false h0
    by_cases h1 : ones < one
    · have H : Hid (standB ones one rep pairs = false) := Lib.hid (by unfold standB; rw [decide_eq_false (show ¬ one ≤ ones by omega)]; simp)
      have hd2 : decide (one > ones) = true := decide_eq_true h1
      have hd3 : decide (ones < one) = true := decide_eq_true h1
      go_enter Tryz.func163, Tryz.ntmps163
      go_wp2
      go_ret
      exact ⟨by rw [H.out]; rfl, Below.refl _ _⟩
    · have H := Lib.hid (stand_list ones one rep pairs (by omega) (by omega))
      have hd2 : decide (one > ones) = false := decide_eq_false h1
      have hd3 : decide (ones < one) = false := decide_eq_false h1
      obtain ⟨o, ho⟩ : ∃ o, (one != 0) = o := ⟨_, rfl⟩
      have HO : Hid (decide (one ≠ 0) = o) := Lib.hid (by rw [← ho]; by_cases h : one = 0 <;> simp [h])
      go_enter Tryz.func163, Tryz.ntmps163
      go_wp2_with (refine wpList_load_row rfl 233 _ rfl 1 rfl tt _ fr _ hT Tryz.underlying233 rfl (by kernel_rfl) ?_)
      go_loopw [19] (fun i wr => ∃ k : Nat, i = .int .i64 k ∧ k ≤ 4 ∧ (stanceL.take k).contains (rep, pairs, o) = false ∧ Below w.heap.size w wr) (fun i _ => 4 - (intOf i).toNat)
      case atStart => exact ⟨0, rfl, by omega, rfl, Below.refl _ _⟩
      case round =>
        obtain ⟨k, rfl, hk, hf, hb⟩ := hrel
        by_cases hlt : k < 4
        · obtain ⟨p, hp⟩ : ∃ p, stanceL[k]? = some p := ⟨_, List.getElem?_eq_getElem hlt⟩
          have hi := index_stance wr hp
          have hq := fun w => eql_stance p.1 p.2.1 p.2.2 rep pairs o w
          have HF := Lib.hid hf
          have HP := Lib.hid hp
          clear hf hp
          obtain ⟨d, hd⟩ : ∃ d, decide ((p.1, p.2.1, p.2.2) = (rep, pairs, o)) = d := ⟨_, rfl⟩
          have HD := Lib.hid hd
          rw [hd] at hq
          clear hd
          cases d with
          | true =>
            go_wp2
            go_ret
            refine ⟨?_, hb.trans (below_new _ _ |>.mono hb.size)⟩
            rw [H.out, HO.out, ← of_decide_eq_true HD.out]
            have : stanceL.contains (p.1, p.2.1, p.2.2) = true := by rw [List.contains_eq_mem, decide_eq_true_eq]; exact List.mem_of_getElem? HP.out
            rw [this]; rfl
          | false =>
            go_wp2
            refine ⟨⟨k + 1, by go_num, by omega, ?_, hb.trans (below_new _ _ |>.mono hb.size)⟩, by simp [intOf]; omega⟩
            rw [List.take_add_one, HP.out]
            have h1 := HF.out
            have h2 := of_decide_eq_false HD.out
            rw [List.contains_eq_mem, decide_eq_false_iff_not] at h1 ⊢
            intro hm
            rcases List.mem_append.1 hm with hm | hm
            · exact h1 hm
            · have : (rep, pairs, o) = p := by simpa using hm
              exact h2 this.symm
        · obtain rfl : k = 4 := by omega
          go_wp2
          go_ret
          refine ⟨?_, hb⟩
          rw [H.out, HO.out]
          rw [show stanceL.take 4 = stanceL from rfl] at hf
          rw [hf]; rfl
end Go.Proofs.YtipaangiehdgkaaGreatDoor
/-
  Blanks: the contracts of the functions that go past them.
-/
namespace Go.Proofs.YtipaangiehdgkaaGreatDoor
set_option maxRecDepth 100000

open Go.RowKit

end Go.Proofs.YtipaangiehdgkaaGreatDoor
/-
  Bytes by their sorts: the contracts of the small functions that tell them.
-/
namespace Go.Proofs.YtipaangiehdgkaaGreatDoor
set_option maxRecDepth 100000

open Go.RowKit

end Go.Proofs.YtipaangiehdgkaaGreatDoor
/-
  Blanks, signs, halves of bytes and digits, by the document's own functions: their contracts.
-/
namespace Go.Proofs.YtipaangiehdgkaaGreatDoor
set_option maxRecDepth 100000

open Go.RowKit

end Go.Proofs.YtipaangiehdgkaaGreatDoor
/-
  A number's digits, and the number of digits, by the document's own functions: their contracts.
-/
namespace Go.Proofs.YtipaangiehdgkaaGreatDoor
set_option maxRecDepth 100000

open Go.RowKit

end Go.Proofs.YtipaangiehdgkaaGreatDoor
/-
  The number of digits, with a sign or not, by the document's own function: its contract.
-/
namespace Go.Proofs.YtipaangiehdgkaaGreatDoor
set_option maxRecDepth 100000

open Go.RowKit

def NumPost (O : Option Int) (w : World) (e : Ending) (w' : World) : Prop := ∃ v, e = .returned (.tuple #[.int .i64 v, .bool O.isSome]) ∧ (∀ x, O = some x → v = x) ∧ Below w.heap.size w w'
theorem NumPost.no {O : Option Int} {w w' : World} (h : O = none) (hb : Below w.heap.size w w') : NumPost O w (.returned (.tuple #[.int .i64 0, .bool false])) w' := by
  subst h; exact ⟨0, rfl, fun x hx => (by cases hx), hb⟩
end Go.Proofs.YtipaangiehdgkaaGreatDoor
/-
  Marks within a string: the contracts of the functions that tell what they mean.
-/
namespace Go.Proofs.YtipaangiehdgkaaGreatDoor
set_option maxRecDepth 100000

open Go.RowKit

end Go.Proofs.YtipaangiehdgkaaGreatDoor
