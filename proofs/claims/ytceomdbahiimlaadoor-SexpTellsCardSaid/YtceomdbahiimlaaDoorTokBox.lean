/-
  Tokens as they lie in memory: boxes of one token, results of which the first is one.
-/
import Derived.Test.YtceomdbahiimlaaDoorTokMark
import Derived.Great.BuildSlice
import Derived.Deep.WholeRow
import Derived.Laws.CopyOwn
namespace Go.Proofs.YtceomdbahiimlaaDoor
set_option maxRecDepth 100000

open Go.RowKit

theorem results_row_tmp2 {P : Program} {fn : Func} {p u v : Tmp} {ty : TypeId} (h : fn.results = #[.cell p ty, .tmp u, .tmp v]) (tmps : Array Value) (w : World) (g : Nat) (t : TypeId) (cs : Array Value) (fr : Nat × Nat) (d : TypeDesc)
    (hp : tmps.getD p undef = .pointer (some ⟨g, 0, none⟩)) (hg : w.heap[g]? = some (.cells cs t fr))
    (hu : P.underlying ty = some d) (hd : (match d with | .struct _ | .array _ _ => true | _ => false) = true) (hi : (P.info? ty).map (·.size) = some cs.size) :
    (results fn tmps).run P w = .ok (.tuple #[.agg cs, tmps.getD u undef, tmps.getD v undef]) w := by
  have hp' : tmps[p]?.getD undef = .pointer (some ⟨g, 0, none⟩) := by simpa using hp
  simp [results, h, hp', asAddr, run_loadVar_row w g t ty cs fr d hg hu hd hi]
theorem results_row_tmp1 {P : Program} {fn : Func} {p u : Tmp} {ty : TypeId} (h : fn.results = #[.cell p ty, .tmp u]) (tmps : Array Value) (w : World) (g : Nat) (t : TypeId) (cs : Array Value) (fr : Nat × Nat) (d : TypeDesc)
    (hp : tmps.getD p undef = .pointer (some ⟨g, 0, none⟩)) (hg : w.heap[g]? = some (.cells cs t fr))
    (hu : P.underlying ty = some d) (hd : (match d with | .struct _ | .array _ _ => true | _ => false) = true) (hi : (P.info? ty).map (·.size) = some cs.size) :
    (results fn tmps).run P w = .ok (.tuple #[.agg cs, tmps.getD u undef]) w := by
  have hp' : tmps[p]?.getD undef = .pointer (some ⟨g, 0, none⟩) := by simpa using hp
  simp [results, h, hp', asAddr, run_loadVar_row w g t ty cs fr d hg hu hd hi]

theorem own_mono {w : World} {base base' : Nat} {e : TypeId} {size : Nat} {v : Value} {n : Nat} {xs : List Value} (h : w.ownsRow base e size v n xs) (hb : base' ≤ base) : w.ownsRow base' e size v n xs := by
  rcases h with ⟨hl, ⟨rfl, rfl⟩ | ⟨g, cap, cur, rfl, h1, h2⟩⟩
  · exact ⟨hl, .inl ⟨rfl, rfl⟩⟩
  · exact ⟨hl, .inr ⟨g, cap, cur, rfl, Nat.le_trans hb h1, h2⟩⟩
/-- A row of the call's own stays where nothing old turns. -/
theorem own_below {w w' : World} {base : Nat} {e : TypeId} {size : Nat} {v : Value} {n : Nat} {xs : List Value} (h : w.ownsRow base e size v n xs) (hb : Below w.heap.size w w') : w'.ownsRow base e size v n xs := by
  rcases h with ⟨hl, ⟨rfl, rfl⟩ | ⟨g, cap, cur, rfl, h1, h2, h3⟩⟩
  · exact ⟨hl, .inl ⟨rfl, rfl⟩⟩
  · exact ⟨hl, .inr ⟨g, cap, cur, rfl, h1, (hb.block g (Array.getElem?_eq_some_iff.1 h2).1).trans h2, h3⟩⟩
theorem bs_snoc (a : List UInt8) (b : UInt8) : bs a ++ [Value.int .u8 (b.toNat : Int)] = bs (a ++ [b]) := by rw [bs_append]; rfl
/-- A box below a base stays where a row from that base on is written. -/
theorem box_grown {w w' : World} {g base : Nat} {o : Obj} {row : Option Nat} (h : w.heap[g]? = some o) (hg : w.grownBy w' row) (hr : ∀ k, row = some k → base ≤ k) (hlt : g < base) : w'.heap[g]? = some o := by
  have hlt2 := (Array.getElem?_eq_some_iff.1 h).1
  rw [hg.block g hlt2 (fun e => by have := hr g e.symm; omega)]
  exact h
theorem infoTok : (Tryd.prog.info? 45).map (·.size) = some 4 := by kernel_rfl
def TokV (kind : Nat) (text : ByteArray) (n : Int) (p : Nat) : Value := .agg #[.int .i64 kind, .string text, .int .i64 n, .int .i64 p]

/-- A token is stored where one lies. -/
theorem wpList_store_tok {ops : Array Oper} {rest : List Oper} {o : Oper} {a : Act} {w : World} {Q : Exit → Act → World → Prop} (hgd : o.guard = none) (x y : Operand) (ho : o.op = .store 45 x y)
    (hd : o.dst = none) (g : Nat) (k1 n1 p1 k0 n0 p0 : Int) (t1 t0 : ByteArray) (hx : a.eval x = .pointer (some ⟨g, 0, none⟩)) (hy : a.eval y = .agg #[.int .i64 k1, .string t1, .int .i64 n1, .int .i64 p1])
    (t : TypeId) (hg : w.heap[g]? = some (.cells #[.int .i64 k0, .string t0, .int .i64 n0, .int .i64 p0] t (0, 0)))
    (h : wpList Tryd.prog ops Q rest a (w.setRow g #[.int .i64 k1, .string t1, .int .i64 n1, .int .i64 p1])) : wpList Tryd.prog ops Q (o :: rest) a w :=
  wpList_store_rowTo hgd 45 x y ho hd g _ hx hy t _ hg infoTok rfl (by simp [Value.oneCell']) h
theorem results_tok {fn : Func} {p u v : Tmp} (h : fn.results = #[.cell p 45, .tmp u, .tmp v]) (tmps : Array Value) (w : World) (g : Nat) (t : TypeId) (k n q : Int) (s : ByteArray) (fr : Nat × Nat)
    (hp : tmps.getD p undef = .pointer (some ⟨g, 0, none⟩)) (hg : w.heap[g]? = some (.cells #[.int .i64 k, .string s, .int .i64 n, .int .i64 q] t fr)) :
    (results fn tmps).run Tryd.prog w = .ok (.tuple #[.agg #[.int .i64 k, .string s, .int .i64 n, .int .i64 q], tmps.getD u undef, tmps.getD v undef]) w :=
  results_row_tmp2 h tmps w g t _ fr _ hp hg Tryd.underlying45 rfl infoTok
theorem results_tok1 {fn : Func} {p u : Tmp} (h : fn.results = #[.cell p 45, .tmp u]) (tmps : Array Value) (w : World) (g : Nat) (t : TypeId) (k n q : Int) (s : ByteArray) (fr : Nat × Nat)
    (hp : tmps.getD p undef = .pointer (some ⟨g, 0, none⟩)) (hg : w.heap[g]? = some (.cells #[.int .i64 k, .string s, .int .i64 n, .int .i64 q] t fr)) :
    (results fn tmps).run Tryd.prog w = .ok (.tuple #[.agg #[.int .i64 k, .string s, .int .i64 n, .int .i64 q], tmps.getD u undef]) w :=
  results_row_tmp1 h tmps w g t _ fr _ hp hg Tryd.underlying45 rfl infoTok

/-- What is told of a token that begins at a place. -/
def SV (o : Option Tk) (p : Nat) : Value := match o with
  | none => .tuple #[TokV 0 ⟨#[]⟩ 0 0, .int .i64 0, .bool false]
  | some t => .tuple #[TokV t.kind (txt t.text) t.num p, .int .i64 ((p + t.more + 1 : Nat) : Int), .bool true]
def strT (l : List UInt8) : Option Tk := (strB 0 l).map fun x => ⟨2, x.1, 0, x.2⟩
end Go.Proofs.YtceomdbahiimlaaDoor
