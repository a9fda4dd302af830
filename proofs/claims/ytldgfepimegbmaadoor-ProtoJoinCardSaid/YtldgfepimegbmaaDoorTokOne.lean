/-
  What a string means, by the document's own function: its contract.
-/
import Derived.Test.YtldgfepimegbmaaDoorTokStr
import Derived.Deep.RegionHeldLaw
import Derived.Deep.QuietTactic
import Derived.Test.YtldgfepimegbmaaDoorTokRead
namespace Go.Proofs.YtldgfepimegbmaaDoor
set_option maxRecDepth 100000

open Go.RowKit

/-- What the document tells of a string. -/
def DV (o : Option (List UInt8 × Nat)) (p : Nat) : Value := match o with
  | none => .tuple #[.string ⟨#[]⟩, .int .i64 (-1)]
  | some x => .tuple #[.string (txt x.1), .int .i64 ((p + 1 + x.2 : Nat) : Int)]
theorem StrRel.stopD {L : List UInt8} {p k : Nat} {pre : List UInt8} (h : StrRel L p k pre) (hs : strB 0 (L.drop k) = none) : strB 0 (L.drop (p + 1)) = none := by
  unfold StrRel at h
  rw [h, hs]; rfl
theorem StrRel.doneD {L : List UInt8} {p k : Nat} {pre : List UInt8} (h : StrRel L p k pre) (hk : p < k) (hs : strB 0 (L.drop k) = some ([], 1)) : strB 0 (L.drop (p + 1)) = some (pre, k - p) := by
  unfold StrRel at h
  rw [h, hs]
  simp; omega
theorem ret_dtext {o : Option (List UInt8 × Nat)} {t : List UInt8} {m p : Nat} {x y : Value} (h : o = some (t, m)) (hx : x = .string (txt t)) (hy : y = .int .i64 ((p + 1 + m : Nat) : Int)) : Ending.returned (.tuple #[x, y]) = .returned (DV o p) := by
  subst h hx hy; rfl
theorem ret_nodtext {o : Option (List UInt8 × Nat)} {p : Nat} (h : o = none) : Ending.returned (.tuple #[.string ⟨#[]⟩, .int .i64 (-1)]) = .returned (DV o p) := by
  subst h; rfl
/-- What stands in a string, by the sorts that the document tells apart. -/
theorem str_plain {l : List UInt8} {k : Nat} {c : UInt8} (h : l[k]? = some c) (h34 : c ≠ 34) (h92 : c ≠ 92) :
    ((c.toNat < 32 ∨ c.toNat = 127) → strB 0 (l.drop k) = none) ∧ (¬ (c.toNat < 32 ∨ c.toNat = 127) → strB 0 (l.drop k) = (strB 0 (l.drop (k + 0 + 1))).map fun y => (c :: y.1, y.2 + 0 + 1)) := by
  have e34 : (c == 34) = false := by simpa using h34
  have hat := str_at h
  rw [e34, ws_at h, meant_plain h92] at hat
  rw [ws_at h]
  simp only [Bool.false_eq_true, if_false] at hat
  have hlt := c.toNat_lt
  constructor
  · intro hc
    have : (isPlain c || decide (128 ≤ c.toNat)) = false := by simp only [isPlain, Bool.or_eq_false_iff, Bool.and_eq_false_iff, decide_eq_false_iff_not]; omega
    rw [this] at hat
    exact hat
  · intro hc
    have : (isPlain c || decide (128 ≤ c.toNat)) = true := by simp only [isPlain, Bool.or_eq_true, Bool.and_eq_true, decide_eq_true_eq]; omega
    rw [this] at hat
    exact hat

end Go.Proofs.YtldgfepimegbmaaDoor
/-
  The token that begins at a place, by the document's own function: its contract.
-/
namespace Go.Proofs.YtldgfepimegbmaaDoor
set_option maxRecDepth 100000

open Go.RowKit

def OnePost (o : Option Tk) (p : Nat) (w : World) (e : Ending) (w' : World) : Prop :=
  (match o with
    | none => ∃ (k n q : Int) (s : ByteArray), e = .returned (.tuple #[.agg #[.int .i64 k, .string s, .int .i64 n, .int .i64 q], .int .i64 (-1)])
    | some t => e = .returned (.tuple #[TokV t.kind (txt t.text) t.num p, .int .i64 ((p + t.more + 1 : Nat) : Int)])) ∧ Below w.heap.size w w'
theorem OnePost.no {o : Option Tk} {p : Nat} {w w' : World} {k n q : Int} {s : ByteArray} (h : o = none) (hb : Below w.heap.size w w') : OnePost o p w (.returned (.tuple #[.agg #[.int .i64 k, .string s, .int .i64 n, .int .i64 q], .int .i64 (-1)])) w' := by
  subst h; exact ⟨⟨k, n, q, s, rfl⟩, hb⟩
theorem OnePost.yes {o : Option Tk} {t : Tk} {p : Nat} {w w' : World} {x y : Value} (h : o = some t) (hx : x = TokV t.kind (txt t.text) t.num p) (hy : y = .int .i64 ((p + t.more + 1 : Nat) : Int)) (hb : Below w.heap.size w w') : OnePost o p w (.returned (.tuple #[x, y])) w' := by
  subst h hx hy; exact ⟨rfl, hb⟩
theorem tk_first {l : List UInt8} {c : UInt8} {r T : List UInt8} (hd : l = c :: r) (hc : isFirst c = true) (hT : T = c :: r.take (span isNext r)) : tk Lib.itoa l = some ⟨0, T, 0, span isNext r⟩ := by
  subst hd hT; simp [tk, hc]
theorem tk_str {l : List UInt8} {c : UInt8} {r : List UInt8} (hd : l = c :: r) (hc : c = 34) : tk Lib.itoa l = strT r := by
  subst hd hc
  simp only [tk, show isFirst 34 = false from rfl, show (isDigit 34 || (34 : UInt8) == 45) = false from rfl, Bool.false_eq_true, if_false, beq_self_eq_true, if_true]
  rfl
theorem tk_sign {l : List UInt8} {c : UInt8} {r : List UInt8} (hd : l = c :: r) (h1 : isFirst c = false) (h2 : (isDigit c || c == 45) = false) (h3 : (c == 34) = false) : tk Lib.itoa l = if isSign c then some ⟨3, [c], 0, 0⟩ else none := by
  subst hd
  simp only [tk, h1, h2, h3, Bool.false_eq_true, if_false]

end Go.Proofs.YtldgfepimegbmaaDoor
