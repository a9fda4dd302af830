/-
  Nodes: how tokens make one, whether one may be, and its text.
-/
import Derived.Test.YtceomdbahiimlaaDoorTokMath
namespace Go.Proofs.YtceomdbahiimlaaDoor.T14
set_option maxRecDepth 100000

theorem att {α β : Type} (l : List α) (f : α → β) : (l.attach.map fun ⟨y, _⟩ => f y) = l.map f := by
  rw [show (fun x : {x // x ∈ l} => match x with | ⟨y, _⟩ => f y) = fun x => f x.1 from funext fun ⟨_, _⟩ => rfl]
  simp
/-- A node: its kind, text and number, where it begins, and those in it. -/
inductive Nd : Type where
  | mk (kind : Int) (text : List UInt8) (num at_ : Int) (l : List Nd) : Nd
namespace Nd

def kind : Nd → Int | .mk k _ _ _ _ => k
def text : Nd → List UInt8 | .mk _ t _ _ _ => t
def num : Nd → Int | .mk _ _ n _ _ => n
def at_ : Nd → Int | .mk _ _ _ a _ => a
def l : Nd → List Nd | .mk _ _ _ _ l => l
theorem eta (x : Nd) : x = .mk x.kind x.text x.num x.at_ x.l := by cases x; rfl
theorem sz {x y : Nd} (h : y ∈ x.l) : SizeOf.sizeOf y < SizeOf.sizeOf x := by
  cases x with
  | mk k t n a l =>
    have h1 := List.sizeOf_lt_of_mem (show y ∈ l from h)
    simp; omega
theorem ind {P : Nd → Prop} (h : ∀ x, (∀ y ∈ x.l, P y) → P x) : ∀ x, P x := by
  have : ∀ (k : Nat) x, SizeOf.sizeOf x < k → P x := by
    intro k
    induction k with
    | zero => intro x hx; omega
    | succ k ih => exact fun x hx => h x fun y hy => ih y (by have := sz hy; omega)
  exact fun x => this _ x (Nat.lt_succ_self _)
/-- Without the places. -/
def un : Nd → Nd
  | .mk k t n _ l => .mk k t n 0 (l.attach.map fun ⟨y, _⟩ => un y)
theorem un_eq (x : Nd) : x.un = .mk x.kind x.text x.num 0 (x.l.map un) := by
  cases x with
  | mk k t n a l =>
    rw [un]
    congr 1
    exact att l un
def zero : Nd := .mk 0 [] 0 0 []
instance : Inhabited Nd := ⟨zero⟩
def add (q n : Nd) : Nd := .mk q.kind q.text q.num q.at_ (q.l ++ [n])
end Nd

/-! ### How tokens make one -/

/-- The lists that are open, the innermost one first, and the one node, behind it. -/
structure Ps where
  o : List Nd
  w : Option Nd
def leaf (t : T) : Nd := .mk t.kind t.text t.num t.at_ []
def putP : List Nd → Nd → Ps
  | [], n => ⟨[], some n⟩
  | q :: r, n => ⟨q.add n :: r, none⟩
def stepP (t : T) (p : Ps) : Except Nat Ps :=
  if p.w.isSome then .error 4
  else if t.kind ≠ 3 ∨ t.text = [46] then .ok (putP p.o (leaf t))
  else if t.text = [40] then (if p.o.length = 16 then .error 2 else .ok ⟨.mk 4 [] 0 t.at_ [] :: p.o, none⟩)
  else if t.text = [41] then (match p.o with | [] => .error 4 | q :: r => .ok (putP r q))
  else .error 4
def runP : List T → Ps → Except (Nat × Nat) Ps
  | [], p => .ok p
  | t :: l, p => match stepP t p with
    | .error e => .error (e, t.at_)
    | .ok q => runP l q
theorem runP_append : ∀ (l m : List T) (p : Ps), runP (l ++ m) p = (runP l p).bind (runP m)
  | [], _, _ => rfl
  | t :: l, m, p => by
    show runP (t :: (l ++ m)) p = (runP (t :: l) p).bind (runP m)
    simp only [runP]
    cases stepP t p with
    | error e => rfl
    | ok q => exact runP_append l m q
def endP (n : Nat) (x : Except (Nat × Nat) Ps) : Nd × Nat × Nat :=
  match x with
  | .error (e, a) => (Nd.zero, a, e)
  | .ok p => match p.w with
    | some x => (x, n, 0)
    | none => (Nd.zero, n, 4)
/-- What a text is: the node, the place, the error. -/
def parR (itoa : Int → List UInt8) (s : List UInt8) : Nd × Nat × Nat :=
  if allE itoa s ≠ 0 then (Nd.zero, allAt itoa s, allE itoa s) else endP s.length (runP (allT itoa s) ⟨[], none⟩)

/-! ### Whether one may be -/

/-- Is a node's text the one token that the node is? -/
def tokB (itoa : Int → List UInt8) (x : Nd) : Bool :=
  match allT itoa x.text with
  | [t] => decide ((t.kind : Int) = x.kind) && decide (t.text = x.text) && decide (t.num = x.num) && decide (t.at_ = 0)
  | _ => false
/-- One that is no list. -/
def leafB (itoa : Int → List UInt8) (x : Nd) : Bool :=
  x.l.isEmpty && (if x.kind = 0 ∨ x.kind = 1 then tokB itoa x else if x.kind = 2 then decide (x.num = 0) else if x.kind = 3 then decide (x.text = [46]) && decide (x.num = 0) else false)
/-- One that is within so many lists, as far as those in it are not asked. -/
def fitB (itoa : Int → List UInt8) (x : Nd) (i : Nat) : Bool :=
  if x.kind = 4 then decide (x.text = []) && decide (x.num = 0) && decide (i < 16) else leafB itoa x
/-- A node, and all in it, within so many lists, each one before those in it. -/
def Nd.pre : Nd → Nat → List (Nd × Nat)
  | .mk k t n a l, i => (.mk k t n a l, i) :: (l.attach.map fun ⟨y, _⟩ => Nd.pre y (i + 1)).flatten
theorem Nd.pre_eq (x : Nd) (i : Nat) : x.pre i = (x, i) :: (x.l.map fun y => y.pre (i + 1)).flatten := by
  cases x with
  | mk k t n a l =>
    rw [Nd.pre]
    congr 2
    exact att l fun y => y.pre (i + 1)
def mayB (itoa : Int → List UInt8) (x : Nd) : Bool := (x.pre 0).all fun y => fitB itoa y.1 y.2

/-! ### Its text -/

def sepB : List (List UInt8) → List UInt8
  | [] => []
  | [x] => x
  | x :: y :: l => x ++ 32 :: sepB (y :: l)
def Nd.str : Nd → List UInt8
  | .mk k t _ _ l => if k = 2 then quote t else if k = 4 then 40 :: (sepB (l.attach.map fun ⟨y, _⟩ => Nd.str y) ++ [41]) else t
theorem Nd.str_eq (x : Nd) : x.str = if x.kind = 2 then quote x.text else if x.kind = 4 then 40 :: (sepB (x.l.map Nd.str) ++ [41]) else x.text := by
  cases x with
  | mk k t n a l =>
    rw [Nd.str]
    rw [att l Nd.str]
    rfl
def printB (itoa : Int → List UInt8) (x : Nd) : List UInt8 := if mayB itoa x then x.str else []
end Go.Proofs.YtceomdbahiimlaaDoor.T14
