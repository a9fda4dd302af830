/-
  Nodes: how tokens make one, whether one may be, and its text.
-/
import Derived.Test.YtceomdbahiimlaaDoorTokMath
import Derived.Deep.Slices
import Derived.Deep.AppendLies
import Derived.SizedLaws
import Derived.Deep.RegionLaw
import Derived.Deep.RegionHeld3
import Derived.Deep.RegionHeldLaw
import Derived.Deep.MidRow
namespace Go.Proofs.YtceomdbahiimlaaDoor.T14
set_option maxRecDepth 100000

theorem att {α β : Type} (l : List α) (f : α → β) : (l.attach.map fun ⟨y, _⟩ => f y) = l.map f := by
  rw [show (fun x : {x // x ∈ l} => match x with | ⟨y, _⟩ => f y) = fun x => f x.1 from funext fun ⟨_, _⟩ => rfl]
  simp
/-- A node: its kind, text and number, where it begins, and those in it. -/
inductive Nd : Type where
  | mk (kind : Int) (text : List UInt8) (num at_ : Int) (l : List Nd) : Nd
namespace Nd

def kind : Nd → Int | .mk k _ _ _ _ => k
def text : Nd → List UInt8 | .mk _ t _ _ _ => t
def num : Nd → Int | .mk _ _ n _ _ => n
def at_ : Nd → Int | .mk _ _ _ a _ => a
def l : Nd → List Nd | .mk _ _ _ _ l => l
theorem eta (x : Nd) : x = .mk x.kind x.text x.num x.at_ x.l := by cases x; rfl
theorem sz {x y : Nd} (h : y ∈ x.l) : SizeOf.sizeOf y < SizeOf.sizeOf x := by
  cases x with
  | mk k t n a l =>
    have h1 := List.sizeOf_lt_of_mem (show y ∈ l from h)
    simp; omega
theorem ind {P : Nd → Prop} (h : ∀ x, (∀ y ∈ x.l, P y) → P x) : ∀ x, P x := by
  have : ∀ (k : Nat) x, SizeOf.sizeOf x < k → P x := by
    intro k
    induction k with
    | zero => intro x hx; omega
    | succ k ih => exact fun x hx => h x fun y hy => ih y (by have := sz hy; omega)
  exact fun x => this _ x (Nat.lt_succ_self _)
/-- Without the places. -/
def un : Nd → Nd
  | .mk k t n _ l => .mk k t n 0 (l.attach.map fun ⟨y, _⟩ => un y)
theorem un_eq (x : Nd) : x.un = .mk x.kind x.text x.num 0 (x.l.map un) := by
  cases x with
  | mk k t n a l =>
    rw [un]
    congr 1
    exact att l un
def zero : Nd := .mk 0 [] 0 0 []
instance : Inhabited Nd := ⟨zero⟩
def add (q n : Nd) : Nd := .mk q.kind q.text q.num q.at_ (q.l ++ [n])
end Nd

/-! ### How tokens make one -/

/-- The lists that are open, the innermost one first, and the one node, behind it. -/
structure Ps where
  o : List Nd
  w : Option Nd
def leaf (t : T) : Nd := .mk t.kind t.text t.num t.at_ []
def putP : List Nd → Nd → Ps
  | [], n => ⟨[], some n⟩
  | q :: r, n => ⟨q.add n :: r, none⟩
def stepP (t : T) (p : Ps) : Except Nat Ps :=
  if p.w.isSome then .error 4
  else if t.kind ≠ 3 ∨ t.text = [46] then .ok (putP p.o (leaf t))
  else if t.text = [40] then (if p.o.length = 16 then .error 2 else .ok ⟨.mk 4 [] 0 t.at_ [] :: p.o, none⟩)
  else if t.text = [41] then (match p.o with | [] => .error 4 | q :: r => .ok (putP r q))
  else .error 4
def runP : List T → Ps → Except (Nat × Nat) Ps
  | [], p => .ok p
  | t :: l, p => match stepP t p with
    | .error e => .error (e, t.at_)
    | .ok q => runP l q
theorem runP_append : ∀ (l m : List T) (p : Ps), runP (l ++ m) p = (runP l p).bind (runP m)
  | [], _, _ => rfl
  | t :: l, m, p => by
    show runP (t :: (l ++ m)) p = (runP (t :: l) p).bind (runP m)
    simp only [runP]
    cases stepP t p with
    | error e => rfl
    | ok q => exact runP_append l m q
def endP (n : Nat) (x : Except (Nat × Nat) Ps) : Nd × Nat × Nat :=
  match x with
  | .error (e, a) => (Nd.zero, a, e)
  | .ok p => match p.w with
    | some x => (x, n, 0)
    | none => (Nd.zero, n, 4)
/-- What a text is: the node, the place, the error. -/
def parR (itoa : Int → List UInt8) (s : List UInt8) : Nd × Nat × Nat :=
  if allE itoa s ≠ 0 then (Nd.zero, allAt itoa s, allE itoa s) else endP s.length (runP (allT itoa s) ⟨[], none⟩)

/-! ### Whether one may be -/

/-- Is a node's text the one token that the node is? -/
def tokB (itoa : Int → List UInt8) (x : Nd) : Bool :=
  match allT itoa x.text with
  | [t] => decide ((t.kind : Int) = x.kind) && decide (t.text = x.text) && decide (t.num = x.num) && decide (t.at_ = 0)
  | _ => false
/-- One that is no list. -/
def leafB (itoa : Int → List UInt8) (x : Nd) : Bool :=
  x.l.isEmpty && (if x.kind = 0 ∨ x.kind = 1 then tokB itoa x else if x.kind = 2 then decide (x.num = 0) else if x.kind = 3 then decide (x.text = [46]) && decide (x.num = 0) else false)
/-- One that is within so many lists, as far as those in it are not asked. -/
def fitB (itoa : Int → List UInt8) (x : Nd) (i : Nat) : Bool :=
  if x.kind = 4 then decide (x.text = []) && decide (x.num = 0) && decide (i < 16) else leafB itoa x
/-- A node, and all in it, within so many lists, each one before those in it. -/
def Nd.pre : Nd → Nat → List (Nd × Nat)
  | .mk k t n a l, i => (.mk k t n a l, i) :: (l.attach.map fun ⟨y, _⟩ => Nd.pre y (i + 1)).flatten
theorem Nd.pre_eq (x : Nd) (i : Nat) : x.pre i = (x, i) :: (x.l.map fun y => y.pre (i + 1)).flatten := by
  cases x with
  | mk k t n a l =>
    rw [Nd.pre]
    congr 2
    exact att l fun y => y.pre (i + 1)
def mayB (itoa : Int → List UInt8) (x : Nd) : Bool := (x.pre 0).all fun y => fitB itoa y.1 y.2

/-! ### Its text -/

def sepB : List (List UInt8) → List UInt8
  | [] => []
  | [x] => x
  | x :: y :: l => x ++ 32 :: sepB (y :: l)
def Nd.str : Nd → List UInt8
  | .mk k t _ _ l => if k = 2 then quote t else if k = 4 then 40 :: (sepB (l.attach.map fun ⟨y, _⟩ => Nd.str y) ++ [41]) else t
theorem Nd.str_eq (x : Nd) : x.str = if x.kind = 2 then quote x.text else if x.kind = 4 then 40 :: (sepB (x.l.map Nd.str) ++ [41]) else x.text := by
  cases x with
  | mk k t n a l =>
    rw [Nd.str]
    rw [att l Nd.str]
    rfl
def printB (itoa : Int → List UInt8) (x : Nd) : List UInt8 := if mayB itoa x then x.str else []
end Go.Proofs.YtceomdbahiimlaaDoor.T14
/-
  Nodes in memory: how they lie as arguments, and as one's own.
-/
namespace Go.Proofs.YtceomdbahiimlaaDoor.T14
set_option maxRecDepth 100000

open Go.RowKit Go.ChangeShapes Go.WideShapes Go.ChangeAt

theorem box_cell {w : World} {g : Nat} {cs : Array Value} {t : TypeId} {fr : Nat × Nat} (h : w.heap[g]? = some (.cells cs t fr)) (j : Nat) : w.cell? ⟨g, j, none⟩ = cs[j]? := by simp [World.cell?, h]
theorem box_lt {w : World} {g : Nat} {o : Obj} (h : w.heap[g]? = some o) : g < w.heap.size := (Array.getElem?_eq_some_iff.1 h).1
def tx (l : List UInt8) : ByteArray := ⟨l.toArray⟩
theorem tx_list (l : List UInt8) : (tx l).data.toList = l := by simp [tx]
theorem tx_of (s : ByteArray) : tx s.data.toList = s := by cases s; simp [tx]
theorem tx_inj {a b : List UInt8} (h : tx a = tx b) : a = b := by rw [← tx_list a, ← tx_list b, h]

/-- A row that lies below B, wherever it begins. -/
def Rr (B : Nat) (w : World) (v : Value) (n size : Nat) (xs : List Value) : Prop := ∃ A c, v = .slice A n c ∧ Sl w A n c size xs ∧ ∀ ad, A = some ad → 0 < n → ad.block < B
/-- What lies below B is as it was. -/
def Lo (B : Nat) (w w' : World) : Prop := w.heap.size ≤ w'.heap.size ∧ ∀ k, k < B → w'.heap[k]? = w.heap[k]?
theorem Lo.refl (B : Nat) (w : World) : Lo B w w := ⟨Nat.le_refl _, fun _ _ => rfl⟩
theorem Lo.trans {B : Nat} {a b c : World} (h : Lo B a b) (k : Lo B b c) : Lo B a c := ⟨Nat.le_trans h.1 k.1, fun i hi => (k.2 i hi).trans (h.2 i hi)⟩
theorem Lo.below {B : Nat} {w w' : World} (h : Below w.heap.size w w') (hB : B ≤ w.heap.size) : Lo B w w' := ⟨h.size, fun k hk => h.block k (by omega)⟩
theorem Lo.of {B : Nat} {w w' : World} (h : Below B w w') : Lo B w w' := ⟨h.size, h.block⟩
theorem Lo.alloc {B : Nat} (w : World) (o : Obj) (hB : B ≤ w.heap.size) : Lo B w (w.alloc o) := Lo.below (below_new w o) hB
theorem Lo.mono {B B' : Nat} {w w' : World} (h : Lo B w w') (hB : B' ≤ B) : Lo B' w w' := ⟨h.1, fun k hk => h.2 k (by omega)⟩
theorem sl_low {B : Nat} {w w' : World} {A : Option Addr} {n c size : Nat} {xs : List Value} (h : Sl w A n c size xs) (hA : ∀ ad, A = some ad → 0 < n → ad.block < B) (hl : Lo B w w') : Sl w' A n c size xs := by
  refine ⟨h.len, h.le, h.cap, h.nil, fun ad ha hn => Nat.lt_of_lt_of_le (h.old ad ha hn) hl.1, fun ad ha k u hu => ?_⟩
  have hn : 0 < n := by
    rcases Nat.eq_zero_or_pos n with h0 | h0
    · have := h.len
      rw [h0, Nat.zero_mul] at this
      rw [List.eq_nil_of_length_eq_zero this] at hu
      simp at hu
    · exact h0
  have hk : w'.heap[(ad.add k).block]? = w.heap[(ad.add k).block]? := by rw [add_same_block]; exact hl.2 _ (hA ad ha hn)
  exact (World.cell?_of_block hk).trans (h.cell ad ha k u hu)
theorem Rr.low {B : Nat} {w w' : World} {v : Value} {n size : Nat} {xs : List Value} (h : Rr B w v n size xs) (hl : Lo B w w') : Rr B w' v n size xs := by
  obtain ⟨A, c, rfl, h1, h2⟩ := h
  exact ⟨A, c, rfl, sl_low h1 h2 hl, h2⟩
theorem Rr.mono {B B' : Nat} {w : World} {v : Value} {n size : Nat} {xs : List Value} (h : Rr B w v n size xs) (hB : B ≤ B') : Rr B' w v n size xs := by
  obtain ⟨A, c, rfl, h1, h2⟩ := h
  exact ⟨A, c, rfl, h1, fun ad ha hn => Nat.lt_of_lt_of_le (h2 ad ha hn) hB⟩
theorem Rr.of_own {w : World} {b : Nat} {e : TypeId} {v : Value} {n size : Nat} {xs : List Value} (h : w.ownsRow b e size v n xs) : Rr w.heap.size w v n size xs := by
  obtain ⟨A, c, rfl, hs⟩ := Sl.of_own h
  exact ⟨A, c, rfl, hs, fun ad ha hn => hs.old ad ha hn⟩
theorem Rr.one {B : Nat} {w : World} {v : Value} {n size : Nat} {xs : List Value} (h : Rr B w v n size xs) : v.oneCell' = true := by
  obtain ⟨A, c, rfl, _, _⟩ := h
  rfl
theorem Rr.nil (B : Nat) (w : World) (size : Nat) : Rr B w (.slice none 0 0) 0 size [] := ⟨none, 0, rfl, Sl.nothing w size, by simp⟩
/-- Cell j of element k. -/
theorem sl_elem {w : World} {A : Option Addr} {n c size : Nat} {xs : List Value} (h : Sl w A n c size xs) {k : Nat} (hk : k < n) : ∃ ad, A = some ad ∧ ad.block < w.heap.size ∧ (∀ u, xs[k * size]? = some u → w.cell? (ad.add (k * size)) = some u) ∧
    ∀ j u, 0 < j → xs[k * size + j]? = some u → w.cell? ⟨(ad.add (k * size)).block, (ad.add (k * size)).off + j, none⟩ = some u := by
  obtain ⟨ad, rfl, hb, hcell⟩ := Sl.there h (by omega)
  refine ⟨ad, rfl, hb, fun u hu => hcell _ _ hu, fun j u hj hu => ?_⟩
  have e : (⟨(ad.add (k * size)).block, (ad.add (k * size)).off + j, none⟩ : Addr) = ad.add (k * size + j) := by
    rw [← add_twice]
    cases j with
    | zero => omega
    | succ j => simp [Addr.add]
  rw [e]
  exact hcell _ _ hu

/-! ### Elements one behind the other -/

def Rows {α : Type} (C : α → List Value → Prop) : List α → List Value → Prop
  | [], xs => xs = []
  | a :: l, xs => ∃ cs ys, xs = cs ++ ys ∧ C a cs ∧ Rows C l ys
section

variable {α : Type} {C C' : α → List Value → Prop} {size : Nat}

theorem Rows.imp (h : ∀ a cs, C a cs → C' a cs) : ∀ {l : List α} {xs : List Value}, Rows C l xs → Rows C' l xs
  | [], _, h0 => h0
  | _ :: _, _, ⟨cs, ys, h1, h2, h3⟩ => ⟨cs, ys, h1, h _ _ h2, Rows.imp h h3⟩
theorem Rows.imp_mem : ∀ {l : List α} {xs : List Value}, (∀ a ∈ l, ∀ cs, C a cs → C' a cs) → Rows C l xs → Rows C' l xs
  | [], _, _, h0 => h0
  | _ :: _, _, h, ⟨cs, ys, h1, h2, h3⟩ => ⟨cs, ys, h1, h _ (by simp) _ h2, Rows.imp_mem (fun a ha => h a (by simp [ha])) h3⟩
theorem Rows.append : ∀ {l m : List α} {xs ys : List Value}, Rows C l xs → Rows C m ys → Rows C (l ++ m) (xs ++ ys)
  | [], _, _, _, h0, h => by rw [show _ = [] from h0]; exact h
  | _ :: _, _, _, _, ⟨cs, zs, h1, h2, h3⟩, h => ⟨cs, zs ++ _, by rw [h1, List.append_assoc], h2, Rows.append h3 h⟩
theorem Rows.single {a : α} {cs : List Value} (h : C a cs) : Rows C [a] cs := ⟨cs, [], by simp, h, rfl⟩
theorem Rows.len (hC : ∀ a cs, C a cs → cs.length = size) : ∀ {l : List α} {xs : List Value}, Rows C l xs → xs.length = l.length * size
  | [], _, h0 => by rw [show _ = [] from h0]; simp
  | _ :: l, _, ⟨cs, zs, h1, h2, h3⟩ => by rw [h1, List.length_append, hC _ _ h2, Rows.len hC h3, List.length_cons, Nat.succ_mul]; omega
theorem Rows.get (hC : ∀ a cs, C a cs → cs.length = size) : ∀ {l : List α} {xs : List Value}, Rows C l xs → ∀ {k : Nat} {a : α}, l[k]? = some a → ∃ cs, C a cs ∧ cs.length = size ∧ ∀ j, j < size → xs[k * size + j]? = cs[j]?
  | [], xs, _, k, m, hk => by simp at hk
  | x :: l, xs, ⟨cs, ys, h1, h2, h3⟩, 0, m, hk => by
    obtain rfl : x = m := by simpa using hk
    refine ⟨cs, h2, hC _ _ h2, fun j hj => ?_⟩
    rw [h1, Nat.zero_mul, Nat.zero_add, List.getElem?_append_left (by rw [hC _ _ h2]; exact hj)]
  | x :: l, xs, ⟨cs, ys, h1, h2, h3⟩, k + 1, m, hk => by
    obtain ⟨cs', h4, h4l, h5⟩ := Rows.get hC h3 (k := k) (a := m) (by simpa using hk)
    refine ⟨cs', h4, h4l, fun j hj => ?_⟩
    rw [h1, List.getElem?_append_right (by rw [hC _ _ h2, Nat.succ_mul]; omega), hC _ _ h2, ← h5 j hj]
    congr 1
    rw [Nat.succ_mul]; omega
theorem Rows.one (hC : ∀ a cs, C a cs → ∀ u ∈ cs, u.oneCell' = true) : ∀ {l : List α} {xs : List Value}, Rows C l xs → ∀ u ∈ xs, u.oneCell' = true
  | [], _, h0, u, hu => by rw [show _ = [] from h0] at hu; cases hu
  | _ :: l, _, ⟨cs, zs, h1, h2, h3⟩, u, hu => by
    rw [h1] at hu
    rcases List.mem_append.1 hu with h | h
    · exact hC _ _ h2 u h
    · exact Rows.one hC h3 u h
theorem Rows.take (hC : ∀ a cs, C a cs → cs.length = size) : ∀ {l : List α} {xs : List Value} (n : Nat), Rows C l xs → Rows C (l.take n) (xs.take (n * size))
  | [], _, n, h0 => by rw [show _ = [] from h0]; simp [Rows]
  | _ :: l, _, 0, _ => by simp [Rows]
  | _ :: l, _, n + 1, ⟨cs, zs, h1, h2, h3⟩ => by
    rw [List.take_succ_cons, h1, List.take_append, hC _ _ h2]
    refine ⟨cs, zs.take (n * size), ?_, h2, Rows.take hC n h3⟩
    rw [List.take_of_length_le (by rw [hC _ _ h2, Nat.succ_mul]; omega), show (n + 1) * size - size = n * size by rw [Nat.succ_mul]; omega]
theorem Rows.drop (hC : ∀ a cs, C a cs → cs.length = size) : ∀ {l : List α} {xs : List Value} (n : Nat), Rows C l xs → Rows C (l.drop n) (xs.drop (n * size))
  | [], _, n, h0 => by rw [show _ = [] from h0]; simp [Rows]
  | _ :: l, _, 0, h => by simpa using h
  | _ :: l, _, n + 1, ⟨cs, zs, h1, h2, h3⟩ => by
    have e : cs.drop ((n + 1) * size) = [] := List.drop_of_length_le (by rw [hC _ _ h2, Nat.succ_mul]; omega)
    rw [List.drop_succ_cons, h1, List.drop_append, hC _ _ h2, e, show (n + 1) * size - size = n * size by rw [Nat.succ_mul]; omega, List.nil_append]
    exact Rows.drop hC n h3
theorem Rows.snoc (hC : ∀ a cs, C a cs → cs.length = size) {l : List α} {xs : List Value} {k : Nat} {a : α} {cs : List Value} (h : Rows C (l.take k) xs) (hk : l[k]? = some a) (hc : C a cs) : Rows C (l.take (k + 1)) (xs ++ cs) := by
  rw [List.take_add_one, hk]
  exact h.append (Rows.single hc)
end

/-! ### Nodes as arguments -/

/-- How a row of elements lies: the type of an element, its cells, the slice's value, how many there are, the cells. -/
abbrev RP := TypeId → Nat → Value → Nat → List Value → Prop
/-- A slice of elements. -/
def LsAt {α : Type} (R : RP) (e : TypeId) (size : Nat) (C : α → List Value → Prop) (l : List α) (u : Value) : Prop := ∃ xs, R e size u l.length xs ∧ Rows C l xs
theorem LsAt.imp {α : Type} {R R' : RP} {e : TypeId} {size : Nat} {C C' : α → List Value → Prop} {l : List α} {u : Value} (h : LsAt R e size C l u) (hR : ∀ e size v n xs, R e size v n xs → R' e size v n xs) (hC : ∀ a cs, C a cs → C' a cs) : LsAt R' e size C' l u := by
  obtain ⟨xs, h1, h2⟩ := h
  exact ⟨xs, hR _ _ _ _ _ h1, h2.imp hC⟩
/-- How rows are read: below B, and no longer than what fits any memory. -/
def Rd (B : Nat) (w : World) : RP := fun _ size v n xs => Rr B w v n size xs ∧ n ≤ 10000000000000
/-- Rows of the call's own. -/
def Ow (b : Nat) (w : World) : RP := fun e size v n xs => w.ownsRow b e size v n xs ∧ n ≤ 10000000000000
theorem Rd.low {B : Nat} {w w' : World} (hl : Lo B w w') (e : TypeId) (size : Nat) (v : Value) (n : Nat) (xs : List Value) (h : Rd B w e size v n xs) : Rd B w' e size v n xs := ⟨h.1.low hl, h.2⟩
theorem Rd.mono {B B' : Nat} {w : World} (hB : B ≤ B') (e : TypeId) (size : Nat) (v : Value) (n : Nat) (xs : List Value) (h : Rd B w e size v n xs) : Rd B' w e size v n xs := ⟨h.1.mono hB, h.2⟩
theorem Rd.of_own {b : Nat} {w : World} (e : TypeId) (size : Nat) (v : Value) (n : Nat) (xs : List Value) (h : Ow b w e size v n xs) : Rd w.heap.size w e size v n xs := ⟨Rr.of_own h.1, h.2⟩
theorem Rd.one {B : Nat} {w : World} {e : TypeId} {size : Nat} {v : Value} {n : Nat} {xs : List Value} (h : Rd B w e size v n xs) : v.oneCell' = true := h.1.one
theorem LsAt.low {α : Type} {B : Nat} {w w' : World} (hl : Lo B w w') {e : TypeId} {size : Nat} {C C' : α → List Value → Prop} {l : List α} {u : Value} (hC : ∀ a cs, C a cs → C' a cs) (h : LsAt (Rd B w) e size C l u) : LsAt (Rd B w') e size C' l u := h.imp (Rd.low hl) hC
/-- The slice's own value, and what lies at element k. -/
theorem LsAt.open_ {α : Type} {B : Nat} {w : World} {e : TypeId} {size : Nat} {C : α → List Value → Prop} {l : List α} {u : Value} (h : LsAt (Rd B w) e size C l u) : ∃ A c xs, u = .slice A l.length c ∧ Sl w A l.length c size xs ∧ (∀ ad, A = some ad → 0 < l.length → ad.block < B) ∧ Rows C l xs ∧ l.length ≤ 10000000000000 := by
  obtain ⟨xs, ⟨⟨A, c, rfl, h1, h2⟩, h3⟩, h4⟩ := h
  exact ⟨A, c, xs, rfl, h1, h2, h4, h3⟩
def nAt (R : RP) (G : Nd → List Value → Prop) (x : Nd) (cs : List Value) : Prop := ∃ u, cs = [.int .i64 x.kind, .string (tx x.text), .int .i64 x.num, .int .i64 x.at_, u] ∧ LsAt R 24 5 G x.l u
/-- A node that is read within so many levels. -/
def NAt (R : RP) : Nat → Nd → List Value → Prop
  | 0 => fun _ _ => False
  | d + 1 => nAt R (NAt R d)
theorem nAt.imp {R R' : RP} {G G' : Nd → List Value → Prop} (hR : ∀ e size v n xs, R e size v n xs → R' e size v n xs) (hG : ∀ a cs, G a cs → G' a cs) (v : Nd) (cs : List Value) (h : nAt R G v cs) : nAt R' G' v cs := by
  obtain ⟨u, h1, h2⟩ := h
  exact ⟨u, h1, h2.imp hR hG⟩
theorem NAt.imp {R R' : RP} (hR : ∀ e size v n xs, R e size v n xs → R' e size v n xs) : ∀ (d : Nat) (m : Nd) (cs : List Value), NAt R d m cs → NAt R' d m cs
  | 0, _, _, h => h
  | d + 1, m, cs, h => nAt.imp hR (NAt.imp hR d) m cs h
theorem NAt.step {R : RP} : ∀ (d : Nat) (m : Nd) (cs : List Value), NAt R d m cs → NAt R (d + 1) m cs
  | 0, _, _, h => h.elim
  | d + 1, m, cs, h => nAt.imp (fun _ _ _ _ _ h => h) (NAt.step d) m cs h
theorem NAt.more {R : RP} {d e : Nat} (h : d ≤ e) (m : Nd) (cs : List Value) (hm : NAt R d m cs) : NAt R e m cs := by
  induction e with
  | zero => obtain rfl : d = 0 := by omega
            exact hm
  | succ e ih =>
    by_cases hd : d = e + 1
    · subst hd; exact hm
    · exact NAt.step e m cs (ih (by omega))
theorem NAt.len {R : RP} : ∀ {d : Nat} (m : Nd) (cs : List Value), NAt R d m cs → cs.length = 5
  | 0, _, _, h => h.elim
  | _ + 1, _, _, ⟨_, h, _⟩ => by rw [h]; rfl
theorem NRd.low {B : Nat} {w w' : World} (hl : Lo B w w') {d : Nat} {m : Nd} {cs : List Value} (h : NAt (Rd B w) d m cs) : NAt (Rd B w') d m cs := NAt.imp (Rd.low hl) d m cs h
theorem NRd.mono {B B' : Nat} {w : World} (hB : B ≤ B') {d : Nat} {m : Nd} {cs : List Value} (h : NAt (Rd B w) d m cs) : NAt (Rd B' w) d m cs := NAt.imp (Rd.mono hB) d m cs h
/-- Element k of a row of nodes. -/
theorem row5 {w : World} {A : Option Addr} {c : Nat} {d : Nat} {R : RP} {l : List Nd} {xs : List Value} (hs : Sl w A l.length c 5 xs) (hr : Rows (NAt R (d + 1)) l xs) {k : Nat} {a : Nd} (hk : l[k]? = some a) :
    ∃ ad u, A = some ad ∧ ad.block < w.heap.size ∧ NAt R (d + 1) a [.int .i64 a.kind, .string (tx a.text), .int .i64 a.num, .int .i64 a.at_, u] ∧ w.cell? (ad.add (k * 5)) = some (.int .i64 a.kind) ∧ w.cell? ⟨(ad.add (k * 5)).block, (ad.add (k * 5)).off + 1, none⟩ = some (.string (tx a.text)) ∧ w.cell? ⟨(ad.add (k * 5)).block, (ad.add (k * 5)).off + 2, none⟩ = some (.int .i64 a.num) ∧ w.cell? ⟨(ad.add (k * 5)).block, (ad.add (k * 5)).off + 3, none⟩ = some (.int .i64 a.at_) ∧ w.cell? ⟨(ad.add (k * 5)).block, (ad.add (k * 5)).off + 4, none⟩ = some u := by
  obtain ⟨cs, hcs, hlen, hx⟩ := hr.get (size := 5) (fun a cs h => NAt.len a cs h) hk
  obtain ⟨u, rfl, hu⟩ := hcs
  obtain ⟨ad, rfl, hb, h0, hj⟩ := sl_elem hs (List.getElem?_eq_some_iff.1 hk).1
  exact ⟨ad, u, rfl, hb, ⟨u, rfl, hu⟩, h0 _ (by have := hx 0 (by omega); rw [Nat.add_zero] at this; rw [this]; rfl), hj 1 _ (by omega) (by rw [hx 1 (by omega)]; rfl), hj 2 _ (by omega) (by rw [hx 2 (by omega)]; rfl), hj 3 _ (by omega) (by rw [hx 3 (by omega)]; rfl), hj 4 _ (by omega) (by rw [hx 4 (by omega)]; rfl)⟩

/-! ### How an argument lies -/

section

variable {H : Type} {enc : TypeId × Value → H} {W : World} {n : Nat}

/-- A datum, and all within it, fit the form's memory. -/
def Szd (t : TypeId) (d : DataW H) : Prop := ∀ k ∈ DataW.weights Tryd.prog t d, k ≤ reachBytes
theorem Szd.slice {t e : TypeId} {es sp : List (DataW H)} (ht : Tryd.prog.underlying t = some (.slice e)) (h : Szd t (.slice es sp)) : (es.length + sp.length) * Tryd.prog.bytesOf e ≤ reachBytes ∧ ∀ d ∈ es, Szd e d := by
  unfold Szd at h
  simp only [DataW.weights, ht] at h
  refine ⟨h _ (by simp), fun d hd k hk => h k ?_⟩
  have key : ∀ (l : List (DataW H)), d ∈ l → k ∈ DataW.weightsAll Tryd.prog e l := by
    intro l
    induction l with
    | nil => intro h; cases h
    | cons x l ih =>
      intro hx
      simp only [DataW.weightsAll, List.mem_append]
      rcases List.mem_cons.1 hx with rfl | hx
      · exact .inl hk
      · exact .inr (ih hx)
  simp [key es hd]
theorem szd_each : ∀ {ts : List TypeId} {ds : List (DataW H)}, (∀ k ∈ DataW.weightsEach Tryd.prog ts ds, k ≤ reachBytes) → ∀ (j : Nat) t d, ts[j]? = some t → ds[j]? = some d → Szd t d
  | [], _, _, j, t, d, h1, _ => by simp at h1
  | t0 :: ts, [], _, j, t, d, _, h2 => by simp at h2
  | t0 :: ts, d0 :: ds, h, 0, t, d, h1, h2 => by
    obtain rfl : t0 = t := by simpa using h1
    obtain rfl : d0 = d := by simpa using h2
    exact fun k hk => h k (by simp only [DataW.weightsEach, List.mem_append]; exact .inl hk)
  | t0 :: ts, d0 :: ds, h, j + 1, t, d, h1, h2 => szd_each (ts := ts) (ds := ds) (fun k hk => h k (by simp only [DataW.weightsEach, List.mem_append]; exact .inr hk)) j t d (by simpa using h1) (by simpa using h2)
theorem Szd.struct {t : TypeId} {fs : Array Field} {parts : List (DataW H)} (ht : Tryd.prog.underlying t = some (.struct fs)) (h : Szd t (.agg parts)) (j : Nat) {f : Field} {d : DataW H} (hf : fs[j]? = some f) (hd : parts[j]? = some d) : Szd f.type d := by
  unfold Szd at h
  simp only [DataW.weights, ht] at h
  exact szd_each h j _ _ (by simp [hf]) hd
theorem sz_mem {es sp : List (DataW H)} {d : DataW H} (h : d ∈ es) : SizeOf.sizeOf d < SizeOf.sizeOf (DataW.slice es sp) := by
  have := List.sizeOf_lt_of_mem h
  simp only [DataW.slice.sizeOf_spec]
  omega
theorem sz_part {parts : List (DataW H)} {d : DataW H} (h : d ∈ parts) : SizeOf.sizeOf d < SizeOf.sizeOf (DataW.agg parts) := by
  have := List.sizeOf_lt_of_mem h
  simp only [DataW.agg.sizeOf_spec]
  omega
/-- A slice whose elements are read one by one, each a lesser datum. -/
theorem open_lesser {α : Type} [Inhabited α] {t e : TypeId} {size : Nat} {v : Value} {x : DataW H × List MemPlace} (ht : Tryd.prog.underlying t = some (.slice e)) (hc : Tryd.prog.cellsOf e = size) (hpos : 0 < size) (hby : 15 ≤ Tryd.prog.bytesOf e)
    (C : α → List Value → Prop) (hone : ∀ (n : Nat) (cs : List Value) (y : DataW H × List MemPlace), cs.length = size → DataW.trod enc Tryd.prog W 0 (fun _ => true) true n e cs = some y → SizeOf.sizeOf y.1 < SizeOf.sizeOf x.1 → Szd e y.1 → ∃ a, C a cs)
    (h : DataW.trod enc Tryd.prog W 0 (fun _ => true) true n t [v] = some x) (hz : Szd t x.1) :
    ∃ (l : List α), LsAt (Rd W.heap.size W) e size C l v := by
  rcases Deep.open_slice ht h with ⟨h0, _⟩ | ⟨a, len, cap, m, k, D, Pl, h0, _, hl, hm, hmm, hx0, hx⟩
  · have hv : v = .slice none 0 0 := by simpa using h0
    subst hv
    exact ⟨[], [], ⟨Rr.nil _ _ _, by simp⟩, rfl⟩
  · have hv : v = .slice (some a) len cap := by simpa using h0
    subst hv
    have hlm : len ≤ m := by rw [hmm]; split <;> omega
    rw [hc] at hx
    subst hx0
    obtain ⟨hz1, hz2⟩ := hz.slice ht
    have hln : len ≤ 10000000000000 := by
      have h1 : (List.map D (List.range len)).length = len := by simp
      rw [h1] at hz1
      have : len * 15 ≤ reachBytes := Nat.le_trans (Nat.mul_le_mul (Nat.le_add_right _ _) hby) hz1
      unfold reachBytes at this
      omega
    have hy : ∀ i, i < len → ∃ y : α × List Value, C y.1 y.2 ∧ y.2.length = size ∧ W.cells? 0 (a.add (i * size)) size = some y.2 := fun i hi => by
      obtain ⟨cs, h1, h2⟩ := hx i (by omega)
      have hl2 := (World.cells?_some h1).2.1
      have hmem : D i ∈ List.map D (List.range len) := List.mem_map.2 ⟨i, List.mem_range.2 hi, rfl⟩
      obtain ⟨b, hb⟩ := hone k cs _ hl2 h2 (sz_mem hmem) (hz2 _ hmem)
      exact ⟨(b, cs), hb, hl2, h1⟩
    obtain ⟨f, hf⟩ := Deep.choose_lt hy
    have hget : ∀ (L : List Nat) (i : Nat), (∀ j ∈ L, j < len) → i < L.length → ∀ q, q < size → ((L.map f).flatMap Prod.snd)[i * size + q]? = (f (L.getD i 0)).2[q]? := by
      intro L
      induction L with
      | nil => intro i _ hi; simp at hi
      | cons j L ih =>
        intro i hL hi q hq
        have hj := (hf j (hL j (by simp))).2.1
        cases i with
        | zero =>
          rw [List.map_cons, List.flatMap_cons, Nat.zero_mul, Nat.zero_add, List.getElem?_append_left (by omega)]
          rfl
        | succ i =>
          rw [List.map_cons, List.flatMap_cons, List.getElem?_append_right (by rw [hj, Nat.succ_mul]; omega), hj, show (i + 1) * size + q - size = i * size + q by rw [Nat.succ_mul]; omega]
          exact ih i (fun x hx => hL x (by simp [hx])) (by simpa using hi) q hq
    have hlen : ∀ (L : List Nat), (∀ j ∈ L, j < len) → ((L.map f).flatMap Prod.snd).length = L.length * size := by
      intro L
      induction L with
      | nil => intro _; simp
      | cons j L ih =>
        intro hL
        have hj := (hf j (hL j (by simp))).2.1
        rw [List.map_cons, List.flatMap_cons, List.length_append, hj, ih (fun x hx => hL x (by simp [hx])), List.length_cons, Nat.succ_mul]
        omega
    have hr : ∀ j ∈ List.range len, j < len := fun j hj => List.mem_range.1 hj
    have hcell : ∀ k u, (((List.range len).map f).flatMap Prod.snd)[k]? = some u → W.cell? (a.add k) = some u := by
      intro k u hu
      have hk : k < len * size := by
        have := (List.getElem?_eq_some_iff.1 hu).1
        rw [hlen _ hr, List.length_range] at this
        exact this
      have hi : k / size < len := (Nat.div_lt_iff_lt_mul hpos).2 hk
      have hq : k % size < size := Nat.mod_lt _ hpos
      have hk2 : k = k / size * size + k % size := by rw [Nat.mul_comm]; exact (Nat.div_add_mod k size).symm
      rw [hk2, hget (List.range len) (k / size) hr (by simpa using hi) _ hq] at hu
      have e : (List.range len).getD (k / size) 0 = k / size := by rw [List.getD_eq_getElem?_getD, List.getElem?_range hi]; rfl
      rw [e] at hu
      have h1 := (World.cells?_some (hf (k / size) hi).2.2).2.2 (k % size) hq
      rw [hu, add_twice, ← hk2] at h1
      exact h1
    have hold : ∀ ad, (some a : Option Addr) = some ad → 0 < len → ad.block < W.heap.size := fun ad ha h0 => by
      obtain rfl := Option.some.inj ha
      have h1 := (World.cells?_some (hf 0 h0).2.2).2.2 0 hpos
      have h2 := (hf 0 h0).2.1
      rw [List.getElem?_eq_getElem (by omega)] at h1
      have hb := World.block_lt_of_cell? W _ h1
      rwa [add_same_block, add_same_block] at hb
    have hrows : ∀ (L : List Nat), (∀ j ∈ L, j < len) → Rows C ((L.map f).map Prod.fst) ((L.map f).flatMap Prod.snd) := by
      intro L
      induction L with
      | nil => intro _; rfl
      | cons j L ih => intro hL; exact ⟨(f j).2, _, rfl, (hf j (hL j (by simp))).1, ih fun x hx => hL x (by simp [hx])⟩
    refine ⟨((List.range len).map f).map Prod.fst, ((List.range len).map f).flatMap Prod.snd, ⟨⟨some a, cap, by simp, ⟨by rw [hlen _ hr]; simp, by simpa using hl, hm, by simp, fun ad ha hn => hold ad ha (by simpa using hn), fun ad ha k u hu => ?_⟩, fun ad ha hn => hold ad ha (by simpa using hn)⟩, by simpa using hln⟩, hrows _ hr⟩
    obtain rfl := Option.some.inj ha
    exact hcell k u hu
theorem tr_string {v : Value} {y : DataW H × List MemPlace} (h : DataW.trod enc Tryd.prog W 0 (fun _ => true) true n 9 [v] = some y) : ∃ x : List UInt8, v = .string (tx x) := by
  obtain ⟨s, h1, _, h2⟩ := DataW.trod_string Tryd.underlying9 h
  exact ⟨s.data.toList, by rw [tx_of]; simpa using h1⟩
theorem tr_int {v : Value} {y : DataW H × List MemPlace} (h : DataW.trod enc Tryd.prog W 0 (fun _ => true) true n 3 [v] = some y) : ∃ k : Int, v = .int .i64 k := by
  obtain ⟨k, h1, _, h2⟩ := DataW.trod_int Tryd.underlying3 h
  exact ⟨k, by simpa using h1⟩
theorem tr_int64 {v : Value} {y : DataW H × List MemPlace} (h : DataW.trod enc Tryd.prog W 0 (fun _ => true) true n 2 [v] = some y) : ∃ k : Int, v = .int .i64 k := by
  obtain ⟨k, h1, _, h2⟩ := DataW.trod_int Tryd.underlying2 h
  exact ⟨k, by simpa using h1⟩
theorem kt_string : Tryd.prog.cellsOf 9 = 1 := by kernel_rfl
theorem kt_int : Tryd.prog.cellsOf 3 = 1 := by kernel_rfl
theorem kt_int64 : Tryd.prog.cellsOf 2 = 1 := by kernel_rfl
theorem tr_list5 {α : Type} {l : List α} (h : l.length = 5) : ∃ a b c d e, l = [a, b, c, d, e] := by
  match l, h with
  | [a, b, c, d, e], _ => exact ⟨a, b, c, d, e, rfl⟩
theorem kt_node : Tryd.prog.cellsOf 24 = 5 := by kernel_rfl
theorem kt_nodes : Tryd.prog.cellsOf 22 = 1 := by kernel_rfl
theorem kb_node : 15 ≤ Tryd.prog.bytesOf 24 := by decide +kernel
theorem open_nd : ∀ (N : Nat) (n : Nat) (cs : List Value) (y : DataW H × List MemPlace), cs.length = 5 → DataW.trod enc Tryd.prog W 0 (fun _ => true) true n 24 cs = some y → SizeOf.sizeOf y.1 < N → Szd 24 y.1 → ∃ m, NAt (Rd W.heap.size W) N m cs
  | 0, _, _, _, _, _, h, _ => by omega
  | N + 1, n, cs, y, hl, h, hy, hz => by
    obtain ⟨xs, k, -, hx0, -, hxl, hg⟩ := DataW.trod_struct Tryd.underlying24 h
    obtain ⟨x0, x1, x2, x3, x4, rfl⟩ := tr_list5 (show xs.length = 5 from hxl)
    obtain ⟨v0, v1, v2, v3, v4, rfl⟩ := tr_list5 hl
    have g0 : DataW.trod enc Tryd.prog W 0 (fun _ => true) true k 3 (List.take (Tryd.prog.cellsOf 3) [v0, v1, v2, v3, v4]) = some x0 := hg 0 _ rfl
    have g1 : DataW.trod enc Tryd.prog W 0 (fun _ => true) true k 9 (List.take (Tryd.prog.cellsOf 9) [v1, v2, v3, v4]) = some x1 := hg 1 _ rfl
    have g2 : DataW.trod enc Tryd.prog W 0 (fun _ => true) true k 2 (List.take (Tryd.prog.cellsOf 2) [v2, v3, v4]) = some x2 := hg 2 _ rfl
    have g3 : DataW.trod enc Tryd.prog W 0 (fun _ => true) true k 3 (List.take (Tryd.prog.cellsOf 3) [v3, v4]) = some x3 := hg 3 _ rfl
    have g4 : DataW.trod enc Tryd.prog W 0 (fun _ => true) true k 22 (List.take (Tryd.prog.cellsOf 22) [v4]) = some x4 := hg 4 _ rfl
    rw [kt_int] at g0 g3
    rw [kt_string] at g1
    rw [kt_int64] at g2
    rw [kt_nodes] at g4
    obtain ⟨a0, rfl⟩ := tr_int g0
    obtain ⟨a1, rfl⟩ := tr_string g1
    obtain ⟨a2, rfl⟩ := tr_int64 g2
    obtain ⟨a3, rfl⟩ := tr_int g3
    subst hx0
    have hz4 : Szd 22 x4.1 := hz.struct Tryd.underlying24 4 rfl rfl
    have hlt : SizeOf.sizeOf x4.1 < _ := sz_part (parts := [x0.1, x1.1, x2.1, x3.1, x4.1]) (by simp : x4.1 ∈ _)
    obtain ⟨M, hM⟩ := open_lesser Tryd.underlying22 kt_node (by decide) kb_node (fun m cs => NAt (Rd W.heap.size W) N m cs) (fun n cs y hl h hy hz => open_nd N n cs y hl h (by simp only [List.map_cons, List.map_nil] at *; omega) hz) (show DataW.trod enc Tryd.prog W 0 (fun _ => true) true k 22 [v4] = some x4 from g4) hz4
    exact ⟨.mk a0 a1 a2 a3 M, v4, rfl, hM⟩
end

/-! ### Nodes of one's own, with the places of their rows -/
inductive LN : Type where
  | mk (kind : Int) (text : List UInt8) (num at_ : Int) (g : Value) (l : List LN) : LN
namespace LN

def kind : LN → Int | mk k _ _ _ _ _ => k
def text : LN → List UInt8 | mk _ t _ _ _ _ => t
def num : LN → Int | mk _ _ n _ _ _ => n
def at_ : LN → Int | mk _ _ _ a _ _ => a
def g : LN → Value | mk _ _ _ _ g _ => g
def l : LN → List LN | mk _ _ _ _ _ l => l
theorem eta (x : LN) : x = .mk x.kind x.text x.num x.at_ x.g x.l := by cases x; rfl
theorem sz {x y : LN} (h : y ∈ x.l) : SizeOf.sizeOf y < SizeOf.sizeOf x := by
  cases x with
  | mk k t n a g l =>
    have h1 := List.sizeOf_lt_of_mem (show y ∈ l from h)
    simp; omega
theorem ind {P : LN → Prop} (h : ∀ x, (∀ y ∈ x.l, P y) → P x) : ∀ x, P x := by
  have : ∀ (k : Nat) x, SizeOf.sizeOf x < k → P x := by
    intro k
    induction k with
    | zero => intro x hx; omega
    | succ k ih => exact fun x hx => h x fun y hy => ih y (by have := sz hy; omega)
  exact fun x => this _ x (Nat.lt_succ_self _)
def cells (x : LN) : List Value := [.int .i64 x.kind, .string (tx x.text), .int .i64 x.num, .int .i64 x.at_, x.g]
def val (x : LN) : Value := .agg #[.int .i64 x.kind, .string (tx x.text), .int .i64 x.num, .int .i64 x.at_, x.g]
def bare : LN → Nd
  | .mk k t n a _ l => .mk k t n a (l.attach.map fun ⟨y, _⟩ => bare y)
theorem bare_eq (x : LN) : x.bare = .mk x.kind x.text x.num x.at_ (x.l.map bare) := by
  cases x with
  | mk k t n a g l =>
    rw [bare, att l bare]
    rfl
def zero : LN := .mk 0 [] 0 0 (.slice none 0 0) []
/-- One more in it, whose row now is g. -/
def add (q : LN) (g : Value) (n : LN) : LN := .mk q.kind q.text q.num q.at_ g (q.l ++ [n])
theorem add_bare (q : LN) (g : Value) (n : LN) : (q.add g n).bare = q.bare.add n.bare := by
  rw [bare_eq, q.bare_eq]
  simp [add, Nd.add, Nd.kind, Nd.text, Nd.num, Nd.at_, Nd.l, kind, text, num, at_, l]
end LN

/-- A row of memory. -/
structure Rw where
  e : TypeId
  size : Nat
  v : Value
  n : Nat
  xs : List Value
def rwN (x : LN) : Rw := ⟨24, 5, x.g, x.l.length, x.l.flatMap LN.cells⟩
def LN.rows : LN → List Rw
  | .mk k t n a g l => rwN (.mk k t n a g l) :: (l.attach.map fun ⟨y, _⟩ => LN.rows y).flatten
def rowsL (l : List LN) : List Rw := (l.map LN.rows).flatten
theorem LN.rows_eq (x : LN) : x.rows = rwN x :: rowsL x.l := by
  cases x with
  | mk k t n a g l =>
    rw [LN.rows, att l LN.rows]
    rfl
theorem rowsL_append (a b : List LN) : rowsL (a ++ b) = rowsL a ++ rowsL b := by simp [rowsL]
theorem rowsL_cons (x : LN) (b : List LN) : rowsL (x :: b) = x.rows ++ rowsL b := by simp [rowsL]
theorem own_kept {w w' : World} {b : Nat} {e : TypeId} {size : Nat} {v : Value} {n : Nat} {xs : List Value} (h : w.ownsRow b e size v n xs) (hk : ∀ k, v.ownBlock = some k → k < w.heap.size → w'.heap[k]? = w.heap[k]?) : w'.ownsRow b e size v n xs := by
  rcases h with ⟨hl, ⟨rfl, rfl⟩ | ⟨g, cap, cur, rfl, h1, h2, h3⟩⟩
  · exact ⟨hl, .inl ⟨rfl, rfl⟩⟩
  · exact ⟨hl, .inr ⟨g, cap, cur, rfl, h1, (hk g rfl (box_lt h2)).trans h2, h3⟩⟩
theorem own_blk {w : World} {b : Nat} {e : TypeId} {size : Nat} {v : Value} {n : Nat} {xs : List Value} (h : w.ownsRow b e size v n xs) (k : Nat) (hk : v.ownBlock = some k) : b ≤ k ∧ k < w.heap.size := by
  rcases h with ⟨hl, ⟨rfl, rfl⟩ | ⟨g, cap, cur, rfl, h1, h2, h3⟩⟩
  · simp [Value.ownBlock] at hk
  · simp only [Value.ownBlock, Option.some.injEq] at hk
    subst hk
    exact ⟨h1, box_lt h2⟩
theorem own_less {w : World} {b b' : Nat} {e : TypeId} {size : Nat} {v : Value} {n : Nat} {xs : List Value} (h : w.ownsRow b e size v n xs) (hb : b' ≤ b) : w.ownsRow b' e size v n xs := by
  rcases h with ⟨hl, ⟨rfl, rfl⟩ | ⟨g, cap, cur, rfl, h1, h2⟩⟩
  · exact ⟨hl, .inl ⟨rfl, rfl⟩⟩
  · exact ⟨hl, .inr ⟨g, cap, cur, rfl, Nat.le_trans hb h1, h2⟩⟩
def setL : List Value → Nat → List Value → List Value
  | xs, _, [] => xs
  | xs, o, v :: r => setL (xs.set o v) (o + 1) r
theorem setL_mid : ∀ (vs old pre post : List Value), old.length = vs.length → setL (pre ++ (old ++ post)) pre.length vs = pre ++ (vs ++ post)
  | [], [], pre, post, _ => rfl
  | [], u :: old, pre, post, h => by simp at h
  | v :: r, old, pre, post, h => by
    cases old with
    | nil => simp at h
    | cons u old =>
      have h1 : (pre ++ (u :: old ++ post)).set pre.length v = (pre ++ [v]) ++ (old ++ post) := by simp
      have h2 := setL_mid r old (pre ++ [v]) post (by simpa using h)
      rw [setL, h1]
      rw [show (pre ++ [v]).length = pre.length + 1 by simp] at h2
      rw [h2]
      simp
theorem own_setCells {base : Nat} {e : TypeId} {size g n cap : Nat} : ∀ (vs : List Value) (o : Nat) (xs : List Value) (w : World), w.ownsRow base e size (.slice (some ⟨g, 0, none⟩) n cap) n xs →
    (w.setCells g o vs).ownsRow base e size (.slice (some ⟨g, 0, none⟩) n cap) n (setL xs o vs) ∧ w.grownBy (w.setCells g o vs) (some g)
  | [], _, _, w, h => ⟨h, World.grownBy.refl w _⟩
  | v :: r, o, xs, w, h => by
    obtain ⟨h1, h2⟩ := h.stored o v
    obtain ⟨h3, h4⟩ := own_setCells r (o + 1) _ _ h1
    exact ⟨h3, ⟨h4.os.trans h2.os, h4.tape.trans h2.tape, h4.output.trans h2.output, Nat.le_trans h2.size h4.size, fun k hk hn => (h4.block k (Nat.lt_of_lt_of_le hk h2.size) hn).trans (h2.block k hk hn)⟩⟩
theorem below_own {w w' : World} {B g : Nat} (h : w.grownBy w' (some g)) (hB : B ≤ g) (hs : B ≤ w.heap.size) : Below B w w' := ⟨h.os, h.tape, h.output, h.size, fun k hk => h.block k (by omega) (by simp; omega)⟩
theorem below_none {w w' : World} (h : w.grownBy w' none) : Below w.heap.size w w' := ⟨h.os, h.tape, h.output, h.size, fun k hk => h.block k hk (by simp)⟩
/-- Where rows lie. -/
def blocks (l : List Rw) : List Nat := l.filterMap fun r => r.v.ownBlock
/-- Rows of one's own, each apart from the others. -/
structure Lies (b K : Nat) (w : World) (l : List Rw) : Prop where
  own : ∀ r ∈ l, w.ownsRow b r.e r.size r.v r.n r.xs ∧ r.n ≤ K
  apart : (blocks l).Nodup
theorem mem_blocks {l : List Rw} {r : Rw} {k : Nat} (h : r ∈ l) (hk : r.v.ownBlock = some k) : k ∈ blocks l := List.mem_filterMap.2 ⟨r, h, hk⟩
theorem Lies.old {b K : Nat} {w : World} {l : List Rw} (h : Lies b K w l) {k : Nat} (hk : k ∈ blocks l) : b ≤ k ∧ k < w.heap.size := by
  obtain ⟨r, hr, hrk⟩ := List.mem_filterMap.1 hk
  exact own_blk (h.own r hr).1 k hrk
/-- What leaves the rows' blocks leaves the rows. -/
theorem Lies.kept {b K : Nat} {w w' : World} {l : List Rw} (h : Lies b K w l) (hk : ∀ k ∈ blocks l, w'.heap[k]? = w.heap[k]?) : Lies b K w' l :=
  ⟨fun r hr => ⟨own_kept (h.own r hr).1 fun k hk' _ => hk k (mem_blocks hr hk'), (h.own r hr).2⟩, h.apart⟩
theorem Lies.on {b K : Nat} {w w' : World} {l : List Rw} (h : Lies b K w l) (hb : Below w.heap.size w w') : Lies b K w' l := h.kept fun k hk => hb.block k (h.old hk).2
theorem blocks_append (l m : List Rw) : blocks (l ++ m) = blocks l ++ blocks m := List.filterMap_append
theorem Lies.app {b K : Nat} {w : World} {l m : List Rw} (h : Lies b K w l) (k : Lies b K w m) (hd : ∀ i ∈ blocks l, i ∉ blocks m) : Lies b K w (l ++ m) :=
  ⟨fun r hr => (List.mem_append.1 hr).elim (h.own r) (k.own r), by rw [blocks_append]; exact List.nodup_append.2 ⟨h.apart, k.apart, fun i hi j hj e => hd i hi (e ▸ hj)⟩⟩
theorem Lies.left {b K : Nat} {w : World} {l m : List Rw} (h : Lies b K w (l ++ m)) : Lies b K w l :=
  ⟨fun r hr => h.own r (List.mem_append_left _ hr), by have := h.apart; rw [blocks_append] at this; exact (List.nodup_append.1 this).1⟩
theorem Lies.right {b K : Nat} {w : World} {l m : List Rw} (h : Lies b K w (l ++ m)) : Lies b K w m :=
  ⟨fun r hr => h.own r (List.mem_append_right _ hr), by have := h.apart; rw [blocks_append] at this; exact (List.nodup_append.1 this).2.1⟩
theorem Lies.far {b K : Nat} {w : World} {l m : List Rw} (h : Lies b K w (l ++ m)) {i : Nat} (hi : i ∈ blocks l) : i ∉ blocks m := by
  have := h.apart
  rw [blocks_append] at this
  exact fun hm => (List.nodup_append.1 this).2.2 i hi i hm rfl
theorem Lies.more {b K K' : Nat} {w : World} {l : List Rw} (h : Lies b K w l) (hK : K ≤ K') : Lies b K' w l := ⟨fun r hr => ⟨(h.own r hr).1, Nat.le_trans (h.own r hr).2 hK⟩, h.apart⟩
theorem setCell_at (w : World) (p : Addr) (v : Value) (k : Nat) : (w.setCell p v).heap[k]? = (w.heap[k]?).map fun o => if p.block = k then (match o with | .cells c elem frozen => .cells (if p.spot.isSome then c else c.setIfInBounds p.off v) elem frozen | o => o) else o := by
  simp only [World.setCell, Array.getElem?_modify]
  split
  · rfl
  · cases w.heap[k]? <;> rfl
theorem setCell_of {w w1 : World} {p : Addr} {u : Value} {k : Nat} (h : w1.heap[k]? = (w.setCell p u).heap[k]?) (v : Value) : (w1.setCell p v).heap[k]? = (w.setCell p v).heap[k]? := by
  rw [setCell_at, h, setCell_at, setCell_at]
  cases w.heap[k]? with
  | none => rfl
  | some o =>
    by_cases hk : p.block = k
    · simp only [Option.map_some, if_pos hk]
      cases o <;> try rfl
      cases p.spot <;> simp
    · simp only [Option.map_some, if_neg hk]
theorem setCell_same {w w1 : World} {k : Nat} (h : w1.heap[k]? = w.heap[k]?) (p : Addr) (v : Value) : (w1.setCell p v).heap[k]? = (w.setCell p v).heap[k]? := by
  rw [setCell_at, h, setCell_at]
theorem blocks_cons {r : Rw} {l : List Rw} {k : Nat} (h : r.v.ownBlock = some k) : blocks (r :: l) = k :: blocks l := by
  unfold blocks
  rw [List.filterMap_cons, h]
theorem set_far {w : World} {g o k : Nat} {v : Value} (h : g ≠ k) : (w.setCell ⟨g, o, none⟩ v).heap[k]? = w.heap[k]? := by
  rw [setCell_at]
  cases w.heap[k]? with
  | none => rfl
  | some z => simp only [Option.map_some]; rw [if_neg h]
theorem blocks_cons_le {r : Rw} {l : List Rw} {q : Nat} (h : q ∈ blocks l) : q ∈ blocks (r :: l) := by
  unfold blocks at h ⊢
  rw [List.filterMap_cons]
  split
  · exact h
  · exact List.mem_cons_of_mem _ h
/-- The order of rows does not matter. -/
theorem Lies.perm {b K : Nat} {w : World} {l l' : List Rw} (h : Lies b K w l) (hp : l.Perm l') : Lies b K w l' :=
  ⟨fun r hr => h.own r (hp.mem_iff.2 hr), (hp.filterMap _).nodup_iff.1 h.apart⟩
theorem blocks_perm {l l' : List Rw} (hp : l.Perm l') {q : Nat} : q ∈ blocks l ↔ q ∈ blocks l' := (hp.filterMap _).mem_iff
/-- Some of the rows change, and others come. -/
theorem Lies.swap {b K K' : Nat} {w w' : World} {l1 T T' l2 : List Rw} (h : Lies b K w (l1 ++ (T ++ l2))) (h' : Lies b K' w' T') (hK : K ≤ K') (hkeep : ∀ k, k ∈ blocks l1 ∨ k ∈ blocks l2 → w'.heap[k]? = w.heap[k]?) (hold : ∀ q ∈ blocks T', q < w.heap.size → q ∈ blocks T) : Lies b K' w' (l1 ++ (T' ++ l2)) := by
  have h1 := h.left
  have h2 := h.right.right
  have k1 : Lies b K' w' l1 := (h1.kept fun k hk => hkeep k (.inl hk)).more hK
  have k2 : Lies b K' w' l2 := (h2.kept fun k hk => hkeep k (.inr hk)).more hK
  refine k1.app (h'.app k2 fun i hi hm => ?_) fun i hi hm => ?_
  · exact h.right.far (hold i hi (h2.old hm).2) hm
  · rw [blocks_append] at hm
    rcases List.mem_append.1 hm with hm | hm
    · exact h.far hi (by rw [blocks_append]; exact List.mem_append_left _ (hold i hm (h1.old hi).2))
    · exact h.far hi (by rw [blocks_append]; exact List.mem_append_right _ hm)
theorem mem_three {l1 T l2 : List Rw} {q : Nat} : q ∈ blocks (l1 ++ (T ++ l2)) ↔ q ∈ blocks l1 ∨ q ∈ blocks T ∨ q ∈ blocks l2 := by
  rw [blocks_append, blocks_append, List.mem_append, List.mem_append]
theorem Lies.cons {b K : Nat} {w : World} {r : Rw} {l : List Rw} (h : Lies b K w l) (ho : w.ownsRow b r.e r.size r.v r.n r.xs) (hn : r.n ≤ K) (hb : ∀ k, r.v.ownBlock = some k → k ∉ blocks l) : Lies b K w (r :: l) := by
  refine ⟨fun q hq => ?_, ?_⟩
  · rcases List.mem_cons.1 hq with rfl | hq
    · exact ⟨ho, hn⟩
    · exact h.own q hq
  · cases hk : r.v.ownBlock with
    | none => unfold blocks; rw [List.filterMap_cons, hk]; exact h.apart
    | some k => rw [blocks_cons hk]; exact List.nodup_cons.2 ⟨hb k hk, h.apart⟩
theorem Lies.head {b K : Nat} {w : World} {r : Rw} {l : List Rw} (h : Lies b K w (r :: l)) : (∀ k, r.v.ownBlock = some k → k ∉ blocks l) ∧ Lies b K w l := by
  have hap := h.apart
  refine ⟨fun k hk => ?_, ⟨fun q hq => h.own q (List.mem_cons_of_mem _ hq), ?_⟩⟩
  · rw [blocks_cons hk] at hap
    exact (List.nodup_cons.1 hap).1
  · cases hk : r.v.ownBlock with
    | none => unfold blocks at hap ⊢; rw [List.filterMap_cons, hk] at hap; exact hap
    | some k => rw [blocks_cons hk] at hap; exact (List.nodup_cons.1 hap).2
/-- A row that something is appended to. -/
theorem Lies.push {b K K' : Nat} {w w8 : World} {l1 l2 : List Rw} {r : Rw} {n' g8 c8 : Nat} {xs' : List Value} (h : Lies b K w (l1 ++ r :: l2)) (hg : w.grownBy w8 r.v.ownBlock) (ho : w8.ownsRow b r.e r.size (.slice (some ⟨g8, 0, none⟩) n' c8) n' xs') (hat : r.v.ownBlock = some g8 ∨ w.heap.size ≤ g8) (hn : n' ≤ K') (hK : K ≤ K') : Lies b K' w8 (l1 ++ ⟨r.e, r.size, .slice (some ⟨g8, 0, none⟩) n' c8, n', xs'⟩ :: l2) := by
  have h1 : l1 ++ r :: l2 = l1 ++ ([r] ++ l2) := rfl
  rw [h1] at h
  refine Lies.swap (T' := [⟨r.e, r.size, .slice (some ⟨g8, 0, none⟩) n' c8, n', xs'⟩]) h ⟨fun q hq => ?_, by simp [blocks, Value.ownBlock]⟩ hK (fun k hk => ?_) (fun q hq hlt => ?_)
  · obtain rfl := List.mem_singleton.1 hq
    exact ⟨ho, hn⟩
  · have hkw : k < w.heap.size := by
      rcases hk with hk | hk
      · exact (h.left.old hk).2
      · exact (h.right.right.old hk).2
    refine hg.block k hkw (fun e => ?_)
    have hr : k ∈ blocks [r] := by unfold blocks; rw [List.filterMap_cons, ← e]; exact List.mem_cons_self ..
    rcases hk with hk | hk
    · exact h.far hk (by rw [blocks_append]; exact List.mem_append_left _ hr)
    · exact h.right.far hr hk
  · obtain rfl : g8 = q := by
      have : q ∈ [g8] := hq
      exact (List.mem_singleton.1 this).symm
    rcases hat with e | e
    · unfold blocks; rw [List.filterMap_cons, e]; exact List.mem_cons_self ..
    · omega
end Go.Proofs.YtceomdbahiimlaaDoor.T14
/-
  The reader that makes a node of tokens: how it lies; an element appended to a row behind a cell.
-/
namespace Go.Proofs.YtceomdbahiimlaaDoor.T14
set_option maxRecDepth 100000

open Go.RowKit

theorem once {P G : Prop} (f : Hid P → G) (h : P) : G := f (Lib.hid h)
theorem info_node : (Tryd.prog.info? 24).map (fun i => (i.zero, i.size, i.bytes)) = some (some (.agg #[.int .i64 0, .string ⟨#[]⟩, .int .i64 0, .int .i64 0, .slice none 0 0]), 5, 64) := by kernel_rfl
theorem sz_node : (Tryd.prog.info? 24).map (·.size) = some 5 := by kernel_rfl
def stN (o : List LN) (wh : Option LN) : Int := if wh.isSome then 2 else if o.isEmpty then 0 else 1
/-- A reader's box: its state, the lists that are open, the node behind them. -/
def RBox (w : World) (g : Nat) (st : Int) (vo : Value) (z : LN) : Prop := w.heap[g]? = some (.cells #[.int .i64 st, vo, .int .i64 z.kind, .string (tx z.text), .int .i64 z.num, .int .i64 z.at_, z.g] 43 (0, 0))
def rwO (vo : Value) (o : List LN) : Rw := ⟨24, 5, vo, o.length, o.reverse.flatMap LN.cells⟩
def rowsP (vo : Value) (o : List LN) (z : List LN) : List Rw := rwO vo o :: (rowsL o ++ rowsL z)
/-- A reader, with all that it holds its own. -/
structure RSt (b K : Nat) (w : World) (g : Nat) (o : List LN) (wh : Option LN) : Prop where
  lay : ∃ vo, RBox w g (stN o wh) vo (wh.getD LN.zero) ∧ Lies b K w (rowsP vo o wh.toList) ∧ g ∉ blocks (rowsP vo o wh.toList)
  low : b ≤ g
theorem seven_cells {w : World} {g : Nat} {a0 a1 a2 a3 a4 a5 a6 : Value} {t : TypeId} (h : w.heap[g]? = some (.cells #[a0, a1, a2, a3, a4, a5, a6] t (0, 0))) : w.cell? ⟨g, 0, none⟩ = some a0 ∧ w.cell? ⟨g, 1, none⟩ = some a1 ∧ w.cell? ⟨g, 2, none⟩ = some a2 ∧ w.cell? ⟨g, 3, none⟩ = some a3 ∧ w.cell? ⟨g, 4, none⟩ = some a4 ∧ w.cell? ⟨g, 5, none⟩ = some a5 ∧ w.cell? ⟨g, 6, none⟩ = some a6 :=
  ⟨box_cell h 0, box_cell h 1, box_cell h 2, box_cell h 3, box_cell h 4, box_cell h 5, box_cell h 6⟩
theorem five_cells {w : World} {g : Nat} {a0 a1 a2 a3 a4 : Value} {t : TypeId} (h : w.heap[g]? = some (.cells #[a0, a1, a2, a3, a4] t (0, 0))) : w.cell? ⟨g, 0, none⟩ = some a0 ∧ w.cell? ⟨g, 1, none⟩ = some a1 ∧ w.cell? ⟨g, 2, none⟩ = some a2 ∧ w.cell? ⟨g, 3, none⟩ = some a3 ∧ w.cell? ⟨g, 4, none⟩ = some a4 :=
  ⟨box_cell h 0, box_cell h 1, box_cell h 2, box_cell h 3, box_cell h 4⟩
theorem box_froz {w : World} {g : Nat} {cs : Array Value} {t : TypeId} (h : w.heap[g]? = some (.cells cs t (0, 0))) (j : Nat) : w.frozen? ⟨g, j, none⟩ = false := by simp [World.frozen?, h]
theorem box_lt_cell {w : World} {a : Addr} {v : Value} (h : w.cell? a = some v) : a.block < w.heap.size := World.block_lt_of_cell? w a h
theorem box_there {w : World} {g : Nat} {cs : Array Value} {t : TypeId} (h : w.heap[g]? = some (.cells cs t (0, 0))) {o m : Nat} (hm : o + m ≤ cs.size) : w.there g o m := fun j hj => by
  refine ⟨?_, box_froz h _⟩
  rw [box_cell h, Array.getElem?_eq_getElem (by omega)]
  rfl
theorem cells_len (l : List LN) : (l.flatMap LN.cells).length = l.length * 5 := by
  induction l with
  | nil => rfl
  | cons x l ih => rw [List.flatMap_cons, List.length_append, ih, List.length_cons, Nat.succ_mul]; show 5 + _ = _; omega
theorem ln_one {b K : Nat} {w : World} {n : LN} {l : List Rw} (h : Lies b K w l) (hn : rwN n ∈ l) : ∀ v ∈ n.cells, v.oneCell' = true := by
  obtain ⟨A, c, e, -⟩ := Sl.of_own (h.own _ hn).1
  have e : n.g = .slice A n.l.length c := e
  intro v hv
  simp only [LN.cells, List.mem_cons, List.not_mem_nil, or_false] at hv
  rcases hv with rfl | rfl | rfl | rfl | rfl
  · rfl
  · rfl
  · rfl
  · rfl
  · rw [e]; rfl

/-! ### An element appended to a row whose slice lies in a cell -/

structure App (b : Nat) (w1 x : World) (v0 : Value) (n : Nat) (xs : List Value) (gv off g8 c8 : Nat) (tail : List Value) (done : Bool) : Prop where
  os : x.os = w1.os
  tape : x.tape = w1.tape
  output : x.output = w1.output
  size : w1.heap.size ≤ x.heap.size
  far : ∀ k, k < w1.heap.size → some k ≠ v0.ownBlock → k ≠ gv → x.heap[k]? = w1.heap[k]?
  row : x.ownsRow b 24 5 (.slice (some ⟨g8, 0, none⟩) (n + 1) c8) (n + 1) (xs ++ tail)
  at8 : v0.ownBlock = some g8 ∨ w1.heap.size ≤ g8
  top : x.heap[gv]? = (if done then (w1.setCell ⟨gv, off, none⟩ (.slice (some ⟨g8, 0, none⟩) (n + 1) c8)).heap[gv]? else w1.heap[gv]?)
section

variable {b : Nat} {w1 x x' : World} {v0 : Value} {n : Nat} {xs : List Value} {gv off g8 c8 : Nat} {tail : List Value} {done : Bool}

theorem App.made (hB : Below w1.heap.size w1 x) (hown : x'.ownsRow b 24 5 (.slice (some ⟨g8, 0, none⟩) (n + 1) c8) (n + 1) (xs ++ tail)) (hg : x.grownBy x' v0.ownBlock) (hat : v0.ownBlock = some g8 ∨ g8 = x.heap.size) (hgv : gv < w1.heap.size) (hne : some gv ≠ v0.ownBlock) : App b w1 x' v0 n xs gv off g8 c8 tail false :=
  ⟨hg.os.trans hB.os, hg.tape.trans hB.tape, hg.output.trans hB.output, Nat.le_trans hB.size hg.size, fun k hk h1 _ => (hg.block k (Nat.lt_of_lt_of_le hk hB.size) h1).trans (hB.block k hk), hown, hat.imp id (fun h => by rw [h]; exact hB.size),
    (hg.block gv (Nat.lt_of_lt_of_le hgv hB.size) hne).trans (hB.block gv hgv)⟩
theorem App.ne (h : App b w1 x v0 n xs gv off g8 c8 tail done) (hgv : gv < w1.heap.size) (hne : some gv ≠ v0.ownBlock) : g8 ≠ gv := fun e => by
  rcases h.at8 with h1 | h1
  · rw [h1, e] at hne; exact hne rfl
  · omega
theorem own_there {w : World} {base : Nat} {e : TypeId} {size g n cap : Nat} {xs : List Value} (h : w.ownsRow base e size (.slice (some ⟨g, 0, none⟩) n cap) n xs) {o m : Nat} (hm : o + m ≤ n * size) : w.there g o m := fun j hj => by
  refine ⟨?_, h.frozenAt _⟩
  rw [h.cellAt (o + j) (by omega), List.getElem?_eq_getElem (by rw [h.1]; omega)]
  rfl
theorem App.elem (h : App b w1 x v0 n xs gv off g8 c8 tail done) (hgv : gv < w1.heap.size) (hne : some gv ≠ v0.ownBlock) {vs : List Value} (ht : tail.length = vs.length) (hx : xs.length = n * 5) : App b w1 (x.setCells g8 (n * 5) vs) v0 n xs gv off g8 c8 vs done := by
  obtain ⟨h1, h2⟩ := own_setCells vs (n * 5) _ _ h.row
  rw [← hx, show xs ++ tail = xs ++ (tail ++ []) by simp, setL_mid vs tail xs [] ht, List.append_nil, hx] at h1
  have h8 := h.ne hgv hne
  refine ⟨h2.os.trans h.os, h2.tape.trans h.tape, h2.output.trans h.output, Nat.le_trans h.size h2.size, fun k hk k1 k2 => (h2.block k (Nat.lt_of_lt_of_le hk h.size) (fun e => ?_)).trans (h.far k hk k1 k2), h1, h.at8, (h2.block gv (Nat.lt_of_lt_of_le hgv h.size) (fun e => h8 (Option.some.inj e).symm)).trans h.top⟩
  obtain rfl := Option.some.inj e
  rcases h.at8 with h9 | h9
  · exact k1 h9.symm
  · omega
theorem App.slot (h : App b w1 x v0 n xs gv off g8 c8 tail false) (hgv : gv < w1.heap.size) (hne : some gv ≠ v0.ownBlock) : App b w1 (x.setCell ⟨gv, off, none⟩ (.slice (some ⟨g8, 0, none⟩) (n + 1) c8)) v0 n xs gv off g8 c8 tail true := by
  have h8 := h.ne hgv hne
  refine ⟨h.os, h.tape, h.output, Nat.le_trans h.size (by simp), fun k hk k1 k2 => (set_far (fun e => k2 e.symm)).trans (h.far k hk k1 k2), own_kept h.row fun k hk _ => set_far (fun e => h8 ?_), h.at8, ?_⟩
  · have hk : g8 = k := by simpa [Value.ownBlock] using hk
    rw [hk, e]
  · rw [if_pos rfl]
    have ht := h.top
    rw [if_neg (by decide)] at ht
    exact setCell_same ht _ _
end

end Go.Proofs.YtceomdbahiimlaaDoor.T14
