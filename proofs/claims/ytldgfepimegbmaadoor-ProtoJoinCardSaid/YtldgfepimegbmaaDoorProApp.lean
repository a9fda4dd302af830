/-
  Rows of structs are put behind one another: the step, and what is read then.
-/
import Derived.Test.YtldgfepimegbmaaDoorProJoin
import Derived.Deep.RegionHeldLaw
import Derived.Deep.AppendLies
import Derived.Laws.OwnMore
namespace Go.Proofs.YtldgfepimegbmaaDoor
set_option maxRecDepth 100000
open Go.RowKit

/-- 'append(s, x...)', s a row of the call's own, x any row. -/
theorem step_append_row {P : Program} {w : World} {ops : Array Oper} {o : Oper} {a : Act} {K : Act → World → Prop} {Q : Exit → Act → World → Prop} {E : Prop} (hgd : o.guard = none) (s x : Operand) (t : TypeId)
    (ho : o.op = .call { callee := .builtin .append, args := #[s, x], argTypes := #[t, t] })
    (base : Nat) (e : TypeId) (i : TypeInfo) (z : Value) (size bytes : Nat) (ht : P.underlying t = some (.slice e)) (hi : P.info? e = some i) (hz : i.zero = some z)
    (hsize : i.size = size) (hby : i.bytes = bytes) (hzs : z.cells.size = size) (hsz : 0 < size)
    (v : Value) (n : Nat) (xs : List Value) (hs : a.eval s = v) (hown : w.ownsRow base e size v n xs)
    (b' : Nat) (u : Value) (m : Nat) (news : List Value) (hx : a.eval x = u) (hsrc : w.ownsRow b' e size u m news) (h1 : ∀ u ∈ news, u.oneCell' = true)
    (h63 : n + m ≤ maxLen) (hbytes : (n + m) * bytes ≤ 140737488355328) (hbase : base ≤ w.heap.size)
    (h : ∀ v' w', w'.ownsRow base e size v' (n + m) (xs ++ news) → w.grownBy w' v.ownBlock → K (a.put o.dst v') w') :
    if Region.wanted o (yielded ops a.tmps) = true then Oper.wp P o a w K Q else E := by
  have hw : Region.wanted o (yielded ops a.tmps) = true := by simp [Region.wanted, hgd]
  rw [if_pos hw]
  obtain ⟨A, c, rfl, hsl⟩ := Sl.of_own hsrc
  cases A with
  | some ad => exact wp_append_own w s x t ho base e i z size bytes ht hi hz hsize hby hzs hsz v n xs hs hown ad m c news hx hsl.len (hsl.cell ad rfl) h1 h63 hbytes hbase fun v' w' h2 h3 _ => h v' w' h2 h3
  | none =>
    obtain rfl := hsl.nil rfl
    obtain rfl : m = 0 := by have := hsl.le; omega
    obtain rfl : news = [] := List.eq_nil_of_length_eq_zero (by rw [hsl.len]; simp)
    have hrun := run_append_owned_none (P := P) (w := w) base t o.type e i size ht hi v n xs hown
    unfold Oper.wp
    simp [execOp, ho, resolve, invoke, builtin, hs, hx, hrun, Result.andThen]
    exact h v w (by simpa using hown) (World.grownBy.refl _ _)
theorem MsAre.cells {w : World} : ∀ {l : List Ms} {xs : List Value}, MsAre w l xs → ∀ u ∈ xs, u.oneCell' = true
  | [], _, h => by cases h; intro u hu; cases hu
  | _ :: _, _, ⟨_, _, _, ys, h1, h2, h3⟩ => by
    subst h1
    intro u hu
    rcases List.mem_append.1 hu with hu | hu
    · exact h2.cells u hu
    · exact h3.cells u hu
theorem EnAre.cells {w : World} : ∀ {l : List En} {xs : List Value}, EnAre w l xs → ∀ u ∈ xs, u.oneCell' = true
  | [], _, h => by cases h; intro u hu; cases hu
  | _ :: _, _, ⟨_, ys, h1, h2, h3⟩ => by
    subst h1
    intro u hu
    rcases List.mem_append.1 hu with hu | hu
    · exact ERead.cells h2 u hu
    · exact h3.cells u hu
theorem MsAre.app {w : World} : ∀ {l m : List Ms} {xs ys : List Value}, MsAre w l xs → MsAre w m ys → MsAre w (l ++ m) (xs ++ ys)
  | [], _, _, _, h, k => by cases h; simpa using k
  | _ :: _, _, _, ys, ⟨a, b, c, zs, h1, h2, h3⟩, k => ⟨a, b, c, zs ++ ys, by rw [h1]; simp, h2, h3.app k⟩
theorem EnAre.app {w : World} : ∀ {l m : List En} {xs ys : List Value}, EnAre w l xs → EnAre w m ys → EnAre w (l ++ m) (xs ++ ys)
  | [], _, _, _, h, k => by cases h; simpa using k
  | _ :: _, _, _, ys, ⟨a, zs, h1, h2, h3⟩, k => ⟨a, zs ++ ys, by rw [h1]; simp, h2, h3.app k⟩
/-- Two rows of the call's own, of messages and of enums; what was there is as it was. -/
structure Jn (W c : World) (v : Value) (n : Nat) (xs : List Value) (u : Value) (k : Nat) (ys : List Value) : Prop where
  m : c.ownsRow W.heap.size 34 5 v n xs
  e : c.ownsRow W.heap.size 58 3 u k ys
  b : Below W.heap.size W c
theorem Jn.start (W : World) : Jn W W.drew (.slice none 0 0) 0 [] (.slice none 0 0) 0 [] := ⟨World.ownsRow_nil _ _ _ _, World.ownsRow_nil _ _ _ _, (Below.refl _ _).drew⟩
theorem Jn.addM {W c c' : World} {v v' u : Value} {n n' k : Nat} {xs xs' ys : List Value} (h : Jn W c v n xs u k ys) (hr : c'.ownsRow W.heap.size 34 5 v' n' xs') (hg : c.grownBy c' v.ownBlock) : Jn W c' v' n' xs' u k ys :=
  ⟨hr, h.e.kept hg (own_apart h.e h.m (by decide)), h.b.grown hg h.b.size fun i hi => (h.m.lt i hi).1⟩
theorem Jn.addE {W c c' : World} {v v' u : Value} {n n' k : Nat} {xs xs' ys : List Value} (h : Jn W c u k ys v n xs) (hr : c'.ownsRow W.heap.size 58 3 v' n' xs') (hg : c.grownBy c' v.ownBlock) : Jn W c' u k ys v' n' xs' :=
  ⟨h.m.kept hg (own_apart h.m h.e (by decide)), hr, h.b.grown hg h.b.size fun i hi => (h.e.lt i hi).1⟩
theorem own_below2 {w w' : World} {base : Nat} {e : TypeId} {size : Nat} {v : Value} {n : Nat} {xs : List Value} (h : w.ownsRow base e size v n xs) (hb : Below w.heap.size w w') : w'.ownsRow base e size v n xs :=
  h.kept (row := none) ⟨hb.os, hb.tape, hb.output, hb.size, fun k hk _ => hb.block k hk⟩ (by cases hv : v.ownBlock <;> simp)
theorem Jn.alloc {W c : World} {v u : Value} {n k : Nat} {xs ys : List Value} (h : Jn W c v n xs u k ys) (o : Obj) : Jn W (c.alloc o) v n xs u k ys :=
  ⟨own_below2 h.m (below_new c o), own_below2 h.e (below_new c o), h.b.alloc h.b.size o⟩
theorem Jn.box {W c c' : World} {v u : Value} {n k : Nat} {xs ys : List Value} (h : Jn W c u k ys v n xs) {o : Obj} (hg : (c.alloc o).grownBy c' v.ownBlock) : c'.heap[c.heap.size]? = some o :=
  (hg.block c.heap.size (by simp) (fun e => by have := (h.e.lt _ e.symm).2; omega)).trans (heap_alloc_new c o)
theorem own_far {w w' : World} {b : Nat} {e : TypeId} {size : Nat} {v : Value} {n : Nat} {xs : List Value} (hr : w.ownsRow b e size v n xs) (hg : w.grownBy w' v.ownBlock) {B : Nat} {cs : Array Value} {t : TypeId} {fr : Nat × Nat} (hb : w.heap[B]? = some (.cells cs t fr)) (ht : t ≠ e) : w'.heap[B]? = some (.cells cs t fr) := by
  refine (hg.block B (Array.getElem?_eq_some_iff.1 hb).1 ?_).trans hb
  rcases hr.2 with ⟨rfl, _⟩ | ⟨g', cap, cur, rfl, _, h2, _⟩
  · simp [Value.ownBlock]
  · simp only [Value.ownBlock, ne_eq, Option.some.injEq]
    rintro rfl
    rw [hb] at h2
    simp only [Option.some.injEq, Obj.cells.injEq] at h2
    exact ht h2.2.1
theorem Jn.keepM {W c c' : World} {v u : Value} {n k : Nat} {xs ys : List Value} (h : Jn W c v n xs u k ys) (hg : c.grownBy c' v.ownBlock) {B : Nat} {cs : Array Value} {fr : Nat × Nat} (hb : c.heap[B]? = some (.cells cs 26 fr)) : c'.heap[B]? = some (.cells cs 26 fr) := own_far h.m hg hb (by decide)
theorem Jn.keepE {W c c' : World} {v u : Value} {n k : Nat} {xs ys : List Value} (h : Jn W c u k ys v n xs) (hg : c.grownBy c' v.ownBlock) {B : Nat} {cs : Array Value} {fr : Nat × Nat} (hb : c.heap[B]? = some (.cells cs 26 fr)) : c'.heap[B]? = some (.cells cs 26 fr) := own_far h.e hg hb (by decide)
end Go.Proofs.YtldgfepimegbmaaDoor
