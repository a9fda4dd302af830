/-
  What the laws of layer 9 share: rows that are written out, slots that are set and read.
-/
import Derived.Test.YtipaangiehdgkaaGreatDoorTrFew
import Derived.Deep.AppendLies
import Derived.Deep.RegionLaw
import Derived.Deep.RegionHeldLaw
import Derived.Test.YtipaangiehdgkaaGreatDoorTrDeep
namespace Go.Proofs.YtipaangiehdgkaaGreatDoor.T9
set_option maxRecDepth 100000

open Go.RowKit

/-- A row that is written out. -/
theorem lit_row {w : World} {g B n size : Nat} {xs : List Value} {t : TypeId} {fr : Nat × Nat} (h : w.heap[g]? = some (.cells xs.toArray t fr)) (hl : xs.length = n * size) (hn : n ≤ 1000000) (hB : g < B) (e : TypeId) : Rd B w e size (.slice (some ⟨g, 0, none⟩) n n) n xs := by
  refine ⟨⟨some ⟨g, 0, none⟩, n, rfl, ⟨hl, Nat.le_refl _, by unfold maxLen; omega, by simp, fun ad ha _ => ?_, fun ad ha k u hu => ?_⟩, fun ad ha _ => ?_⟩, by omega⟩
  · obtain rfl := Option.some.inj ha
    exact box_lt h
  · obtain rfl := Option.some.inj ha
    rw [Addr.add_lit, Nat.zero_add, box_cell h]
    simpa using hu
  · obtain rfl := Option.some.inj ha
    exact hB
theorem slot_more {R : RP} {d e : Nat} (h : d ≤ e) {s : So} {cs : List Value} (hs : SAt' R d s cs) : SAt' R e s cs := sAt.imp (fun _ _ _ _ _ h => h) (fun m cs hm => MAt.more h m cs hm) _ _ hs
theorem msg_shape {b D : Nat} {w : World} {m : Mg} {x : Value} (h : MAt (Ow b w) D m [x]) : ∃ A c, x = .slice A m.F.length c := by
  cases D with
  | zero => exact h.elim
  | succ D =>
    obtain ⟨u, hu, xs, ⟨hown, -⟩, -⟩ := h
    obtain rfl : x = u := by simpa using hu
    obtain ⟨A, c, rfl, -⟩ := Sl.of_own hown
    exact ⟨A, c, rfl⟩
theorem rd_shape {B D : Nat} {w : World} {m : Mg} {x : Value} (h : MRd B w D m x) : ∃ A c, x = .slice A m.F.length c := by
  cases D with
  | zero => exact h.elim
  | succ D =>
    obtain ⟨u, hu, hl⟩ := h
    obtain rfl : x = u := by simpa using hu
    obtain ⟨A, c, xs, rfl, -⟩ := hl.open_
    exact ⟨A, c, rfl⟩
theorem slot_shape {B D : Nat} {w : World} {s : So} {x y z : Value} (h : SAt' (Rd B w) D s [x, y, z]) : ∃ A1 c1 A2 c2, x = .int .i64 s.no ∧ y = .slice A1 s.K.length c1 ∧ z = .slice A2 s.V.length c2 := by
  obtain ⟨u1, u2, hu, hk, hv⟩ := h
  simp only [List.cons.injEq, and_true] at hu
  obtain ⟨rfl, rfl, rfl⟩ := hu
  obtain ⟨A1, c1, _, rfl, -⟩ := hk.open_
  obtain ⟨A2, c2, _, rfl, -⟩ := hv.open_
  exact ⟨A1, c1, A2, c2, rfl, rfl, rfl⟩
/-- What is one's own is read. -/
theorem own_rd {b D : Nat} {w : World} {m : Mg} {x : Value} (h : MAt (Ow b w) D m [x]) : MRd w.heap.size w D m x := MAt.imp (fun e size v n xs h => Rd.of_own e size v n xs h) D _ _ h
theorem rd_on {B D : Nat} {w w' : World} {m : Mg} {x : Value} (hb : Below w.heap.size w w') (hB : B ≤ w.heap.size) (h : MRd B w D m x) : MRd B w' D m x := MRd.low (Lo.below hb hB) h
theorem rd_up {D : Nat} {w w' : World} {m : Mg} {x : Value} (hb : Below w.heap.size w w') (h : MRd w.heap.size w D m x) : MRd w'.heap.size w' D m x := MRd.mono hb.size (MRd.low (Lo.below hb (Nat.le_refl _)) h)
theorem srd_up {D : Nat} {w w' : World} {s : So} {cs : List Value} (hb : Below w.heap.size w w') (h : SAt' (Rd w.heap.size w) D s cs) : SAt' (Rd w'.heap.size w') D s cs := SRd.mono hb.size (SRd.low (Lo.below hb (Nat.le_refl _)) h)
/-- A slot without values. -/
def bare9 (no : Int) : So := ⟨no, [], []⟩
theorem bare9_at (B D : Nat) (w : World) (no : Int) : SAt' (Rd B w) D (bare9 no) [.int .i64 no, .slice none 0 0, .slice none 0 0] := ⟨_, _, rfl, ⟨[], ⟨Rr.nil _ _ _, Nat.zero_le _⟩, rfl⟩, ⟨[], ⟨Rr.nil _ _ _, Nat.zero_le _⟩, rfl⟩⟩
theorem bare9_c (no : Int) : cS (bare9 no) = 1 := rfl
/-- A message of slots that are written out. -/
theorem one_rd {D g : Nat} {w : World} {s : So} {x y z : Value} {t : TypeId} {fr : Nat × Nat} (hs : SAt' (Rd w.heap.size w) D s [x, y, z]) (h : w.heap[g]? = some (.cells #[x, y, z] t fr)) : MRd w.heap.size w (D + 1) (.mk [s]) (.slice (some ⟨g, 0, none⟩) 1 1) :=
  ⟨_, rfl, [x, y, z], lit_row (xs := [x, y, z]) h rfl (by decide) (box_lt h) _, Rows.single hs⟩
theorem two_rd {D g : Nat} {w : World} {s s' : So} {x y z x' y' z' : Value} {t : TypeId} {fr : Nat × Nat} (hs : SAt' (Rd w.heap.size w) D s [x, y, z]) (hs' : SAt' (Rd w.heap.size w) D s' [x', y', z']) (h : w.heap[g]? = some (.cells #[x, y, z, x', y', z'] t fr)) : MRd w.heap.size w (D + 1) (.mk [s, s']) (.slice (some ⟨g, 0, none⟩) 2 2) :=
  ⟨_, rfl, [x, y, z, x', y', z'], lit_row (xs := [x, y, z, x', y', z']) h rfl (by decide) (box_lt h) _, (Rows.single hs).append (Rows.single hs')⟩
/-- Messages that are written out. -/
theorem msgs1_rd {D g : Nat} {w : World} {m : Mg} {x : Value} {t : TypeId} {fr : Nat × Nat} (hm : MRd w.heap.size w D m x) (h : w.heap[g]? = some (.cells #[x] t fr)) : LsAt (Rd w.heap.size w) 36 1 (MAt (Rd w.heap.size w) D) [m] (.slice (some ⟨g, 0, none⟩) 1 1) :=
  ⟨[x], lit_row (xs := [x]) h rfl (by decide) (box_lt h) _, Rows.single hm⟩
theorem msgs2_rd {D g : Nat} {w : World} {m m' : Mg} {x x' : Value} {t : TypeId} {fr : Nat × Nat} (hm : MRd w.heap.size w D m x) (hm' : MRd w.heap.size w D m' x') (h : w.heap[g]? = some (.cells #[x, x'] t fr)) : LsAt (Rd w.heap.size w) 36 1 (MAt (Rd w.heap.size w) D) [m, m'] (.slice (some ⟨g, 0, none⟩) 2 2) :=
  ⟨[x, x'], lit_row (xs := [x, x']) h rfl (by decide) (box_lt h) _, (Rows.single hm).append (Rows.single hm')⟩
theorem msgs3_rd {D g : Nat} {w : World} {m m' m'' : Mg} {x x' x'' : Value} {t : TypeId} {fr : Nat × Nat} (hm : MRd w.heap.size w D m x) (hm' : MRd w.heap.size w D m' x') (hm'' : MRd w.heap.size w D m'' x'') (h : w.heap[g]? = some (.cells #[x, x', x''] t fr)) : LsAt (Rd w.heap.size w) 36 1 (MAt (Rd w.heap.size w) D) [m, m', m''] (.slice (some ⟨g, 0, none⟩) 3 3) :=
  ⟨[x, x', x''], lit_row (xs := [x, x', x'']) h rfl (by decide) (box_lt h) _, ((Rows.single hm).append (Rows.single hm')).append (Rows.single hm'')⟩
theorem cnt_one (s : So) : (Mg.mk [s]).cnt = cS s := by rw [Mg.cnt_eq]; show sm [cS s] = _; simp [sm]
theorem cnt_two (s t : So) : (Mg.mk [s, t]).cnt = cS s + cS t := by rw [Mg.cnt_eq]; show sm [cS s, cS t] = _; simp [sm]
theorem size_one (s : So) : (Mg.mk [s]).size = zS s := by rw [Mg.size_eq]; show sm [zS s] = _; simp [sm]
theorem deep_one (s : So) : (Mg.mk [s]).deep = 1 + dS s := by rw [Mg.deep_eq]; show 1 + mx [dS s] = _; simp [mx]
theorem set_bare (m : Mg) (no : Int) : setM m (bare9 no) = .mk (rest m.F no) := by unfold setM; rw [if_pos (show (bare9 no).V = [] from rfl)]; rfl
theorem set_full {m : Mg} {s : So} (h : s.V ≠ []) : setM m s = .mk (putS (rest m.F s.no) s) := by unfold setM; rw [if_neg h]
theorem mx_put (l : List So) (s : So) (g : So → Nat) : mx ((putS l s).map g) = max (mx (l.map g)) (g s) := by
  unfold putS
  have h : mx (l.map g) = max (mx ((l.take (place l s.no)).map g)) (mx ((l.drop (place l s.no)).map g)) := by rw [← mx_append, ← List.map_append, List.take_append_drop]
  rw [List.map_append, List.map_cons, mx_append, h]
  simp only [mx]
  omega
end Go.Proofs.YtipaangiehdgkaaGreatDoor.T9
/-
  Rows of the call's own that are not one block: what an append onto that block's row keeps.
-/
namespace Go.Proofs.YtipaangiehdgkaaGreatDoor.T9
set_option maxRecDepth 100000

open Go.RowKit

/-- Rows of the call's own, none of them block r. -/
def Ap (b : Nat) (r : Option Nat) (w : World) : RP := fun e size v n xs => w.ownsRow b e size v n xs ∧ (∀ k, v.ownBlock = some k → r ≠ some k) ∧ n ≤ 10000000000000
theorem own_kept {w w' : World} {b : Nat} {e : TypeId} {size : Nat} {v : Value} {n : Nat} {xs : List Value} (h : w.ownsRow b e size v n xs) (hk : ∀ k, v.ownBlock = some k → k < w.heap.size → w'.heap[k]? = w.heap[k]?) : w'.ownsRow b e size v n xs := by
  rcases h with ⟨hl, ⟨rfl, rfl⟩ | ⟨g, cap, cur, rfl, h1, h2, h3⟩⟩
  · exact ⟨hl, .inl ⟨rfl, rfl⟩⟩
  · exact ⟨hl, .inr ⟨g, cap, cur, rfl, h1, (hk g rfl (box_lt h2)).trans h2, h3⟩⟩
theorem own_blk {w : World} {b : Nat} {e : TypeId} {size : Nat} {v : Value} {n : Nat} {xs : List Value} (h : w.ownsRow b e size v n xs) (k : Nat) (hk : v.ownBlock = some k) : b ≤ k ∧ k < w.heap.size := by
  rcases h with ⟨hl, ⟨rfl, rfl⟩ | ⟨g, cap, cur, rfl, h1, h2, h3⟩⟩
  · simp [Value.ownBlock] at hk
  · simp only [Value.ownBlock, Option.some.injEq] at hk
    subst hk
    exact ⟨h1, box_lt h2⟩
theorem Ap.ow {b : Nat} {r : Option Nat} {w : World} (e : TypeId) (size : Nat) (v : Value) (n : Nat) (xs : List Value) (h : Ap b r w e size v n xs) : Ow b w e size v n xs := ⟨h.1, h.2.2⟩
theorem Ap.of {b b' : Nat} {r : Option Nat} {w : World} (hb : b ≤ b') (hr : ∀ k, r = some k → k < b') (e : TypeId) (size : Nat) (v : Value) (n : Nat) (xs : List Value) (h : Ow b' w e size v n xs) : Ap b r w e size v n xs :=
  ⟨own_less h.1 hb, fun k hk e => by have := (own_blk h.1 k hk).1; have := hr k e; omega, h.2⟩
theorem Ap.on {b : Nat} {r : Option Nat} {w w' : World} (hb : Below w.heap.size w w') (e : TypeId) (size : Nat) (v : Value) (n : Nat) (xs : List Value) (h : Ap b r w e size v n xs) : Ap b r w' e size v n xs :=
  ⟨own_kept h.1 fun k _ hk => hb.block k hk, h.2⟩
/-- Behind an append onto the row in block r, which now lies in block g. -/
theorem Ap.grown {b g : Nat} {r : Option Nat} {w w' : World} (hg : w.grownBy w' r) (hn : r = some g ∨ w.heap.size ≤ g) (e : TypeId) (size : Nat) (v : Value) (n : Nat) (xs : List Value) (h : Ap b r w e size v n xs) : Ap b (some g) w' e size v n xs := by
  refine ⟨own_kept h.1 fun k hk hlt => hg.block k hlt fun e => h.2.1 k hk e.symm, fun k hk e => ?_, h.2.2⟩
  obtain rfl := Option.some.inj e
  rcases hn with hn | hn
  · exact h.2.1 g hk hn
  · have := (own_blk h.1 g hk).2
    omega
/-- Behind a store into a box that is no row of these. -/
theorem Ap.box {b g : Nat} {r : Option Nat} {w w' : World} (hg : w.grownBy w' (some g)) (hgb : g < b) (e : TypeId) (size : Nat) (v : Value) (n : Nat) (xs : List Value) (h : Ap b r w e size v n xs) : Ap b r w' e size v n xs :=
  ⟨own_kept h.1 fun k hk hlt => hg.block k hlt fun e => by have := (own_blk h.1 k hk).1; injection e with e; omega, h.2⟩
end Go.Proofs.YtipaangiehdgkaaGreatDoor.T9
/-
  The document's own copies of messages, slots and values: Own, Slot, Each.
-/
namespace Go.Proofs.YtipaangiehdgkaaGreatDoor.T9
set_option maxRecDepth 100000

open Go.RowKit

/-! ### A list of one's own that grows -/
abbrev EC (α : Type) := RP → α → List Value → Prop
def Mono {α : Type} (C : EC α) : Prop := ∀ {R R' : RP}, (∀ e size v n xs, R e size v n xs → R' e size v n xs) → ∀ a cs, C R a cs → C R' a cs
theorem mono_m (d : Nat) : Mono fun R => MAt R d := fun h a cs => MAt.imp h d a cs
theorem mono_v (d : Nat) : Mono fun R => VAt R d := fun h a cs => vAt.imp h (fun m cs => MAt.imp h d m cs) a cs
theorem mono_s (d : Nat) : Mono fun R => SAt' R d := fun h a cs => sAt.imp h (fun m cs => MAt.imp h d m cs) a cs
/-- The slice v is a row of one's own, of the list l, and no row below it is this one. -/
structure Grow {α : Type} (C : EC α) (e : TypeId) (size b : Nat) (w : World) (v : Value) (l : List α) (xs : List Value) : Prop where
  own : w.ownsRow b e size v l.length xs
  rows : Rows (C (Ap b v.ownBlock w)) l xs
section

variable {α : Type} {C : EC α} {e : TypeId} {size b : Nat} {w w' : World} {v : Value} {l : List α} {xs : List Value}

theorem Grow.nil (C : EC α) (e : TypeId) (size b : Nat) (w : World) : Grow C e size b w (.slice none 0 0) [] [] := ⟨World.ownsRow_nil _ _ _ _, rfl⟩
theorem Grow.on (hC : Mono C) (h : Grow C e size b w v l xs) (hb : Below w.heap.size w w') : Grow C e size b w' v l xs :=
  ⟨own_hi h.own (hi_below b hb), h.rows.imp (hC (Ap.on hb))⟩
theorem Grow.box (hC : Mono C) (h : Grow C e size b w v l xs) {g : Nat} (hg : w.grownBy w' (some g)) (hgb : g < b) : Grow C e size b w' v l xs :=
  ⟨own_hi h.own (hi_grown hg hgb), h.rows.imp (hC (Ap.box hg hgb))⟩
theorem Grow.less (hC : Mono C) (h : Grow C e size b w v l xs) {b' : Nat} (hb : b' ≤ b) : Grow C e size b' w v l xs :=
  ⟨own_less h.own hb, h.rows.imp (hC fun e size v n xs h => ⟨own_less h.1 hb, h.2⟩)⟩
theorem Grow.lt (h : Grow C e size b w v l xs) (k : Nat) (hk : v.ownBlock = some k) : k < w.heap.size := (own_blk h.own k hk).2
theorem Grow.ge (h : Grow C e size b w v l xs) (k : Nat) (hk : v.ownBlock = some k) : b ≤ k := (own_blk h.own k hk).1
/-- Behind an append of an element whose own rows are newer than all. -/
theorem Grow.app (hC : Mono C) (h : Grow C e size b w v l xs) {a : α} {cs : List Value} {b' : Nat} (hbb : b ≤ b') (hv : ∀ k, v.ownBlock = some k → k < b') (ha : C (Ow b' w) a cs) {g cap : Nat}
    (hrow : w'.ownsRow b e size (.slice (some ⟨g, 0, none⟩) (l.length + 1) cap) (l.length + 1) (xs ++ cs)) (hg : w.grownBy w' v.ownBlock) (hat : v.ownBlock = some g ∨ w.heap.size ≤ g) : Grow C e size b w' (.slice (some ⟨g, 0, none⟩) (l.length + 1) cap) (l ++ [a]) (xs ++ cs) :=
  ⟨by rw [List.length_append]; exact hrow, (h.rows.imp (hC (Ap.grown hg hat))).append (Rows.single (hC (Ap.grown hg hat) _ _ (hC (Ap.of hbb hv) _ _ ha)))⟩
theorem Grow.ow (hC : Mono C) (h : Grow C e size b w v l xs) (hl : l.length ≤ 10000000000000) : LsAt (Ow b w) e size (C (Ow b w)) l v := ⟨xs, ⟨h.own, hl⟩, h.rows.imp (hC Ap.ow)⟩
end

theorem sAt.oneA {b : Nat} {r : Option Nat} {w : World} {G : Mg → List Value → Prop} (v : So) (cs : List Value) (h : sAt (Ow b w) G v cs) : ∀ u ∈ cs, u.oneCell' = true := sAt.oneO v cs h
theorem one_msg_ow {b : Nat} {w : World} {d : Nat} {m : Mg} {x : Value} (h : MAt (Ow b w) d m [x]) : ∀ u ∈ [x], u.oneCell' = true := MAt.oneO m [x] h

theorem cell3 {w : World} {g : Nat} {a b c : Value} {t : TypeId} (h : w.heap[g]? = some (.cells #[a, b, c] t (0, 0))) (x : Value) :
    (w.setCell ⟨g, 2, none⟩ x).heap[g]? = some (.cells #[a, b, x] t (0, 0)) ∧ w.grownBy (w.setCell ⟨g, 2, none⟩ x) (some g) :=
  ⟨heap_setCell_same w g 2 #[a, b, c] t x h, rfl, rfl, rfl, by simp, fun k _ hk => heap_setCell_other _ ⟨g, 2, none⟩ k _ (fun e => hk (by simp [e]))⟩
theorem box_far {w w' : World} {g : Nat} {t : TypeId} {cs : Array Value} {fr : Nat × Nat} {v : Value} {b e size n : Nat} {xs : List Value} (X : w.heap[g]? = some (.cells cs t fr)) (hg : w.grownBy w' v.ownBlock) (hown : w.ownsRow b e size v n xs) (hlt : g < b) : w'.heap[g]? = some (.cells cs t fr) :=
  (hg.block g (box_lt X) fun e => by have := (own_blk hown g e.symm).1; omega).trans X
theorem below_row {w w' : World} {v : Value} {b e size n B : Nat} {xs : List Value} (hg : w.grownBy w' v.ownBlock) (hown : w.ownsRow b e size v n xs) (hB : B ≤ b) (hs : B ≤ w.heap.size) : Below B w w' :=
  ⟨hg.os, hg.tape, hg.output, hg.size, fun k hk => hg.block k (by omega) fun e => by have := (own_blk hown k e.symm).1; omega⟩
theorem take_snoc {α : Type} {l : List α} {k : Nat} {a : α} (h : l[k]? = some a) : l.take k ++ [a] = l.take (k + 1) := by rw [List.take_add_one, h]; rfl
theorem rslot_end {w wl : World} {d b : Nat} {s : So} {q1 q2 : Value} {t : TypeId} {u0 u1 u2 : Value} (hb : b ≤ w.heap.size) (X : wl.heap[w.heap.size + 1]? = some (.cells #[u0, u1, u2] t (0, 0)))
    (hk : LsAt (Ow (w.heap.size + 2) wl) 51 3 (VAt (Ow (w.heap.size + 2) wl) d) s.K q1) (hv : LsAt (Ow (w.heap.size + 2) wl) 51 3 (VAt (Ow (w.heap.size + 2) wl) d) s.V q2) (hB : Below w.heap.size w wl) :
    ∃ w4, (((wl.setCell ⟨w.heap.size + 1, 0, none⟩ (.int .i64 s.no)).setCell ⟨w.heap.size + 1, 1, none⟩ q1).setCell ⟨w.heap.size + 1, 2, none⟩ q2) = w4 ∧ w4.heap[w.heap.size + 1]? = some (.cells #[.int .i64 s.no, q1, q2] t (0, 0)) ∧
      SAt' (Ow b w4) d s [.int .i64 s.no, q1, q2] ∧ Below w.heap.size w w4 := ownSlot_end hb X hk hv hB
theorem cell1 {w : World} {g : Nat} {a : Value} {t : TypeId} (h : w.heap[g]? = some (.cells #[a] t (0, 0))) (x : Value) :
    (w.setCell ⟨g, 0, none⟩ x).heap[g]? = some (.cells #[x] t (0, 0)) ∧ w.grownBy (w.setCell ⟨g, 0, none⟩ x) (some g) :=
  ⟨heap_setCell_same w g 0 #[a] t x h, rfl, rfl, rfl, by simp, fun k _ hk => heap_setCell_other _ ⟨g, 0, none⟩ k _ (fun e => hk (by simp [e]))⟩
end Go.Proofs.YtipaangiehdgkaaGreatDoor.T9
/-
  What texts are made of: blanks, tokens, and all tokens of a text, by plain functions on lists of bytes; and what is plain of them.
-/
namespace Go.Proofs.YtipaangiehdgkaaGreatDoor
set_option maxRecDepth 100000

def isBlank (c : UInt8) : Bool := c == 32 || c == 9 || c == 10 || c == 13
def isDigit (c : UInt8) : Bool := decide (48 ≤ c.toNat) && decide (c.toNat ≤ 57)
def isFirst (c : UInt8) : Bool := decide (97 ≤ c.toNat) && decide (c.toNat ≤ 122) || decide (65 ≤ c.toNat) && decide (c.toNat ≤ 90) || c == 95
def isNext (c : UInt8) : Bool := isFirst c || isDigit c
def isSign (c : UInt8) : Bool := [123, 125, 40, 41, 91, 93, 60, 62, 61, 59, 44, 46].contains c
def isPlain (c : UInt8) : Bool := decide (32 ≤ c.toNat) && decide (c.toNat ≤ 126)

/-- How many first bytes are of a set. -/
def span (f : UInt8 → Bool) : List UInt8 → Nat
  | [] => 0
  | c :: r => if f c then span f r + 1 else 0

/-- How many first bytes are blanks (true: within a comment). -/
def ws : Bool → List UInt8 → Nat
  | _, [] => 0
  | true, c :: r => 1 + ws (c != 10) r
  | false, c :: r => if isBlank c then 1 + ws false r else if c == 47 && r.head? == some 47 then 1 + ws true r else 0

def hexv (c : UInt8) : Option Nat :=
  if isDigit c then some (c.toNat - 48) else if decide (97 ≤ c.toNat) && decide (c.toNat ≤ 102) then some (c.toNat - 87) else none

/-- The byte that is meant, within a string, and how many bytes more mean it. -/
def meant : List UInt8 → Option (UInt8 × Nat)
  | [] => none
  | c :: r =>
    if c == 92 then
      match r with
      | [] => none
      | d :: r2 =>
        if d == 34 || d == 92 then some (d, 1)
        else if d == 110 then some (10, 1)
        else if d == 120 then
          match r2 with
          | h :: k :: _ => match hexv h, hexv k with
            | some a, some b => some (UInt8.ofNat (16 * a + b), 3)
            | _, _ => none
          | _ => none
        else none
    else if isPlain c || decide (128 ≤ c.toNat) then some (c, 0) else none

/-- What a string means, behind so many bytes of a mark, and how many bytes it has, with the sign that ends it. -/
def strB : Nat → List UInt8 → Option (List UInt8 × Nat)
  | _, [] => none
  | k + 1, _ :: r => (strB k r).map fun x => (x.1, x.2 + 1)
  | 0, c :: r =>
    if c == 34 then some ([], 1)
    else match meant (c :: r) with
      | none => none
      | some (b, k) => (strB k r).map fun x => (b :: x.1, x.2 + 1)

/-- What digits spell. -/
def dval (a : Nat) (l : List UInt8) : Nat := l.foldl (fun a c => 10 * a + (c.toNat - 48)) a

/-- The number of digits, with a sign or not. -/
def numOf (itoa : Int → List UInt8) (t : List UInt8) : Option Int :=
  match t with
  | [] => none
  | c :: r =>
    let v : Int := if c = 45 then -(dval 0 r : Int) else (dval 0 (c :: r) : Int)
    if -9223372036854775808 ≤ v ∧ v ≤ 9223372036854775807 ∧ itoa v = t then some v else none

/-- A token: its kind, text, number, and how many bytes it has, but one. -/
structure Tk where
  kind : Nat
  text : List UInt8
  num : Int
  more : Nat

structure T where
  kind : Nat
  text : List UInt8
  num : Int
  at_ : Nat
  deriving Inhabited

def tk (itoa : Int → List UInt8) : List UInt8 → Option Tk
  | [] => none
  | c :: r =>
    if isFirst c then some ⟨0, c :: r.take (span isNext r), 0, span isNext r⟩
    else if isDigit c || c == 45 then (numOf itoa (c :: r.take (span isDigit r))).map fun n => ⟨1, c :: r.take (span isDigit r), n, span isDigit r⟩
    else if c == 34 then (strB 0 r).map fun x => ⟨2, x.1, 0, x.2⟩
    else if isSign c then some ⟨3, [c], 0, 0⟩
    else none

/-- All tokens of what follows, behind so many bytes; and where none begins. -/
def lex (itoa : Int → List UInt8) : Nat → Nat → List UInt8 → List T × Option Nat
  | _, _, [] => ([], none)
  | k + 1, p, _ :: r => lex itoa k (p + 1) r
  | 0, p, c :: r =>
    match ws false (c :: r) with
    | w + 1 => lex itoa w (p + 1) r
    | 0 => match tk itoa (c :: r) with
      | none => ([], some p)
      | some t => (⟨t.kind, t.text, t.num, p⟩ :: (lex itoa t.more (p + 1) r).1, (lex itoa t.more (p + 1) r).2)

/-- What is told of a text. -/
def ansT (x : List T × Option Nat) : List T := if 1000 < x.1.length then [] else if x.2.isSome then [] else x.1
def ansAt (n : Nat) (x : List T × Option Nat) : Nat := if 1000 < x.1.length then (x.1.getD 1000 default).at_ else x.2.getD n
def ansE (x : List T × Option Nat) : Nat := if 1000 < x.1.length then 2 else if x.2.isSome then 4 else 0
def allT (itoa : Int → List UInt8) (l : List UInt8) : List T := if 5000 < l.length then [] else ansT (lex itoa 0 0 l)
def allAt (itoa : Int → List UInt8) (l : List UInt8) : Nat := if 5000 < l.length then 0 else ansAt l.length (lex itoa 0 0 l)
def allE (itoa : Int → List UInt8) (l : List UInt8) : Nat := if 5000 < l.length then 2 else ansE (lex itoa 0 0 l)

def hexd (n : Nat) : UInt8 := [48, 49, 50, 51, 52, 53, 54, 55, 56, 57, 97, 98, 99, 100, 101, 102].getD n 0
/-- What means a byte. -/
def q1 (c : UInt8) : List UInt8 :=
  if c == 34 || c == 92 then [92, c] else if c == 10 then [92, 110] else if isPlain c then [c] else [92, 120, hexd (c.toNat / 16), hexd (c.toNat % 16)]
def quote (s : List UInt8) : List UInt8 := 34 :: (s.flatMap q1 ++ [34])

/-! ### Spans -/

theorem span_le (f : UInt8 → Bool) : ∀ l : List UInt8, span f l ≤ l.length
  | [] => Nat.le_refl _
  | c :: r => by
    have := span_le f r
    unfold span
    split
    · simp; omega
    · simp
theorem span_drop (f : UInt8 → Bool) : ∀ l : List UInt8, span f (l.drop (span f l)) = 0
  | [] => rfl
  | c :: r => by
    by_cases h : f c
    · simp only [span, h, if_true, List.drop_succ_cons]
      exact span_drop f r
    · simp [span, h]
theorem span_all (f : UInt8 → Bool) : ∀ l : List UInt8, ∀ c ∈ l.take (span f l), f c = true
  | [], c, h => by simp at h
  | b :: r, c, h => by
    by_cases hb : f b
    · simp only [span, hb, if_true, List.take_succ_cons, List.mem_cons] at h
      rcases h with rfl | h
      · exact hb
      · exact span_all f r c h
    · simp [span, hb] at h
theorem span_whole (f : UInt8 → Bool) : ∀ l : List UInt8, (∀ c ∈ l, f c = true) → span f l = l.length
  | [], _ => rfl
  | c :: r, h => by
    have h1 := h c (by simp)
    have h2 := span_whole f r (fun d hd => h d (by simp [hd]))
    simp [span, h1, h2]
theorem span_app (f : UInt8 → Bool) (x : UInt8) (hx : f x = false) (t : List UInt8) : ∀ l, span f (l ++ x :: t) = span f l
  | [] => by simp [span, hx]
  | c :: r => by
    have := span_app f x hx t r
    simp only [List.cons_append, span, this]
theorem span_succ {f : UInt8 → Bool} {l : List UInt8} {k : Nat} (hk : k ≤ span f l) {c : UInt8} (hc : l[k]? = some c) : f c = true ↔ k + 1 ≤ span f l := by
  induction l generalizing k with
  | nil => simp at hc
  | cons b r ih =>
    unfold span at hk ⊢
    by_cases hb : f b
    · simp only [hb, if_true] at hk ⊢
      cases k with
      | zero => simp at hc; subst hc; simp [hb]
      | succ k =>
        have := ih (k := k) (by omega) (by simpa using hc)
        rw [this]; omega
    · simp only [hb] at hk ⊢
      obtain rfl : k = 0 := by simpa using hk
      simp at hc
      subst hc
      simp [hb]

/-! ### Blanks -/

theorem ws_le : ∀ (b : Bool) (l : List UInt8), ws b l ≤ l.length
  | _, [] => by simp [ws]
  | true, c :: r => by
    have := ws_le (c != 10) r
    simp only [ws, List.length_cons]; omega
  | false, c :: r => by
    have h1 := ws_le false r
    have h2 := ws_le true r
    simp only [ws, List.length_cons]
    split
    · omega
    · split <;> omega
theorem ws_step (l : List UInt8) : ws false l = span isBlank l + ws false (l.drop (span isBlank l)) := by
  induction l with
  | nil => simp [ws, span]
  | cons c r ih =>
    by_cases h : isBlank c
    · simp only [ws, span, h, if_true, List.drop_succ_cons]; omega
    · simp [span, h]
theorem ws_none {l : List UInt8} (h : span isBlank l = 0) (h2 : l.take 2 ≠ [47, 47]) : ws false l = 0 := by
  cases l with
  | nil => simp [ws]
  | cons c r =>
    have hb : isBlank c = false := by
      by_cases hb : isBlank c
      · simp [span, hb] at h
      · simpa using hb
    simp only [ws, hb]
    cases r with
    | nil => simp
    | cons d r =>
      simp at h2
      simp
      exact h2
theorem ws_true (l : List UInt8) : ws true l = if 10 ∈ l then span (fun c => c != 10) l + ws false (l.drop (span (fun c => c != 10) l)) else l.length := by
  induction l with
  | nil => simp [ws]
  | cons c r ih =>
    by_cases h : c = 10
    · subst h
      simp [ws, span, isBlank]
    · have h1 : (c != 10) = true := by simpa using h
      have h2 : (10 : UInt8) ≠ c := fun e => h e.symm
      simp only [ws, h1, span, if_true, List.mem_cons, h2, false_or, List.drop_succ_cons, List.length_cons]
      rw [ih]
      split <;> omega
theorem ws_comment {l : List UInt8} (h2 : l.take 2 = [47, 47]) : ws false l = ws true l := by
  obtain ⟨r, rfl⟩ : ∃ r, l = 47 :: 47 :: r := by
    match l with
    | [] => simp at h2
    | [a] => simp at h2
    | a :: b :: r => simp at h2; obtain ⟨rfl, rfl⟩ := h2; exact ⟨r, rfl⟩
  simp [ws, isBlank]
theorem ws_drop : ∀ (b : Bool) (l : List UInt8), ws false (l.drop (ws b l)) = 0
  | _, [] => by simp [ws]
  | true, c :: r => by
    simp only [ws, Nat.add_comm 1, List.drop_succ_cons]
    exact ws_drop _ r
  | false, c :: r => by
    by_cases h : isBlank c
    · simp only [ws, h, if_true, Nat.add_comm 1, List.drop_succ_cons]
      exact ws_drop _ r
    · by_cases h2 : (c == 47 && r.head? == some 47) = true
      · simp only [ws, h, h2, if_true, Nat.add_comm 1, List.drop_succ_cons, Bool.false_eq_true, if_false]
        exact ws_drop _ r
      · simp [ws, h, h2]
/-- Blanks ahead of a line feed. -/
theorem ws_app (t : List UInt8) : ∀ (b : Bool) (l : List UInt8), (ws b l = l.length → ws b (l ++ 10 :: t) = l.length + 1 + ws false t) ∧ (ws b l ≠ l.length → ws b (l ++ 10 :: t) = ws b l)
  | b, [] => by cases b <;> simp [ws, isBlank]
  | true, c :: r => by
    obtain ⟨h2, h3⟩ := ws_app t (c != 10) r
    have h1 := ws_le (c != 10) r
    have e1 : ws true (c :: r) = 1 + ws (c != 10) r := rfl
    have e2 : ws true (c :: r ++ 10 :: t) = 1 + ws (c != 10) (r ++ 10 :: t) := rfl
    rw [e1, e2, List.length_cons]
    exact ⟨fun h => by rw [h2 (by omega)]; omega, fun h => by rw [h3 (by omega)]⟩
  | false, c :: r => by
    obtain ⟨h2, h3⟩ := ws_app t false r
    obtain ⟨h4, h5⟩ := ws_app t true r
    have l1 := ws_le false r
    have l2 := ws_le true r
    have hh : ((r ++ 10 :: t).head? == some 47) = (r.head? == some 47) := by cases r <;> simp
    have e1 : ws false (c :: r) = if isBlank c then 1 + ws false r else if c == 47 && r.head? == some 47 then 1 + ws true r else 0 := rfl
    have e2 : ws false (c :: r ++ 10 :: t) = if isBlank c then 1 + ws false (r ++ 10 :: t) else if c == 47 && (r ++ 10 :: t).head? == some 47 then 1 + ws true (r ++ 10 :: t) else 0 := rfl
    rw [hh] at e2
    rw [e1, e2, List.length_cons]
    by_cases hb : isBlank c = true
    · rw [if_pos hb, if_pos hb]
      exact ⟨fun h => by rw [h2 (by omega)]; omega, fun h => by rw [h3 (by omega)]⟩
    · rw [if_neg hb, if_neg hb]
      by_cases hc : (c == 47 && r.head? == some 47) = true
      · rw [if_pos hc, if_pos hc]
        exact ⟨fun h => by rw [h4 (by omega)]; omega, fun h => by rw [h5 (by omega)]⟩
      · rw [if_neg hc, if_neg hc]
        exact ⟨fun h => by omega, fun _ => rfl⟩
theorem ws_blanks : ∀ (b : List UInt8), (∀ c ∈ b, isBlank c = true) → ∀ s, ws false (b ++ s) = b.length + ws false s
  | [], _, s => by simp
  | c :: b, h, s => by
    have h1 := h c (by simp)
    have h2 := ws_blanks b (fun d hd => h d (by simp [hd])) s
    simp only [List.cons_append, ws, h1, if_true, h2, List.length_cons]
    omega

/-! ### Strings -/

theorem meant_more {l : List UInt8} {b : UInt8} {k : Nat} (h : meant l = some (b, k)) : k + 1 ≤ l.length := by
  unfold meant at h
  split at h
  · simp at h
  · split at h
    · split at h
      · simp at h
      · split at h
        · simp at h; simp; omega
        · split at h
          · simp at h; simp; omega
          · split at h
            · split at h
              · split at h
                · simp at h; simp; omega
                · simp at h
              · simp at h
            · simp at h
    · split at h
      · simp at h; simp; omega
      · simp at h
theorem meant_app {l : List UInt8} {x : UInt8 × Nat} (h : meant l = some x) (t : List UInt8) : meant (l ++ t) = some x := by
  cases l with
  | nil => simp [meant] at h
  | cons c r =>
    cases r with
    | nil =>
      simp only [meant, List.cons_append, List.nil_append] at h ⊢
      by_cases hc : c == 92
      · simp [hc] at h
      · simpa [hc] using h
    | cons d r =>
      simp only [meant, List.cons_append] at h ⊢
      match r with
      | [] =>
        by_cases hc : c == 92
        · by_cases h1 : d == 34 || d == 92
          · simp only [hc, h1, if_true] at h ⊢; exact h
          · by_cases h2 : d == 110
            · simp only [hc, h1, h2, if_true] at h ⊢; exact h
            · by_cases h3 : d == 120 <;> simp [hc, h1, h2, h3] at h
        · simp only [hc, Bool.false_eq_true, if_false] at h ⊢; exact h
      | [a] =>
        by_cases hc : c == 92
        · by_cases h1 : d == 34 || d == 92
          · simp only [hc, h1, if_true] at h ⊢; exact h
          · by_cases h2 : d == 110
            · simp only [hc, h1, h2, if_true] at h ⊢; exact h
            · by_cases h3 : d == 120 <;> simp [hc, h1, h2, h3] at h
        · simp only [hc, Bool.false_eq_true, if_false] at h ⊢; exact h
      | a :: b :: r => simpa only [List.cons_append] using h
theorem strB_skip : ∀ (k : Nat) (l : List UInt8), strB k l = (strB 0 (l.drop k)).map fun x => (x.1, x.2 + k)
  | k, [] => by cases k <;> simp [strB]
  | 0, c :: r => by
    simp only [List.drop_zero, Nat.add_zero]
    cases strB 0 (c :: r) <;> rfl
  | k + 1, c :: r => by
    simp only [strB, List.drop_succ_cons]
    rw [strB_skip k r]
    cases strB 0 (r.drop k) <;> simp; try omega
theorem strB_app (t : List UInt8) : ∀ (l : List UInt8) (k : Nat) {x : List UInt8 × Nat}, strB k l = some x → strB k (l ++ t) = some x
  | [], k, x, h => by cases k <;> simp [strB] at h
  | c :: r, k + 1, x, h => by
    simp only [strB, List.cons_append, Option.map_eq_some_iff] at h ⊢
    obtain ⟨y, hy, rfl⟩ := h
    exact ⟨y, strB_app t r k hy, rfl⟩
  | c :: r, 0, x, h => by
    simp only [strB, List.cons_append] at h ⊢
    by_cases hc : c == 34
    · simpa [hc] using h
    · simp only [hc] at h ⊢
      cases hm : meant (c :: r) with
      | none => simp [hm] at h
      | some y =>
        have := meant_app hm t
        rw [List.cons_append] at this
        simp only [hm, this, Bool.false_eq_true, if_false, Option.map_eq_some_iff] at h ⊢
        obtain ⟨z, hz, rfl⟩ := h
        exact ⟨z, strB_app t r y.2 hz, rfl⟩
theorem strB_le : ∀ (l : List UInt8) (k : Nat) {x : List UInt8 × Nat}, strB k l = some x → x.2 ≤ l.length
  | [], k, x, h => by cases k <;> simp [strB] at h
  | c :: r, k + 1, x, h => by
    simp only [strB, Option.map_eq_some_iff] at h
    obtain ⟨y, hy, rfl⟩ := h
    have := strB_le r k hy
    simp; omega
  | c :: r, 0, x, h => by
    simp only [strB] at h
    by_cases hc : c == 34
    · simp [hc] at h; subst h; simp
    · simp only [hc] at h
      cases hm : meant (c :: r) with
      | none => simp [hm] at h
      | some y =>
        simp only [hm, Bool.false_eq_true, if_false, Option.map_eq_some_iff] at h
        obtain ⟨z, hz, rfl⟩ := h
        have := strB_le r y.2 hz
        simp; omega
theorem strB_text : ∀ (l : List UInt8) (k : Nat) {x : List UInt8 × Nat}, strB k l = some x → x.1.length ≤ l.length
  | [], k, x, h => by cases k <;> simp [strB] at h
  | c :: r, k + 1, x, h => by
    simp only [strB, Option.map_eq_some_iff] at h
    obtain ⟨y, hy, rfl⟩ := h
    have := strB_text r k hy
    simp; omega
  | c :: r, 0, x, h => by
    simp only [strB] at h
    by_cases hc : c == 34
    · simp [hc] at h; subst h; simp
    · simp only [hc] at h
      cases hm : meant (c :: r) with
      | none => simp [hm] at h
      | some y =>
        simp only [hm, Bool.false_eq_true, if_false, Option.map_eq_some_iff] at h
        obtain ⟨z, hz, rfl⟩ := h
        have := strB_text r y.2 hz
        simp; omega

/-! ### Tokens -/

theorem tk_more {it : Int → List UInt8} {l : List UInt8} {t : Tk} (h : tk it l = some t) : t.more + 1 ≤ l.length := by
  cases l with
  | nil => simp [tk] at h
  | cons c r =>
    have s1 := span_le isNext r
    have s2 := span_le isDigit r
    simp only [tk] at h
    split at h
    · simp at h; subst h; simp; omega
    · split at h
      · simp only [Option.map_eq_some_iff] at h
        obtain ⟨n, _, rfl⟩ := h
        simp; omega
      · split at h
        · simp only [Option.map_eq_some_iff] at h
          obtain ⟨x, hx, rfl⟩ := h
          have := strB_le r 0 hx
          simp; omega
        · split at h
          · simp at h; subst h; simp
          · simp at h
theorem tk_app {it : Int → List UInt8} {l : List UInt8} {t : Tk} (h : tk it l = some t) (s : List UInt8) : tk it (l ++ 10 :: s) = some t := by
  cases l with
  | nil => simp [tk] at h
  | cons c r =>
    have e1 := span_app isNext 10 (by decide) s r
    have e2 := span_app isDigit 10 (by decide) s r
    have t1 : (r ++ 10 :: s).take (span isNext r) = r.take (span isNext r) := by rw [List.take_append_of_le_length (span_le _ _)]
    have t2 : (r ++ 10 :: s).take (span isDigit r) = r.take (span isDigit r) := by rw [List.take_append_of_le_length (span_le _ _)]
    simp only [tk, List.cons_append, e1, e2, t1, t2] at h ⊢
    split at h
    · rename_i h1; rw [if_pos h1]; exact h
    · rename_i h1; rw [if_neg h1]
      split at h
      · rename_i h2; rw [if_pos h2]; exact h
      · rename_i h2; rw [if_neg h2]
        split at h
        · rename_i h3; rw [if_pos h3]
          simp only [Option.map_eq_some_iff] at h ⊢
          obtain ⟨x, hx, rfl⟩ := h
          exact ⟨x, strB_app _ _ _ hx, rfl⟩
        · rename_i h3; rw [if_neg h3]; exact h

/-! ### All tokens -/

section

variable {it : Int → List UInt8}

theorem lex_skip : ∀ (k p : Nat) (l : List UInt8), lex it k p l = lex it 0 (p + k) (l.drop k)
  | k, p, [] => by cases k <;> simp [lex]
  | 0, p, c :: r => by simp
  | k + 1, p, c :: r => by
    rw [show lex it (k + 1) p (c :: r) = lex it k (p + 1) r by simp [lex], lex_skip k (p + 1) r, List.drop_succ_cons]
    congr 1
    omega
theorem lex_ws (p : Nat) (l : List UInt8) : lex it 0 p l = lex it 0 (p + ws false l) (l.drop (ws false l)) := by
  cases l with
  | nil => simp [lex]
  | cons c r =>
    cases h : ws false (c :: r) with
    | zero => simp
    | succ w =>
      rw [show lex it 0 p (c :: r) = lex it w (p + 1) r by simp [lex, h], lex_skip, List.drop_succ_cons]
      congr 1
      omega
theorem lex_none {l : List UInt8} (h : ws false l = 0) (hn : tk it l = none) (hl : l ≠ []) (p : Nat) : lex it 0 p l = ([], some p) := by
  cases l with
  | nil => exact absurd rfl hl
  | cons c r => simp [lex, h, hn]
theorem lex_some {l : List UInt8} (h : ws false l = 0) {t : Tk} (hn : tk it l = some t) (p : Nat) :
    lex it 0 p l = (⟨t.kind, t.text, t.num, p⟩ :: (lex it 0 (p + t.more + 1) (l.drop (t.more + 1))).1, (lex it 0 (p + t.more + 1) (l.drop (t.more + 1))).2) := by
  cases l with
  | nil => simp [tk] at hn
  | cons c r =>
    have e : lex it t.more (p + 1) r = lex it 0 (p + t.more + 1) ((c :: r).drop (t.more + 1)) := by
      rw [lex_skip, List.drop_succ_cons]
      congr 1
      omega
    simp [lex, h, hn, e]
theorem lex_shift (d : Nat) : ∀ (l : List UInt8) (k p : Nat), lex it k (p + d) l = ((lex it k p l).1.map (fun t => { t with at_ := t.at_ + d }), (lex it k p l).2.map (· + d))
  | [], k, p => by cases k <;> simp [lex]
  | c :: r, k + 1, p => by
    simp only [lex]
    rw [show p + d + 1 = p + 1 + d by omega, lex_shift d r]
  | c :: r, 0, p => by
    simp only [lex]
    rw [show p + d + 1 = p + 1 + d by omega]
    split
    · rw [lex_shift d r]
    · split
      · simp
      · rw [lex_shift d r]; simp
theorem lex_join (t : List UInt8) : ∀ (l : List UInt8) (k p : Nat), k ≤ l.length → (lex it k p l).2 = none →
    lex it k p (l ++ 10 :: t) = ((lex it k p l).1 ++ (lex it 0 (p + l.length + 1) t).1, (lex it 0 (p + l.length + 1) t).2)
  | [], k, p, hk, _ => by
    obtain rfl : k = 0 := by simpa using hk
    have e : ws false (10 :: t) = ws false t + 1 := by simp [ws, isBlank]; omega
    have e2 : lex it 0 p (10 :: t) = lex it 0 (p + 1) t := by
      rw [lex_ws p (10 :: t), e, List.drop_succ_cons, lex_ws (p + 1) t]
      congr 1
      omega
    simp [lex, e2]
  | c :: r, k + 1, p, hk, h => by
    simp only [lex, List.cons_append] at h ⊢
    rw [lex_join t r k (p + 1) (by simpa using hk) h]
    simp only [List.length_cons, show p + 1 + r.length + 1 = p + (r.length + 1) + 1 by omega]
  | c :: r, 0, p, hk, h => by
    obtain ⟨hw1, hw2⟩ := ws_app t false (c :: r)
    have hle := ws_le false (c :: r)
    simp only [List.cons_append, List.length_cons] at hw1 hw2 hle
    cases h0 : ws false (c :: r) with
    | succ w =>
      have e1 : lex it 0 p (c :: r) = lex it w (p + 1) r := by simp [lex, h0]
      rw [e1] at h ⊢
      rw [h0] at hw1 hw2 hle
      have ih := lex_join t r w (p + 1) (by omega) h
      by_cases hl : w + 1 = r.length + 1
      · have hw := hw1 hl
        have e2 : lex it 0 p (c :: r ++ 10 :: t) = lex it (r.length + 1 + ws false t) (p + 1) (r ++ 10 :: t) := by
          simp only [List.cons_append, lex]
          rw [show ws false (c :: (r ++ 10 :: t)) = r.length + 1 + ws false t + 1 by omega]
        have e3 : lex it w (p + 1) r = ([], none) := by
          rw [lex_skip, List.drop_of_length_le (by omega)]
          simp [lex]
        have e4 : (r ++ 10 :: t).drop (r.length + 1 + ws false t) = t.drop (ws false t) := by
          rw [List.drop_append]
          rw [List.drop_of_length_le (by omega), show r.length + 1 + ws false t - r.length = ws false t + 1 by omega]
          simp
        rw [e2, e3, lex_skip, e4, List.length_cons, List.nil_append, lex_ws (p + (r.length + 1) + 1) t]
        rw [show p + 1 + (r.length + 1 + ws false t) = p + (r.length + 1) + 1 + ws false t by omega]
      · have hw := hw2 hl
        have e2 : lex it 0 p (c :: r ++ 10 :: t) = lex it w (p + 1) (r ++ 10 :: t) := by
          simp only [List.cons_append, lex]
          rw [hw]
        rw [e2, ih]
        simp only [List.length_cons, show p + 1 + r.length + 1 = p + (r.length + 1) + 1 by omega]
    | zero =>
      rw [h0] at hw2
      have hw := hw2 (by omega)
      cases ht : tk it (c :: r) with
      | none => simp [lex, h0, ht] at h
      | some x =>
        have hm := tk_more ht
        have ha := tk_app ht t
        simp only [List.cons_append] at ha
        have h2 : (lex it x.more (p + 1) r).2 = none := by simpa [lex, h0, ht] using h
        have ih := lex_join t r x.more (p + 1) (by simp at hm; omega) h2
        have e1 : lex it 0 p (c :: r ++ 10 :: t) = (⟨x.kind, x.text, x.num, p⟩ :: (lex it x.more (p + 1) (r ++ 10 :: t)).1, (lex it x.more (p + 1) (r ++ 10 :: t)).2) := by
          simp [lex, hw, ha]
        have e2 : lex it 0 p (c :: r) = (⟨x.kind, x.text, x.num, p⟩ :: (lex it x.more (p + 1) r).1, (lex it x.more (p + 1) r).2) := by
          simp [lex, h0, ht]
        rw [e1, e2, ih]
        simp only [List.length_cons, List.cons_append, show p + 1 + r.length + 1 = p + (r.length + 1) + 1 by omega]
theorem lex_count : ∀ (l : List UInt8) (k p : Nat), (lex it k p l).1.length ≤ l.length
  | [], k, p => by cases k <;> simp [lex]
  | c :: r, k + 1, p => by
    have := lex_count r k (p + 1)
    simp only [lex, List.length_cons]; omega
  | c :: r, 0, p => by
    simp only [lex, List.length_cons]
    split
    · rename_i w _
      have := lex_count r w (p + 1); omega
    · split
      · simp
      · rename_i t _
        have := lex_count r t.more (p + 1)
        simp; omega
theorem lex_place : ∀ (l : List UInt8) (k p q : Nat), (lex it k p l).2 = some q → p ≤ q ∧ q < p + l.length
  | [], k, p, q, h => by cases k <;> simp [lex] at h
  | c :: r, k + 1, p, q, h => by
    simp only [lex] at h
    have := lex_place r k (p + 1) q h
    simp only [List.length_cons]; omega
  | c :: r, 0, p, q, h => by
    simp only [lex] at h
    simp only [List.length_cons]
    split at h
    · have := lex_place r _ (p + 1) q h; omega
    · split at h
      · simp at h; omega
      · have := lex_place r _ (p + 1) q h; omega
end

end Go.Proofs.YtipaangiehdgkaaGreatDoor
/-
  A schema's text as a file: what the parser does, by plain functions on lists of tokens; and the same as steps of a machine that takes one token after the other.
-/
namespace Go.Proofs.YtipaangiehdgkaaGreatDoor
set_option maxRecDepth 100000

structure Fd where
  type : List UInt8
  key : List UInt8
  rep : Bool
  one : Int
  name : List UInt8
  no : Int
  at_ : Int
  deriving DecidableEq
structure Ms where
  name : List UInt8
  F : List Fd
  ones : List (List UInt8)
  res : List Int
  at_ : Int
structure Vl where
  name : List UInt8
  n : Int
  at_ : Int
  deriving DecidableEq
structure En where
  name : List UInt8
  V : List Vl
  at_ : Int
structure Fl where
  M : List Ms
  E : List En

def wMessage : List UInt8 := [109, 101, 115, 115, 97, 103, 101]
def wEnum : List UInt8 := [101, 110, 117, 109]
def wRepeated : List UInt8 := [114, 101, 112, 101, 97, 116, 101, 100]
def wMap : List UInt8 := [109, 97, 112]
def wOneof : List UInt8 := [111, 110, 101, 111, 102]
def wReserved : List UInt8 := [114, 101, 115, 101, 114, 118, 101, 100]

/-! ### The parser: the tokens that are left, and whether it is stuck -/

structure S where
  l : List T
  st : Bool
namespace S

def is (s : S) (k : Nat) : Bool := !s.st && (match s.l with | [] => false | t :: _ => t.kind == k)
def sees (s : S) (k : Nat) (x : List UInt8) : Bool := s.is k && ((s.l.headD default).text == x)
def eat (s : S) (b : Bool) : S := if b then ⟨s.l.tail, s.st⟩ else ⟨s.l, true⟩
/-- The token that is taken, or none. -/
def tok (s : S) (b : Bool) : T := if b then s.l.headD default else default
def nameT (s : S) : List UInt8 := if s.is 0 then (s.l.headD default).text else []
def numV (s : S) : Int := if s.is 1 then (s.l.headD default).num else 0
def name (s : S) : S := s.eat (s.is 0)
def num (s : S) : S := s.eat (s.is 1)
def word (s : S) (x : List UInt8) : S := s.eat (s.sees 0 x)
def sign (s : S) (x : List UInt8) : S := s.eat (s.sees 3 x)
def place (E : Nat) (s : S) : Nat := match s.l with | [] => E | t :: _ => t.at_
def inside (s : S) : Bool := !s.st && !(s.sees 3 [125])
def map2 (s : S) : Bool := s.sees 0 wMap && decide (1 < s.l.length) && ((s.l.tail.headD default).kind == 3) && ((s.l.tail.headD default).text == [60])
def nbd (s : S) : S := ((s.name.sign [61]).num).sign [59]
def nbdNo (s : S) : Int := (s.name.sign [61]).numV
def fld (E : Nat) (s : S) : Fd := ⟨s.nameT, [], false, 0, s.name.nameT, s.name.nbdNo, s.place E⟩
def fldS (s : S) : S := s.name.nbd
/-- How far it is to the end. -/
def mu (s : S) : Nat := s.l.length + (if s.st then 0 else 1)

theorem is_st {s : S} (h : s.st = true) (k : Nat) : s.is k = false := by simp [is, h]
theorem sees_st {s : S} (h : s.st = true) (k : Nat) (x : List UInt8) : s.sees k x = false := by simp [sees, is_st h]
theorem is_l {s : S} {k : Nat} (h : s.is k = true) : s.st = false ∧ ∃ t l, s.l = t :: l ∧ t.kind = k := by
  obtain ⟨l, st⟩ := s
  cases st <;> cases l <;> simp_all [is]
theorem sees_l {s : S} {k : Nat} {x : List UInt8} (h : s.sees k x = true) : s.st = false ∧ ∃ t l, s.l = t :: l ∧ t.kind = k ∧ t.text = x := by
  simp only [sees, Bool.and_eq_true] at h
  obtain ⟨h1, t, l, h2, h3⟩ := is_l h.1
  have h4 := h.2
  rw [h2] at h4
  exact ⟨h1, t, l, h2, h3, by simpa using h4⟩
theorem eat_st {s : S} (h : s.st = true) : s.eat false = s := by cases s; simp_all [eat]
theorem eat_mu {s : S} {b : Bool} (hb : b = true → s.st = false ∧ s.l ≠ []) : mu (s.eat b) ≤ mu s ∧ (s.st = false → mu (s.eat b) + 1 ≤ mu s) := by
  obtain ⟨l, st⟩ := s
  cases b
  · cases st <;> simp [eat, mu]
  · obtain ⟨h1, h2⟩ := hb rfl
    simp only at h1 h2
    subst h1
    cases l with
    | nil => exact absurd rfl h2
    | cons t l => simp [eat, mu]
theorem is_ne {s : S} {k : Nat} (h : s.is k = true) : s.st = false ∧ s.l ≠ [] := by
  obtain ⟨h1, t, l, h2, _⟩ := is_l h
  exact ⟨h1, by rw [h2]; simp⟩
theorem sees_ne {s : S} {k : Nat} {x : List UInt8} (h : s.sees k x = true) : s.st = false ∧ s.l ≠ [] := by
  simp only [sees, Bool.and_eq_true] at h
  exact is_ne h.1
theorem name_mu (s : S) : mu s.name ≤ mu s ∧ (s.st = false → mu s.name + 1 ≤ mu s) := eat_mu is_ne
theorem num_mu (s : S) : mu s.num ≤ mu s ∧ (s.st = false → mu s.num + 1 ≤ mu s) := eat_mu is_ne
theorem word_mu (s : S) (x : List UInt8) : mu (s.word x) ≤ mu s ∧ (s.st = false → mu (s.word x) + 1 ≤ mu s) := eat_mu sees_ne
theorem sign_mu (s : S) (x : List UInt8) : mu (s.sign x) ≤ mu s ∧ (s.st = false → mu (s.sign x) + 1 ≤ mu s) := eat_mu sees_ne
theorem nbd_mu (s : S) : mu s.nbd ≤ mu s ∧ (s.st = false → mu s.nbd + 1 ≤ mu s) := by
  have h1 := name_mu s
  have h2 := sign_mu s.name [61]
  have h3 := num_mu (s.name.sign [61])
  have h4 := sign_mu (s.name.sign [61]).num [59]
  unfold nbd
  exact ⟨by omega, fun h => by have := h1.2 h; omega⟩
theorem fldS_mu (s : S) : mu s.fldS ≤ mu s ∧ (s.st = false → mu s.fldS + 1 ≤ mu s) := by
  have h1 := name_mu s
  have h2 := nbd_mu s.name
  unfold fldS
  exact ⟨by omega, fun h => by have := h1.2 h; omega⟩
theorem inside_st {s : S} (h : s.inside = true) : s.st = false := by
  cases hs : s.st <;> simp_all [inside]
end S

open S

/-! ### Items, messages, enums, files -/

def Ms.add (m : Ms) (d : Fd) : Ms := { m with F := m.F ++ [d] }
def Ms.wt (m : Ms) : Nat := m.F.length + m.ones.length + m.res.length
theorem Ms.add_wt (m : Ms) (d : Fd) : (m.add d).wt = m.wt + 1 := by simp [Ms.add, Ms.wt]; omega
def onesF (E : Nat) (s : S) (m : Ms) : S × Ms :=
  if _h : s.inside = true then onesF E s.fldS (m.add { s.fld E with one := m.ones.length }) else (s, m)
termination_by s.mu
decreasing_by have := (fldS_mu s).2 (inside_st _h); omega
def resF (s : S) (m : Ms) : S × Ms :=
  if _h : s.sees 3 [44] = true then resF (s.sign [44]).num { m with res := m.res ++ [(s.sign [44]).numV] } else (s, m)
termination_by s.mu
decreasing_by have h1 := (sign_mu s [44]).2 (sees_l _h).1; have h2 := (num_mu (s.sign [44])).1; omega
def singleF (E : Nat) (s : S) (m : Ms) : S × Ms := (s.fldS, m.add (s.fld E))
def repF (E : Nat) (s : S) (m : Ms) : S × Ms := ((s.word wRepeated).fldS, m.add { (s.word wRepeated).fld E with rep := true, at_ := s.place E })
def mapS1 (s : S) : S := (s.word wMap).sign [60]
def mapS2 (s : S) : S := (mapS1 s).name.sign [44]
def mapS3 (s : S) : S := (mapS2 s).name.sign [62]
def pairsF (E : Nat) (s : S) (m : Ms) : S × Ms :=
  ((mapS3 s).nbd, m.add ⟨(mapS2 s).nameT, (mapS1 s).nameT, false, 0, (mapS3 s).nameT, (mapS3 s).nbdNo, s.place E⟩)
def oneofS (s : S) : S := (s.word wOneof).name.sign [123]
def oneofM (s : S) (m : Ms) : Ms := { m with ones := m.ones ++ [(s.word wOneof).nameT] }
def oneofF (E : Nat) (s : S) (m : Ms) : S × Ms := ((onesF E (oneofS s) (oneofM s m)).1.sign [125], (onesF E (oneofS s) (oneofM s m)).2)
def resS (s : S) : S := (s.word wReserved).num
def resM (s : S) (m : Ms) : Ms := { m with res := m.res ++ [(s.word wReserved).numV] }
def reservedF (s : S) (m : Ms) : S × Ms := ((resF (resS s) (resM s m)).1.sign [59], (resF (resS s) (resM s m)).2)
def itemF (E : Nat) (s : S) (m : Ms) : S × Ms :=
  if s.sees 0 wRepeated then repF E s m
  else if s.sees 0 wOneof then oneofF E s m
  else if s.sees 0 wReserved then reservedF s m
  else if s.map2 then pairsF E s m
  else singleF E s m

theorem onesF_wt (E : Nat) (s : S) (m : Ms) : mu (onesF E s m).1 ≤ mu s ∧ (onesF E s m).2.wt + mu (onesF E s m).1 ≤ m.wt + mu s := by
  induction s, m using onesF.induct E with
  | case1 s m h ih =>
    rw [onesF, dif_pos h]
    have h1 := (fldS_mu s).2 (inside_st h)
    rw [Ms.add_wt] at ih
    omega
  | case2 s m h => rw [onesF, dif_neg h]; exact ⟨Nat.le_refl _, Nat.le_refl _⟩
theorem resF_wt (s : S) (m : Ms) : mu (resF s m).1 ≤ mu s ∧ (resF s m).2.wt + mu (resF s m).1 ≤ m.wt + mu s := by
  induction s, m using resF.induct with
  | case1 s m h ih =>
    rw [resF, dif_pos h]
    have h1 := (sign_mu s [44]).2 (sees_l h).1
    have h2 := (num_mu (s.sign [44])).1
    have h3 : ({ m with res := m.res ++ [(s.sign [44]).numV] } : Ms).wt = m.wt + 1 := by simp [Ms.wt]; omega
    rw [h3] at ih
    omega
  | case2 s m h => rw [resF, dif_neg h]; exact ⟨Nat.le_refl _, Nat.le_refl _⟩
theorem singleF_wt (E : Nat) (s : S) (m : Ms) (h : s.st = false) : mu (singleF E s m).1 + 1 ≤ mu s ∧ (singleF E s m).2.wt + mu (singleF E s m).1 ≤ m.wt + mu s := by
  have h1 := (fldS_mu s).2 h
  simp only [singleF, Ms.add_wt]
  omega
theorem repF_wt (E : Nat) (s : S) (m : Ms) (h : s.st = false) : mu (repF E s m).1 + 1 ≤ mu s ∧ (repF E s m).2.wt + mu (repF E s m).1 ≤ m.wt + mu s := by
  have h1 := (word_mu s wRepeated).2 h
  have h2 := (fldS_mu (s.word wRepeated)).1
  simp only [repF, Ms.add_wt]
  omega
theorem pairsF_wt (E : Nat) (s : S) (m : Ms) (h : s.st = false) : mu (pairsF E s m).1 + 1 ≤ mu s ∧ (pairsF E s m).2.wt + mu (pairsF E s m).1 ≤ m.wt + mu s := by
  have h1 := (word_mu s wMap).2 h
  have h2 := (sign_mu (s.word wMap) [60]).1
  have h3 := (name_mu (mapS1 s)).1
  have h4 := (sign_mu (mapS1 s).name [44]).1
  have h5 := (name_mu (mapS2 s)).1
  have h6 := (sign_mu (mapS2 s).name [62]).1
  have h7 := (nbd_mu (mapS3 s)).1
  have e1 : mapS1 s = (s.word wMap).sign [60] := rfl
  have e2 : mapS2 s = (mapS1 s).name.sign [44] := rfl
  have e3 : mapS3 s = (mapS2 s).name.sign [62] := rfl
  rw [← e1] at h2
  rw [← e2] at h4
  rw [← e3] at h6
  simp only [pairsF, Ms.add_wt]
  omega
theorem oneofS_mu (s : S) (h : s.st = false) : mu (oneofS s) + 1 ≤ mu s := by
  have h1 := (word_mu s wOneof).2 h
  have h2 := (name_mu (s.word wOneof)).1
  have h3 := (sign_mu (s.word wOneof).name [123]).1
  unfold oneofS
  omega
theorem oneofM_wt (s : S) (m : Ms) : (oneofM s m).wt = m.wt + 1 := by simp [oneofM, Ms.wt]; omega
theorem oneofF_wt (E : Nat) (s : S) (m : Ms) (h : s.st = false) : mu (oneofF E s m).1 + 1 ≤ mu s ∧ (oneofF E s m).2.wt + mu (oneofF E s m).1 ≤ m.wt + mu s := by
  have h1 := oneofS_mu s h
  have h4 := onesF_wt E (oneofS s) (oneofM s m)
  rw [oneofM_wt] at h4
  have h5 := (sign_mu (onesF E (oneofS s) (oneofM s m)).1 [125]).1
  simp only [oneofF]
  omega
theorem resS_mu (s : S) (h : s.st = false) : mu (resS s) + 1 ≤ mu s := by
  have h1 := (word_mu s wReserved).2 h
  have h2 := (num_mu (s.word wReserved)).1
  unfold resS
  omega
theorem resM_wt (s : S) (m : Ms) : (resM s m).wt = m.wt + 1 := by simp [resM, Ms.wt]; omega
theorem reservedF_wt (s : S) (m : Ms) (h : s.st = false) : mu (reservedF s m).1 + 1 ≤ mu s ∧ (reservedF s m).2.wt + mu (reservedF s m).1 ≤ m.wt + mu s := by
  have h1 := resS_mu s h
  have h4 := resF_wt (resS s) (resM s m)
  rw [resM_wt] at h4
  have h5 := (sign_mu (resF (resS s) (resM s m)).1 [59]).1
  simp only [reservedF]
  omega
theorem itemF_wt (E : Nat) (s : S) (m : Ms) (h : s.st = false) : mu (itemF E s m).1 + 1 ≤ mu s ∧ (itemF E s m).2.wt + mu (itemF E s m).1 ≤ m.wt + mu s := by
  unfold itemF
  split
  · exact repF_wt E s m h
  · split
    · exact oneofF_wt E s m h
    · split
      · exact reservedF_wt s m h
      · split
        · exact pairsF_wt E s m h
        · exact singleF_wt E s m h
def itemsF (E : Nat) (s : S) (m : Ms) : S × Ms :=
  if _h : s.inside = true then itemsF E (itemF E s m).1 (itemF E s m).2 else (s, m)
termination_by s.mu
decreasing_by have := (itemF_wt E s m (inside_st _h)).1; omega
def msgS (s : S) : S := (s.word wMessage).name.sign [123]
def msgM (E : Nat) (s : S) : Ms := ⟨(s.word wMessage).nameT, [], [], [], s.place E⟩
def messageF (E : Nat) (s : S) : S × Ms := ((itemsF E (msgS s) (msgM E s)).1.sign [125], (itemsF E (msgS s) (msgM E s)).2)
def valsF (E : Nat) (s : S) (e : En) : S × En :=
  if _h : s.inside = true then valsF E s.nbd { e with V := e.V ++ [⟨s.nameT, s.nbdNo, s.place E⟩] } else (s, e)
termination_by s.mu
decreasing_by have := (nbd_mu s).2 (inside_st _h); omega
def enS (s : S) : S := (s.word wEnum).name.sign [123]
def enE (E : Nat) (s : S) : En := ⟨(s.word wEnum).nameT, [], s.place E⟩
def enumF (E : Nat) (s : S) : S × En := ((valsF E (enS s) (enE E s)).1.sign [125], (valsF E (enS s) (enE E s)).2)
theorem itemsF_mu (E : Nat) (s : S) (m : Ms) : mu (itemsF E s m).1 ≤ mu s := by
  induction s, m using itemsF.induct E with
  | case1 s m h ih =>
    rw [itemsF, dif_pos h]
    have := (itemF_wt E s m (inside_st h)).1
    omega
  | case2 s m h => rw [itemsF, dif_neg h]; exact Nat.le_refl _
theorem msgS_mu (s : S) (h : s.st = false) : mu (msgS s) + 1 ≤ mu s := by
  have h1 := (word_mu s wMessage).2 h
  have h2 := (name_mu (s.word wMessage)).1
  have h3 := (sign_mu (s.word wMessage).name [123]).1
  unfold msgS
  omega
theorem messageF_mu (E : Nat) (s : S) (h : s.st = false) : mu (messageF E s).1 + 1 ≤ mu s := by
  have h1 := msgS_mu s h
  have h2 := itemsF_mu E (msgS s) (msgM E s)
  have h3 := (sign_mu (itemsF E (msgS s) (msgM E s)).1 [125]).1
  simp only [messageF]
  omega
theorem valsF_mu (E : Nat) (s : S) (e : En) : mu (valsF E s e).1 ≤ mu s := by
  induction s, e using valsF.induct E with
  | case1 s m h ih =>
    rw [valsF, dif_pos h]
    have := (nbd_mu s).2 (inside_st h)
    omega
  | case2 s m h => rw [valsF, dif_neg h]; exact Nat.le_refl _
theorem enS_mu (s : S) (h : s.st = false) : mu (enS s) + 1 ≤ mu s := by
  have h1 := (word_mu s wEnum).2 h
  have h2 := (name_mu (s.word wEnum)).1
  have h3 := (sign_mu (s.word wEnum).name [123]).1
  unfold enS
  omega
theorem enumF_mu (E : Nat) (s : S) (h : s.st = false) : mu (enumF E s).1 + 1 ≤ mu s := by
  have h1 := enS_mu s h
  have h2 := valsF_mu E (enS s) (enE E s)
  have h3 := (sign_mu (valsF E (enS s) (enE E s)).1 [125]).1
  simp only [enumF]
  omega
def S.goes (s : S) : Bool := !s.st && decide (0 < s.l.length)
theorem goes_st {s : S} (h : s.goes = true) : s.st = false := by cases hs : s.st <;> simp_all [S.goes]
def fileF (E : Nat) (s : S) (f : Fl) : S × Fl :=
  if _h : s.goes = true then
    if s.sees 0 wEnum then fileF E (enumF E s).1 { f with E := f.E ++ [(enumF E s).2] }
    else fileF E (messageF E s).1 { f with M := f.M ++ [(messageF E s).2] }
  else (s, f)
termination_by s.mu
decreasing_by
  · have := enumF_mu E s (goes_st _h); omega
  · have := messageF_mu E s (goes_st _h); omega
end Go.Proofs.YtipaangiehdgkaaGreatDoor
/-
  A file that is resolved, by plain functions: what is wrong with it, told first; the schema; and what makes a file right.
-/
namespace Go.Proofs.YtipaangiehdgkaaGreatDoor
set_option maxRecDepth 100000

structure Df where
  no : Int
  name : List UInt8
  kind : Int
  ref : Int
  rep : Bool
  key : Int
  one : Int
  deriving DecidableEq
structure Md where
  name : List UInt8
  F : List Df
  deriving DecidableEq
structure Ed where
  name : List UInt8
  V : List (List UInt8)
  N : List Int
  deriving DecidableEq
structure Sc where
  M : List Md
  E : List Ed
  deriving DecidableEq

def tInt64 : List UInt8 := [105, 110, 116, 54, 52]
def tSint64 : List UInt8 := [115, 105, 110, 116, 54, 52]
def tUint32 : List UInt8 := [117, 105, 110, 116, 51, 50]
def tBool : List UInt8 := [98, 111, 111, 108]
def tFixed32 : List UInt8 := [102, 105, 120, 101, 100, 51, 50]
def tSfixed64 : List UInt8 := [115, 102, 105, 120, 101, 100, 54, 52]
def tString : List UInt8 := [115, 116, 114, 105, 110, 103]
def tBytes : List UInt8 := [98, 121, 116, 101, 115]
/-- A plain type's kind. -/
def typeK (x : List UInt8) : Option Nat :=
  if x = tInt64 then some 0 else if x = tSint64 then some 1 else if x = tUint32 then some 2 else if x = tBool then some 3 else if x = tFixed32 then some 4 else if x = tSfixed64 then some 5 else if x = tString then some 7 else if x = tBytes then some 8 else none
def numberB (n : Int) : Bool := decide (1 ≤ n) && decide (n ≤ 536870911) && !(decide (19000 ≤ n) && decide (n ≤ 19999))
def keyedB (k : Int) : Bool := k == 0 || k == 1 || k == 2 || k == 3 || k == 4 || k == 5 || k == 7
def keyOK (x : List UInt8) : Bool := match typeK x with | none => false | some k => keyedB k
def namesF (f : Fl) : List (List UInt8) := f.M.map (·.name) ++ f.E.map (·.name)
/-- A type's kind, and which one it is: the first of its name. -/
def kindF (f : Fl) (x : List UInt8) : Option (Int × Int) :=
  match typeK x with
  | some k => some (k, 0)
  | none => if (namesF f).idxOf x < f.M.length then some (9, (namesF f).idxOf x) else if (namesF f).idxOf x < (namesF f).length then some (6, ((namesF f).idxOf x - f.M.length : Nat)) else none

/-! ### What is wrong -/

def hdAt (f : Fl) (i : Nat) : Int := if i < f.M.length then (f.M[i]?.map (·.at_)).getD 0 else (f.E[i - f.M.length]?.map (·.at_)).getD 0
def hdLong (f : Fl) (i : Nat) : Bool :=
  if i < f.M.length then (f.M[i]?.map fun m => decide (30 < m.F.length) || decide (30 < m.ones.length)).getD false
  else (f.E[i - f.M.length]?.map fun e => decide (e.V.length < 1) || decide (30 < e.V.length)).getD false
def hdErr (f : Fl) (i : Nat) : Option (Int × Nat) :=
  if (typeK ((namesF f).getD i [])).isSome || ((namesF f).take i).contains ((namesF f).getD i []) then some (hdAt f i, 4) else if hdLong f i then some (hdAt f i, 2) else none
def fdForm (m : Ms) (k : Nat) (x : Fd) : Bool :=
  ((m.F.take k).any fun y => y.name == x.name || y.no == x.no) || m.res.contains x.no || m.ones.contains x.name || !numberB x.no || decide (x.one < 0) || decide ((m.ones.length : Int) < x.one)
    || (x.rep && decide (x.key ≠ [])) || (decide (0 < x.one) && (x.rep || decide (x.key ≠ [])))
def fdErr (f : Fl) (m : Ms) (k : Nat) (x : Fd) : Option (Int × Nat) :=
  if fdForm m k x then some (x.at_, 4) else if decide (x.key ≠ []) && !keyOK x.key then some (x.at_, 5) else if (kindF f x.type).isNone then some (x.at_, 3) else none
def vlErr (e : En) (k : Nat) (x : Vl) : Option (Int × Nat) :=
  if ((e.V.take k).any fun y => y.name == x.name || y.n == x.n) || decide (x.n < -2147483648) || decide (2147483647 < x.n) || (k == 0 && x.n != 0) then some (x.at_, 4) else none
/-- The first that is told of the elements of a list, each with its place. -/
def firstOf {α β : Type} (g : Nat → α → Option β) (l : List α) : Option β := (List.range l.length).findSome? fun k => (l[k]?).bind (g k)
def errH (f : Fl) : Option (Int × Nat) := (List.range (namesF f).length).findSome? (hdErr f)
def errM (f : Fl) (m : Ms) : Option (Int × Nat) := firstOf (fdErr f m) m.F
def errF (f : Fl) : Option (Int × Nat) := f.M.findSome? (errM f)
def errV (f : Fl) : Option (Int × Nat) := f.E.findSome? fun e => firstOf (vlErr e) e.V
def sizeBad (f : Fl) : Bool := decide (f.M.length < 1) || decide (20 < f.M.length) || decide (20 < f.E.length)
def errR (f : Fl) : Option (Int × Nat) := if sizeBad f then some (0, 2) else ((errH f).or (errF f)).or (errV f)

/-! ### The schema -/

def defF (f : Fl) (x : Fd) : Df := ⟨x.no, x.name, ((kindF f x.type).getD (0, 0)).1, ((kindF f x.type).getD (0, 0)).2, x.rep, if x.key = [] then -1 else ((typeK x.key).map Int.ofNat).getD 0, x.one⟩
def insF (d : Df) : List Df → List Df
  | [] => [d]
  | x :: l => if d.no < x.no then d :: x :: l else x :: insF d l
def sortF (l : List Df) : List Df := l.foldl (fun o d => insF d o) []
def msgD (f : Fl) (m : Ms) : Md := ⟨m.name, sortF (m.F.map (defF f))⟩
def enD (e : En) : Ed := ⟨e.name, e.V.map (·.name), e.V.map (·.n)⟩
def schF (f : Fl) : Sc := ⟨f.M.map (msgD f), f.E.map enD⟩
/-- What is told of a file. -/
def tabS (f : Fl) : Sc := if (errR f).isSome then ⟨[], []⟩ else schF f
def tabAt (f : Fl) : Int := ((errR f).map (·.1)).getD 0
def tabE (f : Fl) : Nat := ((errR f).map (·.2)).getD 0

/-! ### What makes a file right -/

structure FdGood (f : Fl) (m : Ms) (x : Fd) : Prop where
  res : x.no ∉ m.res
  ones : x.name ∉ m.ones
  num : numberB x.no = true
  lo : 0 ≤ x.one
  hi : x.one ≤ (m.ones.length : Int)
  two : ¬ (x.rep = true ∧ x.key ≠ [])
  alone : 0 < x.one → x.rep = false ∧ x.key = []
  key : x.key ≠ [] → keyOK x.key = true
  type : (kindF f x.type).isSome = true
structure MsGood (f : Fl) (m : Ms) : Prop where
  few : m.F.length ≤ 30
  onesFew : m.ones.length ≤ 30
  two : m.F.Pairwise fun a b => a.name ≠ b.name ∧ a.no ≠ b.no
  each : ∀ x ∈ m.F, FdGood f m x
structure EnGood (e : En) : Prop where
  some_ : 1 ≤ e.V.length
  few : e.V.length ≤ 30
  two : e.V.Pairwise fun a b => a.name ≠ b.name ∧ a.n ≠ b.n
  each : ∀ v ∈ e.V, -2147483648 ≤ v.n ∧ v.n ≤ 2147483647
  zero : ∀ v, e.V[0]? = some v → v.n = 0
structure FlGood (f : Fl) : Prop where
  some_ : 1 ≤ f.M.length
  fewM : f.M.length ≤ 20
  fewE : f.E.length ≤ 20
  names : (namesF f).Pairwise (· ≠ ·)
  plain : ∀ x ∈ namesF f, typeK x = none
  M : ∀ m ∈ f.M, MsGood f m
  E : ∀ e ∈ f.E, EnGood e
theorem firstOf_none {α β : Type} {g : Nat → α → Option β} {l : List α} : firstOf g l = none ↔ ∀ k x, l[k]? = some x → g k x = none := by
  unfold firstOf
  rw [List.findSome?_eq_none_iff]
  constructor
  · intro h k x hx
    have := h k (List.mem_range.2 (List.getElem?_eq_some_iff.1 hx).1)
    rw [hx] at this
    exact this
  · intro h k hk
    rw [List.getElem?_eq_getElem (List.mem_range.1 hk)]
    exact h k _ (List.getElem?_eq_getElem (List.mem_range.1 hk))
theorem pair_take {α : Type} {R : α → α → Bool} {l : List α} : (∀ k x, l[k]? = some x → (l.take k).any (R · x) = false) ↔ l.Pairwise fun a b => R a b = false := by
  rw [List.pairwise_iff_getElem]
  constructor
  · intro h i j hi hj hij
    have h1 := h j _ (List.getElem?_eq_getElem hj)
    rw [List.any_eq_false] at h1
    have h2 := h1 l[i] (List.mem_iff_getElem.2 ⟨i, by rw [List.length_take]; omega, by simp⟩)
    simpa using h2
  · intro h k x hx
    rw [List.any_eq_false]
    intro y hy
    obtain ⟨i, hi, rfl⟩ := List.mem_iff_getElem.1 hy
    rw [List.length_take] at hi
    obtain ⟨hk, rfl⟩ := List.getElem?_eq_some_iff.1 hx
    have := h i k (by omega) hk (by omega)
    simpa using this
theorem fdErr_none {f : Fl} {m : Ms} {k : Nat} {x : Fd} : fdErr f m k x = none ↔ ((m.F.take k).any fun y => y.name == x.name || y.no == x.no) = false ∧ FdGood f m x := by
  unfold fdErr fdForm
  constructor
  · intro h
    split at h
    · cases h
    · rename_i h1
      split at h
      · cases h
      · rename_i h2
        split at h
        · cases h
        · rename_i h3
          simp only [Bool.or_eq_true, not_or, Bool.and_eq_true, not_and, decide_eq_true_eq, Bool.not_eq_true, Bool.not_eq_eq_eq_not, Bool.not_true, Bool.not_false] at h1 h2 h3
          obtain ⟨⟨⟨⟨⟨⟨⟨a1, a2⟩, a3⟩, a4⟩, a5⟩, a6⟩, a7⟩, a8⟩ := h1
          refine ⟨a1, by simpa using a2, by simpa using a3, by simpa using a4, by omega, by omega, fun h => by have := a7 h.1; exact absurd h.2 (by simpa using this), fun h => ?_, fun h => ?_, ?_⟩
          · have := a8 h
            constructor
            · cases hr : x.rep <;> simp_all
            · cases hr : x.key <;> simp_all
          · have := h2 h; simpa using this
          · cases hk : kindF f x.type <;> simp_all
  · rintro ⟨h0, h⟩
    have e1 : m.res.contains x.no = false := by simpa using h.res
    have e2 : m.ones.contains x.name = false := by simpa using h.ones
    have e3 : decide (x.one < 0) = false := by rw [decide_eq_false_iff_not]; have := h.lo; omega
    have e4 : decide ((m.ones.length : Int) < x.one) = false := by rw [decide_eq_false_iff_not]; have := h.hi; omega
    have e5 : (x.rep && decide (x.key ≠ [])) = false := by
      cases hr : x.rep
      · rfl
      · have : x.key = [] := Classical.byContradiction fun hk => h.two ⟨hr, hk⟩
        simp [this]
    have e6 : (decide (0 < x.one) && (x.rep || decide (x.key ≠ []))) = false := by
      by_cases hp : 0 < x.one
      · obtain ⟨h1, h2⟩ := h.alone hp
        simp [h1, h2]
      · simp [hp]
    have e7 : (decide (x.key ≠ []) && !keyOK x.key) = false := by
      by_cases hk : x.key = []
      · simp [hk]
      · simp [h.key hk]
    have e8 : (kindF f x.type).isNone = false := by
      have := h.type
      cases hk : kindF f x.type <;> simp_all
    simp only [h0, e1, e2, h.num, e3, e4, e5, e6, e7, e8, Bool.or_false, Bool.not_true, Bool.false_eq_true, if_false]
theorem vlErr_none {e : En} {k : Nat} {x : Vl} : vlErr e k x = none ↔ ((e.V.take k).any fun y => y.name == x.name || y.n == x.n) = false ∧ (-2147483648 ≤ x.n ∧ x.n ≤ 2147483647) ∧ (k = 0 → x.n = 0) := by
  unfold vlErr
  constructor
  · intro h
    split at h
    · cases h
    · rename_i h1
      simp only [Bool.or_eq_true, not_or, Bool.and_eq_true, not_and, decide_eq_true_eq, Bool.not_eq_true, beq_iff_eq, bne_iff_ne, ne_eq, Classical.not_not] at h1
      obtain ⟨⟨⟨a1, a2⟩, a3⟩, a4⟩ := h1
      exact ⟨a1, by omega, a4⟩
  · rintro ⟨h0, h1, h2⟩
    have e1 : decide (x.n < -2147483648) = false := by rw [decide_eq_false_iff_not]; omega
    have e2 : decide (2147483647 < x.n) = false := by rw [decide_eq_false_iff_not]; omega
    have e3 : (k == 0 && x.n != 0) = false := by
      by_cases hk : k = 0
      · simp [hk, h2 hk]
      · simp [hk]
    simp only [h0, e1, e2, e3, Bool.or_false, Bool.false_eq_true, if_false]
theorem two_iff {α : Type} {P Q : α → α → Bool} {R : α → α → Prop} (h : ∀ a b, (P a b || Q a b) = false ↔ R a b) {l : List α} : (l.Pairwise fun a b => (P a b || Q a b) = false) ↔ l.Pairwise R := by
  constructor <;> intro hp <;> exact hp.imp fun {a b} hab => by first | exact (h a b).1 hab | exact (h a b).2 hab
theorem errM_none {f : Fl} {m : Ms} : errM f m = none ↔ (m.F.Pairwise fun a b => a.name ≠ b.name ∧ a.no ≠ b.no) ∧ ∀ x ∈ m.F, FdGood f m x := by
  unfold errM
  rw [firstOf_none]
  have h2 : (m.F.Pairwise fun a b => (a.name == b.name || a.no == b.no) = false) ↔ m.F.Pairwise fun a b => a.name ≠ b.name ∧ a.no ≠ b.no := two_iff fun a b => by simp
  rw [← h2, ← pair_take]
  constructor
  · intro h
    exact ⟨fun k x hx => (fdErr_none.1 (h k x hx)).1, fun x hx => by obtain ⟨k, hk⟩ := List.mem_iff_getElem?.1 hx; exact (fdErr_none.1 (h k x hk)).2⟩
  · rintro ⟨h1, h3⟩ k x hx
    exact fdErr_none.2 ⟨h1 k x hx, h3 x (List.mem_of_getElem? hx)⟩
theorem errVl_none {e : En} : firstOf (vlErr e) e.V = none ↔ (e.V.Pairwise fun a b => a.name ≠ b.name ∧ a.n ≠ b.n) ∧ (∀ v ∈ e.V, -2147483648 ≤ v.n ∧ v.n ≤ 2147483647) ∧ ∀ v, e.V[0]? = some v → v.n = 0 := by
  rw [firstOf_none]
  have h2 : (e.V.Pairwise fun a b => (a.name == b.name || a.n == b.n) = false) ↔ e.V.Pairwise fun a b => a.name ≠ b.name ∧ a.n ≠ b.n := two_iff fun a b => by simp
  rw [← h2, ← pair_take]
  constructor
  · intro h
    exact ⟨fun k x hx => (vlErr_none.1 (h k x hx)).1, fun x hx => by obtain ⟨k, hk⟩ := List.mem_iff_getElem?.1 hx; exact (vlErr_none.1 (h k x hk)).2.1, fun v hv => (vlErr_none.1 (h 0 v hv)).2.2 rfl⟩
  · rintro ⟨h1, h3, h4⟩ k x hx
    exact vlErr_none.2 ⟨h1 k x hx, h3 x (List.mem_of_getElem? hx), fun hk => h4 x (by rw [← hk]; exact hx)⟩
theorem names_length (f : Fl) : (namesF f).length = f.M.length + f.E.length := by simp [namesF]
theorem names_pair {l : List (List UInt8)} : (∀ i, i < l.length → (l.take i).contains (l.getD i []) = false) ↔ l.Pairwise (· ≠ ·) := by
  have h2 : (l.Pairwise fun a b => (a == b) = false) ↔ l.Pairwise (· ≠ ·) := by
    constructor <;> intro hp <;> exact hp.imp fun {a b} hab => by simpa using hab
  rw [← h2, ← pair_take]
  constructor
  · intro h k x hx
    have hk := (List.getElem?_eq_some_iff.1 hx).1
    have h1 := h k hk
    rw [List.getD_eq_getElem?_getD, hx, Option.getD_some] at h1
    rw [List.any_eq_false]
    intro y hy
    rw [Bool.not_eq_true, beq_eq_false_iff_ne]
    rintro rfl
    rw [List.contains_eq_mem, decide_eq_false_iff_not] at h1
    exact h1 hy
  · intro h i hi
    have hx := List.getElem?_eq_getElem hi
    have h1 := h i _ hx
    rw [List.getD_eq_getElem?_getD, hx, Option.getD_some, List.contains_eq_mem, decide_eq_false_iff_not]
    intro hm
    rw [List.any_eq_false] at h1
    exact absurd (h1 _ hm) (by simp)
theorem errH_none {f : Fl} : errH f = none ↔ (namesF f).Pairwise (· ≠ ·) ∧ (∀ x ∈ namesF f, typeK x = none) ∧ (∀ m ∈ f.M, m.F.length ≤ 30 ∧ m.ones.length ≤ 30) ∧ ∀ e ∈ f.E, 1 ≤ e.V.length ∧ e.V.length ≤ 30 := by
  unfold errH
  rw [List.findSome?_eq_none_iff, ← names_pair]
  have key : ∀ i, hdErr f i = none ↔ typeK ((namesF f).getD i []) = none ∧ ((namesF f).take i).contains ((namesF f).getD i []) = false ∧ hdLong f i = false := by
    intro i
    unfold hdErr
    cases h1 : typeK ((namesF f).getD i []) <;> cases h2 : ((namesF f).take i).contains ((namesF f).getD i []) <;> cases h3 : hdLong f i <;> simp
  constructor
  · intro h
    have h' : ∀ i, i < (namesF f).length → _ := fun i hi => (key i).1 (h i (List.mem_range.2 hi))
    refine ⟨fun i hi => (h' i hi).2.1, fun x hx => ?_, fun m hm => ?_, fun e he => ?_⟩
    · obtain ⟨i, hi⟩ := List.mem_iff_getElem?.1 hx
      have := (h' i (List.getElem?_eq_some_iff.1 hi).1).1
      rw [List.getD_eq_getElem?_getD, hi] at this
      exact this
    · obtain ⟨i, hi⟩ := List.mem_iff_getElem?.1 hm
      have hlt := (List.getElem?_eq_some_iff.1 hi).1
      have := (h' i (by rw [names_length]; omega)).2.2
      unfold hdLong at this
      rw [if_pos hlt, hi] at this
      simp at this
      omega
    · obtain ⟨i, hi⟩ := List.mem_iff_getElem?.1 he
      have hlt := (List.getElem?_eq_some_iff.1 hi).1
      have := (h' (f.M.length + i) (by rw [names_length]; omega)).2.2
      unfold hdLong at this
      rw [if_neg (by omega), show f.M.length + i - f.M.length = i by omega, hi] at this
      simp only [Option.map_some, Option.getD_some, Bool.or_eq_false_iff, decide_eq_false_iff_not] at this
      omega
  · rintro ⟨h1, h2, h3, h4⟩ i hi
    have hi := List.mem_range.1 hi
    refine (key i).2 ⟨?_, h1 i hi, ?_⟩
    · rw [List.getD_eq_getElem?_getD, List.getElem?_eq_getElem hi]
      exact h2 _ (List.getElem_mem hi)
    · unfold hdLong
      split
      · rename_i hlt
        have := h3 _ (List.getElem_mem hlt)
        rw [List.getElem?_eq_getElem hlt]
        simp
        omega
      · rename_i hlt
        rw [names_length] at hi
        have hlt2 : i - f.M.length < f.E.length := by omega
        have := h4 _ (List.getElem_mem hlt2)
        rw [List.getElem?_eq_getElem hlt2]
        simp only [Option.map_some, Option.getD_some, Bool.or_eq_false_iff, decide_eq_false_iff_not]
        omega
/-- A file has nothing wrong just if it is right. -/
theorem good_iff (f : Fl) : errR f = none ↔ FlGood f := by
  unfold errR
  constructor
  · intro h
    split at h
    · cases h
    · rename_i h0
      simp only [sizeBad, Bool.or_eq_true, decide_eq_true_eq, not_or] at h0
      have h1 : errH f = none ∧ errF f = none ∧ errV f = none := by
        cases a : errH f <;> cases b : errF f <;> cases c : errV f <;> simp_all
      obtain ⟨a, b, c⟩ := h1
      obtain ⟨a1, a2, a3, a4⟩ := errH_none.1 a
      unfold errF at b
      unfold errV at c
      rw [List.findSome?_eq_none_iff] at b c
      refine ⟨by omega, by omega, by omega, a1, a2, fun m hm => ?_, fun e he => ?_⟩
      · obtain ⟨b1, b2⟩ := errM_none.1 (b m hm)
        exact ⟨(a3 m hm).1, (a3 m hm).2, b1, b2⟩
      · obtain ⟨c1, c2, c3⟩ := errVl_none.1 (c e he)
        exact ⟨(a4 e he).1, (a4 e he).2, c1, c2, c3⟩
  · intro h
    have h0 : sizeBad f = false := by
      have := h.some_
      have := h.fewM
      have := h.fewE
      simp only [sizeBad, Bool.or_eq_false_iff, decide_eq_false_iff_not]
      omega
    have a : errH f = none := errH_none.2 ⟨h.names, h.plain, fun m hm => ⟨(h.M m hm).few, (h.M m hm).onesFew⟩, fun e he => ⟨(h.E e he).some_, (h.E e he).few⟩⟩
    have b : errF f = none := by
      unfold errF
      rw [List.findSome?_eq_none_iff]
      exact fun m hm => errM_none.2 ⟨(h.M m hm).two, (h.M m hm).each⟩
    have c : errV f = none := by
      unfold errV
      rw [List.findSome?_eq_none_iff]
      exact fun e he => errVl_none.2 ⟨(h.E e he).two, (h.E e he).each, (h.E e he).zero⟩
    rw [h0, a, b, c]
    rfl
end Go.Proofs.YtipaangiehdgkaaGreatDoor
