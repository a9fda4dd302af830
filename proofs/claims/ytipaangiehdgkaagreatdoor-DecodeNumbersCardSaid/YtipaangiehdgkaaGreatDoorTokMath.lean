/-
  A slot that is got; a value that is less: value's Get and Less.
-/
import Derived.Test.YtipaangiehdgkaaGreatDoorTrSet
import Derived.Deep.AppendLies
import Derived.Deep.RegionLaw
import Derived.Deep.RegionHeldLaw
namespace Go.Proofs.YtipaangiehdgkaaGreatDoor.T9
set_option maxRecDepth 100000

open Go.RowKit

theorem results_pair {P : Program} {fn : Func} {p u : Tmp} {ty : TypeId} (h : fn.results = #[.cell p ty, .tmp u]) (tmps : Array Value) (w : World) (g : Nat) (t : TypeId) (cs : Array Value) (fr : Nat × Nat) (d : TypeDesc)
    (hp : tmps.getD p undef = .pointer (some ⟨g, 0, none⟩)) (hg : w.heap[g]? = some (.cells cs t fr))
    (hu : P.underlying ty = some d) (hd : (match d with | .struct _ | .array _ _ => true | _ => false) = true) (hi : (P.info? ty).map (·.size) = some cs.size) :
    (results fn tmps).run P w = .ok (.tuple #[.agg cs, tmps.getD u undef]) w := by
  have hp' : tmps[p]?.getD undef = .pointer (some ⟨g, 0, none⟩) := by simpa using hp
  simp [results, h, hp', asAddr, run_loadVar_row w g t ty cs fr d hg hu hd hi]
def lessV (a b : Vl') : Bool := if a.n = b.n then Op.bytesLess a.s b.s else decide (a.n < b.n)
end Go.Proofs.YtipaangiehdgkaaGreatDoor.T9
/-
  The chapter's example: the laws' own awake.
-/
namespace Go.Proofs.YtipaangiehdgkaaGreatDoor.T9
set_option maxRecDepth 100000

open Go.RowKit

end Go.Proofs.YtipaangiehdgkaaGreatDoor.T9
/-
  The document's own: a slot's values, those of K first.
-/
namespace Go.Proofs.YtipaangiehdgkaaGreatDoor.T9
set_option maxRecDepth 100000

open Go.RowKit

end Go.Proofs.YtipaangiehdgkaaGreatDoor.T9
/-
  The document's own: is a tree not too great (truffleref09.Few)?
-/
namespace Go.Proofs.YtipaangiehdgkaaGreatDoor.T9
set_option maxRecDepth 100000

open Go.RowKit

def cS' (s : So) : Nat := sm ((s.K ++ s.V).map cV)
def cV' (v : Vl') : Nat := sm (v.M.map fun x => 1 + x.cnt)
theorem cS_eq (s : So) : cS s = 1 + cS' s := by unfold cS cS'; rw [List.map_append, sm_append]
theorem cV_eq (v : Vl') : cV v = 1 + cV' v := rfl
theorem cnt_split (m : Mg) : m.cnt = m.F.length + sm (m.F.map cS') := by
  rw [m.cnt_eq, ← sm_one m.F, ← sm_add]
  exact sm_congr fun s _ => cS_eq s
theorem cS_split (s : So) : cS' s = (s.K ++ s.V).length + sm ((s.K ++ s.V).map cV') := by
  unfold cS'
  rw [← sm_one (s.K ++ s.V), ← sm_add]
  exact sm_congr fun v _ => cV_eq v
theorem cV_split (v : Vl') : cV' v = v.M.length + sm (v.M.map Mg.cnt) := by
  unfold cV'
  rw [← sm_one v.M, ← sm_add]
/-- No message of these is deeper. -/
def DpV (d : Nat) (v : Vl') : Prop := ∀ x ∈ v.M, x.deep + 1 ≤ d
def DpS (d : Nat) (s : So) : Prop := ∀ v ∈ s.K ++ s.V, DpV d v
theorem deep_of {m : Mg} {d : Nat} (hd : 1 ≤ d) (h : ∀ s ∈ m.F, DpS d s) : m.deep ≤ d := by
  rw [m.deep_eq]
  have h1 : mx (m.F.map dS) ≤ d - 1 := by
    refine mx_le fun y hy => ?_
    obtain ⟨s, hs, rfl⟩ := List.mem_map.1 hy
    have h2 : ∀ v ∈ s.K ++ s.V, dV v ≤ d - 1 := fun v hv => by
      refine mx_le fun z hz => ?_
      obtain ⟨x, hx, rfl⟩ := List.mem_map.1 hz
      have := h s hs v hv x hx
      omega
    have h3 : mx (s.K.map dV) ≤ d - 1 := mx_le fun z hz => by
      obtain ⟨v, hv, rfl⟩ := List.mem_map.1 hz
      exact h2 v (List.mem_append.2 (.inl hv))
    have h4 : mx (s.V.map dV) ≤ d - 1 := mx_le fun z hz => by
      obtain ⟨v, hv, rfl⟩ := List.mem_map.1 hz
      exact h2 v (List.mem_append.2 (.inr hv))
    unfold dS
    omega
  omega
/-- What is told so far: at least as many, unless it is too many already. -/
def So1 (m : Mg) (d i N : Nat) : Prop := N ≤ 3000 → m.F.length + sm ((m.F.take i).map cS') ≤ N ∧ ∀ s ∈ m.F.take i, DpS d s
def So2 (m : Mg) (d i : Nat) (L : List Vl') (k N : Nat) : Prop := N ≤ 3000 → (m.F.length + sm ((m.F.take i).map cS') + L.length + sm ((L.take k).map cV') ≤ N ∧ ∀ s ∈ m.F.take i, DpS d s) ∧ ∀ v ∈ L.take k, DpV d v
def So3 (m : Mg) (d i : Nat) (L : List Vl') (k : Nat) (M : List Mg) (j N : Nat) : Prop := N ≤ 3000 → ((m.F.length + sm ((m.F.take i).map cS') + L.length + sm ((L.take k).map cV') + M.length + sm ((M.take j).map Mg.cnt) ≤ N ∧ ∀ s ∈ m.F.take i, DpS d s) ∧ ∀ v ∈ L.take k, DpV d v) ∧ ∀ x ∈ M.take j, x.deep + 1 ≤ d
theorem mem_take_next {α : Type} {l : List α} {k : Nat} {a x : α} (h : l[k]? = some a) (hx : x ∈ l.take (k + 1)) : x ∈ l.take k ∨ x = a := by
  rw [List.take_add_one, h] at hx
  simpa using hx
theorem So3.next {m : Mg} {d i : Nat} {L : List Vl'} {k : Nat} {M : List Mg} {j N c : Nat} {x : Mg} (h : So3 m d i L k M j N) (hN : N ≤ 3000) (hx : M[j]? = some x) (hc : c ≤ 3000 → x.cnt ≤ c ∧ x.deep ≤ d - 1) (hd : 1 ≤ d) : So3 m d i L k M (j + 1) (N + c) := fun hn => by
  obtain ⟨⟨⟨h1, h2⟩, h3⟩, h4⟩ := h hN
  obtain ⟨h5, h6⟩ := hc (by omega)
  refine ⟨⟨⟨?_, h2⟩, h3⟩, fun y hy => ?_⟩
  · rw [sm_take_next Mg.cnt hx]; omega
  · rcases mem_take_next hx hy with hy | rfl
    · exact h4 y hy
    · omega
theorem So3.start {m : Mg} {d i : Nat} {L : List Vl'} {k : Nat} {M : List Mg} {N : Nat} (h : So2 m d i L k N) (hN : N ≤ 3000) : So3 m d i L k M 0 (N + M.length) := fun hn => by
  obtain ⟨⟨h1, h2⟩, h3⟩ := h hN
  exact ⟨⟨⟨by simp only [List.take_zero, List.map_nil, sm]; omega, h2⟩, h3⟩, fun y hy => by simp at hy⟩
theorem So3.done {m : Mg} {d i : Nat} {L : List Vl'} {k : Nat} {v : Vl'} {j N : Nat} (h : So3 m d i L k v.M j N) (hv : L[k]? = some v) (hj : N ≤ 3000 → j = v.M.length) : So2 m d i L (k + 1) N := fun hn => by
  obtain ⟨⟨⟨h1, h2⟩, h3⟩, h4⟩ := h hn
  obtain rfl := hj hn
  rw [List.take_length] at h1 h4
  refine ⟨⟨?_, h2⟩, fun y hy => ?_⟩
  · rw [sm_take_next cV' hv, cV_split v]; omega
  · rcases mem_take_next hv hy with hy | rfl
    · exact h3 y hy
    · exact h4
theorem So2.start {m : Mg} {d i : Nat} {L : List Vl'} {N : Nat} (h : So1 m d i N) (hN : N ≤ 3000) : So2 m d i L 0 (N + L.length) := fun hn => by
  obtain ⟨h1, h2⟩ := h hN
  exact ⟨⟨by simp only [List.take_zero, List.map_nil, sm]; omega, h2⟩, fun y hy => by simp at hy⟩
theorem So2.done {m : Mg} {d i : Nat} {s : So} {k N : Nat} (h : So2 m d i (s.K ++ s.V) k N) (hs : m.F[i]? = some s) (hk : N ≤ 3000 → k = (s.K ++ s.V).length) : So1 m d (i + 1) N := fun hn => by
  obtain ⟨⟨h1, h2⟩, h3⟩ := h hn
  obtain rfl := hk hn
  rw [List.take_length] at h1 h3
  refine ⟨?_, fun y hy => ?_⟩
  · rw [sm_take_next cS' hs, cS_split s]; omega
  · rcases mem_take_next hs hy with hy | rfl
    · exact h2 y hy
    · exact h3
theorem So1.start (m : Mg) (d : Nat) : So1 m d 0 m.F.length := fun _ => ⟨by simp [sm], fun y hy => by simp at hy⟩
theorem So1.done {m : Mg} {d i N : Nat} (h : So1 m d i N) (hi : N ≤ 3000 → i = m.F.length) (hd : 1 ≤ d) : N ≤ 3000 → m.cnt ≤ N ∧ m.deep ≤ d := fun hn => by
  obtain ⟨h1, h2⟩ := h hn
  obtain rfl := hi hn
  rw [List.take_length] at h1 h2
  exact ⟨by rw [cnt_split]; exact h1, deep_of hd h2⟩
end Go.Proofs.YtipaangiehdgkaaGreatDoor.T9
/-
  The document's own count of a tree, and whether it is not too great (truffleref09.count, Few).
-/
namespace Go.Proofs.YtipaangiehdgkaaGreatDoor.T9
set_option maxRecDepth 100000

open Go.RowKit

end Go.Proofs.YtipaangiehdgkaaGreatDoor.T9
/-
  Is a tree not too great: the document's own Few, and the laws' own few.
-/
namespace Go.Proofs.YtipaangiehdgkaaGreatDoor.T9
set_option maxRecDepth 100000

open Go.RowKit

end Go.Proofs.YtipaangiehdgkaaGreatDoor.T9
/-
  What the laws of layer 9 share: rows that are written out, slots that are set and read.
-/
namespace Go.Proofs.YtipaangiehdgkaaGreatDoor.T9
set_option maxRecDepth 100000

open Go.RowKit

/-- A row that is written out. -/
theorem lit_row {w : World} {g B n size : Nat} {xs : List Value} {t : TypeId} {fr : Nat × Nat} (h : w.heap[g]? = some (.cells xs.toArray t fr)) (hl : xs.length = n * size) (hn : n ≤ 1000000) (hB : g < B) (e : TypeId) : Rd B w e size (.slice (some ⟨g, 0, none⟩) n n) n xs := by
  refine ⟨⟨some ⟨g, 0, none⟩, n, rfl, ⟨hl, Nat.le_refl _, by unfold maxLen; omega, by simp, fun ad ha _ => ?_, fun ad ha k u hu => ?_⟩, fun ad ha _ => ?_⟩, by omega⟩
  · obtain rfl := Option.some.inj ha
    exact box_lt h
  · obtain rfl := Option.some.inj ha
    rw [Addr.add_lit, Nat.zero_add, box_cell h]
    simpa using hu
  · obtain rfl := Option.some.inj ha
    exact hB
theorem msg_shape {b D : Nat} {w : World} {m : Mg} {x : Value} (h : MAt (Ow b w) D m [x]) : ∃ A c, x = .slice A m.F.length c := by
  cases D with
  | zero => exact h.elim
  | succ D =>
    obtain ⟨u, hu, xs, ⟨hown, -⟩, -⟩ := h
    obtain rfl : x = u := by simpa using hu
    obtain ⟨A, c, rfl, -⟩ := Sl.of_own hown
    exact ⟨A, c, rfl⟩
theorem rd_shape {B D : Nat} {w : World} {m : Mg} {x : Value} (h : MRd B w D m x) : ∃ A c, x = .slice A m.F.length c := by
  cases D with
  | zero => exact h.elim
  | succ D =>
    obtain ⟨u, hu, hl⟩ := h
    obtain rfl : x = u := by simpa using hu
    obtain ⟨A, c, xs, rfl, -⟩ := hl.open_
    exact ⟨A, c, rfl⟩
theorem slot_shape {B D : Nat} {w : World} {s : So} {x y z : Value} (h : SAt' (Rd B w) D s [x, y, z]) : ∃ A1 c1 A2 c2, x = .int .i64 s.no ∧ y = .slice A1 s.K.length c1 ∧ z = .slice A2 s.V.length c2 := by
  obtain ⟨u1, u2, hu, hk, hv⟩ := h
  simp only [List.cons.injEq, and_true] at hu
  obtain ⟨rfl, rfl, rfl⟩ := hu
  obtain ⟨A1, c1, _, rfl, -⟩ := hk.open_
  obtain ⟨A2, c2, _, rfl, -⟩ := hv.open_
  exact ⟨A1, c1, A2, c2, rfl, rfl, rfl⟩
/-- What is one's own is read. -/
theorem own_rd {b D : Nat} {w : World} {m : Mg} {x : Value} (h : MAt (Ow b w) D m [x]) : MRd w.heap.size w D m x := MAt.imp (fun e size v n xs h => Rd.of_own e size v n xs h) D _ _ h
end Go.Proofs.YtipaangiehdgkaaGreatDoor.T9
/-
  Rows of the call's own that are not one block: what an append onto that block's row keeps.
-/
namespace Go.Proofs.YtipaangiehdgkaaGreatDoor.T9
set_option maxRecDepth 100000

open Go.RowKit

/-- Rows of the call's own, none of them block r. -/
def Ap (b : Nat) (r : Option Nat) (w : World) : RP := fun e size v n xs => w.ownsRow b e size v n xs ∧ (∀ k, v.ownBlock = some k → r ≠ some k) ∧ n ≤ 10000000000000
theorem own_kept {w w' : World} {b : Nat} {e : TypeId} {size : Nat} {v : Value} {n : Nat} {xs : List Value} (h : w.ownsRow b e size v n xs) (hk : ∀ k, v.ownBlock = some k → k < w.heap.size → w'.heap[k]? = w.heap[k]?) : w'.ownsRow b e size v n xs := by
  rcases h with ⟨hl, ⟨rfl, rfl⟩ | ⟨g, cap, cur, rfl, h1, h2, h3⟩⟩
  · exact ⟨hl, .inl ⟨rfl, rfl⟩⟩
  · exact ⟨hl, .inr ⟨g, cap, cur, rfl, h1, (hk g rfl (box_lt h2)).trans h2, h3⟩⟩
theorem own_blk {w : World} {b : Nat} {e : TypeId} {size : Nat} {v : Value} {n : Nat} {xs : List Value} (h : w.ownsRow b e size v n xs) (k : Nat) (hk : v.ownBlock = some k) : b ≤ k ∧ k < w.heap.size := by
  rcases h with ⟨hl, ⟨rfl, rfl⟩ | ⟨g, cap, cur, rfl, h1, h2, h3⟩⟩
  · simp [Value.ownBlock] at hk
  · simp only [Value.ownBlock, Option.some.injEq] at hk
    subst hk
    exact ⟨h1, box_lt h2⟩
theorem Ap.ow {b : Nat} {r : Option Nat} {w : World} (e : TypeId) (size : Nat) (v : Value) (n : Nat) (xs : List Value) (h : Ap b r w e size v n xs) : Ow b w e size v n xs := ⟨h.1, h.2.2⟩
theorem Ap.of {b b' : Nat} {r : Option Nat} {w : World} (hb : b ≤ b') (hr : ∀ k, r = some k → k < b') (e : TypeId) (size : Nat) (v : Value) (n : Nat) (xs : List Value) (h : Ow b' w e size v n xs) : Ap b r w e size v n xs :=
  ⟨own_less h.1 hb, fun k hk e => by have := (own_blk h.1 k hk).1; have := hr k e; omega, h.2⟩
theorem Ap.on {b : Nat} {r : Option Nat} {w w' : World} (hb : Below w.heap.size w w') (e : TypeId) (size : Nat) (v : Value) (n : Nat) (xs : List Value) (h : Ap b r w e size v n xs) : Ap b r w' e size v n xs :=
  ⟨own_kept h.1 fun k _ hk => hb.block k hk, h.2⟩
/-- Behind an append onto the row in block r, which now lies in block g. -/
theorem Ap.grown {b g : Nat} {r : Option Nat} {w w' : World} (hg : w.grownBy w' r) (hn : r = some g ∨ w.heap.size ≤ g) (e : TypeId) (size : Nat) (v : Value) (n : Nat) (xs : List Value) (h : Ap b r w e size v n xs) : Ap b (some g) w' e size v n xs := by
  refine ⟨own_kept h.1 fun k hk hlt => hg.block k hlt fun e => h.2.1 k hk e.symm, fun k hk e => ?_, h.2.2⟩
  obtain rfl := Option.some.inj e
  rcases hn with hn | hn
  · exact h.2.1 g hk hn
  · have := (own_blk h.1 g hk).2
    omega
/-- Behind a store into a box that is no row of these. -/
theorem Ap.box {b g : Nat} {r : Option Nat} {w w' : World} (hg : w.grownBy w' (some g)) (hgb : g < b) (e : TypeId) (size : Nat) (v : Value) (n : Nat) (xs : List Value) (h : Ap b r w e size v n xs) : Ap b r w' e size v n xs :=
  ⟨own_kept h.1 fun k hk hlt => hg.block k hlt fun e => by have := (own_blk h.1 k hk).1; injection e with e; omega, h.2⟩
end Go.Proofs.YtipaangiehdgkaaGreatDoor.T9
/-
  The document's own copies of messages, slots and values: Own, Slot, Each.
-/
namespace Go.Proofs.YtipaangiehdgkaaGreatDoor.T9
set_option maxRecDepth 100000

open Go.RowKit

/-! ### A list of one's own that grows -/
abbrev EC (α : Type) := RP → α → List Value → Prop
def Mono {α : Type} (C : EC α) : Prop := ∀ {R R' : RP}, (∀ e size v n xs, R e size v n xs → R' e size v n xs) → ∀ a cs, C R a cs → C R' a cs
theorem mono_m (d : Nat) : Mono fun R => MAt R d := fun h a cs => MAt.imp h d a cs
theorem mono_v (d : Nat) : Mono fun R => VAt R d := fun h a cs => vAt.imp h (fun m cs => MAt.imp h d m cs) a cs
theorem mono_s (d : Nat) : Mono fun R => SAt' R d := fun h a cs => sAt.imp h (fun m cs => MAt.imp h d m cs) a cs
/-- The slice v is a row of one's own, of the list l, and no row below it is this one. -/
structure Grow {α : Type} (C : EC α) (e : TypeId) (size b : Nat) (w : World) (v : Value) (l : List α) (xs : List Value) : Prop where
  own : w.ownsRow b e size v l.length xs
  rows : Rows (C (Ap b v.ownBlock w)) l xs
section

variable {α : Type} {C : EC α} {e : TypeId} {size b : Nat} {w w' : World} {v : Value} {l : List α} {xs : List Value}

theorem Grow.nil (C : EC α) (e : TypeId) (size b : Nat) (w : World) : Grow C e size b w (.slice none 0 0) [] [] := ⟨World.ownsRow_nil _ _ _ _, rfl⟩
theorem Grow.on (hC : Mono C) (h : Grow C e size b w v l xs) (hb : Below w.heap.size w w') : Grow C e size b w' v l xs :=
  ⟨own_hi h.own (hi_below b hb), h.rows.imp (hC (Ap.on hb))⟩
theorem Grow.box (hC : Mono C) (h : Grow C e size b w v l xs) {g : Nat} (hg : w.grownBy w' (some g)) (hgb : g < b) : Grow C e size b w' v l xs :=
  ⟨own_hi h.own (hi_grown hg hgb), h.rows.imp (hC (Ap.box hg hgb))⟩
theorem Grow.less (hC : Mono C) (h : Grow C e size b w v l xs) {b' : Nat} (hb : b' ≤ b) : Grow C e size b' w v l xs :=
  ⟨own_less h.own hb, h.rows.imp (hC fun e size v n xs h => ⟨own_less h.1 hb, h.2⟩)⟩
theorem Grow.lt (h : Grow C e size b w v l xs) (k : Nat) (hk : v.ownBlock = some k) : k < w.heap.size := (own_blk h.own k hk).2
/-- Behind an append of an element whose own rows are newer than all. -/
theorem Grow.app (hC : Mono C) (h : Grow C e size b w v l xs) {a : α} {cs : List Value} {b' : Nat} (hbb : b ≤ b') (hv : ∀ k, v.ownBlock = some k → k < b') (ha : C (Ow b' w) a cs) {g cap : Nat}
    (hrow : w'.ownsRow b e size (.slice (some ⟨g, 0, none⟩) (l.length + 1) cap) (l.length + 1) (xs ++ cs)) (hg : w.grownBy w' v.ownBlock) (hat : v.ownBlock = some g ∨ w.heap.size ≤ g) : Grow C e size b w' (.slice (some ⟨g, 0, none⟩) (l.length + 1) cap) (l ++ [a]) (xs ++ cs) :=
  ⟨by rw [List.length_append]; exact hrow, (h.rows.imp (hC (Ap.grown hg hat))).append (Rows.single (hC (Ap.grown hg hat) _ _ (hC (Ap.of hbb hv) _ _ ha)))⟩
theorem Grow.ow (hC : Mono C) (h : Grow C e size b w v l xs) (hl : l.length ≤ 10000000000000) : LsAt (Ow b w) e size (C (Ow b w)) l v := ⟨xs, ⟨h.own, hl⟩, h.rows.imp (hC Ap.ow)⟩
end

theorem one_msg_ow {b : Nat} {w : World} {d : Nat} {m : Mg} {x : Value} (h : MAt (Ow b w) d m [x]) : ∀ u ∈ [x], u.oneCell' = true := MAt.oneO m [x] h

theorem cell3 {w : World} {g : Nat} {a b c : Value} {t : TypeId} (h : w.heap[g]? = some (.cells #[a, b, c] t (0, 0))) (x : Value) :
    (w.setCell ⟨g, 2, none⟩ x).heap[g]? = some (.cells #[a, b, x] t (0, 0)) ∧ w.grownBy (w.setCell ⟨g, 2, none⟩ x) (some g) :=
  ⟨heap_setCell_same w g 2 #[a, b, c] t x h, rfl, rfl, rfl, by simp, fun k _ hk => heap_setCell_other _ ⟨g, 2, none⟩ k _ (fun e => hk (by simp [e]))⟩
theorem box_far {w w' : World} {g : Nat} {t : TypeId} {cs : Array Value} {fr : Nat × Nat} {v : Value} {b e size n : Nat} {xs : List Value} (X : w.heap[g]? = some (.cells cs t fr)) (hg : w.grownBy w' v.ownBlock) (hown : w.ownsRow b e size v n xs) (hlt : g < b) : w'.heap[g]? = some (.cells cs t fr) :=
  (hg.block g (box_lt X) fun e => by have := (own_blk hown g e.symm).1; omega).trans X
theorem below_row {w w' : World} {v : Value} {b e size n B : Nat} {xs : List Value} (hg : w.grownBy w' v.ownBlock) (hown : w.ownsRow b e size v n xs) (hB : B ≤ b) (hs : B ≤ w.heap.size) : Below B w w' :=
  ⟨hg.os, hg.tape, hg.output, hg.size, fun k hk => hg.block k (by omega) fun e => by have := (own_blk hown k e.symm).1; omega⟩
theorem take_snoc {α : Type} {l : List α} {k : Nat} {a : α} (h : l[k]? = some a) : l.take k ++ [a] = l.take (k + 1) := by rw [List.take_add_one, h]; rfl
theorem cell1 {w : World} {g : Nat} {a : Value} {t : TypeId} (h : w.heap[g]? = some (.cells #[a] t (0, 0))) (x : Value) :
    (w.setCell ⟨g, 0, none⟩ x).heap[g]? = some (.cells #[x] t (0, 0)) ∧ w.grownBy (w.setCell ⟨g, 0, none⟩ x) (some g) :=
  ⟨heap_setCell_same w g 0 #[a] t x h, rfl, rfl, rfl, by simp, fun k _ hk => heap_setCell_other _ ⟨g, 0, none⟩ k _ (fun e => hk (by simp [e]))⟩
end Go.Proofs.YtipaangiehdgkaaGreatDoor.T9
/-
  What texts are made of: blanks, tokens, and all tokens of a text, by plain functions on lists of bytes; and what is plain of them.
-/
namespace Go.Proofs.YtipaangiehdgkaaGreatDoor
set_option maxRecDepth 100000

def isBlank (c : UInt8) : Bool := c == 32 || c == 9 || c == 10 || c == 13
def isDigit (c : UInt8) : Bool := decide (48 ≤ c.toNat) && decide (c.toNat ≤ 57)
def isFirst (c : UInt8) : Bool := decide (97 ≤ c.toNat) && decide (c.toNat ≤ 122) || decide (65 ≤ c.toNat) && decide (c.toNat ≤ 90) || c == 95
def isNext (c : UInt8) : Bool := isFirst c || isDigit c
def isSign (c : UInt8) : Bool := [123, 125, 40, 41, 91, 93, 60, 62, 61, 59, 44, 46].contains c
def isPlain (c : UInt8) : Bool := decide (32 ≤ c.toNat) && decide (c.toNat ≤ 126)

/-- How many first bytes are of a set. -/
def span (f : UInt8 → Bool) : List UInt8 → Nat
  | [] => 0
  | c :: r => if f c then span f r + 1 else 0

/-- How many first bytes are blanks (true: within a comment). -/
def ws : Bool → List UInt8 → Nat
  | _, [] => 0
  | true, c :: r => 1 + ws (c != 10) r
  | false, c :: r => if isBlank c then 1 + ws false r else if c == 47 && r.head? == some 47 then 1 + ws true r else 0

def hexv (c : UInt8) : Option Nat :=
  if isDigit c then some (c.toNat - 48) else if decide (97 ≤ c.toNat) && decide (c.toNat ≤ 102) then some (c.toNat - 87) else none

/-- The byte that is meant, within a string, and how many bytes more mean it. -/
def meant : List UInt8 → Option (UInt8 × Nat)
  | [] => none
  | c :: r =>
    if c == 92 then
      match r with
      | [] => none
      | d :: r2 =>
        if d == 34 || d == 92 then some (d, 1)
        else if d == 110 then some (10, 1)
        else if d == 120 then
          match r2 with
          | h :: k :: _ => match hexv h, hexv k with
            | some a, some b => some (UInt8.ofNat (16 * a + b), 3)
            | _, _ => none
          | _ => none
        else none
    else if isPlain c || decide (128 ≤ c.toNat) then some (c, 0) else none

/-- What a string means, behind so many bytes of a mark, and how many bytes it has, with the sign that ends it. -/
def strB : Nat → List UInt8 → Option (List UInt8 × Nat)
  | _, [] => none
  | k + 1, _ :: r => (strB k r).map fun x => (x.1, x.2 + 1)
  | 0, c :: r =>
    if c == 34 then some ([], 1)
    else match meant (c :: r) with
      | none => none
      | some (b, k) => (strB k r).map fun x => (b :: x.1, x.2 + 1)

/-- What digits spell. -/
def dval (a : Nat) (l : List UInt8) : Nat := l.foldl (fun a c => 10 * a + (c.toNat - 48)) a

/-- The number of digits, with a sign or not. -/
def numOf (itoa : Int → List UInt8) (t : List UInt8) : Option Int :=
  match t with
  | [] => none
  | c :: r =>
    let v : Int := if c = 45 then -(dval 0 r : Int) else (dval 0 (c :: r) : Int)
    if -9223372036854775808 ≤ v ∧ v ≤ 9223372036854775807 ∧ itoa v = t then some v else none

/-- A token: its kind, text, number, and how many bytes it has, but one. -/
structure Tk where
  kind : Nat
  text : List UInt8
  num : Int
  more : Nat

structure T where
  kind : Nat
  text : List UInt8
  num : Int
  at_ : Nat
  deriving Inhabited

def tk (itoa : Int → List UInt8) : List UInt8 → Option Tk
  | [] => none
  | c :: r =>
    if isFirst c then some ⟨0, c :: r.take (span isNext r), 0, span isNext r⟩
    else if isDigit c || c == 45 then (numOf itoa (c :: r.take (span isDigit r))).map fun n => ⟨1, c :: r.take (span isDigit r), n, span isDigit r⟩
    else if c == 34 then (strB 0 r).map fun x => ⟨2, x.1, 0, x.2⟩
    else if isSign c then some ⟨3, [c], 0, 0⟩
    else none

/-- All tokens of what follows, behind so many bytes; and where none begins. -/
def lex (itoa : Int → List UInt8) : Nat → Nat → List UInt8 → List T × Option Nat
  | _, _, [] => ([], none)
  | k + 1, p, _ :: r => lex itoa k (p + 1) r
  | 0, p, c :: r =>
    match ws false (c :: r) with
    | w + 1 => lex itoa w (p + 1) r
    | 0 => match tk itoa (c :: r) with
      | none => ([], some p)
      | some t => (⟨t.kind, t.text, t.num, p⟩ :: (lex itoa t.more (p + 1) r).1, (lex itoa t.more (p + 1) r).2)

def hexd (n : Nat) : UInt8 := [48, 49, 50, 51, 52, 53, 54, 55, 56, 57, 97, 98, 99, 100, 101, 102].getD n 0
/-- What means a byte. -/
def q1 (c : UInt8) : List UInt8 :=
  if c == 34 || c == 92 then [92, c] else if c == 10 then [92, 110] else if isPlain c then [c] else [92, 120, hexd (c.toNat / 16), hexd (c.toNat % 16)]
/-! ### Spans -/

/-! ### Blanks -/

theorem ws_blanks : ∀ (b : List UInt8), (∀ c ∈ b, isBlank c = true) → ∀ s, ws false (b ++ s) = b.length + ws false s
  | [], _, s => by simp
  | c :: b, h, s => by
    have h1 := h c (by simp)
    have h2 := ws_blanks b (fun d hd => h d (by simp [hd])) s
    simp only [List.cons_append, ws, h1, if_true, h2, List.length_cons]
    omega

/-! ### Strings -/

/-! ### Tokens -/

/-! ### All tokens -/

section

variable {it : Int → List UInt8}

theorem lex_skip : ∀ (k p : Nat) (l : List UInt8), lex it k p l = lex it 0 (p + k) (l.drop k)
  | k, p, [] => by cases k <;> simp [lex]
  | 0, p, c :: r => by simp
  | k + 1, p, c :: r => by
    rw [show lex it (k + 1) p (c :: r) = lex it k (p + 1) r by simp [lex], lex_skip k (p + 1) r, List.drop_succ_cons]
    congr 1
    omega
theorem lex_ws (p : Nat) (l : List UInt8) : lex it 0 p l = lex it 0 (p + ws false l) (l.drop (ws false l)) := by
  cases l with
  | nil => simp [lex]
  | cons c r =>
    cases h : ws false (c :: r) with
    | zero => simp
    | succ w =>
      rw [show lex it 0 p (c :: r) = lex it w (p + 1) r by simp [lex, h], lex_skip, List.drop_succ_cons]
      congr 1
      omega
theorem lex_some {l : List UInt8} (h : ws false l = 0) {t : Tk} (hn : tk it l = some t) (p : Nat) :
    lex it 0 p l = (⟨t.kind, t.text, t.num, p⟩ :: (lex it 0 (p + t.more + 1) (l.drop (t.more + 1))).1, (lex it 0 (p + t.more + 1) (l.drop (t.more + 1))).2) := by
  cases l with
  | nil => simp [tk] at hn
  | cons c r =>
    have e : lex it t.more (p + 1) r = lex it 0 (p + t.more + 1) ((c :: r).drop (t.more + 1)) := by
      rw [lex_skip, List.drop_succ_cons]
      congr 1
      omega
    simp [lex, h, hn, e]
end

end Go.Proofs.YtipaangiehdgkaaGreatDoor
