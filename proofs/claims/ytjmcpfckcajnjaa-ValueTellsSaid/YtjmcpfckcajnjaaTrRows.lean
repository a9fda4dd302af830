/-
  Rows that lie below a place, wherever they begin; elements one behind the other.
-/
import Derived.Test.YtjmcpfckcajnjaaTrMath
namespace Go.Proofs.Ytjmcpfckcajnjaa.T9
set_option maxRecDepth 100000

open Go.RowKit

theorem box_cell {w : World} {g : Nat} {cs : Array Value} {t : TypeId} {fr : Nat × Nat} (h : w.heap[g]? = some (.cells cs t fr)) (j : Nat) : w.cell? ⟨g, j, none⟩ = cs[j]? := by simp [World.cell?, h]
theorem box_lt {w : World} {g : Nat} {o : Obj} (h : w.heap[g]? = some o) : g < w.heap.size := (Array.getElem?_eq_some_iff.1 h).1
def tx (l : List UInt8) : ByteArray := ⟨l.toArray⟩
theorem tx_list (l : List UInt8) : (tx l).data.toList = l := by simp [tx]
theorem tx_of (s : ByteArray) : tx s.data.toList = s := by cases s; simp [tx]
theorem tx_inj {a b : List UInt8} (h : tx a = tx b) : a = b := by rw [← tx_list a, ← tx_list b, h]

/-- A row that lies below B, wherever it begins. -/
def Rr (B : Nat) (w : World) (v : Value) (n size : Nat) (xs : List Value) : Prop := ∃ A c, v = .slice A n c ∧ Sl w A n c size xs ∧ ∀ ad, A = some ad → 0 < n → ad.block < B
/-- What lies below B is as it was. -/
def Lo (B : Nat) (w w' : World) : Prop := w.heap.size ≤ w'.heap.size ∧ ∀ k, k < B → w'.heap[k]? = w.heap[k]?
theorem Lo.refl (B : Nat) (w : World) : Lo B w w := ⟨Nat.le_refl _, fun _ _ => rfl⟩
theorem Lo.trans {B : Nat} {a b c : World} (h : Lo B a b) (k : Lo B b c) : Lo B a c := ⟨Nat.le_trans h.1 k.1, fun i hi => (k.2 i hi).trans (h.2 i hi)⟩
theorem Lo.below {B : Nat} {w w' : World} (h : Below w.heap.size w w') (hB : B ≤ w.heap.size) : Lo B w w' := ⟨h.size, fun k hk => h.block k (by omega)⟩
theorem Lo.of {B : Nat} {w w' : World} (h : Below B w w') : Lo B w w' := ⟨h.size, h.block⟩
theorem Lo.alloc {B : Nat} (w : World) (o : Obj) (hB : B ≤ w.heap.size) : Lo B w (w.alloc o) := Lo.below (below_new w o) hB
theorem Lo.mono {B B' : Nat} {w w' : World} (h : Lo B w w') (hB : B' ≤ B) : Lo B' w w' := ⟨h.1, fun k hk => h.2 k (by omega)⟩
theorem sl_low {B : Nat} {w w' : World} {A : Option Addr} {n c size : Nat} {xs : List Value} (h : Sl w A n c size xs) (hA : ∀ ad, A = some ad → 0 < n → ad.block < B) (hl : Lo B w w') : Sl w' A n c size xs := by
  refine ⟨h.len, h.le, h.cap, h.nil, fun ad ha hn => Nat.lt_of_lt_of_le (h.old ad ha hn) hl.1, fun ad ha k u hu => ?_⟩
  have hn : 0 < n := by
    rcases Nat.eq_zero_or_pos n with h0 | h0
    · have := h.len
      rw [h0, Nat.zero_mul] at this
      rw [List.eq_nil_of_length_eq_zero this] at hu
      simp at hu
    · exact h0
  have hk : w'.heap[(ad.add k).block]? = w.heap[(ad.add k).block]? := by rw [add_same_block]; exact hl.2 _ (hA ad ha hn)
  exact (World.cell?_of_block hk).trans (h.cell ad ha k u hu)
theorem Rr.low {B : Nat} {w w' : World} {v : Value} {n size : Nat} {xs : List Value} (h : Rr B w v n size xs) (hl : Lo B w w') : Rr B w' v n size xs := by
  obtain ⟨A, c, rfl, h1, h2⟩ := h
  exact ⟨A, c, rfl, sl_low h1 h2 hl, h2⟩
theorem Rr.mono {B B' : Nat} {w : World} {v : Value} {n size : Nat} {xs : List Value} (h : Rr B w v n size xs) (hB : B ≤ B') : Rr B' w v n size xs := by
  obtain ⟨A, c, rfl, h1, h2⟩ := h
  exact ⟨A, c, rfl, h1, fun ad ha hn => Nat.lt_of_lt_of_le (h2 ad ha hn) hB⟩
theorem Rr.of_own {w : World} {b : Nat} {e : TypeId} {v : Value} {n size : Nat} {xs : List Value} (h : w.ownsRow b e size v n xs) : Rr w.heap.size w v n size xs := by
  obtain ⟨A, c, rfl, hs⟩ := Sl.of_own h
  exact ⟨A, c, rfl, hs, fun ad ha hn => hs.old ad ha hn⟩
theorem Rr.one {B : Nat} {w : World} {v : Value} {n size : Nat} {xs : List Value} (h : Rr B w v n size xs) : v.oneCell' = true := by
  obtain ⟨A, c, rfl, _, _⟩ := h
  rfl
theorem Rr.nil (B : Nat) (w : World) (size : Nat) : Rr B w (.slice none 0 0) 0 size [] := ⟨none, 0, rfl, Sl.nothing w size, by simp⟩
/-- Cell j of element k. -/
theorem sl_elem {w : World} {A : Option Addr} {n c size : Nat} {xs : List Value} (h : Sl w A n c size xs) {k : Nat} (hk : k < n) : ∃ ad, A = some ad ∧ ad.block < w.heap.size ∧ (∀ u, xs[k * size]? = some u → w.cell? (ad.add (k * size)) = some u) ∧
    ∀ j u, 0 < j → xs[k * size + j]? = some u → w.cell? ⟨(ad.add (k * size)).block, (ad.add (k * size)).off + j, none⟩ = some u := by
  obtain ⟨ad, rfl, hb, hcell⟩ := Sl.there h (by omega)
  refine ⟨ad, rfl, hb, fun u hu => hcell _ _ hu, fun j u hj hu => ?_⟩
  have e : (⟨(ad.add (k * size)).block, (ad.add (k * size)).off + j, none⟩ : Addr) = ad.add (k * size + j) := by
    rw [← add_twice]
    cases j with
    | zero => omega
    | succ j => simp [Addr.add]
  rw [e]
  exact hcell _ _ hu

/-! ### Elements one behind the other -/

def Rows {α : Type} (C : α → List Value → Prop) : List α → List Value → Prop
  | [], xs => xs = []
  | a :: l, xs => ∃ cs ys, xs = cs ++ ys ∧ C a cs ∧ Rows C l ys
section

variable {α : Type} {C C' : α → List Value → Prop} {size : Nat}

theorem Rows.imp (h : ∀ a cs, C a cs → C' a cs) : ∀ {l : List α} {xs : List Value}, Rows C l xs → Rows C' l xs
  | [], _, h0 => h0
  | _ :: _, _, ⟨cs, ys, h1, h2, h3⟩ => ⟨cs, ys, h1, h _ _ h2, Rows.imp h h3⟩
theorem Rows.imp_mem : ∀ {l : List α} {xs : List Value}, (∀ a ∈ l, ∀ cs, C a cs → C' a cs) → Rows C l xs → Rows C' l xs
  | [], _, _, h0 => h0
  | _ :: _, _, h, ⟨cs, ys, h1, h2, h3⟩ => ⟨cs, ys, h1, h _ (by simp) _ h2, Rows.imp_mem (fun a ha => h a (by simp [ha])) h3⟩
theorem Rows.append : ∀ {l m : List α} {xs ys : List Value}, Rows C l xs → Rows C m ys → Rows C (l ++ m) (xs ++ ys)
  | [], _, _, _, h0, h => by rw [show _ = [] from h0]; exact h
  | _ :: _, _, _, _, ⟨cs, zs, h1, h2, h3⟩, h => ⟨cs, zs ++ _, by rw [h1, List.append_assoc], h2, Rows.append h3 h⟩
theorem Rows.single {a : α} {cs : List Value} (h : C a cs) : Rows C [a] cs := ⟨cs, [], by simp, h, rfl⟩
theorem Rows.len (hC : ∀ a cs, C a cs → cs.length = size) : ∀ {l : List α} {xs : List Value}, Rows C l xs → xs.length = l.length * size
  | [], _, h0 => by rw [show _ = [] from h0]; simp
  | _ :: l, _, ⟨cs, zs, h1, h2, h3⟩ => by rw [h1, List.length_append, hC _ _ h2, Rows.len hC h3, List.length_cons, Nat.succ_mul]; omega
theorem Rows.get (hC : ∀ a cs, C a cs → cs.length = size) : ∀ {l : List α} {xs : List Value}, Rows C l xs → ∀ {k : Nat} {a : α}, l[k]? = some a → ∃ cs, C a cs ∧ cs.length = size ∧ ∀ j, j < size → xs[k * size + j]? = cs[j]?
  | [], xs, _, k, m, hk => by simp at hk
  | x :: l, xs, ⟨cs, ys, h1, h2, h3⟩, 0, m, hk => by
    obtain rfl : x = m := by simpa using hk
    refine ⟨cs, h2, hC _ _ h2, fun j hj => ?_⟩
    rw [h1, Nat.zero_mul, Nat.zero_add, List.getElem?_append_left (by rw [hC _ _ h2]; exact hj)]
  | x :: l, xs, ⟨cs, ys, h1, h2, h3⟩, k + 1, m, hk => by
    obtain ⟨cs', h4, h4l, h5⟩ := Rows.get hC h3 (k := k) (a := m) (by simpa using hk)
    refine ⟨cs', h4, h4l, fun j hj => ?_⟩
    rw [h1, List.getElem?_append_right (by rw [hC _ _ h2, Nat.succ_mul]; omega), hC _ _ h2, ← h5 j hj]
    congr 1
    rw [Nat.succ_mul]; omega
theorem Rows.one (hC : ∀ a cs, C a cs → ∀ u ∈ cs, u.oneCell' = true) : ∀ {l : List α} {xs : List Value}, Rows C l xs → ∀ u ∈ xs, u.oneCell' = true
  | [], _, h0, u, hu => by rw [show _ = [] from h0] at hu; cases hu
  | _ :: l, _, ⟨cs, zs, h1, h2, h3⟩, u, hu => by
    rw [h1] at hu
    rcases List.mem_append.1 hu with h | h
    · exact hC _ _ h2 u h
    · exact Rows.one hC h3 u h
theorem Rows.take (hC : ∀ a cs, C a cs → cs.length = size) : ∀ {l : List α} {xs : List Value} (n : Nat), Rows C l xs → Rows C (l.take n) (xs.take (n * size))
  | [], _, n, h0 => by rw [show _ = [] from h0]; simp [Rows]
  | _ :: l, _, 0, _ => by simp [Rows]
  | _ :: l, _, n + 1, ⟨cs, zs, h1, h2, h3⟩ => by
    rw [List.take_succ_cons, h1, List.take_append, hC _ _ h2]
    refine ⟨cs, zs.take (n * size), ?_, h2, Rows.take hC n h3⟩
    rw [List.take_of_length_le (by rw [hC _ _ h2, Nat.succ_mul]; omega), show (n + 1) * size - size = n * size by rw [Nat.succ_mul]; omega]
theorem Rows.drop (hC : ∀ a cs, C a cs → cs.length = size) : ∀ {l : List α} {xs : List Value} (n : Nat), Rows C l xs → Rows C (l.drop n) (xs.drop (n * size))
  | [], _, n, h0 => by rw [show _ = [] from h0]; simp [Rows]
  | _ :: l, _, 0, h => by simpa using h
  | _ :: l, _, n + 1, ⟨cs, zs, h1, h2, h3⟩ => by
    have e : cs.drop ((n + 1) * size) = [] := List.drop_of_length_le (by rw [hC _ _ h2, Nat.succ_mul]; omega)
    rw [List.drop_succ_cons, h1, List.drop_append, hC _ _ h2, e, show (n + 1) * size - size = n * size by rw [Nat.succ_mul]; omega, List.nil_append]
    exact Rows.drop hC n h3
theorem Rows.snoc (hC : ∀ a cs, C a cs → cs.length = size) {l : List α} {xs : List Value} {k : Nat} {a : α} {cs : List Value} (h : Rows C (l.take k) xs) (hk : l[k]? = some a) (hc : C a cs) : Rows C (l.take (k + 1)) (xs ++ cs) := by
  rw [List.take_add_one, hk]
  exact h.append (Rows.single hc)
end

/-! ### Trees in memory -/

/-- How a row of elements lies: the type of an element, its cells, the slice's value, how many there are, the cells. -/
abbrev RP := TypeId → Nat → Value → Nat → List Value → Prop
/-- A slice of elements. -/
def LsAt {α : Type} (R : RP) (e : TypeId) (size : Nat) (C : α → List Value → Prop) (l : List α) (u : Value) : Prop := ∃ xs, R e size u l.length xs ∧ Rows C l xs
def vAt (R : RP) (G : Mg → List Value → Prop) (v : Vl') (cs : List Value) : Prop := ∃ u, cs = [.int .i64 v.n, .string (tx v.s), u] ∧ LsAt R 24 1 G v.M u
def sAt (R : RP) (G : Mg → List Value → Prop) (s : So) (cs : List Value) : Prop := ∃ u1 u2, cs = [.int .i64 s.no, u1, u2] ∧ LsAt R 30 3 (vAt R G) s.K u1 ∧ LsAt R 30 3 (vAt R G) s.V u2
def mAt (R : RP) (G : Mg → List Value → Prop) (m : Mg) (cs : List Value) : Prop := ∃ u, cs = [u] ∧ LsAt R 27 3 (sAt R G) m.F u
/-- A message that is read within so many levels. -/
def MAt (R : RP) : Nat → Mg → List Value → Prop
  | 0 => fun _ _ => False
  | d + 1 => mAt R (MAt R d)
theorem LsAt.imp {α : Type} {R R' : RP} {e : TypeId} {size : Nat} {C C' : α → List Value → Prop} {l : List α} {u : Value} (h : LsAt R e size C l u) (hR : ∀ e size v n xs, R e size v n xs → R' e size v n xs) (hC : ∀ a cs, C a cs → C' a cs) : LsAt R' e size C' l u := by
  obtain ⟨xs, h1, h2⟩ := h
  exact ⟨xs, hR _ _ _ _ _ h1, h2.imp hC⟩
theorem vAt.imp {R R' : RP} {G G' : Mg → List Value → Prop} (hR : ∀ e size v n xs, R e size v n xs → R' e size v n xs) (hG : ∀ a cs, G a cs → G' a cs) (v : Vl') (cs : List Value) (h : vAt R G v cs) : vAt R' G' v cs := by
  obtain ⟨u, h1, h2⟩ := h
  exact ⟨u, h1, h2.imp hR hG⟩
theorem sAt.imp {R R' : RP} {G G' : Mg → List Value → Prop} (hR : ∀ e size v n xs, R e size v n xs → R' e size v n xs) (hG : ∀ a cs, G a cs → G' a cs) (s : So) (cs : List Value) (h : sAt R G s cs) : sAt R' G' s cs := by
  obtain ⟨u1, u2, h1, h2, h3⟩ := h
  exact ⟨u1, u2, h1, h2.imp hR (vAt.imp hR hG), h3.imp hR (vAt.imp hR hG)⟩
theorem mAt.imp {R R' : RP} {G G' : Mg → List Value → Prop} (hR : ∀ e size v n xs, R e size v n xs → R' e size v n xs) (hG : ∀ a cs, G a cs → G' a cs) (m : Mg) (cs : List Value) (h : mAt R G m cs) : mAt R' G' m cs := by
  obtain ⟨u, h1, h2⟩ := h
  exact ⟨u, h1, h2.imp hR (sAt.imp hR hG)⟩
theorem MAt.imp {R R' : RP} (hR : ∀ e size v n xs, R e size v n xs → R' e size v n xs) : ∀ (d : Nat) (m : Mg) (cs : List Value), MAt R d m cs → MAt R' d m cs
  | 0, _, _, h => h
  | d + 1, m, cs, h => mAt.imp hR (MAt.imp hR d) m cs h
theorem MAt.step {R : RP} : ∀ (d : Nat) (m : Mg) (cs : List Value), MAt R d m cs → MAt R (d + 1) m cs
  | 0, _, _, h => h.elim
  | d + 1, m, cs, h => mAt.imp (fun _ _ _ _ _ h => h) (MAt.step d) m cs h
theorem MAt.more {R : RP} {d e : Nat} (h : d ≤ e) (m : Mg) (cs : List Value) (hm : MAt R d m cs) : MAt R e m cs := by
  induction e with
  | zero => obtain rfl : d = 0 := by omega
            exact hm
  | succ e ih =>
    by_cases hd : d = e + 1
    · subst hd; exact hm
    · exact MAt.step e m cs (ih (by omega))
abbrev VAt (R : RP) (d : Nat) := vAt R (MAt R d)
abbrev SAt' (R : RP) (d : Nat) := sAt R (MAt R d)
theorem vAt.len {R : RP} {G : Mg → List Value → Prop} (v : Vl') (cs : List Value) (h : vAt R G v cs) : cs.length = 3 := by obtain ⟨u, rfl, _⟩ := h; rfl
theorem sAt.len {R : RP} {G : Mg → List Value → Prop} (s : So) (cs : List Value) (h : sAt R G s cs) : cs.length = 3 := by obtain ⟨u1, u2, rfl, _⟩ := h; rfl
theorem MAt.len {R : RP} : ∀ {d : Nat} (m : Mg) (cs : List Value), MAt R d m cs → cs.length = 1
  | 0, _, _, h => h.elim
  | _ + 1, _, _, ⟨_, h, _⟩ => by rw [h]; rfl
/-- How rows are read: below B, and no longer than what fits any memory. -/
def Rd (B : Nat) (w : World) : RP := fun _ size v n xs => Rr B w v n size xs ∧ n ≤ 10000000000000
/-- Rows of the call's own. -/
def Ow (b : Nat) (w : World) : RP := fun e size v n xs => w.ownsRow b e size v n xs ∧ n ≤ 10000000000000
theorem Rd.low {B : Nat} {w w' : World} (hl : Lo B w w') (e : TypeId) (size : Nat) (v : Value) (n : Nat) (xs : List Value) (h : Rd B w e size v n xs) : Rd B w' e size v n xs := ⟨h.1.low hl, h.2⟩
theorem Rd.mono {B B' : Nat} {w : World} (hB : B ≤ B') (e : TypeId) (size : Nat) (v : Value) (n : Nat) (xs : List Value) (h : Rd B w e size v n xs) : Rd B' w e size v n xs := ⟨h.1.mono hB, h.2⟩
theorem Rd.of_own {b : Nat} {w : World} (e : TypeId) (size : Nat) (v : Value) (n : Nat) (xs : List Value) (h : Ow b w e size v n xs) : Rd w.heap.size w e size v n xs := ⟨Rr.of_own h.1, h.2⟩
theorem Rd.one {B : Nat} {w : World} {e : TypeId} {size : Nat} {v : Value} {n : Nat} {xs : List Value} (h : Rd B w e size v n xs) : v.oneCell' = true := h.1.one
/-- A message that is read below B. -/
abbrev MRd (B : Nat) (w : World) (d : Nat) (m : Mg) (u : Value) : Prop := MAt (Rd B w) d m [u]
theorem vAt.one {B : Nat} {w : World} {G : Mg → List Value → Prop} (v : Vl') (cs : List Value) (h : vAt (Rd B w) G v cs) : ∀ u ∈ cs, u.oneCell' = true := by
  obtain ⟨u, rfl, xs, h1, _⟩ := h
  intro x hx
  simp only [List.mem_cons, List.not_mem_nil, or_false] at hx
  rcases hx with rfl | rfl | rfl
  · rfl
  · rfl
  · exact h1.one
theorem sAt.one {B : Nat} {w : World} {G : Mg → List Value → Prop} (v : So) (cs : List Value) (h : sAt (Rd B w) G v cs) : ∀ u ∈ cs, u.oneCell' = true := by
  obtain ⟨u1, u2, rfl, ⟨xs, h1, _⟩, ys, h2, _⟩ := h
  intro x hx
  simp only [List.mem_cons, List.not_mem_nil, or_false] at hx
  rcases hx with rfl | rfl | rfl
  · rfl
  · exact h1.one
  · exact h2.one
theorem MAt.one {B : Nat} {w : World} : ∀ {d : Nat} (m : Mg) (cs : List Value), MAt (Rd B w) d m cs → ∀ u ∈ cs, u.oneCell' = true
  | 0, _, _, h, _, _ => h.elim
  | d + 1, m, cs, ⟨u, h, xs, h1, _⟩, x, hx => by
    subst h
    obtain rfl : x = u := by simpa using hx
    exact h1.one
theorem LsAt.low {α : Type} {B : Nat} {w w' : World} (hl : Lo B w w') {e : TypeId} {size : Nat} {C C' : α → List Value → Prop} {l : List α} {u : Value} (hC : ∀ a cs, C a cs → C' a cs) (h : LsAt (Rd B w) e size C l u) : LsAt (Rd B w') e size C' l u := h.imp (Rd.low hl) hC
theorem MRd.low {B : Nat} {w w' : World} (hl : Lo B w w') {d : Nat} {m : Mg} {cs : List Value} (h : MAt (Rd B w) d m cs) : MAt (Rd B w') d m cs := MAt.imp (Rd.low hl) d m cs h
theorem VRd.low {B : Nat} {w w' : World} (hl : Lo B w w') {d : Nat} {m : Vl'} {cs : List Value} (h : VAt (Rd B w) d m cs) : VAt (Rd B w') d m cs := vAt.imp (Rd.low hl) (fun _ _ h => MRd.low hl h) m cs h
theorem SRd.low {B : Nat} {w w' : World} (hl : Lo B w w') {d : Nat} {m : So} {cs : List Value} (h : SAt' (Rd B w) d m cs) : SAt' (Rd B w') d m cs := sAt.imp (Rd.low hl) (fun _ _ h => MRd.low hl h) m cs h
theorem MRd.mono {B B' : Nat} {w : World} (hB : B ≤ B') {d : Nat} {m : Mg} {cs : List Value} (h : MAt (Rd B w) d m cs) : MAt (Rd B' w) d m cs := MAt.imp (Rd.mono hB) d m cs h
theorem SRd.mono {B B' : Nat} {w : World} (hB : B ≤ B') {d : Nat} {m : So} {cs : List Value} (h : SAt' (Rd B w) d m cs) : SAt' (Rd B' w) d m cs := sAt.imp (Rd.mono hB) (fun _ _ h => MRd.mono hB h) m cs h
theorem VRd.mono {B B' : Nat} {w : World} (hB : B ≤ B') {d : Nat} {m : Vl'} {cs : List Value} (h : VAt (Rd B w) d m cs) : VAt (Rd B' w) d m cs := vAt.imp (Rd.mono hB) (fun _ _ h => MRd.mono hB h) m cs h
/-- The slice's own value, and what lies at element k. -/
theorem LsAt.open_ {α : Type} {B : Nat} {w : World} {e : TypeId} {size : Nat} {C : α → List Value → Prop} {l : List α} {u : Value} (h : LsAt (Rd B w) e size C l u) : ∃ A c xs, u = .slice A l.length c ∧ Sl w A l.length c size xs ∧ (∀ ad, A = some ad → 0 < l.length → ad.block < B) ∧ Rows C l xs ∧ l.length ≤ 10000000000000 := by
  obtain ⟨xs, ⟨⟨A, c, rfl, h1, h2⟩, h3⟩, h4⟩ := h
  exact ⟨A, c, xs, rfl, h1, h2, h4, h3⟩
theorem row3 {α : Type} {w : World} {A : Option Addr} {c : Nat} {C : α → List Value → Prop} {l : List α} {xs : List Value} (hC : ∀ a cs, C a cs → cs.length = 3) (hs : Sl w A l.length c 3 xs) (hr : Rows C l xs) {k : Nat} {a : α} (hk : l[k]? = some a) :
    ∃ ad x y z, A = some ad ∧ ad.block < w.heap.size ∧ C a [x, y, z] ∧ w.cell? (ad.add (k * 3)) = some x ∧ w.cell? ⟨(ad.add (k * 3)).block, (ad.add (k * 3)).off + 1, none⟩ = some y ∧ w.cell? ⟨(ad.add (k * 3)).block, (ad.add (k * 3)).off + 2, none⟩ = some z := by
  obtain ⟨cs, hcs, hlen, hx⟩ := hr.get hC hk
  match cs, hlen with
  | [x, y, z], _ =>
    obtain ⟨ad, rfl, hb, h0, hj⟩ := sl_elem hs (List.getElem?_eq_some_iff.1 hk).1
    exact ⟨ad, x, y, z, rfl, hb, hcs, h0 _ (by have := hx 0 (by omega); rw [Nat.add_zero] at this; rw [this]; rfl), hj 1 _ (by omega) (by rw [hx 1 (by omega)]; rfl), hj 2 _ (by omega) (by rw [hx 2 (by omega)]; rfl)⟩
theorem row1 {α : Type} {w : World} {A : Option Addr} {c : Nat} {C : α → List Value → Prop} {l : List α} {xs : List Value} (hC : ∀ a cs, C a cs → cs.length = 1) (hs : Sl w A l.length c 1 xs) (hr : Rows C l xs) {k : Nat} {a : α} (hk : l[k]? = some a) :
    ∃ ad x, A = some ad ∧ ad.block < w.heap.size ∧ C a [x] ∧ w.cell? (ad.add k) = some x := by
  obtain ⟨cs, hcs, hlen, hx⟩ := hr.get hC hk
  match cs, hlen with
  | [x], _ =>
    obtain ⟨ad, rfl, hb, h0, hj⟩ := sl_elem hs (List.getElem?_eq_some_iff.1 hk).1
    exact ⟨ad, x, rfl, hb, hcs, by have := h0 x (by have := hx 0 (by omega); rw [Nat.add_zero] at this; rw [this]; rfl); rwa [Nat.mul_one] at this⟩
end Go.Proofs.Ytjmcpfckcajnjaa.T9
