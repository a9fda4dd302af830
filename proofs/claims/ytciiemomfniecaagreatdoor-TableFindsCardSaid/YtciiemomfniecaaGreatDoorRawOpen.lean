/-
  A file that comes in: its rows lie below a place, wherever they begin; what is read of them.
-/
import Derived.Test.YtciiemomfniecaaGreatDoorProPrint
import Derived.Deep.Slices
import Derived.Deep.Strs
namespace Go.Proofs.YtciiemomfniecaaGreatDoor
set_option maxRecDepth 100000

open Go.RowKit

/-- A row that lies below B, wherever it begins. -/
def Rb (B : Nat) (w : World) (v : Value) (n size : Nat) (xs : List Value) : Prop := ∃ A c, v = .slice A n c ∧ Sl w A n c size xs ∧ ∀ ad, A = some ad → 0 < n → ad.block < B
/-- What lies below B is as it was. -/
def Low (B : Nat) (w w' : World) : Prop := w.heap.size ≤ w'.heap.size ∧ ∀ k, k < B → w'.heap[k]? = w.heap[k]?
theorem Low.refl (B : Nat) (w : World) : Low B w w := ⟨Nat.le_refl _, fun _ _ => rfl⟩
theorem Low.trans {B : Nat} {a b c : World} (h : Low B a b) (k : Low B b c) : Low B a c := ⟨Nat.le_trans h.1 k.1, fun i hi => (k.2 i hi).trans (h.2 i hi)⟩
theorem Pr.low {B : Nat} {w w' : World} (h : Pr B w w') : Low B w w' := ⟨h.size, h.block⟩
theorem Low.below {B : Nat} {w w' : World} (h : Below w.heap.size w w') (hB : B ≤ w.heap.size) : Low B w w' := ⟨h.size, fun k hk => h.block k (by omega)⟩
theorem Low.of {B : Nat} {w w' : World} (h : Below B w w') : Low B w w' := ⟨h.size, h.block⟩
theorem Low.alloc {B : Nat} (w : World) (o : Obj) (hB : B ≤ w.heap.size) : Low B w (w.alloc o) := Low.below (below_new w o) hB
theorem Sl.low {B : Nat} {w w' : World} {A : Option Addr} {n c size : Nat} {xs : List Value} (h : Sl w A n c size xs) (hA : ∀ ad, A = some ad → 0 < n → ad.block < B) (hl : Low B w w') : Sl w' A n c size xs := by
  refine ⟨h.len, h.le, h.cap, h.nil, fun ad ha hn => Nat.lt_of_lt_of_le (h.old ad ha hn) hl.1, fun ad ha k u hu => ?_⟩
  have hn : 0 < n := by
    rcases Nat.eq_zero_or_pos n with h0 | h0
    · have := h.len
      rw [h0, Nat.zero_mul] at this
      rw [List.eq_nil_of_length_eq_zero this] at hu
      simp at hu
    · exact h0
  have hk : w'.heap[(ad.add k).block]? = w.heap[(ad.add k).block]? := by rw [add_same_block]; exact hl.2 _ (hA ad ha hn)
  exact (World.cell?_of_block hk).trans (h.cell ad ha k u hu)
theorem Rb.low {B : Nat} {w w' : World} {v : Value} {n size : Nat} {xs : List Value} (h : Rb B w v n size xs) (hl : Low B w w') : Rb B w' v n size xs := by
  obtain ⟨A, c, rfl, h1, h2⟩ := h
  exact ⟨A, c, rfl, h1.low h2 hl, h2⟩
theorem Rb.mono {B B' : Nat} {w : World} {v : Value} {n size : Nat} {xs : List Value} (h : Rb B w v n size xs) (hB : B ≤ B') : Rb B' w v n size xs := by
  obtain ⟨A, c, rfl, h1, h2⟩ := h
  exact ⟨A, c, rfl, h1, fun ad ha hn => Nat.lt_of_lt_of_le (h2 ad ha hn) hB⟩
theorem Rb.of_own {w : World} {b : Nat} {e : TypeId} {v : Value} {n size : Nat} {xs : List Value} (h : w.ownsRow b e size v n xs) : Rb w.heap.size w v n size xs := by
  obtain ⟨A, c, rfl, hs⟩ := Sl.of_own h
  exact ⟨A, c, rfl, hs, fun ad ha hn => hs.old ad ha hn⟩
theorem Rb.one {B : Nat} {w : World} {v : Value} {n size : Nat} {xs : List Value} (h : Rb B w v n size xs) : v.oneCell' = true := by
  obtain ⟨A, c, rfl, _, _⟩ := h
  rfl
/-- Cell j of element k. -/
theorem Sl.elem {w : World} {A : Option Addr} {n c size : Nat} {xs : List Value} (h : Sl w A n c size xs) {k : Nat} (hk : k < n) : ∃ ad, A = some ad ∧ ad.block < w.heap.size ∧ (∀ u, xs[k * size]? = some u → w.cell? (ad.add (k * size)) = some u) ∧
    ∀ j u, 0 < j → xs[k * size + j]? = some u → w.cell? ⟨(ad.add (k * size)).block, (ad.add (k * size)).off + j, none⟩ = some u := by
  obtain ⟨ad, rfl, hb, hcell⟩ := Sl.there h (by omega)
  refine ⟨ad, rfl, hb, fun u hu => hcell _ _ hu, fun j u hj hu => ?_⟩
  have e : (⟨(ad.add (k * size)).block, (ad.add (k * size)).off + j, none⟩ : Addr) = ad.add (k * size + j) := by
    rw [← add_twice]
    cases j with
    | zero => omega
    | succ j => simp [Addr.add]
  rw [e]
  exact hcell _ _ hu

/-! ### Files that come in -/

structure MAt (B : Nat) (w : World) (m : Ms) (vF vO vR : Value) : Prop where
  f : Rb B w vF m.F.length 7 (fdv m.F)
  o : Rb B w vO m.ones.length 1 (strv m.ones)
  r : Rb B w vR m.res.length 1 (intv m.res)
def EAt (B : Nat) (w : World) (e : En) (vV : Value) : Prop := Rb B w vV e.V.length 3 (vlv e.V)
theorem MAt.low {B : Nat} {w w' : World} {m : Ms} {vF vO vR : Value} (h : MAt B w m vF vO vR) (hl : Low B w w') : MAt B w' m vF vO vR := ⟨h.f.low hl, h.o.low hl, h.r.low hl⟩
theorem EAt.low {B : Nat} {w w' : World} {e : En} {vV : Value} (h : EAt B w e vV) (hl : Low B w w') : EAt B w' e vV := Rb.low h hl
theorem MAt.mono {B B' : Nat} {w : World} {m : Ms} {vF vO vR : Value} (h : MAt B w m vF vO vR) (hB : B ≤ B') : MAt B' w m vF vO vR := ⟨h.f.mono hB, h.o.mono hB, h.r.mono hB⟩
theorem EAt.mono {B B' : Nat} {w : World} {e : En} {vV : Value} (h : EAt B w e vV) (hB : B ≤ B') : EAt B' w e vV := Rb.mono h hB
def MsAt (B : Nat) (w : World) : List Ms → List Value → Prop
  | [], xs => xs = []
  | m :: l, xs => ∃ vF vO vR ys, xs = MC m vF vO vR ++ ys ∧ MAt B w m vF vO vR ∧ MsAt B w l ys
def EnAt (B : Nat) (w : World) : List En → List Value → Prop
  | [], xs => xs = []
  | e :: l, xs => ∃ vV ys, xs = EC e vV ++ ys ∧ EAt B w e vV ∧ EnAt B w l ys
theorem MsAt.low {B : Nat} {w w' : World} (hl : Low B w w') : ∀ {l : List Ms} {xs : List Value}, MsAt B w l xs → MsAt B w' l xs
  | [], _, h => h
  | _ :: _, _, ⟨vF, vO, vR, ys, h1, h2, h3⟩ => ⟨vF, vO, vR, ys, h1, h2.low hl, h3.low hl⟩
theorem EnAt.low {B : Nat} {w w' : World} (hl : Low B w w') : ∀ {l : List En} {xs : List Value}, EnAt B w l xs → EnAt B w' l xs
  | [], _, h => h
  | _ :: _, _, ⟨vV, ys, h1, h2, h3⟩ => ⟨vV, ys, h1, h2.low hl, h3.low hl⟩
theorem MsAt.mono {B B' : Nat} {w : World} (hB : B ≤ B') : ∀ {l : List Ms} {xs : List Value}, MsAt B w l xs → MsAt B' w l xs
  | [], _, h => h
  | _ :: _, _, ⟨vF, vO, vR, ys, h1, h2, h3⟩ => ⟨vF, vO, vR, ys, h1, h2.mono hB, h3.mono hB⟩
theorem EnAt.mono {B B' : Nat} {w : World} (hB : B ≤ B') : ∀ {l : List En} {xs : List Value}, EnAt B w l xs → EnAt B' w l xs
  | [], _, h => h
  | _ :: _, _, ⟨vV, ys, h1, h2, h3⟩ => ⟨vV, ys, h1, h2.mono hB, h3.mono hB⟩
theorem MsAt.of_own {w : World} : ∀ {l : List Ms} {xs : List Value}, MsAre w l xs → MsAt w.heap.size w l xs
  | [], _, h => h
  | _ :: _, _, ⟨vF, vO, vR, ys, h1, h2, h3⟩ => ⟨vF, vO, vR, ys, h1, ⟨Rb.of_own h2.f, Rb.of_own h2.o, Rb.of_own h2.r⟩, MsAt.of_own h3⟩
theorem EnAt.of_own {w : World} : ∀ {l : List En} {xs : List Value}, EnAre w l xs → EnAt w.heap.size w l xs
  | [], _, h => h
  | _ :: _, _, ⟨vV, ys, h1, h2, h3⟩ => ⟨vV, ys, h1, Rb.of_own h2, EnAt.of_own h3⟩
/-- A file, as it is read, wherever it lies below B. -/
def FAt (B : Nat) (w : World) (f : Fl) (vM vE : Value) : Prop := ∃ xs ys, Rb B w vM f.M.length 5 xs ∧ MsAt B w f.M xs ∧ Rb B w vE f.E.length 3 ys ∧ EnAt B w f.E ys
theorem FAt.low {B : Nat} {w w' : World} {f : Fl} {vM vE : Value} (h : FAt B w f vM vE) (hl : Low B w w') : FAt B w' f vM vE := by
  obtain ⟨xs, ys, h1, h2, h3, h4⟩ := h
  exact ⟨xs, ys, h1.low hl, h2.low hl, h3.low hl, h4.low hl⟩
theorem FAt.mono {B B' : Nat} {w : World} {f : Fl} {vM vE : Value} (h : FAt B w f vM vE) (hB : B ≤ B') : FAt B' w f vM vE := by
  obtain ⟨xs, ys, h1, h2, h3, h4⟩ := h
  exact ⟨xs, ys, h1.mono hB, h2.mono hB, h3.mono hB, h4.mono hB⟩
theorem FRead.at {w : World} {f : Fl} {vM vE : Value} (h : FRead w f vM vE) : FAt w.heap.size w f vM vE := by
  obtain ⟨xs, ys, h1, h2, h3, h4⟩ := h
  exact ⟨xs, ys, Rb.of_own h1, MsAt.of_own h2, Rb.of_own h3, EnAt.of_own h4⟩

/-! ### What lies at a place -/

theorem fdr_at {w : World} {A : Option Addr} {c : Nat} {l : List Fd} (h : Sl w A l.length c 7 (fdv l)) {k : Nat} {d : Fd} (hk : l[k]? = some d) :
    ∃ ad, A = some ad ∧ ad.block < w.heap.size ∧ w.cell? (ad.add (k * 7)) = some (.string (txt d.type)) ∧ w.cell? ⟨(ad.add (k * 7)).block, (ad.add (k * 7)).off + 1, none⟩ = some (.string (txt d.key)) ∧ w.cell? ⟨(ad.add (k * 7)).block, (ad.add (k * 7)).off + 2, none⟩ = some (.bool d.rep) ∧
      w.cell? ⟨(ad.add (k * 7)).block, (ad.add (k * 7)).off + 3, none⟩ = some (.int .i64 d.one) ∧ w.cell? ⟨(ad.add (k * 7)).block, (ad.add (k * 7)).off + 4, none⟩ = some (.string (txt d.name)) ∧ w.cell? ⟨(ad.add (k * 7)).block, (ad.add (k * 7)).off + 5, none⟩ = some (.int .i64 d.no) ∧ w.cell? ⟨(ad.add (k * 7)).block, (ad.add (k * 7)).off + 6, none⟩ = some (.int .i64 d.at_) := by
  obtain ⟨ad, rfl, hb, h0, hj⟩ := Sl.elem h (List.getElem?_eq_some_iff.1 hk).1
  have hv := fun (j : Nat) (hj : j < 7) => fdv_get l k j d hk hj
  refine ⟨ad, rfl, hb, h0 _ (by have := hv 0 (by omega); rw [Nat.add_zero] at this; rw [this]; rfl), hj 1 _ (by omega) (by rw [hv 1 (by omega)]; rfl), hj 2 _ (by omega) (by rw [hv 2 (by omega)]; rfl), hj 3 _ (by omega) (by rw [hv 3 (by omega)]; rfl), hj 4 _ (by omega) (by rw [hv 4 (by omega)]; rfl), hj 5 _ (by omega) (by rw [hv 5 (by omega)]; rfl), hj 6 _ (by omega) (by rw [hv 6 (by omega)]; rfl)⟩
theorem vlr_at {w : World} {A : Option Addr} {c : Nat} {l : List Vl} (h : Sl w A l.length c 3 (vlv l)) {k : Nat} {d : Vl} (hk : l[k]? = some d) :
    ∃ ad, A = some ad ∧ ad.block < w.heap.size ∧ w.cell? (ad.add (k * 3)) = some (.string (txt d.name)) ∧ w.cell? ⟨(ad.add (k * 3)).block, (ad.add (k * 3)).off + 1, none⟩ = some (.int .i64 d.n) ∧ w.cell? ⟨(ad.add (k * 3)).block, (ad.add (k * 3)).off + 2, none⟩ = some (.int .i64 d.at_) := by
  obtain ⟨ad, rfl, hb, h0, hj⟩ := Sl.elem h (List.getElem?_eq_some_iff.1 hk).1
  have hv := fun (j : Nat) (hj : j < 3) => vlv_get l k j d hk hj
  refine ⟨ad, rfl, hb, h0 _ (by have := hv 0 (by omega); rw [Nat.add_zero] at this; rw [this]; rfl), hj 1 _ (by omega) (by rw [hv 1 (by omega)]; rfl), hj 2 _ (by omega) (by rw [hv 2 (by omega)]; rfl)⟩
theorem intr_at {w : World} {A : Option Addr} {c : Nat} {l : List Int} (h : Sl w A l.length c 1 (intv l)) {k : Nat} {n : Int} (hk : l[k]? = some n) : ∃ ad, A = some ad ∧ ad.block < w.heap.size ∧ w.cell? (ad.add k) = some (.int .i64 n) := by
  obtain ⟨ad, rfl, hb, hc⟩ := Sl.there h (by have := (List.getElem?_eq_some_iff.1 hk).1; omega)
  exact ⟨ad, rfl, hb, hc k _ (by simp [intv, hk])⟩
theorem strr_at {w : World} {A : Option Addr} {c : Nat} {l : List (List UInt8)} (h : Sl w A l.length c 1 (strv l)) {k : Nat} {x : List UInt8} (hk : l[k]? = some x) : ∃ ad, A = some ad ∧ ad.block < w.heap.size ∧ w.cell? (ad.add k) = some (.string (txt x)) := by
  obtain ⟨ad, rfl, hb, hc⟩ := Sl.there h (by have := (List.getElem?_eq_some_iff.1 hk).1; omega)
  exact ⟨ad, rfl, hb, hc k _ (by simp [strv, hk])⟩
theorem msr_list {B : Nat} {w : World} : ∀ {l : List Ms} {xs : List Value}, MsAt B w l xs → ∀ {k : Nat} {m : Ms}, l[k]? = some m → ∃ vF vO vR, MAt B w m vF vO vR ∧ ∀ j, j < 5 → xs[k * 5 + j]? = (MC m vF vO vR)[j]?
  | [], xs, _, k, m, hk => by simp at hk
  | x :: l, xs, ⟨vF, vO, vR, ys, h1, h2, h3⟩, 0, m, hk => by
    obtain rfl : x = m := by simpa using hk
    refine ⟨vF, vO, vR, h2, fun j hj => ?_⟩
    rw [h1, Nat.zero_mul, Nat.zero_add, List.getElem?_append_left (by simp [MC]; omega)]
  | x :: l, xs, ⟨vF, vO, vR, ys, h1, h2, h3⟩, k + 1, m, hk => by
    obtain ⟨a, b, c, h4, h5⟩ := msr_list h3 (k := k) (m := m) (by simpa using hk)
    refine ⟨a, b, c, h4, fun j hj => ?_⟩
    rw [h1, List.getElem?_append_right (by simp [MC]; omega), ← h5 j hj]
    congr 1
    simp [MC]; omega
theorem enr_list {B : Nat} {w : World} : ∀ {l : List En} {xs : List Value}, EnAt B w l xs → ∀ {k : Nat} {m : En}, l[k]? = some m → ∃ vV, EAt B w m vV ∧ ∀ j, j < 3 → xs[k * 3 + j]? = (EC m vV)[j]?
  | [], xs, _, k, m, hk => by simp at hk
  | x :: l, xs, ⟨vV, ys, h1, h2, h3⟩, 0, m, hk => by
    obtain rfl : x = m := by simpa using hk
    refine ⟨vV, h2, fun j hj => ?_⟩
    rw [h1, Nat.zero_mul, Nat.zero_add, List.getElem?_append_left (by simp [EC]; omega)]
  | x :: l, xs, ⟨vV, ys, h1, h2, h3⟩, k + 1, m, hk => by
    obtain ⟨a, h4, h5⟩ := enr_list h3 (k := k) (m := m) (by simpa using hk)
    refine ⟨a, h4, fun j hj => ?_⟩
    rw [h1, List.getElem?_append_right (by simp [EC]; omega), ← h5 j hj]
    congr 1
    simp [EC]; omega
theorem msr_at {B : Nat} {w : World} {A : Option Addr} {c : Nat} {l : List Ms} {xs : List Value} (h : Sl w A l.length c 5 xs) (ha : MsAt B w l xs) {k : Nat} {m : Ms} (hk : l[k]? = some m) :
    ∃ ad vF vO vR, A = some ad ∧ ad.block < w.heap.size ∧ MAt B w m vF vO vR ∧ w.cell? (ad.add (k * 5)) = some (.string (txt m.name)) ∧ w.cell? ⟨(ad.add (k * 5)).block, (ad.add (k * 5)).off + 1, none⟩ = some vF ∧ w.cell? ⟨(ad.add (k * 5)).block, (ad.add (k * 5)).off + 2, none⟩ = some vO ∧
      w.cell? ⟨(ad.add (k * 5)).block, (ad.add (k * 5)).off + 3, none⟩ = some vR ∧ w.cell? ⟨(ad.add (k * 5)).block, (ad.add (k * 5)).off + 4, none⟩ = some (.int .i64 m.at_) := by
  obtain ⟨vF, vO, vR, hr, hx⟩ := msr_list ha hk
  obtain ⟨ad, rfl, hb, h0, hj⟩ := Sl.elem h (List.getElem?_eq_some_iff.1 hk).1
  refine ⟨ad, vF, vO, vR, rfl, hb, hr, h0 _ (by have := hx 0 (by omega); rw [Nat.add_zero] at this; rw [this]; rfl), hj 1 _ (by omega) (by rw [hx 1 (by omega)]; rfl), hj 2 _ (by omega) (by rw [hx 2 (by omega)]; rfl), hj 3 _ (by omega) (by rw [hx 3 (by omega)]; rfl), hj 4 _ (by omega) (by rw [hx 4 (by omega)]; rfl)⟩
theorem enr_at {B : Nat} {w : World} {A : Option Addr} {c : Nat} {l : List En} {xs : List Value} (h : Sl w A l.length c 3 xs) (ha : EnAt B w l xs) {k : Nat} {m : En} (hk : l[k]? = some m) :
    ∃ ad vV, A = some ad ∧ ad.block < w.heap.size ∧ EAt B w m vV ∧ w.cell? (ad.add (k * 3)) = some (.string (txt m.name)) ∧ w.cell? ⟨(ad.add (k * 3)).block, (ad.add (k * 3)).off + 1, none⟩ = some vV ∧ w.cell? ⟨(ad.add (k * 3)).block, (ad.add (k * 3)).off + 2, none⟩ = some (.int .i64 m.at_) := by
  obtain ⟨vV, hr, hx⟩ := enr_list ha hk
  obtain ⟨ad, rfl, hb, h0, hj⟩ := Sl.elem h (List.getElem?_eq_some_iff.1 hk).1
  refine ⟨ad, vV, rfl, hb, hr, h0 _ (by have := hx 0 (by omega); rw [Nat.add_zero] at this; rw [this]; rfl), hj 1 _ (by omega) (by rw [hx 1 (by omega)]; rfl), hj 2 _ (by omega) (by rw [hx 2 (by omega)]; rfl)⟩
end Go.Proofs.YtciiemomfniecaaGreatDoor
/-
  A file as an argument: how it lies there.
-/
namespace Go.Proofs.YtciiemomfniecaaGreatDoor
set_option maxRecDepth 100000

open Go.RowKit Go.ChangeShapes Go.WideShapes Go.ChangeAt

section

variable {H : Type} {enc : TypeId × Value → H} {W : World} {n : Nat}

theorem txt_bytes (s : ByteArray) : s = txt s.data.toList := (txt_of s).symm
/-- A slice whose elements are read one by one. -/
theorem open_rows {α : Type} [Inhabited α] {t e : TypeId} {size : Nat} {v : Value} {x : DataW H × List MemPlace} (ht : Tryz.prog.underlying t = some (.slice e)) (hc : Tryz.prog.cellsOf e = size) (hpos : 0 < size)
    (C : α → List Value → Prop) (hone : ∀ (n : Nat) (cs : List Value) (y : DataW H × List MemPlace), cs.length = size → DataW.trod enc Tryz.prog W 0 (fun _ => true) true n e cs = some y → ∃ a, C a cs)
    (h : DataW.trod enc Tryz.prog W 0 (fun _ => true) true n t [v] = some x) :
    ∃ (A : Option Addr) (c : Nat) (l : List (α × List Value)), v = .slice A l.length c ∧ Sl W A l.length c size (l.flatMap Prod.snd) ∧ (∀ y ∈ l, C y.1 y.2 ∧ y.2.length = size) ∧ (∀ ad, A = some ad → 0 < l.length → ad.block < W.heap.size) := by
  rcases Deep.open_slice ht h with ⟨h0, _⟩ | ⟨a, len, cap, m, k, D, Pl, h0, _, hl, hm, hmm, _, hx⟩
  · have hv : v = .slice none 0 0 := by simpa using h0
    exact ⟨none, 0, [], hv, Sl.nothing W size, by simp, by simp⟩
  · have hv : v = .slice (some a) len cap := by simpa using h0
    subst hv
    have hlm : len ≤ m := by rw [hmm]; split <;> omega
    rw [hc] at hx
    have hy : ∀ i, i < len → ∃ y : α × List Value, C y.1 y.2 ∧ y.2.length = size ∧ W.cells? 0 (a.add (i * size)) size = some y.2 := fun i hi => by
      obtain ⟨cs, h1, h2⟩ := hx i (by omega)
      have hl2 := (World.cells?_some h1).2.1
      obtain ⟨b, hb⟩ := hone k cs _ hl2 h2
      exact ⟨(b, cs), hb, hl2, h1⟩
    obtain ⟨f, hf⟩ := Deep.choose_lt hy
    have hget : ∀ (L : List Nat) (i : Nat), (∀ j ∈ L, j < len) → i < L.length → ∀ q, q < size → ((L.map f).flatMap Prod.snd)[i * size + q]? = (f (L.getD i 0)).2[q]? := by
      intro L
      induction L with
      | nil => intro i _ hi; simp at hi
      | cons j L ih =>
        intro i hL hi q hq
        have hj := (hf j (hL j (by simp))).2.1
        cases i with
        | zero =>
          rw [List.map_cons, List.flatMap_cons, Nat.zero_mul, Nat.zero_add, List.getElem?_append_left (by omega)]
          rfl
        | succ i =>
          rw [List.map_cons, List.flatMap_cons, List.getElem?_append_right (by rw [hj, Nat.succ_mul]; omega), hj, show (i + 1) * size + q - size = i * size + q by rw [Nat.succ_mul]; omega]
          exact ih i (fun x hx => hL x (by simp [hx])) (by simpa using hi) q hq
    have hlen : ∀ (L : List Nat), (∀ j ∈ L, j < len) → ((L.map f).flatMap Prod.snd).length = L.length * size := by
      intro L
      induction L with
      | nil => intro _; simp
      | cons j L ih =>
        intro hL
        have hj := (hf j (hL j (by simp))).2.1
        rw [List.map_cons, List.flatMap_cons, List.length_append, hj, ih (fun x hx => hL x (by simp [hx])), List.length_cons, Nat.succ_mul]
        omega
    have hr : ∀ j ∈ List.range len, j < len := fun j hj => List.mem_range.1 hj
    have hcell : ∀ k u, (((List.range len).map f).flatMap Prod.snd)[k]? = some u → W.cell? (a.add k) = some u := by
      intro k u hu
      have hk : k < len * size := by
        have := (List.getElem?_eq_some_iff.1 hu).1
        rw [hlen _ hr, List.length_range] at this
        exact this
      have hi : k / size < len := (Nat.div_lt_iff_lt_mul hpos).2 hk
      have hq : k % size < size := Nat.mod_lt _ hpos
      have hk2 : k = k / size * size + k % size := by rw [Nat.mul_comm]; exact (Nat.div_add_mod k size).symm
      rw [hk2, hget (List.range len) (k / size) hr (by simpa using hi) _ hq] at hu
      have e : (List.range len).getD (k / size) 0 = k / size := by rw [List.getD_eq_getElem?_getD, List.getElem?_range hi]; rfl
      rw [e] at hu
      have h1 := (World.cells?_some (hf (k / size) hi).2.2).2.2 (k % size) hq
      rw [hu, add_twice, ← hk2] at h1
      exact h1
    refine ⟨some a, cap, (List.range len).map f, by simp, ⟨by rw [hlen _ hr]; simp, by simpa using hl, hm, by simp, fun ad ha hn => ?_, fun ad ha k u hu => ?_⟩, fun y hy => ?_, fun ad ha hn => ?_⟩
    · obtain rfl := Option.some.inj ha
      have h0 : 0 < len := by simpa using hn
      have h1 := (World.cells?_some (hf 0 h0).2.2).2.2 0 hpos
      have h2 := (hf 0 h0).2.1
      rw [List.getElem?_eq_getElem (by omega)] at h1
      have hb := World.block_lt_of_cell? W _ h1
      rwa [add_same_block, add_same_block] at hb
    · obtain rfl := Option.some.inj ha
      exact hcell k u hu
    · obtain ⟨i, hi, rfl⟩ := List.mem_map.1 hy
      have := hf i (hr i hi)
      exact ⟨this.1, this.2.1⟩
    · obtain rfl := Option.some.inj ha
      have h0 : 0 < len := by simpa using hn
      have h1 := (World.cells?_some (hf 0 h0).2.2).2.2 0 hpos
      have h2 := (hf 0 h0).2.1
      rw [List.getElem?_eq_getElem (by omega)] at h1
      have hb := World.block_lt_of_cell? W _ h1
      rwa [add_same_block, add_same_block] at hb
end

end Go.Proofs.YtciiemomfniecaaGreatDoor
