/-
  A file as an argument: how it is read.
-/
import Derived.Test.YtipaangiehdgkaaGreatDoorRawOpen
import Derived.Test.YtipaangiehdgkaaGreatDoorTabKit
import Derived.Test.YtipaangiehdgkaaGreatDoorConvSmall
import Derived.Deep.RegionHeld3
import Derived.Great.BuildSlice
namespace Go.Proofs.YtipaangiehdgkaaGreatDoor
set_option maxRecDepth 100000

open Go.RowKit Go.ChangeShapes Go.WideShapes Go.ChangeAt

structure FdIn (d : Fd) : Prop where
  type : d.type.length ≤ maxLen
  key : d.key.length ≤ maxLen
  name : d.name.length ≤ maxLen
  one : inr d.one
  no : inr d.no
  at_ : inr d.at_
structure VlIn (d : Vl) : Prop where
  name : d.name.length ≤ maxLen
  n : inr d.n
  at_ : inr d.at_
structure MsIn (m : Ms) : Prop where
  name : m.name.length ≤ maxLen
  F : ∀ d ∈ m.F, FdIn d
  ones : ∀ x ∈ m.ones, x.length ≤ maxLen
  res : ∀ n ∈ m.res, inr n
  at_ : inr m.at_
structure EnIn (e : En) : Prop where
  name : e.name.length ≤ maxLen
  V : ∀ v ∈ e.V, VlIn v
  at_ : inr e.at_
structure FlIn (f : Fl) : Prop where
  M : ∀ m ∈ f.M, MsIn m
  E : ∀ e ∈ f.E, EnIn e
instance : Inhabited Fd := ⟨⟨[], [], false, 0, [], 0, 0⟩⟩
instance : Inhabited Vl := ⟨⟨[], 0, 0⟩⟩
instance : Inhabited Ms := ⟨⟨[], [], [], [], 0⟩⟩
instance : Inhabited En := ⟨⟨[], [], 0⟩⟩
section

variable {H : Type} {enc : TypeId × Value → H} {W : World} {n : Nat}

end

end Go.Proofs.YtipaangiehdgkaaGreatDoor
/-
  A schema as an argument, or as what is told: how it lies there, and how it is read.
-/
namespace Go.Proofs.YtipaangiehdgkaaGreatDoor
set_option maxRecDepth 100000

open Go.RowKit Go.ChangeShapes Go.WideShapes Go.ChangeAt

def DC (d : Df) : List Value := [.int .i64 d.no, .string (txt d.name), .int .i64 d.kind, .int .i64 d.ref, .bool d.rep, .int .i64 d.key, .int .i64 d.one]
def dfv (l : List Df) : List Value := l.flatMap DC
def MDC (m : Md) (vF : Value) : List Value := [.string (txt m.name), vF]
def EDC (e : Ed) (vV vN : Value) : List Value := [.string (txt e.name), vV, vN]
theorem dfv_get : ∀ (l : List Df) (k j : Nat) (d : Df), l[k]? = some d → j < 7 → (dfv l)[k * 7 + j]? = (DC d)[j]?
  | [], k, j, r, h, _ => by simp at h
  | x :: l, 0, j, r, h, hj => by
    obtain rfl : x = r := by simpa using h
    rw [show dfv (x :: l) = DC x ++ dfv l by simp [dfv], Nat.zero_mul, Nat.zero_add, List.getElem?_append_left (by simp [DC]; omega)]
  | x :: l, k + 1, j, r, h, hj => by
    rw [show dfv (x :: l) = DC x ++ dfv l by simp [dfv], List.getElem?_append_right (by simp [DC]; omega)]
    rw [show (k + 1) * 7 + j - (DC x).length = k * 7 + j by simp [DC]; omega]
    exact dfv_get l k j r (by simpa using h) hj
def MdsAt (B : Nat) (w : World) : List Md → List Value → Prop
  | [], xs => xs = []
  | m :: l, xs => ∃ vF ys, xs = MDC m vF ++ ys ∧ Rb B w vF m.F.length 7 (dfv m.F) ∧ MdsAt B w l ys
def EdsAt (B : Nat) (w : World) : List Ed → List Value → Prop
  | [], xs => xs = []
  | e :: l, xs => ∃ vV vN ys, xs = EDC e vV vN ++ ys ∧ Rb B w vV e.V.length 1 (strv e.V) ∧ Rb B w vN e.N.length 1 (intv e.N) ∧ EdsAt B w l ys
theorem MdsAt.low {B : Nat} {w w' : World} (hl : Low B w w') : ∀ {l : List Md} {xs : List Value}, MdsAt B w l xs → MdsAt B w' l xs
  | [], _, h => h
  | _ :: _, _, ⟨vF, ys, h1, h2, h3⟩ => ⟨vF, ys, h1, h2.low hl, h3.low hl⟩
theorem EdsAt.low {B : Nat} {w w' : World} (hl : Low B w w') : ∀ {l : List Ed} {xs : List Value}, EdsAt B w l xs → EdsAt B w' l xs
  | [], _, h => h
  | _ :: _, _, ⟨vV, vN, ys, h1, h2, h3, h4⟩ => ⟨vV, vN, ys, h1, h2.low hl, h3.low hl, h4.low hl⟩
theorem MdsAt.mono {B B' : Nat} {w : World} (hB : B ≤ B') : ∀ {l : List Md} {xs : List Value}, MdsAt B w l xs → MdsAt B' w l xs
  | [], _, h => h
  | _ :: _, _, ⟨vF, ys, h1, h2, h3⟩ => ⟨vF, ys, h1, h2.mono hB, h3.mono hB⟩
theorem EdsAt.mono {B B' : Nat} {w : World} (hB : B ≤ B') : ∀ {l : List Ed} {xs : List Value}, EdsAt B w l xs → EdsAt B' w l xs
  | [], _, h => h
  | _ :: _, _, ⟨vV, vN, ys, h1, h2, h3, h4⟩ => ⟨vV, vN, ys, h1, h2.mono hB, h3.mono hB, h4.mono hB⟩
/-- A schema, wherever it lies below B. -/
def SAt (B : Nat) (w : World) (s : Sc) (vM vE : Value) : Prop := ∃ xs ys, Rb B w vM s.M.length 2 xs ∧ MdsAt B w s.M xs ∧ Rb B w vE s.E.length 3 ys ∧ EdsAt B w s.E ys
theorem SAt.low {B : Nat} {w w' : World} {s : Sc} {vM vE : Value} (h : SAt B w s vM vE) (hl : Low B w w') : SAt B w' s vM vE := by
  obtain ⟨xs, ys, h1, h2, h3, h4⟩ := h
  exact ⟨xs, ys, h1.low hl, h2.low hl, h3.low hl, h4.low hl⟩
theorem SAt.mono {B B' : Nat} {w : World} {s : Sc} {vM vE : Value} (h : SAt B w s vM vE) (hB : B ≤ B') : SAt B' w s vM vE := by
  obtain ⟨xs, ys, h1, h2, h3, h4⟩ := h
  exact ⟨xs, ys, h1.mono hB, h2.mono hB, h3.mono hB, h4.mono hB⟩
theorem SAt.nothing (B : Nat) (w : World) : SAt B w ⟨[], []⟩ (.slice none 0 0) (.slice none 0 0) := ⟨[], [], ⟨none, 0, rfl, Sl.nothing _ _, by simp⟩, rfl, ⟨none, 0, rfl, Sl.nothing _ _, by simp⟩, rfl⟩
structure DfIn (d : Df) : Prop where
  no : inr d.no
  name : d.name.length ≤ maxLen
  kind : inr d.kind
  ref : inr d.ref
  key : inr d.key
  one : inr d.one
structure MdIn (m : Md) : Prop where
  name : m.name.length ≤ maxLen
  F : ∀ d ∈ m.F, DfIn d
structure EdIn (e : Ed) : Prop where
  name : e.name.length ≤ maxLen
  V : ∀ x ∈ e.V, x.length ≤ maxLen
  N : ∀ n ∈ e.N, inr n
structure ScIn (s : Sc) : Prop where
  M : ∀ m ∈ s.M, MdIn m
  E : ∀ e ∈ s.E, EdIn e
instance : Inhabited Df := ⟨⟨0, [], 0, 0, false, 0, 0⟩⟩
instance : Inhabited Md := ⟨⟨[], []⟩⟩
instance : Inhabited Ed := ⟨⟨[], [], []⟩⟩

/-! ### What lies at a place -/

theorem dfr_at {w : World} {A : Option Addr} {c : Nat} {l : List Df} (h : Sl w A l.length c 7 (dfv l)) {k : Nat} {d : Df} (hk : l[k]? = some d) :
    ∃ ad, A = some ad ∧ ad.block < w.heap.size ∧ w.cell? (ad.add (k * 7)) = some (.int .i64 d.no) ∧ w.cell? ⟨(ad.add (k * 7)).block, (ad.add (k * 7)).off + 1, none⟩ = some (.string (txt d.name)) ∧ w.cell? ⟨(ad.add (k * 7)).block, (ad.add (k * 7)).off + 2, none⟩ = some (.int .i64 d.kind) ∧
      w.cell? ⟨(ad.add (k * 7)).block, (ad.add (k * 7)).off + 3, none⟩ = some (.int .i64 d.ref) ∧ w.cell? ⟨(ad.add (k * 7)).block, (ad.add (k * 7)).off + 4, none⟩ = some (.bool d.rep) ∧ w.cell? ⟨(ad.add (k * 7)).block, (ad.add (k * 7)).off + 5, none⟩ = some (.int .i64 d.key) ∧ w.cell? ⟨(ad.add (k * 7)).block, (ad.add (k * 7)).off + 6, none⟩ = some (.int .i64 d.one) := by
  obtain ⟨ad, rfl, hb, h0, hj⟩ := Sl.elem h (List.getElem?_eq_some_iff.1 hk).1
  have hv := fun (j : Nat) (hj : j < 7) => dfv_get l k j d hk hj
  refine ⟨ad, rfl, hb, h0 _ (by have := hv 0 (by omega); rw [Nat.add_zero] at this; rw [this]; rfl), hj 1 _ (by omega) (by rw [hv 1 (by omega)]; rfl), hj 2 _ (by omega) (by rw [hv 2 (by omega)]; rfl), hj 3 _ (by omega) (by rw [hv 3 (by omega)]; rfl), hj 4 _ (by omega) (by rw [hv 4 (by omega)]; rfl), hj 5 _ (by omega) (by rw [hv 5 (by omega)]; rfl), hj 6 _ (by omega) (by rw [hv 6 (by omega)]; rfl)⟩
theorem mdr_list {B : Nat} {w : World} : ∀ {l : List Md} {xs : List Value}, MdsAt B w l xs → ∀ {k : Nat} {m : Md}, l[k]? = some m → ∃ vF, Rb B w vF m.F.length 7 (dfv m.F) ∧ ∀ j, j < 2 → xs[k * 2 + j]? = (MDC m vF)[j]?
  | [], xs, _, k, m, hk => by simp at hk
  | x :: l, xs, ⟨vF, ys, h1, h2, h3⟩, 0, m, hk => by
    obtain rfl : x = m := by simpa using hk
    refine ⟨vF, h2, fun j hj => ?_⟩
    rw [h1, Nat.zero_mul, Nat.zero_add, List.getElem?_append_left (by simp [MDC]; omega)]
  | x :: l, xs, ⟨vF, ys, h1, h2, h3⟩, k + 1, m, hk => by
    obtain ⟨a, h4, h5⟩ := mdr_list h3 (k := k) (m := m) (by simpa using hk)
    refine ⟨a, h4, fun j hj => ?_⟩
    rw [h1, List.getElem?_append_right (by simp [MDC]; omega), ← h5 j hj]
    congr 1
    simp [MDC]; omega
theorem edr_list {B : Nat} {w : World} : ∀ {l : List Ed} {xs : List Value}, EdsAt B w l xs → ∀ {k : Nat} {m : Ed}, l[k]? = some m → ∃ vV vN, Rb B w vV m.V.length 1 (strv m.V) ∧ Rb B w vN m.N.length 1 (intv m.N) ∧ ∀ j, j < 3 → xs[k * 3 + j]? = (EDC m vV vN)[j]?
  | [], xs, _, k, m, hk => by simp at hk
  | x :: l, xs, ⟨vV, vN, ys, h1, h2, h2', h3⟩, 0, m, hk => by
    obtain rfl : x = m := by simpa using hk
    refine ⟨vV, vN, h2, h2', fun j hj => ?_⟩
    rw [h1, Nat.zero_mul, Nat.zero_add, List.getElem?_append_left (by simp [EDC]; omega)]
  | x :: l, xs, ⟨vV, vN, ys, h1, h2, h2', h3⟩, k + 1, m, hk => by
    obtain ⟨a, b, h4, h4', h5⟩ := edr_list h3 (k := k) (m := m) (by simpa using hk)
    refine ⟨a, b, h4, h4', fun j hj => ?_⟩
    rw [h1, List.getElem?_append_right (by simp [EDC]; omega), ← h5 j hj]
    congr 1
    simp [EDC]; omega
theorem mdr_at {B : Nat} {w : World} {A : Option Addr} {c : Nat} {l : List Md} {xs : List Value} (h : Sl w A l.length c 2 xs) (ha : MdsAt B w l xs) {k : Nat} {m : Md} (hk : l[k]? = some m) :
    ∃ ad vF, A = some ad ∧ ad.block < w.heap.size ∧ Rb B w vF m.F.length 7 (dfv m.F) ∧ w.cell? (ad.add (k * 2)) = some (.string (txt m.name)) ∧ w.cell? ⟨(ad.add (k * 2)).block, (ad.add (k * 2)).off + 1, none⟩ = some vF := by
  obtain ⟨vF, hr, hx⟩ := mdr_list ha hk
  obtain ⟨ad, rfl, hb, h0, hj⟩ := Sl.elem h (List.getElem?_eq_some_iff.1 hk).1
  exact ⟨ad, vF, rfl, hb, hr, h0 _ (by have := hx 0 (by omega); rw [Nat.add_zero] at this; rw [this]; rfl), hj 1 _ (by omega) (by rw [hx 1 (by omega)]; rfl)⟩
theorem edr_at {B : Nat} {w : World} {A : Option Addr} {c : Nat} {l : List Ed} {xs : List Value} (h : Sl w A l.length c 3 xs) (ha : EdsAt B w l xs) {k : Nat} {m : Ed} (hk : l[k]? = some m) :
    ∃ ad vV vN, A = some ad ∧ ad.block < w.heap.size ∧ Rb B w vV m.V.length 1 (strv m.V) ∧ Rb B w vN m.N.length 1 (intv m.N) ∧ w.cell? (ad.add (k * 3)) = some (.string (txt m.name)) ∧ w.cell? ⟨(ad.add (k * 3)).block, (ad.add (k * 3)).off + 1, none⟩ = some vV ∧ w.cell? ⟨(ad.add (k * 3)).block, (ad.add (k * 3)).off + 2, none⟩ = some vN := by
  obtain ⟨vV, vN, hr, hr', hx⟩ := edr_list ha hk
  obtain ⟨ad, rfl, hb, h0, hj⟩ := Sl.elem h (List.getElem?_eq_some_iff.1 hk).1
  exact ⟨ad, vV, vN, rfl, hb, hr, hr', h0 _ (by have := hx 0 (by omega); rw [Nat.add_zero] at this; rw [this]; rfl), hj 1 _ (by omega) (by rw [hx 1 (by omega)]; rfl), hj 2 _ (by omega) (by rw [hx 2 (by omega)]; rfl)⟩

/-! ### A schema that comes in -/

section

variable {H : Type} {enc : TypeId × Value → H} {W : World} {n : Nat}

end

end Go.Proofs.YtipaangiehdgkaaGreatDoor
/-
  Sets of names, and numbers, that may still be taken: the contracts of the functions that make them, take one, or drop some.
-/
namespace Go.Proofs.YtipaangiehdgkaaGreatDoor
set_option maxRecDepth 100000

open Go.RowKit Go.Maps

abbrev FreeS (w : World) (b n : Nat) (p : List UInt8 → Bool) : Prop := Free 9 kS w b n p
abbrev FreeI (w : World) (b n : Nat) (p : Int → Bool) : Prop := Free 2 kI w b n p
theorem zero_unit (w : World) : (zeroValue 175).run Tryz.prog w = .ok (.agg #[]) w := by kernel_rfl

set_option maxHeartbeats 1000000 in
theorem takeS_any (b n : Nat) (p : List UInt8 → Bool) (x : List UInt8) (hx : x.length ≤ maxLen) (w : World) (h : FreeS w b n p) :
    Calls Tryz.prog 86 #[.map (some b), .string (txt x)] w fun e w' => e = .returned (.bool (p x)) ∧ FreeS w' b n (fun y => p y && decide (y ≠ x)) ∧ w.grownBy w' (some b) := by
  go_enter Tryz.func86, Tryz.ntmps86
  go_wp2_with (first
    | (at_lookup; refine wpList_free_look rfl _ _ 138 175 rfl kS_law Tryz.underlying138 (zero_unit _) b n p rfl h _ x rfl (kS_key hx) ?_)
    | (at_delete; refine wpList_free_del rfl _ _ 138 175 rfl kS_law Tryz.underlying138 kS_inj b n p rfl (h.alloc _) _ x rfl (kS_key hx) ?_; intro w1 h1 hg1))
  go_ret
  exact ⟨rfl, h1, (World.grownBy_alloc w _ _).trans hg1⟩
set_option maxHeartbeats 1000000 in
theorem takeI_any (b n : Nat) (p : Int → Bool) (x : Int) (hx : inr x) (w : World) (h : FreeI w b n p) :
    Calls Tryz.prog 165 #[.map (some b), .int .i64 x] w fun e w' => e = .returned (.bool (p x)) ∧ FreeI w' b n (fun y => p y && decide (y ≠ x)) ∧ w.grownBy w' (some b) := by
  go_enter Tryz.func165, Tryz.ntmps165
  go_wp2_with (first
    | (at_lookup; refine wpList_free_look rfl _ _ 214 175 rfl kI_law Tryz.underlying214 (zero_unit _) b n p rfl h _ x rfl (kI_key hx) ?_)
    | (at_delete; refine wpList_free_del rfl _ _ 214 175 rfl kI_law Tryz.underlying214 kI_inj b n p rfl (h.alloc _) _ x rfl (kI_key hx) ?_; intro w1 h1 hg1))
  go_ret
  exact ⟨rfl, h1, (World.grownBy_alloc w _ _).trans hg1⟩

end Go.Proofs.YtipaangiehdgkaaGreatDoor
/-
  Some are dropped: the contracts.
-/
namespace Go.Proofs.YtipaangiehdgkaaGreatDoor
set_option maxRecDepth 100000

open Go.RowKit Go.Maps

/-! ### Some are dropped -/

theorem drop_next {α : Type} [DecidableEq α] [BEq α] [LawfulBEq α] {p : α → Bool} {l : List α} {k : Nat} {x : α} (h : l[k]? = some x) : (fun y => (p y && !(l.take k).contains y) && decide (y ≠ x)) = fun y => p y && !(l.take (k + 1)).contains y := by
  funext y
  rw [List.take_add_one, h]
  by_cases hy : y = x
  · subst hy; simp
  · simp [hy]
theorem Sl.kept {w w' : World} {A : Option Addr} {n c size : Nat} {xs : List Value} {B b : Nat} (h : Sl w A n c size xs) (hA : ∀ ad, A = some ad → 0 < n → ad.block < B) (hB : B ≤ b) (hg : w.grownBy w' (some b)) : Sl w' A n c size xs := by
  refine ⟨h.len, h.le, h.cap, h.nil, fun ad ha hn => Nat.lt_of_lt_of_le (h.old ad ha hn) hg.size, fun ad ha k u hu => ?_⟩
  have hn : 0 < n := by
    rcases Nat.eq_zero_or_pos n with h0 | h0
    · have := h.len
      rw [h0, Nat.zero_mul] at this
      rw [List.eq_nil_of_length_eq_zero this] at hu
      simp at hu
    · exact h0
  have hk : w'.heap[(ad.add k).block]? = w.heap[(ad.add k).block]? := by
    rw [add_same_block]
    refine hg.block _ (h.old ad ha hn) (fun e => ?_)
    have := hA ad ha hn
    injection e with e
    omega
  exact (World.cell?_of_block hk).trans (h.cell ad ha k u hu)
theorem Rb.kept {w w' : World} {v : Value} {n size : Nat} {xs : List Value} {B b : Nat} (h : Rb B w v n size xs) (hB : B ≤ b) (hg : w.grownBy w' (some b)) : Rb B w' v n size xs := by
  obtain ⟨A, c, rfl, h1, h2⟩ := h
  exact ⟨A, c, rfl, h1.kept h2 hB hg, h2⟩
end Go.Proofs.YtipaangiehdgkaaGreatDoor
/-
  Sets that are made of lists: the contracts.
-/
namespace Go.Proofs.YtipaangiehdgkaaGreatDoor
set_option maxRecDepth 100000

open Go.RowKit Go.Maps

/-- Lists of names, one slice each, below B. -/
def LsS (B : Nat) (w : World) (ls : List (List (List UInt8))) (vs : List Value) : Prop := ∀ (k : Nat) l, ls[k]? = some l → ∃ A c, vs[k]? = some (Value.slice A l.length c) ∧ Sl w A l.length c 1 (strv l) ∧ ∀ ad, A = some ad → 0 < l.length → ad.block < B
def LsI (B : Nat) (w : World) (ls : List (List Int)) (vs : List Value) : Prop := ∀ (k : Nat) l, ls[k]? = some l → ∃ A c, vs[k]? = some (Value.slice A l.length c) ∧ Sl w A l.length c 1 (intv l) ∧ ∀ ad, A = some ad → 0 < l.length → ad.block < B
theorem put_next {α : Type} [DecidableEq α] [BEq α] [LawfulBEq α] {p : α → Bool} {l : List α} {k : Nat} {x : α} (h : l[k]? = some x) : (fun y => (p y || (l.take k).contains y) || decide (y = x)) = fun y => p y || (l.take (k + 1)).contains y := by
  funext y
  rw [List.take_add_one, h]
  by_cases hy : y = x
  · subst hy; simp
  · simp [hy]
theorem flat_next {α : Type} [BEq α] [LawfulBEq α] {ls : List (List α)} {k : Nat} {l : List α} (h : ls[k]? = some l) : (fun y => (ls.take k).flatten.contains y || l.contains y) = fun y => (ls.take (k + 1)).flatten.contains y := by
  funext y
  rw [List.take_add_one, h]
  simp
theorem flats_len {α : Type} {ls : List (List α)} {k : Nat} {l : List α} (h : ls[k]? = some l) : (ls.take (k + 1)).flatten.length = (ls.take k).flatten.length + l.length := by
  rw [List.take_add_one, h]
  simp
theorem flats_le {α : Type} (ls : List (List α)) (k : Nat) : (ls.take k).flatten.length ≤ ls.flatten.length := by
  conv => rhs; rw [← List.take_append_drop k ls, List.flatten_append, List.length_append]
  omega
set_option maxRecDepth 1000000 in
set_option maxHeartbeats 2000000 in
theorem freeOfS_any (A : Option Addr) (c : Nat) (ls : List (List (List UInt8))) (vs : List Value) (w : World) (hs : Sl w A ls.length c 1 vs) (hv : LsS w.heap.size w ls vs) (hn : ls.flatten.length ≤ 100000) (hx : ∀ l ∈ ls, ∀ x ∈ l, x.length ≤ maxLen) (hl : ls.length ≤ 1000) :
    Calls Tryz.prog 130 #[.slice A ls.length c] w fun e w' => e = .returned (.map (some w.heap.size)) ∧ FreeS w' w.heap.size ls.flatten.length (fun y => ls.flatten.contains y) ∧ Below w.heap.size w w' := by
  have HS := Lib.hid hs
  have HV := Lib.hid hv
  have HX := Lib.hid hx
  have HLE := Lib.hid (flats_le ls)
  clear hs hv hx
  have hmm := @run_makeMap Tryz.prog
  go_enter Tryz.func130, Tryz.ntmps130
  go_wp2
  go_loopw [11] (fun i wr => ∃ k : Nat, i = .int .i64 k ∧ k ≤ ls.length ∧ FreeS wr w.heap.size (ls.take k).flatten.length (fun y => (ls.take k).flatten.contains y) ∧ Below w.heap.size w wr) (fun i _ => ls.length - (intOf i).toNat)
  case atStart => exact ⟨0, rfl, by omega, Free.made w, below_new w _⟩
  case round =>
    obtain ⟨k, rfl, hk, hm, hb⟩ := hrel
    by_cases hlt : k < ls.length
    · obtain ⟨l, hl0⟩ : ∃ l, ls[k]? = some l := ⟨_, List.getElem?_eq_getElem hlt⟩
      obtain ⟨Al, cl, hvk, hsl, hAl⟩ := HV.out k l hl0
      obtain ⟨ad, rfl, hab, hc⟩ := Sl.there (HS.out.on hb) (by omega)
      have hck := hc k _ hvk
      have HN := Lib.hid (flat_next hl0)
      have HLN := Lib.hid (flats_len hl0)
      have HXl := Lib.hid (HX.out l (List.mem_of_getElem? hl0))
      have HSL := Lib.hid hsl
      have hll : (ls.take k).flatten.length + l.length ≤ 100000 := by
        have h1 := HLN.out
        have h2 := HLE.out (k + 1)
        omega
      generalize (ls.take k).flatten = F at *
      clear hvk hc hsl hl0
      go_wp2
      go_loopw [17] (fun i wy => ∃ j : Nat, i = .int .i64 j ∧ j ≤ l.length ∧ FreeS wy w.heap.size (F.length + j) (fun y => F.contains y || (l.take j).contains y) ∧ Below w.heap.size w wy) (fun i _ => l.length - (intOf i).toNat)
      case atStart => exact ⟨0, rfl, by omega, hm.eq (by funext y; simp), hb⟩
      case round =>
        obtain ⟨j, rfl, hj, hm, hb⟩ := hrel
        by_cases hlt2 : j < l.length
        · obtain ⟨x, hx⟩ : ∃ x, l[j]? = some x := ⟨_, List.getElem?_eq_getElem hlt2⟩
          obtain ⟨ad2, rfl, hab2, hc2⟩ := strr_at (HSL.out.on hb) hx
          have hxl := HXl.out x (List.mem_of_getElem? hx)
          have HP := Lib.hid (put_next (p := fun y => F.contains y) hx)
          clear hx
          go_wp2_with (at_mapUpdate; refine wpList_free_put rfl _ _ _ 138 175 rfl kS_law Tryz.underlying138 kS_inj kS_lit w.heap.size _ _ rfl hm (by omega) _ x rfl rfl (kS_key hxl) ?_; intro w3 h3 hg3)
          exact ⟨⟨j + 1, by go_num, by omega, h3.eq HP.out, hb.grown hg3 hb.size (fun q hq => by injection hq with hq; omega)⟩, by simp [intOf]; omega⟩
        · obtain rfl : j = l.length := by omega
          rw [List.take_length] at hm
          go_wp2
          exact ⟨⟨k + 1, by go_num, by omega, by rw [HLN.out]; exact hm.eq HN.out, hb⟩, by simp [intOf]; omega⟩
    · obtain rfl : k = ls.length := by omega
      rw [List.take_length] at hm
      go_wp2
      go_ret
      exact ⟨rfl, hm, hb⟩
set_option maxRecDepth 1000000 in
set_option maxHeartbeats 2000000 in
theorem freeOfI_any (A : Option Addr) (c : Nat) (ls : List (List Int)) (vs : List Value) (w : World) (hs : Sl w A ls.length c 1 vs) (hv : LsI w.heap.size w ls vs) (hn : ls.flatten.length ≤ 100000) (hx : ∀ l ∈ ls, ∀ x ∈ l, inr x) (hl : ls.length ≤ 1000) :
    Calls Tryz.prog 164 #[.slice A ls.length c] w fun e w' => e = .returned (.map (some w.heap.size)) ∧ FreeI w' w.heap.size ls.flatten.length (fun y => ls.flatten.contains y) ∧ Below w.heap.size w w' := by
  have HS := Lib.hid hs
  have HV := Lib.hid hv
  have HX := Lib.hid hx
  have HLE := Lib.hid (flats_le ls)
  clear hs hv hx
  have hmm := @run_makeMap Tryz.prog
  go_enter Tryz.func164, Tryz.ntmps164
  go_wp2
  go_loopw [11] (fun i wr => ∃ k : Nat, i = .int .i64 k ∧ k ≤ ls.length ∧ FreeI wr w.heap.size (ls.take k).flatten.length (fun y => (ls.take k).flatten.contains y) ∧ Below w.heap.size w wr) (fun i _ => ls.length - (intOf i).toNat)
  case atStart => exact ⟨0, rfl, by omega, Free.made w, below_new w _⟩
  case round =>
    obtain ⟨k, rfl, hk, hm, hb⟩ := hrel
    by_cases hlt : k < ls.length
    · obtain ⟨l, hl0⟩ : ∃ l, ls[k]? = some l := ⟨_, List.getElem?_eq_getElem hlt⟩
      obtain ⟨Al, cl, hvk, hsl, hAl⟩ := HV.out k l hl0
      obtain ⟨ad, rfl, hab, hc⟩ := Sl.there (HS.out.on hb) (by omega)
      have hck := hc k _ hvk
      have HN := Lib.hid (flat_next hl0)
      have HLN := Lib.hid (flats_len hl0)
      have HXl := Lib.hid (HX.out l (List.mem_of_getElem? hl0))
      have HSL := Lib.hid hsl
      have hll : (ls.take k).flatten.length + l.length ≤ 100000 := by
        have h1 := HLN.out
        have h2 := HLE.out (k + 1)
        omega
      generalize (ls.take k).flatten = F at *
      clear hvk hc hsl hl0
      go_wp2
      go_loopw [17] (fun i wy => ∃ j : Nat, i = .int .i64 j ∧ j ≤ l.length ∧ FreeI wy w.heap.size (F.length + j) (fun y => F.contains y || (l.take j).contains y) ∧ Below w.heap.size w wy) (fun i _ => l.length - (intOf i).toNat)
      case atStart => exact ⟨0, rfl, by omega, hm.eq (by funext y; simp), hb⟩
      case round =>
        obtain ⟨j, rfl, hj, hm, hb⟩ := hrel
        by_cases hlt2 : j < l.length
        · obtain ⟨x, hx⟩ : ∃ x, l[j]? = some x := ⟨_, List.getElem?_eq_getElem hlt2⟩
          obtain ⟨ad2, rfl, hab2, hc2⟩ := intr_at (HSL.out.on hb) hx
          have hxl := HXl.out x (List.mem_of_getElem? hx)
          have HP := Lib.hid (put_next (p := fun y => F.contains y) hx)
          clear hx
          go_wp2_with (at_mapUpdate; refine wpList_free_put rfl _ _ _ 214 175 rfl kI_law Tryz.underlying214 kI_inj kI_lit w.heap.size _ _ rfl hm (by omega) _ x rfl rfl (kI_key hxl) ?_; intro w3 h3 hg3)
          exact ⟨⟨j + 1, by go_num, by omega, h3.eq HP.out, hb.grown hg3 hb.size (fun q hq => by injection hq with hq; omega)⟩, by simp [intOf]; omega⟩
        · obtain rfl : j = l.length := by omega
          rw [List.take_length] at hm
          go_wp2
          exact ⟨⟨k + 1, by go_num, by omega, by rw [HLN.out]; exact hm.eq HN.out, hb⟩, by simp [intOf]; omega⟩
    · obtain rfl : k = ls.length := by omega
      rw [List.take_length] at hm
      go_wp2
      go_ret
      exact ⟨rfl, hm, hb⟩
theorem drop_nextP {p : List UInt8 → Bool} {k : Nat} {q : List UInt8 × Nat} (h : plainsL[k]? = some q) : (fun y => (p y && !((plainsL.map (·.1)).take k).contains y) && decide (y ≠ q.1)) = fun y => p y && !((plainsL.map (·.1)).take (k + 1)).contains y :=
  drop_next (l := plainsL.map (·.1)) (by rw [List.getElem?_map, h]; rfl)
theorem plain_short {k : Nat} {q : List UInt8 × Nat} (h : plainsL[k]? = some q) : q.1.length ≤ maxLen := by
  have : ∀ q ∈ plainsL, q.1.length ≤ 8 := by decide
  have := this q (List.mem_of_getElem? h)
  unfold maxLen
  omega
set_option maxRecDepth 1000000 in
set_option maxHeartbeats 2000000 in
theorem typeNames_any (v1 v2 : Value) (l1 l2 : List (List UInt8)) (w : World) (T : Tabs w) (h1 : Rb w.heap.size w v1 l1.length 1 (strv l1)) (h2 : Rb w.heap.size w v2 l2.length 1 (strv l2)) (hn : l1.length + l2.length ≤ 100000) (hx : ∀ x ∈ l1 ++ l2, x.length ≤ maxLen) :
    Calls Tryz.prog 81 #[v1, v2] w fun e w' => ∃ b, e = .returned (.map (some b)) ∧ w.heap.size ≤ b ∧ FreeS w' b (l1.length + l2.length) (stillT (l1 ++ l2) 0) ∧ Below w.heap.size w w' := by
  obtain ⟨A1, c1, rfl, s1, a1⟩ := h1
  obtain ⟨A2, c2, rfl, s2, a2⟩ := h2
  have hbw := below_new w (.cells #[.slice A1 l1.length c1, .slice A2 l2.length c2] 96)
  have hF := freeOfS_any (some ⟨w.heap.size, 0, none⟩) 2 [l1, l2] [.slice A1 l1.length c1, .slice A2 l2.length c2] (w.alloc (.cells #[.slice A1 l1.length c1, .slice A2 l2.length c2] 96)) (Sl.new w [.slice A1 l1.length c1, .slice A2 l2.length c2] _ (by unfold maxLen; simp)) (by
    intro k l hk
    match k, hk with
    | 0, hk =>
      obtain rfl : l1 = l := by simpa using hk
      exact ⟨A1, c1, rfl, s1.on hbw, fun ad ha hp => Nat.lt_of_lt_of_le (a1 ad ha hp) hbw.size⟩
    | 1, hk =>
      obtain rfl : l2 = l := by simpa using hk
      exact ⟨A2, c2, rfl, s2.on hbw, fun ad ha hp => Nat.lt_of_lt_of_le (a2 ad ha hp) hbw.size⟩
    | k + 2, hk => simp at hk) (by simpa using hn) (by
    intro l hl x hxl
    refine hx x (List.mem_append.2 ?_)
    rcases List.mem_cons.1 hl with rfl | hl
    · exact .inl hxl
    · obtain rfl : l = l2 := by simpa using hl
      exact .inr hxl) (by simp)
  have HF := Lib.hid hF
  have HST := Lib.hid (still_start (l1 ++ l2) (plainsL.map (·.1)))
  clear hF s1 s2 a1 a2 hx
  have HBW := Lib.hid hbw
  have HT := Lib.hid (T.on hbw)
  clear hbw T
  go_enter Tryz.func81, Tryz.ntmps81
  go_wp2_with (first
    | (go_at_call 130; refine HF.out.mono ?_; rintro e w2 ⟨rfl, hm2, hb2⟩; obtain ⟨tt, fr, hT⟩ := (HT.out.on hb2).plains)
    | (refine wpList_load_row rfl 174 _ rfl 0 rfl tt _ fr _ hT Tryz.underlying174 rfl (by kernel_rfl) ?_))
  have hbb : Below w.heap.size w w2 := HBW.out.trans (hb2.mono HBW.out.size)
  have hm3 : FreeS w2 (w.heap.size + 1) (l1.length + l2.length) (fun y => (l1 ++ l2).contains y) := by
    have e : (w.alloc (.cells #[.slice A1 l1.length c1, .slice A2 l2.length c2] 96)).heap.size = w.heap.size + 1 := by simp
    rw [e] at hm2
    have e2 : [l1, l2].flatten = l1 ++ l2 := by simp
    rw [e2] at hm2
    exact hm2.mono (by simp)
  clear hm2 hb2 hT
  go_loopw [13] (fun i wr => ∃ k : Nat, i = .int .i64 k ∧ k ≤ 8 ∧ FreeS wr (w.heap.size + 1) (l1.length + l2.length) (fun y => (l1 ++ l2).contains y && !((plainsL.map (·.1)).take k).contains y) ∧ Below w.heap.size w wr) (fun i _ => 8 - (intOf i).toNat)
  case atStart => exact ⟨0, rfl, by omega, hm3.eq (by funext y; simp), hbb⟩
  case round =>
    obtain ⟨k, rfl, hk, hm, hb⟩ := hrel
    by_cases hlt : k < 8
    · obtain ⟨q, hq⟩ : ∃ q, plainsL[k]? = some q := ⟨_, List.getElem?_eq_getElem hlt⟩
      have hi := index_plain wr hq
      have hql := plain_short hq
      have HN := Lib.hid (drop_nextP (p := fun y => (l1 ++ l2).contains y) hq)
      clear hq
      go_wp2_with (at_delete; refine wpList_free_del rfl _ _ 138 175 rfl kS_law Tryz.underlying138 kS_inj (w.heap.size + 1) _ _ rfl (hm.alloc _) _ q.1 rfl (kS_key hql) ?_; intro w3 h3 hg3)
      exact ⟨⟨k + 1, by go_num, by omega, h3.eq HN.out, (below_lit hb _).grown hg3 (by have := hb.size; simp; omega) (fun j hj => by injection hj with hj; omega)⟩, by simp [intOf]; omega⟩
    · obtain rfl : k = 8 := by omega
      go_wp2
      go_ret
      refine ⟨w.heap.size + 1, rfl, by omega, hm.eq ?_, hb⟩
      unfold stillT
      rw [HST.out]
      rfl
end Go.Proofs.YtipaangiehdgkaaGreatDoor
/-
  What is told of each element of a list: the contracts of the nine instances of one function.
-/
namespace Go.Proofs.YtipaangiehdgkaaGreatDoor
set_option maxRecDepth 100000

open Go.RowKit

theorem strv_next {α : Type} (g : α → List UInt8) {l : List α} {k : Nat} {x : α} (h : l[k]? = some x) : strv ((l.take k).map g) ++ [.string (txt (g x))] = strv ((l.take (k + 1)).map g) := by
  rw [List.take_add_one, h]; simp [strv]
theorem clo_eachMd_any (m : Md) (a1 : Option Addr) (n1 k1 : Nat) (w : World) : Calls Tryz.prog 83 #[.agg #[.string (txt m.name), .slice a1 n1 k1]] w fun e w' => e = .returned (.string (txt m.name)) ∧ w' = w.alloc (.cells #[.string (txt m.name), .slice a1 n1 k1] 66) := by
  go_enter Tryz.func83, Tryz.ntmps83
  go_wp2
  go_ret
  exact ⟨rfl, rfl⟩
set_option maxRecDepth 1000000 in
set_option maxHeartbeats 2000000 in
theorem eachMd_any (B : Nat) (v : Value) (xs : List Value) (l : List Md) (hl : l.length ≤ 100000) (w : World) (hB : B ≤ w.heap.size) (hr : Rb B w v l.length 2 xs) (ha : MdsAt B w l xs) :
    Calls Tryz.prog 82 #[v, .func (.func 83) #[] #[]] w fun e w' => ∃ v', e = .returned v' ∧ w'.ownsRow w.heap.size 9 1 v' l.length (strv (l.map (·.name))) ∧ Below w.heap.size w w' := by
  obtain ⟨A, c, rfl, hs, hA⟩ := hr
  obtain ⟨i0, hi, hz0, hz1, hz2⟩ := info_parts infoStrs
  have HS := Lib.hid hs
  have HA := Lib.hid ha
  clear hs ha
  go_enter Tryz.func82, Tryz.ntmps82
  go_wp2_with (at_make; refine wpList_make_own _ rfl _ _ 96 rfl w.heap.size 9 i0 _ 1 Tryz.underlying96 hi hz0 hz1 _ _ _ l.length rfl rfl rfl (by rw [hz2]; omega) (by unfold maxLen; omega) (Nat.le_refl _) ?_; intro w1 hown1 hg1)
  have hb1 : Below w.heap.size w w1 := (Below.refl w.heap.size w).grown hg1 (Nat.le_refl _) (fun k hk => by cases hk)
  go_loopw [5, 13] (fun o i wr => ∃ k : Nat, i = .int .i64 k ∧ k ≤ l.length ∧ wr.ownsRow w.heap.size 9 1 o k (strv ((l.take k).map (·.name))) ∧ Below w.heap.size w wr) (fun _ i _ => l.length - (intOf i).toNat)
  case atStart => exact ⟨0, rfl, by omega, hown1, hb1⟩
  case round =>
    obtain ⟨k, rfl, hk, hown, hb⟩ := hrel
    by_cases hlt : k < l.length
    · obtain ⟨m, hm⟩ : ∃ m, l[k]? = some m := ⟨_, List.getElem?_eq_getElem hlt⟩
      obtain ⟨ad, vF, rfl, _, hmr, c0, c1⟩ := mdr_at (HS.out.low hA (Low.below hb hB)) (HA.out.low (Low.below hb hB)) hm
      obtain ⟨_, _, rfl, -, -⟩ := hmr
      have HN := Lib.hid (strv_next (·.name) hm)
      clear hm
      go_wp2_with (first
        | (at_builtin; refine wpList_app1 rfl _ _ 96 rfl w.heap.size 9 i0 _ 16 Tryz.underlying96 hi hz0 hz1 hz2 rfl _ k _ rfl (((hown.alloc _).alloc _).alloc _) _ 1 (.string (txt m.name)) rfl (World.cell?_alloc_at _ _ _ _ (by simp)) rfl (by unfold maxLen; omega) (by omega) (by have := hb.size; simp; omega) ?_; intro v3 w3 hown3 hg3)
        | (go_at_call 83; refine (clo_eachMd_any m _ _ _ _).mono ?_; rintro e w2 ⟨rfl, rfl⟩))
      rw [HN.out] at hown3
      exact ⟨⟨k + 1, by go_num, by omega, hown3, (below_lit (below_lit (below_lit hb _) _) _).grown hg3 (by have := hb.size; simp; omega) (own_ge hown)⟩, by simp [intOf]; omega⟩
    · obtain rfl : k = l.length := by omega
      rw [List.take_length] at hown
      go_wp2
      go_ret
      exact ⟨_, rfl, hown, hb⟩
theorem clo_eachEd_any (m : Ed) (a1 : Option Addr) (n1 k1 : Nat) (a2 : Option Addr) (n2 k2 : Nat) (w : World) : Calls Tryz.prog 85 #[.agg #[.string (txt m.name), .slice a1 n1 k1, .slice a2 n2 k2]] w fun e w' => e = .returned (.string (txt m.name)) ∧ w' = w.alloc (.cells #[.string (txt m.name), .slice a1 n1 k1, .slice a2 n2 k2] 98) := by
  go_enter Tryz.func85, Tryz.ntmps85
  go_wp2
  go_ret
  exact ⟨rfl, rfl⟩
set_option maxRecDepth 1000000 in
set_option maxHeartbeats 2000000 in
theorem eachEd_any (B : Nat) (v : Value) (xs : List Value) (l : List Ed) (hl : l.length ≤ 100000) (w : World) (hB : B ≤ w.heap.size) (hr : Rb B w v l.length 3 xs) (ha : EdsAt B w l xs) :
    Calls Tryz.prog 84 #[v, .func (.func 85) #[] #[]] w fun e w' => ∃ v', e = .returned v' ∧ w'.ownsRow w.heap.size 9 1 v' l.length (strv (l.map (·.name))) ∧ Below w.heap.size w w' := by
  obtain ⟨A, c, rfl, hs, hA⟩ := hr
  obtain ⟨i0, hi, hz0, hz1, hz2⟩ := info_parts infoStrs
  have HS := Lib.hid hs
  have HA := Lib.hid ha
  clear hs ha
  go_enter Tryz.func84, Tryz.ntmps84
  go_wp2_with (at_make; refine wpList_make_own _ rfl _ _ 96 rfl w.heap.size 9 i0 _ 1 Tryz.underlying96 hi hz0 hz1 _ _ _ l.length rfl rfl rfl (by rw [hz2]; omega) (by unfold maxLen; omega) (Nat.le_refl _) ?_; intro w1 hown1 hg1)
  have hb1 : Below w.heap.size w w1 := (Below.refl w.heap.size w).grown hg1 (Nat.le_refl _) (fun k hk => by cases hk)
  go_loopw [5, 13] (fun o i wr => ∃ k : Nat, i = .int .i64 k ∧ k ≤ l.length ∧ wr.ownsRow w.heap.size 9 1 o k (strv ((l.take k).map (·.name))) ∧ Below w.heap.size w wr) (fun _ i _ => l.length - (intOf i).toNat)
  case atStart => exact ⟨0, rfl, by omega, hown1, hb1⟩
  case round =>
    obtain ⟨k, rfl, hk, hown, hb⟩ := hrel
    by_cases hlt : k < l.length
    · obtain ⟨m, hm⟩ : ∃ m, l[k]? = some m := ⟨_, List.getElem?_eq_getElem hlt⟩
      obtain ⟨ad, vV, vN, rfl, _, hmr, hms, c0, c1, c2⟩ := edr_at (HS.out.low hA (Low.below hb hB)) (HA.out.low (Low.below hb hB)) hm
      obtain ⟨_, _, rfl, -, -⟩ := hmr
      obtain ⟨_, _, rfl, -, -⟩ := hms
      have HN := Lib.hid (strv_next (·.name) hm)
      clear hm
      go_wp2_with (first
        | (at_builtin; refine wpList_app1 rfl _ _ 96 rfl w.heap.size 9 i0 _ 16 Tryz.underlying96 hi hz0 hz1 hz2 rfl _ k _ rfl (((hown.alloc _).alloc _).alloc _) _ 1 (.string (txt m.name)) rfl (World.cell?_alloc_at _ _ _ _ (by simp)) rfl (by unfold maxLen; omega) (by omega) (by have := hb.size; simp; omega) ?_; intro v3 w3 hown3 hg3)
        | (go_at_call 85; refine (clo_eachEd_any m _ _ _ _ _ _ _).mono ?_; rintro e w2 ⟨rfl, rfl⟩))
      rw [HN.out] at hown3
      exact ⟨⟨k + 1, by go_num, by omega, hown3, (below_lit (below_lit (below_lit hb _) _) _).grown hg3 (by have := hb.size; simp; omega) (own_ge hown)⟩, by simp [intOf]; omega⟩
    · obtain rfl : k = l.length := by omega
      rw [List.take_length] at hown
      go_wp2
      go_ret
      exact ⟨_, rfl, hown, hb⟩
theorem clo_eachDf_any (m : Df) (w : World) : Calls Tryz.prog 132 #[.agg #[.int .i64 m.no, .string (txt m.name), .int .i64 m.kind, .int .i64 m.ref, .bool m.rep, .int .i64 m.key, .int .i64 m.one]] w fun e w' => e = .returned (.string (txt m.name)) ∧ w' = w.alloc (.cells #[.int .i64 m.no, .string (txt m.name), .int .i64 m.kind, .int .i64 m.ref, .bool m.rep, .int .i64 m.key, .int .i64 m.one] 53) := by
  go_enter Tryz.func132, Tryz.ntmps132
  go_wp2
  go_ret
  exact ⟨rfl, rfl⟩
set_option maxRecDepth 1000000 in
set_option maxHeartbeats 2000000 in
theorem eachDf_any (B : Nat) (v : Value) (l : List Df) (hl : l.length ≤ 100000) (w : World) (hB : B ≤ w.heap.size) (hr : Rb B w v l.length 7 (dfv l)) :
    Calls Tryz.prog 131 #[v, .func (.func 132) #[] #[]] w fun e w' => ∃ v', e = .returned v' ∧ w'.ownsRow w.heap.size 9 1 v' l.length (strv (l.map (·.name))) ∧ Below w.heap.size w w' := by
  obtain ⟨A, c, rfl, hs, hA⟩ := hr
  obtain ⟨i0, hi, hz0, hz1, hz2⟩ := info_parts infoStrs
  have HS := Lib.hid hs
  clear hs
  go_enter Tryz.func131, Tryz.ntmps131
  go_wp2_with (at_make; refine wpList_make_own _ rfl _ _ 96 rfl w.heap.size 9 i0 _ 1 Tryz.underlying96 hi hz0 hz1 _ _ _ l.length rfl rfl rfl (by rw [hz2]; omega) (by unfold maxLen; omega) (Nat.le_refl _) ?_; intro w1 hown1 hg1)
  have hb1 : Below w.heap.size w w1 := (Below.refl w.heap.size w).grown hg1 (Nat.le_refl _) (fun k hk => by cases hk)
  go_loopw [5, 13] (fun o i wr => ∃ k : Nat, i = .int .i64 k ∧ k ≤ l.length ∧ wr.ownsRow w.heap.size 9 1 o k (strv ((l.take k).map (·.name))) ∧ Below w.heap.size w wr) (fun _ i _ => l.length - (intOf i).toNat)
  case atStart => exact ⟨0, rfl, by omega, hown1, hb1⟩
  case round =>
    obtain ⟨k, rfl, hk, hown, hb⟩ := hrel
    by_cases hlt : k < l.length
    · obtain ⟨m, hm⟩ : ∃ m, l[k]? = some m := ⟨_, List.getElem?_eq_getElem hlt⟩
      obtain ⟨ad, rfl, _, c0, c1, c2, c3, c4, c5, c6⟩ := dfr_at (HS.out.low hA (Low.below hb hB)) hm
      have HN := Lib.hid (strv_next (·.name) hm)
      clear hm
      go_wp2_with (first
        | (at_builtin; refine wpList_app1 rfl _ _ 96 rfl w.heap.size 9 i0 _ 16 Tryz.underlying96 hi hz0 hz1 hz2 rfl _ k _ rfl (((hown.alloc _).alloc _).alloc _) _ 1 (.string (txt m.name)) rfl (World.cell?_alloc_at _ _ _ _ (by simp)) rfl (by unfold maxLen; omega) (by omega) (by have := hb.size; simp; omega) ?_; intro v3 w3 hown3 hg3)
        | (go_at_call 132; refine (clo_eachDf_any m _).mono ?_; rintro e w2 ⟨rfl, rfl⟩))
      rw [HN.out] at hown3
      exact ⟨⟨k + 1, by go_num, by omega, hown3, (below_lit (below_lit (below_lit hb _) _) _).grown hg3 (by have := hb.size; simp; omega) (own_ge hown)⟩, by simp [intOf]; omega⟩
    · obtain rfl : k = l.length := by omega
      rw [List.take_length] at hown
      go_wp2
      go_ret
      exact ⟨_, rfl, hown, hb⟩
end Go.Proofs.YtipaangiehdgkaaGreatDoor
/-
  What is wrong with a message, or an enum, ahead of all that stands in it: the contract.
-/
namespace Go.Proofs.YtipaangiehdgkaaGreatDoor
set_option maxRecDepth 100000

open Go.RowKit Go.Maps

theorem box_kept {w w' : World} {g b : Nat} {o : Obj} (h : w.heap[g]? = some o) (hg : w.grownBy w' (some b)) (hne : g ≠ b) : w'.heap[g]? = some o :=
  (hg.block g (Array.getElem?_eq_some_iff.1 h).1 (fun e => hne (by injection e))).trans h
theorem box2 {w : World} {g : Nat} {a b : Value} {t : TypeId} (h : w.heap[g]? = some (.cells #[a, b] t (0, 0))) : w.heap[g]? = some (.cells #[a, b] t (0, 0)) ∧ w.cell? ⟨g, 0, none⟩ = some a ∧ w.cell? ⟨g, 1, none⟩ = some b :=
  ⟨h, by rw [heap_cell h 0]; rfl, by rw [heap_cell h 1]; rfl⟩
theorem box2_below {w w' : World} {g : Nat} {a b : Value} {t : TypeId} (hb : Below w.heap.size w w') (h : w.heap[g]? = some (.cells #[a, b] t (0, 0)) ∧ w.cell? ⟨g, 0, none⟩ = some a ∧ w.cell? ⟨g, 1, none⟩ = some b) : w'.heap[g]? = some (.cells #[a, b] t (0, 0)) ∧ w'.cell? ⟨g, 0, none⟩ = some a ∧ w'.cell? ⟨g, 1, none⟩ = some b :=
  box2 ((hb.block g (Array.getElem?_eq_some_iff.1 h.1).1).trans h.1)
theorem stillT_next {l : List (List UInt8)} {k : Nat} {x : List UInt8} (h : l[k]? = some x) : (fun y => stillT l k y && decide (y ≠ x)) = stillT l (k + 1) := still_next h
end Go.Proofs.YtipaangiehdgkaaGreatDoor
/-
  What names mean as types: a map of pairs, its laws, and the contract of the function that makes it.
-/
namespace Go.Proofs.YtipaangiehdgkaaGreatDoor
set_option maxRecDepth 100000

open Go.RowKit Go.WideMaps Go.Maps

def mnD (r : Int × Int) : DataW Unit := .agg [.lit (.int .i64 r.1), .lit (.int .i64 r.2)]
/-- How a pair of numbers reads. -/
def mnElem : Value → Option (DataW Unit × List MemPlace)
  | .agg cs => match cs.toList with
    | [.int .i64 a, .int .i64 b] => some (mnD (a, b), [])
    | _ => none
  | _ => none
/-- Block b is a map of names; it tells f of them. -/
def Mean (w : World) (b n : Nat) (f : List UInt8 → Option (Int × Int)) : Prop := ∃ D : DataW Unit, w.ownsMap Tryz.prog 9 mnElem b n D ∧ ∀ x, has D (kS x) = (f x).isSome ∧ ∀ r, f x = some r → D.atKey (kS x) (mnD (0, 0)) = mnD r
theorem Mean.made (w : World) : Mean (w.alloc (.map #[] 0)) w.heap.size 0 (fun _ => none) := ⟨.map [], World.ownsMap_made w _ _ _, fun _ => ⟨rfl, fun _ h => by cases h⟩⟩
theorem Mean.mono {w : World} {b n n' : Nat} {f : List UInt8 → Option (Int × Int)} (h : Mean w b n f) (hn : n ≤ n') : Mean w b n' f := by
  obtain ⟨D, h1, h2⟩ := h
  exact ⟨D, h1.mono hn, h2⟩
theorem Mean.lt {w : World} {b n : Nat} {f : List UInt8 → Option (Int × Int)} (h : Mean w b n f) : b < w.heap.size := by
  obtain ⟨D, h1, _⟩ := h
  exact h1.lt
theorem Mean.block {w w' : World} {b n : Nat} {f : List UInt8 → Option (Int × Int)} (h : Mean w b n f) (hb : w'.heap[b]? = w.heap[b]?) : Mean w' b n f := by
  obtain ⟨D, ⟨es, clock, h1, h2⟩, h3⟩ := h
  exact ⟨D, ⟨es, clock, hb.trans h1, h2⟩, h3⟩
theorem Mean.on {w w' : World} {b n : Nat} {f : List UInt8 → Option (Int × Int)} (h : Mean w b n f) (hb : Below w.heap.size w w') : Mean w' b n f := h.block (hb.block b h.lt)
theorem Mean.alloc {w : World} {b n : Nat} {f : List UInt8 → Option (Int × Int)} (h : Mean w b n f) (o : Obj) : Mean (w.alloc o) b n f := h.on (below_new w o)
theorem Mean.eq {w : World} {b n : Nat} {f g : List UInt8 → Option (Int × Int)} (h : Mean w b n f) (e : f = g) : Mean w b n g := e ▸ h
section

variable {w : World} {ops : Array Oper} {rest : List Oper} {o : Oper} {a : Act} {Q : Exit → Act → World → Prop}

end

end Go.Proofs.YtipaangiehdgkaaGreatDoor
/-
  A field that is resolved: the contract.
-/
namespace Go.Proofs.YtipaangiehdgkaaGreatDoor
set_option maxRecDepth 100000

open Go.RowKit Go.Maps

def df0 : Df := ⟨0, [], 0, 0, false, 0, 0⟩
theorem infoDf : (Tryz.prog.info? 53).map (·.size) = some 7 := by kernel_rfl
theorem wpList_store_df {ops : Array Oper} {rest : List Oper} {o : Oper} {a : Act} {w : World} {Q : Exit → Act → World → Prop} (hgd : o.guard = none) (x y : Operand) (ho : o.op = .store 53 x y)
    (hd : o.dst = none) (g : Nat) (b1 : ByteArray) (b4 : Bool) (b0 b2 b3 b5 b6 : Int) (u0 u1 u2 u3 u4 u5 u6 : Value) (hx : a.eval x = .pointer (some ⟨g, 0, none⟩)) (hy : a.eval y = .agg #[.int .i64 b0, .string b1, .int .i64 b2, .int .i64 b3, .bool b4, .int .i64 b5, .int .i64 b6])
    (t : TypeId) (hg : w.heap[g]? = some (.cells #[u0, u1, u2, u3, u4, u5, u6] t (0, 0)))
    (h : wpList Tryz.prog ops Q rest a (w.setRow g #[.int .i64 b0, .string b1, .int .i64 b2, .int .i64 b3, .bool b4, .int .i64 b5, .int .i64 b6])) : wpList Tryz.prog ops Q (o :: rest) a w :=
  wpList_store_rowTo hgd 53 x y ho hd g _ hx hy t _ hg infoDf rfl (by simp [Value.oneCell']) h
theorem results_df1 {fn : Func} {p u : Tmp} (h : fn.results = #[.cell p 53, .tmp u]) (tmps : Array Value) (w : World) (g : Nat) (t : TypeId) (u0 u1 u2 u3 u4 u5 u6 : Value) (fr : Nat × Nat)
    (hp : tmps.getD p undef = .pointer (some ⟨g, 0, none⟩)) (hg : w.heap[g]? = some (.cells #[u0, u1, u2, u3, u4, u5, u6] t fr)) :
    (results fn tmps).run Tryz.prog w = .ok (.tuple #[.agg #[u0, u1, u2, u3, u4, u5, u6], tmps.getD u undef]) w :=
  results_row_tmp1 h tmps w g t _ fr _ hp hg Tryz.underlying53 rfl infoDf
end Go.Proofs.YtipaangiehdgkaaGreatDoor
/-
  A message's fields are sorted by their numbers: the contract.
-/
namespace Go.Proofs.YtipaangiehdgkaaGreatDoor
set_option maxRecDepth 100000

open Go.RowKit Go.Lib Go.Sort

end Go.Proofs.YtipaangiehdgkaaGreatDoor
