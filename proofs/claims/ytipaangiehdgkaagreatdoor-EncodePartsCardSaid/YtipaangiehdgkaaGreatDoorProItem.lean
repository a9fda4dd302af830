/-
  A number's digits, and the number of digits, by the document's own functions: their contracts.
-/
import Derived.Test.YtipaangiehdgkaaGreatDoorTokRefs
import Derived.BigQuiet
import Derived.Deep.QuietTactic
import Derived.Great.BuildSlice
import Derived.Deep.WholeRow
import Derived.Laws.CopyOwn
import Derived.Test.YtipaangiehdgkaaGreatDoorTabMath
import Derived.Deep.RegionLaw
namespace Go.Proofs.YtipaangiehdgkaaGreatDoor
set_option maxRecDepth 100000

open Go.RowKit

theorem txt_app (a b : List UInt8) : txt a ++ txt b = txt (a ++ b) := by
  apply ByteArray.ext
  apply Array.toList_inj.1
  simp [txt]
/-- The digit of a number below 10. -/
def dig (k : Nat) : UInt8 := UInt8.ofNat (48 + k)
def tenS : ByteArray := ⟨#[48, 49, 50, 51, 52, 53, 54, 55, 56, 57]⟩
theorem dec_small {u : Nat} (h : u ≤ 9223372036854775808) : (txt (Lib.decDigits u)).size ≤ 19 := by
  have h3 := nDigits_le 18 u (by have : (10 : Nat) ^ (18 + 1) = 10000000000000000000 := by decide
                                 omega)
  rw [txt_size, Lib.decDigits_length]; omega
theorem ten_part (k : Nat) (h : k < 10) : tenS.extract k (k + 1) = txt [dig k] := by
  have : k = 0 ∨ k = 1 ∨ k = 2 ∨ k = 3 ∨ k = 4 ∨ k = 5 ∨ k = 6 ∨ k = 7 ∨ k = 8 ∨ k = 9 := by omega
  rcases this with rfl | rfl | rfl | rfl | rfl | rfl | rfl | rfl | rfl | rfl <;> rfl
theorem ten_at (k : Nat) (h : k < 10) (w : World) : (Instr.slice 9 (.string ⟨#[48, 49, 50, 51, 52, 53, 54, 55, 56, 57]⟩) (some (.int .i64 k)) (some (.int .i64 ((k : Int) + 1))) none).run Tryz.prog w = .ok (.string (txt [dig k])) w := by
  have hr := run_slice_string (P := Tryz.prog) (w := w) (t := 9) (s := tenS) (i := (k : Int)) (j := (k : Int) + 1) (k := .i64) (k' := .i64) Tryz.underlying9 (by omega) (by omega) (by show (k : Int) + 1 ≤ 10; omega)
  have e1 : ((k : Int) + 1).toNat = k + 1 := by omega
  rw [Int.toNat_natCast, e1, ten_part k h] at hr
  exact hr

theorem itoa_min : Lib.itoa (-9223372036854775808) = [45, 57, 50, 50, 51, 51, 55, 50, 48, 51, 54, 56, 53, 52, 55, 55, 53, 56, 48, 56] := by
  have h : ∀ n : Nat, Lib.decDigits n = if n < 10 then [UInt8.ofNat (48 + n)] else Lib.decDigits (n / 10) ++ [UInt8.ofNat (48 + n % 10)] := fun n => by
    by_cases h : n < 10
    · rw [if_pos h, Lib.decDigits_one h]
    · rw [if_neg h, dec_step h]
  rw [itoa_neg _ (by decide), show (-9223372036854775808 : Int).natAbs = 9223372036854775808 from rfl]
  iterate 18 rw [h, if_neg (by decide)]
  rw [h, if_pos (by decide)]
  decide +kernel
end Go.Proofs.YtipaangiehdgkaaGreatDoor
/-
  The number of digits, with a sign or not, by the document's own function: its contract.
-/
namespace Go.Proofs.YtipaangiehdgkaaGreatDoor
set_option maxRecDepth 100000

open Go.RowKit

theorem numOf_spell {t : List UInt8} (h : numText t) {v : Int} (hs : spell t = v) (h0 : -9223372036854775808 ≤ v) (h1 : v ≤ 9223372036854775807) :
    (numOf Lib.itoa t).isSome = decide (Lib.itoa v = t) ∧ ∀ x, numOf Lib.itoa t = some x → v = x := by
  subst hs
  have hne : t ≠ [] := by obtain ⟨c, r, rfl, _⟩ := h; simp
  rw [numOf_eq]
  by_cases he : Lib.itoa (spell t) = t
  · rw [if_pos ⟨hne, h0, h1, he⟩]
    exact ⟨by simp [he], fun x hx => by injection hx⟩
  · rw [if_neg (by rintro ⟨_, _, _, h⟩; exact he h)]
    exact ⟨by simp [he], fun x hx => by cases hx⟩
theorem numOf_far {t : List UInt8} (hs : spell t < -9223372036854775808 ∨ 9223372036854775807 < spell t) : numOf Lib.itoa t = none := by
  rw [numOf_eq, if_neg]
  rintro ⟨_, h1, h2, _⟩
  omega

def NumPost (O : Option Int) (w : World) (e : Ending) (w' : World) : Prop := ∃ v, e = .returned (.tuple #[.int .i64 v, .bool O.isSome]) ∧ (∀ x, O = some x → v = x) ∧ Below w.heap.size w w'
theorem NumPost.no {O : Option Int} {w w' : World} (h : O = none) (hb : Below w.heap.size w w') : NumPost O w (.returned (.tuple #[.int .i64 0, .bool false])) w' := by
  subst h; exact ⟨0, rfl, fun x hx => (by cases hx), hb⟩
theorem NumPost.yes {O : Option Int} {w w' : World} {v : Int} {b : Bool} (h : O.isSome = b) (hx : ∀ x, O = some x → v = x) (hb : Below w.heap.size w w') : NumPost O w (.returned (.tuple #[.int .i64 v, .bool b])) w' := by
  subst h; exact ⟨v, rfl, hx, hb⟩
theorem same_text {b : Bool} {v : Int} {L : List UInt8} {X t : ByteArray} (h : b = decide (Lib.itoa v = L)) (hX : X = txt (Lib.itoa v)) (ht : txt L = t) : b = (X.toList == t.toList) := by
  subst hX ht
  rw [h, Lib.toList_data, Lib.toList_data, txt_list, txt_list]
  rw [Bool.eq_iff_iff]; simp
end Go.Proofs.YtipaangiehdgkaaGreatDoor
/-
  Marks within a string: the contracts of the functions that tell what they mean.
-/
namespace Go.Proofs.YtipaangiehdgkaaGreatDoor
set_option maxRecDepth 100000

open Go.RowKit

def MV (o : Option (UInt8 × Nat)) : Value := match o with | none => .tuple #[.int .u8 0, .int .i64 0] | some (b, k) => .tuple #[.int .u8 (b.toNat : Int), .int .i64 ((k + 1 : Nat) : Int)]
def halfS : ByteArray := ⟨#[48, 49, 50, 51, 52, 53, 54, 55, 56, 57, 97, 98, 99, 100, 101, 102]⟩
theorem half_at (c : UInt8) : Lib.indexByte halfS.data.toList c = hexI c := by
  have h : ∀ k : Fin 256, Lib.indexByte halfS.data.toList (UInt8.ofNat k.val) = hexI (UInt8.ofNat k.val) := by decide +kernel
  have := h ⟨c.toNat, c.toNat_lt⟩
  simpa using this
theorem hexI_some {c : UInt8} {a : Nat} (h : hexv c = some a) : hexI c = a ∧ a < 16 := by
  have ha : a < 16 := by
    unfold hexv at h
    split at h
    · rename_i hd
      simp only [isDigit, Bool.and_eq_true, decide_eq_true_eq] at hd
      injection h with h
      omega
    · split at h
      · rename_i hd
        simp only [Bool.and_eq_true, decide_eq_true_eq] at hd
        injection h with h
        omega
      · cases h
  exact ⟨by unfold hexI; rw [h], ha⟩
theorem hexI_none {c : UInt8} (h : hexv c = none) : hexI c = -1 := by unfold hexI; rw [h]

theorem or_halves (a b : Nat) (ha : a < 16) (hb : b < 16) : bits BinOp.or IntKind.i64 ((a : Int) * 16) (b : Int) % 256 = ((UInt8.ofNat (16 * a + b)).toNat : Int) := by
  have h : ∀ x y : Fin 16, bits BinOp.or IntKind.i64 ((x.val : Int) * 16) (y.val : Int) % 256 = ((UInt8.ofNat (16 * x.val + y.val)).toNat : Int) := by decide +kernel
  exact h ⟨a, ha⟩ ⟨b, hb⟩
theorem ret_mark {o : Option (UInt8 × Nat)} {b : UInt8} {k : Nat} {x y : Value} (h : o = some (b, k)) (hx : x = .int .u8 (b.toNat : Int)) (hy : y = .int .i64 ((k + 1 : Nat) : Int)) : Ending.returned (.tuple #[x, y]) = .returned (MV o) := by
  subst h hx hy; rfl
theorem ret_nomark {o : Option (UInt8 × Nat)} {x y : Value} (h : o = none) (hx : x = .int .u8 0) (hy : y = .int .i64 0) : Ending.returned (.tuple #[x, y]) = .returned (MV o) := by
  subst h hx hy; rfl
theorem meant_mark {l : List UInt8} {d : UInt8} {r : List UInt8} (h : l = 92 :: d :: r) :
    ((d == 34 || d == 92) = true → meant l = some (d, 1)) ∧ ((d == 34 || d == 92) = false → d = 110 → meant l = some (10, 1)) ∧ ((d == 34 || d == 92) = false → d ≠ 110 → d ≠ 120 → meant l = none) := by
  subst h
  refine ⟨fun h => ?_, fun h h2 => ?_, fun h h2 h3 => ?_⟩
  · simp only [meant, h, beq_self_eq_true, if_true]
  · subst h2; rfl
  · have e2 : (d == 110) = false := by simpa using h2
    have e3 : (d == 120) = false := by simpa using h3
    simp only [meant, h, e2, e3, beq_self_eq_true, if_true, Bool.false_eq_true, if_false]
theorem meant_plain {c : UInt8} {r : List UInt8} (h : c ≠ 92) : meant (c :: r) = if isPlain c || decide (128 ≤ c.toNat) then some (c, 0) else none := by
  have e : (c == 92) = false := by simpa using h
  simp only [meant, e, Bool.false_eq_true, if_false]
end Go.Proofs.YtipaangiehdgkaaGreatDoor
/-
  Tokens as they lie in memory: boxes of one token, results of which the first is one.
-/
namespace Go.Proofs.YtipaangiehdgkaaGreatDoor
set_option maxRecDepth 100000

open Go.RowKit

theorem results_row_tmp2 {P : Program} {fn : Func} {p u v : Tmp} {ty : TypeId} (h : fn.results = #[.cell p ty, .tmp u, .tmp v]) (tmps : Array Value) (w : World) (g : Nat) (t : TypeId) (cs : Array Value) (fr : Nat × Nat) (d : TypeDesc)
    (hp : tmps.getD p undef = .pointer (some ⟨g, 0, none⟩)) (hg : w.heap[g]? = some (.cells cs t fr))
    (hu : P.underlying ty = some d) (hd : (match d with | .struct _ | .array _ _ => true | _ => false) = true) (hi : (P.info? ty).map (·.size) = some cs.size) :
    (results fn tmps).run P w = .ok (.tuple #[.agg cs, tmps.getD u undef, tmps.getD v undef]) w := by
  have hp' : tmps[p]?.getD undef = .pointer (some ⟨g, 0, none⟩) := by simpa using hp
  simp [results, h, hp', asAddr, run_loadVar_row w g t ty cs fr d hg hu hd hi]
theorem results_row_tmp1 {P : Program} {fn : Func} {p u : Tmp} {ty : TypeId} (h : fn.results = #[.cell p ty, .tmp u]) (tmps : Array Value) (w : World) (g : Nat) (t : TypeId) (cs : Array Value) (fr : Nat × Nat) (d : TypeDesc)
    (hp : tmps.getD p undef = .pointer (some ⟨g, 0, none⟩)) (hg : w.heap[g]? = some (.cells cs t fr))
    (hu : P.underlying ty = some d) (hd : (match d with | .struct _ | .array _ _ => true | _ => false) = true) (hi : (P.info? ty).map (·.size) = some cs.size) :
    (results fn tmps).run P w = .ok (.tuple #[.agg cs, tmps.getD u undef]) w := by
  have hp' : tmps[p]?.getD undef = .pointer (some ⟨g, 0, none⟩) := by simpa using hp
  simp [results, h, hp', asAddr, run_loadVar_row w g t ty cs fr d hg hu hd hi]

theorem own_mono {w : World} {base base' : Nat} {e : TypeId} {size : Nat} {v : Value} {n : Nat} {xs : List Value} (h : w.ownsRow base e size v n xs) (hb : base' ≤ base) : w.ownsRow base' e size v n xs := by
  rcases h with ⟨hl, ⟨rfl, rfl⟩ | ⟨g, cap, cur, rfl, h1, h2⟩⟩
  · exact ⟨hl, .inl ⟨rfl, rfl⟩⟩
  · exact ⟨hl, .inr ⟨g, cap, cur, rfl, Nat.le_trans hb h1, h2⟩⟩
/-- A row of the call's own stays where nothing old turns. -/
theorem own_below {w w' : World} {base : Nat} {e : TypeId} {size : Nat} {v : Value} {n : Nat} {xs : List Value} (h : w.ownsRow base e size v n xs) (hb : Below w.heap.size w w') : w'.ownsRow base e size v n xs := by
  rcases h with ⟨hl, ⟨rfl, rfl⟩ | ⟨g, cap, cur, rfl, h1, h2, h3⟩⟩
  · exact ⟨hl, .inl ⟨rfl, rfl⟩⟩
  · exact ⟨hl, .inr ⟨g, cap, cur, rfl, h1, (hb.block g (Array.getElem?_eq_some_iff.1 h2).1).trans h2, h3⟩⟩
theorem bs_snoc (a : List UInt8) (b : UInt8) : bs a ++ [Value.int .u8 (b.toNat : Int)] = bs (a ++ [b]) := by rw [bs_append]; rfl
/-- A box below a base stays where a row from that base on is written. -/
theorem box_grown {w w' : World} {g base : Nat} {o : Obj} {row : Option Nat} (h : w.heap[g]? = some o) (hg : w.grownBy w' row) (hr : ∀ k, row = some k → base ≤ k) (hlt : g < base) : w'.heap[g]? = some o := by
  have hlt2 := (Array.getElem?_eq_some_iff.1 h).1
  rw [hg.block g hlt2 (fun e => by have := hr g e.symm; omega)]
  exact h
def TokV (kind : Nat) (text : ByteArray) (n : Int) (p : Nat) : Value := .agg #[.int .i64 kind, .string text, .int .i64 n, .int .i64 p]

/-- What is told of a token that begins at a place. -/
def SV (o : Option Tk) (p : Nat) : Value := match o with
  | none => .tuple #[TokV 0 ⟨#[]⟩ 0 0, .int .i64 0, .bool false]
  | some t => .tuple #[TokV t.kind (txt t.text) t.num p, .int .i64 ((p + t.more + 1 : Nat) : Int), .bool true]
def strT (l : List UInt8) : Option Tk := (strB 0 l).map fun x => ⟨2, x.1, 0, x.2⟩
end Go.Proofs.YtipaangiehdgkaaGreatDoor
/-
  Slices of tokens that read as lists; the contract of the function that holds two of them against each other.
-/
namespace Go.Proofs.YtipaangiehdgkaaGreatDoor
set_option maxRecDepth 100000

open Go.RowKit

/-- A token's cells. -/
def TC (t : T) : List Value := [.int .i64 t.kind, .string (txt t.text), .int .i64 t.num, .int .i64 t.at_]
def tv (l : List T) : List Value := l.flatMap TC
theorem tv_append (a b : List T) : tv (a ++ b) = tv a ++ tv b := by simp [tv]
theorem tv_cons (r : T) (l : List T) : tv (r :: l) = TC r ++ tv l := by simp [tv]
theorem tv_length (a : List T) : (tv a).length = a.length * 4 := by
  induction a with
  | nil => rfl
  | cons r a ih => rw [tv_cons, List.length_append, ih]; simp [TC]; omega
theorem tv_get : ∀ (l : List T) (k j : Nat) (r : T), l[k]? = some r → j < 4 → (tv l)[k * 4 + j]? = (TC r)[j]?
  | [], k, j, r, h, _ => by simp at h
  | x :: l, 0, j, r, h, hj => by
    obtain rfl : x = r := by simpa using h
    rw [tv_cons, Nat.zero_mul, Nat.zero_add, List.getElem?_append_left (by simp [TC]; omega)]
  | x :: l, k + 1, j, r, h, hj => by
    rw [tv_cons, List.getElem?_append_right (by simp [TC]; omega)]
    rw [show (k + 1) * 4 + j - (TC x).length = k * 4 + j by simp [TC]; omega]
    exact tv_get l k j r (by simpa using h) hj
theorem tv_one (a : List T) : ∀ u ∈ tv a, u.oneCell' = true := by
  intro u hu
  obtain ⟨r, _, hr⟩ := List.mem_flatMap.1 hu
  simp only [TC, List.mem_cons, List.not_mem_nil, or_false] at hr
  rcases hr with rfl | rfl | rfl | rfl <;> rfl
/-- A slice of tokens that reads as the list l. -/
def SlT (w : World) (A : Option Addr) (c : Nat) (l : List T) : Prop := Sl w A l.length c 4 (tv l)
theorem SlT.on {w w' : World} {A : Option Addr} {c : Nat} {l : List T} (h : SlT w A c l) (hb : Below w.heap.size w w') : SlT w' A c l := Sl.on h hb
theorem SlT.of_own {w : World} {base : Nat} {e : TypeId} {v : Value} {l : List T} (h : w.ownsRow base e 4 v l.length (tv l)) : ∃ A c, v = .slice A l.length c ∧ SlT w A c l := Sl.of_own h
/-- The token at k: its address, and its cells. -/
theorem SlT.at_ {w : World} {A : Option Addr} {c : Nat} {l : List T} (h : SlT w A c l) {k : Nat} (hk : k < l.length) : ∃ ad r, A = some ad ∧ ad.block < w.heap.size ∧ l[k]? = some r ∧
    w.cell? (ad.add (k * 4)) = some (.int .i64 r.kind) ∧ w.cell? ⟨(ad.add (k * 4)).block, (ad.add (k * 4)).off + 1, none⟩ = some (.string (txt r.text)) ∧ w.cell? ⟨(ad.add (k * 4)).block, (ad.add (k * 4)).off + 2, none⟩ = some (.int .i64 r.num) ∧
    w.cell? ⟨(ad.add (k * 4)).block, (ad.add (k * 4)).off + 3, none⟩ = some (.int .i64 r.at_) := by
  obtain ⟨ad, rfl, hb, hcell⟩ := Sl.there h (by omega)
  have hg : l[k]? = some l[k] := List.getElem?_eq_getElem hk
  have hadd : ∀ j : Nat, 0 < j → (⟨(ad.add (k * 4)).block, (ad.add (k * 4)).off + j, none⟩ : Addr) = ad.add (k * 4 + j) := fun j hj => by
    rw [← add_twice]
    cases j with
    | zero => omega
    | succ j => simp [Addr.add]
  refine ⟨ad, l[k], rfl, hb, hg, ?_, ?_, ?_, ?_⟩
  · exact hcell (k * 4) _ (by have := tv_get l k 0 _ hg (by omega); rw [Nat.add_zero] at this; rw [this]; rfl)
  · rw [hadd 1 (by omega)]; exact hcell _ _ (by rw [tv_get l k 1 _ hg (by omega)]; rfl)
  · rw [hadd 2 (by omega)]; exact hcell _ _ (by rw [tv_get l k 2 _ hg (by omega)]; rfl)
  · rw [hadd 3 (by omega)]; exact hcell _ _ (by rw [tv_get l k 3 _ hg (by omega)]; rfl)
theorem ttake_ne {l m : List T} {k : Nat} {x y : T} (hx : l[k]? = some x) (hy : m[k]? = some y) (hne : x ≠ y) : l ≠ m := by
  rintro rfl
  rw [hx] at hy
  exact hne (by injection hy)
theorem ttake_next {l m : List T} {k : Nat} {x : T} (hx : l[k]? = some x) (hy : m[k]? = some x) (h : l.take k = m.take k) : l.take (k + 1) = m.take (k + 1) := by
  rw [List.take_add_one, List.take_add_one, h, hx, hy]
instance : DecidableEq T := fun a b => by
  obtain ⟨a1, a2, a3, a4⟩ := a
  obtain ⟨b1, b2, b3, b4⟩ := b
  exact decidable_of_iff (a1 = b1 ∧ a2 = b2 ∧ a3 = b3 ∧ a4 = b4) (by simp)
theorem txt_ne {a b : List UInt8} (h : a ≠ b) : ((txt a).toList == (txt b).toList) = false := by
  rw [beq_eq_false_iff_ne, Lib.toList_data, Lib.toList_data, txt_list, txt_list]; exact h

end Go.Proofs.YtipaangiehdgkaaGreatDoor
/-
  The parser as it lies in memory; the contracts of what only looks at it.
-/
namespace Go.Proofs.YtipaangiehdgkaaGreatDoor
set_option maxRecDepth 100000

open Go.RowKit

theorem heap_cell {w : World} {g : Nat} {cs : Array Value} {t : TypeId} {fr : Nat × Nat} (h : w.heap[g]? = some (.cells cs t fr)) (j : Nat) : w.cell? ⟨g, j, none⟩ = cs[j]? := by simp [World.cell?, h]
theorem heap_free {w : World} {g : Nat} {cs : Array Value} {t : TypeId} (h : w.heap[g]? = some (.cells cs t (0, 0))) (j : Nat) : w.frozen? ⟨g, j, none⟩ = false := by simp [World.frozen?, h]
theorem heap_setCell_same {w : World} {g j : Nat} {cs : Array Value} {t : TypeId} {fr : Nat × Nat} (h : w.heap[g]? = some (.cells cs t fr)) (v : Value) : (w.setCell ⟨g, j, none⟩ v).heap[g]? = some (.cells (cs.setIfInBounds j v) t fr) := by
  rw [setCell_eq_setRow w g j cs t fr v h]
  exact setRow_heap w g cs _ t fr h
/-- As a slice of tokens stays where no block of its own is written. -/
theorem SlT.kept {w w' : World} {A : Option Addr} {c : Nat} {l : List T} (h : SlT w A c l) (hs : w.heap.size ≤ w'.heap.size) (hb : ∀ ad, A = some ad → w'.heap[ad.block]? = w.heap[ad.block]?) : SlT w' A c l := by
  refine ⟨h.len, h.le, h.cap, h.nil, fun ad ha hn => Nat.lt_of_lt_of_le (h.old ad ha hn) hs, fun ad ha k u hu => ?_⟩
  have hk : w'.heap[(ad.add k).block]? = w.heap[(ad.add k).block]? := by rw [add_same_block]; exact hb ad ha
  exact (World.cell?_of_block hk).trans (h.cell ad ha k u hu)
/-- The first token, as it lies there. -/
theorem SlT.head {w : World} {A : Option Addr} {c : Nat} {t : T} {l : List T} (h : SlT w A c (t :: l)) : ∃ ad, A = some ad ∧ w.cell? ad = some (.int .i64 t.kind) ∧ w.cell? ⟨ad.block, ad.off + 1, none⟩ = some (.string (txt t.text)) ∧
    w.cell? ⟨ad.block, ad.off + 2, none⟩ = some (.int .i64 t.num) ∧ w.cell? ⟨ad.block, ad.off + 3, none⟩ = some (.int .i64 t.at_) := by
  obtain ⟨ad, r, rfl, hb, hr, p0, p1, p2, p3⟩ := SlT.at_ h (k := 0) (by simp)
  obtain rfl : t = r := by simpa using hr
  simp only [Nat.zero_mul, add_nothing] at p0 p1 p2 p3
  exact ⟨ad, rfl, p0, p1, p2, p3⟩
theorem SlT.second {w : World} {A : Option Addr} {c : Nat} {t u : T} {l : List T} (h : SlT w A c (t :: u :: l)) : ∃ ad, A = some ad ∧ w.cell? ⟨ad.block, ad.off + 4, none⟩ = some (.int .i64 u.kind) ∧ w.cell? ⟨ad.block, ad.off + 5, none⟩ = some (.string (txt u.text)) := by
  obtain ⟨ad, r, rfl, hb, hr, p0, p1, p2, p3⟩ := SlT.at_ h (k := 1) (by simp)
  obtain rfl : u = r := by simpa using hr
  simp only [Nat.one_mul] at p0 p1
  exact ⟨ad, rfl, p0, p1⟩

theorem ret_int_pl {k : IntKind} {a b : Int} (h : a = b) : Ending.returned (.int k a) = .returned (.int k b) := by rw [h]
end Go.Proofs.YtipaangiehdgkaaGreatDoor
/-
  What the parser sees next: the contracts.
-/
namespace Go.Proofs.YtipaangiehdgkaaGreatDoor
set_option maxRecDepth 100000

open Go.RowKit

end Go.Proofs.YtipaangiehdgkaaGreatDoor
/-
  The parser takes tokens: the contracts of what takes one, and of a name with its number.
-/
namespace Go.Proofs.YtipaangiehdgkaaGreatDoor
set_option maxRecDepth 100000

open Go.RowKit

theorem SlT.none_left {w : World} {A : Option Addr} {c : Nat} (hc : c ≤ maxLen) (hA : A = none → c = 0) : SlT w A c [] :=
  ⟨by simp [tv], Nat.zero_le _, hc, hA, by simp, by simp [tv]⟩
theorem SlT.tail {w : World} {ad : Addr} {c : Nat} {t : T} {l : List T} (h : SlT w (some ad) c (t :: l)) : SlT w (some (ad.add 4)) (c - 1) l := by
  cases l with
  | nil => exact SlT.none_left (by have := h.cap; omega) (by simp)
  | cons u l =>
    obtain ⟨ad', ha, h2⟩ := Sl.from_ (k := 1) h (by simp)
    obtain rfl := Option.some.inj ha
    simpa [SlT, tv_cons, TC] using h2
def TokE (t : T) : Value := TokV t.kind (txt t.text) t.num t.at_
theorem grown_set (w : World) (P j : Nat) (v : Value) : w.grownBy (w.setCell ⟨P, j, none⟩ v) (some P) := ⟨rfl, rfl, rfl, by simp [World.setCell], fun k _ hk => Below.heap_setCell w _ v k (by simpa using hk)⟩
theorem grown_lit {w w' : World} {row : Option Nat} (h : w.grownBy w' row) (o : Obj) : w.grownBy (w'.alloc o) row := h.trans (World.grownBy_alloc w' o row)
/-- A cell behind a new block. -/
theorem up {w : World} {a : Addr} {v : Value} (h : w.cell? a = some v) (o : Obj) : (w.alloc o).cell? a = some v := (World.cell?_of_block (Below.heap_alloc w o a.block (World.block_lt_of_cell? w a h))).trans h
theorem heap_first (w : World) (o o' : Obj) {g : Nat} (hg : g = w.heap.size) : ((w.alloc o).alloc o').heap[g]? = some o := by
  subst hg
  rw [Below.heap_alloc _ _ _ (by simp)]
  exact heap_alloc_new w o
end Go.Proofs.YtipaangiehdgkaaGreatDoor
/-
  A field is read: the contract.
-/
namespace Go.Proofs.YtipaangiehdgkaaGreatDoor
set_option maxRecDepth 100000

open Go.RowKit

/-- A field's cells. -/
def FC (d : Fd) : List Value := [.string (txt d.type), .string (txt d.key), .bool d.rep, .int .i64 d.one, .string (txt d.name), .int .i64 d.no, .int .i64 d.at_]
def FdV (d : Fd) : Value := .agg (FC d).toArray
/-- A block that is younger than the parser stays when the parser takes. -/
theorem stays {w w' : World} {P g : Nat} {o : Obj} (h : w.heap[g]? = some o) (hg : w.grownBy w' (some P)) (hP : P < g) : w'.heap[g]? = some o :=
  (hg.block g (Array.getElem?_eq_some_iff.1 h).1 (by simp; omega)).trans h

/-- Below block B nothing but block P has turned. -/
structure Kp (B P : Nat) (w w' : World) : Prop where
  os : w'.os = w.os
  tape : w'.tape = w.tape
  output : w'.output = w.output
  size : w.heap.size ≤ w'.heap.size
  block : ∀ k, k < B → k ≠ P → w'.heap[k]? = w.heap[k]?
theorem Kp.refl (B P : Nat) (w : World) : Kp B P w w := ⟨rfl, rfl, rfl, Nat.le_refl _, fun _ _ _ => rfl⟩
theorem Kp.trans {B P : Nat} {a b c : World} (h : Kp B P a b) (k : Kp B P b c) : Kp B P a c :=
  ⟨k.os.trans h.os, k.tape.trans h.tape, k.output.trans h.output, Nat.le_trans h.size k.size, fun i hi hp => (k.block i hi hp).trans (h.block i hi hp)⟩
theorem Kp.alloc {B P : Nat} {a w : World} (h : Kp B P a w) (hB : B ≤ w.heap.size) (o : Obj) : Kp B P a (w.alloc o) :=
  h.trans ⟨rfl, rfl, rfl, by simp, fun k hk _ => Below.heap_alloc _ _ _ (by omega)⟩
theorem Kp.setCell {B P : Nat} {a w : World} (h : Kp B P a w) {p : Addr} (hp : B ≤ p.block) (u : Value) : Kp B P a (w.setCell p u) :=
  h.trans ⟨rfl, rfl, rfl, by simp [World.setCell], fun k hk _ => Below.heap_setCell _ _ _ _ (by omega)⟩
theorem Kp.setRow {B P : Nat} {a w : World} (h : Kp B P a w) {g : Nat} (hp : B ≤ g) (cs : Array Value) : Kp B P a (w.setRow g cs) :=
  h.trans ⟨rfl, rfl, rfl, by simp, fun k hk _ => setRow_other _ _ _ _ (by omega)⟩
theorem Kp.taken {B P : Nat} {a w w' : World} (h : Kp B P a w) (hg : w.grownBy w' (some P)) (hB : B ≤ w.heap.size) : Kp B P a w' :=
  h.trans ⟨hg.os, hg.tape, hg.output, hg.size, fun k hk hp => hg.block k (by omega) (by simpa using hp)⟩
theorem Kp.grown {B P : Nat} {a w w' : World} {row : Option Nat} (h : Kp B P a w) (hg : w.grownBy w' row) (hB : B ≤ w.heap.size) (hr : ∀ k, row = some k → B ≤ k) : Kp B P a w' :=
  h.trans ⟨hg.os, hg.tape, hg.output, hg.size, fun k hk _ => hg.block k (by omega) (fun e => by have := hr k e.symm; omega)⟩
theorem Kp.drew {B P : Nat} {a w : World} (h : Kp B P a w) (n : Nat) : Kp B P a (w.drewN n) := h.trans ⟨rfl, rfl, rfl, Nat.le_refl _, fun _ _ _ => rfl⟩
theorem Kp.mono {B B' P : Nat} {a w : World} (h : Kp B P a w) (hB : B' ≤ B) : Kp B' P a w := ⟨h.os, h.tape, h.output, h.size, fun k hk hp => h.block k (by omega) hp⟩
theorem Kp.out {P : Nat} {w w' : World} (h : Kp w.heap.size P w w') : w.grownBy w' (some P) :=
  ⟨h.os, h.tape, h.output, h.size, fun k hk hp => h.block k hk (by simpa using hp)⟩
theorem heap_second (w : World) (o o' : Obj) : ((w.alloc o).alloc o').heap[w.heap.size + 1]? = some o' := by
  have := heap_alloc_new (w.alloc o) o'
  simpa using this
end Go.Proofs.YtipaangiehdgkaaGreatDoor
/-
  A message as it is read: its block and its rows; items of one field: the contracts.
-/
namespace Go.Proofs.YtipaangiehdgkaaGreatDoor
set_option maxRecDepth 100000

open Go.RowKit

def fdv (l : List Fd) : List Value := l.flatMap FC
def strv (l : List (List UInt8)) : List Value := l.map fun x => .string (txt x)
def intv (l : List Int) : List Value := l.map fun n => .int .i64 n
theorem fdv_append (a b : List Fd) : fdv (a ++ b) = fdv a ++ fdv b := by simp [fdv]
theorem fdv_one (d : Fd) : fdv [d] = FC d := by simp [fdv]
theorem fdv_cells (l : List Fd) : ∀ u ∈ fdv l, u.oneCell' = true := by
  intro u hu
  obtain ⟨r, _, hr⟩ := List.mem_flatMap.1 hu
  simp only [FC, List.mem_cons, List.not_mem_nil, or_false] at hr
  rcases hr with rfl | rfl | rfl | rfl | rfl | rfl | rfl <;> rfl
theorem own_kept {w w' : World} {base B P : Nat} {e : TypeId} {size : Nat} {v : Value} {n : Nat} {xs : List Value} (h : w.ownsRow base e size v n xs) (hk : ∀ k, base ≤ k → k < w.heap.size → w'.heap[k]? = w.heap[k]?) : w'.ownsRow base e size v n xs := by
  rcases h with ⟨hl, ⟨rfl, rfl⟩ | ⟨g, cap, cur, rfl, h1, h2, h3⟩⟩
  · exact ⟨hl, .inl ⟨rfl, rfl⟩⟩
  · exact ⟨hl, .inr ⟨g, cap, cur, rfl, h1, (hk g h1 (Array.getElem?_eq_some_iff.1 h2).1).trans h2, h3⟩⟩
theorem heap_second' (w : World) (o o' : Obj) : ((w.alloc o).drew.alloc o').heap[w.heap.size + 1]? = some o' := heap_second w o o'
theorem own_apart {w : World} {b b' : Nat} {e e' : TypeId} {size size' : Nat} {v v' : Value} {n n' : Nat} {xs xs' : List Value} (h : w.ownsRow b e size v n xs) (h' : w.ownsRow b' e' size' v' n' xs') (hne : e ≠ e') : v.ownBlock = none ∨ v.ownBlock ≠ v'.ownBlock := by
  rcases h.2 with ⟨rfl, _⟩ | ⟨g, cap, cur, rfl, h1, h2, _⟩
  · exact .inl rfl
  · right
    rcases h'.2 with ⟨rfl, _⟩ | ⟨g', cap', cur', rfl, h1', h2', _⟩
    · simp [Value.ownBlock]
    · intro he
      simp only [Value.ownBlock, Option.some.injEq] at he
      subst he
      rw [h2] at h2'
      simp only [Option.some.injEq, Obj.cells.injEq] at h2'
      exact hne h2'.2.1
theorem own_set {w : World} {base : Nat} {e : TypeId} {size : Nat} {v : Value} {n : Nat} {xs : List Value} (h : w.ownsRow base e size v n xs) {a : Addr} (ha : a.block < base) (u : Value) : (w.setCell a u).ownsRow base e size v n xs := ownsRow_setCell_below h ha u
theorem own_M {w : World} {M : Nat} {e : TypeId} {size : Nat} {v : Value} {n : Nat} {xs : List Value} (h : w.ownsRow (M + 1) e size v n xs) : ∀ k, v.ownBlock = some k → M < k := fun k hk => (h.lt k hk).1
theorem Kp.past {a w w' : World} {P M : Nat} {e : TypeId} {size : Nat} {v0 v : Value} {n : Nat} {xs : List Value} (h : Kp M P a w) (hM : M ≤ w.heap.size) (h0 : w.ownsRow (M + 1) e size v0 n xs) (hg : w.grownBy w' v0.ownBlock) (j : Nat) : Kp M P a (w'.setCell ⟨M, j, none⟩ v) :=
  (h.grown hg hM (fun k hk => by have := own_M h0 k hk; omega)).setCell (Nat.le_refl _) _

end Go.Proofs.YtipaangiehdgkaaGreatDoor
