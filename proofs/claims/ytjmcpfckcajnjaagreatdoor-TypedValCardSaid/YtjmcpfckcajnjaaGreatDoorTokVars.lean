/-
  The words of the table's own code, by plain functions: sets of names that may still be taken, the first place that is wrong, what a field may be; each held against the document's words.
-/
import Derived.Test.YtjmcpfckcajnjaaGreatDoorTyMath
import Derived.Test.YtjmcpfckcajnjaaGreatDoorTabMath
import Derived.Lib.ItoaNum
import Derived.Lib.ParseIntBTie
import Derived.Lib.AtoiAllCases
import Derived.Maps.OwnSet
import Derived.Shelf.SlSortCmp.WholeK
import Derived.Shelf.SlSortCmp.NoneTotal
import Derived.Test.YtjmcpfckcajnjaaGreatDoorProg
import Derived.Test.YtjmcpfckcajnjaaGreatDoorTrSize
import Derived.Lib.LaidTab
import Derived.Shelf.Lays
import Derived.Shelf.LaysM
import Derived.Shelf.Small.Strs
import Derived.Lib.OthersKept
import Derived.Lib.Strings
import Derived.Lib.Index
import Derived.Sort.Grow
namespace Go.Proofs.YtjmcpfckcajnjaaGreatDoor
set_option maxRecDepth 100000

/-! ### The first that is told -/

theorem range_split {n k : Nat} (h : k < n) : List.range n = List.range k ++ k :: List.range' (k + 1) (n - k - 1) := by
  apply List.ext_getElem
  · simp; omega
  · intro i h1 h2
    simp only [List.length_range] at h1
    rw [List.getElem_range, List.getElem_append]
    split
    · simp
    · rename_i hlt
      simp only [List.length_range] at hlt
      rw [List.getElem_cons]
      split
      · rename_i h0; simp only [List.length_range] at h0; omega
      · rename_i h0; simp only [List.length_range] at h0; rw [List.getElem_range']; simp only [List.length_range]; omega
theorem firstOf_at {α β : Type} {g : Nat → α → Option β} {l : List α} {k : Nat} {x : α} {r : β} (h : ∀ j y, j < k → l[j]? = some y → g j y = none) (hk : l[k]? = some x) (hg : g k x = some r) : firstOf g l = some r := by
  have hlt := (List.getElem?_eq_some_iff.1 hk).1
  unfold firstOf
  rw [List.findSome?_eq_some_iff]
  refine ⟨_, k, _, range_split hlt, by rw [hk]; exact hg, fun j hj => ?_⟩
  have hj := List.mem_range.1 hj
  rw [List.getElem?_eq_getElem (by omega)]
  exact h j _ hj (List.getElem?_eq_getElem (by omega))
theorem findSome_at {α β : Type} {g : α → Option β} {l : List α} {k : Nat} {x : α} {r : β} (h : ∀ j y, j < k → l[j]? = some y → g y = none) (hk : l[k]? = some x) (hg : g x = some r) : l.findSome? g = some r := by
  have hlt := (List.getElem?_eq_some_iff.1 hk).1
  rw [List.findSome?_eq_some_iff]
  refine ⟨l.take k, x, l.drop (k + 1), ?_, hg, fun y hy => ?_⟩
  · have e : l.drop k = x :: l.drop (k + 1) := by
      rw [List.drop_eq_getElem_cons hlt]
      obtain ⟨_, e⟩ := List.getElem?_eq_some_iff.1 hk
      rw [e]
    rw [← e, List.take_append_drop]
  · obtain ⟨j, hj, rfl⟩ := List.mem_iff_getElem.1 hy
    rw [List.length_take] at hj
    rw [List.getElem_take]
    exact h j _ (by omega) (List.getElem?_eq_getElem (by omega))
theorem findSome_range {β : Type} {g : Nat → Option β} {n k : Nat} {r : β} (h : ∀ j, j < k → g j = none) (hk : k < n) (hg : g k = some r) : (List.range n).findSome? g = some r := by
  rw [List.findSome?_eq_some_iff]
  exact ⟨_, k, _, range_split hk, hg, fun j hj => h j (List.mem_range.1 hj)⟩

/-! ### The plain types, in a row -/

def plainsL : List (List UInt8 × Nat) := [(tInt64, 0), (tSint64, 1), (tUint32, 2), (tBool, 3), (tFixed32, 4), (tSfixed64, 5), (tString, 7), (tBytes, 8)]
theorem typeK_find (x : List UInt8) : (plainsL.find? fun q => q.1 == x).map (·.2) = typeK x := by
  unfold typeK plainsL
  simp only [List.find?_cons, List.find?_nil]
  by_cases h0 : x = tInt64
  · subst h0; rfl
  by_cases h1 : x = tSint64
  · subst h1; rfl
  by_cases h2 : x = tUint32
  · subst h2; rfl
  by_cases h3 : x = tBool
  · subst h3; rfl
  by_cases h4 : x = tFixed32
  · subst h4; rfl
  by_cases h5 : x = tSfixed64
  · subst h5; rfl
  by_cases h6 : x = tString
  · subst h6; rfl
  by_cases h7 : x = tBytes
  · subst h7; rfl
  have e : ∀ y : List UInt8, x ≠ y → (y == x) = false := fun y hy => beq_eq_false_iff_ne.2 (Ne.symm hy)
  simp only [h0, h1, h2, h3, h4, h5, h6, h7, if_false, e _ h0, e _ h1, e _ h2, e _ h3, e _ h4, e _ h5, e _ h6, e _ h7, Option.map_none]
theorem typeK_none (x : List UInt8) : (typeK x).isNone = !(plainsL.map (·.1)).contains x := by
  rw [← typeK_find]
  rw [Option.isNone_map]
  cases h : plainsL.find? fun q => q.1 == x with
  | none =>
    rw [List.find?_eq_none] at h
    simp only [Option.isNone_none]
    symm
    rw [Bool.not_eq_true', List.contains_eq_mem, decide_eq_false_iff_not]
    intro hm
    obtain ⟨q, hq, rfl⟩ := List.mem_map.1 hm
    exact absurd (h q hq) (by simp)
  | some q =>
    have h1 := List.find?_some h
    have h2 := List.mem_of_find?_eq_some h
    simp only [Option.isNone_some]
    symm
    rw [Bool.not_eq_false', List.contains_eq_mem, decide_eq_true_eq]
    exact List.mem_map.2 ⟨q, h2, by simpa using h1⟩

/-! ### What may still be taken -/

/-- Of a list what is neither barred nor among its first k. -/
def still {α : Type} [BEq α] (l bar : List α) (k : Nat) (x : α) : Bool := l.contains x && !bar.contains x && !(l.take k).contains x
theorem still_start {α : Type} [BEq α] [LawfulBEq α] (l bar : List α) : still l bar 0 = fun x => l.contains x && !bar.contains x := by funext x; simp [still]
theorem still_next {α : Type} [BEq α] [LawfulBEq α] [DecidableEq α] {l bar : List α} {k : Nat} {y : α} (h : l[k]? = some y) : (fun x => still l bar k x && decide (x ≠ y)) = still l bar (k + 1) := by
  funext x
  unfold still
  rw [List.take_add_one, h]
  by_cases hx : x = y
  · subst hx; simp
  · simp [hx]
theorem still_self {α : Type} [BEq α] [LawfulBEq α] {l bar : List α} {k : Nat} {y : α} (h : l[k]? = some y) : still l bar k y = (!bar.contains y && !(l.take k).contains y) := by
  have : l.contains y = true := by rw [List.contains_eq_mem, decide_eq_true_eq]; exact List.mem_of_getElem? h
  simp only [still, this, Bool.true_and]

/-! ### A message -/

/-- May a field be in a oneof, of so many, and be repeated, or a map? -/
def standB (ones one : Int) (rep pairs : Bool) : Bool := decide (0 ≤ one) && decide (one ≤ ones) && !(rep && pairs) && !(decide (one ≠ 0) && (rep || pairs))
def nmF (m : Ms) : List (List UInt8) := m.F.map (·.name)
def noF (m : Ms) : List Int := m.F.map (·.no)
theorem take_map_contains {α β : Type} [BEq β] [LawfulBEq β] (g : α → β) (l : List α) (k : Nat) (y : β) : ((l.map g).take k).contains y = (l.take k).any fun x => g x == y := by
  rw [← List.map_take, List.contains_eq_any_beq, List.any_map]
  congr 1
  funext x
  simp only [Function.comp]
  exact BEq.comm
theorem any_or {α : Type} (f g : α → Bool) (l : List α) : (l.any fun x => f x || g x) = (l.any f || l.any g) := by
  induction l with
  | nil => rfl
  | cons x l ih => simp only [List.any_cons, ih]; cases f x <;> cases g x <;> simp
theorem fdForm_code {m : Ms} {k : Nat} {x : Fd} (h : m.F[k]? = some x) :
    fdForm m k x = !((still (nmF m) m.ones k x.name && still (noF m) m.res k x.no) && numberB x.no && standB m.ones.length x.one x.rep (decide (x.key ≠ []))) := by
  rw [still_self (by simp [nmF, h]), still_self (by simp [noF, h])]
  unfold fdForm
  rw [any_or (fun y : Fd => y.name == x.name) (fun y : Fd => y.no == x.no), nmF, noF, take_map_contains, take_map_contains]
  cases (m.F.take k).any fun y => y.name == x.name
  all_goals cases (m.F.take k).any fun y => y.no == x.no
  all_goals cases m.res.contains x.no
  all_goals cases m.ones.contains x.name
  all_goals cases numberB x.no
  all_goals (try simp only [Bool.or_true, Bool.true_or, Bool.not_true, Bool.not_false, Bool.and_false, Bool.false_and, Bool.and_true, Bool.true_and, Bool.false_or, Bool.or_false])
  unfold standB
  by_cases h1 : x.one < 0
  · have e : decide (0 ≤ x.one) = false := by rw [decide_eq_false_iff_not]; omega
    simp [h1, e]
  · have e1 : decide (0 ≤ x.one) = true := by rw [decide_eq_true_eq]; omega
    have e2 : decide (x.one < 0) = false := by rw [decide_eq_false_iff_not]; omega
    by_cases h2 : x.one ≤ (m.ones.length : Int)
    · have e3 : decide ((m.ones.length : Int) < x.one) = false := by rw [decide_eq_false_iff_not]; omega
      have e4 : decide (0 < x.one) = decide (x.one ≠ 0) := by congr 1; apply propext; omega
      rw [e1, e2, e3, e4, decide_eq_true h2]
      cases x.rep <;> cases decide (x.key ≠ []) <;> cases decide (x.one ≠ 0) <;> rfl
    · have e3 : decide ((m.ones.length : Int) < x.one) = true := by rw [decide_eq_true_eq]; omega
      rw [e1, e2, e3, decide_eq_false h2]
      simp
/-- The kind of keys, by their type. -/
def keyK (x : List UInt8) : Int := if x = [] then -1 else ((typeK x).map Int.ofNat).getD 0

/-! ### Names of messages and enums -/

def stillT (l : List (List UInt8)) (k : Nat) (x : List UInt8) : Bool := still l (plainsL.map (·.1)) k x
theorem stillT_self {l : List (List UInt8)} {k : Nat} {y : List UInt8} (h : l[k]? = some y) : stillT l k y = !((typeK y).isSome || (l.take k).contains y) := by
  unfold stillT
  rw [still_self h, ← typeK_none]
  cases typeK y <;> simp

/-! ### What names mean -/

/-- What a name means once the first k names are told. -/
def meanK (f : Fl) (k : Nat) (x : List UInt8) : Option (Int × Int) :=
  match typeK x with
  | some q => some (q, 0)
  | none => if (namesF f).idxOf x < k ∧ (namesF f).idxOf x < (namesF f).length then (if (namesF f).idxOf x < f.M.length then some (9, (namesF f).idxOf x) else some (6, ((namesF f).idxOf x - f.M.length : Nat))) else none
theorem meanK_all (f : Fl) : meanK f (namesF f).length = kindF f := by
  funext x
  unfold meanK kindF
  rw [names_length]
  cases typeK x with
  | some q => rfl
  | none =>
    simp only
    by_cases h1 : (namesF f).idxOf x < f.M.length
    · rw [if_pos h1, if_pos h1, if_pos (by omega)]
    · rw [if_neg h1, if_neg h1]
      by_cases h2 : (namesF f).idxOf x < f.M.length + f.E.length
      · rw [if_pos ⟨h2, h2⟩, if_pos h2]
      · rw [if_neg (fun h => h2 h.1), if_neg h2]
theorem meanK_start (f : Fl) (x : List UInt8) : meanK f 0 x = (typeK x).map fun q => ((q : Int), 0) := by
  unfold meanK
  cases typeK x <;> simp
theorem meanK_next {f : Fl} (hp : (namesF f).Pairwise (· ≠ ·)) {k : Nat} {y : List UInt8} (h : (namesF f)[k]? = some y) (ht : typeK y = none) (x : List UInt8) :
    meanK f (k + 1) x = if x = y then (if k < f.M.length then some (9, (k : Int)) else some (6, ((k - f.M.length : Nat) : Int))) else meanK f k x := by
  have hk := (List.getElem?_eq_some_iff.1 h).1
  by_cases hx : x = y
  · subst hx
    rw [if_pos rfl]
    unfold meanK
    rw [ht, idx_pair hp h]
    simp only
    rw [if_pos ⟨by omega, hk⟩]
  · rw [if_neg hx]
    unfold meanK
    cases typeK x with
    | some q => rfl
    | none =>
      simp only
      by_cases hl : (namesF f).idxOf x < (namesF f).length
      · have hne : (namesF f).idxOf x ≠ k := by
          intro e
          have h1 : (namesF f)[(namesF f).idxOf x]? = some x := by rw [List.getElem?_eq_getElem hl, List.getElem_idxOf hl]
          rw [e, h] at h1
          exact hx (Option.some.inj h1).symm
        by_cases h2 : (namesF f).idxOf x < k
        · rw [if_pos (show _ ∧ _ from ⟨by omega, hl⟩), if_pos (show _ ∧ _ from ⟨h2, hl⟩)]
        · rw [if_neg (by omega), if_neg (by omega)]
      · rw [if_neg (fun h => hl h.2), if_neg (fun h => hl h.2)]

/-! ### Enums -/

/-- Is the name, or the number, at place k of an enum wrong? -/
def wrongB (V : List (List UInt8)) (N : List Int) (k : Nat) (x : List UInt8) (n : Int) : Bool :=
  (V.take k).contains x || (N.take k).contains n || !(decide (-2147483648 ≤ n) && decide (n ≤ 2147483647)) || (k == 0 && n != 0)
theorem wrong_vl {e : En} {k : Nat} {x : Vl} : vlErr e k x = if wrongB (e.V.map (·.name)) (e.V.map (·.n)) k x.name x.n then some (x.at_, 4) else none := by
  unfold vlErr wrongB
  rw [any_or (fun y : Vl => y.name == x.name) (fun y : Vl => y.n == x.n), take_map_contains, take_map_contains]
  have e1 : (!(decide (-2147483648 ≤ x.n) && decide (x.n ≤ 2147483647))) = (decide (x.n < -2147483648) || decide (2147483647 < x.n)) := by
    by_cases h1 : x.n < -2147483648 <;> by_cases h2 : 2147483647 < x.n
    · exfalso; omega
    all_goals
      first
        | have a1 : decide (-2147483648 ≤ x.n) = true := by rw [decide_eq_true_eq]; omega
        | have a1 : decide (-2147483648 ≤ x.n) = false := by rw [decide_eq_false_iff_not]; omega
      first
        | have a2 : decide (x.n ≤ 2147483647) = true := by rw [decide_eq_true_eq]; omega
        | have a2 : decide (x.n ≤ 2147483647) = false := by rw [decide_eq_false_iff_not]; omega
      rw [a1, a2]
      simp [h1, h2]
  rw [e1]
  simp only [Bool.or_assoc]

/-! ### Schemas that may be -/

def referB (s : Sc) (kind ref : Int) : Bool := decide (0 ≤ kind) && decide (kind < 10) && decide (0 ≤ ref) && decide (ref < if kind = 9 then (s.M.length : Int) else if kind = 6 then (s.E.length : Int) else 1)
def fdMayB (s : Sc) (d : Df) : Bool := !(decide (d.key ≠ -1) && !keyedB d.key) && referB s d.kind d.ref && standB 30 d.one d.rep (decide (d.key ≠ -1))
theorem dfMay_iff (s : Sc) (d : Df) : DfMay s d ↔ numberB d.no = true ∧ fdMayB s d = true := by
  unfold fdMayB referB standB
  constructor
  · intro h
    refine ⟨h.num, ?_⟩
    have h9 := h.k9
    have hr := h.ref
    have e0 : decide (d.ref < if d.kind = 9 then (s.M.length : Int) else if d.kind = 6 then (s.E.length : Int) else 1) = true := by
      rw [decide_eq_true_eq]
      split at hr
      · rename_i h1; rw [if_pos h1]; omega
      · rename_i h1
        rw [if_neg h1]
        split at hr
        · rename_i h2; rw [if_pos h2]; omega
        · rename_i h2; rw [if_neg h2]; omega
    rw [decide_eq_true h.k0, decide_eq_true (show d.kind < 10 by omega), decide_eq_true h.r0, e0, decide_eq_true h.o0, decide_eq_true h.o30]
    rcases h.key with hk | ⟨hk, hrep⟩
    · rcases h.alone with ho | ⟨ho, -⟩
      · simp [hk, ho]
      · simp [hk, ho]
    · rcases h.alone with ho | ⟨ho, hk2⟩
      · simp [hk, ho, hrep]
      · simp [hk2, hrep]
  · rintro ⟨hn, h⟩
    simp only [Bool.and_eq_true, decide_eq_true_eq, Bool.not_eq_true', Bool.and_eq_false_iff, Bool.or_eq_false_iff, decide_eq_false_iff_not, Bool.not_eq_false', Classical.not_not] at h
    obtain ⟨⟨a1, ⟨⟨a2, a3⟩, a4⟩, a5⟩, ⟨⟨a6, a7⟩, a8⟩, a9⟩ := h
    refine ⟨hn, a2, by omega, a6, a7, a4, ?_, ?_, ?_⟩
    · split
      · rename_i h1; rw [if_pos h1] at a5; omega
      · rename_i h1
        rw [if_neg h1] at a5
        split
        · rename_i h2; rw [if_pos h2] at a5; omega
        · rename_i h2; rw [if_neg h2] at a5; omega
    · by_cases hk : d.key = -1
      · exact .inl hk
      · refine .inr ⟨?_, ?_⟩
        · rcases a1 with a1 | a1
          · exact absurd a1 hk
          · exact a1
        · rcases a8 with a8 | a8
          · exact a8
          · exact absurd a8 hk
    · rcases a9 with a9 | a9
      · exact .inl a9
      · exact .inr a9
/-- The number of the field ahead. -/
def lastNo (l : List Df) (k : Nat) : Int := if k = 0 then 0 else (l[k - 1]?.map (·.no)).getD 0
def mdNames (m : Md) : List (List UInt8) := m.F.map (·.name)
def mdAtB (s : Sc) (m : Md) (k : Nat) (d : Df) : Bool := !decide (d.no ≤ lastNo m.F k) && numberB d.no && still (mdNames m) [] k d.name && fdMayB s d
theorem mdMay_iff (s : Sc) (m : Md) : MdMay s m ↔ m.F.length ≤ 30 ∧ ∀ k d, m.F[k]? = some d → mdAtB s m k d = true := by
  constructor
  · intro h
    refine ⟨h.few, fun k d hd => ?_⟩
    have hmem := List.mem_of_getElem? hd
    obtain ⟨a1, a2⟩ := (dfMay_iff s d).1 (h.each d hmem)
    unfold mdAtB
    rw [a1, a2, still_self (by simp [mdNames, hd]), mdNames, take_map_contains]
    have e1 : decide (d.no ≤ lastNo m.F k) = false := by
      rw [decide_eq_false_iff_not]
      unfold lastNo
      split
      · have := a1
        unfold numberB at this
        simp only [Bool.and_eq_true, decide_eq_true_eq] at this
        omega
      · rename_i hk
        obtain ⟨hlt, rfl⟩ := List.getElem?_eq_some_iff.1 hd
        have := (List.pairwise_iff_getElem.1 h.rise) (k - 1) k (by omega) hlt (by omega)
        rw [List.getElem?_eq_getElem (by omega)]
        simp only [Option.map_some, Option.getD_some]
        omega
    have e2 : ((m.F.take k).any fun x => x.name == d.name) = false := by
      have h2 : (m.F.Pairwise fun a b => (a.name == b.name) = false) := h.names.imp fun {a b} hab => by simpa using hab
      exact (pair_take (R := fun a b : Df => a.name == b.name)).2 h2 k d hd
    rw [e1, e2]
    rfl
  · rintro ⟨hf, h⟩
    have hp : ∀ k d, m.F[k]? = some d → d.no > lastNo m.F k ∧ numberB d.no = true ∧ ((m.F.take k).any fun x => x.name == d.name) = false ∧ fdMayB s d = true := by
      intro k d hd
      have := h k d hd
      unfold mdAtB at this
      rw [still_self (by simp [mdNames, hd]), mdNames, take_map_contains] at this
      simp only [Bool.and_eq_true, Bool.not_eq_true', decide_eq_false_iff_not, List.contains_nil, Bool.not_false, Bool.true_and] at this
      obtain ⟨⟨⟨b1, b2⟩, b3⟩, b4⟩ := this
      exact ⟨by omega, b2, by simpa using b3, b4⟩
    refine ⟨hf, ?_, ?_, fun d hd => ?_⟩
    · rw [List.pairwise_iff_getElem]
      intro i j
      induction j with
      | zero => intro _ _ h0; omega
      | succ j ih =>
        intro hi hj hij
        have h1 := (hp (j + 1) _ (List.getElem?_eq_getElem hj)).1
        unfold lastNo at h1
        rw [if_neg (by omega), Nat.add_sub_cancel, List.getElem?_eq_getElem (by omega)] at h1
        simp only [Option.map_some, Option.getD_some] at h1
        by_cases he : i = j
        · subst he; omega
        · have := ih hi (by omega) (by omega)
          omega
    · have h2 : (m.F.Pairwise fun a b => (a.name == b.name) = false) := pair_take.1 fun k x hx => (hp k x hx).2.2.1
      exact h2.imp fun {a b} hab => by simpa using hab
    · obtain ⟨k, hk⟩ := List.mem_iff_getElem?.1 hd
      have := hp k d hk
      exact (dfMay_iff s d).2 ⟨this.2.1, this.2.2.2⟩
def edAtB (e : Ed) (k : Nat) (x : List UInt8) (n : Int) : Bool := !wrongB e.V e.N k x n
theorem contains_pair {α : Type} [BEq α] [LawfulBEq α] {l : List α} : (∀ k x, l[k]? = some x → (l.take k).contains x = false) ↔ l.Pairwise (· ≠ ·) := by
  have h2 : (l.Pairwise fun a b => (a == b) = false) ↔ l.Pairwise (· ≠ ·) := by
    constructor <;> intro hp <;> exact hp.imp fun {a b} hab => by simpa using hab
  rw [← h2, ← pair_take]
  have e : ∀ k x, (l.take k).contains x = (l.take k).any (· == x) := fun k x => by
    rw [List.contains_eq_any_beq]
    congr 1
    funext y
    exact BEq.comm
  simp only [e]
theorem edMay_iff (e : Ed) : EdMay e ↔ 1 ≤ e.V.length ∧ e.V.length ≤ 30 ∧ e.V.length = e.N.length ∧ ∀ k x n, e.V[k]? = some x → e.N[k]? = some n → wrongB e.V e.N k x n = false := by
  constructor
  · intro h
    refine ⟨h.some_, h.few, h.same.symm, fun k x n hx hn => ?_⟩
    unfold wrongB
    have hr := h.each n (List.mem_of_getElem? hn)
    rw [contains_pair.2 h.names k x hx, contains_pair.2 h.nums k n hn, decide_eq_true hr.1, decide_eq_true hr.2]
    by_cases hk : k = 0
    · subst hk
      have := h.zero
      rw [hn] at this
      obtain rfl := Option.some.inj this
      rfl
    · simp [hk]
  · rintro ⟨h1, h2, h3, h4⟩
    have key : ∀ k (hk : k < e.V.length), (e.V.take k).contains e.V[k] = false ∧ (e.N.take k).contains (e.N[k]'(by omega)) = false ∧ (-2147483648 ≤ (e.N[k]'(by omega)) ∧ (e.N[k]'(by omega)) ≤ 2147483647) ∧ (k = 0 → (e.N[k]'(by omega)) = 0) := by
      intro k hk
      have := h4 k _ _ (List.getElem?_eq_getElem hk) (List.getElem?_eq_getElem (by omega))
      unfold wrongB at this
      simp only [Bool.or_eq_false_iff, Bool.not_eq_false', Bool.and_eq_true, decide_eq_true_eq, Bool.and_eq_false_iff, beq_eq_false_iff_ne, bne_eq_false_iff_eq] at this
      obtain ⟨⟨⟨b1, b2⟩, b3⟩, b4⟩ := this
      exact ⟨b1, b2, b3, fun h0 => by rcases b4 with b4 | b4; exact absurd h0 b4; exact b4⟩
    refine ⟨h1, h2, h3.symm, ?_, ?_, ?_, fun n hn => ?_⟩
    · rw [List.getElem?_eq_getElem (by omega), (key 0 (by omega)).2.2.2 rfl]
    · refine contains_pair.1 fun k x hx => ?_
      obtain ⟨hk, rfl⟩ := List.getElem?_eq_some_iff.1 hx
      exact (key k hk).1
    · refine contains_pair.1 fun k x hx => ?_
      obtain ⟨hk, rfl⟩ := List.getElem?_eq_some_iff.1 hx
      exact (key k (by omega)).2.1
    · obtain ⟨k, hk⟩ := List.mem_iff_getElem?.1 hn
      obtain ⟨hk, rfl⟩ := List.getElem?_eq_some_iff.1 hk
      exact (key k (by omega)).2.2.1
theorem scMay_iff (s : Sc) : ScMay s ↔ 1 ≤ s.M.length ∧ s.M.length ≤ 20 ∧ s.E.length ≤ 20 ∧ (∀ k x, (namesS s)[k]? = some x → stillT (namesS s) k x = true) ∧ (∀ m ∈ s.M, MdMay s m) ∧ ∀ e ∈ s.E, EdMay e := by
  have key : (∀ k x, (namesS s)[k]? = some x → stillT (namesS s) k x = true) ↔ (namesS s).Pairwise (· ≠ ·) ∧ ∀ x ∈ namesS s, typeK x = none := by
    rw [← contains_pair]
    constructor
    · intro h
      have h' : ∀ k x, (namesS s)[k]? = some x → typeK x = none ∧ ((namesS s).take k).contains x = false := fun k x hx => by
        have := h k x hx
        rw [stillT_self hx] at this
        cases ht : typeK x <;> cases hc : ((namesS s).take k).contains x <;> simp_all
      exact ⟨fun k x hx => (h' k x hx).2, fun x hx => by obtain ⟨k, hk⟩ := List.mem_iff_getElem?.1 hx; exact (h' k x hk).1⟩
    · rintro ⟨h1, h2⟩ k x hx
      rw [stillT_self hx, h1 k x hx, h2 x (List.mem_of_getElem? hx)]
      rfl
  constructor
  · intro h
    exact ⟨h.some_, h.fewM, h.fewE, key.2 ⟨h.names, h.plain⟩, h.M, h.E⟩
  · rintro ⟨h1, h2, h3, h4, h5, h6⟩
    obtain ⟨k1, k2⟩ := key.1 h4
    exact ⟨h1, h2, h3, k1, k2, h5, h6⟩
end Go.Proofs.YtjmcpfckcajnjaaGreatDoor
/-
  A number's text: its digits, what digits spell, and what is told of digits with a sign or not.
-/
namespace Go.Proofs.YtjmcpfckcajnjaaGreatDoor
set_option maxRecDepth 100000

theorem dval_nil (a : Nat) : dval a [] = a := by unfold dval; rw [List.foldl_nil]
theorem dval_cons (a : Nat) (c : UInt8) (r : List UInt8) : dval a (c :: r) = dval (10 * a + (c.toNat - 48)) r := by unfold dval; rw [List.foldl_cons]
theorem dval_app (c : UInt8) (l : List UInt8) : ∀ (a : Nat), dval a (l ++ [c]) = 10 * dval a l + (c.toNat - 48) := by
  induction l with
  | nil => intro a; simp [dval_nil, dval_cons]
  | cons d r ih => intro a; rw [List.cons_append, dval_cons, dval_cons, ih]
theorem digit_of {k : Nat} (h : k < 10) : isDigit (UInt8.ofNat (48 + k)) = true ∧ (UInt8.ofNat (48 + k)).toNat = 48 + k := by
  have e : (UInt8.ofNat (48 + k)).toNat = 48 + k := by simp; omega
  exact ⟨by simp only [isDigit, e, Bool.and_eq_true, decide_eq_true_eq]; omega, e⟩
theorem dec_step {u : Nat} (h : ¬ u < 10) : Lib.decDigits u = Lib.decDigits (u / 10) ++ [UInt8.ofNat (48 + u % 10)] := by
  rw [Lib.decDigits, dif_neg h]
theorem dec_val (u : Nat) : dval 0 (Lib.decDigits u) = u := by
  by_cases h : u < 10
  · rw [Lib.decDigits_one h]
    simp only [dval_nil, dval_cons, (digit_of h).2]; omega
  · rw [dec_step h, dval_app, dec_val (u / 10), (digit_of (Nat.mod_lt u (by decide))).2]
    omega
  termination_by u
theorem dec_digits (u : Nat) : ∀ c ∈ Lib.decDigits u, isDigit c = true := by
  by_cases h : u < 10
  · rw [Lib.decDigits_one h]
    intro c hc
    rw [List.mem_singleton.1 hc]
    exact (digit_of h).1
  · rw [dec_step h]
    intro c hc
    rw [List.mem_append] at hc
    rcases hc with hc | hc
    · exact dec_digits (u / 10) c hc
    · rw [List.mem_singleton.1 hc]
      exact (digit_of (Nat.mod_lt u (by decide))).1
  termination_by u
theorem dec_ne (u : Nat) : Lib.decDigits u ≠ [] := by
  intro h
  have := Lib.decDigits_length u
  have h1 := Lib.nDigits_pos u
  rw [h] at this
  simp at this; omega
theorem nDigits_le (k : Nat) : ∀ u, u < 10 ^ (k + 1) → Lib.nDigits u ≤ k + 1 := by
  induction k with
  | zero => intro u h; rw [Lib.nDigits_small (by simpa using h)]; omega
  | succ k ih =>
    intro u h
    by_cases h10 : u < 10
    · rw [Lib.nDigits_small h10]; omega
    · rw [Lib.nDigits_big h10]
      have := ih (u / 10) (by rw [Nat.pow_succ] at h; omega)
      omega

theorem itoa_nonneg (n : Int) (h : 0 ≤ n) : Lib.itoa n = Lib.decDigits n.toNat := by unfold Lib.itoa; rw [if_neg (by omega)]
theorem itoa_neg (n : Int) (h : n < 0) : Lib.itoa n = 45 :: Lib.decDigits n.natAbs := by unfold Lib.itoa; rw [if_pos h]

/-- What a text of a number spells. -/
def spell (t : List UInt8) : Int :=
  match t with
  | [] => 0
  | c :: r => if c = 45 then -(dval 0 r : Int) else (dval 0 (c :: r) : Int)
theorem spell_itoa (n : Int) : spell (Lib.itoa n) = n := by
  by_cases h : n < 0
  · rw [itoa_neg n h]
    simp only [spell, if_true, dec_val]
    omega
  · rw [itoa_nonneg n (by omega)]
    have h1 := dec_digits n.toNat
    have h2 := dec_val n.toNat
    revert h1 h2
    cases hd : Lib.decDigits n.toNat with
    | nil => exact absurd hd (dec_ne _)
    | cons c r =>
      intro h1 h2
      have hc := h1 c (by simp)
      have h45 : c ≠ 45 := by intro e; subst e; simp [isDigit] at hc
      simp only [spell, h45, if_false, h2]
      omega
theorem itoa_inj {n k : Int} (h : Lib.itoa n = Lib.itoa k) : n = k := by rw [← spell_itoa n, h, spell_itoa]
theorem numOf_eq (t : List UInt8) : numOf Lib.itoa t = if t ≠ [] ∧ -9223372036854775808 ≤ spell t ∧ spell t ≤ 9223372036854775807 ∧ Lib.itoa (spell t) = t then some (spell t) else none := by
  cases t with
  | nil => simp [numOf]
  | cons c r => simp [numOf, spell]
theorem itoa_ne (n : Int) : Lib.itoa n ≠ [] := by
  by_cases h : n < 0
  · rw [itoa_neg n h]; simp
  · rw [itoa_nonneg n (by omega)]; exact dec_ne _
theorem numOf_itoa {n : Int} (h0 : -9223372036854775808 ≤ n) (h1 : n ≤ 9223372036854775807) : numOf Lib.itoa (Lib.itoa n) = some n := by
  rw [numOf_eq, spell_itoa, if_pos ⟨itoa_ne n, h0, h1, rfl⟩]
theorem numOf_some {t : List UInt8} {n : Int} (h : numOf Lib.itoa t = some n) : t = Lib.itoa n ∧ -9223372036854775808 ≤ n ∧ n ≤ 9223372036854775807 := by
  rw [numOf_eq] at h
  split at h
  · rename_i hc
    cases h
    exact ⟨hc.2.2.2.symm, hc.2.1, hc.2.2.1⟩
  · cases h
/-- Digits, with a sign ahead or not. -/
def numText (t : List UInt8) : Prop := ∃ c r, t = c :: r ∧ (c = 45 ∨ isDigit c = true) ∧ ∀ d ∈ r, isDigit d = true

theorem dval_ge : ∀ (l : List UInt8) (a : Nat), a ≤ dval a l
  | [], _ => Nat.le_refl _
  | c :: r, a => by
    have := dval_ge r (10 * a + (c.toNat - 48))
    simp only [dval_nil, dval_cons]; omega
theorem parse_digits : ∀ (l : List UInt8), (∀ d ∈ l, isDigit d = true) → ∀ a, a < 18446744073709551616 → Lib.parseUint10 a l = if dval a l < 18446744073709551616 then .ok (dval a l) else .range
  | [], _, a, ha => by simp [Lib.parseUint10, dval_nil, ha]
  | c :: r, h, a, ha => by
    have hc := h c (by simp)
    simp only [isDigit, Bool.and_eq_true, decide_eq_true_eq] at hc
    have ge := dval_ge r (10 * a + (c.toNat - 48))
    rw [dval_cons, Lib.parseUint10, if_pos hc]
    by_cases h1 : 1844674407370955162 ≤ a
    · rw [if_pos h1, if_neg (by omega)]
    · rw [if_neg h1, show a * 10 + (c.toNat - 48) = 10 * a + (c.toNat - 48) by omega]
      by_cases h2 : 18446744073709551616 ≤ 10 * a + (c.toNat - 48)
      · rw [if_pos h2, if_neg (by omega)]
      · rw [if_neg h2, parse_digits r (fun d hd => h d (by simp [hd])) _ (by omega)]
theorem code_num {t : List UInt8} (h : numText t) :
    (∀ v, Lib.parseIntB 64 t = .ok v → numOf Lib.itoa t = if Lib.itoa v = t then some v else none) ∧ ((∀ v, Lib.parseIntB 64 t ≠ .ok v) → numOf Lib.itoa t = none) := by
  obtain ⟨c, r, rfl, hc, hr⟩ := h
  rw [Lib.parseIntB_64, numOf_eq]
  by_cases h45 : c = 45
  · subst h45
    rw [Lib.atoiAll_minus]
    have hs : spell (45 :: r) = -(dval 0 r : Int) := by simp [spell]
    rw [hs]
    by_cases hn : r = []
    · subst hn
      refine ⟨fun v hv => by simp [Lib.parseMag, Lib.signed] at hv, fun _ => ?_⟩
      rw [if_neg]
      rintro ⟨_, _, _, h⟩
      simp only [dval_nil, dval_cons] at h
      rw [itoa_nonneg _ (by omega)] at h
      simp [Lib.decDigits_one] at h
    · have hm : Lib.parseMag r = if dval 0 r < 18446744073709551616 then .ok (dval 0 r) else .range := by
        simp only [Lib.parseMag, hn, if_false]
        exact parse_digits r hr 0 (by omega)
      rw [hm]
      by_cases h1 : dval 0 r < 18446744073709551616
      · rw [if_pos h1]
        simp only [Lib.signed]
        by_cases h2 : 9223372036854775808 < dval 0 r
        · rw [if_pos h2]
          exact ⟨fun v hv => (by cases hv), fun _ => by rw [if_neg (by omega)]⟩
        · rw [if_neg h2]
          refine ⟨fun v hv => ?_, fun hv => absurd rfl (hv _)⟩
          injection hv with hv
          subst hv
          by_cases he : Lib.itoa (-(dval 0 r : Int)) = 45 :: r
          · rw [if_pos he, if_pos ⟨by simp, by omega, by omega, he⟩]
          · rw [if_neg he, if_neg (by rintro ⟨_, _, _, h⟩; exact he h)]
      · rw [if_neg h1]
        exact ⟨fun v hv => by simp [Lib.signed] at hv, fun _ => by rw [if_neg (by omega)]⟩
  · have hd : isDigit c = true := by rcases hc with hc | hc; exact absurd hc h45; exact hc
    have hall : ∀ d ∈ c :: r, isDigit d = true := by intro d hd'; rcases List.mem_cons.1 hd' with rfl | h; exact hd; exact hr d h
    have h43 : c.toNat ≠ 43 := by intro e; simp [isDigit, e] at hd
    have h45' : c.toNat ≠ 45 := fun e => h45 (UInt8.toNat_inj.1 e)
    rw [Lib.atoiAll_plain c r h43 h45']
    have hs : spell (c :: r) = (dval 0 (c :: r) : Int) := by simp [spell, h45]
    rw [hs]
    have hm : Lib.parseMag (c :: r) = if dval 0 (c :: r) < 18446744073709551616 then .ok (dval 0 (c :: r)) else .range := by
      simp only [Lib.parseMag, reduceCtorEq, if_false]
      exact parse_digits (c :: r) hall 0 (by omega)
    rw [hm]
    by_cases h1 : dval 0 (c :: r) < 18446744073709551616
    · rw [if_pos h1]
      simp only [Lib.signless]
      by_cases h2 : 9223372036854775808 ≤ dval 0 (c :: r)
      · rw [if_pos h2]
        exact ⟨fun v hv => (by cases hv), fun _ => by rw [if_neg (by omega)]⟩
      · rw [if_neg h2]
        refine ⟨fun v hv => ?_, fun hv => absurd rfl (hv _)⟩
        injection hv with hv
        subst hv
        by_cases he : Lib.itoa (dval 0 (c :: r) : Int) = c :: r
        · rw [if_pos he, if_pos ⟨by simp, by omega, by omega, he⟩]
        · rw [if_neg he, if_neg (by rintro ⟨_, _, _, h⟩; exact he h)]
    · rw [if_neg h1]
      exact ⟨fun v hv => by simp [Lib.signless] at hv, fun _ => by rw [if_neg (by omega)]⟩

/-! ### The document's way -/

theorem dval_bound : ∀ (l : List UInt8), (∀ d ∈ l, isDigit d = true) → ∀ a k, a < 10 ^ k → dval a l < 10 ^ (k + l.length)
  | [], _, a, k, h => by simpa [dval_nil] using h
  | c :: r, h, a, k, ha => by
    have hc := h c (by simp)
    simp only [isDigit, Bool.and_eq_true, decide_eq_true_eq] at hc
    have := dval_bound r (fun d hd => h d (by simp [hd])) (10 * a + (c.toNat - 48)) (k + 1) (by rw [Nat.pow_succ]; omega)
    simp only [dval_nil, dval_cons, List.length_cons]
    rw [show k + (r.length + 1) = k + 1 + r.length by omega]
    exact this
/-- The digits behind the sign. -/
def mags (t : List UInt8) : List UInt8 := if t.head? = some 45 then t.tail else t
theorem spell_mags {t : List UInt8} (h : numText t) : spell t = if t.head? = some 45 then -(dval 0 (mags t) : Int) else (dval 0 (mags t) : Int) := by
  obtain ⟨c, r, rfl, hc, hr⟩ := h
  by_cases h45 : c = 45
  · subst h45; simp [spell, mags]
  · simp [spell, mags, h45]
theorem mags_digits {t : List UInt8} (h : numText t) : ∀ d ∈ mags t, isDigit d = true := by
  obtain ⟨c, r, rfl, hc, hr⟩ := h
  by_cases h45 : c = 45
  · subst h45; simpa [mags] using hr
  · have hd : isDigit c = true := by rcases hc with hc | hc; exact absurd hc h45; exact hc
    simp only [mags, List.head?_cons, Option.some.injEq, h45, if_false]
    intro d hd'; rcases List.mem_cons.1 hd' with rfl | h; exact hd; exact hr d h
theorem mags_itoa (n : Int) : mags (Lib.itoa n) = Lib.decDigits n.natAbs := by
  by_cases h : n < 0
  · rw [itoa_neg n h]; simp [mags]
  · rw [itoa_nonneg n (by omega), show n.natAbs = n.toNat by omega]
    have h1 := dec_digits n.toNat
    revert h1
    cases hd : Lib.decDigits n.toNat with
    | nil => exact absurd hd (dec_ne _)
    | cons c r =>
      intro h1
      have hc := h1 c (by simp)
      have h45 : c ≠ 45 := by intro e; subst e; simp [isDigit] at hc
      simp [mags, h45]
/-- More than 19 digits, or none, are no number. -/
theorem num_long {t : List UInt8} (hl : (mags t).length = 0 ∨ 19 < (mags t).length) : numOf Lib.itoa t = none := by
  cases h : numOf Lib.itoa t with
  | none => rfl
  | some n =>
    obtain ⟨rfl, h0, h1⟩ := numOf_some h
    rw [mags_itoa, Lib.decDigits_length] at hl
    have h2 := Lib.nDigits_pos n.natAbs
    have h3 := nDigits_le 18 n.natAbs (by have : (10 : Nat) ^ (18 + 1) = 10000000000000000000 := by decide
                                          omega)
    omega
/-- Up to 19 digits spell a number below 2^64. -/
theorem num_fits {t : List UInt8} (h : numText t) (hl : (mags t).length ≤ 19) : dval 0 (mags t) < 10000000000000000000 := by
  have := dval_bound (mags t) (mags_digits h) 0 0 (by simp)
  have h2 : 10 ^ (0 + (mags t).length) ≤ 10 ^ 19 := Nat.pow_le_pow_right (by decide) (by omega)
  have h3 : (10 : Nat) ^ 19 = 10000000000000000000 := by decide
  omega
end Go.Proofs.YtjmcpfckcajnjaaGreatDoor
/-
  A file as a text: what is printed, by plain functions.
-/
namespace Go.Proofs.YtjmcpfckcajnjaaGreatDoor
set_option maxRecDepth 100000

def lineB (ps : List (List UInt8)) : List UInt8 := ps.flatten ++ [10]
def digB (n : Int) : List UInt8 := Lib.itoa n
def typeB (d : Fd) : List UInt8 := if d.key ≠ [] then ([109, 97, 112, 60] ++ d.key ++ [44, 32] ++ d.type ++ [62]) else if d.rep then ([114, 101, 112, 101, 97, 116, 101, 100, 32] ++ d.type) else d.type
def fieldB (ahead : List UInt8) (d : Fd) : List UInt8 := lineB [ahead, typeB d, [32], d.name, [32, 61, 32], digB d.no, [59]]
def fieldsB (ahead : List UInt8) (l : List Fd) : List UInt8 := (l.map (fieldB ahead)).flatten
def oneB (name : List UInt8) (l : List Fd) : List UInt8 := if l = [] then [] else lineB [[32, 32], wOneof, [32], name, [32, 123]] ++ fieldsB [32, 32, 32, 32] l ++ lineB [[32, 32], [125]]
/-- Numbers, with what stands ahead of the first one. -/
def numsB (ahead : List UInt8) : List Int → List UInt8
  | [] => []
  | n :: l => ahead ++ digB n ++ numsB [44, 32] l
def resB (l : List Int) : List UInt8 := [32, 32, 114, 101, 115, 101, 114, 118, 101, 100] ++ numsB [32] l ++ lineB [[59]]
def inOne (n : Nat) (d : Fd) : Bool := decide (0 < d.one) && decide (d.one ≤ (n : Int))
/-- The place of its oneof. -/
def oneAt (d : Fd) : Nat := d.one.toNat - 1
/-- The fields of each oneof. -/
def memStep (n : Nat) (ms : List (List Fd)) (d : Fd) : List (List Fd) := if inOne n d then ms.set (oneAt d) (ms.getD (oneAt d) [] ++ [d]) else ms
def memsB (n : Nat) (l : List Fd) : List (List Fd) := l.foldl (memStep n) (List.replicate n [])
theorem memStep_length (n : Nat) (ms : List (List Fd)) (d : Fd) : (memStep n ms d).length = ms.length := by unfold memStep; split <;> simp
theorem memsB_take (n : Nat) (l : List Fd) (k : Nat) (d : Fd) (h : l[k]? = some d) : memsB n (l.take (k + 1)) = memStep n (memsB n (l.take k)) d := by
  rw [List.take_add_one, h]; simp [memsB, List.foldl_append]
theorem foldl_length (n : Nat) : ∀ (l : List Fd) (ms : List (List Fd)), (l.foldl (memStep n) ms).length = ms.length
  | [], _ => rfl
  | d :: l, ms => by rw [List.foldl_cons, foldl_length n l, memStep_length]
theorem memsB_length (n : Nat) (l : List Fd) : (memsB n l).length = n := by rw [memsB, foldl_length]; simp
theorem foldl_few (n : Nat) : ∀ (l : List Fd) (ms : List (List Fd)) (k : Nat), ((l.foldl (memStep n) ms).getD k []).length ≤ (ms.getD k []).length + l.length
  | [], _, _ => by simp
  | d :: l, ms, k => by
    rw [List.foldl_cons]
    have := foldl_few n l (memStep n ms d) k
    have h2 : ((memStep n ms d).getD k []).length ≤ (ms.getD k []).length + 1 := by
      unfold memStep
      split
      · simp only [List.getD_eq_getElem?_getD, List.getElem?_set]
        split
        · rename_i h3
          subst h3
          split
          · simp
          · simp
        · omega
      · omega
    simp only [List.length_cons]
    omega
theorem memsB_few (n : Nat) (l : List Fd) (k : Nat) : ((memsB n l).getD k []).length ≤ l.length := by
  have := foldl_few n l (List.replicate n []) k
  have h : ((List.replicate n ([] : List Fd)).getD k []).length = 0 := by
    rw [List.getD_eq_getElem?_getD, List.getElem?_replicate]
    split <;> rfl
  unfold memsB
  omega
/-- The items, one after the other: all that are in a oneof stand at the first of them. -/
def itemsB (ones : List (List UInt8)) : List (List Fd) → List Fd → List UInt8
  | _, [] => []
  | ms, d :: l => if inOne ones.length d then oneB (ones.getD (oneAt d) []) (ms.getD (oneAt d) []) ++ itemsB ones (ms.set (oneAt d) []) l else fieldB [32, 32] d ++ itemsB ones ms l
def messageB (m : Ms) : List UInt8 := lineB [wMessage, [32], m.name, [32, 123]] ++ itemsB m.ones (memsB m.ones.length m.F) m.F ++ (if m.res = [] then [] else resB m.res) ++ lineB [[125]]
def valB (v : Vl) : List UInt8 := lineB [[32, 32], v.name, [32, 61, 32], digB v.n, [59]]
def enumB (e : En) : List UInt8 := lineB [wEnum, [32], e.name, [32, 123]] ++ (e.V.map valB).flatten ++ lineB [[125]]
def fileB (f : Fl) : List UInt8 := (f.M.map messageB).flatten ++ (f.E.map enumB).flatten
theorem numsB_snoc (a : List UInt8) (l : List Int) (n : Int) : numsB a (l ++ [n]) = numsB a l ++ ((if l = [] then a else [44, 32]) ++ digB n) := by
  induction l generalizing a with
  | nil => simp [numsB]
  | cons x l ih =>
    rw [List.cons_append, numsB, ih]
    simp only [numsB, List.append_assoc, reduceCtorEq, if_false]
    split <;> rfl
end Go.Proofs.YtjmcpfckcajnjaaGreatDoor
/-
  Where tokens begin, and by which byte; how All ends.
-/
namespace Go.Proofs.YtjmcpfckcajnjaaGreatDoor
set_option maxRecDepth 100000

/-- A token at the beginning of what is left. -/
structure Good (l : List UInt8) (t : T) : Prop where
  kind : t.kind < 4
  str : t.kind = 2 ↔ l.head? = some 34
  ne : t.kind ≠ 2 → t.text ≠ []
  text : t.kind ≠ 2 → l.take t.text.length = t.text
theorem tk_good {it : Int → List UInt8} {l : List UInt8} {t : Tk} (h : tk it l = some t) (p : Nat) : Good l ⟨t.kind, t.text, t.num, p⟩ := by
  cases l with
  | nil => simp [tk] at h
  | cons c r =>
    have s1 := span_le isNext r
    have s2 := span_le isDigit r
    simp only [tk] at h
    by_cases h1 : isFirst c = true
    · rw [if_pos h1] at h
      injection h with h
      subst h
      have hc : c ≠ 34 := by rintro rfl; exact absurd h1 (by decide)
      exact ⟨by simp, by simp [hc], by simp, fun _ => by simp only [List.length_cons, List.length_take, Nat.min_eq_left s1, List.take_succ_cons]⟩
    · rw [if_neg h1] at h
      by_cases h2 : (isDigit c || c == 45) = true
      · rw [if_pos h2] at h
        simp only [Option.map_eq_some_iff] at h
        obtain ⟨n, _, rfl⟩ := h
        have hc : c ≠ 34 := by rintro rfl; exact absurd h2 (by decide)
        exact ⟨by simp, by simp [hc], by simp, fun _ => by simp only [List.length_cons, List.length_take, Nat.min_eq_left s2, List.take_succ_cons]⟩
      · rw [if_neg h2] at h
        by_cases h3 : (c == 34) = true
        · rw [if_pos h3] at h
          simp only [Option.map_eq_some_iff] at h
          obtain ⟨x, _, rfl⟩ := h
          have hc : c = 34 := by simpa using h3
          exact ⟨by simp, by simp [hc], by simp, by simp⟩
        · rw [if_neg h3] at h
          have hc : c ≠ 34 := by simpa using h3
          split at h
          · injection h with h
            subst h
            exact ⟨by simp, by simp [hc], by simp, fun _ => by simp⟩
          · cases h
section

variable {it : Int → List UInt8}

theorem lex_good : ∀ (l : List UInt8) (k p : Nat), ∀ t ∈ (lex it k p l).1, p + k ≤ t.at_ ∧ t.at_ < p + l.length ∧ Good (l.drop (t.at_ - p)) t
  | [], k, p, t, h => by cases k <;> simp [lex] at h
  | c :: r, k + 1, p, t, h => by
    simp only [lex] at h
    obtain ⟨h1, h2, h3⟩ := lex_good r k (p + 1) t h
    refine ⟨by omega, by simp only [List.length_cons]; omega, ?_⟩
    rw [show t.at_ - p = t.at_ - (p + 1) + 1 by omega, List.drop_succ_cons]
    exact h3
  | c :: r, 0, p, t, h => by
    simp only [lex] at h
    split at h
    · rename_i w _
      obtain ⟨h1, h2, h3⟩ := lex_good r w (p + 1) t h
      refine ⟨by omega, by simp only [List.length_cons]; omega, ?_⟩
      rw [show t.at_ - p = t.at_ - (p + 1) + 1 by omega, List.drop_succ_cons]
      exact h3
    · split at h
      · simp at h
      · rename_i x hx
        rcases List.mem_cons.1 h with rfl | h
        · refine ⟨by simp, by simp, ?_⟩
          simp only [Nat.sub_self, List.drop_zero]
          exact tk_good hx p
        · obtain ⟨h1, h2, h3⟩ := lex_good r x.more (p + 1) t h
          refine ⟨by omega, by simp only [List.length_cons]; omega, ?_⟩
          rw [show t.at_ - p = t.at_ - (p + 1) + 1 by omega, List.drop_succ_cons]
          exact h3
theorem lex_rise : ∀ (l : List UInt8) (k p : Nat), (lex it k p l).1.Pairwise fun a b => a.at_ < b.at_
  | [], k, p => by cases k <;> simp [lex]
  | c :: r, k + 1, p => by
    simp only [lex]
    exact lex_rise r k (p + 1)
  | c :: r, 0, p => by
    simp only [lex]
    split
    · exact lex_rise r _ (p + 1)
    · split
      · exact List.Pairwise.nil
      · rename_i x hx
        refine List.Pairwise.cons (fun b hb => ?_) (lex_rise r x.more (p + 1))
        have := (lex_good r x.more (p + 1) b hb).1
        show p < b.at_
        omega
theorem all_cases (L : List UInt8) :
    (allE it L = 0 ∧ allAt it L = L.length ∧ (allT it L).length ≤ 1000 ∧ allT it L = (lex it 0 0 L).1) ∨ (allT it L = [] ∧ allAt it L < L.length ∧ (allE it L = 4 ∨ allE it L = 2)) := by
  unfold allE allAt allT
  by_cases h5 : 5000 < L.length
  · right
    simp only [if_pos h5]
    exact ⟨trivial, by omega, .inr trivial⟩
  · simp only [if_neg h5]
    unfold ansT ansAt ansE
    by_cases h1 : 1000 < (lex it 0 0 L).1.length
    · right
      simp only [if_pos h1]
      refine ⟨trivial, ?_, .inr trivial⟩
      have hm := List.getElem_mem h1
      have hg := lex_good L 0 0 _ hm
      rw [List.getD_eq_getElem?_getD, List.getElem?_eq_getElem h1]
      simp only [Option.getD_some]
      omega
    · simp only [if_neg h1]
      cases h2 : (lex it 0 0 L).2 with
      | none =>
        left
        exact ⟨rfl, rfl, by simp; omega, by simp⟩
      | some q =>
        right
        have := lex_place L 0 0 q h2
        exact ⟨rfl, by simp; omega, .inl rfl⟩
end

end Go.Proofs.YtjmcpfckcajnjaaGreatDoor
/-
  Texts that are made of pieces: blanks, signs, and names and numbers with a blank or a sign behind them; what is told of their tokens.
-/
namespace Go.Proofs.YtjmcpfckcajnjaaGreatDoor
set_option maxRecDepth 100000

def nameOK (x : List UInt8) : Prop := (∃ c r, x = c :: r ∧ isFirst c = true ∧ ∀ d ∈ r, isNext d = true) ∧ x.length ≤ 1500
def inr (n : Int) : Prop := -9223372036854775808 ≤ n ∧ n ≤ 9223372036854775807
/-- A token of a text. -/
def tokOK (t : T) : Prop := (t.kind = 0 → nameOK t.text) ∧ (t.kind = 1 → inr t.num)
theorem lex_tokOK : ∀ (l : List UInt8) (k p : Nat), l.length ≤ 1500 → ∀ t ∈ (lex Lib.itoa k p l).1, tokOK t
  | [], k, p, _, t, h => by cases k <;> simp [lex] at h
  | c :: r, k + 1, p, hl, t, h => by
    simp only [lex] at h
    exact lex_tokOK r k (p + 1) (by simp at hl; omega) t h
  | c :: r, 0, p, hl, t, h => by
    have hl' : r.length ≤ 1500 := by simp at hl; omega
    simp only [lex] at h
    split at h
    · exact lex_tokOK r _ (p + 1) hl' t h
    · split at h
      · simp at h
      · rename_i x hx
        rcases List.mem_cons.1 h with rfl | h
        · have s1 := span_le isNext r
          simp only [tk] at hx
          by_cases h1 : isFirst c = true
          · rw [if_pos h1] at hx
            injection hx with hx
            subst hx
            refine ⟨fun _ => ⟨⟨c, _, rfl, h1, span_all isNext r⟩, ?_⟩, fun h => by simp at h⟩
            simp only [List.length_cons, List.length_take, Nat.min_eq_left s1]
            simp at hl
            omega
          · rw [if_neg h1] at hx
            by_cases h2 : (isDigit c || c == 45) = true
            · rw [if_pos h2] at hx
              simp only [Option.map_eq_some_iff] at hx
              obtain ⟨n, hn, rfl⟩ := hx
              exact ⟨fun h => by simp at h, fun _ => (numOf_some hn).2⟩
            · rw [if_neg h2] at hx
              by_cases h3 : (c == 34) = true
              · rw [if_pos h3] at hx
                simp only [Option.map_eq_some_iff] at hx
                obtain ⟨y, _, rfl⟩ := hx
                exact ⟨fun h => by simp at h, fun h => by simp at h⟩
              · rw [if_neg h3] at hx
                split at hx
                · injection hx with hx
                  subst hx
                  exact ⟨fun h => by simp at h, fun h => by simp at h⟩
                · cases hx
        · exact lex_tokOK r x.more (p + 1) hl' t h

/-! ### Pieces -/
inductive Pce where
  | bl (c : UInt8)
  | sg (c : UInt8)
  | nb (x : List UInt8)
  | ns (x : List UInt8) (c : UInt8)
  | us (n : Int) (c : UInt8)
def Pce.ok : Pce → Prop
  | .bl c => isBlank c = true
  | .sg c => isSign c = true
  | .nb x => nameOK x
  | .ns x c => nameOK x ∧ isSign c = true
  | .us n c => inr n ∧ isSign c = true
def Pce.byt : Pce → List UInt8
  | .bl c => [c]
  | .sg c => [c]
  | .nb x => x ++ [32]
  | .ns x c => x ++ [c]
  | .us n c => Lib.itoa n ++ [c]
def tSg (c : UInt8) : T := ⟨3, [c], 0, 0⟩
def tNm (x : List UInt8) : T := ⟨0, x, 0, 0⟩
def tNu (n : Int) : T := ⟨1, Lib.itoa n, n, 0⟩
def Pce.tks : Pce → List T
  | .bl _ => []
  | .sg c => [tSg c]
  | .nb x => [tNm x]
  | .ns x c => [tNm x, tSg c]
  | .us n c => [tNu n, tSg c]
def bytP (l : List Pce) : List UInt8 := l.flatMap Pce.byt
def tksP (l : List Pce) : List T := l.flatMap Pce.tks
def unAt (t : T) : T := { t with at_ := 0 }
/-- The tokens, but for where they are, and that there are no others. -/
def Lexed (l : List UInt8) (X : List T) : Prop := ∀ p, (lex Lib.itoa 0 p l).1.map unAt = X ∧ (lex Lib.itoa 0 p l).2 = none
theorem Lexed.nil : Lexed [] [] := fun p => by simp [lex]
theorem ws_hard {c : UInt8} (h1 : isBlank c = false) (h2 : c ≠ 47) (r : List UInt8) : ws false (c :: r) = 0 := by
  have h3 : (c == 47) = false := by simpa using h2
  simp [ws, h1, h3]
theorem Lexed.bl {c : UInt8} (h : isBlank c = true) {l : List UInt8} {X : List T} (hl : Lexed l X) : Lexed (c :: l) X := by
  intro p
  have e : lex Lib.itoa 0 p (c :: l) = lex Lib.itoa 0 (p + 1) l := by
    rw [lex_ws, show c :: l = [c] ++ l from rfl, ws_blanks [c] (by simpa using h), List.length_singleton]
    rw [show ([c] ++ l).drop (1 + ws false l) = l.drop (ws false l) by rw [Nat.add_comm]; rfl, ← Nat.add_assoc, ← lex_ws]
  rw [e]
  exact hl (p + 1)
theorem Lexed.tok {y : List UInt8} {k : Nat} {n : Int} {l : List UInt8} {X : List T} (hw : ws false (y ++ l) = 0) (hy : y ≠ []) (ht : tk Lib.itoa (y ++ l) = some ⟨k, y, n, y.length - 1⟩) (hl : Lexed l X) : Lexed (y ++ l) (⟨k, y, n, 0⟩ :: X) := by
  intro p
  have hpos : 0 < y.length := List.length_pos_iff.2 hy
  rw [lex_some hw ht]
  simp only
  rw [show y.length - 1 + 1 = y.length by omega, List.drop_left]
  obtain ⟨h1, h2⟩ := hl (p + (y.length - 1) + 1)
  exact ⟨by rw [List.map_cons, h1]; rfl, h2⟩
theorem sign_hard {c : UInt8} (h : isSign c = true) : isBlank c = false ∧ c ≠ 47 ∧ isFirst c = false ∧ (isDigit c || c == 45) = false ∧ (c == 34) = false ∧ isNext c = false ∧ isDigit c = false := by
  simp only [isSign, List.contains_eq_mem, List.mem_cons, List.not_mem_nil, or_false, decide_eq_true_eq] at h
  rcases h with rfl | rfl | rfl | rfl | rfl | rfl | rfl | rfl | rfl | rfl | rfl | rfl <;> decide
theorem Lexed.sg {c : UInt8} (h : isSign c = true) {l : List UInt8} {X : List T} (hl : Lexed l X) : Lexed (c :: l) (tSg c :: X) := by
  obtain ⟨h1, h2, h3, h4, h5, _, _⟩ := sign_hard h
  exact Lexed.tok (y := [c]) (ws_hard h1 h2 l) (by simp) (by simp [tk, h3, h4, h5, h]) hl
theorem first_hard {c : UInt8} (h : isFirst c = true) : isBlank c = false ∧ c ≠ 47 := by
  simp only [isFirst, Bool.or_eq_true, Bool.and_eq_true, decide_eq_true_eq, beq_iff_eq] at h
  constructor
  · simp only [isBlank, Bool.or_eq_false_iff, beq_eq_false_iff_ne]
    refine ⟨⟨⟨?_, ?_⟩, ?_⟩, ?_⟩ <;> (rintro rfl; simp at h)
  · rintro rfl; simp at h
theorem Lexed.nm {x : List UInt8} (h : nameOK x) {d : UInt8} (hd : isNext d = false) {l : List UInt8} {X : List T} (hl : Lexed (d :: l) X) : Lexed (x ++ d :: l) (tNm x :: X) := by
  obtain ⟨⟨c, r, rfl, hc, hr⟩, _⟩ := h
  obtain ⟨h1, h2⟩ := first_hard hc
  have hs : span isNext (r ++ d :: l) = r.length := by rw [span_app isNext d hd, span_whole isNext r hr]
  refine Lexed.tok (y := c :: r) (ws_hard h1 h2 _) (by simp) ?_ hl
  simp [tk, hc, hs]
theorem itoa_form (n : Int) : ∃ c r, Lib.itoa n = c :: r ∧ (c = 45 ∨ isDigit c = true) ∧ ∀ d ∈ r, isDigit d = true := by
  by_cases hn : n < 0
  · exact ⟨45, _, itoa_neg n hn, .inl rfl, dec_digits _⟩
  · rw [itoa_nonneg n (by omega)]
    have hd := dec_digits n.toNat
    cases hdd : Lib.decDigits n.toNat with
    | nil => exact absurd hdd (dec_ne _)
    | cons c r =>
      rw [hdd] at hd
      exact ⟨c, r, rfl, .inr (hd c (by simp)), fun d h => hd d (by simp [h])⟩
theorem num_hard {c : UInt8} (h : c = 45 ∨ isDigit c = true) : isBlank c = false ∧ c ≠ 47 ∧ isFirst c = false ∧ (isDigit c || c == 45) = true := by
  rcases h with rfl | h
  · decide
  · simp only [isDigit, Bool.and_eq_true, decide_eq_true_eq] at h
    refine ⟨?_, ?_, ?_, ?_⟩
    · simp only [isBlank, Bool.or_eq_false_iff, beq_eq_false_iff_ne]
      refine ⟨⟨⟨?_, ?_⟩, ?_⟩, ?_⟩ <;> (rintro rfl; simp at h)
    · rintro rfl; simp at h
    · have h95 : (c == 95) = false := by
        rw [beq_eq_false_iff_ne]; rintro rfl; simp at h
      simp only [isFirst, h95, Bool.or_false, Bool.or_eq_false_iff, Bool.and_eq_false_iff, decide_eq_false_iff_not]
      omega
    · simp [isDigit, h]
theorem Lexed.nu {n : Int} (h : inr n) {d : UInt8} (hd : isDigit d = false) {l : List UInt8} {X : List T} (hl : Lexed (d :: l) X) : Lexed (Lib.itoa n ++ d :: l) (tNu n :: X) := by
  obtain ⟨c, r, hc, hcc, hr⟩ := itoa_form n
  obtain ⟨h1, h2, h3, h4⟩ := num_hard hcc
  have hn := numOf_itoa h.1 h.2
  unfold tNu
  rw [hc] at hn ⊢
  have hs : span isDigit (r ++ d :: l) = r.length := by rw [span_app isDigit d hd, span_whole isDigit r hr]
  refine Lexed.tok (y := c :: r) (ws_hard h1 h2 _) (by simp) ?_ hl
  simp [tk, h3, h4, hs, hn]
theorem lexed_pcs : ∀ (l : List Pce), (∀ p ∈ l, p.ok) → Lexed (bytP l) (tksP l)
  | [], _ => Lexed.nil
  | q :: l, h => by
    have ih := lexed_pcs l fun p hp => h p (by simp [hp])
    have hq := h q (by simp)
    have e1 : bytP (q :: l) = q.byt ++ bytP l := by simp [bytP]
    have e2 : tksP (q :: l) = q.tks ++ tksP l := by simp [tksP]
    rw [e1, e2]
    cases q with
    | bl c => exact ih.bl hq
    | sg c => exact ih.sg hq
    | nb x =>
      simp only [Pce.byt, Pce.tks, List.append_assoc, List.singleton_append, List.cons_append, List.nil_append]
      exact Lexed.nm hq (by decide) (ih.bl (by decide))
    | ns x c =>
      simp only [Pce.byt, Pce.tks, List.append_assoc, List.singleton_append, List.cons_append, List.nil_append]
      exact Lexed.nm hq.1 (sign_hard hq.2).2.2.2.2.2.1 (ih.sg hq.2)
    | us n c =>
      simp only [Pce.byt, Pce.tks, List.append_assoc, List.singleton_append, List.cons_append, List.nil_append]
      exact Lexed.nu hq.1 (sign_hard hq.2).2.2.2.2.2.2 (ih.sg hq.2)
theorem bytP_app (a b : List Pce) : bytP (a ++ b) = bytP a ++ bytP b := by simp [bytP]
theorem tksP_app (a b : List Pce) : tksP (a ++ b) = tksP a ++ tksP b := by simp [tksP]
end Go.Proofs.YtjmcpfckcajnjaaGreatDoor
/-
  A set of keys as a map of the program: 'Free'; its laws at the operations: a key is put, taken out, asked for.
-/
namespace Go.Proofs.YtjmcpfckcajnjaaGreatDoor
set_option maxRecDepth 100000

open Go.RowKit Go.WideMaps Go.Maps

section

variable {α : Type} {K : TypeId} {ky : α → Lit}

/-- Block b is a map of at most n entries; its keys are those that p tells. -/
def Free (K : TypeId) (ky : α → Lit) (w : World) (b n : Nat) (p : α → Bool) : Prop := ∃ D : DataW Unit, w.ownsMap Tryz.prog K unitElem b n D ∧ ∀ x, has D (ky x) = p x
theorem Free.made (w : World) : Free K ky (w.alloc (.map #[] 0)) w.heap.size 0 (fun _ => false) := ⟨.map [], World.ownsMap_made w _ _ _, fun _ => rfl⟩
theorem Free.mono {w : World} {b n n' : Nat} {p : α → Bool} (h : Free K ky w b n p) (hn : n ≤ n') : Free K ky w b n' p := by
  obtain ⟨D, h1, h2⟩ := h
  exact ⟨D, h1.mono hn, h2⟩
theorem Free.lt {w : World} {b n : Nat} {p : α → Bool} (h : Free K ky w b n p) : b < w.heap.size := by
  obtain ⟨D, h1, _⟩ := h
  exact h1.lt
theorem Free.block {w w' : World} {b n : Nat} {p : α → Bool} (h : Free K ky w b n p) (hb : w'.heap[b]? = w.heap[b]?) : Free K ky w' b n p := by
  obtain ⟨D, ⟨es, clock, h1, h2⟩, h3⟩ := h
  exact ⟨D, ⟨es, clock, hb.trans h1, h2⟩, h3⟩
theorem Free.on {w w' : World} {b n : Nat} {p : α → Bool} (h : Free K ky w b n p) (hb : Below w.heap.size w w') : Free K ky w' b n p := h.block (hb.block b h.lt)
theorem Free.alloc {w : World} {b n : Nat} {p : α → Bool} (h : Free K ky w b n p) (o : Obj) : Free K ky (w.alloc o) b n p := h.on (below_new w o)
theorem Free.kept {w w' : World} {b n : Nat} {p : α → Bool} {row : Option Nat} (h : Free K ky w b n p) (hg : w.grownBy w' row) (hne : some b ≠ row) : Free K ky w' b n p := h.block (hg.block b h.lt hne)
theorem Free.eq {w : World} {b n : Nat} {p q : α → Bool} (h : Free K ky w b n p) (e : p = q) : Free K ky w b n q := e ▸ h

variable {w : World} {ops : Array Oper} {rest : List Oper} {o : Oper} {a : Act} {Q : Exit → Act → World → Prop}

theorem wpList_free_put [DecidableEq α] (hg : o.guard = none) (m x v : Operand) (T E : TypeId) (hop : o.op = Op.mapUpdate T m x v) (KK : Keyed Tryz.prog K) (ht : Tryz.prog.underlying T = some (.map K E)) (inj : ∀ x y, ky x = ky y → x = y) (lit : ∀ x, WideAt.IsKeyLit (ky x))
    (b n : Nat) (p : α → Bool) (hm : a.eval m = .map (some b)) (hown : Free K ky w b n p) (hn : n < 1000000000) (key : Value) (y : α) (hx : a.eval x = key) (hv : a.eval v = .agg #[]) (hkey : keyOf Tryz.prog K key = some (ky y))
    (hK : ∀ w', Free K ky w' b (n + 1) (fun z => p z || decide (z = y)) → w.grownBy w' (some b) → wpList Tryz.prog ops Q rest (a.put o.dst undef) w') : wpList Tryz.prog ops Q (o :: rest) a w := by
  obtain ⟨D, h1, h2⟩ := hown
  refine wpList_mapUpdate_own w hg m x v T hop K E KK ht unitElem b n D hm h1 (by unfold maxLen; omega) _ _ (ky y) hx hv hkey _ [] unitElem_mk ?_
  intro w' r1 r2
  refine hK w' ⟨_, r1, fun z => ?_⟩ r2
  by_cases hz : z = y
  · subst hz
    rw [has_put_same h1.isMap (lit z)]
    simp
  · rw [has_put_other (fun e => hz (inj _ _ e)), h2 z]
    simp [hz]
theorem wpList_free_del [DecidableEq α] (hg : o.guard = none) (m x : Operand) (T E : TypeId) (hop : o.op = Op.call { callee := Callee.builtin Builtin.delete, args := #[m, x], argTypes := #[T, K] }) (KK : Keyed Tryz.prog K) (ht : Tryz.prog.underlying T = some (.map K E)) (inj : ∀ x y, ky x = ky y → x = y)
    (b n : Nat) (p : α → Bool) (hm : a.eval m = .map (some b)) (hown : Free K ky w b n p) (key : Value) (y : α) (hx : a.eval x = key) (hkey : keyOf Tryz.prog K key = some (ky y))
    (hK : ∀ w', Free K ky w' b n (fun z => p z && decide (z ≠ y)) → w.grownBy w' (some b) → wpList Tryz.prog ops Q rest (a.put o.dst (.tuple #[])) w') : wpList Tryz.prog ops Q (o :: rest) a w := by
  obtain ⟨D, h1, h2⟩ := hown
  refine wpList_delete_own w hg m x T K hop E KK ht unitElem b n D hm h1 _ (ky y) hx hkey ?_
  intro w' r1 r2
  refine hK w' ⟨_, r1, fun z => ?_⟩ r2.grown
  by_cases hz : z = y
  · subst hz
    rw [has_del_same]
    simp
  · rw [has_del_other (fun e => hz (inj _ _ e)), h2 z]
    simp [hz]
theorem wpList_free_look (hg : o.guard = none) (m x : Operand) (T E : TypeId) (hop : o.op = Op.lookup T m x true) (KK : Keyed Tryz.prog K) (ht : Tryz.prog.underlying T = some (.map K E)) (hz : (zeroValue E).run Tryz.prog w = .ok (.agg #[]) w)
    (b n : Nat) (p : α → Bool) (hm : a.eval m = .map (some b)) (hown : Free K ky w b n p) (key : Value) (y : α) (hx : a.eval x = key) (hkey : keyOf Tryz.prog K key = some (ky y))
    (hK : wpList Tryz.prog ops Q rest (a.put o.dst (.tuple #[.agg #[], .bool (p y)])) w) : wpList Tryz.prog ops Q (o :: rest) a w := by
  obtain ⟨D, h1, h2⟩ := hown
  refine wpList_lookup_own_unit w hg m x T hop K E KK ht hz b n D hm h1 _ (ky y) hx hkey ?_
  rw [h2 y]
  exact hK
end

/-! ### The two kinds of keys -/

def kS (x : List UInt8) : Lit := .string x
def kI (n : Int) : Lit := .int .i64 n
theorem kS_inj (x y : List UInt8) (h : kS x = kS y) : x = y := by injection h
theorem kI_inj (x y : Int) (h : kI x = kI y) : x = y := by injection h
theorem kS_lit (x : List UInt8) : WideAt.IsKeyLit (kS x) := trivial
theorem kI_lit (x : Int) : WideAt.IsKeyLit (kI x) := trivial
theorem kS_law : Keyed Tryz.prog 9 := string_keyed Tryz.underlying9
theorem kI_law : Keyed Tryz.prog 2 := int_keyed Tryz.underlying2
theorem kS_key {x : List UInt8} (h : x.length ≤ maxLen) : keyOf Tryz.prog 9 (.string (txt x)) = some (kS x) := by
  have hs : (txt x).size ≤ maxLen := by simpa [txt, ByteArray.size] using h
  rw [keyOf_string_mk Tryz.underlying9 hs]
  rfl
theorem kI_key {n : Int} (h : inr n) : keyOf Tryz.prog 2 (.int .i64 n) = some (kI n) := by
  refine keyOf_int_mk Tryz.underlying2 ?_
  simp only [Lit.wf, Bool.and_eq_true, decide_eq_true_eq]
  exact ⟨by show (-9223372036854775808 : Int) ≤ _; unfold inr at h; omega, by show _ ≤ (9223372036854775807 : Int); unfold inr at h; omega⟩
end Go.Proofs.YtjmcpfckcajnjaaGreatDoor
/-
  The contracts of the functions of Go that this program calls, laid at this program: each is one application of the theorem that the library proves once.
-/
namespace Go.Proofs
open Go.Shelf
def Tryz.laysSlF06_f58_ren : Go.Shelf.Ren := ⟨fun | 6 => 58 | 15 => 107 | 14 => 106 | 28 => 143 | 29 => 144 | 20 => 135 | 21 => 136 | 22 => 137 | 23 => 138 | 24 => 139 | 25 => 140 | 26 => 141 | 27 => 142 | 46 => 168 | 47 => 169 | 48 => 170 | 49 => 171 | 50 => 172 | 57 => 182 | n => n, fun | 22 => 26 | 24 => 36 | 25 => 82 | 3 => 3 | 39 => 126 | 0 => 0 | 53 => 165 | 55 => 167 | 4 => 4 | 46 => 159 | 45 => 158 | 50 => 99 | 5 => 5 | 9 => 9 | 66 => 179 | 70 => 183 | 76 => 194 | 77 => 195 | n => n, fun | n => n⟩
theorem Tryz.laysSlF06_f58 : Go.Proofs.SlLaysF0.n6 Tryz.prog Tryz.laysSlF06_f58_ren := {
  mixed := by kernel_rfl
  f6 := ⟨Tryz.f58.name, by decide, Tryz.func58.trans (congrArg some (by kernel_rfl))⟩
  f14 := ⟨Tryz.f106.name, by decide, Tryz.func106.trans (congrArg some (by kernel_rfl))⟩
  f15 := Tryz.func107.trans (congrArg some (by kernel_rfl))
  f20 := ⟨Tryz.f135.name, by decide, Tryz.func135.trans (congrArg some (by kernel_rfl))⟩
  f21 := ⟨Tryz.f136.name, by decide, Tryz.func136.trans (congrArg some (by kernel_rfl))⟩
  f22 := ⟨Tryz.f137.name, by decide, Tryz.func137.trans (congrArg some (by kernel_rfl))⟩
  f23 := ⟨Tryz.f138.name, by decide, Tryz.func138.trans (congrArg some (by kernel_rfl))⟩
  f24 := ⟨Tryz.f139.name, by decide, Tryz.func139.trans (congrArg some (by kernel_rfl))⟩
  f25 := ⟨Tryz.f140.name, by decide, Tryz.func140.trans (congrArg some (by kernel_rfl))⟩
  f26 := ⟨Tryz.f141.name, by decide, Tryz.func141.trans (congrArg some (by kernel_rfl))⟩
  f27 := ⟨Tryz.f142.name, by decide, Tryz.func142.trans (congrArg some (by kernel_rfl))⟩
  f28 := Tryz.func143.trans (congrArg some (by kernel_rfl))
  f29 := Tryz.func144.trans (congrArg some (by kernel_rfl))
  f46 := ⟨Tryz.f168.name, by decide, Tryz.func168.trans (congrArg some (by kernel_rfl))⟩
  f47 := Tryz.func169.trans (congrArg some (by kernel_rfl))
  f48 := Tryz.func170.trans (congrArg some (by kernel_rfl))
  f49 := ⟨Tryz.f171.name, by decide, Tryz.func171.trans (congrArg some (by kernel_rfl))⟩
  f50 := ⟨Tryz.f172.name, by decide, Tryz.func172.trans (congrArg some (by kernel_rfl))⟩
  f57 := ⟨Tryz.f182.name, by decide, Tryz.func182.trans (congrArg some (by kernel_rfl))⟩
  t0 := Tryz.underlying0
  a0 := Tryz.isAgg0
  z0 := Tryz.sizeOf0
  v0 := Tryz.zeroValue0
  t3 := Tryz.underlying3
  a3 := Tryz.isAgg3
  z3 := Tryz.sizeOf3
  v3 := Tryz.zeroValue3
  t4 := Tryz.underlying4
  a4 := Tryz.isAgg4
  z4 := Tryz.sizeOf4
  v4 := Tryz.zeroValue4
  t5 := Tryz.underlying5
  a5 := Tryz.isAgg5
  z5 := Tryz.sizeOf5
  v5 := Tryz.zeroValue5
  t9 := Tryz.underlying9
  a9 := Tryz.isAgg9
  z9 := Tryz.sizeOf9
  v9 := Tryz.zeroValue9
  t22 := Tryz.underlying26
  a22 := Tryz.isAgg26
  z22 := Tryz.sizeOf26
  v22 := Tryz.zeroValue26
  t25 := Tryz.underlying82
  a25 := Tryz.isAgg82
  z25 := Tryz.sizeOf82
  v25 := Tryz.zeroValue82
  t39 := Tryz.underlying126
  a39 := Tryz.isAgg126
  z39 := Tryz.sizeOf126
  v39 := Tryz.zeroValue126
  t45 := Tryz.underlying158
  a45 := Tryz.isAgg158
  z45 := Tryz.sizeOf158
  v45 := Tryz.zeroValue158
  t46 := Tryz.underlying159
  a46 := Tryz.isAgg159
  z46 := Tryz.sizeOf159
  v46 := Tryz.zeroValue159
  t50 := Tryz.underlying99
  a50 := Tryz.isAgg99
  z50 := Tryz.sizeOf99
  v50 := Tryz.zeroValue99
  t53 := Tryz.underlying165
  a53 := Tryz.isAgg165
  z53 := Tryz.sizeOf165
  v53 := Tryz.zeroValue165
  t55 := Tryz.underlying167
  a55 := Tryz.isAgg167
  z55 := Tryz.sizeOf167
  v55 := Tryz.zeroValue167
  t66 := Tryz.underlying179
  a66 := Tryz.isAgg179
  z66 := Tryz.sizeOf179
  v66 := Tryz.zeroValue179
  t70 := Tryz.underlying183
  a70 := Tryz.isAgg183
  z70 := Tryz.sizeOf183
  v70 := Tryz.zeroValue183
  t76 := Tryz.underlying194
  a76 := Tryz.isAgg194
  z76 := Tryz.sizeOf194
  v76 := Tryz.zeroValue194
  t77 := Tryz.underlying195
  a77 := Tryz.isAgg195
  z77 := Tryz.sizeOf195
  v77 := Tryz.zeroValue195 }
def Tryz.laysSlF06_f133_ren : Go.Shelf.Ren := ⟨fun | 6 => 133 | 15 => 107 | 14 => 167 | 28 => 143 | 29 => 144 | 20 => 174 | 21 => 175 | 22 => 176 | 23 => 177 | 24 => 178 | 25 => 179 | 26 => 180 | 27 => 181 | 46 => 184 | 47 => 169 | 48 => 170 | 49 => 185 | 50 => 186 | 57 => 187 | n => n, fun | 22 => 34 | 24 => 31 | 25 => 156 | 3 => 3 | 39 => 126 | 0 => 0 | 53 => 165 | 55 => 167 | 4 => 4 | 46 => 159 | 45 => 158 | 50 => 99 | 5 => 5 | 9 => 9 | 66 => 179 | 70 => 183 | 76 => 194 | 77 => 195 | n => n, fun | n => n⟩
theorem Tryz.laysSlF06_f133 : Go.Proofs.SlLaysF0.n6 Tryz.prog Tryz.laysSlF06_f133_ren := {
  mixed := by kernel_rfl
  f6 := ⟨Tryz.f133.name, by decide, Tryz.func133.trans (congrArg some (by kernel_rfl))⟩
  f14 := ⟨Tryz.f167.name, by decide, Tryz.func167.trans (congrArg some (by kernel_rfl))⟩
  f15 := Tryz.func107.trans (congrArg some (by kernel_rfl))
  f20 := ⟨Tryz.f174.name, by decide, Tryz.func174.trans (congrArg some (by kernel_rfl))⟩
  f21 := ⟨Tryz.f175.name, by decide, Tryz.func175.trans (congrArg some (by kernel_rfl))⟩
  f22 := ⟨Tryz.f176.name, by decide, Tryz.func176.trans (congrArg some (by kernel_rfl))⟩
  f23 := ⟨Tryz.f177.name, by decide, Tryz.func177.trans (congrArg some (by kernel_rfl))⟩
  f24 := ⟨Tryz.f178.name, by decide, Tryz.func178.trans (congrArg some (by kernel_rfl))⟩
  f25 := ⟨Tryz.f179.name, by decide, Tryz.func179.trans (congrArg some (by kernel_rfl))⟩
  f26 := ⟨Tryz.f180.name, by decide, Tryz.func180.trans (congrArg some (by kernel_rfl))⟩
  f27 := ⟨Tryz.f181.name, by decide, Tryz.func181.trans (congrArg some (by kernel_rfl))⟩
  f28 := Tryz.func143.trans (congrArg some (by kernel_rfl))
  f29 := Tryz.func144.trans (congrArg some (by kernel_rfl))
  f46 := ⟨Tryz.f184.name, by decide, Tryz.func184.trans (congrArg some (by kernel_rfl))⟩
  f47 := Tryz.func169.trans (congrArg some (by kernel_rfl))
  f48 := Tryz.func170.trans (congrArg some (by kernel_rfl))
  f49 := ⟨Tryz.f185.name, by decide, Tryz.func185.trans (congrArg some (by kernel_rfl))⟩
  f50 := ⟨Tryz.f186.name, by decide, Tryz.func186.trans (congrArg some (by kernel_rfl))⟩
  f57 := ⟨Tryz.f187.name, by decide, Tryz.func187.trans (congrArg some (by kernel_rfl))⟩
  t0 := Tryz.underlying0
  a0 := Tryz.isAgg0
  z0 := Tryz.sizeOf0
  v0 := Tryz.zeroValue0
  t3 := Tryz.underlying3
  a3 := Tryz.isAgg3
  z3 := Tryz.sizeOf3
  v3 := Tryz.zeroValue3
  t4 := Tryz.underlying4
  a4 := Tryz.isAgg4
  z4 := Tryz.sizeOf4
  v4 := Tryz.zeroValue4
  t5 := Tryz.underlying5
  a5 := Tryz.isAgg5
  z5 := Tryz.sizeOf5
  v5 := Tryz.zeroValue5
  t9 := Tryz.underlying9
  a9 := Tryz.isAgg9
  z9 := Tryz.sizeOf9
  v9 := Tryz.zeroValue9
  t22 := Tryz.underlying34
  a22 := Tryz.isAgg34
  z22 := Tryz.sizeOf34
  v22 := Tryz.zeroValue34
  t25 := Tryz.underlying156
  a25 := Tryz.isAgg156
  z25 := Tryz.sizeOf156
  v25 := Tryz.zeroValue156
  t39 := Tryz.underlying126
  a39 := Tryz.isAgg126
  z39 := Tryz.sizeOf126
  v39 := Tryz.zeroValue126
  t45 := Tryz.underlying158
  a45 := Tryz.isAgg158
  z45 := Tryz.sizeOf158
  v45 := Tryz.zeroValue158
  t46 := Tryz.underlying159
  a46 := Tryz.isAgg159
  z46 := Tryz.sizeOf159
  v46 := Tryz.zeroValue159
  t50 := Tryz.underlying99
  a50 := Tryz.isAgg99
  z50 := Tryz.sizeOf99
  v50 := Tryz.zeroValue99
  t53 := Tryz.underlying165
  a53 := Tryz.isAgg165
  z53 := Tryz.sizeOf165
  v53 := Tryz.zeroValue165
  t55 := Tryz.underlying167
  a55 := Tryz.isAgg167
  z55 := Tryz.sizeOf167
  v55 := Tryz.zeroValue167
  t66 := Tryz.underlying179
  a66 := Tryz.isAgg179
  z66 := Tryz.sizeOf179
  v66 := Tryz.zeroValue179
  t70 := Tryz.underlying183
  a70 := Tryz.isAgg183
  z70 := Tryz.sizeOf183
  v70 := Tryz.zeroValue183
  t76 := Tryz.underlying194
  a76 := Tryz.isAgg194
  z76 := Tryz.sizeOf194
  v76 := Tryz.zeroValue194
  t77 := Tryz.underlying195
  a77 := Tryz.isAgg195
  z77 := Tryz.sizeOf195
  v77 := Tryz.zeroValue195 }
open Go.RowKit Go.Lib Go.Sort in
theorem Tryz.slices_SortFunc_f58 {α : Type} [Inhabited α] (k : Nat) (aE : ∀ w, (isAgg 36).run Tryz.prog w = .ok true w) (zE : ∀ w, (Go.sizeOf 36).run Tryz.prog w = .ok k w) (enc : α → List Value) (hk : ∀ x, (enc x).length = k) (h1 : ∀ x, ∀ v ∈ enc x, v.oneCell' = true) (cf : α → α → Int) (hO : SWO (ltOf cf)) (g : Nat) (cb : Array Value) (blk off cap : Nat) (d : Array α) (w : World) (eg : ∀ args w, (callFunc g args).run Tryz.prog w = .ok (.enter g args) w) (hcmp : CmpLays Tryz.prog g cb enc k cf blk off d.size w) (hH : HoldsK enc k w blk off d) (hblk : blk < w.heap.size) (hsz : d.size < 4611686018427387904) :
    Calls Tryz.prog 58 #[.slice (some ⟨blk, off, none⟩) d.size cap, .func (.func g) #[] cb] w fun e w' =>
      e = .returned (.tuple #[]) ∧ ∃ d' n os, PermIn 0 d.size d d' ∧ SortedIn (ltOf cf) 0 d.size d' ∧ w' = sortWorldK enc k w blk off n d' os := AnyQ.slices_SortFunc Tryz.laysSlF06_f58 k aE zE enc hk h1 cf hO g cb blk off cap d w eg hcmp hH hblk hsz
open Go.RowKit Go.Lib Go.Sort in
theorem Tryz.slices_SortFunc_f133 {α : Type} [Inhabited α] (k : Nat) (aE : ∀ w, (isAgg 31).run Tryz.prog w = .ok true w) (zE : ∀ w, (Go.sizeOf 31).run Tryz.prog w = .ok k w) (enc : α → List Value) (hk : ∀ x, (enc x).length = k) (h1 : ∀ x, ∀ v ∈ enc x, v.oneCell' = true) (cf : α → α → Int) (hO : SWO (ltOf cf)) (g : Nat) (cb : Array Value) (blk off cap : Nat) (d : Array α) (w : World) (eg : ∀ args w, (callFunc g args).run Tryz.prog w = .ok (.enter g args) w) (hcmp : CmpLays Tryz.prog g cb enc k cf blk off d.size w) (hH : HoldsK enc k w blk off d) (hblk : blk < w.heap.size) (hsz : d.size < 4611686018427387904) :
    Calls Tryz.prog 133 #[.slice (some ⟨blk, off, none⟩) d.size cap, .func (.func g) #[] cb] w fun e w' =>
      e = .returned (.tuple #[]) ∧ ∃ d' n os, PermIn 0 d.size d d' ∧ SortedIn (ltOf cf) 0 d.size d' ∧ w' = sortWorldK enc k w blk off n d' os := AnyQ.slices_SortFunc Tryz.laysSlF06_f133 k aE zE enc hk h1 cf hO g cb blk off cap d w eg hcmp hH hblk hsz
open Go.RowKit Go.Lib Go.Sort in
theorem Tryz.slices_SortFunc_none_f58 {α : Type} [Inhabited α] (p : Option Addr) (cap : Nat) (fv : Value) (w : World) :
    Calls Tryz.prog 58 #[.slice p 0 cap, fv] w fun e w' => e = .returned (.tuple #[]) ∧ w' = w := AnyF.slices_SortFunc_none Tryz.laysSlF06_f58 p cap fv w
open Go.RowKit Go.Lib Go.Sort in
theorem Tryz.slices_SortFunc_none_f133 {α : Type} [Inhabited α] (p : Option Addr) (cap : Nat) (fv : Value) (w : World) :
    Calls Tryz.prog 133 #[.slice p 0 cap, fv] w fun e w' => e = .returned (.tuple #[]) ∧ w' = w := AnyF.slices_SortFunc_none Tryz.laysSlF06_f133 p cap fv w
end Go.Proofs
/-
  Package-level variables: an array of numbers that lies in its own block, and that nothing turns.
-/
namespace Go.Proofs.YtjmcpfckcajnjaaGreatDoor
set_option maxRecDepth 100000

open Go.RowKit

/-- The block g holds these cells. -/
def TabAt (w : World) (g : Nat) (cs : Array Value) : Prop := ∃ t fr, w.heap[g]? = some (.cells cs t fr)
theorem TabAt.on {w w' : World} {g : Nat} {cs : Array Value} (h : TabAt w g cs) (hb : Below w.heap.size w w') : TabAt w' g cs := by
  obtain ⟨t, fr, h⟩ := h
  exact ⟨t, fr, (hb.block g (Array.getElem?_eq_some_iff.1 h).1).trans h⟩
theorem TabAt.of_var {P : Program} {w : World} {n : String} {g : Nat} {cs : Array Value} (hg : P.globalNamed n = some g) (h : w.var? P n = some cs) : TabAt w g cs := by
  simp only [World.var?, hg, Option.bind_some] at h
  split at h
  · rename_i c t fr hb
    cases h
    exact ⟨t, fr, hb⟩
  · cases h
end Go.Proofs.YtjmcpfckcajnjaaGreatDoor
/-
  Nothing of Go's own packages is laid here but what the contracts of these texts name.
-/

/-
  The package-level variables of Go's own packages that this program reads, and the contracts of the functions of Go that it calls.
-/
namespace Go.Proofs.YtjmcpfckcajnjaaGreatDoor
set_option maxRecDepth 100000

open Go.RowKit

theorem var_on {P : Program} {n : String} {w w' : World} {cs : Array Value} (h : w.var? P n = some cs) (hb : Below w.heap.size w w') : w'.var? P n = some cs := by
  unfold World.var? at h ⊢
  cases hg : P.globalNamed n with
  | none => simp [hg] at h
  | some g =>
    simp only [hg, Option.bind_some] at h ⊢
    have hlt : g < w.heap.size := by
      rcases Nat.lt_or_ge g w.heap.size with h' | h'
      · exact h'
      · rw [Array.getElem?_eq_none h'] at h; simp at h
    rw [hb.block g hlt]
    exact h
/-- The table of powers of ten, and the two errors of numbers, lie there. -/
structure Laid (w : World) : Prop where
  tab : Lib.TabIs Tryz.prog w "internal/strconv.uint64pow10" .u64 Lib.pow10Tab
  syn : ∃ tp p, w.var? Tryz.prog "strconv.ErrSyntax" = some #[.iface tp p]
  ran : ∃ tp p, w.var? Tryz.prog "strconv.ErrRange" = some #[.iface tp p]
theorem Laid.on {w w' : World} (h : Laid w) (hb : Below w.heap.size w w') : Laid w' := by
  obtain ⟨h1, ⟨t2, p2, h2⟩, ⟨t3, p3, h3⟩⟩ := h
  exact ⟨var_on h1 hb, ⟨t2, p2, var_on h2 hb⟩, ⟨t3, p3, var_on h3 hb⟩⟩
theorem below_grows (w : World) (k : Nat) (os : Array Obj) : Below w.heap.size w (Go.Sort.grow (w.drewN k) os) :=
  ⟨rfl, rfl, rfl, by simp [Go.Sort.grow], fun i hi => by simp only [Go.Sort.grow]; rw [Array.getElem?_append_left (by simpa using hi)]; rfl⟩

theorem prefix_any (s p : ByteArray) (w : World) :
    Calls Tryz.prog 173 #[.string s, .string p] w fun e w' => e = .returned (.bool (Lib.hasPrefix s.data.toList p.data.toList)) ∧ w = w' := by
  rw [← Lib.hasPrefix_of_take, ← Lib.size_eq, ← Lib.size_eq]
  go_enter Tryz.func173, Tryz.ntmps173
  go_wp2
  · rename_i h
    go_ret
    refine ⟨?_, rfl⟩
    show Ending.returned (Value.bool ((s.extract 0 p.size).toList == p.toList)) = _
    rw [Lib.extract_toList, Lib.toList_data]
    simp [h]
  · rename_i h
    go_ret
    refine ⟨?_, rfl⟩
    show Ending.returned (Value.bool false) = _
    simp [h]
end Go.Proofs.YtjmcpfckcajnjaaGreatDoor
