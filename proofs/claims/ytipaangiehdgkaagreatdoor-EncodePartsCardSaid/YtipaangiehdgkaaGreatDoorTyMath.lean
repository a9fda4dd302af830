/-
  What is resolved of a file that is right: it may be, its fields are found, the order of fields does not matter, a message more changes nothing.
-/
import Derived.Test.YtipaangiehdgkaaGreatDoorTabMath
import Derived.Test.YtipaangiehdgkaaGreatDoorTrDeep
import Derived.Laws.BytesArg
import Derived.Laws.RangeAny
import Derived.Lib.Strings
import Derived.Lib.OthersKept
import Derived.Deep.QuietTactic
import Derived.BigQuiet
import Derived.Deep.WholeRow
import Derived.Great.BuildSlice
namespace Go.Proofs.YtipaangiehdgkaaGreatDoor
set_option maxRecDepth 100000

/-! ### Schemas that may be -/

structure DfMay (s : Sc) (d : Df) : Prop where
  num : numberB d.no = true
  k0 : 0 ≤ d.kind
  k9 : d.kind ≤ 9
  o0 : 0 ≤ d.one
  o30 : d.one ≤ 30
  r0 : 0 ≤ d.ref
  ref : d.ref ≤ (if d.kind = 9 then (s.M.length : Int) - 1 else if d.kind = 6 then (s.E.length : Int) - 1 else 0)
  key : d.key = -1 ∨ (keyedB d.key = true ∧ d.rep = false)
  alone : d.one = 0 ∨ (d.rep = false ∧ d.key = -1)
structure MdMay (s : Sc) (m : Md) : Prop where
  few : m.F.length ≤ 30
  rise : m.F.Pairwise fun a b => a.no < b.no
  names : m.F.Pairwise fun a b => a.name ≠ b.name
  each : ∀ d ∈ m.F, DfMay s d
structure EdMay (e : Ed) : Prop where
  some_ : 1 ≤ e.V.length
  few : e.V.length ≤ 30
  same : e.N.length = e.V.length
  zero : e.N[0]? = some 0
  names : e.V.Pairwise (· ≠ ·)
  nums : e.N.Pairwise (· ≠ ·)
  each : ∀ n ∈ e.N, -2147483648 ≤ n ∧ n ≤ 2147483647
def namesS (s : Sc) : List (List UInt8) := s.M.map (·.name) ++ s.E.map (·.name)
structure ScMay (s : Sc) : Prop where
  some_ : 1 ≤ s.M.length
  fewM : s.M.length ≤ 20
  fewE : s.E.length ≤ 20
  names : (namesS s).Pairwise (· ≠ ·)
  plain : ∀ x ∈ namesS s, typeK x = none
  M : ∀ m ∈ s.M, MdMay s m
  E : ∀ e ∈ s.E, EdMay e

/-! ### Sorting -/

theorem insF_perm (d : Df) : ∀ l : List Df, (insF d l).Perm (d :: l)
  | [] => List.Perm.refl _
  | x :: l => by
    unfold insF
    split
    · exact List.Perm.refl _
    · exact ((insF_perm d l).cons x).trans (List.Perm.swap d x l)
theorem sort_perm : ∀ (l acc : List Df), (l.foldl (fun o d => insF d o) acc).Perm (acc ++ l)
  | [], acc => by simp
  | d :: l, acc => by
    rw [List.foldl_cons]
    refine (sort_perm l (insF d acc)).trans ?_
    refine ((insF_perm d acc).append_right l).trans ?_
    exact List.perm_middle.symm
theorem sortF_perm (l : List Df) : (sortF l).Perm l := by simpa [sortF] using sort_perm l []
theorem insF_rise {d : Df} : ∀ {l : List Df}, l.Pairwise (fun a b => a.no < b.no) → (∀ x ∈ l, x.no ≠ d.no) → (insF d l).Pairwise fun a b => a.no < b.no
  | [], _, _ => by simp [insF]
  | x :: l, h, hd => by
    obtain ⟨h1, h2⟩ := List.pairwise_cons.1 h
    have hx := hd x (by simp)
    unfold insF
    split
    · rename_i hlt
      refine List.pairwise_cons.2 ⟨fun y hy => ?_, h⟩
      rcases List.mem_cons.1 hy with rfl | hy
      · exact hlt
      · have := h1 y hy; omega
    · refine List.pairwise_cons.2 ⟨fun y hy => ?_, insF_rise h2 fun y hy => hd y (by simp [hy])⟩
      rcases List.mem_cons.1 ((insF_perm d l).mem_iff.1 hy) with rfl | hy
      · omega
      · exact h1 y hy
theorem sort_rise : ∀ (l acc : List Df), acc.Pairwise (fun a b => a.no < b.no) → (acc ++ l).Pairwise (fun a b => a.no ≠ b.no) → (l.foldl (fun o d => insF d o) acc).Pairwise fun a b => a.no < b.no
  | [], acc, h, _ => h
  | d :: l, acc, h, hp => by
    rw [List.foldl_cons]
    have hd : ∀ x ∈ acc, x.no ≠ d.no := fun x hx => (List.pairwise_append.1 hp).2.2 x hx d (by simp)
    refine sort_rise l (insF d acc) (insF_rise h hd) ?_
    have hperm : (insF d acc ++ l).Perm (acc ++ d :: l) := ((insF_perm d acc).append_right l).trans List.perm_middle.symm
    exact (hperm.pairwise_iff (fun hab => fun e => hab e.symm)).2 hp
theorem sortF_rise {l : List Df} (h : l.Pairwise fun a b => a.no ≠ b.no) : (sortF l).Pairwise fun a b => a.no < b.no := sort_rise l [] List.Pairwise.nil (by simpa using h)
/-- Two lists that rise and have the same elements are one. -/
theorem rise_unique : ∀ {l m : List Df}, l.Pairwise (fun a b => a.no < b.no) → m.Pairwise (fun a b => a.no < b.no) → l.Perm m → l = m
  | [], m, _, _, h => (List.nil_perm.1 h).symm
  | x :: l, [], _, _, h => absurd h.length_eq (by simp)
  | x :: l, y :: m, h1, h2, h => by
    obtain ⟨a1, a2⟩ := List.pairwise_cons.1 h1
    obtain ⟨b1, b2⟩ := List.pairwise_cons.1 h2
    have hx : x ∈ y :: m := h.mem_iff.1 (by simp)
    have hy : y ∈ x :: l := h.mem_iff.2 (by simp)
    have e : x = y := by
      rcases List.mem_cons.1 hx with e | hx
      · exact e
      · rcases List.mem_cons.1 hy with e | hy
        · exact e.symm
        · have := b1 x hx
          have := a1 y hy
          omega
    subst e
    rw [rise_unique a2 b2 (List.perm_cons x |>.1 h)]

/-! ### What a type is -/

theorem typeK_vals {x : List UInt8} {k : Nat} (h : typeK x = some k) : k = 0 ∨ k = 1 ∨ k = 2 ∨ k = 3 ∨ k = 4 ∨ k = 5 ∨ k = 7 ∨ k = 8 := by
  unfold typeK at h
  repeat' (split at h)
  all_goals first | (obtain rfl := Option.some.inj h; simp) | cases h
theorem kindF_vals {f : Fl} {x : List UInt8} {k r : Int} (h : kindF f x = some (k, r)) : 0 ≤ k ∧ k ≤ 9 ∧ 0 ≤ r ∧ r ≤ (if k = 9 then (f.M.length : Int) - 1 else if k = 6 then (f.E.length : Int) - 1 else 0) := by
  unfold kindF at h
  split at h
  · rename_i q hq
    have hv := typeK_vals hq
    obtain ⟨rfl, rfl⟩ : (q : Int) = k ∧ (0 : Int) = r := by simpa using h
    have h9 : ¬ (q : Int) = 9 := by omega
    have h6 : ¬ (q : Int) = 6 := by omega
    rw [if_neg h9, if_neg h6]
    omega
  · split at h
    · rename_i hlt
      obtain ⟨rfl, rfl⟩ : (9 : Int) = k ∧ ((namesF f).idxOf x : Int) = r := by simpa using h
      simp only [if_true]
      omega
    · rename_i hlt
      split at h
      · rename_i hlt2
        obtain ⟨rfl, rfl⟩ : (6 : Int) = k ∧ (((namesF f).idxOf x - f.M.length : Nat) : Int) = r := by simpa using h
        rw [names_length] at hlt2
        have h9 : ¬ (6 : Int) = 9 := by omega
        rw [if_neg h9]
        simp only [if_true]
        omega
      · cases h
theorem keyOK_key {x : List UInt8} (h : keyOK x = true) : ∃ k, typeK x = some k ∧ keyedB k = true := by
  unfold keyOK at h
  cases hk : typeK x with
  | none => rw [hk] at h; cases h
  | some k => rw [hk] at h; exact ⟨k, rfl, h⟩
theorem defF_may {f : Fl} {m : Ms} {x : Fd} (hm : MsGood f m) (h : FdGood f m x) : DfMay (schF f) (defF f x) := by
  obtain ⟨⟨k, r⟩, hk⟩ := Option.isSome_iff_exists.1 h.type
  obtain ⟨v1, v2, v3, v4⟩ := kindF_vals hk
  have e1 : (defF f x).kind = k := by simp [defF, hk]
  have e2 : (defF f x).ref = r := by simp [defF, hk]
  refine ⟨h.num, by rw [e1]; exact v1, by rw [e1]; exact v2, h.lo, ?_, by rw [e2]; exact v3, ?_, ?_, ?_⟩
  · have := h.hi
    have := hm.onesFew
    show x.one ≤ 30
    omega
  · rw [e1, e2]
    simpa [schF] using v4
  · by_cases hx : x.key = []
    · exact .inl (by simp [defF, hx])
    · right
      obtain ⟨q, q1, q2⟩ := keyOK_key (h.key hx)
      refine ⟨by simp [defF, hx, q1, q2], ?_⟩
      cases hr : x.rep
      · exact hr
      · exact absurd ⟨hr, hx⟩ h.two
  · by_cases h0 : x.one = 0
    · exact .inl h0
    · right
      obtain ⟨a1, a2⟩ := h.alone (by have := h.lo; omega)
      exact ⟨a1, by simp [defF, a2]⟩
theorem defs_ne {f : Fl} {m : Ms} (h : MsGood f m) : (m.F.map (defF f)).Pairwise (fun a b => a.no ≠ b.no) ∧ (m.F.map (defF f)).Pairwise fun a b => a.name ≠ b.name := by
  rw [List.pairwise_map, List.pairwise_map]
  exact ⟨h.two.imp fun {a b} hab => hab.2, h.two.imp fun {a b} hab => hab.1⟩
theorem msgD_may {f : Fl} {m : Ms} (h : MsGood f m) : MdMay (schF f) (msgD f m) := by
  obtain ⟨h1, h2⟩ := defs_ne h
  have hp := sortF_perm (m.F.map (defF f))
  refine ⟨?_, sortF_rise h1, (hp.pairwise_iff (fun hab => fun e => hab e.symm)).2 h2, fun d hd => ?_⟩
  · show (sortF (m.F.map (defF f))).length ≤ 30
    rw [hp.length_eq, List.length_map]; exact h.few
  · obtain ⟨x, hx, rfl⟩ := List.mem_map.1 (hp.mem_iff.1 hd)
    exact defF_may h (h.each x hx)
theorem enD_may {e : En} (h : EnGood e) : EdMay (enD e) := by
  refine ⟨by simpa [enD] using h.some_, by simpa [enD] using h.few, by simp [enD], ?_, ?_, ?_, fun n hn => ?_⟩
  · have hlt : 0 < e.V.length := h.some_
    have h0 := h.zero _ (List.getElem?_eq_getElem hlt)
    simp only [enD, List.getElem?_map, List.getElem?_eq_getElem hlt, Option.map_some, h0]
  · simp only [enD, List.pairwise_map]; exact h.two.imp fun {a b} hab => hab.1
  · simp only [enD, List.pairwise_map]; exact h.two.imp fun {a b} hab => hab.2
  · simp only [enD, List.mem_map] at hn
    obtain ⟨v, hv, rfl⟩ := hn
    exact h.each v hv
theorem namesS_sch (f : Fl) : namesS (schF f) = namesF f := by simp [namesS, schF, namesF, msgD, enD, Function.comp_def]
theorem sch_may {f : Fl} (h : FlGood f) : ScMay (schF f) := by
  refine ⟨by simpa [schF] using h.some_, by simpa [schF] using h.fewM, by simpa [schF] using h.fewE, by rw [namesS_sch]; exact h.names, by rw [namesS_sch]; exact h.plain, fun m hm => ?_, fun e he => ?_⟩
  · obtain ⟨x, hx, rfl⟩ := List.mem_map.1 hm
    exact msgD_may (h.M x hx)
  · obtain ⟨x, hx, rfl⟩ := List.mem_map.1 he
    exact enD_may (h.E x hx)

/-! ### What is found -/

def msgAt (s : Sc) (m : Int) : Option Md := if m < 0 then none else s.M[m.toNat]?
def findS (s : Sc) (m : Int) (x : List UInt8) : Option Df := (msgAt s m).bind fun d => d.F.find? (·.name == x)
def byS (s : Sc) (m no : Int) : Option Df := (msgAt s m).bind fun d => d.F.find? (·.no == no)
def rootS (s : Sc) (x : List UInt8) : Option Nat := if (s.M.map (·.name)).idxOf x < s.M.length then some ((s.M.map (·.name)).idxOf x) else none
theorem find_pair {α β : Type} [BEq β] [LawfulBEq β] {g : α → β} : ∀ {l : List α}, (l.Pairwise fun a b => g a ≠ g b) → ∀ {x : α}, x ∈ l → l.find? (fun y => g y == g x) = some x
  | [], _, x, hx => by simp at hx
  | y :: l, h, x, hx => by
    obtain ⟨h1, h2⟩ := List.pairwise_cons.1 h
    rw [List.find?_cons]
    rcases List.mem_cons.1 hx with rfl | hx
    · simp
    · have := h1 x hx
      have e : (g y == g x) = false := by simpa using this
      rw [e]
      exact find_pair h2 hx
theorem MdMay.nos {s : Sc} {m : Md} (h : MdMay s m) : m.F.Pairwise fun a b => a.no ≠ b.no := h.rise.imp fun {a b} hab => by omega
theorem found_may {s : Sc} (h : ScMay s) {i : Nat} {m : Md} (hm : s.M[i]? = some m) {d : Df} (hd : d ∈ m.F) : findS s i d.name = some d ∧ byS s i d.no = some d := by
  have hmm := h.M m (List.mem_of_getElem? hm)
  have e : msgAt s (i : Int) = some m := by
    unfold msgAt
    rw [if_neg (by omega), Int.toNat_natCast, hm]
  unfold findS byS
  rw [e]
  exact ⟨find_pair (g := fun y : Df => y.name) hmm.names hd, find_pair (g := fun y : Df => y.no) hmm.nos hd⟩
theorem idx_pair {l : List (List UInt8)} (h : l.Pairwise (· ≠ ·)) {i : Nat} {x : List UInt8} (hx : l[i]? = some x) : l.idxOf x = i := by
  induction l generalizing i with
  | nil => simp at hx
  | cons y l ih =>
    obtain ⟨h1, h2⟩ := List.pairwise_cons.1 h
    cases i with
    | zero =>
      obtain rfl : y = x := by simpa using hx
      simp
    | succ i =>
      have hx' : l[i]? = some x := by simpa using hx
      have hne := h1 x (List.mem_of_getElem? hx')
      rw [List.idxOf_cons]
      have e : (y == x) = false := by simpa using hne
      rw [e]
      simp [ih h2 hx']
theorem root_may {s : Sc} (h : ScMay s) {i : Nat} {m : Md} (hm : s.M[i]? = some m) : rootS s m.name = some i := by
  have hp : (s.M.map (·.name)).Pairwise (· ≠ ·) := (List.pairwise_append.1 h.names).1
  have hx : (s.M.map (·.name))[i]? = some m.name := by simp [hm]
  have e := idx_pair hp hx
  have hlt := (List.getElem?_eq_some_iff.1 hm).1
  unfold rootS
  rw [e, if_pos hlt]
/-- A field of a file, as it is found in its schema. -/
theorem found_def {f : Fl} (h : FlGood f) {i : Nat} {m : Ms} (hm : f.M[i]? = some m) {x : Fd} (hx : x ∈ m.F) :
    findS (schF f) i x.name = some (defF f x) ∧ byS (schF f) i x.no = some (defF f x) ∧ ((defF f x).key = -1 ↔ x.key = []) := by
  have hmm : (schF f).M[i]? = some (msgD f m) := by simp [schF, hm]
  have hd : defF f x ∈ (msgD f m).F := (sortF_perm _).mem_iff.2 (List.mem_map_of_mem hx)
  obtain ⟨h1, h2⟩ := found_may (sch_may h) hmm hd
  refine ⟨h1, h2, ?_⟩
  have hg := (h.M m (List.mem_of_getElem? hm)).each x hx
  constructor
  · intro e
    by_cases hk : x.key = []
    · exact hk
    · obtain ⟨q, q1, _⟩ := keyOK_key (hg.key hk)
      have : (defF f x).key = (q : Int) := by simp [defF, hk, q1]
      omega
  · intro e
    simp [defF, e]

/-! ### The order of fields -/

def setF (f : Fl) (i : Nat) (l : List Fd) : Fl := { f with M := f.M.modify i fun m => { m with F := l } }
theorem setF_names (f : Fl) (i : Nat) (l : List Fd) : namesF (setF f i l) = namesF f := by
  unfold namesF setF
  congr 1
  apply List.ext_getElem?
  intro j
  simp only [List.getElem?_map, List.getElem?_modify]
  cases f.M[j]? with
  | none => simp
  | some m => by_cases h : i = j <;> simp [h]
theorem setF_len (f : Fl) (i : Nat) (l : List Fd) : (setF f i l).M.length = f.M.length := by simp [setF]
theorem kindF_same {f g : Fl} (h1 : namesF g = namesF f) (h2 : g.M.length = f.M.length) (x : List UInt8) : kindF g x = kindF f x := by
  unfold kindF
  rw [h1, h2]
theorem FdGood.same {f g : Fl} (h1 : namesF g = namesF f) (h2 : g.M.length = f.M.length) {m m' : Ms} (ho : m'.ones = m.ones) (hr : m'.res = m.res) {x : Fd} (h : FdGood f m x) : FdGood g m' x :=
  ⟨by rw [hr]; exact h.res, by rw [ho]; exact h.ones, h.num, h.lo, by rw [ho]; exact h.hi, h.two, h.alone, h.key, by rw [kindF_same h1 h2]; exact h.type⟩
theorem good_setF {f : Fl} {i : Nat} {m : Ms} {l : List Fd} (hm : f.M[i]? = some m) (hl : l.Perm m.F) (h : FlGood f) : FlGood (setF f i l) := by
  have h1 := setF_names f i l
  have h2 := setF_len f i l
  refine ⟨by rw [h2]; exact h.some_, by rw [h2]; exact h.fewM, h.fewE, by rw [h1]; exact h.names, by rw [h1]; exact h.plain, fun q hq => ?_, h.E⟩
  obtain ⟨j, hj⟩ := List.mem_iff_getElem?.1 hq
  simp only [setF, List.getElem?_modify] at hj
  cases hfj : f.M[j]? with
  | none => rw [hfj] at hj; simp at hj
  | some y =>
    rw [hfj] at hj
    have hy := h.M y (List.mem_of_getElem? hfj)
    by_cases hij : i = j
    · subst hij
      rw [hm] at hfj
      obtain rfl := Option.some.inj hfj
      simp at hj
      subst hj
      exact ⟨by rw [hl.length_eq]; exact hy.few, hy.onesFew, (hl.pairwise_iff (fun hab => ⟨fun e => hab.1 e.symm, fun e => hab.2 e.symm⟩)).2 hy.two, fun x hx => FdGood.same (m := m) (m' := { m with F := l }) h1 h2 rfl rfl (hy.each x (hl.mem_iff.1 hx))⟩
    · simp [hij] at hj
      subst hj
      exact ⟨hy.few, hy.onesFew, hy.two, fun x hx => (hy.each x hx).same h1 h2 rfl rfl⟩
theorem setF_back {f : Fl} {i : Nat} {m : Ms} {l : List Fd} (hm : f.M[i]? = some m) : setF (setF f i l) i m.F = f := by
  obtain ⟨M, E⟩ := f
  simp only [setF, Fl.mk.injEq, and_true]
  apply List.ext_getElem?
  intro j
  simp only [List.getElem?_modify]
  cases hj : M[j]? with
  | none => simp
  | some y =>
    by_cases hij : i = j
    · subst hij
      simp only at hm
      rw [hm] at hj
      obtain rfl := Option.some.inj hj
      simp
    · simp [hij]
theorem setF_at {f : Fl} {i : Nat} {m : Ms} (hm : f.M[i]? = some m) (l : List Fd) : (setF f i l).M[i]? = some { m with F := l } := by simp [setF, hm]
theorem good_order {f : Fl} {i : Nat} {m : Ms} {l : List Fd} (hm : f.M[i]? = some m) (hl : l.Perm m.F) : FlGood (setF f i l) ↔ FlGood f := by
  constructor
  · intro h
    have := good_setF (setF_at hm l) hl.symm h
    rwa [show setF (setF f i l) i m.F = f from setF_back hm] at this
  · exact good_setF hm hl
theorem sch_order {f : Fl} {i : Nat} {m : Ms} {l : List Fd} (hm : f.M[i]? = some m) (hl : l.Perm m.F) (h : FlGood f) : schF (setF f i l) = schF f := by
  have h1 := setF_names f i l
  have h2 := setF_len f i l
  have hdef : defF (setF f i l) = defF f := by
    funext x
    unfold defF
    rw [kindF_same h1 h2]
  have hg := h.M m (List.mem_of_getElem? hm)
  have hs : sortF (l.map (defF f)) = sortF (m.F.map (defF f)) := by
    have hp : (l.map (defF f)).Perm (m.F.map (defF f)) := hl.map _
    have hn := (defs_ne hg).1
    exact rise_unique (sortF_rise ((hp.pairwise_iff (fun hab => fun e => hab e.symm)).2 hn)) (sortF_rise hn) ((sortF_perm _).trans (hp.trans (sortF_perm _).symm))
  unfold schF
  have e : (setF f i l).M.map (msgD (setF f i l)) = f.M.map (msgD f) := by
    apply List.ext_getElem?
    intro j
    simp only [List.getElem?_map, setF, List.getElem?_modify]
    cases hj : f.M[j]? with
    | none => simp
    | some y =>
      by_cases hij : i = j
      · subst hij
        rw [hm] at hj
        obtain rfl := Option.some.inj hj
        have := hdef
        unfold setF at this
        simp [msgD, this, hs]
      · have := hdef
        unfold setF at this
        simp [hij, msgD, this]
  rw [e]
  rfl
/-- Both are right, or none; and told the same. -/
theorem tab_order {f : Fl} {i : Nat} {m : Ms} {l : List Fd} (hm : f.M[i]? = some m) (hl : l.Perm m.F) : ((errR (setF f i l)).isSome = (errR f).isSome) ∧ tabS (setF f i l) = tabS f := by
  have hiff := good_order hm hl
  rw [← good_iff, ← good_iff] at hiff
  unfold tabS
  cases h : errR f with
  | none =>
    have h2 := hiff.2 h
    rw [h2]
    exact ⟨rfl, by simp [sch_order hm hl ((good_iff f).1 h)]⟩
  | some y =>
    cases h2 : errR (setF f i l) with
    | none => rw [hiff.1 h2] at h; cases h
    | some z => exact ⟨rfl, rfl⟩
/-- Two fields changed about. -/
theorem swap_perm {α : Type} : ∀ (l : List α) (a b : Nat) (x y : α), l[a]? = some x → l[b]? = some y → ((l.set a y).set b x).Perm l := by
  have key : ∀ (l : List α) (a b : Nat) (x y : α), a ≤ b → l[a]? = some x → l[b]? = some y → ((l.set a y).set b x).Perm l := by
    intro l
    induction l with
    | nil => intro a b x y _ h; simp at h
    | cons z l ih =>
      intro a b x y hab hx hy
      cases a with
      | succ a =>
        cases b with
        | zero => omega
        | succ b =>
          simp only [List.set_cons_succ]
          exact (ih a b x y (by omega) (by simpa using hx) (by simpa using hy)).cons z
      | zero =>
        obtain rfl : z = x := by simpa using hx
        cases b with
        | zero => simp
        | succ b =>
          simp only [List.set_cons_zero, List.set_cons_succ]
          have hy' : l[b]? = some y := by simpa using hy
          obtain ⟨hb, rfl⟩ := List.getElem?_eq_some_iff.1 hy'
          have e1 : l.set b z = l.take b ++ z :: l.drop (b + 1) := List.set_eq_take_append_cons_drop.trans (by rw [if_pos hb])
          have e2 : l = l.take b ++ l[b] :: l.drop (b + 1) := by rw [← List.drop_eq_getElem_cons hb, List.take_append_drop]
          rw [e1]
          conv => rhs; rw [e2]
          refine (List.perm_middle.cons l[b]).trans ?_
          refine (List.Perm.swap z l[b] _).trans ?_
          exact (List.perm_middle.symm).cons z
  intro l a b x y hx hy
  rcases Nat.le_total a b with h | h
  · exact key l a b x y h hx hy
  · rcases Nat.eq_or_lt_of_le h with rfl | h
    · exact key l b b x y (Nat.le_refl _) hx hy
    · rw [List.set_comm _ _ (by omega)]
      exact key l b a y x (by omega) hy hx
end Go.Proofs.YtipaangiehdgkaaGreatDoor
/-
  Slices of bytes that read as lists of bytes.
-/
namespace Go.Proofs.YtipaangiehdgkaaGreatDoor
set_option maxRecDepth 100000

open Go.ChangeShapes Go.WideShapes Go.ChangeAt Go.RowKit

/-! ### Bytes -/

def BV (b : UInt8) : Value := .int .u8 (b.toNat : Int)
def bs (l : List UInt8) : List Value := l.map BV
theorem bs_append (a b : List UInt8) : bs (a ++ b) = bs a ++ bs b := by simp [bs]
theorem bs_length (a : List UInt8) : (bs a).length = a.length := by simp [bs]
theorem bs_get (a : List UInt8) (k : Nat) : (bs a)[k]? = a[k]?.map BV := by simp [bs]
theorem bs_inj {a b : List UInt8} (h : bs a = bs b) : a = b := by
  induction a generalizing b with
  | nil => cases b with
    | nil => rfl
    | cons y b => simp [bs] at h
  | cons x a ih => cases b with
    | nil => simp [bs] at h
    | cons y b =>
      simp only [bs, List.map_cons, List.cons.injEq, BV, Value.int.injEq, true_and] at h
      obtain rfl := UInt8.toNat_inj.1 (show x.toNat = y.toNat by omega)
      rw [ih h.2]
theorem bs_one (a : List UInt8) : ∀ u ∈ bs a, u.oneCell' = true := by
  intro u hu
  obtain ⟨b, _, rfl⟩ := List.mem_map.1 hu
  rfl

/-- A slice of bytes that reads as the list l. -/
def SlB (w : World) (A : Option Addr) (c : Nat) (l : List UInt8) : Prop := Sl w A l.length c 1 (bs l)
theorem SlB.on {w w' : World} {A : Option Addr} {c : Nat} {l : List UInt8} (h : SlB w A c l) (hb : Below w.heap.size w w') : SlB w' A c l := Sl.on h hb
theorem SlB.lit {w : World} {A : Option Addr} {c : Nat} {l : List UInt8} (h : SlB w A c l) (o : Obj) : SlB (w.alloc o) A c l := h.on (below_new w o)
theorem SlB.drew {w : World} {A : Option Addr} {c : Nat} {l : List UInt8} (h : SlB w A c l) : SlB w.drew A c l := h.on (Below.refl _ _).drew
theorem SlB.le {w : World} {A : Option Addr} {c : Nat} {l : List UInt8} (h : SlB w A c l) : l.length ≤ c := Sl.le h
theorem SlB.small {w : World} {A : Option Addr} {c : Nat} {l : List UInt8} (h : SlB w A c l) : l.length ≤ 9223372036854775807 ∧ c ≤ 9223372036854775807 := by
  have h1 := Sl.le h
  have h2 := Sl.cap h
  unfold maxLen at h2
  omega
/-- The byte at k: its address, and its cell. -/
theorem SlB.at_ {w : World} {A : Option Addr} {c : Nat} {l : List UInt8} (h : SlB w A c l) {k : Nat} (hk : k < l.length) : ∃ ad b, A = some ad ∧ ad.block < w.heap.size ∧ l[k]? = some b ∧ w.cell? (ad.add k) = some (.int .u8 (b.toNat : Int)) := by
  obtain ⟨ad, rfl, hb, hcell⟩ := Sl.there h (by omega)
  exact ⟨ad, l[k], rfl, hb, List.getElem?_eq_getElem hk, hcell k _ (by rw [bs_get, List.getElem?_eq_getElem hk]; rfl)⟩
theorem SlB.of_own {w : World} {base : Nat} {e : TypeId} {v : Value} {l : List UInt8} (h : w.ownsRow base e 1 v l.length (bs l)) : ∃ A c, v = .slice A l.length c ∧ SlB w A c l := Sl.of_own h
theorem SlB.nil (w : World) : SlB w none 0 [] := Sl.nothing w 1

theorem info_u8 : (Tryz.prog.info? 5).map (fun i => (i.zero, i.size, i.bytes)) = some (some (.int .u8 0), 1, 1) := by kernel_rfl
theorem open_u8 {H : Type} {enc : TypeId × Value → H} {W : World} {base : Nat} {v : Value} {d : DataW H} {ps : List MemPlace}
    (hval : Value.okWide Tryz.prog W .any base 5 v) (h : DataW.Trod enc Tryz.prog W 0 (fun _ => true) true 5 v d ps) : ∃ n : Nat, v = .int .u8 (n : Int) ∧ n < 256 := by
  obtain ⟨a, rfl, rfl, rfl, wf⟩ := open_int Tryz.underlying5 hval h
  have hb := bounds_u8 wf
  obtain ⟨n, rfl⟩ := Int.eq_ofNat_of_zero_le hb.1
  exact ⟨n, rfl, by omega⟩
theorem cells_u8 : Tryz.prog.cellsOf 5 = 1 := by kernel_rfl
theorem bs_of_ints (zs : List Int) (h : ∀ n ∈ zs, (Lit.int .u8 n).wf = true) : ∃ l : List UInt8, zs.map (Value.int .u8) = bs l := by
  induction zs with
  | nil => exact ⟨[], rfl⟩
  | cons z zs ih =>
    obtain ⟨l, hl⟩ := ih (fun n hn => h n (by simp [hn]))
    have hb := bounds_u8 (h z (by simp))
    refine ⟨UInt8.ofNat z.toNat :: l, ?_⟩
    simp only [List.map_cons, bs, List.cons.injEq]
    refine ⟨?_, by simpa [bs] using hl⟩
    simp only [BV, Value.int.injEq, true_and]
    rw [UInt8.toNat_ofNat']
    omega
theorem open_bytes {H : Type} {enc : TypeId × Value → H} {W : World} {base : Nat} {v : Value} {d : DataW H} {ps : List MemPlace}
    (hval : Value.okWide Tryz.prog W .any base 22 v) (h : DataW.Trod enc Tryz.prog W 0 (fun _ => true) true 22 v d ps) :
    ∃ (A : Option Addr) (c : Nat) (l : List UInt8), v = .slice A l.length c ∧ SlB W A c l := by
  obtain ⟨a0, len, cap, rfl⟩ := okWide_slice Tryz.underlying22 hval
  obtain ⟨fuel, hf⟩ := h
  rcases open_ints Tryz.underlying22 Tryz.underlying5 cells_u8 hf with ⟨hcs, hx⟩ | ⟨a, len', cap', zs, hcs, _, hl, hm, hz, hx, hcell, hwz⟩
  · simp [Value.cells] at hcs
    obtain ⟨rfl, rfl, rfl⟩ := hcs
    exact ⟨none, 0, [], rfl, SlB.nil W⟩
  · simp [Value.cells] at hcs
    obtain ⟨rfl, rfl, rfl⟩ := hcs
    simp only [if_true] at hz
    obtain ⟨l, hl2⟩ := bs_of_ints (zs.take len) (fun n hn => hwz n (List.mem_of_mem_take hn))
    have hlen : l.length = len := by
      have := congrArg List.length hl2
      simp [bs] at this
      omega
    subst hlen
    refine ⟨some a, cap, l, rfl, by simp [bs], hl, hm, by simp, fun ad ha hn => ?_, fun ad ha k u hu => ?_⟩
    · obtain rfl := Option.some.inj ha
      have hb := World.block_lt_of_cell? W _ (hcell 0 (by omega))
      rwa [add_same_block] at hb
    · obtain rfl := Option.some.inj ha
      rw [← hl2] at hu
      have hk : k < l.length := by
        have := (List.getElem?_eq_some_iff.1 hu).1
        simp at this
        omega
      rw [hcell k (by omega)]
      rw [List.getElem?_map, List.getElem?_take, if_pos hk] at hu
      obtain ⟨z, hz2, rfl⟩ := Option.map_eq_some_iff.1 hu
      simp [List.getD, hz2]
theorem lit_reads (w : World) (l : List UInt8) (hl : l.length ≤ 100) : SlB (w.alloc (.cells (bs l).toArray 5)) (some ⟨w.heap.size, 0, none⟩) l.length l := by
  have h := Sl.new w (bs l) 5 (by rw [bs_length]; unfold maxLen; omega)
  rw [bs_length] at h
  exact h

end Go.Proofs.YtipaangiehdgkaaGreatDoor
/-
  Bytes that become a text: the conversion of a slice of bytes.
-/
namespace Go.Proofs.YtipaangiehdgkaaGreatDoor
set_option maxRecDepth 100000

open Go.RowKit

def txt (l : List UInt8) : ByteArray := ⟨l.toArray⟩
theorem txt_list (l : List UInt8) : (txt l).data.toList = l := by simp [txt]
theorem txt_size (l : List UInt8) : (txt l).size = l.length := by simp [txt, ByteArray.size]
theorem txt_of (s : ByteArray) : txt s.data.toList = s := by cases s; simp [txt]
theorem run_str_of_bytes {P : Program} (w : World) (src dst e : TypeId) (hs : P.underlying src = some (.slice e)) (he : P.underlying e = some (.int .u8)) (hd : P.underlying dst = some .string)
    (A : Option Addr) (c : Nat) (l : List UInt8) (hr : SlB w A c l) : (convert src dst (.slice A l.length c)).run P w = .ok (.string (txt l)) w := by
  cases A with
  | none =>
    obtain ⟨hn, rfl, hx⟩ := Sl.none_len hr
    obtain rfl : l = [] := List.eq_nil_of_length_eq_zero hn
    exact run_convert_bytes_nil w src e hs he 0 0 dst hd
  | some ad =>
    have hm : (l.map fun b => (b.toNat : Int)).map (Value.int .u8) = bs l := by simp [bs, BV]
    have hl : (loadCells ad l.length).run P w = .ok ((l.map fun b => (b.toNat : Int)).map (Value.int .u8)).toArray w := by
      have := run_loadCells_list (P := P) w ad (bs l) (fun j v hj => Sl.cell hr ad rfl j v hj)
      rw [bs_length] at this
      rw [hm]
      exact this
    rw [run_convert_bytes_string w src dst e _ _ _ hs he hd, run_bytesToString w _ _ _ _ hl, foldl_push_bytes]
    have h2 : ((l.map fun b => (b.toNat : Int)).map fun n => UInt8.ofNat n.toNat) = l := by
      rw [List.map_map]
      conv => rhs; rw [← List.map_id l]
      refine List.map_congr_left fun b _ => ?_
      simp
    rw [h2]
    simp [txt, ByteArray.empty, ByteArray.emptyWithCapacity]
    rfl
end Go.Proofs.YtipaangiehdgkaaGreatDoor
/-
  Signs of UTF-8, on lists alone: how many bytes a sign has, how many first bytes are signs, what the model's own decoder makes of the same bytes; one text less than another one.
-/
namespace Go.Proofs.YtipaangiehdgkaaGreatDoor.T4
set_option maxRecDepth 100000

/-- How many bytes the sign has with which n bytes begin, of which the first four are these; 0: none. -/
def sg (n b0 b1 b2 b3 : Nat) : Nat :=
  if n = 0 then 0
  else if b0 ≤ 127 then 1
  else if 194 ≤ b0 ∧ b0 ≤ 223 then (if 2 ≤ n ∧ 128 ≤ b1 ∧ b1 ≤ 191 then 2 else 0)
  else if 224 ≤ b0 ∧ b0 ≤ 239 then (if 3 ≤ n ∧ 128 ≤ b1 ∧ b1 ≤ 191 ∧ 128 ≤ b2 ∧ b2 ≤ 191 ∧ ¬ (b0 = 224 ∧ b1 < 160) ∧ ¬ (b0 = 237 ∧ 159 < b1) then 3 else 0)
  else if 240 ≤ b0 ∧ b0 ≤ 244 then (if 4 ≤ n ∧ 128 ≤ b1 ∧ b1 ≤ 191 ∧ 128 ≤ b2 ∧ b2 ≤ 191 ∧ 128 ≤ b3 ∧ b3 ≤ 191 ∧ ¬ (b0 = 240 ∧ b1 < 144) ∧ ¬ (b0 = 244 ∧ 143 < b1) then 4 else 0)
  else 0
def by' (l : List UInt8) (k : Nat) : Nat := (l.getD k 0).toNat
def sgn (l : List UInt8) : Nat := sg l.length (by' l 0) (by' l 1) (by' l 2) (by' l 3)

theorem by_lt (l : List UInt8) (k : Nat) : by' l k < 256 := (l.getD k 0).toNat_lt
theorem sg_le (n b0 b1 b2 b3 : Nat) : sg n b0 b1 b2 b3 ≤ n ∧ sg n b0 b1 b2 b3 ≤ 4 := by
  unfold sg
  split
  · omega
  split
  · omega
  split
  · split <;> omega
  split
  · split <;> omega
  split
  · split <;> omega
  · omega
theorem sgn_le (l : List UInt8) : sgn l ≤ l.length := (sg_le _ _ _ _ _).1
theorem sgn_le4 (l : List UInt8) : sgn l ≤ 4 := (sg_le _ _ _ _ _).2

/-- How many bytes are signs, from the first one on. -/
def first (l : List UInt8) : Nat := if h : sgn l = 0 then 0 else sgn l + first (l.drop (sgn l))
termination_by l.length
decreasing_by
  have := sgn_le l
  simp only [List.length_drop]
  omega
theorem first_none {l : List UInt8} (h : sgn l = 0) : first l = 0 := by rw [first, dif_pos h]
theorem first_some {l : List UInt8} (h : sgn l ≠ 0) : first l = sgn l + first (l.drop (sgn l)) := by rw [first, dif_neg h]
theorem first_le (l : List UInt8) : first l ≤ l.length := by
  induction l using first.induct with
  | case1 l h => rw [first_none h]; omega
  | case2 l h ih =>
    rw [first_some h]
    have := sgn_le l
    simp only [List.length_drop] at ih
    omega
theorem sgn_nil : sgn [] = 0 := rfl
theorem first_nil : first [] = 0 := first_none rfl
/-- What stands behind a sign changes nothing of it. -/
theorem by_append (l m : List UInt8) {k : Nat} (h : k < l.length) : by' (l ++ m) k = by' l k := by
  unfold by'
  rw [List.getD_eq_getElem?_getD, List.getD_eq_getElem?_getD, List.getElem?_append_left h]
theorem by_take (l : List UInt8) {k n : Nat} (h : k < n) : by' (l.take n) k = by' l k := by
  unfold by'
  rw [List.getD_eq_getElem?_getD, List.getD_eq_getElem?_getD, List.getElem?_take, if_pos h]
theorem sgn_append {l : List UInt8} (m : List UInt8) (h : sgn l ≠ 0) : sgn (l ++ m) = sgn l := by
  unfold sgn at h ⊢
  have hl : (l ++ m).length = l.length + m.length := List.length_append
  rw [hl]
  rcases Nat.lt_or_ge 0 l.length with h0 | h0
  · rw [by_append l m h0]
    rcases Nat.lt_or_ge 1 l.length with h1 | h1
    · rw [by_append l m h1]
      rcases Nat.lt_or_ge 2 l.length with h2 | h2
      · rw [by_append l m h2]
        rcases Nat.lt_or_ge 3 l.length with h3 | h3
        · rw [by_append l m h3]
          unfold sg at h ⊢
          grind
        · unfold sg at h ⊢
          grind
      · unfold sg at h ⊢
        grind
    · unfold sg at h ⊢
      grind
  · exfalso
    apply h
    unfold sg
    rw [if_pos (by omega)]
theorem first_append {l : List UInt8} (m : List UInt8) (h : first l = l.length) : first (l ++ m) = l.length + first m := by
  induction l using first.induct with
  | case1 l h0 =>
    rw [first_none h0] at h
    obtain rfl : l = [] := List.eq_nil_of_length_eq_zero h.symm
    simp
  | case2 l h0 ih =>
    rw [first_some h0] at h
    have hle := sgn_le l
    have hd : (l ++ m).drop (sgn l) = l.drop (sgn l) ++ m := by rw [List.drop_append_of_le_length hle]
    have h2 := ih (by simp only [List.length_drop]; omega)
    rw [first_some (by rw [sgn_append m h0]; exact h0), sgn_append m h0, hd, h2]
    simp only [List.length_drop]
    omega
theorem sgn_take {l : List UInt8} {n : Nat} (h : sgn l ≠ 0) (hn : sgn l ≤ n) : sgn (l.take n) = sgn l := by
  have hl : (l.take n).length = min n l.length := List.length_take
  have hle := sgn_le l
  unfold sgn at h hn hle ⊢
  rw [hl]
  rcases Nat.lt_or_ge 0 n with h0 | h0
  · rw [by_take l h0]
    rcases Nat.lt_or_ge 1 n with h1 | h1
    · rw [by_take l h1]
      rcases Nat.lt_or_ge 2 n with h2 | h2
      · rw [by_take l h2]
        rcases Nat.lt_or_ge 3 n with h3 | h3
        · rw [by_take l h3]
          unfold sg at h hn hle ⊢
          grind
        · unfold sg at h hn hle ⊢
          grind
      · unfold sg at h hn hle ⊢
        grind
    · unfold sg at h hn hle ⊢
      grind
  · omega
theorem first_take (l : List UInt8) : first (l.take (first l)) = first l := by
  induction l using first.induct with
  | case1 l h => rw [first_none h, List.take_zero, first_nil]
  | case2 l h ih =>
    rw [first_some h]
    have ht : sgn (l.take (sgn l + first (l.drop (sgn l)))) = sgn l := sgn_take h (by omega)
    rw [first_some (by rw [ht]; exact h), ht, List.drop_take, Nat.add_sub_cancel_left, ih]
/-- No beginning is fine that goes one byte further. -/
theorem sgn_one {l : List UInt8} (h : sgn l = 0) : sgn (l.take 1) = 0 := by
  have hl : (l.take 1).length = min 1 l.length := List.length_take
  unfold sgn at h ⊢
  rw [hl, by_take l (by omega : 0 < 1)]
  unfold sg at h ⊢
  grind
theorem first_more (l : List UInt8) : first (l.take (first l + 1)) = first l := by
  induction l using first.induct with
  | case1 l h => rw [first_none h, Nat.zero_add, first_none (sgn_one h)]
  | case2 l h ih =>
    rw [first_some h]
    have ht : sgn (l.take (sgn l + first (l.drop (sgn l)) + 1)) = sgn l := sgn_take h (by omega)
    rw [first_some (by rw [ht]; exact h), ht, List.drop_take, Nat.add_assoc, Nat.add_sub_cancel_left, ih]
/-- Bytes below 128 are fine. -/
theorem first_low (l : List UInt8) (h : ∀ b ∈ l, b.toNat < 128) : first l = l.length := by
  induction l with
  | nil => exact first_nil
  | cons b l ih =>
    have hb := h b (by simp)
    have hs : sgn (b :: l) = 1 := by
      unfold sgn sg by'
      rw [if_neg (by simp), if_pos (by simpa using by omega)]
    rw [first_some (by omega), hs, List.drop_one, List.tail_cons, ih (fun c hc => h c (by simp [hc]))]
    simp
    omega
/-- A byte that is in no sign is where what is fine ends. -/
def badN (b : Nat) : Prop := 245 ≤ b ∨ b = 192 ∨ b = 193
theorem sgn_bad {l : List UInt8} {k : Nat} (hk : k < l.length) (hb : badN (by' l k)) : sgn l ≤ k := by
  unfold badN at hb
  rcases Nat.lt_or_ge k 4 with h4 | h4
  · have h0 : k = 0 ∨ k = 1 ∨ k = 2 ∨ k = 3 := by omega
    unfold sgn sg
    rcases h0 with rfl | rfl | rfl | rfl <;> grind
  · have := sgn_le4 l
    omega
theorem by_drop (l : List UInt8) (n k : Nat) : by' (l.drop n) k = by' l (n + k) := by
  unfold by'
  rw [List.getD_eq_getElem?_getD, List.getD_eq_getElem?_getD, List.getElem?_drop]
theorem first_bad {l : List UInt8} : ∀ {k : Nat}, k < l.length → badN (by' l k) → first l ≤ k := by
  induction l using first.induct with
  | case1 l h => intro k _ _; rw [first_none h]; omega
  | case2 l h ih =>
    intro k hk hb
    have h1 := sgn_bad hk hb
    have h2 := ih (k := k - sgn l) (by simp only [List.length_drop]; omega) (by rw [by_drop, Nat.add_sub_cancel' h1]; exact hb)
    rw [first_some h]
    omega

/-! ### The model's own decoder -/

def dec (n b0 b1 b2 b3 : Nat) : Nat × Nat :=
  if b0 < 0x80 then (b0, 1)
  else if b0 / 32 == 6 && (decide (1 < n) && b1 / 64 == 2) then
    let c := (b0 % 32) * 64 + b1 % 64
    if c ≥ 0x80 then (c, 2) else (Utf8.runeError, 1)
  else if b0 / 16 == 14 && (decide (1 < n) && b1 / 64 == 2) && (decide (2 < n) && b2 / 64 == 2) then
    let c := (b0 % 16) * 4096 + (b1 % 64) * 64 + b2 % 64
    if c ≥ 0x800 && Utf8.valid c then (c, 3) else (Utf8.runeError, 1)
  else if b0 / 8 == 30 && (decide (1 < n) && b1 / 64 == 2) && (decide (2 < n) && b2 / 64 == 2) && (decide (3 < n) && b3 / 64 == 2) then
    let c := (b0 % 8) * 262144 + (b1 % 64) * 4096 + (b2 % 64) * 64 + b3 % 64
    if c ≥ 0x10000 && Utf8.valid c then (c, 4) else (Utf8.runeError, 1)
  else (Utf8.runeError, 1)

/-- Of a sign the decoder tells its bytes, and U+FFFD of just the one that is written so; of no sign it tells U+FFFD, and one byte. -/
theorem dec_sg (n b0 b1 b2 b3 : Nat) (hn : 0 < n) (h0 : b0 < 256) (h1 : b1 < 256) (h2 : b2 < 256) (h3 : b3 < 256) :
    (sg n b0 b1 b2 b3 = 0 → dec n b0 b1 b2 b3 = (65533, 1) ∧ ¬ (3 ≤ n ∧ b0 = 239 ∧ b1 = 191 ∧ b2 = 189)) ∧
    (sg n b0 b1 b2 b3 ≠ 0 → (dec n b0 b1 b2 b3).2 = sg n b0 b1 b2 b3 ∧ ((dec n b0 b1 b2 b3).1 = 65533 → 3 ≤ n ∧ b0 = 239 ∧ b1 = 191 ∧ b2 = 189)) := by
  have v3 : ∀ a b c : Nat, a < 16 → b < 64 → c < 64 → Utf8.valid ((a * 4096 + b * 64 + c : Nat) : Int) = !decide (a = 13 ∧ 32 ≤ b) := by
    intro a b c ha hb hc
    unfold Utf8.valid
    rw [Bool.eq_iff_iff]
    simp only [Bool.or_eq_true, Bool.and_eq_true, decide_eq_true_eq, Bool.not_eq_true', decide_eq_false_iff_not]
    omega
  have v4 : ∀ a b c d : Nat, a < 8 → b < 64 → c < 64 → d < 64 → 65536 ≤ a * 262144 + b * 4096 + c * 64 + d → Utf8.valid ((a * 262144 + b * 4096 + c * 64 + d : Nat) : Int) = !decide (4 < a ∨ a = 4 ∧ 16 ≤ b) := by
    intro a b c d ha hb hc hd hg
    unfold Utf8.valid
    rw [Bool.eq_iff_iff]
    simp only [Bool.or_eq_true, Bool.and_eq_true, decide_eq_true_eq, Bool.not_eq_true', decide_eq_false_iff_not]
    omega
  have w3 := v3 (b0 % 16) (b1 % 64) (b2 % 64) (by omega) (by omega) (by omega)
  have w4 := v4 (b0 % 8) (b1 % 64) (b2 % 64) (b3 % 64) (by omega) (by omega) (by omega) (by omega)
  clear v3 v4
  unfold sg dec Utf8.runeError
  rw [if_neg (by omega : ¬ n = 0)]
  by_cases c0 : b0 ≤ 127
  · rw [if_pos c0, if_pos (by omega)]
    exact ⟨by omega, fun _ => ⟨rfl, by simp only; omega⟩⟩
  rw [if_neg c0, if_neg (by omega : ¬ b0 < 128)]
  have n3 : ∀ V : Bool, (V = true) = (V = true) := fun _ => rfl
  by_cases c1 : b0 / 32 = 6
  · have e1 : (b0 / 32 == 6) = true := by simpa using c1
    have g1 : ¬ (224 ≤ b0 ∧ b0 ≤ 239) := by omega
    have g2 : ¬ (240 ≤ b0 ∧ b0 ≤ 244) := by omega
    have e2 : (b0 / 16 == 14) = false := by simp; omega
    have e3 : (b0 / 8 == 30) = false := by simp; omega
    clear w3 w4 n3
    simp only [e1, e2, e3, Bool.true_and, Bool.false_and, if_neg g1, if_neg g2, Bool.and_eq_true, decide_eq_true_eq, beq_iff_eq, ge_iff_le, Bool.false_eq_true, if_false]
    constructor
    · intro hs
      refine ⟨?_, by omega⟩
      split
      · split
        · exfalso
          rw [if_pos (by omega), if_pos (by omega)] at hs
          omega
        · rfl
      · rfl
    · intro hs
      have hg : 194 ≤ b0 ∧ b0 ≤ 223 := by
        by_cases hg : 194 ≤ b0 ∧ b0 ≤ 223
        · exact hg
        · rw [if_neg hg] at hs; omega
      rw [if_pos hg] at hs ⊢
      have hk : 2 ≤ n ∧ 128 ≤ b1 ∧ b1 ≤ 191 := by
        by_cases hk : 2 ≤ n ∧ 128 ≤ b1 ∧ b1 ≤ 191
        · exact hk
        · rw [if_neg hk] at hs; omega
      rw [if_pos hk, if_pos (by omega), if_pos (by omega)]
      exact ⟨rfl, by simp only; omega⟩
  by_cases c2 : b0 / 16 = 14
  · have e1 : (b0 / 32 == 6) = false := by simp; omega
    have g1 : ¬ (194 ≤ b0 ∧ b0 ≤ 223) := by omega
    have g2 : 224 ≤ b0 ∧ b0 ≤ 239 := by omega
    have e2 : (b0 / 16 == 14) = true := by simpa using c2
    have e3 : (b0 / 8 == 30) = false := by simp; omega
    clear w4 n3
    simp only [e1, e2, e3, w3, Bool.true_and, Bool.false_and, if_neg g1, if_pos g2, Bool.and_eq_true, decide_eq_true_eq, beq_iff_eq, ge_iff_le, Bool.false_eq_true, if_false, Bool.not_eq_true', decide_eq_false_iff_not]
    clear w3
    constructor
    · intro hs
      refine ⟨?_, ?_⟩
      · split
        · split
          · exfalso
            rw [if_pos (by omega)] at hs
            omega
          · rfl
        · rfl
      · intro hx
        rw [if_pos (by omega)] at hs
        omega
    · intro hs
      have hk : 3 ≤ n ∧ 128 ≤ b1 ∧ b1 ≤ 191 ∧ 128 ≤ b2 ∧ b2 ≤ 191 ∧ ¬ (b0 = 224 ∧ b1 < 160) ∧ ¬ (b0 = 237 ∧ 159 < b1) := by
        by_cases hk : 3 ≤ n ∧ 128 ≤ b1 ∧ b1 ≤ 191 ∧ 128 ≤ b2 ∧ b2 ≤ 191 ∧ ¬ (b0 = 224 ∧ b1 < 160) ∧ ¬ (b0 = 237 ∧ 159 < b1)
        · exact hk
        · rw [if_neg hk] at hs; omega
      rw [if_pos hk, if_pos (by omega), if_pos (by omega)]
      exact ⟨rfl, by simp only; omega⟩
  by_cases c3 : b0 / 8 = 30
  · have e1 : (b0 / 32 == 6) = false := by simp; omega
    have g1 : ¬ (194 ≤ b0 ∧ b0 ≤ 223) := by omega
    have g2 : ¬ (224 ≤ b0 ∧ b0 ≤ 239) := by omega
    have e2 : (b0 / 16 == 14) = false := by simp; omega
    have e3 : (b0 / 8 == 30) = true := by simpa using c3
    clear w3 n3
    simp only [e1, e2, e3, Bool.true_and, Bool.false_and, if_neg g1, if_neg g2, Bool.and_eq_true, decide_eq_true_eq, beq_iff_eq, ge_iff_le, Bool.false_eq_true, if_false, Bool.not_eq_true', decide_eq_false_iff_not]
    constructor
    · intro hs
      refine ⟨?_, by omega⟩
      split
      · split
        · rename_i hq
          exfalso
          have hv := w4 hq.1
          rw [hq.2] at hv
          have hv : ¬ (4 < b0 % 8 ∨ b0 % 8 = 4 ∧ 16 ≤ b1 % 64) := by
            rw [eq_comm, Bool.not_eq_true', decide_eq_false_iff_not] at hv
            exact hv
          rw [if_pos (by omega), if_pos (by omega)] at hs
          omega
        · rfl
      · rfl
    · intro hs
      have hg : 240 ≤ b0 ∧ b0 ≤ 244 := by
        by_cases hg : 240 ≤ b0 ∧ b0 ≤ 244
        · exact hg
        · rw [if_neg hg] at hs; omega
      rw [if_pos hg] at hs ⊢
      have hk : 4 ≤ n ∧ 128 ≤ b1 ∧ b1 ≤ 191 ∧ 128 ≤ b2 ∧ b2 ≤ 191 ∧ 128 ≤ b3 ∧ b3 ≤ 191 ∧ ¬ (b0 = 240 ∧ b1 < 144) ∧ ¬ (b0 = 244 ∧ 143 < b1) := by
        by_cases hk : 4 ≤ n ∧ 128 ≤ b1 ∧ b1 ≤ 191 ∧ 128 ≤ b2 ∧ b2 ≤ 191 ∧ 128 ≤ b3 ∧ b3 ≤ 191 ∧ ¬ (b0 = 240 ∧ b1 < 144) ∧ ¬ (b0 = 244 ∧ 143 < b1)
        · exact hk
        · rw [if_neg hk] at hs; omega
      have hge : 65536 ≤ b0 % 8 * 262144 + b1 % 64 * 4096 + b2 % 64 * 64 + b3 % 64 := by omega
      have hv := w4 hge
      have hd : decide (4 < b0 % 8 ∨ b0 % 8 = 4 ∧ 16 ≤ b1 % 64) = false := by simp only [decide_eq_false_iff_not]; omega
      rw [hd, Bool.not_false] at hv
      have hc : ((1 < n ∧ b1 / 64 = 2) ∧ 2 < n ∧ b2 / 64 = 2) ∧ 3 < n ∧ b3 / 64 = 2 := by omega
      rw [if_pos hk]
      simp only [hc, hv, hge, and_self, if_true, true_and]
      omega
  have e1 : (b0 / 32 == 6) = false := by simp; omega
  have g1 : ¬ (194 ≤ b0 ∧ b0 ≤ 223) := by omega
  have g2 : ¬ (224 ≤ b0 ∧ b0 ≤ 239) := by omega
  have g3 : ¬ (240 ≤ b0 ∧ b0 ≤ 244) := by omega
  have e2 : (b0 / 16 == 14) = false := by simp; omega
  have e3 : (b0 / 8 == 30) = false := by simp; omega
  simp only [e1, e2, e3, Bool.false_and, if_neg g1, if_neg g2, if_neg g3, Bool.false_eq_true, if_false]
  exact ⟨fun _ => ⟨trivial, by omega⟩, fun h => absurd rfl h⟩

theorem getBang (s : ByteArray) (i : Nat) : s.get! i = s.data.toList.getD i 0 := by
  rcases Nat.lt_or_ge i s.size with h | h
  · have h' : i < s.data.size := h
    rw [List.getD_eq_getElem?_getD, List.getElem?_eq_getElem (by simpa using h)]
    exact (getElem!_pos s.data i h').trans (by simp)
  · rw [List.getD_eq_getElem?_getD, List.getElem?_eq_none (by simpa using h)]
    have h' : ¬ i < s.data.size := Nat.not_lt.2 h
    exact (getElem!_neg s.data i h').trans rfl
theorem decode_dec (s : ByteArray) (i : Nat) (hi : i ≤ s.size) : Utf8.decode s i = dec (s.data.toList.drop i).length (by' (s.data.toList.drop i) 0) (by' (s.data.toList.drop i) 1) (by' (s.data.toList.drop i) 2) (by' (s.data.toList.drop i) 3) := by
  have hl : (s.data.toList.drop i).length = s.size - i := by simp
  have hc : ∀ k, (s.get! (i + k)).toNat = by' (s.data.toList.drop i) k := by
    intro k
    rw [by_drop, getBang]
    rfl
  have ht : ∀ k, decide (i + k < s.size) = decide (k < (s.data.toList.drop i).length) := by
    intro k
    rw [hl]
    congr 1
    exact propext ⟨by omega, by omega⟩
  simp only [Utf8.decode, hc, ht, dec]

/-- What the decoder tells at a place, by what stands there: a sign, or none. -/
theorem decode_sign (s : ByteArray) (i : Nat) (hi : i < s.size) :
    (sgn (s.data.toList.drop i) = 0 → Utf8.decode s i = (65533, 1) ∧ ¬ ((s.data.toList.drop i).take 3 = [239, 191, 189])) ∧
    (sgn (s.data.toList.drop i) ≠ 0 → (Utf8.decode s i).2 = sgn (s.data.toList.drop i) ∧ ((Utf8.decode s i).1 = 65533 → (s.data.toList.drop i).take 3 = [239, 191, 189])) := by
  rw [decode_dec s i (by omega)]
  have hl : (s.data.toList.drop i).length = s.size - i := by simp
  generalize s.data.toList.drop i = l at *
  have h3 : l.take 3 = [239, 191, 189] ↔ 3 ≤ l.length ∧ by' l 0 = 239 ∧ by' l 1 = 191 ∧ by' l 2 = 189 := by
    rcases l with _ | ⟨a, _ | ⟨b, _ | ⟨c, l⟩⟩⟩
    · simp
    · simp
    · simp
    · simp [by', ← UInt8.toNat_inj]
  rw [h3]
  exact dec_sg l.length _ _ _ _ (by omega) (by_lt _ _) (by_lt _ _) (by_lt _ _) (by_lt _ _)
end Go.Proofs.YtipaangiehdgkaaGreatDoor.T4
/-
  How many first bytes are signs: the contract of the function that goes through them.
-/
namespace Go.Proofs.YtipaangiehdgkaaGreatDoor.T4
set_option maxRecDepth 100000

open Go.RowKit

theorem prefix_any (s p : ByteArray) (w : World) :
    Calls Tryz.prog 192 #[.string s, .string p] w fun e w' => e = .returned (.bool (Lib.hasPrefix s.data.toList p.data.toList)) ∧ w = w' := by
  rw [← Lib.hasPrefix_of_take, ← Lib.size_eq, ← Lib.size_eq]
  go_enter Tryz.func192, Tryz.ntmps192
  go_wp2
  · rename_i h
    go_ret
    refine ⟨?_, rfl⟩
    show Ending.returned (Value.bool ((s.extract 0 p.size).toList == p.toList)) = _
    rw [Lib.extract_toList, Lib.toList_data]
    simp [h]
  · rename_i h
    go_ret
    refine ⟨?_, rfl⟩
    show Ending.returned (Value.bool false) = _
    simp [h]

theorem prefix3 (s : ByteArray) (pos : Nat) : Lib.hasPrefix (s.extract pos s.size).data.toList [239, 191, 189] = decide ((s.data.toList.drop pos).take 3 = [239, 191, 189]) := by
  rw [← Lib.hasPrefix_of_take, ← Lib.toList_data, Lib.extract_toList]
  have hsz : s.data.toList.length = s.size := by simp
  rw [List.take_of_length_le (by rw [List.length_drop, hsz]; exact Nat.le_refl _)]
  generalize s.data.toList.drop pos = l
  rw [Bool.eq_iff_iff]
  simp only [List.length_cons, List.length_nil, Bool.and_eq_true, decide_eq_true_eq, beq_iff_eq]
  constructor
  · exact fun h => h.2
  · intro h
    have := congrArg List.length h
    simp at this
    exact ⟨by omega, h⟩
set_option maxRecDepth 1000000 in
theorem first_any (A : Option Addr) (c : Nat) (l : List UInt8) (hl : l.length ≤ 140737488351232) (w : World) (hr : SlB w A c l) :
    Calls Tryz.prog 174 #[.slice A l.length c] w fun e w' => e = .returned (.int .i64 (first l)) ∧ Below w.heap.size w w' := by
  have hcv := run_str_of_bytes (P := Tryz.prog) w 22 9 5 Tryz.underlying22 Tryz.underlying5 Tryz.underlying9 A c l hr
  have hss := txt_size l
  obtain ⟨s, hs⟩ : ∃ s, s = txt l := ⟨_, rfl⟩
  rw [← hs] at hcv hss
  have HS := Lib.hid hs
  have HSZ := Lib.hid hss
  have hsz : s.size ≤ 140737488351232 := by omega
  clear hs hss
  go_enter Tryz.func174, Tryz.ntmps174
  go_wp2_with fail
  go_step3
  go_wp2_with fail
  go_step3
  go_wp2_with fail
  go_loopw [4] (fun p w' => ∃ pos : Nat, w' = w.iter s pos ∧ p = .int .i64 l.length ∧ pos ≤ l.length ∧ first l = pos + first (l.drop pos)) (fun _ w' => s.size - w'.iterPos w.heap.size)
  case atStart => exact ⟨0, rfl, rfl, by omega, by simp⟩
  case round =>
    obtain ⟨pos, rfl, rfl, hpl, hf⟩ := hrel
    have HF := Lib.hid hf
    clear hf
    by_cases hp : pos < s.size
    · have hnx : ∀ ty, (Instr.next (.pointer (some ⟨w.heap.size, 0, none⟩)) true ty).run Tryz.prog (w.iter s pos) = _ := fun ty => run_next_any w s pos ty hp
      have hsg := decode_sign s pos hp
      have hdl : s.data.toList.drop pos = l.drop pos := by rw [HS.out, txt_list]
      rw [hdl] at hsg
      have hpre := prefix3 s pos
      rw [hdl] at hpre
      have hle := sgn_le (l.drop pos)
      have hll : (l.drop pos).length = l.length - pos := List.length_drop
      obtain ⟨d, hd⟩ : ∃ d, d = Utf8.decode s pos := ⟨_, rfl⟩
      rw [← hd] at hnx hsg
      clear hd hdl
      by_cases hz : sgn (l.drop pos) = 0
      · obtain ⟨rfl, hno⟩ := hsg.1 hz
        have HP := Lib.hid (hpre.trans (show decide _ = false by simp [hno]))
        have HR := Lib.hid (HF.out.trans (by rw [first_none hz, Nat.add_zero] : _ = pos))
        clear hsg hpre hno hz hle hll
        go_wp2_with fail
        refine (prefix_any _ _ _).mono ?_
        rw [HP.out]
        rintro e w' ⟨rfl, rfl⟩
        go_wp2
        simp only [Exit.noGoto]
        go_ret
        exact ⟨ret_int (by rw [HR.out]), (below_new w (.stringIter s (pos + 1)))⟩
      · obtain ⟨hd2, h65⟩ := hsg.2 hz
        have HN := Lib.hid (first_some hz)
        have HDR := Lib.hid (List.drop_drop (l := l) (i := sgn (l.drop pos)) (j := pos))
        have hz' : 0 < sgn (l.drop pos) := by omega
        clear hsg hz
        by_cases hd1 : d.1 = 65533
        · have b1 : ((d.1 : Int) != 65533) = false := by simp; omega
          have HP := Lib.hid (hpre.trans (show decide _ = true by simp [h65 hd1]))
          have HL := Lib.hid hll
          have HD2 := Lib.hid hd2
          clear hpre h65 hll hd2
          go_wp2_with fail
          refine (prefix_any _ _ _).mono ?_
          rw [HP.out]
          rintro e w' ⟨rfl, rfl⟩
          go_wp2
          rw [HD2.out]
          have := HL.out
          refine ⟨⟨_, rfl, rfl, by omega, ?_⟩, by simp; omega⟩
          rw [HF.out, HN.out, HDR.out]; omega
        · have b1 : ((d.1 : Int) != 65533) = true := by simp; omega
          have HL := Lib.hid hll
          have HD2 := Lib.hid hd2
          clear hpre h65 hll hd2
          go_wp2_with fail
          rw [HD2.out]
          have := HL.out
          refine ⟨⟨_, rfl, rfl, by omega, ?_⟩, by simp; omega⟩
          rw [HF.out, HN.out, HDR.out]; omega
    · have hnx : ∀ ty, (Instr.next (.pointer (some ⟨w.heap.size, 0, none⟩)) true ty).run Tryz.prog (w.iter s pos) = _ := fun ty => run_next_end w s pos ty hp
      go_wp2
      have h := HF.out
      have h2 := HSZ.out
      rw [List.drop_of_length_le (by omega), first_nil] at h
      simp only [Exit.noGoto]
      go_ret
      exact ⟨ret_int (by omega), (below_new w (.stringIter s pos))⟩
end Go.Proofs.YtipaangiehdgkaaGreatDoor.T4
/-
  A piece of a slice of bytes, from one place to another one.
-/
namespace Go.Proofs.YtipaangiehdgkaaGreatDoor
set_option maxRecDepth 100000

open Go.RowKit

theorem Sl.part {w : World} {A : Option Addr} {n c : Nat} {xs : List Value} (h : Sl w A n c 1 xs) {i j : Nat} (hij : i ≤ j) (hj : j ≤ n) : Sl w (if i = c then A else A.map (·.add i)) (j - i) (c - i) 1 ((xs.drop i).take (j - i)) := by
  have hl := h.len
  have hle := h.le
  refine ⟨by rw [List.length_take, List.length_drop]; omega, by omega, by have := h.cap; omega, ?_, ?_, ?_⟩
  · intro hA
    have : A = none := by
      cases A with
      | none => rfl
      | some ad => split at hA <;> simp at hA
    have := h.nil this
    omega
  · intro ad ha hn
    rw [if_neg (by omega)] at ha
    obtain ⟨ad0, rfl, rfl⟩ := Option.map_eq_some_iff.1 ha
    rw [add_same_block]
    exact h.old ad0 rfl (by omega)
  · intro ad ha k u hu
    rw [List.getElem?_take] at hu
    split at hu
    · rw [if_neg (by omega)] at ha
      obtain ⟨ad0, rfl, rfl⟩ := Option.map_eq_some_iff.1 ha
      rw [add_twice]
      exact h.cell ad0 rfl _ _ (by rw [← List.getElem?_drop]; exact hu)
    · cases hu
theorem bs_part (l : List UInt8) (i n : Nat) : ((bs l).drop i).take n = bs ((l.drop i).take n) := by simp [bs]
/-- A piece, where it does not begin at the capacity's end. -/
theorem SlB.part {w : World} {A : Option Addr} {c : Nat} {l : List UInt8} (h : SlB w A c l) {i j : Nat} (hij : i ≤ j) (hj : j ≤ l.length) (hc : i ≠ c) : SlB w (A.map (·.add i)) (c - i) ((l.drop i).take (j - i)) := by
  have hp := Sl.part h hij hj
  rw [bs_part, if_neg hc] at hp
  unfold SlB
  rw [show ((l.drop i).take (j - i)).length = j - i by rw [List.length_take, List.length_drop]; omega]
  exact hp
/-- .. where it does. -/
theorem SlB.part_cap {w : World} {A : Option Addr} {c : Nat} {l : List UInt8} (h : SlB w A c l) {i j : Nat} (hij : i ≤ j) (hj : j ≤ l.length) (hc : i = c) : SlB w A (c - i) ((l.drop i).take (j - i)) := by
  have hp := Sl.part h hij hj
  rw [bs_part, if_pos hc] at hp
  unfold SlB
  rw [show ((l.drop i).take (j - i)).length = j - i by rw [List.length_take, List.length_drop]; omega]
  exact hp
end Go.Proofs.YtipaangiehdgkaaGreatDoor
/-
  Whether bytes are signs from one place to another one, and whether a text is less than another one: the contracts, of the program's functions and of the document's answers.
-/
namespace Go.Proofs.YtipaangiehdgkaaGreatDoor.T4
set_option maxRecDepth 100000

open Go.RowKit

/-- Whether bytes are signs from one place to another one. -/
def fineB (l : List UInt8) (a u : Int) : Bool := decide (0 ≤ a ∧ a ≤ u ∧ u ≤ l.length) && first ((l.drop a.toNat).take (u.toNat - a.toNat)) == u.toNat - a.toNat

theorem fine_eq (l : List UInt8) (i j : Nat) (hij : i ≤ j) (hj : j ≤ l.length) : fineB l i j = ((first ((l.drop i).take (j - i)) : Int) == (j : Int) - (i : Int)) := by
  unfold fineB
  rw [decide_eq_true (by omega), Bool.true_and, Bool.eq_iff_iff]
  simp only [beq_iff_eq, Int.toNat_natCast]
  omega

set_option maxRecDepth 1000000 in
theorem fine_any (A : Option Addr) (c : Nat) (l : List UInt8) (hl : l.length ≤ 140737488351232) (a u : Int) (w : World) (hr : SlB w A c l) :
    Calls Tryz.prog 153 #[.slice A l.length c, .int .i64 a, .int .i64 u] w fun e w' => e = .returned (.bool (fineB l a u)) ∧ Below w.heap.size w w' := by
  by_cases h0 : 0 ≤ a
  · by_cases h1 : a ≤ u
    · by_cases h2 : u ≤ l.length
      · obtain ⟨i, rfl⟩ := Int.eq_ofNat_of_zero_le h0
        obtain ⟨j, rfl⟩ := Int.eq_ofNat_of_zero_le (by omega : 0 ≤ u)
        have hij : i ≤ j := by omega
        have hj : j ≤ l.length := by omega
        have hjc : j ≤ c := by have := hr.le; omega
        have hlen : ((l.drop i).take (j - i)).length = j - i := by rw [List.length_take, List.length_drop]; omega
        have d0 : decide ((i : Int) < 0) = false := by simp
        have d1 : decide (j < i) = false := by simp; omega
        have d2 : decide (l.length < j) = false := by simp; omega
        have hp := Sl.part hr hij hj
        rw [bs_part] at hp
        have HF := Lib.hid (fine_eq l i j hij hj)
        generalize (l.drop i).take (j - i) = m at *
        have HL := Lib.hid hlen
        have hm : m.length ≤ 140737488351232 := by omega
        clear hlen h0 h1 h2
        by_cases hci : i = c
        · rw [if_pos hci] at hp
          have hp : SlB w A (c - i) m := by unfold SlB; rw [HL.out]; exact hp
          have H := first_any A (c - i) m hm w hp
          rw [HL.out] at H
          have := hr.le
          obtain rfl : j = i := by omega
          rw [← hci, Nat.sub_self] at H
          have HH := Lib.hid H
          have HC := Lib.hid hci
          clear hci H
          go_enter Tryz.func153, Tryz.ntmps153
          go_wp2_with fail
          · refine (HH.out).mono ?_
            rintro e w1 ⟨rfl, hb⟩
            go_wp2
            go_ret
            exact ⟨ret_bool (by rw [HF.out]; simp), hb⟩
          · exfalso
            rename_i h
            exact h HC.out.symm
        · rw [if_neg hci] at hp
          have hp : SlB w (A.map (·.add i)) (c - i) m := by unfold SlB; rw [HL.out]; exact hp
          have H := Lib.hid (first_any (A.map (·.add i)) (c - i) m hm w hp)
          rw [HL.out] at H
          have HC := Lib.hid hci
          clear hci
          go_enter Tryz.func153, Tryz.ntmps153
          go_wp2_with fail
          · exfalso
            rename_i h
            exact HC.out h.symm
          · refine (H.out).mono ?_
            rintro e w1 ⟨rfl, hb⟩
            go_wp2
            go_ret
            exact ⟨ret_bool HF.out.symm, hb⟩
      · have HF : Hid (fineB l a u = false) := Lib.hid (by simp [fineB, h2])
        have d0 : decide (a < 0) = false := by simp; omega
        have d1 : decide (u < a) = false := by simp; omega
        have d2 : decide ((l.length : Int) < u) = true := by simp; omega
        clear h0 h1 h2
        go_enter Tryz.func153, Tryz.ntmps153
        go_wp2
        go_ret
        exact ⟨ret_bool HF.out.symm, Below.refl _ _⟩
    · have HF : Hid (fineB l a u = false) := Lib.hid (by simp [fineB, h1])
      have d0 : decide (a < 0) = false := by simp; omega
      have d1 : decide (u < a) = true := by simp; omega
      clear h0 h1
      go_enter Tryz.func153, Tryz.ntmps153
      go_wp2
      go_ret
      exact ⟨ret_bool HF.out.symm, Below.refl _ _⟩
  · have HF : Hid (fineB l a u = false) := Lib.hid (by simp [fineB, h0])
    have d0 : decide (a < 0) = true := by simp; omega
    clear h0
    go_enter Tryz.func153, Tryz.ntmps153
    go_wp2
    go_ret
    exact ⟨ret_bool HF.out.symm, Below.refl _ _⟩
end Go.Proofs.YtipaangiehdgkaaGreatDoor.T4
/-
  The numbers of kinds: what the small functions of package conv hand back.
-/
namespace Go.Proofs.YtipaangiehdgkaaGreatDoor
set_option maxRecDepth 100000

open Go.RowKit

def S64 (r : Int) : Int := if r < 9223372036854775808 then r else r - 18446744073709551616
def S32 (r : Int) : Int := if r < 2147483648 then r else r - 4294967296
def U64 (n : Int) : Int := if 0 ≤ n then n else n + 18446744073709551616
def unzigI (r : Int) : Int := if r % 2 = 0 then r / 2 else -(r / 2) - 1
def zigI (n : Int) : Int := if 0 ≤ n then 2 * n else -2 * n - 1

theorem wrap_s64 {r : Int} (h0 : 0 ≤ r) (h1 : r < 18446744073709551616) : IntKind.i64.wrap r = S64 r := by
  unfold S64 IntKind.wrap
  simp [IntKind.signed, IntKind.bits]
  split <;> omega
theorem wrap_u64 {n : Int} (h0 : -9223372036854775808 ≤ n) (h1 : n ≤ 9223372036854775807) : IntKind.u64.wrap n = U64 n := by
  unfold U64 IntKind.wrap
  simp [IntKind.signed, IntKind.bits]
  split <;> omega

theorem counts_any (k : Int) (w : World) : Calls Tryz.prog 70 #[.int .i64 k] w fun e w' => e = .returned (.bool (decide (0 ≤ k) && decide (k < 7))) ∧ w = w' := by
  go_enter Tryz.func70, Tryz.ntmps70
  go_wp2
  all_goals
    go_ret
    refine ⟨?_, rfl⟩
    first | (simp_all; done) | (simp_all; omega) | (simp; omega)
theorem fitsAlways_any (n : Int) (w : World) : Calls Tryz.prog 116 #[.int .i64 n] w fun e w' => e = .returned (.bool true) ∧ w = w' := by
  go_enter Tryz.func116, Tryz.ntmps116
  go_wp2
  go_ret
  exact ⟨rfl, rfl⟩
theorem fitsLow_any (n : Int) (w : World) : Calls Tryz.prog 121 #[.int .i64 n] w fun e w' => e = .returned (.bool (decide (0 ≤ n) && decide (n ≤ 4294967295))) ∧ w = w' := by
  go_enter Tryz.func121, Tryz.ntmps121
  go_wp2
  all_goals
    go_ret
    refine ⟨?_, rfl⟩
    first | (simp_all; done) | (simp_all; omega) | (simp; omega)
theorem fitsFlag_any (n : Int) (w : World) : Calls Tryz.prog 123 #[.int .i64 n] w fun e w' => e = .returned (.bool (n == 0 || n == 1)) ∧ w = w' := by
  go_enter Tryz.func123, Tryz.ntmps123
  go_wp2
  all_goals
    go_ret
    refine ⟨?_, rfl⟩
    first | (simp_all; done) | (rename_i h; have e0 : (n == 0) = false := (by simp [h]); rw [e0]; rfl)
theorem fitsSignedLow_any (n : Int) (w : World) : Calls Tryz.prog 125 #[.int .i64 n] w fun e w' => e = .returned (.bool (decide (-2147483648 ≤ n) && decide (n ≤ 2147483647))) ∧ w = w' := by
  go_enter Tryz.func125, Tryz.ntmps125
  go_wp2
  all_goals
    go_ret
    refine ⟨?_, rfl⟩
    first | (simp_all; done) | (simp_all; omega) | (simp; omega)
theorem signed_any (r : Int) (h0 : 0 ≤ r) (h1 : r < 18446744073709551616) (w : World) : Calls Tryz.prog 117 #[.int .u64 r] w fun e w' => e = .returned (.int .i64 (S64 r)) ∧ w = w' := by
  have hw := wrap_s64 h0 h1
  go_enter Tryz.func117, Tryz.ntmps117
  go_wp2
  go_ret
  exact ⟨rfl, rfl⟩
theorem bitsOf_any (n : Int) (h0 : -9223372036854775808 ≤ n) (h1 : n ≤ 9223372036854775807) (w : World) : Calls Tryz.prog 118 #[.int .i64 n] w fun e w' => e = .returned (.int .u64 (U64 n)) ∧ w = w' := by
  have hw := wrap_u64 h0 h1
  go_enter Tryz.func118, Tryz.ntmps118
  go_wp2
  go_ret
  exact ⟨rfl, rfl⟩
theorem low_any (r : Int) (h0 : 0 ≤ r) (h1 : r < 18446744073709551616) (w : World) : Calls Tryz.prog 122 #[.int .u64 r] w fun e w' => e = .returned (.int .i64 (r % 4294967296)) ∧ w = w' := by
  go_enter Tryz.func122, Tryz.ntmps122
  go_wp2
  go_ret
  exact ⟨rfl, rfl⟩
theorem signedLow_any (r : Int) (h0 : 0 ≤ r) (h1 : r < 18446744073709551616) (w : World) : Calls Tryz.prog 126 #[.int .u64 r] w fun e w' => e = .returned (.int .i64 (S32 (r % 4294967296))) ∧ w = w' := by
  go_enter Tryz.func126, Tryz.ntmps126
  go_wp2
  go_ret
  refine ⟨ret_int ?_, rfl⟩
  unfold S32 wrap64 wrap32
  split <;> omega
theorem flag_any (r : Int) (w : World) : Calls Tryz.prog 124 #[.int .u64 r] w fun e w' => e = .returned (.int .i64 (if r = 0 then 0 else 1)) ∧ w = w' := by
  go_enter Tryz.func124, Tryz.ntmps124
  go_wp2
  all_goals
    go_ret
    refine ⟨?_, rfl⟩
    first | (simp_all; done) | (simp_all; omega) | (simp; omega)
theorem unzigzag_any (r : Int) (h0 : 0 ≤ r) (h1 : r < 18446744073709551616) (w : World) : Calls Tryz.prog 119 #[.int .u64 r] w fun e w' => e = .returned (.int .i64 (unzigI r)) ∧ w = w' := by
  go_enter Tryz.func119, Tryz.ntmps119
  go_wp2
  all_goals
    go_ret
    refine ⟨ret_int ?_, rfl⟩
    unfold unzigI
    simp_all
theorem zigzag_any (n : Int) (h0 : -9223372036854775808 ≤ n) (h1 : n ≤ 9223372036854775807) (w : World) : Calls Tryz.prog 120 #[.int .i64 n] w fun e w' => e = .returned (.int .u64 (zigI n)) ∧ w = w' := by
  go_enter Tryz.func120, Tryz.ntmps120
  go_wp2
  all_goals
    go_ret
    refine ⟨ret_int ?_, rfl⟩
    unfold zigI
    try simp [wrap64, IntKind.wrap, IntKind.signed, IntKind.bits]
    first | omega | (split <;> omega)
end Go.Proofs.YtipaangiehdgkaaGreatDoor
/-
  The array of rules.
-/
namespace Go.Proofs.YtipaangiehdgkaaGreatDoor
set_option maxRecDepth 100000

open Go.RowKit

def fv (k : Nat) : Value := .func (.func k) #[] #[]
def ruleV (t f o b : Nat) : List Value := [.int .i64 t, fv f, fv o, fv b]
def rulesL : List Value :=
  ruleV 0 116 117 118 ++ (
  ruleV 0 116 119 120 ++ (
  ruleV 0 121 122 118 ++ (
  ruleV 0 123 124 118 ++ (
  ruleV 5 121 122 118 ++ (
  ruleV 1 116 117 118 ++ (
  ruleV 0 125 126 118))))))
def rulesV : Value := .agg rulesL.toArray

theorem rules_any (w : World) : Calls Tryz.prog 71 #[] w fun e w' => e = .returned rulesV ∧ Below w.heap.size w w' := by
  have hi : (Tryz.prog.info? 129).map (·.size) = some rulesL.toArray.size := by kernel_rfl
  have h1 : rulesL.toArray.all (·.oneCell') = true := by kernel_rfl
  go_enter Tryz.func71, Tryz.ntmps71
  go_wp2_with (refine wpList_store_rowTo rfl 129 _ _ rfl rfl w.heap.size rulesL.toArray rfl rfl 129 _ (heap_alloc_last w _) hi rfl h1 ?_)
  rw [World.setRow_alloc_new]
  refine bodyPost_ret (v := rulesV) ?_ rfl ⟨rfl, below_new w _⟩
  exact results_cell_row rfl _ _ w.heap.size 129 rulesL.toArray (0, 0) _ rfl (heap_alloc_last w _) Tryz.underlying129 rfl hi

/-- The rule of one kind. -/
def ruleI (k : Nat) : Value := .agg ((rulesL.drop (4 * k)).take 4).toArray
theorem rule_at (k : Nat) (hk : k < 7) (w : World) : (Instr.index 129 rulesV (.int .i64 k)).run Tryz.prog w = .ok (ruleI k) w := by
  rcases k with _ | _ | _ | _ | _ | _ | _ | k
  · kernel_rfl
  · kernel_rfl
  · kernel_rfl
  · kernel_rfl
  · kernel_rfl
  · kernel_rfl
  · kernel_rfl
  · omega

def fitsB (k n : Int) : Bool :=
  if k = 0 then true else if k = 1 then true else if k = 2 then decide (0 ≤ n) && decide (n ≤ 4294967295) else if k = 3 then n == 0 || n == 1
  else if k = 4 then decide (0 ≤ n) && decide (n ≤ 4294967295) else if k = 5 then true else if k = 6 then decide (-2147483648 ≤ n) && decide (n ≤ 2147483647) else false


theorem fits_by (k f : Nat) (n : Int) (b : Bool) (hk : k < 7)
    (hf : ∀ w, (Instr.field 128 (ruleI k) 1).run Tryz.prog w = .ok (.func (.func f) #[] #[]) w)
    (hent : ∀ args w, (callFunc f args).run Tryz.prog w = .ok (.enter f args) w)
    (hcall : ∀ w, Calls Tryz.prog f #[.int .i64 n] w fun e w' => e = .returned (.bool b) ∧ w = w')
    (w : World) : Calls Tryz.prog 107 #[.int .i64 k, .int .i64 n] w fun e w' => e = .returned (.bool b) ∧ Below w.heap.size w w' := by
  have hx := rule_at k hk
  have hc : ∀ w, Calls Tryz.prog 70 #[.int .i64 k] w fun e w' => e = .returned (.bool true) ∧ w = w' := fun w => by
    have h := counts_any k w
    rw [show (decide (0 ≤ (k : Int)) && decide ((k : Int) < 7)) = true by simp; omega] at h
    exact h
  go_enter Tryz.func107, Tryz.ntmps107
  go_wp2_with fail
  refine (hc _).mono ?_
  rintro e w1 ⟨rfl, rfl⟩
  go_wp2_with fail
  refine (rules_any _).mono ?_
  rintro e w1 ⟨rfl, hb⟩
  go_wp2_with fail
  refine (hcall _).mono ?_
  rintro e w2 ⟨rfl, rfl⟩
  go_wp2
  go_ret
  exact ⟨rfl, hb⟩
theorem of_by (k f : Nat) (r : Int) (v : Int) (hk : k < 7)
    (hf : ∀ w, (Instr.field 128 (ruleI k) 2).run Tryz.prog w = .ok (.func (.func f) #[] #[]) w)
    (hent : ∀ args w, (callFunc f args).run Tryz.prog w = .ok (.enter f args) w)
    (hcall : ∀ w, Calls Tryz.prog f #[.int .u64 r] w fun e w' => e = .returned (.int .i64 v) ∧ w = w')
    (w : World) : Calls Tryz.prog 45 #[.int .i64 k, .int .u64 r] w fun e w' => e = .returned (.tuple #[.int .i64 v, .bool true]) ∧ Below w.heap.size w w' := by
  have hx := rule_at k hk
  have hc : ∀ w, Calls Tryz.prog 70 #[.int .i64 k] w fun e w' => e = .returned (.bool true) ∧ w = w' := fun w => by
    have h := counts_any k w
    rw [show (decide (0 ≤ (k : Int)) && decide ((k : Int) < 7)) = true by simp; omega] at h
    exact h
  go_enter Tryz.func45, Tryz.ntmps45
  go_wp2_with fail
  refine (hc _).mono ?_
  rintro e w1 ⟨rfl, rfl⟩
  go_wp2_with fail
  refine (rules_any _).mono ?_
  rintro e w1 ⟨rfl, hb⟩
  go_wp2_with fail
  refine (hcall _).mono ?_
  rintro e w2 ⟨rfl, rfl⟩
  go_wp2
  go_ret2
  exact ⟨rfl, hb⟩
theorem bits_by (k f : Nat) (n : Int) (v : Int) (hk : k < 7)
    (hfits : ∀ w, Calls Tryz.prog 107 #[.int .i64 k, .int .i64 n] w fun e w' => e = .returned (.bool true) ∧ Below w.heap.size w w')
    (hf : ∀ w, (Instr.field 128 (ruleI k) 3).run Tryz.prog w = .ok (.func (.func f) #[] #[]) w)
    (hent : ∀ args w, (callFunc f args).run Tryz.prog w = .ok (.enter f args) w)
    (hcall : ∀ w, Calls Tryz.prog f #[.int .i64 n] w fun e w' => e = .returned (.int .u64 v) ∧ w = w')
    (w : World) : Calls Tryz.prog 110 #[.int .i64 k, .int .i64 n] w fun e w' => e = .returned (.tuple #[.int .u64 v, .bool true]) ∧ Below w.heap.size w w' := by
  have hx := rule_at k hk
  go_enter Tryz.func110, Tryz.ntmps110
  go_wp2_with fail
  refine (hfits _).mono ?_
  rintro e w1 ⟨rfl, hb1⟩
  go_wp2_with fail
  refine (rules_any _).mono ?_
  rintro e w2 ⟨rfl, hb2⟩
  go_wp2_with fail
  refine (hcall _).mono ?_
  rintro e w3 ⟨rfl, rfl⟩
  go_wp2
  go_ret2
  exact ⟨rfl, below_then hb1 hb2⟩
theorem bits_not (k n : Int)
    (hfits : ∀ w, Calls Tryz.prog 107 #[.int .i64 k, .int .i64 n] w fun e w' => e = .returned (.bool false) ∧ Below w.heap.size w w')
    (w : World) : Calls Tryz.prog 110 #[.int .i64 k, .int .i64 n] w fun e w' => e = .returned (.tuple #[.int .u64 0, .bool false]) ∧ Below w.heap.size w w' := by
  go_enter Tryz.func110, Tryz.ntmps110
  go_wp2_with fail
  refine (hfits _).mono ?_
  rintro e w1 ⟨rfl, hb1⟩
  go_wp2
  go_ret2
  exact ⟨rfl, hb1⟩
theorem wire_by (k : Nat) (v : Int) (hk : k < 7)
    (hf : ∀ w, (Instr.field 128 (ruleI k) 0).run Tryz.prog w = .ok (.int .i64 v) w)
    (w : World) : Calls Tryz.prog 43 #[.int .i64 k] w fun e w' => e = .returned (.int .i64 v) ∧ Below w.heap.size w w' := by
  have hx := rule_at k hk
  have hc : ∀ w, Calls Tryz.prog 70 #[.int .i64 k] w fun e w' => e = .returned (.bool true) ∧ w = w' := fun w => by
    have h := counts_any k w
    rw [show (decide (0 ≤ (k : Int)) && decide ((k : Int) < 7)) = true by simp; omega] at h
    exact h
  go_enter Tryz.func43, Tryz.ntmps43
  go_wp2_with fail
  refine (hc _).mono ?_
  rintro e w1 ⟨rfl, rfl⟩
  go_wp2_with fail
  refine (rules_any _).mono ?_
  rintro e w1 ⟨rfl, hb⟩
  go_wp2
  go_ret
  exact ⟨rfl, hb⟩

theorem counts_not {k : Int} (h : ¬ (0 ≤ k ∧ k < 7)) (w : World) : Calls Tryz.prog 70 #[.int .i64 k] w fun e w' => e = .returned (.bool false) ∧ w = w' := by
  have h2 := counts_any k w
  rw [show (decide (0 ≤ k) && decide (k < 7)) = false by simp; omega] at h2
  exact h2
theorem wire_not (k : Int) (h : ¬ (0 ≤ k ∧ k < 7)) (w : World) :
    Calls Tryz.prog 43 #[.int .i64 k] w fun e w' => e = .returned (.int .i64 (if 0 ≤ k ∧ k < 10 then 2 else -1)) ∧ Below w.heap.size w w' := by
  have hc := counts_not h
  by_cases h1 : k < 0
  · rw [if_neg (by omega)]
    clear h
    go_enter Tryz.func43, Tryz.ntmps43
    go_wp2_with fail
    refine (hc _).mono ?_
    rintro e w1 ⟨rfl, rfl⟩
    go_wp2
    go_ret
    exact ⟨rfl, Below.refl _ _⟩
  by_cases h2 : k < 10
  · rw [if_pos (by omega)]
    clear h
    go_enter Tryz.func43, Tryz.ntmps43
    go_wp2_with fail
    refine (hc _).mono ?_
    rintro e w1 ⟨rfl, rfl⟩
    go_wp2
    go_ret
    exact ⟨rfl, Below.refl _ _⟩
  · rw [if_neg (by omega)]
    clear h
    go_enter Tryz.func43, Tryz.ntmps43
    go_wp2_with fail
    refine (hc _).mono ?_
    rintro e w1 ⟨rfl, rfl⟩
    go_wp2
    go_ret
    exact ⟨rfl, Below.refl _ _⟩
theorem of_not (k : Int) (r : Int) (h : ¬ (0 ≤ k ∧ k < 7)) (w : World) :
    Calls Tryz.prog 45 #[.int .i64 k, .int .u64 r] w fun e w' => e = .returned (.tuple #[.int .i64 0, .bool false]) ∧ Below w.heap.size w w' := by
  have hc := counts_not h
  clear h
  go_enter Tryz.func45, Tryz.ntmps45
  go_wp2_with fail
  refine (hc _).mono ?_
  rintro e w1 ⟨rfl, rfl⟩
  go_wp2
  go_ret2
  exact ⟨rfl, Below.refl _ _⟩
theorem fits_not (k : Int) (n : Int) (h : ¬ (0 ≤ k ∧ k < 7)) (w : World) :
    Calls Tryz.prog 107 #[.int .i64 k, .int .i64 n] w fun e w' => e = .returned (.bool false) ∧ Below w.heap.size w w' := by
  have hc := counts_not h
  clear h
  go_enter Tryz.func107, Tryz.ntmps107
  go_wp2_with fail
  refine (hc _).mono ?_
  rintro e w1 ⟨rfl, rfl⟩
  go_wp2
  go_ret
  exact ⟨rfl, Below.refl _ _⟩

/-! ### The document's numbers -/

def cnt (k : Int) : Bool := decide (0 ≤ k ∧ k < 7)
def wireI (k : Int) : Int := if k = 0 ∨ k = 1 ∨ k = 2 ∨ k = 3 ∨ k = 6 then 0 else if k = 4 then 5 else if k = 5 then 1 else if 0 ≤ k ∧ k < 10 then 2 else -1
def ofI (k r : Int) : Int :=
  if k = 0 then S64 r else if k = 1 then unzigI r else if k = 2 then r % 4294967296 else if k = 3 then (if r = 0 then 0 else 1) else if k = 4 then r % 4294967296 else if k = 5 then S64 r else if k = 6 then S32 (r % 4294967296) else 0
def bitsI (k n : Int) : Int := if fitsB k n = true then (if k = 1 then zigI n else U64 n) else 0

theorem seven {k : Int} (h : 0 ≤ k ∧ k < 7) : k = 0 ∨ k = 1 ∨ k = 2 ∨ k = 3 ∨ k = 4 ∨ k = 5 ∨ k = 6 := by omega
theorem wire_any (k : Int) (w : World) : Calls Tryz.prog 43 #[.int .i64 k] w fun e w' => e = .returned (.int .i64 (wireI k)) ∧ Below w.heap.size w w' := by
  by_cases h : 0 ≤ k ∧ k < 7
  · rcases seven h with rfl | rfl | rfl | rfl | rfl | rfl | rfl
    · exact wire_by 0 0 (by omega) (fun _ => by kernel_rfl) w
    · exact wire_by 1 0 (by omega) (fun _ => by kernel_rfl) w
    · exact wire_by 2 0 (by omega) (fun _ => by kernel_rfl) w
    · exact wire_by 3 0 (by omega) (fun _ => by kernel_rfl) w
    · exact wire_by 4 5 (by omega) (fun _ => by kernel_rfl) w
    · exact wire_by 5 1 (by omega) (fun _ => by kernel_rfl) w
    · exact wire_by 6 0 (by omega) (fun _ => by kernel_rfl) w
  · have e : wireI k = if 0 ≤ k ∧ k < 10 then 2 else -1 := by
      unfold wireI
      rw [if_neg (by omega), if_neg (by omega), if_neg (by omega)]
    rw [e]
    exact wire_not k h w
theorem fits_any (k n : Int) (w : World) : Calls Tryz.prog 107 #[.int .i64 k, .int .i64 n] w fun e w' => e = .returned (.bool (fitsB k n)) ∧ Below w.heap.size w w' := by
  by_cases h : 0 ≤ k ∧ k < 7
  · rcases seven h with rfl | rfl | rfl | rfl | rfl | rfl | rfl
    · exact fits_by 0 _ n _ (by omega) (fun _ => by kernel_rfl) (fun _ _ => by kernel_rfl) (fitsAlways_any n) w
    · exact fits_by 1 _ n _ (by omega) (fun _ => by kernel_rfl) (fun _ _ => by kernel_rfl) (fitsAlways_any n) w
    · exact fits_by 2 _ n _ (by omega) (fun _ => by kernel_rfl) (fun _ _ => by kernel_rfl) (fitsLow_any n) w
    · exact fits_by 3 _ n _ (by omega) (fun _ => by kernel_rfl) (fun _ _ => by kernel_rfl) (fitsFlag_any n) w
    · exact fits_by 4 _ n _ (by omega) (fun _ => by kernel_rfl) (fun _ _ => by kernel_rfl) (fitsLow_any n) w
    · exact fits_by 5 _ n _ (by omega) (fun _ => by kernel_rfl) (fun _ _ => by kernel_rfl) (fitsAlways_any n) w
    · exact fits_by 6 _ n _ (by omega) (fun _ => by kernel_rfl) (fun _ _ => by kernel_rfl) (fitsSignedLow_any n) w
  · have e : fitsB k n = false := by
      unfold fitsB
      rw [if_neg (by omega), if_neg (by omega), if_neg (by omega), if_neg (by omega), if_neg (by omega), if_neg (by omega), if_neg (by omega)]
    rw [e]
    exact fits_not k n h w
theorem of_any (k r : Int) (h0 : 0 ≤ r) (h1 : r < 18446744073709551616) (w : World) : Calls Tryz.prog 45 #[.int .i64 k, .int .u64 r] w fun e w' => e = .returned (.tuple #[.int .i64 (ofI k r), .bool (cnt k)]) ∧ Below w.heap.size w w' := by
  by_cases h : 0 ≤ k ∧ k < 7
  · rcases seven h with rfl | rfl | rfl | rfl | rfl | rfl | rfl
    · exact of_by 0 _ r _ (by omega) (fun _ => by kernel_rfl) (fun _ _ => by kernel_rfl) (signed_any r h0 h1) w
    · exact of_by 1 _ r _ (by omega) (fun _ => by kernel_rfl) (fun _ _ => by kernel_rfl) (unzigzag_any r h0 h1) w
    · exact of_by 2 _ r _ (by omega) (fun _ => by kernel_rfl) (fun _ _ => by kernel_rfl) (low_any r h0 h1) w
    · exact of_by 3 _ r _ (by omega) (fun _ => by kernel_rfl) (fun _ _ => by kernel_rfl) (flag_any r) w
    · exact of_by 4 _ r _ (by omega) (fun _ => by kernel_rfl) (fun _ _ => by kernel_rfl) (low_any r h0 h1) w
    · exact of_by 5 _ r _ (by omega) (fun _ => by kernel_rfl) (fun _ _ => by kernel_rfl) (signed_any r h0 h1) w
    · exact of_by 6 _ r _ (by omega) (fun _ => by kernel_rfl) (fun _ _ => by kernel_rfl) (signedLow_any r h0 h1) w
  · have e : ofI k r = 0 := by
      unfold ofI
      rw [if_neg (by omega), if_neg (by omega), if_neg (by omega), if_neg (by omega), if_neg (by omega), if_neg (by omega), if_neg (by omega)]
    have e2 : cnt k = false := by simp [cnt]; omega
    rw [e, e2]
    exact of_not k r h w
theorem bits_any (k n : Int) (h0 : -9223372036854775808 ≤ n) (h1 : n ≤ 9223372036854775807) (w : World) : Calls Tryz.prog 110 #[.int .i64 k, .int .i64 n] w fun e w' => e = .returned (.tuple #[.int .u64 (bitsI k n), .bool (fitsB k n)]) ∧ Below w.heap.size w w' := by
  have hf := fits_any k n
  unfold bitsI
  by_cases hb : fitsB k n = true
  · rw [if_pos hb, hb]
    rw [hb] at hf
    have h : 0 ≤ k ∧ k < 7 := by
      by_cases h : 0 ≤ k ∧ k < 7
      · exact h
      · unfold fitsB at hb
        rw [if_neg (by omega), if_neg (by omega), if_neg (by omega), if_neg (by omega), if_neg (by omega), if_neg (by omega), if_neg (by omega)] at hb
        cases hb
    rcases seven h with rfl | rfl | rfl | rfl | rfl | rfl | rfl
    · exact bits_by 0 _ n _ (by omega) hf (fun _ => by kernel_rfl) (fun _ _ => by kernel_rfl) (bitsOf_any n h0 h1) w
    · exact bits_by 1 _ n _ (by omega) hf (fun _ => by kernel_rfl) (fun _ _ => by kernel_rfl) (zigzag_any n h0 h1) w
    · exact bits_by 2 _ n _ (by omega) hf (fun _ => by kernel_rfl) (fun _ _ => by kernel_rfl) (bitsOf_any n h0 h1) w
    · exact bits_by 3 _ n _ (by omega) hf (fun _ => by kernel_rfl) (fun _ _ => by kernel_rfl) (bitsOf_any n h0 h1) w
    · exact bits_by 4 _ n _ (by omega) hf (fun _ => by kernel_rfl) (fun _ _ => by kernel_rfl) (bitsOf_any n h0 h1) w
    · exact bits_by 5 _ n _ (by omega) hf (fun _ => by kernel_rfl) (fun _ _ => by kernel_rfl) (bitsOf_any n h0 h1) w
    · exact bits_by 6 _ n _ (by omega) hf (fun _ => by kernel_rfl) (fun _ _ => by kernel_rfl) (bitsOf_any n h0 h1) w
  · have hb' : fitsB k n = false := by simpa using hb
    rw [if_neg hb, hb']
    rw [hb'] at hf
    exact bits_not k n hf w
end Go.Proofs.YtipaangiehdgkaaGreatDoor
/-
  Messages that a schema allows, by plain functions: what is of a kind, what is of a message.
-/
namespace Go.Proofs.YtipaangiehdgkaaGreatDoor.T9
set_option maxRecDepth 100000
open Go.Proofs.YtipaangiehdgkaaGreatDoor.T4

/-- Is a text UTF-8? -/
def utfB (s : List UInt8) : Bool := fineB s 0 s.length
/-- Is something so of a list's only element? -/
def oneB (f : Mg → Bool) : List Mg → Bool
  | [x] => f x
  | _ => false
theorem oneB_ne {f : Mg → Bool} {l : List Mg} (h : l.length ≠ 1) : oneB f l = false := by
  match l, h with
  | [], _ => rfl
  | _ :: _ :: _, _ => rfl
/-- Is a value of a kind? G: is a message of one? -/
def askG (G : Int → Mg → Bool) (kind ref : Int) (v : Vl') : Bool :=
  if kind = 7 then (v.n == 0) && (utfB v.s && v.M.isEmpty)
  else if kind = 8 then (v.n == 0) && v.M.isEmpty
  else if kind = 9 then (v.n == 0) && (v.s.isEmpty && oneB (G ref) v.M)
  else fitsB kind v.n && (v.s.isEmpty && v.M.isEmpty)
/-- May a field's slot have as many keys, and values? -/
def manyB (f : Df) (k v : Nat) : Bool := if f.key = -1 then (k == 0) && (f.rep || v == 1) else k == v
def fillG (G : Int → Mg → Bool) (f : Df) (s : So) : Bool := manyB f s.K.length s.V.length && (s.K.all (askG G f.key 0) && s.V.all (askG G f.kind f.ref))
/-- What a field claims, the last one first. -/
def claimsOf (f : Df) : List (Int × Int) := if f.one = 0 then [(f.no, 0)] else [(0, f.one), (f.no, 0)]
def claimB (cl : List (Int × Int)) (f : Df) : Bool := !cl.contains (f.no, 0) && (f.one == 0 || !((f.no, 0) :: cl).contains (0, f.one))
def slotsG (fd : Int → Option Df) (fill : Df → So → Bool) : List (Int × Int) → List So → Bool
  | _, [] => true
  | cl, s :: l => match fd s.no with
    | none => false
    | some f => claimB cl f && (fill f s && slotsG fd fill (claimsOf f ++ cl) l)
def isG (s : Sc) (G : Int → Mg → Bool) (m : Int) (x : Mg) : Bool := decide (0 ≤ m ∧ m < s.M.length) && slotsG (byS s m) (fillG G) [] x.F
/-- Is a message of message m, and at most so deep? -/
def isB (s : Sc) : Nat → Int → Mg → Bool
  | 0 => fun _ _ => false
  | d + 1 => isG s (isB s d)
/-- Is a value of a kind, its message at most so deep? -/
def valB (s : Sc) (d : Nat) (kind ref : Int) (v : Vl') : Bool := askG (isB s d) kind ref v
open Classical in
noncomputable def mayT (s : Sc) (m : Int) (x : Mg) : Bool := decide (ScMay s) && isB s 64 m x
open Classical in
noncomputable def valT (s : Sc) (kind ref : Int) (v : Vl') : Bool := decide (ScMay s) && valB s 63 kind ref v

theorem slotsG_cons {fd : Int → Option Df} {fill : Df → So → Bool} {cl : List (Int × Int)} {s : So} {l : List So} : slotsG fd fill cl (s :: l) = match fd s.no with | none => false | some f => claimB cl f && (fill f s && slotsG fd fill (claimsOf f ++ cl) l) := rfl
theorem drop_cons {α : Type} {l : List α} {k : Nat} {a : α} (h : l[k]? = some a) : l.drop k = a :: l.drop (k + 1) := by
  obtain ⟨hk, rfl⟩ := List.getElem?_eq_some_iff.1 h
  exact List.drop_eq_getElem_cons hk
/-- What is claimed, of a list of slots whose fields there are. -/
def claimed (fd : Int → Option Df) : List So → List (Int × Int)
  | [] => []
  | s :: l => claimed fd l ++ (match fd s.no with | none => [] | some f => claimsOf f)
theorem slots_append {fd : Int → Option Df} {fill : Df → So → Bool} {cl : List (Int × Int)} {a b : List So} : slotsG fd fill cl (a ++ b) = (slotsG fd fill cl a && slotsG fd fill (claimed fd a ++ cl) b) := by
  induction a generalizing cl with
  | nil => simp [slotsG, claimed]
  | cons s a ih =>
    rw [List.cons_append, slotsG_cons, slotsG_cons]
    cases h : fd s.no with
    | none => rfl
    | some f =>
      simp only
      rw [ih, claimed, h, Bool.and_assoc, Bool.and_assoc, List.append_assoc]
theorem claim_in {fd : Int → Option Df} {l : List So} {s : So} {f : Df} (hs : s ∈ l) (hf : fd s.no = some f) : (f.no, 0) ∈ claimed fd l := by
  induction l with
  | nil => cases hs
  | cons x l ih =>
    rw [claimed, List.mem_append]
    rcases List.mem_cons.1 hs with rfl | hs
    · right
      rw [hf]
      simp only [claimsOf]
      split <;> simp
    · exact .inl (ih hs)
theorem ask_of {G : Int → Mg → Bool} {kind ref : Int} {v : Vl'} (h : askG G kind ref v = true) (h9 : kind ≠ 9) : v.M = [] := by
  unfold askG at h
  repeat' split at h
  all_goals simp_all
end Go.Proofs.YtipaangiehdgkaaGreatDoor.T9
