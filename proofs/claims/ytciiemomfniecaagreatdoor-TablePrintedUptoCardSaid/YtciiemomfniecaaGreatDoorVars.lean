/-
  What is resolved of a file that is right: it may be, its fields are found, the order of fields does not matter, a message more changes nothing.
-/
import Derived.Test.YtciiemomfniecaaGreatDoorTabMath
import Derived.Laws.BytesArg
import Derived.Lib.ItoaNum
import Derived.Lib.ParseIntBTie
import Derived.Lib.AtoiAllCases
import Derived.Maps.OwnSet
import Derived.Lib.LaidTab
namespace Go.Proofs.YtciiemomfniecaaGreatDoor
set_option maxRecDepth 100000

/-! ### Schemas that may be -/

structure DfMay (s : Sc) (d : Df) : Prop where
  num : numberB d.no = true
  k0 : 0 ≤ d.kind
  k9 : d.kind ≤ 9
  o0 : 0 ≤ d.one
  o30 : d.one ≤ 30
  r0 : 0 ≤ d.ref
  ref : d.ref ≤ (if d.kind = 9 then (s.M.length : Int) - 1 else if d.kind = 6 then (s.E.length : Int) - 1 else 0)
  key : d.key = -1 ∨ (keyedB d.key = true ∧ d.rep = false)
  alone : d.one = 0 ∨ (d.rep = false ∧ d.key = -1)
structure MdMay (s : Sc) (m : Md) : Prop where
  few : m.F.length ≤ 30
  rise : m.F.Pairwise fun a b => a.no < b.no
  names : m.F.Pairwise fun a b => a.name ≠ b.name
  each : ∀ d ∈ m.F, DfMay s d
structure EdMay (e : Ed) : Prop where
  some_ : 1 ≤ e.V.length
  few : e.V.length ≤ 30
  same : e.N.length = e.V.length
  zero : e.N[0]? = some 0
  names : e.V.Pairwise (· ≠ ·)
  nums : e.N.Pairwise (· ≠ ·)
  each : ∀ n ∈ e.N, -2147483648 ≤ n ∧ n ≤ 2147483647
def namesS (s : Sc) : List (List UInt8) := s.M.map (·.name) ++ s.E.map (·.name)
structure ScMay (s : Sc) : Prop where
  some_ : 1 ≤ s.M.length
  fewM : s.M.length ≤ 20
  fewE : s.E.length ≤ 20
  names : (namesS s).Pairwise (· ≠ ·)
  plain : ∀ x ∈ namesS s, typeK x = none
  M : ∀ m ∈ s.M, MdMay s m
  E : ∀ e ∈ s.E, EdMay e

/-! ### Sorting -/

theorem insF_perm (d : Df) : ∀ l : List Df, (insF d l).Perm (d :: l)
  | [] => List.Perm.refl _
  | x :: l => by
    unfold insF
    split
    · exact List.Perm.refl _
    · exact ((insF_perm d l).cons x).trans (List.Perm.swap d x l)
theorem sort_perm : ∀ (l acc : List Df), (l.foldl (fun o d => insF d o) acc).Perm (acc ++ l)
  | [], acc => by simp
  | d :: l, acc => by
    rw [List.foldl_cons]
    refine (sort_perm l (insF d acc)).trans ?_
    refine ((insF_perm d acc).append_right l).trans ?_
    exact List.perm_middle.symm
theorem sortF_perm (l : List Df) : (sortF l).Perm l := by simpa [sortF] using sort_perm l []
theorem insF_rise {d : Df} : ∀ {l : List Df}, l.Pairwise (fun a b => a.no < b.no) → (∀ x ∈ l, x.no ≠ d.no) → (insF d l).Pairwise fun a b => a.no < b.no
  | [], _, _ => by simp [insF]
  | x :: l, h, hd => by
    obtain ⟨h1, h2⟩ := List.pairwise_cons.1 h
    have hx := hd x (by simp)
    unfold insF
    split
    · rename_i hlt
      refine List.pairwise_cons.2 ⟨fun y hy => ?_, h⟩
      rcases List.mem_cons.1 hy with rfl | hy
      · exact hlt
      · have := h1 y hy; omega
    · refine List.pairwise_cons.2 ⟨fun y hy => ?_, insF_rise h2 fun y hy => hd y (by simp [hy])⟩
      rcases List.mem_cons.1 ((insF_perm d l).mem_iff.1 hy) with rfl | hy
      · omega
      · exact h1 y hy
theorem sort_rise : ∀ (l acc : List Df), acc.Pairwise (fun a b => a.no < b.no) → (acc ++ l).Pairwise (fun a b => a.no ≠ b.no) → (l.foldl (fun o d => insF d o) acc).Pairwise fun a b => a.no < b.no
  | [], acc, h, _ => h
  | d :: l, acc, h, hp => by
    rw [List.foldl_cons]
    have hd : ∀ x ∈ acc, x.no ≠ d.no := fun x hx => (List.pairwise_append.1 hp).2.2 x hx d (by simp)
    refine sort_rise l (insF d acc) (insF_rise h hd) ?_
    have hperm : (insF d acc ++ l).Perm (acc ++ d :: l) := ((insF_perm d acc).append_right l).trans List.perm_middle.symm
    exact (hperm.pairwise_iff (fun hab => fun e => hab e.symm)).2 hp
theorem sortF_rise {l : List Df} (h : l.Pairwise fun a b => a.no ≠ b.no) : (sortF l).Pairwise fun a b => a.no < b.no := sort_rise l [] List.Pairwise.nil (by simpa using h)
/-- Two lists that rise and have the same elements are one. -/
theorem rise_unique : ∀ {l m : List Df}, l.Pairwise (fun a b => a.no < b.no) → m.Pairwise (fun a b => a.no < b.no) → l.Perm m → l = m
  | [], m, _, _, h => (List.nil_perm.1 h).symm
  | x :: l, [], _, _, h => absurd h.length_eq (by simp)
  | x :: l, y :: m, h1, h2, h => by
    obtain ⟨a1, a2⟩ := List.pairwise_cons.1 h1
    obtain ⟨b1, b2⟩ := List.pairwise_cons.1 h2
    have hx : x ∈ y :: m := h.mem_iff.1 (by simp)
    have hy : y ∈ x :: l := h.mem_iff.2 (by simp)
    have e : x = y := by
      rcases List.mem_cons.1 hx with e | hx
      · exact e
      · rcases List.mem_cons.1 hy with e | hy
        · exact e.symm
        · have := b1 x hx
          have := a1 y hy
          omega
    subst e
    rw [rise_unique a2 b2 (List.perm_cons x |>.1 h)]

/-! ### What a type is -/

theorem typeK_vals {x : List UInt8} {k : Nat} (h : typeK x = some k) : k = 0 ∨ k = 1 ∨ k = 2 ∨ k = 3 ∨ k = 4 ∨ k = 5 ∨ k = 7 ∨ k = 8 := by
  unfold typeK at h
  repeat' (split at h)
  all_goals first | (obtain rfl := Option.some.inj h; simp) | cases h
theorem kindF_vals {f : Fl} {x : List UInt8} {k r : Int} (h : kindF f x = some (k, r)) : 0 ≤ k ∧ k ≤ 9 ∧ 0 ≤ r ∧ r ≤ (if k = 9 then (f.M.length : Int) - 1 else if k = 6 then (f.E.length : Int) - 1 else 0) := by
  unfold kindF at h
  split at h
  · rename_i q hq
    have hv := typeK_vals hq
    obtain ⟨rfl, rfl⟩ : (q : Int) = k ∧ (0 : Int) = r := by simpa using h
    have h9 : ¬ (q : Int) = 9 := by omega
    have h6 : ¬ (q : Int) = 6 := by omega
    rw [if_neg h9, if_neg h6]
    omega
  · split at h
    · rename_i hlt
      obtain ⟨rfl, rfl⟩ : (9 : Int) = k ∧ ((namesF f).idxOf x : Int) = r := by simpa using h
      simp only [if_true]
      omega
    · rename_i hlt
      split at h
      · rename_i hlt2
        obtain ⟨rfl, rfl⟩ : (6 : Int) = k ∧ (((namesF f).idxOf x - f.M.length : Nat) : Int) = r := by simpa using h
        rw [names_length] at hlt2
        have h9 : ¬ (6 : Int) = 9 := by omega
        rw [if_neg h9]
        simp only [if_true]
        omega
      · cases h
theorem keyOK_key {x : List UInt8} (h : keyOK x = true) : ∃ k, typeK x = some k ∧ keyedB k = true := by
  unfold keyOK at h
  cases hk : typeK x with
  | none => rw [hk] at h; cases h
  | some k => rw [hk] at h; exact ⟨k, rfl, h⟩
theorem defF_may {f : Fl} {m : Ms} {x : Fd} (hm : MsGood f m) (h : FdGood f m x) : DfMay (schF f) (defF f x) := by
  obtain ⟨⟨k, r⟩, hk⟩ := Option.isSome_iff_exists.1 h.type
  obtain ⟨v1, v2, v3, v4⟩ := kindF_vals hk
  have e1 : (defF f x).kind = k := by simp [defF, hk]
  have e2 : (defF f x).ref = r := by simp [defF, hk]
  refine ⟨h.num, by rw [e1]; exact v1, by rw [e1]; exact v2, h.lo, ?_, by rw [e2]; exact v3, ?_, ?_, ?_⟩
  · have := h.hi
    have := hm.onesFew
    show x.one ≤ 30
    omega
  · rw [e1, e2]
    simpa [schF] using v4
  · by_cases hx : x.key = []
    · exact .inl (by simp [defF, hx])
    · right
      obtain ⟨q, q1, q2⟩ := keyOK_key (h.key hx)
      refine ⟨by simp [defF, hx, q1, q2], ?_⟩
      cases hr : x.rep
      · exact hr
      · exact absurd ⟨hr, hx⟩ h.two
  · by_cases h0 : x.one = 0
    · exact .inl h0
    · right
      obtain ⟨a1, a2⟩ := h.alone (by have := h.lo; omega)
      exact ⟨a1, by simp [defF, a2]⟩
theorem defs_ne {f : Fl} {m : Ms} (h : MsGood f m) : (m.F.map (defF f)).Pairwise (fun a b => a.no ≠ b.no) ∧ (m.F.map (defF f)).Pairwise fun a b => a.name ≠ b.name := by
  rw [List.pairwise_map, List.pairwise_map]
  exact ⟨h.two.imp fun {a b} hab => hab.2, h.two.imp fun {a b} hab => hab.1⟩
theorem msgD_may {f : Fl} {m : Ms} (h : MsGood f m) : MdMay (schF f) (msgD f m) := by
  obtain ⟨h1, h2⟩ := defs_ne h
  have hp := sortF_perm (m.F.map (defF f))
  refine ⟨?_, sortF_rise h1, (hp.pairwise_iff (fun hab => fun e => hab e.symm)).2 h2, fun d hd => ?_⟩
  · show (sortF (m.F.map (defF f))).length ≤ 30
    rw [hp.length_eq, List.length_map]; exact h.few
  · obtain ⟨x, hx, rfl⟩ := List.mem_map.1 (hp.mem_iff.1 hd)
    exact defF_may h (h.each x hx)
theorem enD_may {e : En} (h : EnGood e) : EdMay (enD e) := by
  refine ⟨by simpa [enD] using h.some_, by simpa [enD] using h.few, by simp [enD], ?_, ?_, ?_, fun n hn => ?_⟩
  · have hlt : 0 < e.V.length := h.some_
    have h0 := h.zero _ (List.getElem?_eq_getElem hlt)
    simp only [enD, List.getElem?_map, List.getElem?_eq_getElem hlt, Option.map_some, h0]
  · simp only [enD, List.pairwise_map]; exact h.two.imp fun {a b} hab => hab.1
  · simp only [enD, List.pairwise_map]; exact h.two.imp fun {a b} hab => hab.2
  · simp only [enD, List.mem_map] at hn
    obtain ⟨v, hv, rfl⟩ := hn
    exact h.each v hv
theorem namesS_sch (f : Fl) : namesS (schF f) = namesF f := by simp [namesS, schF, namesF, msgD, enD, Function.comp_def]
theorem sch_may {f : Fl} (h : FlGood f) : ScMay (schF f) := by
  refine ⟨by simpa [schF] using h.some_, by simpa [schF] using h.fewM, by simpa [schF] using h.fewE, by rw [namesS_sch]; exact h.names, by rw [namesS_sch]; exact h.plain, fun m hm => ?_, fun e he => ?_⟩
  · obtain ⟨x, hx, rfl⟩ := List.mem_map.1 hm
    exact msgD_may (h.M x hx)
  · obtain ⟨x, hx, rfl⟩ := List.mem_map.1 he
    exact enD_may (h.E x hx)

/-! ### What is found -/

def msgAt (s : Sc) (m : Int) : Option Md := if m < 0 then none else s.M[m.toNat]?
def findS (s : Sc) (m : Int) (x : List UInt8) : Option Df := (msgAt s m).bind fun d => d.F.find? (·.name == x)
def byS (s : Sc) (m no : Int) : Option Df := (msgAt s m).bind fun d => d.F.find? (·.no == no)
def rootS (s : Sc) (x : List UInt8) : Option Nat := if (s.M.map (·.name)).idxOf x < s.M.length then some ((s.M.map (·.name)).idxOf x) else none
theorem find_pair {α β : Type} [BEq β] [LawfulBEq β] {g : α → β} : ∀ {l : List α}, (l.Pairwise fun a b => g a ≠ g b) → ∀ {x : α}, x ∈ l → l.find? (fun y => g y == g x) = some x
  | [], _, x, hx => by simp at hx
  | y :: l, h, x, hx => by
    obtain ⟨h1, h2⟩ := List.pairwise_cons.1 h
    rw [List.find?_cons]
    rcases List.mem_cons.1 hx with rfl | hx
    · simp
    · have := h1 x hx
      have e : (g y == g x) = false := by simpa using this
      rw [e]
      exact find_pair h2 hx
theorem MdMay.nos {s : Sc} {m : Md} (h : MdMay s m) : m.F.Pairwise fun a b => a.no ≠ b.no := h.rise.imp fun {a b} hab => by omega
theorem found_may {s : Sc} (h : ScMay s) {i : Nat} {m : Md} (hm : s.M[i]? = some m) {d : Df} (hd : d ∈ m.F) : findS s i d.name = some d ∧ byS s i d.no = some d := by
  have hmm := h.M m (List.mem_of_getElem? hm)
  have e : msgAt s (i : Int) = some m := by
    unfold msgAt
    rw [if_neg (by omega), Int.toNat_natCast, hm]
  unfold findS byS
  rw [e]
  exact ⟨find_pair (g := fun y : Df => y.name) hmm.names hd, find_pair (g := fun y : Df => y.no) hmm.nos hd⟩
theorem idx_pair {l : List (List UInt8)} (h : l.Pairwise (· ≠ ·)) {i : Nat} {x : List UInt8} (hx : l[i]? = some x) : l.idxOf x = i := by
  induction l generalizing i with
  | nil => simp at hx
  | cons y l ih =>
    obtain ⟨h1, h2⟩ := List.pairwise_cons.1 h
    cases i with
    | zero =>
      obtain rfl : y = x := by simpa using hx
      simp
    | succ i =>
      have hx' : l[i]? = some x := by simpa using hx
      have hne := h1 x (List.mem_of_getElem? hx')
      rw [List.idxOf_cons]
      have e : (y == x) = false := by simpa using hne
      rw [e]
      simp [ih h2 hx']
theorem root_may {s : Sc} (h : ScMay s) {i : Nat} {m : Md} (hm : s.M[i]? = some m) : rootS s m.name = some i := by
  have hp : (s.M.map (·.name)).Pairwise (· ≠ ·) := (List.pairwise_append.1 h.names).1
  have hx : (s.M.map (·.name))[i]? = some m.name := by simp [hm]
  have e := idx_pair hp hx
  have hlt := (List.getElem?_eq_some_iff.1 hm).1
  unfold rootS
  rw [e, if_pos hlt]
/-- A field of a file, as it is found in its schema. -/
theorem found_def {f : Fl} (h : FlGood f) {i : Nat} {m : Ms} (hm : f.M[i]? = some m) {x : Fd} (hx : x ∈ m.F) :
    findS (schF f) i x.name = some (defF f x) ∧ byS (schF f) i x.no = some (defF f x) ∧ ((defF f x).key = -1 ↔ x.key = []) := by
  have hmm : (schF f).M[i]? = some (msgD f m) := by simp [schF, hm]
  have hd : defF f x ∈ (msgD f m).F := (sortF_perm _).mem_iff.2 (List.mem_map_of_mem hx)
  obtain ⟨h1, h2⟩ := found_may (sch_may h) hmm hd
  refine ⟨h1, h2, ?_⟩
  have hg := (h.M m (List.mem_of_getElem? hm)).each x hx
  constructor
  · intro e
    by_cases hk : x.key = []
    · exact hk
    · obtain ⟨q, q1, _⟩ := keyOK_key (hg.key hk)
      have : (defF f x).key = (q : Int) := by simp [defF, hk, q1]
      omega
  · intro e
    simp [defF, e]

/-! ### The order of fields -/

def setF (f : Fl) (i : Nat) (l : List Fd) : Fl := { f with M := f.M.modify i fun m => { m with F := l } }
theorem setF_names (f : Fl) (i : Nat) (l : List Fd) : namesF (setF f i l) = namesF f := by
  unfold namesF setF
  congr 1
  apply List.ext_getElem?
  intro j
  simp only [List.getElem?_map, List.getElem?_modify]
  cases f.M[j]? with
  | none => simp
  | some m => by_cases h : i = j <;> simp [h]
theorem setF_len (f : Fl) (i : Nat) (l : List Fd) : (setF f i l).M.length = f.M.length := by simp [setF]
theorem kindF_same {f g : Fl} (h1 : namesF g = namesF f) (h2 : g.M.length = f.M.length) (x : List UInt8) : kindF g x = kindF f x := by
  unfold kindF
  rw [h1, h2]
theorem FdGood.same {f g : Fl} (h1 : namesF g = namesF f) (h2 : g.M.length = f.M.length) {m m' : Ms} (ho : m'.ones = m.ones) (hr : m'.res = m.res) {x : Fd} (h : FdGood f m x) : FdGood g m' x :=
  ⟨by rw [hr]; exact h.res, by rw [ho]; exact h.ones, h.num, h.lo, by rw [ho]; exact h.hi, h.two, h.alone, h.key, by rw [kindF_same h1 h2]; exact h.type⟩
theorem good_setF {f : Fl} {i : Nat} {m : Ms} {l : List Fd} (hm : f.M[i]? = some m) (hl : l.Perm m.F) (h : FlGood f) : FlGood (setF f i l) := by
  have h1 := setF_names f i l
  have h2 := setF_len f i l
  refine ⟨by rw [h2]; exact h.some_, by rw [h2]; exact h.fewM, h.fewE, by rw [h1]; exact h.names, by rw [h1]; exact h.plain, fun q hq => ?_, h.E⟩
  obtain ⟨j, hj⟩ := List.mem_iff_getElem?.1 hq
  simp only [setF, List.getElem?_modify] at hj
  cases hfj : f.M[j]? with
  | none => rw [hfj] at hj; simp at hj
  | some y =>
    rw [hfj] at hj
    have hy := h.M y (List.mem_of_getElem? hfj)
    by_cases hij : i = j
    · subst hij
      rw [hm] at hfj
      obtain rfl := Option.some.inj hfj
      simp at hj
      subst hj
      exact ⟨by rw [hl.length_eq]; exact hy.few, hy.onesFew, (hl.pairwise_iff (fun hab => ⟨fun e => hab.1 e.symm, fun e => hab.2 e.symm⟩)).2 hy.two, fun x hx => FdGood.same (m := m) (m' := { m with F := l }) h1 h2 rfl rfl (hy.each x (hl.mem_iff.1 hx))⟩
    · simp [hij] at hj
      subst hj
      exact ⟨hy.few, hy.onesFew, hy.two, fun x hx => (hy.each x hx).same h1 h2 rfl rfl⟩
theorem setF_back {f : Fl} {i : Nat} {m : Ms} {l : List Fd} (hm : f.M[i]? = some m) : setF (setF f i l) i m.F = f := by
  obtain ⟨M, E⟩ := f
  simp only [setF, Fl.mk.injEq, and_true]
  apply List.ext_getElem?
  intro j
  simp only [List.getElem?_modify]
  cases hj : M[j]? with
  | none => simp
  | some y =>
    by_cases hij : i = j
    · subst hij
      simp only at hm
      rw [hm] at hj
      obtain rfl := Option.some.inj hj
      simp
    · simp [hij]
theorem setF_at {f : Fl} {i : Nat} {m : Ms} (hm : f.M[i]? = some m) (l : List Fd) : (setF f i l).M[i]? = some { m with F := l } := by simp [setF, hm]
theorem good_order {f : Fl} {i : Nat} {m : Ms} {l : List Fd} (hm : f.M[i]? = some m) (hl : l.Perm m.F) : FlGood (setF f i l) ↔ FlGood f := by
  constructor
  · intro h
    have := good_setF (setF_at hm l) hl.symm h
    rwa [show setF (setF f i l) i m.F = f from setF_back hm] at this
  · exact good_setF hm hl
theorem sch_order {f : Fl} {i : Nat} {m : Ms} {l : List Fd} (hm : f.M[i]? = some m) (hl : l.Perm m.F) (h : FlGood f) : schF (setF f i l) = schF f := by
  have h1 := setF_names f i l
  have h2 := setF_len f i l
  have hdef : defF (setF f i l) = defF f := by
    funext x
    unfold defF
    rw [kindF_same h1 h2]
  have hg := h.M m (List.mem_of_getElem? hm)
  have hs : sortF (l.map (defF f)) = sortF (m.F.map (defF f)) := by
    have hp : (l.map (defF f)).Perm (m.F.map (defF f)) := hl.map _
    have hn := (defs_ne hg).1
    exact rise_unique (sortF_rise ((hp.pairwise_iff (fun hab => fun e => hab e.symm)).2 hn)) (sortF_rise hn) ((sortF_perm _).trans (hp.trans (sortF_perm _).symm))
  unfold schF
  have e : (setF f i l).M.map (msgD (setF f i l)) = f.M.map (msgD f) := by
    apply List.ext_getElem?
    intro j
    simp only [List.getElem?_map, setF, List.getElem?_modify]
    cases hj : f.M[j]? with
    | none => simp
    | some y =>
      by_cases hij : i = j
      · subst hij
        rw [hm] at hj
        obtain rfl := Option.some.inj hj
        have := hdef
        unfold setF at this
        simp [msgD, this, hs]
      · have := hdef
        unfold setF at this
        simp [hij, msgD, this]
  rw [e]
  rfl
/-- Both are right, or none; and told the same. -/
theorem tab_order {f : Fl} {i : Nat} {m : Ms} {l : List Fd} (hm : f.M[i]? = some m) (hl : l.Perm m.F) : ((errR (setF f i l)).isSome = (errR f).isSome) ∧ tabS (setF f i l) = tabS f := by
  have hiff := good_order hm hl
  rw [← good_iff, ← good_iff] at hiff
  unfold tabS
  cases h : errR f with
  | none =>
    have h2 := hiff.2 h
    rw [h2]
    exact ⟨rfl, by simp [sch_order hm hl ((good_iff f).1 h)]⟩
  | some y =>
    cases h2 : errR (setF f i l) with
    | none => rw [hiff.1 h2] at h; cases h
    | some z => exact ⟨rfl, rfl⟩
/-- Two fields changed about. -/
theorem swap_perm {α : Type} : ∀ (l : List α) (a b : Nat) (x y : α), l[a]? = some x → l[b]? = some y → ((l.set a y).set b x).Perm l := by
  have key : ∀ (l : List α) (a b : Nat) (x y : α), a ≤ b → l[a]? = some x → l[b]? = some y → ((l.set a y).set b x).Perm l := by
    intro l
    induction l with
    | nil => intro a b x y _ h; simp at h
    | cons z l ih =>
      intro a b x y hab hx hy
      cases a with
      | succ a =>
        cases b with
        | zero => omega
        | succ b =>
          simp only [List.set_cons_succ]
          exact (ih a b x y (by omega) (by simpa using hx) (by simpa using hy)).cons z
      | zero =>
        obtain rfl : z = x := by simpa using hx
        cases b with
        | zero => simp
        | succ b =>
          simp only [List.set_cons_zero, List.set_cons_succ]
          have hy' : l[b]? = some y := by simpa using hy
          obtain ⟨hb, rfl⟩ := List.getElem?_eq_some_iff.1 hy'
          have e1 : l.set b z = l.take b ++ z :: l.drop (b + 1) := List.set_eq_take_append_cons_drop.trans (by rw [if_pos hb])
          have e2 : l = l.take b ++ l[b] :: l.drop (b + 1) := by rw [← List.drop_eq_getElem_cons hb, List.take_append_drop]
          rw [e1]
          conv => rhs; rw [e2]
          refine (List.perm_middle.cons l[b]).trans ?_
          refine (List.Perm.swap z l[b] _).trans ?_
          exact (List.perm_middle.symm).cons z
  intro l a b x y hx hy
  rcases Nat.le_total a b with h | h
  · exact key l a b x y h hx hy
  · rcases Nat.eq_or_lt_of_le h with rfl | h
    · exact key l b b x y (Nat.le_refl _) hx hy
    · rw [List.set_comm _ _ (by omega)]
      exact key l b a y x (by omega) hy hx
end Go.Proofs.YtciiemomfniecaaGreatDoor
/-
  The words of the table's own code, by plain functions: sets of names that may still be taken, the first place that is wrong, what a field may be; each held against the document's words.
-/
namespace Go.Proofs.YtciiemomfniecaaGreatDoor
set_option maxRecDepth 100000

/-! ### The first that is told -/

theorem range_split {n k : Nat} (h : k < n) : List.range n = List.range k ++ k :: List.range' (k + 1) (n - k - 1) := by
  apply List.ext_getElem
  · simp; omega
  · intro i h1 h2
    simp only [List.length_range] at h1
    rw [List.getElem_range, List.getElem_append]
    split
    · simp
    · rename_i hlt
      simp only [List.length_range] at hlt
      rw [List.getElem_cons]
      split
      · rename_i h0; simp only [List.length_range] at h0; omega
      · rename_i h0; simp only [List.length_range] at h0; rw [List.getElem_range']; simp only [List.length_range]; omega
theorem firstOf_at {α β : Type} {g : Nat → α → Option β} {l : List α} {k : Nat} {x : α} {r : β} (h : ∀ j y, j < k → l[j]? = some y → g j y = none) (hk : l[k]? = some x) (hg : g k x = some r) : firstOf g l = some r := by
  have hlt := (List.getElem?_eq_some_iff.1 hk).1
  unfold firstOf
  rw [List.findSome?_eq_some_iff]
  refine ⟨_, k, _, range_split hlt, by rw [hk]; exact hg, fun j hj => ?_⟩
  have hj := List.mem_range.1 hj
  rw [List.getElem?_eq_getElem (by omega)]
  exact h j _ hj (List.getElem?_eq_getElem (by omega))
theorem findSome_at {α β : Type} {g : α → Option β} {l : List α} {k : Nat} {x : α} {r : β} (h : ∀ j y, j < k → l[j]? = some y → g y = none) (hk : l[k]? = some x) (hg : g x = some r) : l.findSome? g = some r := by
  have hlt := (List.getElem?_eq_some_iff.1 hk).1
  rw [List.findSome?_eq_some_iff]
  refine ⟨l.take k, x, l.drop (k + 1), ?_, hg, fun y hy => ?_⟩
  · have e : l.drop k = x :: l.drop (k + 1) := by
      rw [List.drop_eq_getElem_cons hlt]
      obtain ⟨_, e⟩ := List.getElem?_eq_some_iff.1 hk
      rw [e]
    rw [← e, List.take_append_drop]
  · obtain ⟨j, hj, rfl⟩ := List.mem_iff_getElem.1 hy
    rw [List.length_take] at hj
    rw [List.getElem_take]
    exact h j _ (by omega) (List.getElem?_eq_getElem (by omega))
theorem findSome_range {β : Type} {g : Nat → Option β} {n k : Nat} {r : β} (h : ∀ j, j < k → g j = none) (hk : k < n) (hg : g k = some r) : (List.range n).findSome? g = some r := by
  rw [List.findSome?_eq_some_iff]
  exact ⟨_, k, _, range_split hk, hg, fun j hj => h j (List.mem_range.1 hj)⟩

/-! ### The plain types, in a row -/

def plainsL : List (List UInt8 × Nat) := [(tInt64, 0), (tSint64, 1), (tUint32, 2), (tBool, 3), (tFixed32, 4), (tSfixed64, 5), (tString, 7), (tBytes, 8)]
theorem typeK_find (x : List UInt8) : (plainsL.find? fun q => q.1 == x).map (·.2) = typeK x := by
  unfold typeK plainsL
  simp only [List.find?_cons, List.find?_nil]
  by_cases h0 : x = tInt64
  · subst h0; rfl
  by_cases h1 : x = tSint64
  · subst h1; rfl
  by_cases h2 : x = tUint32
  · subst h2; rfl
  by_cases h3 : x = tBool
  · subst h3; rfl
  by_cases h4 : x = tFixed32
  · subst h4; rfl
  by_cases h5 : x = tSfixed64
  · subst h5; rfl
  by_cases h6 : x = tString
  · subst h6; rfl
  by_cases h7 : x = tBytes
  · subst h7; rfl
  have e : ∀ y : List UInt8, x ≠ y → (y == x) = false := fun y hy => beq_eq_false_iff_ne.2 (Ne.symm hy)
  simp only [h0, h1, h2, h3, h4, h5, h6, h7, if_false, e _ h0, e _ h1, e _ h2, e _ h3, e _ h4, e _ h5, e _ h6, e _ h7, Option.map_none]
theorem typeK_none (x : List UInt8) : (typeK x).isNone = !(plainsL.map (·.1)).contains x := by
  rw [← typeK_find]
  rw [Option.isNone_map]
  cases h : plainsL.find? fun q => q.1 == x with
  | none =>
    rw [List.find?_eq_none] at h
    simp only [Option.isNone_none]
    symm
    rw [Bool.not_eq_true', List.contains_eq_mem, decide_eq_false_iff_not]
    intro hm
    obtain ⟨q, hq, rfl⟩ := List.mem_map.1 hm
    exact absurd (h q hq) (by simp)
  | some q =>
    have h1 := List.find?_some h
    have h2 := List.mem_of_find?_eq_some h
    simp only [Option.isNone_some]
    symm
    rw [Bool.not_eq_false', List.contains_eq_mem, decide_eq_true_eq]
    exact List.mem_map.2 ⟨q, h2, by simpa using h1⟩

/-! ### What may still be taken -/

/-- Of a list what is neither barred nor among its first k. -/
def still {α : Type} [BEq α] (l bar : List α) (k : Nat) (x : α) : Bool := l.contains x && !bar.contains x && !(l.take k).contains x
theorem still_start {α : Type} [BEq α] [LawfulBEq α] (l bar : List α) : still l bar 0 = fun x => l.contains x && !bar.contains x := by funext x; simp [still]
theorem still_next {α : Type} [BEq α] [LawfulBEq α] [DecidableEq α] {l bar : List α} {k : Nat} {y : α} (h : l[k]? = some y) : (fun x => still l bar k x && decide (x ≠ y)) = still l bar (k + 1) := by
  funext x
  unfold still
  rw [List.take_add_one, h]
  by_cases hx : x = y
  · subst hx; simp
  · simp [hx]
theorem still_self {α : Type} [BEq α] [LawfulBEq α] {l bar : List α} {k : Nat} {y : α} (h : l[k]? = some y) : still l bar k y = (!bar.contains y && !(l.take k).contains y) := by
  have : l.contains y = true := by rw [List.contains_eq_mem, decide_eq_true_eq]; exact List.mem_of_getElem? h
  simp only [still, this, Bool.true_and]

/-! ### A message -/

/-- May a field be in a oneof, of so many, and be repeated, or a map? -/
def standB (ones one : Int) (rep pairs : Bool) : Bool := decide (0 ≤ one) && decide (one ≤ ones) && !(rep && pairs) && !(decide (one ≠ 0) && (rep || pairs))
def nmF (m : Ms) : List (List UInt8) := m.F.map (·.name)
def noF (m : Ms) : List Int := m.F.map (·.no)
theorem take_map_contains {α β : Type} [BEq β] [LawfulBEq β] (g : α → β) (l : List α) (k : Nat) (y : β) : ((l.map g).take k).contains y = (l.take k).any fun x => g x == y := by
  rw [← List.map_take, List.contains_eq_any_beq, List.any_map]
  congr 1
  funext x
  simp only [Function.comp]
  exact BEq.comm
theorem any_or {α : Type} (f g : α → Bool) (l : List α) : (l.any fun x => f x || g x) = (l.any f || l.any g) := by
  induction l with
  | nil => rfl
  | cons x l ih => simp only [List.any_cons, ih]; cases f x <;> cases g x <;> simp
theorem fdForm_code {m : Ms} {k : Nat} {x : Fd} (h : m.F[k]? = some x) :
    fdForm m k x = !((still (nmF m) m.ones k x.name && still (noF m) m.res k x.no) && numberB x.no && standB m.ones.length x.one x.rep (decide (x.key ≠ []))) := by
  rw [still_self (by simp [nmF, h]), still_self (by simp [noF, h])]
  unfold fdForm
  rw [any_or (fun y : Fd => y.name == x.name) (fun y : Fd => y.no == x.no), nmF, noF, take_map_contains, take_map_contains]
  cases (m.F.take k).any fun y => y.name == x.name
  all_goals cases (m.F.take k).any fun y => y.no == x.no
  all_goals cases m.res.contains x.no
  all_goals cases m.ones.contains x.name
  all_goals cases numberB x.no
  all_goals (try simp only [Bool.or_true, Bool.true_or, Bool.not_true, Bool.not_false, Bool.and_false, Bool.false_and, Bool.and_true, Bool.true_and, Bool.false_or, Bool.or_false])
  unfold standB
  by_cases h1 : x.one < 0
  · have e : decide (0 ≤ x.one) = false := by rw [decide_eq_false_iff_not]; omega
    simp [h1, e]
  · have e1 : decide (0 ≤ x.one) = true := by rw [decide_eq_true_eq]; omega
    have e2 : decide (x.one < 0) = false := by rw [decide_eq_false_iff_not]; omega
    by_cases h2 : x.one ≤ (m.ones.length : Int)
    · have e3 : decide ((m.ones.length : Int) < x.one) = false := by rw [decide_eq_false_iff_not]; omega
      have e4 : decide (0 < x.one) = decide (x.one ≠ 0) := by congr 1; apply propext; omega
      rw [e1, e2, e3, e4, decide_eq_true h2]
      cases x.rep <;> cases decide (x.key ≠ []) <;> cases decide (x.one ≠ 0) <;> rfl
    · have e3 : decide ((m.ones.length : Int) < x.one) = true := by rw [decide_eq_true_eq]; omega
      rw [e1, e2, e3, decide_eq_false h2]
      simp
/-- The kind of keys, by their type. -/
def keyK (x : List UInt8) : Int := if x = [] then -1 else ((typeK x).map Int.ofNat).getD 0

/-! ### Names of messages and enums -/

def stillT (l : List (List UInt8)) (k : Nat) (x : List UInt8) : Bool := still l (plainsL.map (·.1)) k x
theorem stillT_self {l : List (List UInt8)} {k : Nat} {y : List UInt8} (h : l[k]? = some y) : stillT l k y = !((typeK y).isSome || (l.take k).contains y) := by
  unfold stillT
  rw [still_self h, ← typeK_none]
  cases typeK y <;> simp

/-! ### What names mean -/

/-- What a name means once the first k names are told. -/
def meanK (f : Fl) (k : Nat) (x : List UInt8) : Option (Int × Int) :=
  match typeK x with
  | some q => some (q, 0)
  | none => if (namesF f).idxOf x < k ∧ (namesF f).idxOf x < (namesF f).length then (if (namesF f).idxOf x < f.M.length then some (9, (namesF f).idxOf x) else some (6, ((namesF f).idxOf x - f.M.length : Nat))) else none
theorem meanK_all (f : Fl) : meanK f (namesF f).length = kindF f := by
  funext x
  unfold meanK kindF
  rw [names_length]
  cases typeK x with
  | some q => rfl
  | none =>
    simp only
    by_cases h1 : (namesF f).idxOf x < f.M.length
    · rw [if_pos h1, if_pos h1, if_pos (by omega)]
    · rw [if_neg h1, if_neg h1]
      by_cases h2 : (namesF f).idxOf x < f.M.length + f.E.length
      · rw [if_pos ⟨h2, h2⟩, if_pos h2]
      · rw [if_neg (fun h => h2 h.1), if_neg h2]
theorem meanK_start (f : Fl) (x : List UInt8) : meanK f 0 x = (typeK x).map fun q => ((q : Int), 0) := by
  unfold meanK
  cases typeK x <;> simp
theorem meanK_next {f : Fl} (hp : (namesF f).Pairwise (· ≠ ·)) {k : Nat} {y : List UInt8} (h : (namesF f)[k]? = some y) (ht : typeK y = none) (x : List UInt8) :
    meanK f (k + 1) x = if x = y then (if k < f.M.length then some (9, (k : Int)) else some (6, ((k - f.M.length : Nat) : Int))) else meanK f k x := by
  have hk := (List.getElem?_eq_some_iff.1 h).1
  by_cases hx : x = y
  · subst hx
    rw [if_pos rfl]
    unfold meanK
    rw [ht, idx_pair hp h]
    simp only
    rw [if_pos ⟨by omega, hk⟩]
  · rw [if_neg hx]
    unfold meanK
    cases typeK x with
    | some q => rfl
    | none =>
      simp only
      by_cases hl : (namesF f).idxOf x < (namesF f).length
      · have hne : (namesF f).idxOf x ≠ k := by
          intro e
          have h1 : (namesF f)[(namesF f).idxOf x]? = some x := by rw [List.getElem?_eq_getElem hl, List.getElem_idxOf hl]
          rw [e, h] at h1
          exact hx (Option.some.inj h1).symm
        by_cases h2 : (namesF f).idxOf x < k
        · rw [if_pos (show _ ∧ _ from ⟨by omega, hl⟩), if_pos (show _ ∧ _ from ⟨h2, hl⟩)]
        · rw [if_neg (by omega), if_neg (by omega)]
      · rw [if_neg (fun h => hl h.2), if_neg (fun h => hl h.2)]

/-! ### Enums -/

/-- Is the name, or the number, at place k of an enum wrong? -/
def wrongB (V : List (List UInt8)) (N : List Int) (k : Nat) (x : List UInt8) (n : Int) : Bool :=
  (V.take k).contains x || (N.take k).contains n || !(decide (-2147483648 ≤ n) && decide (n ≤ 2147483647)) || (k == 0 && n != 0)
theorem wrong_vl {e : En} {k : Nat} {x : Vl} : vlErr e k x = if wrongB (e.V.map (·.name)) (e.V.map (·.n)) k x.name x.n then some (x.at_, 4) else none := by
  unfold vlErr wrongB
  rw [any_or (fun y : Vl => y.name == x.name) (fun y : Vl => y.n == x.n), take_map_contains, take_map_contains]
  have e1 : (!(decide (-2147483648 ≤ x.n) && decide (x.n ≤ 2147483647))) = (decide (x.n < -2147483648) || decide (2147483647 < x.n)) := by
    by_cases h1 : x.n < -2147483648 <;> by_cases h2 : 2147483647 < x.n
    · exfalso; omega
    all_goals
      first
        | have a1 : decide (-2147483648 ≤ x.n) = true := by rw [decide_eq_true_eq]; omega
        | have a1 : decide (-2147483648 ≤ x.n) = false := by rw [decide_eq_false_iff_not]; omega
      first
        | have a2 : decide (x.n ≤ 2147483647) = true := by rw [decide_eq_true_eq]; omega
        | have a2 : decide (x.n ≤ 2147483647) = false := by rw [decide_eq_false_iff_not]; omega
      rw [a1, a2]
      simp [h1, h2]
  rw [e1]
  simp only [Bool.or_assoc]

/-! ### Schemas that may be -/

def referB (s : Sc) (kind ref : Int) : Bool := decide (0 ≤ kind) && decide (kind < 10) && decide (0 ≤ ref) && decide (ref < if kind = 9 then (s.M.length : Int) else if kind = 6 then (s.E.length : Int) else 1)
def fdMayB (s : Sc) (d : Df) : Bool := !(decide (d.key ≠ -1) && !keyedB d.key) && referB s d.kind d.ref && standB 30 d.one d.rep (decide (d.key ≠ -1))
theorem dfMay_iff (s : Sc) (d : Df) : DfMay s d ↔ numberB d.no = true ∧ fdMayB s d = true := by
  unfold fdMayB referB standB
  constructor
  · intro h
    refine ⟨h.num, ?_⟩
    have h9 := h.k9
    have hr := h.ref
    have e0 : decide (d.ref < if d.kind = 9 then (s.M.length : Int) else if d.kind = 6 then (s.E.length : Int) else 1) = true := by
      rw [decide_eq_true_eq]
      split at hr
      · rename_i h1; rw [if_pos h1]; omega
      · rename_i h1
        rw [if_neg h1]
        split at hr
        · rename_i h2; rw [if_pos h2]; omega
        · rename_i h2; rw [if_neg h2]; omega
    rw [decide_eq_true h.k0, decide_eq_true (show d.kind < 10 by omega), decide_eq_true h.r0, e0, decide_eq_true h.o0, decide_eq_true h.o30]
    rcases h.key with hk | ⟨hk, hrep⟩
    · rcases h.alone with ho | ⟨ho, -⟩
      · simp [hk, ho]
      · simp [hk, ho]
    · rcases h.alone with ho | ⟨ho, hk2⟩
      · simp [hk, ho, hrep]
      · simp [hk2, hrep]
  · rintro ⟨hn, h⟩
    simp only [Bool.and_eq_true, decide_eq_true_eq, Bool.not_eq_true', Bool.and_eq_false_iff, Bool.or_eq_false_iff, decide_eq_false_iff_not, Bool.not_eq_false', Classical.not_not] at h
    obtain ⟨⟨a1, ⟨⟨a2, a3⟩, a4⟩, a5⟩, ⟨⟨a6, a7⟩, a8⟩, a9⟩ := h
    refine ⟨hn, a2, by omega, a6, a7, a4, ?_, ?_, ?_⟩
    · split
      · rename_i h1; rw [if_pos h1] at a5; omega
      · rename_i h1
        rw [if_neg h1] at a5
        split
        · rename_i h2; rw [if_pos h2] at a5; omega
        · rename_i h2; rw [if_neg h2] at a5; omega
    · by_cases hk : d.key = -1
      · exact .inl hk
      · refine .inr ⟨?_, ?_⟩
        · rcases a1 with a1 | a1
          · exact absurd a1 hk
          · exact a1
        · rcases a8 with a8 | a8
          · exact a8
          · exact absurd a8 hk
    · rcases a9 with a9 | a9
      · exact .inl a9
      · exact .inr a9
/-- The number of the field ahead. -/
def lastNo (l : List Df) (k : Nat) : Int := if k = 0 then 0 else (l[k - 1]?.map (·.no)).getD 0
def mdNames (m : Md) : List (List UInt8) := m.F.map (·.name)
def mdAtB (s : Sc) (m : Md) (k : Nat) (d : Df) : Bool := !decide (d.no ≤ lastNo m.F k) && numberB d.no && still (mdNames m) [] k d.name && fdMayB s d
theorem mdMay_iff (s : Sc) (m : Md) : MdMay s m ↔ m.F.length ≤ 30 ∧ ∀ k d, m.F[k]? = some d → mdAtB s m k d = true := by
  constructor
  · intro h
    refine ⟨h.few, fun k d hd => ?_⟩
    have hmem := List.mem_of_getElem? hd
    obtain ⟨a1, a2⟩ := (dfMay_iff s d).1 (h.each d hmem)
    unfold mdAtB
    rw [a1, a2, still_self (by simp [mdNames, hd]), mdNames, take_map_contains]
    have e1 : decide (d.no ≤ lastNo m.F k) = false := by
      rw [decide_eq_false_iff_not]
      unfold lastNo
      split
      · have := a1
        unfold numberB at this
        simp only [Bool.and_eq_true, decide_eq_true_eq] at this
        omega
      · rename_i hk
        obtain ⟨hlt, rfl⟩ := List.getElem?_eq_some_iff.1 hd
        have := (List.pairwise_iff_getElem.1 h.rise) (k - 1) k (by omega) hlt (by omega)
        rw [List.getElem?_eq_getElem (by omega)]
        simp only [Option.map_some, Option.getD_some]
        omega
    have e2 : ((m.F.take k).any fun x => x.name == d.name) = false := by
      have h2 : (m.F.Pairwise fun a b => (a.name == b.name) = false) := h.names.imp fun {a b} hab => by simpa using hab
      exact (pair_take (R := fun a b : Df => a.name == b.name)).2 h2 k d hd
    rw [e1, e2]
    rfl
  · rintro ⟨hf, h⟩
    have hp : ∀ k d, m.F[k]? = some d → d.no > lastNo m.F k ∧ numberB d.no = true ∧ ((m.F.take k).any fun x => x.name == d.name) = false ∧ fdMayB s d = true := by
      intro k d hd
      have := h k d hd
      unfold mdAtB at this
      rw [still_self (by simp [mdNames, hd]), mdNames, take_map_contains] at this
      simp only [Bool.and_eq_true, Bool.not_eq_true', decide_eq_false_iff_not, List.contains_nil, Bool.not_false, Bool.true_and] at this
      obtain ⟨⟨⟨b1, b2⟩, b3⟩, b4⟩ := this
      exact ⟨by omega, b2, by simpa using b3, b4⟩
    refine ⟨hf, ?_, ?_, fun d hd => ?_⟩
    · rw [List.pairwise_iff_getElem]
      intro i j
      induction j with
      | zero => intro _ _ h0; omega
      | succ j ih =>
        intro hi hj hij
        have h1 := (hp (j + 1) _ (List.getElem?_eq_getElem hj)).1
        unfold lastNo at h1
        rw [if_neg (by omega), Nat.add_sub_cancel, List.getElem?_eq_getElem (by omega)] at h1
        simp only [Option.map_some, Option.getD_some] at h1
        by_cases he : i = j
        · subst he; omega
        · have := ih hi (by omega) (by omega)
          omega
    · have h2 : (m.F.Pairwise fun a b => (a.name == b.name) = false) := pair_take.1 fun k x hx => (hp k x hx).2.2.1
      exact h2.imp fun {a b} hab => by simpa using hab
    · obtain ⟨k, hk⟩ := List.mem_iff_getElem?.1 hd
      have := hp k d hk
      exact (dfMay_iff s d).2 ⟨this.2.1, this.2.2.2⟩
def edAtB (e : Ed) (k : Nat) (x : List UInt8) (n : Int) : Bool := !wrongB e.V e.N k x n
theorem contains_pair {α : Type} [BEq α] [LawfulBEq α] {l : List α} : (∀ k x, l[k]? = some x → (l.take k).contains x = false) ↔ l.Pairwise (· ≠ ·) := by
  have h2 : (l.Pairwise fun a b => (a == b) = false) ↔ l.Pairwise (· ≠ ·) := by
    constructor <;> intro hp <;> exact hp.imp fun {a b} hab => by simpa using hab
  rw [← h2, ← pair_take]
  have e : ∀ k x, (l.take k).contains x = (l.take k).any (· == x) := fun k x => by
    rw [List.contains_eq_any_beq]
    congr 1
    funext y
    exact BEq.comm
  simp only [e]
theorem edMay_iff (e : Ed) : EdMay e ↔ 1 ≤ e.V.length ∧ e.V.length ≤ 30 ∧ e.V.length = e.N.length ∧ ∀ k x n, e.V[k]? = some x → e.N[k]? = some n → wrongB e.V e.N k x n = false := by
  constructor
  · intro h
    refine ⟨h.some_, h.few, h.same.symm, fun k x n hx hn => ?_⟩
    unfold wrongB
    have hr := h.each n (List.mem_of_getElem? hn)
    rw [contains_pair.2 h.names k x hx, contains_pair.2 h.nums k n hn, decide_eq_true hr.1, decide_eq_true hr.2]
    by_cases hk : k = 0
    · subst hk
      have := h.zero
      rw [hn] at this
      obtain rfl := Option.some.inj this
      rfl
    · simp [hk]
  · rintro ⟨h1, h2, h3, h4⟩
    have key : ∀ k (hk : k < e.V.length), (e.V.take k).contains e.V[k] = false ∧ (e.N.take k).contains (e.N[k]'(by omega)) = false ∧ (-2147483648 ≤ (e.N[k]'(by omega)) ∧ (e.N[k]'(by omega)) ≤ 2147483647) ∧ (k = 0 → (e.N[k]'(by omega)) = 0) := by
      intro k hk
      have := h4 k _ _ (List.getElem?_eq_getElem hk) (List.getElem?_eq_getElem (by omega))
      unfold wrongB at this
      simp only [Bool.or_eq_false_iff, Bool.not_eq_false', Bool.and_eq_true, decide_eq_true_eq, Bool.and_eq_false_iff, beq_eq_false_iff_ne, bne_eq_false_iff_eq] at this
      obtain ⟨⟨⟨b1, b2⟩, b3⟩, b4⟩ := this
      exact ⟨b1, b2, b3, fun h0 => by rcases b4 with b4 | b4; exact absurd h0 b4; exact b4⟩
    refine ⟨h1, h2, h3.symm, ?_, ?_, ?_, fun n hn => ?_⟩
    · rw [List.getElem?_eq_getElem (by omega), (key 0 (by omega)).2.2.2 rfl]
    · refine contains_pair.1 fun k x hx => ?_
      obtain ⟨hk, rfl⟩ := List.getElem?_eq_some_iff.1 hx
      exact (key k hk).1
    · refine contains_pair.1 fun k x hx => ?_
      obtain ⟨hk, rfl⟩ := List.getElem?_eq_some_iff.1 hx
      exact (key k (by omega)).2.1
    · obtain ⟨k, hk⟩ := List.mem_iff_getElem?.1 hn
      obtain ⟨hk, rfl⟩ := List.getElem?_eq_some_iff.1 hk
      exact (key k (by omega)).2.2.1
theorem scMay_iff (s : Sc) : ScMay s ↔ 1 ≤ s.M.length ∧ s.M.length ≤ 20 ∧ s.E.length ≤ 20 ∧ (∀ k x, (namesS s)[k]? = some x → stillT (namesS s) k x = true) ∧ (∀ m ∈ s.M, MdMay s m) ∧ ∀ e ∈ s.E, EdMay e := by
  have key : (∀ k x, (namesS s)[k]? = some x → stillT (namesS s) k x = true) ↔ (namesS s).Pairwise (· ≠ ·) ∧ ∀ x ∈ namesS s, typeK x = none := by
    rw [← contains_pair]
    constructor
    · intro h
      have h' : ∀ k x, (namesS s)[k]? = some x → typeK x = none ∧ ((namesS s).take k).contains x = false := fun k x hx => by
        have := h k x hx
        rw [stillT_self hx] at this
        cases ht : typeK x <;> cases hc : ((namesS s).take k).contains x <;> simp_all
      exact ⟨fun k x hx => (h' k x hx).2, fun x hx => by obtain ⟨k, hk⟩ := List.mem_iff_getElem?.1 hx; exact (h' k x hk).1⟩
    · rintro ⟨h1, h2⟩ k x hx
      rw [stillT_self hx, h1 k x hx, h2 x (List.mem_of_getElem? hx)]
      rfl
  constructor
  · intro h
    exact ⟨h.some_, h.fewM, h.fewE, key.2 ⟨h.names, h.plain⟩, h.M, h.E⟩
  · rintro ⟨h1, h2, h3, h4, h5, h6⟩
    obtain ⟨k1, k2⟩ := key.1 h4
    exact ⟨h1, h2, h3, k1, k2, h5, h6⟩
end Go.Proofs.YtciiemomfniecaaGreatDoor
/-
  Slices of bytes that read as lists of bytes.
-/
namespace Go.Proofs.YtciiemomfniecaaGreatDoor
set_option maxRecDepth 100000

open Go.ChangeShapes Go.WideShapes Go.ChangeAt Go.RowKit

/-! ### Bytes -/

def BV (b : UInt8) : Value := .int .u8 (b.toNat : Int)
def bs (l : List UInt8) : List Value := l.map BV
theorem bs_append (a b : List UInt8) : bs (a ++ b) = bs a ++ bs b := by simp [bs]
theorem bs_length (a : List UInt8) : (bs a).length = a.length := by simp [bs]
theorem bs_get (a : List UInt8) (k : Nat) : (bs a)[k]? = a[k]?.map BV := by simp [bs]
theorem bs_inj {a b : List UInt8} (h : bs a = bs b) : a = b := by
  induction a generalizing b with
  | nil => cases b with
    | nil => rfl
    | cons y b => simp [bs] at h
  | cons x a ih => cases b with
    | nil => simp [bs] at h
    | cons y b =>
      simp only [bs, List.map_cons, List.cons.injEq, BV, Value.int.injEq, true_and] at h
      obtain rfl := UInt8.toNat_inj.1 (show x.toNat = y.toNat by omega)
      rw [ih h.2]
theorem bs_one (a : List UInt8) : ∀ u ∈ bs a, u.oneCell' = true := by
  intro u hu
  obtain ⟨b, _, rfl⟩ := List.mem_map.1 hu
  rfl

/-- A slice of bytes that reads as the list l. -/
def SlB (w : World) (A : Option Addr) (c : Nat) (l : List UInt8) : Prop := Sl w A l.length c 1 (bs l)
theorem SlB.on {w w' : World} {A : Option Addr} {c : Nat} {l : List UInt8} (h : SlB w A c l) (hb : Below w.heap.size w w') : SlB w' A c l := Sl.on h hb
theorem SlB.lit {w : World} {A : Option Addr} {c : Nat} {l : List UInt8} (h : SlB w A c l) (o : Obj) : SlB (w.alloc o) A c l := h.on (below_new w o)
theorem SlB.drew {w : World} {A : Option Addr} {c : Nat} {l : List UInt8} (h : SlB w A c l) : SlB w.drew A c l := h.on (Below.refl _ _).drew
theorem SlB.le {w : World} {A : Option Addr} {c : Nat} {l : List UInt8} (h : SlB w A c l) : l.length ≤ c := Sl.le h
theorem SlB.small {w : World} {A : Option Addr} {c : Nat} {l : List UInt8} (h : SlB w A c l) : l.length ≤ 9223372036854775807 ∧ c ≤ 9223372036854775807 := by
  have h1 := Sl.le h
  have h2 := Sl.cap h
  unfold maxLen at h2
  omega
/-- The byte at k: its address, and its cell. -/
theorem SlB.at_ {w : World} {A : Option Addr} {c : Nat} {l : List UInt8} (h : SlB w A c l) {k : Nat} (hk : k < l.length) : ∃ ad b, A = some ad ∧ ad.block < w.heap.size ∧ l[k]? = some b ∧ w.cell? (ad.add k) = some (.int .u8 (b.toNat : Int)) := by
  obtain ⟨ad, rfl, hb, hcell⟩ := Sl.there h (by omega)
  exact ⟨ad, l[k], rfl, hb, List.getElem?_eq_getElem hk, hcell k _ (by rw [bs_get, List.getElem?_eq_getElem hk]; rfl)⟩
theorem SlB.of_own {w : World} {base : Nat} {e : TypeId} {v : Value} {l : List UInt8} (h : w.ownsRow base e 1 v l.length (bs l)) : ∃ A c, v = .slice A l.length c ∧ SlB w A c l := Sl.of_own h
theorem SlB.nil (w : World) : SlB w none 0 [] := Sl.nothing w 1

theorem info_u8 : (Tryz.prog.info? 5).map (fun i => (i.zero, i.size, i.bytes)) = some (some (.int .u8 0), 1, 1) := by kernel_rfl
theorem open_u8 {H : Type} {enc : TypeId × Value → H} {W : World} {base : Nat} {v : Value} {d : DataW H} {ps : List MemPlace}
    (hval : Value.okWide Tryz.prog W .any base 5 v) (h : DataW.Trod enc Tryz.prog W 0 (fun _ => true) true 5 v d ps) : ∃ n : Nat, v = .int .u8 (n : Int) ∧ n < 256 := by
  obtain ⟨a, rfl, rfl, rfl, wf⟩ := open_int Tryz.underlying5 hval h
  have hb := bounds_u8 wf
  obtain ⟨n, rfl⟩ := Int.eq_ofNat_of_zero_le hb.1
  exact ⟨n, rfl, by omega⟩
theorem cells_u8 : Tryz.prog.cellsOf 5 = 1 := by kernel_rfl
theorem bs_of_ints (zs : List Int) (h : ∀ n ∈ zs, (Lit.int .u8 n).wf = true) : ∃ l : List UInt8, zs.map (Value.int .u8) = bs l := by
  induction zs with
  | nil => exact ⟨[], rfl⟩
  | cons z zs ih =>
    obtain ⟨l, hl⟩ := ih (fun n hn => h n (by simp [hn]))
    have hb := bounds_u8 (h z (by simp))
    refine ⟨UInt8.ofNat z.toNat :: l, ?_⟩
    simp only [List.map_cons, bs, List.cons.injEq]
    refine ⟨?_, by simpa [bs] using hl⟩
    simp only [BV, Value.int.injEq, true_and]
    rw [UInt8.toNat_ofNat']
    omega
theorem open_bytes {H : Type} {enc : TypeId × Value → H} {W : World} {base : Nat} {v : Value} {d : DataW H} {ps : List MemPlace}
    (hval : Value.okWide Tryz.prog W .any base 106 v) (h : DataW.Trod enc Tryz.prog W 0 (fun _ => true) true 106 v d ps) :
    ∃ (A : Option Addr) (c : Nat) (l : List UInt8), v = .slice A l.length c ∧ SlB W A c l := by
  obtain ⟨a0, len, cap, rfl⟩ := okWide_slice Tryz.underlying106 hval
  obtain ⟨fuel, hf⟩ := h
  rcases open_ints Tryz.underlying106 Tryz.underlying5 cells_u8 hf with ⟨hcs, hx⟩ | ⟨a, len', cap', zs, hcs, _, hl, hm, hz, hx, hcell, hwz⟩
  · simp [Value.cells] at hcs
    obtain ⟨rfl, rfl, rfl⟩ := hcs
    exact ⟨none, 0, [], rfl, SlB.nil W⟩
  · simp [Value.cells] at hcs
    obtain ⟨rfl, rfl, rfl⟩ := hcs
    simp only [if_true] at hz
    obtain ⟨l, hl2⟩ := bs_of_ints (zs.take len) (fun n hn => hwz n (List.mem_of_mem_take hn))
    have hlen : l.length = len := by
      have := congrArg List.length hl2
      simp [bs] at this
      omega
    subst hlen
    refine ⟨some a, cap, l, rfl, by simp [bs], hl, hm, by simp, fun ad ha hn => ?_, fun ad ha k u hu => ?_⟩
    · obtain rfl := Option.some.inj ha
      have hb := World.block_lt_of_cell? W _ (hcell 0 (by omega))
      rwa [add_same_block] at hb
    · obtain rfl := Option.some.inj ha
      rw [← hl2] at hu
      have hk : k < l.length := by
        have := (List.getElem?_eq_some_iff.1 hu).1
        simp at this
        omega
      rw [hcell k (by omega)]
      rw [List.getElem?_map, List.getElem?_take, if_pos hk] at hu
      obtain ⟨z, hz2, rfl⟩ := Option.map_eq_some_iff.1 hu
      simp [List.getD, hz2]
theorem lit_reads (w : World) (l : List UInt8) (hl : l.length ≤ 100) : SlB (w.alloc (.cells (bs l).toArray 5)) (some ⟨w.heap.size, 0, none⟩) l.length l := by
  have h := Sl.new w (bs l) 5 (by rw [bs_length]; unfold maxLen; omega)
  rw [bs_length] at h
  exact h

end Go.Proofs.YtciiemomfniecaaGreatDoor
/-
  Bytes that become a text: the conversion of a slice of bytes.
-/
namespace Go.Proofs.YtciiemomfniecaaGreatDoor
set_option maxRecDepth 100000

open Go.RowKit

def txt (l : List UInt8) : ByteArray := ⟨l.toArray⟩
theorem txt_list (l : List UInt8) : (txt l).data.toList = l := by simp [txt]
theorem txt_size (l : List UInt8) : (txt l).size = l.length := by simp [txt, ByteArray.size]
theorem txt_of (s : ByteArray) : txt s.data.toList = s := by cases s; simp [txt]
theorem run_str_of_bytes {P : Program} (w : World) (src dst e : TypeId) (hs : P.underlying src = some (.slice e)) (he : P.underlying e = some (.int .u8)) (hd : P.underlying dst = some .string)
    (A : Option Addr) (c : Nat) (l : List UInt8) (hr : SlB w A c l) : (convert src dst (.slice A l.length c)).run P w = .ok (.string (txt l)) w := by
  cases A with
  | none =>
    obtain ⟨hn, rfl, hx⟩ := Sl.none_len hr
    obtain rfl : l = [] := List.eq_nil_of_length_eq_zero hn
    exact run_convert_bytes_nil w src e hs he 0 0 dst hd
  | some ad =>
    have hm : (l.map fun b => (b.toNat : Int)).map (Value.int .u8) = bs l := by simp [bs, BV]
    have hl : (loadCells ad l.length).run P w = .ok ((l.map fun b => (b.toNat : Int)).map (Value.int .u8)).toArray w := by
      have := run_loadCells_list (P := P) w ad (bs l) (fun j v hj => Sl.cell hr ad rfl j v hj)
      rw [bs_length] at this
      rw [hm]
      exact this
    rw [run_convert_bytes_string w src dst e _ _ _ hs he hd, run_bytesToString w _ _ _ _ hl, foldl_push_bytes]
    have h2 : ((l.map fun b => (b.toNat : Int)).map fun n => UInt8.ofNat n.toNat) = l := by
      rw [List.map_map]
      conv => rhs; rw [← List.map_id l]
      refine List.map_congr_left fun b _ => ?_
      simp
    rw [h2]
    simp [txt, ByteArray.empty, ByteArray.emptyWithCapacity]
    rfl
end Go.Proofs.YtciiemomfniecaaGreatDoor
/-
  A number's text: its digits, what digits spell, and what is told of digits with a sign or not.
-/
namespace Go.Proofs.YtciiemomfniecaaGreatDoor
set_option maxRecDepth 100000

theorem dval_nil (a : Nat) : dval a [] = a := by unfold dval; rw [List.foldl_nil]
theorem dval_cons (a : Nat) (c : UInt8) (r : List UInt8) : dval a (c :: r) = dval (10 * a + (c.toNat - 48)) r := by unfold dval; rw [List.foldl_cons]
theorem dval_app (c : UInt8) (l : List UInt8) : ∀ (a : Nat), dval a (l ++ [c]) = 10 * dval a l + (c.toNat - 48) := by
  induction l with
  | nil => intro a; simp [dval_nil, dval_cons]
  | cons d r ih => intro a; rw [List.cons_append, dval_cons, dval_cons, ih]
theorem digit_of {k : Nat} (h : k < 10) : isDigit (UInt8.ofNat (48 + k)) = true ∧ (UInt8.ofNat (48 + k)).toNat = 48 + k := by
  have e : (UInt8.ofNat (48 + k)).toNat = 48 + k := by simp; omega
  exact ⟨by simp only [isDigit, e, Bool.and_eq_true, decide_eq_true_eq]; omega, e⟩
theorem dec_step {u : Nat} (h : ¬ u < 10) : Lib.decDigits u = Lib.decDigits (u / 10) ++ [UInt8.ofNat (48 + u % 10)] := by
  rw [Lib.decDigits, dif_neg h]
theorem dec_val (u : Nat) : dval 0 (Lib.decDigits u) = u := by
  by_cases h : u < 10
  · rw [Lib.decDigits_one h]
    simp only [dval_nil, dval_cons, (digit_of h).2]; omega
  · rw [dec_step h, dval_app, dec_val (u / 10), (digit_of (Nat.mod_lt u (by decide))).2]
    omega
  termination_by u
theorem dec_digits (u : Nat) : ∀ c ∈ Lib.decDigits u, isDigit c = true := by
  by_cases h : u < 10
  · rw [Lib.decDigits_one h]
    intro c hc
    rw [List.mem_singleton.1 hc]
    exact (digit_of h).1
  · rw [dec_step h]
    intro c hc
    rw [List.mem_append] at hc
    rcases hc with hc | hc
    · exact dec_digits (u / 10) c hc
    · rw [List.mem_singleton.1 hc]
      exact (digit_of (Nat.mod_lt u (by decide))).1
  termination_by u
theorem dec_ne (u : Nat) : Lib.decDigits u ≠ [] := by
  intro h
  have := Lib.decDigits_length u
  have h1 := Lib.nDigits_pos u
  rw [h] at this
  simp at this; omega
theorem nDigits_le (k : Nat) : ∀ u, u < 10 ^ (k + 1) → Lib.nDigits u ≤ k + 1 := by
  induction k with
  | zero => intro u h; rw [Lib.nDigits_small (by simpa using h)]; omega
  | succ k ih =>
    intro u h
    by_cases h10 : u < 10
    · rw [Lib.nDigits_small h10]; omega
    · rw [Lib.nDigits_big h10]
      have := ih (u / 10) (by rw [Nat.pow_succ] at h; omega)
      omega

theorem itoa_nonneg (n : Int) (h : 0 ≤ n) : Lib.itoa n = Lib.decDigits n.toNat := by unfold Lib.itoa; rw [if_neg (by omega)]
theorem itoa_neg (n : Int) (h : n < 0) : Lib.itoa n = 45 :: Lib.decDigits n.natAbs := by unfold Lib.itoa; rw [if_pos h]

/-- What a text of a number spells. -/
def spell (t : List UInt8) : Int :=
  match t with
  | [] => 0
  | c :: r => if c = 45 then -(dval 0 r : Int) else (dval 0 (c :: r) : Int)
theorem spell_itoa (n : Int) : spell (Lib.itoa n) = n := by
  by_cases h : n < 0
  · rw [itoa_neg n h]
    simp only [spell, if_true, dec_val]
    omega
  · rw [itoa_nonneg n (by omega)]
    have h1 := dec_digits n.toNat
    have h2 := dec_val n.toNat
    revert h1 h2
    cases hd : Lib.decDigits n.toNat with
    | nil => exact absurd hd (dec_ne _)
    | cons c r =>
      intro h1 h2
      have hc := h1 c (by simp)
      have h45 : c ≠ 45 := by intro e; subst e; simp [isDigit] at hc
      simp only [spell, h45, if_false, h2]
      omega
theorem itoa_inj {n k : Int} (h : Lib.itoa n = Lib.itoa k) : n = k := by rw [← spell_itoa n, h, spell_itoa]
theorem numOf_eq (t : List UInt8) : numOf Lib.itoa t = if t ≠ [] ∧ -9223372036854775808 ≤ spell t ∧ spell t ≤ 9223372036854775807 ∧ Lib.itoa (spell t) = t then some (spell t) else none := by
  cases t with
  | nil => simp [numOf]
  | cons c r => simp [numOf, spell]
theorem itoa_ne (n : Int) : Lib.itoa n ≠ [] := by
  by_cases h : n < 0
  · rw [itoa_neg n h]; simp
  · rw [itoa_nonneg n (by omega)]; exact dec_ne _
theorem numOf_itoa {n : Int} (h0 : -9223372036854775808 ≤ n) (h1 : n ≤ 9223372036854775807) : numOf Lib.itoa (Lib.itoa n) = some n := by
  rw [numOf_eq, spell_itoa, if_pos ⟨itoa_ne n, h0, h1, rfl⟩]
theorem numOf_some {t : List UInt8} {n : Int} (h : numOf Lib.itoa t = some n) : t = Lib.itoa n ∧ -9223372036854775808 ≤ n ∧ n ≤ 9223372036854775807 := by
  rw [numOf_eq] at h
  split at h
  · rename_i hc
    cases h
    exact ⟨hc.2.2.2.symm, hc.2.1, hc.2.2.1⟩
  · cases h
/-- Digits, with a sign ahead or not. -/
def numText (t : List UInt8) : Prop := ∃ c r, t = c :: r ∧ (c = 45 ∨ isDigit c = true) ∧ ∀ d ∈ r, isDigit d = true

theorem dval_ge : ∀ (l : List UInt8) (a : Nat), a ≤ dval a l
  | [], _ => Nat.le_refl _
  | c :: r, a => by
    have := dval_ge r (10 * a + (c.toNat - 48))
    simp only [dval_nil, dval_cons]; omega
theorem parse_digits : ∀ (l : List UInt8), (∀ d ∈ l, isDigit d = true) → ∀ a, a < 18446744073709551616 → Lib.parseUint10 a l = if dval a l < 18446744073709551616 then .ok (dval a l) else .range
  | [], _, a, ha => by simp [Lib.parseUint10, dval_nil, ha]
  | c :: r, h, a, ha => by
    have hc := h c (by simp)
    simp only [isDigit, Bool.and_eq_true, decide_eq_true_eq] at hc
    have ge := dval_ge r (10 * a + (c.toNat - 48))
    rw [dval_cons, Lib.parseUint10, if_pos hc]
    by_cases h1 : 1844674407370955162 ≤ a
    · rw [if_pos h1, if_neg (by omega)]
    · rw [if_neg h1, show a * 10 + (c.toNat - 48) = 10 * a + (c.toNat - 48) by omega]
      by_cases h2 : 18446744073709551616 ≤ 10 * a + (c.toNat - 48)
      · rw [if_pos h2, if_neg (by omega)]
      · rw [if_neg h2, parse_digits r (fun d hd => h d (by simp [hd])) _ (by omega)]
theorem code_num {t : List UInt8} (h : numText t) :
    (∀ v, Lib.parseIntB 64 t = .ok v → numOf Lib.itoa t = if Lib.itoa v = t then some v else none) ∧ ((∀ v, Lib.parseIntB 64 t ≠ .ok v) → numOf Lib.itoa t = none) := by
  obtain ⟨c, r, rfl, hc, hr⟩ := h
  rw [Lib.parseIntB_64, numOf_eq]
  by_cases h45 : c = 45
  · subst h45
    rw [Lib.atoiAll_minus]
    have hs : spell (45 :: r) = -(dval 0 r : Int) := by simp [spell]
    rw [hs]
    by_cases hn : r = []
    · subst hn
      refine ⟨fun v hv => by simp [Lib.parseMag, Lib.signed] at hv, fun _ => ?_⟩
      rw [if_neg]
      rintro ⟨_, _, _, h⟩
      simp only [dval_nil, dval_cons] at h
      rw [itoa_nonneg _ (by omega)] at h
      simp [Lib.decDigits_one] at h
    · have hm : Lib.parseMag r = if dval 0 r < 18446744073709551616 then .ok (dval 0 r) else .range := by
        simp only [Lib.parseMag, hn, if_false]
        exact parse_digits r hr 0 (by omega)
      rw [hm]
      by_cases h1 : dval 0 r < 18446744073709551616
      · rw [if_pos h1]
        simp only [Lib.signed]
        by_cases h2 : 9223372036854775808 < dval 0 r
        · rw [if_pos h2]
          exact ⟨fun v hv => (by cases hv), fun _ => by rw [if_neg (by omega)]⟩
        · rw [if_neg h2]
          refine ⟨fun v hv => ?_, fun hv => absurd rfl (hv _)⟩
          injection hv with hv
          subst hv
          by_cases he : Lib.itoa (-(dval 0 r : Int)) = 45 :: r
          · rw [if_pos he, if_pos ⟨by simp, by omega, by omega, he⟩]
          · rw [if_neg he, if_neg (by rintro ⟨_, _, _, h⟩; exact he h)]
      · rw [if_neg h1]
        exact ⟨fun v hv => by simp [Lib.signed] at hv, fun _ => by rw [if_neg (by omega)]⟩
  · have hd : isDigit c = true := by rcases hc with hc | hc; exact absurd hc h45; exact hc
    have hall : ∀ d ∈ c :: r, isDigit d = true := by intro d hd'; rcases List.mem_cons.1 hd' with rfl | h; exact hd; exact hr d h
    have h43 : c.toNat ≠ 43 := by intro e; simp [isDigit, e] at hd
    have h45' : c.toNat ≠ 45 := fun e => h45 (UInt8.toNat_inj.1 e)
    rw [Lib.atoiAll_plain c r h43 h45']
    have hs : spell (c :: r) = (dval 0 (c :: r) : Int) := by simp [spell, h45]
    rw [hs]
    have hm : Lib.parseMag (c :: r) = if dval 0 (c :: r) < 18446744073709551616 then .ok (dval 0 (c :: r)) else .range := by
      simp only [Lib.parseMag, reduceCtorEq, if_false]
      exact parse_digits (c :: r) hall 0 (by omega)
    rw [hm]
    by_cases h1 : dval 0 (c :: r) < 18446744073709551616
    · rw [if_pos h1]
      simp only [Lib.signless]
      by_cases h2 : 9223372036854775808 ≤ dval 0 (c :: r)
      · rw [if_pos h2]
        exact ⟨fun v hv => (by cases hv), fun _ => by rw [if_neg (by omega)]⟩
      · rw [if_neg h2]
        refine ⟨fun v hv => ?_, fun hv => absurd rfl (hv _)⟩
        injection hv with hv
        subst hv
        by_cases he : Lib.itoa (dval 0 (c :: r) : Int) = c :: r
        · rw [if_pos he, if_pos ⟨by simp, by omega, by omega, he⟩]
        · rw [if_neg he, if_neg (by rintro ⟨_, _, _, h⟩; exact he h)]
    · rw [if_neg h1]
      exact ⟨fun v hv => by simp [Lib.signless] at hv, fun _ => by rw [if_neg (by omega)]⟩

/-! ### The document's way -/

theorem dval_bound : ∀ (l : List UInt8), (∀ d ∈ l, isDigit d = true) → ∀ a k, a < 10 ^ k → dval a l < 10 ^ (k + l.length)
  | [], _, a, k, h => by simpa [dval_nil] using h
  | c :: r, h, a, k, ha => by
    have hc := h c (by simp)
    simp only [isDigit, Bool.and_eq_true, decide_eq_true_eq] at hc
    have := dval_bound r (fun d hd => h d (by simp [hd])) (10 * a + (c.toNat - 48)) (k + 1) (by rw [Nat.pow_succ]; omega)
    simp only [dval_nil, dval_cons, List.length_cons]
    rw [show k + (r.length + 1) = k + 1 + r.length by omega]
    exact this
/-- The digits behind the sign. -/
def mags (t : List UInt8) : List UInt8 := if t.head? = some 45 then t.tail else t
theorem spell_mags {t : List UInt8} (h : numText t) : spell t = if t.head? = some 45 then -(dval 0 (mags t) : Int) else (dval 0 (mags t) : Int) := by
  obtain ⟨c, r, rfl, hc, hr⟩ := h
  by_cases h45 : c = 45
  · subst h45; simp [spell, mags]
  · simp [spell, mags, h45]
theorem mags_digits {t : List UInt8} (h : numText t) : ∀ d ∈ mags t, isDigit d = true := by
  obtain ⟨c, r, rfl, hc, hr⟩ := h
  by_cases h45 : c = 45
  · subst h45; simpa [mags] using hr
  · have hd : isDigit c = true := by rcases hc with hc | hc; exact absurd hc h45; exact hc
    simp only [mags, List.head?_cons, Option.some.injEq, h45, if_false]
    intro d hd'; rcases List.mem_cons.1 hd' with rfl | h; exact hd; exact hr d h
theorem mags_itoa (n : Int) : mags (Lib.itoa n) = Lib.decDigits n.natAbs := by
  by_cases h : n < 0
  · rw [itoa_neg n h]; simp [mags]
  · rw [itoa_nonneg n (by omega), show n.natAbs = n.toNat by omega]
    have h1 := dec_digits n.toNat
    revert h1
    cases hd : Lib.decDigits n.toNat with
    | nil => exact absurd hd (dec_ne _)
    | cons c r =>
      intro h1
      have hc := h1 c (by simp)
      have h45 : c ≠ 45 := by intro e; subst e; simp [isDigit] at hc
      simp [mags, h45]
/-- More than 19 digits, or none, are no number. -/
theorem num_long {t : List UInt8} (hl : (mags t).length = 0 ∨ 19 < (mags t).length) : numOf Lib.itoa t = none := by
  cases h : numOf Lib.itoa t with
  | none => rfl
  | some n =>
    obtain ⟨rfl, h0, h1⟩ := numOf_some h
    rw [mags_itoa, Lib.decDigits_length] at hl
    have h2 := Lib.nDigits_pos n.natAbs
    have h3 := nDigits_le 18 n.natAbs (by have : (10 : Nat) ^ (18 + 1) = 10000000000000000000 := by decide
                                          omega)
    omega
/-- Up to 19 digits spell a number below 2^64. -/
theorem num_fits {t : List UInt8} (h : numText t) (hl : (mags t).length ≤ 19) : dval 0 (mags t) < 10000000000000000000 := by
  have := dval_bound (mags t) (mags_digits h) 0 0 (by simp)
  have h2 : 10 ^ (0 + (mags t).length) ≤ 10 ^ 19 := Nat.pow_le_pow_right (by decide) (by omega)
  have h3 : (10 : Nat) ^ 19 = 10000000000000000000 := by decide
  omega
end Go.Proofs.YtciiemomfniecaaGreatDoor
/-
  A file as a text: what is printed, by plain functions.
-/
namespace Go.Proofs.YtciiemomfniecaaGreatDoor
set_option maxRecDepth 100000

def lineB (ps : List (List UInt8)) : List UInt8 := ps.flatten ++ [10]
def digB (n : Int) : List UInt8 := Lib.itoa n
def typeB (d : Fd) : List UInt8 := if d.key ≠ [] then ([109, 97, 112, 60] ++ d.key ++ [44, 32] ++ d.type ++ [62]) else if d.rep then ([114, 101, 112, 101, 97, 116, 101, 100, 32] ++ d.type) else d.type
def fieldB (ahead : List UInt8) (d : Fd) : List UInt8 := lineB [ahead, typeB d, [32], d.name, [32, 61, 32], digB d.no, [59]]
def fieldsB (ahead : List UInt8) (l : List Fd) : List UInt8 := (l.map (fieldB ahead)).flatten
def oneB (name : List UInt8) (l : List Fd) : List UInt8 := if l = [] then [] else lineB [[32, 32], wOneof, [32], name, [32, 123]] ++ fieldsB [32, 32, 32, 32] l ++ lineB [[32, 32], [125]]
/-- Numbers, with what stands ahead of the first one. -/
def numsB (ahead : List UInt8) : List Int → List UInt8
  | [] => []
  | n :: l => ahead ++ digB n ++ numsB [44, 32] l
def resB (l : List Int) : List UInt8 := [32, 32, 114, 101, 115, 101, 114, 118, 101, 100] ++ numsB [32] l ++ lineB [[59]]
def inOne (n : Nat) (d : Fd) : Bool := decide (0 < d.one) && decide (d.one ≤ (n : Int))
/-- The place of its oneof. -/
def oneAt (d : Fd) : Nat := d.one.toNat - 1
/-- The fields of each oneof. -/
def memStep (n : Nat) (ms : List (List Fd)) (d : Fd) : List (List Fd) := if inOne n d then ms.set (oneAt d) (ms.getD (oneAt d) [] ++ [d]) else ms
def memsB (n : Nat) (l : List Fd) : List (List Fd) := l.foldl (memStep n) (List.replicate n [])
theorem memStep_length (n : Nat) (ms : List (List Fd)) (d : Fd) : (memStep n ms d).length = ms.length := by unfold memStep; split <;> simp
theorem memsB_take (n : Nat) (l : List Fd) (k : Nat) (d : Fd) (h : l[k]? = some d) : memsB n (l.take (k + 1)) = memStep n (memsB n (l.take k)) d := by
  rw [List.take_add_one, h]; simp [memsB, List.foldl_append]
theorem foldl_length (n : Nat) : ∀ (l : List Fd) (ms : List (List Fd)), (l.foldl (memStep n) ms).length = ms.length
  | [], _ => rfl
  | d :: l, ms => by rw [List.foldl_cons, foldl_length n l, memStep_length]
theorem memsB_length (n : Nat) (l : List Fd) : (memsB n l).length = n := by rw [memsB, foldl_length]; simp
theorem foldl_few (n : Nat) : ∀ (l : List Fd) (ms : List (List Fd)) (k : Nat), ((l.foldl (memStep n) ms).getD k []).length ≤ (ms.getD k []).length + l.length
  | [], _, _ => by simp
  | d :: l, ms, k => by
    rw [List.foldl_cons]
    have := foldl_few n l (memStep n ms d) k
    have h2 : ((memStep n ms d).getD k []).length ≤ (ms.getD k []).length + 1 := by
      unfold memStep
      split
      · simp only [List.getD_eq_getElem?_getD, List.getElem?_set]
        split
        · rename_i h3
          subst h3
          split
          · simp
          · simp
        · omega
      · omega
    simp only [List.length_cons]
    omega
theorem memsB_few (n : Nat) (l : List Fd) (k : Nat) : ((memsB n l).getD k []).length ≤ l.length := by
  have := foldl_few n l (List.replicate n []) k
  have h : ((List.replicate n ([] : List Fd)).getD k []).length = 0 := by
    rw [List.getD_eq_getElem?_getD, List.getElem?_replicate]
    split <;> rfl
  unfold memsB
  omega
/-- The items, one after the other: all that are in a oneof stand at the first of them. -/
def itemsB (ones : List (List UInt8)) : List (List Fd) → List Fd → List UInt8
  | _, [] => []
  | ms, d :: l => if inOne ones.length d then oneB (ones.getD (oneAt d) []) (ms.getD (oneAt d) []) ++ itemsB ones (ms.set (oneAt d) []) l else fieldB [32, 32] d ++ itemsB ones ms l
def messageB (m : Ms) : List UInt8 := lineB [wMessage, [32], m.name, [32, 123]] ++ itemsB m.ones (memsB m.ones.length m.F) m.F ++ (if m.res = [] then [] else resB m.res) ++ lineB [[125]]
def valB (v : Vl) : List UInt8 := lineB [[32, 32], v.name, [32, 61, 32], digB v.n, [59]]
def enumB (e : En) : List UInt8 := lineB [wEnum, [32], e.name, [32, 123]] ++ (e.V.map valB).flatten ++ lineB [[125]]
def fileB (f : Fl) : List UInt8 := (f.M.map messageB).flatten ++ (f.E.map enumB).flatten
theorem numsB_snoc (a : List UInt8) (l : List Int) (n : Int) : numsB a (l ++ [n]) = numsB a l ++ ((if l = [] then a else [44, 32]) ++ digB n) := by
  induction l generalizing a with
  | nil => simp [numsB]
  | cons x l ih =>
    rw [List.cons_append, numsB, ih]
    simp only [numsB, List.append_assoc, reduceCtorEq, if_false]
    split <;> rfl
end Go.Proofs.YtciiemomfniecaaGreatDoor
/-
  Where tokens begin, and by which byte; how All ends.
-/
namespace Go.Proofs.YtciiemomfniecaaGreatDoor
set_option maxRecDepth 100000

/-- A token at the beginning of what is left. -/
structure Good (l : List UInt8) (t : T) : Prop where
  kind : t.kind < 4
  str : t.kind = 2 ↔ l.head? = some 34
  ne : t.kind ≠ 2 → t.text ≠ []
  text : t.kind ≠ 2 → l.take t.text.length = t.text
theorem tk_good {it : Int → List UInt8} {l : List UInt8} {t : Tk} (h : tk it l = some t) (p : Nat) : Good l ⟨t.kind, t.text, t.num, p⟩ := by
  cases l with
  | nil => simp [tk] at h
  | cons c r =>
    have s1 := span_le isNext r
    have s2 := span_le isDigit r
    simp only [tk] at h
    by_cases h1 : isFirst c = true
    · rw [if_pos h1] at h
      injection h with h
      subst h
      have hc : c ≠ 34 := by rintro rfl; exact absurd h1 (by decide)
      exact ⟨by simp, by simp [hc], by simp, fun _ => by simp only [List.length_cons, List.length_take, Nat.min_eq_left s1, List.take_succ_cons]⟩
    · rw [if_neg h1] at h
      by_cases h2 : (isDigit c || c == 45) = true
      · rw [if_pos h2] at h
        simp only [Option.map_eq_some_iff] at h
        obtain ⟨n, _, rfl⟩ := h
        have hc : c ≠ 34 := by rintro rfl; exact absurd h2 (by decide)
        exact ⟨by simp, by simp [hc], by simp, fun _ => by simp only [List.length_cons, List.length_take, Nat.min_eq_left s2, List.take_succ_cons]⟩
      · rw [if_neg h2] at h
        by_cases h3 : (c == 34) = true
        · rw [if_pos h3] at h
          simp only [Option.map_eq_some_iff] at h
          obtain ⟨x, _, rfl⟩ := h
          have hc : c = 34 := by simpa using h3
          exact ⟨by simp, by simp [hc], by simp, by simp⟩
        · rw [if_neg h3] at h
          have hc : c ≠ 34 := by simpa using h3
          split at h
          · injection h with h
            subst h
            exact ⟨by simp, by simp [hc], by simp, fun _ => by simp⟩
          · cases h
section

variable {it : Int → List UInt8}

theorem lex_good : ∀ (l : List UInt8) (k p : Nat), ∀ t ∈ (lex it k p l).1, p + k ≤ t.at_ ∧ t.at_ < p + l.length ∧ Good (l.drop (t.at_ - p)) t
  | [], k, p, t, h => by cases k <;> simp [lex] at h
  | c :: r, k + 1, p, t, h => by
    simp only [lex] at h
    obtain ⟨h1, h2, h3⟩ := lex_good r k (p + 1) t h
    refine ⟨by omega, by simp only [List.length_cons]; omega, ?_⟩
    rw [show t.at_ - p = t.at_ - (p + 1) + 1 by omega, List.drop_succ_cons]
    exact h3
  | c :: r, 0, p, t, h => by
    simp only [lex] at h
    split at h
    · rename_i w _
      obtain ⟨h1, h2, h3⟩ := lex_good r w (p + 1) t h
      refine ⟨by omega, by simp only [List.length_cons]; omega, ?_⟩
      rw [show t.at_ - p = t.at_ - (p + 1) + 1 by omega, List.drop_succ_cons]
      exact h3
    · split at h
      · simp at h
      · rename_i x hx
        rcases List.mem_cons.1 h with rfl | h
        · refine ⟨by simp, by simp, ?_⟩
          simp only [Nat.sub_self, List.drop_zero]
          exact tk_good hx p
        · obtain ⟨h1, h2, h3⟩ := lex_good r x.more (p + 1) t h
          refine ⟨by omega, by simp only [List.length_cons]; omega, ?_⟩
          rw [show t.at_ - p = t.at_ - (p + 1) + 1 by omega, List.drop_succ_cons]
          exact h3
theorem lex_rise : ∀ (l : List UInt8) (k p : Nat), (lex it k p l).1.Pairwise fun a b => a.at_ < b.at_
  | [], k, p => by cases k <;> simp [lex]
  | c :: r, k + 1, p => by
    simp only [lex]
    exact lex_rise r k (p + 1)
  | c :: r, 0, p => by
    simp only [lex]
    split
    · exact lex_rise r _ (p + 1)
    · split
      · exact List.Pairwise.nil
      · rename_i x hx
        refine List.Pairwise.cons (fun b hb => ?_) (lex_rise r x.more (p + 1))
        have := (lex_good r x.more (p + 1) b hb).1
        show p < b.at_
        omega
theorem all_cases (L : List UInt8) :
    (allE it L = 0 ∧ allAt it L = L.length ∧ (allT it L).length ≤ 1000 ∧ allT it L = (lex it 0 0 L).1) ∨ (allT it L = [] ∧ allAt it L < L.length ∧ (allE it L = 4 ∨ allE it L = 2)) := by
  unfold allE allAt allT
  by_cases h5 : 5000 < L.length
  · right
    simp only [if_pos h5]
    exact ⟨trivial, by omega, .inr trivial⟩
  · simp only [if_neg h5]
    unfold ansT ansAt ansE
    by_cases h1 : 1000 < (lex it 0 0 L).1.length
    · right
      simp only [if_pos h1]
      refine ⟨trivial, ?_, .inr trivial⟩
      have hm := List.getElem_mem h1
      have hg := lex_good L 0 0 _ hm
      rw [List.getD_eq_getElem?_getD, List.getElem?_eq_getElem h1]
      simp only [Option.getD_some]
      omega
    · simp only [if_neg h1]
      cases h2 : (lex it 0 0 L).2 with
      | none =>
        left
        exact ⟨rfl, rfl, by simp; omega, by simp⟩
      | some q =>
        right
        have := lex_place L 0 0 q h2
        exact ⟨rfl, by simp; omega, .inl rfl⟩
end

end Go.Proofs.YtciiemomfniecaaGreatDoor
/-
  Texts that are made of pieces: blanks, signs, and names and numbers with a blank or a sign behind them; what is told of their tokens.
-/
namespace Go.Proofs.YtciiemomfniecaaGreatDoor
set_option maxRecDepth 100000

def nameOK (x : List UInt8) : Prop := (∃ c r, x = c :: r ∧ isFirst c = true ∧ ∀ d ∈ r, isNext d = true) ∧ x.length ≤ 1500
def inr (n : Int) : Prop := -9223372036854775808 ≤ n ∧ n ≤ 9223372036854775807
/-- A token of a text. -/
def tokOK (t : T) : Prop := (t.kind = 0 → nameOK t.text) ∧ (t.kind = 1 → inr t.num)
theorem lex_tokOK : ∀ (l : List UInt8) (k p : Nat), l.length ≤ 1500 → ∀ t ∈ (lex Lib.itoa k p l).1, tokOK t
  | [], k, p, _, t, h => by cases k <;> simp [lex] at h
  | c :: r, k + 1, p, hl, t, h => by
    simp only [lex] at h
    exact lex_tokOK r k (p + 1) (by simp at hl; omega) t h
  | c :: r, 0, p, hl, t, h => by
    have hl' : r.length ≤ 1500 := by simp at hl; omega
    simp only [lex] at h
    split at h
    · exact lex_tokOK r _ (p + 1) hl' t h
    · split at h
      · simp at h
      · rename_i x hx
        rcases List.mem_cons.1 h with rfl | h
        · have s1 := span_le isNext r
          simp only [tk] at hx
          by_cases h1 : isFirst c = true
          · rw [if_pos h1] at hx
            injection hx with hx
            subst hx
            refine ⟨fun _ => ⟨⟨c, _, rfl, h1, span_all isNext r⟩, ?_⟩, fun h => by simp at h⟩
            simp only [List.length_cons, List.length_take, Nat.min_eq_left s1]
            simp at hl
            omega
          · rw [if_neg h1] at hx
            by_cases h2 : (isDigit c || c == 45) = true
            · rw [if_pos h2] at hx
              simp only [Option.map_eq_some_iff] at hx
              obtain ⟨n, hn, rfl⟩ := hx
              exact ⟨fun h => by simp at h, fun _ => (numOf_some hn).2⟩
            · rw [if_neg h2] at hx
              by_cases h3 : (c == 34) = true
              · rw [if_pos h3] at hx
                simp only [Option.map_eq_some_iff] at hx
                obtain ⟨y, _, rfl⟩ := hx
                exact ⟨fun h => by simp at h, fun h => by simp at h⟩
              · rw [if_neg h3] at hx
                split at hx
                · injection hx with hx
                  subst hx
                  exact ⟨fun h => by simp at h, fun h => by simp at h⟩
                · cases hx
        · exact lex_tokOK r x.more (p + 1) hl' t h

/-! ### Pieces -/
inductive Pce where
  | bl (c : UInt8)
  | sg (c : UInt8)
  | nb (x : List UInt8)
  | ns (x : List UInt8) (c : UInt8)
  | us (n : Int) (c : UInt8)
def Pce.ok : Pce → Prop
  | .bl c => isBlank c = true
  | .sg c => isSign c = true
  | .nb x => nameOK x
  | .ns x c => nameOK x ∧ isSign c = true
  | .us n c => inr n ∧ isSign c = true
def Pce.byt : Pce → List UInt8
  | .bl c => [c]
  | .sg c => [c]
  | .nb x => x ++ [32]
  | .ns x c => x ++ [c]
  | .us n c => Lib.itoa n ++ [c]
def tSg (c : UInt8) : T := ⟨3, [c], 0, 0⟩
def tNm (x : List UInt8) : T := ⟨0, x, 0, 0⟩
def tNu (n : Int) : T := ⟨1, Lib.itoa n, n, 0⟩
def Pce.tks : Pce → List T
  | .bl _ => []
  | .sg c => [tSg c]
  | .nb x => [tNm x]
  | .ns x c => [tNm x, tSg c]
  | .us n c => [tNu n, tSg c]
def bytP (l : List Pce) : List UInt8 := l.flatMap Pce.byt
def tksP (l : List Pce) : List T := l.flatMap Pce.tks
def unAt (t : T) : T := { t with at_ := 0 }
/-- The tokens, but for where they are, and that there are no others. -/
def Lexed (l : List UInt8) (X : List T) : Prop := ∀ p, (lex Lib.itoa 0 p l).1.map unAt = X ∧ (lex Lib.itoa 0 p l).2 = none
theorem Lexed.nil : Lexed [] [] := fun p => by simp [lex]
theorem ws_hard {c : UInt8} (h1 : isBlank c = false) (h2 : c ≠ 47) (r : List UInt8) : ws false (c :: r) = 0 := by
  have h3 : (c == 47) = false := by simpa using h2
  simp [ws, h1, h3]
theorem Lexed.bl {c : UInt8} (h : isBlank c = true) {l : List UInt8} {X : List T} (hl : Lexed l X) : Lexed (c :: l) X := by
  intro p
  have e : lex Lib.itoa 0 p (c :: l) = lex Lib.itoa 0 (p + 1) l := by
    rw [lex_ws, show c :: l = [c] ++ l from rfl, ws_blanks [c] (by simpa using h), List.length_singleton]
    rw [show ([c] ++ l).drop (1 + ws false l) = l.drop (ws false l) by rw [Nat.add_comm]; rfl, ← Nat.add_assoc, ← lex_ws]
  rw [e]
  exact hl (p + 1)
theorem Lexed.tok {y : List UInt8} {k : Nat} {n : Int} {l : List UInt8} {X : List T} (hw : ws false (y ++ l) = 0) (hy : y ≠ []) (ht : tk Lib.itoa (y ++ l) = some ⟨k, y, n, y.length - 1⟩) (hl : Lexed l X) : Lexed (y ++ l) (⟨k, y, n, 0⟩ :: X) := by
  intro p
  have hpos : 0 < y.length := List.length_pos_iff.2 hy
  rw [lex_some hw ht]
  simp only
  rw [show y.length - 1 + 1 = y.length by omega, List.drop_left]
  obtain ⟨h1, h2⟩ := hl (p + (y.length - 1) + 1)
  exact ⟨by rw [List.map_cons, h1]; rfl, h2⟩
theorem sign_hard {c : UInt8} (h : isSign c = true) : isBlank c = false ∧ c ≠ 47 ∧ isFirst c = false ∧ (isDigit c || c == 45) = false ∧ (c == 34) = false ∧ isNext c = false ∧ isDigit c = false := by
  simp only [isSign, List.contains_eq_mem, List.mem_cons, List.not_mem_nil, or_false, decide_eq_true_eq] at h
  rcases h with rfl | rfl | rfl | rfl | rfl | rfl | rfl | rfl | rfl | rfl | rfl | rfl <;> decide
theorem Lexed.sg {c : UInt8} (h : isSign c = true) {l : List UInt8} {X : List T} (hl : Lexed l X) : Lexed (c :: l) (tSg c :: X) := by
  obtain ⟨h1, h2, h3, h4, h5, _, _⟩ := sign_hard h
  exact Lexed.tok (y := [c]) (ws_hard h1 h2 l) (by simp) (by simp [tk, h3, h4, h5, h]) hl
theorem first_hard {c : UInt8} (h : isFirst c = true) : isBlank c = false ∧ c ≠ 47 := by
  simp only [isFirst, Bool.or_eq_true, Bool.and_eq_true, decide_eq_true_eq, beq_iff_eq] at h
  constructor
  · simp only [isBlank, Bool.or_eq_false_iff, beq_eq_false_iff_ne]
    refine ⟨⟨⟨?_, ?_⟩, ?_⟩, ?_⟩ <;> (rintro rfl; simp at h)
  · rintro rfl; simp at h
theorem Lexed.nm {x : List UInt8} (h : nameOK x) {d : UInt8} (hd : isNext d = false) {l : List UInt8} {X : List T} (hl : Lexed (d :: l) X) : Lexed (x ++ d :: l) (tNm x :: X) := by
  obtain ⟨⟨c, r, rfl, hc, hr⟩, _⟩ := h
  obtain ⟨h1, h2⟩ := first_hard hc
  have hs : span isNext (r ++ d :: l) = r.length := by rw [span_app isNext d hd, span_whole isNext r hr]
  refine Lexed.tok (y := c :: r) (ws_hard h1 h2 _) (by simp) ?_ hl
  simp [tk, hc, hs]
theorem itoa_form (n : Int) : ∃ c r, Lib.itoa n = c :: r ∧ (c = 45 ∨ isDigit c = true) ∧ ∀ d ∈ r, isDigit d = true := by
  by_cases hn : n < 0
  · exact ⟨45, _, itoa_neg n hn, .inl rfl, dec_digits _⟩
  · rw [itoa_nonneg n (by omega)]
    have hd := dec_digits n.toNat
    cases hdd : Lib.decDigits n.toNat with
    | nil => exact absurd hdd (dec_ne _)
    | cons c r =>
      rw [hdd] at hd
      exact ⟨c, r, rfl, .inr (hd c (by simp)), fun d h => hd d (by simp [h])⟩
theorem num_hard {c : UInt8} (h : c = 45 ∨ isDigit c = true) : isBlank c = false ∧ c ≠ 47 ∧ isFirst c = false ∧ (isDigit c || c == 45) = true := by
  rcases h with rfl | h
  · decide
  · simp only [isDigit, Bool.and_eq_true, decide_eq_true_eq] at h
    refine ⟨?_, ?_, ?_, ?_⟩
    · simp only [isBlank, Bool.or_eq_false_iff, beq_eq_false_iff_ne]
      refine ⟨⟨⟨?_, ?_⟩, ?_⟩, ?_⟩ <;> (rintro rfl; simp at h)
    · rintro rfl; simp at h
    · have h95 : (c == 95) = false := by
        rw [beq_eq_false_iff_ne]; rintro rfl; simp at h
      simp only [isFirst, h95, Bool.or_false, Bool.or_eq_false_iff, Bool.and_eq_false_iff, decide_eq_false_iff_not]
      omega
    · simp [isDigit, h]
theorem Lexed.nu {n : Int} (h : inr n) {d : UInt8} (hd : isDigit d = false) {l : List UInt8} {X : List T} (hl : Lexed (d :: l) X) : Lexed (Lib.itoa n ++ d :: l) (tNu n :: X) := by
  obtain ⟨c, r, hc, hcc, hr⟩ := itoa_form n
  obtain ⟨h1, h2, h3, h4⟩ := num_hard hcc
  have hn := numOf_itoa h.1 h.2
  unfold tNu
  rw [hc] at hn ⊢
  have hs : span isDigit (r ++ d :: l) = r.length := by rw [span_app isDigit d hd, span_whole isDigit r hr]
  refine Lexed.tok (y := c :: r) (ws_hard h1 h2 _) (by simp) ?_ hl
  simp [tk, h3, h4, hs, hn]
theorem lexed_pcs : ∀ (l : List Pce), (∀ p ∈ l, p.ok) → Lexed (bytP l) (tksP l)
  | [], _ => Lexed.nil
  | q :: l, h => by
    have ih := lexed_pcs l fun p hp => h p (by simp [hp])
    have hq := h q (by simp)
    have e1 : bytP (q :: l) = q.byt ++ bytP l := by simp [bytP]
    have e2 : tksP (q :: l) = q.tks ++ tksP l := by simp [tksP]
    rw [e1, e2]
    cases q with
    | bl c => exact ih.bl hq
    | sg c => exact ih.sg hq
    | nb x =>
      simp only [Pce.byt, Pce.tks, List.append_assoc, List.singleton_append, List.cons_append, List.nil_append]
      exact Lexed.nm hq (by decide) (ih.bl (by decide))
    | ns x c =>
      simp only [Pce.byt, Pce.tks, List.append_assoc, List.singleton_append, List.cons_append, List.nil_append]
      exact Lexed.nm hq.1 (sign_hard hq.2).2.2.2.2.2.1 (ih.sg hq.2)
    | us n c =>
      simp only [Pce.byt, Pce.tks, List.append_assoc, List.singleton_append, List.cons_append, List.nil_append]
      exact Lexed.nu hq.1 (sign_hard hq.2).2.2.2.2.2.2 (ih.sg hq.2)
theorem bytP_app (a b : List Pce) : bytP (a ++ b) = bytP a ++ bytP b := by simp [bytP]
theorem tksP_app (a b : List Pce) : tksP (a ++ b) = tksP a ++ tksP b := by simp [tksP]
end Go.Proofs.YtciiemomfniecaaGreatDoor
/-
  A set of keys as a map of the program: 'Free'; its laws at the operations: a key is put, taken out, asked for.
-/
namespace Go.Proofs.YtciiemomfniecaaGreatDoor
set_option maxRecDepth 100000

open Go.RowKit Go.WideMaps Go.Maps

section

variable {α : Type} {K : TypeId} {ky : α → Lit}

/-- Block b is a map of at most n entries; its keys are those that p tells. -/
def Free (K : TypeId) (ky : α → Lit) (w : World) (b n : Nat) (p : α → Bool) : Prop := ∃ D : DataW Unit, w.ownsMap Tryz.prog K unitElem b n D ∧ ∀ x, has D (ky x) = p x
theorem Free.made (w : World) : Free K ky (w.alloc (.map #[] 0)) w.heap.size 0 (fun _ => false) := ⟨.map [], World.ownsMap_made w _ _ _, fun _ => rfl⟩
theorem Free.mono {w : World} {b n n' : Nat} {p : α → Bool} (h : Free K ky w b n p) (hn : n ≤ n') : Free K ky w b n' p := by
  obtain ⟨D, h1, h2⟩ := h
  exact ⟨D, h1.mono hn, h2⟩
theorem Free.lt {w : World} {b n : Nat} {p : α → Bool} (h : Free K ky w b n p) : b < w.heap.size := by
  obtain ⟨D, h1, _⟩ := h
  exact h1.lt
theorem Free.block {w w' : World} {b n : Nat} {p : α → Bool} (h : Free K ky w b n p) (hb : w'.heap[b]? = w.heap[b]?) : Free K ky w' b n p := by
  obtain ⟨D, ⟨es, clock, h1, h2⟩, h3⟩ := h
  exact ⟨D, ⟨es, clock, hb.trans h1, h2⟩, h3⟩
theorem Free.on {w w' : World} {b n : Nat} {p : α → Bool} (h : Free K ky w b n p) (hb : Below w.heap.size w w') : Free K ky w' b n p := h.block (hb.block b h.lt)
theorem Free.alloc {w : World} {b n : Nat} {p : α → Bool} (h : Free K ky w b n p) (o : Obj) : Free K ky (w.alloc o) b n p := h.on (below_new w o)
theorem Free.kept {w w' : World} {b n : Nat} {p : α → Bool} {row : Option Nat} (h : Free K ky w b n p) (hg : w.grownBy w' row) (hne : some b ≠ row) : Free K ky w' b n p := h.block (hg.block b h.lt hne)
theorem Free.eq {w : World} {b n : Nat} {p q : α → Bool} (h : Free K ky w b n p) (e : p = q) : Free K ky w b n q := e ▸ h

variable {w : World} {ops : Array Oper} {rest : List Oper} {o : Oper} {a : Act} {Q : Exit → Act → World → Prop}

theorem wpList_free_put [DecidableEq α] (hg : o.guard = none) (m x v : Operand) (T E : TypeId) (hop : o.op = Op.mapUpdate T m x v) (KK : Keyed Tryz.prog K) (ht : Tryz.prog.underlying T = some (.map K E)) (inj : ∀ x y, ky x = ky y → x = y) (lit : ∀ x, WideAt.IsKeyLit (ky x))
    (b n : Nat) (p : α → Bool) (hm : a.eval m = .map (some b)) (hown : Free K ky w b n p) (hn : n < 1000000000) (key : Value) (y : α) (hx : a.eval x = key) (hv : a.eval v = .agg #[]) (hkey : keyOf Tryz.prog K key = some (ky y))
    (hK : ∀ w', Free K ky w' b (n + 1) (fun z => p z || decide (z = y)) → w.grownBy w' (some b) → wpList Tryz.prog ops Q rest (a.put o.dst undef) w') : wpList Tryz.prog ops Q (o :: rest) a w := by
  obtain ⟨D, h1, h2⟩ := hown
  refine wpList_mapUpdate_own w hg m x v T hop K E KK ht unitElem b n D hm h1 (by unfold maxLen; omega) _ _ (ky y) hx hv hkey _ [] unitElem_mk ?_
  intro w' r1 r2
  refine hK w' ⟨_, r1, fun z => ?_⟩ r2
  by_cases hz : z = y
  · subst hz
    rw [has_put_same h1.isMap (lit z)]
    simp
  · rw [has_put_other (fun e => hz (inj _ _ e)), h2 z]
    simp [hz]
theorem wpList_free_del [DecidableEq α] (hg : o.guard = none) (m x : Operand) (T E : TypeId) (hop : o.op = Op.call { callee := Callee.builtin Builtin.delete, args := #[m, x], argTypes := #[T, K] }) (KK : Keyed Tryz.prog K) (ht : Tryz.prog.underlying T = some (.map K E)) (inj : ∀ x y, ky x = ky y → x = y)
    (b n : Nat) (p : α → Bool) (hm : a.eval m = .map (some b)) (hown : Free K ky w b n p) (key : Value) (y : α) (hx : a.eval x = key) (hkey : keyOf Tryz.prog K key = some (ky y))
    (hK : ∀ w', Free K ky w' b n (fun z => p z && decide (z ≠ y)) → w.grownBy w' (some b) → wpList Tryz.prog ops Q rest (a.put o.dst (.tuple #[])) w') : wpList Tryz.prog ops Q (o :: rest) a w := by
  obtain ⟨D, h1, h2⟩ := hown
  refine wpList_delete_own w hg m x T K hop E KK ht unitElem b n D hm h1 _ (ky y) hx hkey ?_
  intro w' r1 r2
  refine hK w' ⟨_, r1, fun z => ?_⟩ r2.grown
  by_cases hz : z = y
  · subst hz
    rw [has_del_same]
    simp
  · rw [has_del_other (fun e => hz (inj _ _ e)), h2 z]
    simp [hz]
theorem wpList_free_look (hg : o.guard = none) (m x : Operand) (T E : TypeId) (hop : o.op = Op.lookup T m x true) (KK : Keyed Tryz.prog K) (ht : Tryz.prog.underlying T = some (.map K E)) (hz : (zeroValue E).run Tryz.prog w = .ok (.agg #[]) w)
    (b n : Nat) (p : α → Bool) (hm : a.eval m = .map (some b)) (hown : Free K ky w b n p) (key : Value) (y : α) (hx : a.eval x = key) (hkey : keyOf Tryz.prog K key = some (ky y))
    (hK : wpList Tryz.prog ops Q rest (a.put o.dst (.tuple #[.agg #[], .bool (p y)])) w) : wpList Tryz.prog ops Q (o :: rest) a w := by
  obtain ⟨D, h1, h2⟩ := hown
  refine wpList_lookup_own_unit w hg m x T hop K E KK ht hz b n D hm h1 _ (ky y) hx hkey ?_
  rw [h2 y]
  exact hK
end

/-! ### The two kinds of keys -/

def kS (x : List UInt8) : Lit := .string x
def kI (n : Int) : Lit := .int .i64 n
theorem kS_inj (x y : List UInt8) (h : kS x = kS y) : x = y := by injection h
theorem kI_inj (x y : Int) (h : kI x = kI y) : x = y := by injection h
theorem kS_lit (x : List UInt8) : WideAt.IsKeyLit (kS x) := trivial
theorem kI_lit (x : Int) : WideAt.IsKeyLit (kI x) := trivial
theorem kS_law : Keyed Tryz.prog 9 := string_keyed Tryz.underlying9
theorem kI_law : Keyed Tryz.prog 2 := int_keyed Tryz.underlying2
theorem kS_key {x : List UInt8} (h : x.length ≤ maxLen) : keyOf Tryz.prog 9 (.string (txt x)) = some (kS x) := by
  have hs : (txt x).size ≤ maxLen := by simpa [txt, ByteArray.size] using h
  rw [keyOf_string_mk Tryz.underlying9 hs]
  rfl
theorem kI_key {n : Int} (h : inr n) : keyOf Tryz.prog 2 (.int .i64 n) = some (kI n) := by
  refine keyOf_int_mk Tryz.underlying2 ?_
  simp only [Lit.wf, Bool.and_eq_true, decide_eq_true_eq]
  exact ⟨by show (-9223372036854775808 : Int) ≤ _; unfold inr at h; omega, by show _ ≤ (9223372036854775807 : Int); unfold inr at h; omega⟩
end Go.Proofs.YtciiemomfniecaaGreatDoor
/-
  Package-level variables: an array of numbers that lies in its own block, and that nothing turns.
-/
namespace Go.Proofs.YtciiemomfniecaaGreatDoor
set_option maxRecDepth 100000

open Go.RowKit

/-- The block g holds these cells. -/
def TabAt (w : World) (g : Nat) (cs : Array Value) : Prop := ∃ t fr, w.heap[g]? = some (.cells cs t fr)
theorem TabAt.on {w w' : World} {g : Nat} {cs : Array Value} (h : TabAt w g cs) (hb : Below w.heap.size w w') : TabAt w' g cs := by
  obtain ⟨t, fr, h⟩ := h
  exact ⟨t, fr, (hb.block g (Array.getElem?_eq_some_iff.1 h).1).trans h⟩
theorem TabAt.of_var {P : Program} {w : World} {n : String} {g : Nat} {cs : Array Value} (hg : P.globalNamed n = some g) (h : w.var? P n = some cs) : TabAt w g cs := by
  simp only [World.var?, hg, Option.bind_some] at h
  split at h
  · rename_i c t fr hb
    cases h
    exact ⟨t, fr, hb⟩
  · cases h
end Go.Proofs.YtciiemomfniecaaGreatDoor
