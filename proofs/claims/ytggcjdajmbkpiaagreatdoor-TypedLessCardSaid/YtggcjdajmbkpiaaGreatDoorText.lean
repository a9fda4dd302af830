/-
  A schema's text as a file: what the parser does, by plain functions on lists of tokens; and the same as steps of a machine that takes one token after the other.
-/
import Derived.Test.YtggcjdajmbkpiaaGreatDoorTokMath
import Derived.Test.YtggcjdajmbkpiaaGreatDoorTrSize
import Derived.Laws.BytesArg
namespace Go.Proofs.YtggcjdajmbkpiaaGreatDoor
set_option maxRecDepth 100000

structure Fd where
  type : List UInt8
  key : List UInt8
  rep : Bool
  one : Int
  name : List UInt8
  no : Int
  at_ : Int
  deriving DecidableEq
structure Ms where
  name : List UInt8
  F : List Fd
  ones : List (List UInt8)
  res : List Int
  at_ : Int
structure Vl where
  name : List UInt8
  n : Int
  at_ : Int
  deriving DecidableEq
structure En where
  name : List UInt8
  V : List Vl
  at_ : Int
structure Fl where
  M : List Ms
  E : List En

def wMessage : List UInt8 := [109, 101, 115, 115, 97, 103, 101]
def wEnum : List UInt8 := [101, 110, 117, 109]
def wRepeated : List UInt8 := [114, 101, 112, 101, 97, 116, 101, 100]
def wMap : List UInt8 := [109, 97, 112]
def wOneof : List UInt8 := [111, 110, 101, 111, 102]
def wReserved : List UInt8 := [114, 101, 115, 101, 114, 118, 101, 100]

/-! ### The parser: the tokens that are left, and whether it is stuck -/

structure S where
  l : List T
  st : Bool
namespace S

def is (s : S) (k : Nat) : Bool := !s.st && (match s.l with | [] => false | t :: _ => t.kind == k)
def sees (s : S) (k : Nat) (x : List UInt8) : Bool := s.is k && ((s.l.headD default).text == x)
def eat (s : S) (b : Bool) : S := if b then ⟨s.l.tail, s.st⟩ else ⟨s.l, true⟩
/-- The token that is taken, or none. -/
def tok (s : S) (b : Bool) : T := if b then s.l.headD default else default
def nameT (s : S) : List UInt8 := if s.is 0 then (s.l.headD default).text else []
def numV (s : S) : Int := if s.is 1 then (s.l.headD default).num else 0
def name (s : S) : S := s.eat (s.is 0)
def num (s : S) : S := s.eat (s.is 1)
def word (s : S) (x : List UInt8) : S := s.eat (s.sees 0 x)
def sign (s : S) (x : List UInt8) : S := s.eat (s.sees 3 x)
def place (E : Nat) (s : S) : Nat := match s.l with | [] => E | t :: _ => t.at_
def inside (s : S) : Bool := !s.st && !(s.sees 3 [125])
def map2 (s : S) : Bool := s.sees 0 wMap && decide (1 < s.l.length) && ((s.l.tail.headD default).kind == 3) && ((s.l.tail.headD default).text == [60])
def nbd (s : S) : S := ((s.name.sign [61]).num).sign [59]
def nbdNo (s : S) : Int := (s.name.sign [61]).numV
def fld (E : Nat) (s : S) : Fd := ⟨s.nameT, [], false, 0, s.name.nameT, s.name.nbdNo, s.place E⟩
def fldS (s : S) : S := s.name.nbd
/-- How far it is to the end. -/
def mu (s : S) : Nat := s.l.length + (if s.st then 0 else 1)

theorem is_st {s : S} (h : s.st = true) (k : Nat) : s.is k = false := by simp [is, h]
theorem sees_st {s : S} (h : s.st = true) (k : Nat) (x : List UInt8) : s.sees k x = false := by simp [sees, is_st h]
theorem is_l {s : S} {k : Nat} (h : s.is k = true) : s.st = false ∧ ∃ t l, s.l = t :: l ∧ t.kind = k := by
  obtain ⟨l, st⟩ := s
  cases st <;> cases l <;> simp_all [is]
theorem sees_l {s : S} {k : Nat} {x : List UInt8} (h : s.sees k x = true) : s.st = false ∧ ∃ t l, s.l = t :: l ∧ t.kind = k ∧ t.text = x := by
  simp only [sees, Bool.and_eq_true] at h
  obtain ⟨h1, t, l, h2, h3⟩ := is_l h.1
  have h4 := h.2
  rw [h2] at h4
  exact ⟨h1, t, l, h2, h3, by simpa using h4⟩
theorem eat_st {s : S} (h : s.st = true) : s.eat false = s := by cases s; simp_all [eat]
theorem eat_mu {s : S} {b : Bool} (hb : b = true → s.st = false ∧ s.l ≠ []) : mu (s.eat b) ≤ mu s ∧ (s.st = false → mu (s.eat b) + 1 ≤ mu s) := by
  obtain ⟨l, st⟩ := s
  cases b
  · cases st <;> simp [eat, mu]
  · obtain ⟨h1, h2⟩ := hb rfl
    simp only at h1 h2
    subst h1
    cases l with
    | nil => exact absurd rfl h2
    | cons t l => simp [eat, mu]
theorem is_ne {s : S} {k : Nat} (h : s.is k = true) : s.st = false ∧ s.l ≠ [] := by
  obtain ⟨h1, t, l, h2, _⟩ := is_l h
  exact ⟨h1, by rw [h2]; simp⟩
theorem sees_ne {s : S} {k : Nat} {x : List UInt8} (h : s.sees k x = true) : s.st = false ∧ s.l ≠ [] := by
  simp only [sees, Bool.and_eq_true] at h
  exact is_ne h.1
theorem name_mu (s : S) : mu s.name ≤ mu s ∧ (s.st = false → mu s.name + 1 ≤ mu s) := eat_mu is_ne
theorem num_mu (s : S) : mu s.num ≤ mu s ∧ (s.st = false → mu s.num + 1 ≤ mu s) := eat_mu is_ne
theorem word_mu (s : S) (x : List UInt8) : mu (s.word x) ≤ mu s ∧ (s.st = false → mu (s.word x) + 1 ≤ mu s) := eat_mu sees_ne
theorem sign_mu (s : S) (x : List UInt8) : mu (s.sign x) ≤ mu s ∧ (s.st = false → mu (s.sign x) + 1 ≤ mu s) := eat_mu sees_ne
theorem nbd_mu (s : S) : mu s.nbd ≤ mu s ∧ (s.st = false → mu s.nbd + 1 ≤ mu s) := by
  have h1 := name_mu s
  have h2 := sign_mu s.name [61]
  have h3 := num_mu (s.name.sign [61])
  have h4 := sign_mu (s.name.sign [61]).num [59]
  unfold nbd
  exact ⟨by omega, fun h => by have := h1.2 h; omega⟩
theorem fldS_mu (s : S) : mu s.fldS ≤ mu s ∧ (s.st = false → mu s.fldS + 1 ≤ mu s) := by
  have h1 := name_mu s
  have h2 := nbd_mu s.name
  unfold fldS
  exact ⟨by omega, fun h => by have := h1.2 h; omega⟩
theorem inside_st {s : S} (h : s.inside = true) : s.st = false := by
  cases hs : s.st <;> simp_all [inside]
end S

open S

/-! ### Items, messages, enums, files -/

def Ms.add (m : Ms) (d : Fd) : Ms := { m with F := m.F ++ [d] }
def Ms.wt (m : Ms) : Nat := m.F.length + m.ones.length + m.res.length
theorem Ms.add_wt (m : Ms) (d : Fd) : (m.add d).wt = m.wt + 1 := by simp [Ms.add, Ms.wt]; omega
def onesF (E : Nat) (s : S) (m : Ms) : S × Ms :=
  if _h : s.inside = true then onesF E s.fldS (m.add { s.fld E with one := m.ones.length }) else (s, m)
termination_by s.mu
decreasing_by have := (fldS_mu s).2 (inside_st _h); omega
def resF (s : S) (m : Ms) : S × Ms :=
  if _h : s.sees 3 [44] = true then resF (s.sign [44]).num { m with res := m.res ++ [(s.sign [44]).numV] } else (s, m)
termination_by s.mu
decreasing_by have h1 := (sign_mu s [44]).2 (sees_l _h).1; have h2 := (num_mu (s.sign [44])).1; omega
def singleF (E : Nat) (s : S) (m : Ms) : S × Ms := (s.fldS, m.add (s.fld E))
def repF (E : Nat) (s : S) (m : Ms) : S × Ms := ((s.word wRepeated).fldS, m.add { (s.word wRepeated).fld E with rep := true, at_ := s.place E })
def mapS1 (s : S) : S := (s.word wMap).sign [60]
def mapS2 (s : S) : S := (mapS1 s).name.sign [44]
def mapS3 (s : S) : S := (mapS2 s).name.sign [62]
def pairsF (E : Nat) (s : S) (m : Ms) : S × Ms :=
  ((mapS3 s).nbd, m.add ⟨(mapS2 s).nameT, (mapS1 s).nameT, false, 0, (mapS3 s).nameT, (mapS3 s).nbdNo, s.place E⟩)
def oneofS (s : S) : S := (s.word wOneof).name.sign [123]
def oneofM (s : S) (m : Ms) : Ms := { m with ones := m.ones ++ [(s.word wOneof).nameT] }
def oneofF (E : Nat) (s : S) (m : Ms) : S × Ms := ((onesF E (oneofS s) (oneofM s m)).1.sign [125], (onesF E (oneofS s) (oneofM s m)).2)
def resS (s : S) : S := (s.word wReserved).num
def resM (s : S) (m : Ms) : Ms := { m with res := m.res ++ [(s.word wReserved).numV] }
def reservedF (s : S) (m : Ms) : S × Ms := ((resF (resS s) (resM s m)).1.sign [59], (resF (resS s) (resM s m)).2)
def itemF (E : Nat) (s : S) (m : Ms) : S × Ms :=
  if s.sees 0 wRepeated then repF E s m
  else if s.sees 0 wOneof then oneofF E s m
  else if s.sees 0 wReserved then reservedF s m
  else if s.map2 then pairsF E s m
  else singleF E s m

theorem onesF_wt (E : Nat) (s : S) (m : Ms) : mu (onesF E s m).1 ≤ mu s ∧ (onesF E s m).2.wt + mu (onesF E s m).1 ≤ m.wt + mu s := by
  induction s, m using onesF.induct E with
  | case1 s m h ih =>
    rw [onesF, dif_pos h]
    have h1 := (fldS_mu s).2 (inside_st h)
    rw [Ms.add_wt] at ih
    omega
  | case2 s m h => rw [onesF, dif_neg h]; exact ⟨Nat.le_refl _, Nat.le_refl _⟩
theorem resF_wt (s : S) (m : Ms) : mu (resF s m).1 ≤ mu s ∧ (resF s m).2.wt + mu (resF s m).1 ≤ m.wt + mu s := by
  induction s, m using resF.induct with
  | case1 s m h ih =>
    rw [resF, dif_pos h]
    have h1 := (sign_mu s [44]).2 (sees_l h).1
    have h2 := (num_mu (s.sign [44])).1
    have h3 : ({ m with res := m.res ++ [(s.sign [44]).numV] } : Ms).wt = m.wt + 1 := by simp [Ms.wt]; omega
    rw [h3] at ih
    omega
  | case2 s m h => rw [resF, dif_neg h]; exact ⟨Nat.le_refl _, Nat.le_refl _⟩
theorem singleF_wt (E : Nat) (s : S) (m : Ms) (h : s.st = false) : mu (singleF E s m).1 + 1 ≤ mu s ∧ (singleF E s m).2.wt + mu (singleF E s m).1 ≤ m.wt + mu s := by
  have h1 := (fldS_mu s).2 h
  simp only [singleF, Ms.add_wt]
  omega
theorem repF_wt (E : Nat) (s : S) (m : Ms) (h : s.st = false) : mu (repF E s m).1 + 1 ≤ mu s ∧ (repF E s m).2.wt + mu (repF E s m).1 ≤ m.wt + mu s := by
  have h1 := (word_mu s wRepeated).2 h
  have h2 := (fldS_mu (s.word wRepeated)).1
  simp only [repF, Ms.add_wt]
  omega
theorem pairsF_wt (E : Nat) (s : S) (m : Ms) (h : s.st = false) : mu (pairsF E s m).1 + 1 ≤ mu s ∧ (pairsF E s m).2.wt + mu (pairsF E s m).1 ≤ m.wt + mu s := by
  have h1 := (word_mu s wMap).2 h
  have h2 := (sign_mu (s.word wMap) [60]).1
  have h3 := (name_mu (mapS1 s)).1
  have h4 := (sign_mu (mapS1 s).name [44]).1
  have h5 := (name_mu (mapS2 s)).1
  have h6 := (sign_mu (mapS2 s).name [62]).1
  have h7 := (nbd_mu (mapS3 s)).1
  have e1 : mapS1 s = (s.word wMap).sign [60] := rfl
  have e2 : mapS2 s = (mapS1 s).name.sign [44] := rfl
  have e3 : mapS3 s = (mapS2 s).name.sign [62] := rfl
  rw [← e1] at h2
  rw [← e2] at h4
  rw [← e3] at h6
  simp only [pairsF, Ms.add_wt]
  omega
theorem oneofS_mu (s : S) (h : s.st = false) : mu (oneofS s) + 1 ≤ mu s := by
  have h1 := (word_mu s wOneof).2 h
  have h2 := (name_mu (s.word wOneof)).1
  have h3 := (sign_mu (s.word wOneof).name [123]).1
  unfold oneofS
  omega
theorem oneofM_wt (s : S) (m : Ms) : (oneofM s m).wt = m.wt + 1 := by simp [oneofM, Ms.wt]; omega
theorem oneofF_wt (E : Nat) (s : S) (m : Ms) (h : s.st = false) : mu (oneofF E s m).1 + 1 ≤ mu s ∧ (oneofF E s m).2.wt + mu (oneofF E s m).1 ≤ m.wt + mu s := by
  have h1 := oneofS_mu s h
  have h4 := onesF_wt E (oneofS s) (oneofM s m)
  rw [oneofM_wt] at h4
  have h5 := (sign_mu (onesF E (oneofS s) (oneofM s m)).1 [125]).1
  simp only [oneofF]
  omega
theorem resS_mu (s : S) (h : s.st = false) : mu (resS s) + 1 ≤ mu s := by
  have h1 := (word_mu s wReserved).2 h
  have h2 := (num_mu (s.word wReserved)).1
  unfold resS
  omega
theorem resM_wt (s : S) (m : Ms) : (resM s m).wt = m.wt + 1 := by simp [resM, Ms.wt]; omega
theorem reservedF_wt (s : S) (m : Ms) (h : s.st = false) : mu (reservedF s m).1 + 1 ≤ mu s ∧ (reservedF s m).2.wt + mu (reservedF s m).1 ≤ m.wt + mu s := by
  have h1 := resS_mu s h
  have h4 := resF_wt (resS s) (resM s m)
  rw [resM_wt] at h4
  have h5 := (sign_mu (resF (resS s) (resM s m)).1 [59]).1
  simp only [reservedF]
  omega
theorem itemF_wt (E : Nat) (s : S) (m : Ms) (h : s.st = false) : mu (itemF E s m).1 + 1 ≤ mu s ∧ (itemF E s m).2.wt + mu (itemF E s m).1 ≤ m.wt + mu s := by
  unfold itemF
  split
  · exact repF_wt E s m h
  · split
    · exact oneofF_wt E s m h
    · split
      · exact reservedF_wt s m h
      · split
        · exact pairsF_wt E s m h
        · exact singleF_wt E s m h
def itemsF (E : Nat) (s : S) (m : Ms) : S × Ms :=
  if _h : s.inside = true then itemsF E (itemF E s m).1 (itemF E s m).2 else (s, m)
termination_by s.mu
decreasing_by have := (itemF_wt E s m (inside_st _h)).1; omega
def msgS (s : S) : S := (s.word wMessage).name.sign [123]
def msgM (E : Nat) (s : S) : Ms := ⟨(s.word wMessage).nameT, [], [], [], s.place E⟩
def messageF (E : Nat) (s : S) : S × Ms := ((itemsF E (msgS s) (msgM E s)).1.sign [125], (itemsF E (msgS s) (msgM E s)).2)
def valsF (E : Nat) (s : S) (e : En) : S × En :=
  if _h : s.inside = true then valsF E s.nbd { e with V := e.V ++ [⟨s.nameT, s.nbdNo, s.place E⟩] } else (s, e)
termination_by s.mu
decreasing_by have := (nbd_mu s).2 (inside_st _h); omega
def enS (s : S) : S := (s.word wEnum).name.sign [123]
def enE (E : Nat) (s : S) : En := ⟨(s.word wEnum).nameT, [], s.place E⟩
def enumF (E : Nat) (s : S) : S × En := ((valsF E (enS s) (enE E s)).1.sign [125], (valsF E (enS s) (enE E s)).2)
theorem itemsF_mu (E : Nat) (s : S) (m : Ms) : mu (itemsF E s m).1 ≤ mu s := by
  induction s, m using itemsF.induct E with
  | case1 s m h ih =>
    rw [itemsF, dif_pos h]
    have := (itemF_wt E s m (inside_st h)).1
    omega
  | case2 s m h => rw [itemsF, dif_neg h]; exact Nat.le_refl _
theorem msgS_mu (s : S) (h : s.st = false) : mu (msgS s) + 1 ≤ mu s := by
  have h1 := (word_mu s wMessage).2 h
  have h2 := (name_mu (s.word wMessage)).1
  have h3 := (sign_mu (s.word wMessage).name [123]).1
  unfold msgS
  omega
theorem messageF_mu (E : Nat) (s : S) (h : s.st = false) : mu (messageF E s).1 + 1 ≤ mu s := by
  have h1 := msgS_mu s h
  have h2 := itemsF_mu E (msgS s) (msgM E s)
  have h3 := (sign_mu (itemsF E (msgS s) (msgM E s)).1 [125]).1
  simp only [messageF]
  omega
theorem valsF_mu (E : Nat) (s : S) (e : En) : mu (valsF E s e).1 ≤ mu s := by
  induction s, e using valsF.induct E with
  | case1 s m h ih =>
    rw [valsF, dif_pos h]
    have := (nbd_mu s).2 (inside_st h)
    omega
  | case2 s m h => rw [valsF, dif_neg h]; exact Nat.le_refl _
theorem enS_mu (s : S) (h : s.st = false) : mu (enS s) + 1 ≤ mu s := by
  have h1 := (word_mu s wEnum).2 h
  have h2 := (name_mu (s.word wEnum)).1
  have h3 := (sign_mu (s.word wEnum).name [123]).1
  unfold enS
  omega
theorem enumF_mu (E : Nat) (s : S) (h : s.st = false) : mu (enumF E s).1 + 1 ≤ mu s := by
  have h1 := enS_mu s h
  have h2 := valsF_mu E (enS s) (enE E s)
  have h3 := (sign_mu (valsF E (enS s) (enE E s)).1 [125]).1
  simp only [enumF]
  omega
def S.goes (s : S) : Bool := !s.st && decide (0 < s.l.length)
theorem goes_st {s : S} (h : s.goes = true) : s.st = false := by cases hs : s.st <;> simp_all [S.goes]
def fileF (E : Nat) (s : S) (f : Fl) : S × Fl :=
  if _h : s.goes = true then
    if s.sees 0 wEnum then fileF E (enumF E s).1 { f with E := f.E ++ [(enumF E s).2] }
    else fileF E (messageF E s).1 { f with M := f.M ++ [(messageF E s).2] }
  else (s, f)
termination_by s.mu
decreasing_by
  · have := enumF_mu E s (goes_st _h); omega
  · have := messageF_mu E s (goes_st _h); omega
end Go.Proofs.YtggcjdajmbkpiaaGreatDoor
/-
  A file that is resolved, by plain functions: what is wrong with it, told first; the schema; and what makes a file right.
-/
namespace Go.Proofs.YtggcjdajmbkpiaaGreatDoor
set_option maxRecDepth 100000

structure Df where
  no : Int
  name : List UInt8
  kind : Int
  ref : Int
  rep : Bool
  key : Int
  one : Int
  deriving DecidableEq
structure Md where
  name : List UInt8
  F : List Df
  deriving DecidableEq
structure Ed where
  name : List UInt8
  V : List (List UInt8)
  N : List Int
  deriving DecidableEq
structure Sc where
  M : List Md
  E : List Ed
  deriving DecidableEq

def tInt64 : List UInt8 := [105, 110, 116, 54, 52]
def tSint64 : List UInt8 := [115, 105, 110, 116, 54, 52]
def tUint32 : List UInt8 := [117, 105, 110, 116, 51, 50]
def tBool : List UInt8 := [98, 111, 111, 108]
def tFixed32 : List UInt8 := [102, 105, 120, 101, 100, 51, 50]
def tSfixed64 : List UInt8 := [115, 102, 105, 120, 101, 100, 54, 52]
def tString : List UInt8 := [115, 116, 114, 105, 110, 103]
def tBytes : List UInt8 := [98, 121, 116, 101, 115]
/-- A plain type's kind. -/
def typeK (x : List UInt8) : Option Nat :=
  if x = tInt64 then some 0 else if x = tSint64 then some 1 else if x = tUint32 then some 2 else if x = tBool then some 3 else if x = tFixed32 then some 4 else if x = tSfixed64 then some 5 else if x = tString then some 7 else if x = tBytes then some 8 else none
def numberB (n : Int) : Bool := decide (1 ≤ n) && decide (n ≤ 536870911) && !(decide (19000 ≤ n) && decide (n ≤ 19999))
def keyedB (k : Int) : Bool := k == 0 || k == 1 || k == 2 || k == 3 || k == 4 || k == 5 || k == 7
def keyOK (x : List UInt8) : Bool := match typeK x with | none => false | some k => keyedB k
def namesF (f : Fl) : List (List UInt8) := f.M.map (·.name) ++ f.E.map (·.name)
/-- A type's kind, and which one it is: the first of its name. -/
def kindF (f : Fl) (x : List UInt8) : Option (Int × Int) :=
  match typeK x with
  | some k => some (k, 0)
  | none => if (namesF f).idxOf x < f.M.length then some (9, (namesF f).idxOf x) else if (namesF f).idxOf x < (namesF f).length then some (6, ((namesF f).idxOf x - f.M.length : Nat)) else none

/-! ### What is wrong -/

def hdAt (f : Fl) (i : Nat) : Int := if i < f.M.length then (f.M[i]?.map (·.at_)).getD 0 else (f.E[i - f.M.length]?.map (·.at_)).getD 0
def hdLong (f : Fl) (i : Nat) : Bool :=
  if i < f.M.length then (f.M[i]?.map fun m => decide (30 < m.F.length) || decide (30 < m.ones.length)).getD false
  else (f.E[i - f.M.length]?.map fun e => decide (e.V.length < 1) || decide (30 < e.V.length)).getD false
def hdErr (f : Fl) (i : Nat) : Option (Int × Nat) :=
  if (typeK ((namesF f).getD i [])).isSome || ((namesF f).take i).contains ((namesF f).getD i []) then some (hdAt f i, 4) else if hdLong f i then some (hdAt f i, 2) else none
def fdForm (m : Ms) (k : Nat) (x : Fd) : Bool :=
  ((m.F.take k).any fun y => y.name == x.name || y.no == x.no) || m.res.contains x.no || m.ones.contains x.name || !numberB x.no || decide (x.one < 0) || decide ((m.ones.length : Int) < x.one)
    || (x.rep && decide (x.key ≠ [])) || (decide (0 < x.one) && (x.rep || decide (x.key ≠ [])))
def fdErr (f : Fl) (m : Ms) (k : Nat) (x : Fd) : Option (Int × Nat) :=
  if fdForm m k x then some (x.at_, 4) else if decide (x.key ≠ []) && !keyOK x.key then some (x.at_, 5) else if (kindF f x.type).isNone then some (x.at_, 3) else none
def vlErr (e : En) (k : Nat) (x : Vl) : Option (Int × Nat) :=
  if ((e.V.take k).any fun y => y.name == x.name || y.n == x.n) || decide (x.n < -2147483648) || decide (2147483647 < x.n) || (k == 0 && x.n != 0) then some (x.at_, 4) else none
/-- The first that is told of the elements of a list, each with its place. -/
def firstOf {α β : Type} (g : Nat → α → Option β) (l : List α) : Option β := (List.range l.length).findSome? fun k => (l[k]?).bind (g k)
def errH (f : Fl) : Option (Int × Nat) := (List.range (namesF f).length).findSome? (hdErr f)
def errM (f : Fl) (m : Ms) : Option (Int × Nat) := firstOf (fdErr f m) m.F
def errF (f : Fl) : Option (Int × Nat) := f.M.findSome? (errM f)
def errV (f : Fl) : Option (Int × Nat) := f.E.findSome? fun e => firstOf (vlErr e) e.V
def sizeBad (f : Fl) : Bool := decide (f.M.length < 1) || decide (20 < f.M.length) || decide (20 < f.E.length)
def errR (f : Fl) : Option (Int × Nat) := if sizeBad f then some (0, 2) else ((errH f).or (errF f)).or (errV f)

/-! ### The schema -/

def defF (f : Fl) (x : Fd) : Df := ⟨x.no, x.name, ((kindF f x.type).getD (0, 0)).1, ((kindF f x.type).getD (0, 0)).2, x.rep, if x.key = [] then -1 else ((typeK x.key).map Int.ofNat).getD 0, x.one⟩
def insF (d : Df) : List Df → List Df
  | [] => [d]
  | x :: l => if d.no < x.no then d :: x :: l else x :: insF d l
def sortF (l : List Df) : List Df := l.foldl (fun o d => insF d o) []
def msgD (f : Fl) (m : Ms) : Md := ⟨m.name, sortF (m.F.map (defF f))⟩
def enD (e : En) : Ed := ⟨e.name, e.V.map (·.name), e.V.map (·.n)⟩
def schF (f : Fl) : Sc := ⟨f.M.map (msgD f), f.E.map enD⟩
/-- What is told of a file. -/
def tabS (f : Fl) : Sc := if (errR f).isSome then ⟨[], []⟩ else schF f
def tabAt (f : Fl) : Int := ((errR f).map (·.1)).getD 0
def tabE (f : Fl) : Nat := ((errR f).map (·.2)).getD 0

/-! ### What makes a file right -/

structure FdGood (f : Fl) (m : Ms) (x : Fd) : Prop where
  res : x.no ∉ m.res
  ones : x.name ∉ m.ones
  num : numberB x.no = true
  lo : 0 ≤ x.one
  hi : x.one ≤ (m.ones.length : Int)
  two : ¬ (x.rep = true ∧ x.key ≠ [])
  alone : 0 < x.one → x.rep = false ∧ x.key = []
  key : x.key ≠ [] → keyOK x.key = true
  type : (kindF f x.type).isSome = true
structure MsGood (f : Fl) (m : Ms) : Prop where
  few : m.F.length ≤ 30
  onesFew : m.ones.length ≤ 30
  two : m.F.Pairwise fun a b => a.name ≠ b.name ∧ a.no ≠ b.no
  each : ∀ x ∈ m.F, FdGood f m x
structure EnGood (e : En) : Prop where
  some_ : 1 ≤ e.V.length
  few : e.V.length ≤ 30
  two : e.V.Pairwise fun a b => a.name ≠ b.name ∧ a.n ≠ b.n
  each : ∀ v ∈ e.V, -2147483648 ≤ v.n ∧ v.n ≤ 2147483647
  zero : ∀ v, e.V[0]? = some v → v.n = 0
structure FlGood (f : Fl) : Prop where
  some_ : 1 ≤ f.M.length
  fewM : f.M.length ≤ 20
  fewE : f.E.length ≤ 20
  names : (namesF f).Pairwise (· ≠ ·)
  plain : ∀ x ∈ namesF f, typeK x = none
  M : ∀ m ∈ f.M, MsGood f m
  E : ∀ e ∈ f.E, EnGood e
theorem firstOf_none {α β : Type} {g : Nat → α → Option β} {l : List α} : firstOf g l = none ↔ ∀ k x, l[k]? = some x → g k x = none := by
  unfold firstOf
  rw [List.findSome?_eq_none_iff]
  constructor
  · intro h k x hx
    have := h k (List.mem_range.2 (List.getElem?_eq_some_iff.1 hx).1)
    rw [hx] at this
    exact this
  · intro h k hk
    rw [List.getElem?_eq_getElem (List.mem_range.1 hk)]
    exact h k _ (List.getElem?_eq_getElem (List.mem_range.1 hk))
theorem pair_take {α : Type} {R : α → α → Bool} {l : List α} : (∀ k x, l[k]? = some x → (l.take k).any (R · x) = false) ↔ l.Pairwise fun a b => R a b = false := by
  rw [List.pairwise_iff_getElem]
  constructor
  · intro h i j hi hj hij
    have h1 := h j _ (List.getElem?_eq_getElem hj)
    rw [List.any_eq_false] at h1
    have h2 := h1 l[i] (List.mem_iff_getElem.2 ⟨i, by rw [List.length_take]; omega, by simp⟩)
    simpa using h2
  · intro h k x hx
    rw [List.any_eq_false]
    intro y hy
    obtain ⟨i, hi, rfl⟩ := List.mem_iff_getElem.1 hy
    rw [List.length_take] at hi
    obtain ⟨hk, rfl⟩ := List.getElem?_eq_some_iff.1 hx
    have := h i k (by omega) hk (by omega)
    simpa using this
theorem fdErr_none {f : Fl} {m : Ms} {k : Nat} {x : Fd} : fdErr f m k x = none ↔ ((m.F.take k).any fun y => y.name == x.name || y.no == x.no) = false ∧ FdGood f m x := by
  unfold fdErr fdForm
  constructor
  · intro h
    split at h
    · cases h
    · rename_i h1
      split at h
      · cases h
      · rename_i h2
        split at h
        · cases h
        · rename_i h3
          simp only [Bool.or_eq_true, not_or, Bool.and_eq_true, not_and, decide_eq_true_eq, Bool.not_eq_true, Bool.not_eq_eq_eq_not, Bool.not_true, Bool.not_false] at h1 h2 h3
          obtain ⟨⟨⟨⟨⟨⟨⟨a1, a2⟩, a3⟩, a4⟩, a5⟩, a6⟩, a7⟩, a8⟩ := h1
          refine ⟨a1, by simpa using a2, by simpa using a3, by simpa using a4, by omega, by omega, fun h => by have := a7 h.1; exact absurd h.2 (by simpa using this), fun h => ?_, fun h => ?_, ?_⟩
          · have := a8 h
            constructor
            · cases hr : x.rep <;> simp_all
            · cases hr : x.key <;> simp_all
          · have := h2 h; simpa using this
          · cases hk : kindF f x.type <;> simp_all
  · rintro ⟨h0, h⟩
    have e1 : m.res.contains x.no = false := by simpa using h.res
    have e2 : m.ones.contains x.name = false := by simpa using h.ones
    have e3 : decide (x.one < 0) = false := by rw [decide_eq_false_iff_not]; have := h.lo; omega
    have e4 : decide ((m.ones.length : Int) < x.one) = false := by rw [decide_eq_false_iff_not]; have := h.hi; omega
    have e5 : (x.rep && decide (x.key ≠ [])) = false := by
      cases hr : x.rep
      · rfl
      · have : x.key = [] := Classical.byContradiction fun hk => h.two ⟨hr, hk⟩
        simp [this]
    have e6 : (decide (0 < x.one) && (x.rep || decide (x.key ≠ []))) = false := by
      by_cases hp : 0 < x.one
      · obtain ⟨h1, h2⟩ := h.alone hp
        simp [h1, h2]
      · simp [hp]
    have e7 : (decide (x.key ≠ []) && !keyOK x.key) = false := by
      by_cases hk : x.key = []
      · simp [hk]
      · simp [h.key hk]
    have e8 : (kindF f x.type).isNone = false := by
      have := h.type
      cases hk : kindF f x.type <;> simp_all
    simp only [h0, e1, e2, h.num, e3, e4, e5, e6, e7, e8, Bool.or_false, Bool.not_true, Bool.false_eq_true, if_false]
theorem vlErr_none {e : En} {k : Nat} {x : Vl} : vlErr e k x = none ↔ ((e.V.take k).any fun y => y.name == x.name || y.n == x.n) = false ∧ (-2147483648 ≤ x.n ∧ x.n ≤ 2147483647) ∧ (k = 0 → x.n = 0) := by
  unfold vlErr
  constructor
  · intro h
    split at h
    · cases h
    · rename_i h1
      simp only [Bool.or_eq_true, not_or, Bool.and_eq_true, not_and, decide_eq_true_eq, Bool.not_eq_true, beq_iff_eq, bne_iff_ne, ne_eq, Classical.not_not] at h1
      obtain ⟨⟨⟨a1, a2⟩, a3⟩, a4⟩ := h1
      exact ⟨a1, by omega, a4⟩
  · rintro ⟨h0, h1, h2⟩
    have e1 : decide (x.n < -2147483648) = false := by rw [decide_eq_false_iff_not]; omega
    have e2 : decide (2147483647 < x.n) = false := by rw [decide_eq_false_iff_not]; omega
    have e3 : (k == 0 && x.n != 0) = false := by
      by_cases hk : k = 0
      · simp [hk, h2 hk]
      · simp [hk]
    simp only [h0, e1, e2, e3, Bool.or_false, Bool.false_eq_true, if_false]
theorem two_iff {α : Type} {P Q : α → α → Bool} {R : α → α → Prop} (h : ∀ a b, (P a b || Q a b) = false ↔ R a b) {l : List α} : (l.Pairwise fun a b => (P a b || Q a b) = false) ↔ l.Pairwise R := by
  constructor <;> intro hp <;> exact hp.imp fun {a b} hab => by first | exact (h a b).1 hab | exact (h a b).2 hab
theorem errM_none {f : Fl} {m : Ms} : errM f m = none ↔ (m.F.Pairwise fun a b => a.name ≠ b.name ∧ a.no ≠ b.no) ∧ ∀ x ∈ m.F, FdGood f m x := by
  unfold errM
  rw [firstOf_none]
  have h2 : (m.F.Pairwise fun a b => (a.name == b.name || a.no == b.no) = false) ↔ m.F.Pairwise fun a b => a.name ≠ b.name ∧ a.no ≠ b.no := two_iff fun a b => by simp
  rw [← h2, ← pair_take]
  constructor
  · intro h
    exact ⟨fun k x hx => (fdErr_none.1 (h k x hx)).1, fun x hx => by obtain ⟨k, hk⟩ := List.mem_iff_getElem?.1 hx; exact (fdErr_none.1 (h k x hk)).2⟩
  · rintro ⟨h1, h3⟩ k x hx
    exact fdErr_none.2 ⟨h1 k x hx, h3 x (List.mem_of_getElem? hx)⟩
theorem errVl_none {e : En} : firstOf (vlErr e) e.V = none ↔ (e.V.Pairwise fun a b => a.name ≠ b.name ∧ a.n ≠ b.n) ∧ (∀ v ∈ e.V, -2147483648 ≤ v.n ∧ v.n ≤ 2147483647) ∧ ∀ v, e.V[0]? = some v → v.n = 0 := by
  rw [firstOf_none]
  have h2 : (e.V.Pairwise fun a b => (a.name == b.name || a.n == b.n) = false) ↔ e.V.Pairwise fun a b => a.name ≠ b.name ∧ a.n ≠ b.n := two_iff fun a b => by simp
  rw [← h2, ← pair_take]
  constructor
  · intro h
    exact ⟨fun k x hx => (vlErr_none.1 (h k x hx)).1, fun x hx => by obtain ⟨k, hk⟩ := List.mem_iff_getElem?.1 hx; exact (vlErr_none.1 (h k x hk)).2.1, fun v hv => (vlErr_none.1 (h 0 v hv)).2.2 rfl⟩
  · rintro ⟨h1, h3, h4⟩ k x hx
    exact vlErr_none.2 ⟨h1 k x hx, h3 x (List.mem_of_getElem? hx), fun hk => h4 x (by rw [← hk]; exact hx)⟩
theorem names_length (f : Fl) : (namesF f).length = f.M.length + f.E.length := by simp [namesF]
theorem names_pair {l : List (List UInt8)} : (∀ i, i < l.length → (l.take i).contains (l.getD i []) = false) ↔ l.Pairwise (· ≠ ·) := by
  have h2 : (l.Pairwise fun a b => (a == b) = false) ↔ l.Pairwise (· ≠ ·) := by
    constructor <;> intro hp <;> exact hp.imp fun {a b} hab => by simpa using hab
  rw [← h2, ← pair_take]
  constructor
  · intro h k x hx
    have hk := (List.getElem?_eq_some_iff.1 hx).1
    have h1 := h k hk
    rw [List.getD_eq_getElem?_getD, hx, Option.getD_some] at h1
    rw [List.any_eq_false]
    intro y hy
    rw [Bool.not_eq_true, beq_eq_false_iff_ne]
    rintro rfl
    rw [List.contains_eq_mem, decide_eq_false_iff_not] at h1
    exact h1 hy
  · intro h i hi
    have hx := List.getElem?_eq_getElem hi
    have h1 := h i _ hx
    rw [List.getD_eq_getElem?_getD, hx, Option.getD_some, List.contains_eq_mem, decide_eq_false_iff_not]
    intro hm
    rw [List.any_eq_false] at h1
    exact absurd (h1 _ hm) (by simp)
theorem errH_none {f : Fl} : errH f = none ↔ (namesF f).Pairwise (· ≠ ·) ∧ (∀ x ∈ namesF f, typeK x = none) ∧ (∀ m ∈ f.M, m.F.length ≤ 30 ∧ m.ones.length ≤ 30) ∧ ∀ e ∈ f.E, 1 ≤ e.V.length ∧ e.V.length ≤ 30 := by
  unfold errH
  rw [List.findSome?_eq_none_iff, ← names_pair]
  have key : ∀ i, hdErr f i = none ↔ typeK ((namesF f).getD i []) = none ∧ ((namesF f).take i).contains ((namesF f).getD i []) = false ∧ hdLong f i = false := by
    intro i
    unfold hdErr
    cases h1 : typeK ((namesF f).getD i []) <;> cases h2 : ((namesF f).take i).contains ((namesF f).getD i []) <;> cases h3 : hdLong f i <;> simp
  constructor
  · intro h
    have h' : ∀ i, i < (namesF f).length → _ := fun i hi => (key i).1 (h i (List.mem_range.2 hi))
    refine ⟨fun i hi => (h' i hi).2.1, fun x hx => ?_, fun m hm => ?_, fun e he => ?_⟩
    · obtain ⟨i, hi⟩ := List.mem_iff_getElem?.1 hx
      have := (h' i (List.getElem?_eq_some_iff.1 hi).1).1
      rw [List.getD_eq_getElem?_getD, hi] at this
      exact this
    · obtain ⟨i, hi⟩ := List.mem_iff_getElem?.1 hm
      have hlt := (List.getElem?_eq_some_iff.1 hi).1
      have := (h' i (by rw [names_length]; omega)).2.2
      unfold hdLong at this
      rw [if_pos hlt, hi] at this
      simp at this
      omega
    · obtain ⟨i, hi⟩ := List.mem_iff_getElem?.1 he
      have hlt := (List.getElem?_eq_some_iff.1 hi).1
      have := (h' (f.M.length + i) (by rw [names_length]; omega)).2.2
      unfold hdLong at this
      rw [if_neg (by omega), show f.M.length + i - f.M.length = i by omega, hi] at this
      simp only [Option.map_some, Option.getD_some, Bool.or_eq_false_iff, decide_eq_false_iff_not] at this
      omega
  · rintro ⟨h1, h2, h3, h4⟩ i hi
    have hi := List.mem_range.1 hi
    refine (key i).2 ⟨?_, h1 i hi, ?_⟩
    · rw [List.getD_eq_getElem?_getD, List.getElem?_eq_getElem hi]
      exact h2 _ (List.getElem_mem hi)
    · unfold hdLong
      split
      · rename_i hlt
        have := h3 _ (List.getElem_mem hlt)
        rw [List.getElem?_eq_getElem hlt]
        simp
        omega
      · rename_i hlt
        rw [names_length] at hi
        have hlt2 : i - f.M.length < f.E.length := by omega
        have := h4 _ (List.getElem_mem hlt2)
        rw [List.getElem?_eq_getElem hlt2]
        simp only [Option.map_some, Option.getD_some, Bool.or_eq_false_iff, decide_eq_false_iff_not]
        omega
/-- A file has nothing wrong just if it is right. -/
theorem good_iff (f : Fl) : errR f = none ↔ FlGood f := by
  unfold errR
  constructor
  · intro h
    split at h
    · cases h
    · rename_i h0
      simp only [sizeBad, Bool.or_eq_true, decide_eq_true_eq, not_or] at h0
      have h1 : errH f = none ∧ errF f = none ∧ errV f = none := by
        cases a : errH f <;> cases b : errF f <;> cases c : errV f <;> simp_all
      obtain ⟨a, b, c⟩ := h1
      obtain ⟨a1, a2, a3, a4⟩ := errH_none.1 a
      unfold errF at b
      unfold errV at c
      rw [List.findSome?_eq_none_iff] at b c
      refine ⟨by omega, by omega, by omega, a1, a2, fun m hm => ?_, fun e he => ?_⟩
      · obtain ⟨b1, b2⟩ := errM_none.1 (b m hm)
        exact ⟨(a3 m hm).1, (a3 m hm).2, b1, b2⟩
      · obtain ⟨c1, c2, c3⟩ := errVl_none.1 (c e he)
        exact ⟨(a4 e he).1, (a4 e he).2, c1, c2, c3⟩
  · intro h
    have h0 : sizeBad f = false := by
      have := h.some_
      have := h.fewM
      have := h.fewE
      simp only [sizeBad, Bool.or_eq_false_iff, decide_eq_false_iff_not]
      omega
    have a : errH f = none := errH_none.2 ⟨h.names, h.plain, fun m hm => ⟨(h.M m hm).few, (h.M m hm).onesFew⟩, fun e he => ⟨(h.E e he).some_, (h.E e he).few⟩⟩
    have b : errF f = none := by
      unfold errF
      rw [List.findSome?_eq_none_iff]
      exact fun m hm => errM_none.2 ⟨(h.M m hm).two, (h.M m hm).each⟩
    have c : errV f = none := by
      unfold errV
      rw [List.findSome?_eq_none_iff]
      exact fun e he => errVl_none.2 ⟨(h.E e he).two, (h.E e he).each, (h.E e he).zero⟩
    rw [h0, a, b, c]
    rfl
end Go.Proofs.YtggcjdajmbkpiaaGreatDoor
/-
  What is resolved of a file that is right: it may be, its fields are found, the order of fields does not matter, a message more changes nothing.
-/
namespace Go.Proofs.YtggcjdajmbkpiaaGreatDoor
set_option maxRecDepth 100000

/-! ### Schemas that may be -/

structure DfMay (s : Sc) (d : Df) : Prop where
  num : numberB d.no = true
  k0 : 0 ≤ d.kind
  k9 : d.kind ≤ 9
  o0 : 0 ≤ d.one
  o30 : d.one ≤ 30
  r0 : 0 ≤ d.ref
  ref : d.ref ≤ (if d.kind = 9 then (s.M.length : Int) - 1 else if d.kind = 6 then (s.E.length : Int) - 1 else 0)
  key : d.key = -1 ∨ (keyedB d.key = true ∧ d.rep = false)
  alone : d.one = 0 ∨ (d.rep = false ∧ d.key = -1)
structure MdMay (s : Sc) (m : Md) : Prop where
  few : m.F.length ≤ 30
  rise : m.F.Pairwise fun a b => a.no < b.no
  names : m.F.Pairwise fun a b => a.name ≠ b.name
  each : ∀ d ∈ m.F, DfMay s d
structure EdMay (e : Ed) : Prop where
  some_ : 1 ≤ e.V.length
  few : e.V.length ≤ 30
  same : e.N.length = e.V.length
  zero : e.N[0]? = some 0
  names : e.V.Pairwise (· ≠ ·)
  nums : e.N.Pairwise (· ≠ ·)
  each : ∀ n ∈ e.N, -2147483648 ≤ n ∧ n ≤ 2147483647
def namesS (s : Sc) : List (List UInt8) := s.M.map (·.name) ++ s.E.map (·.name)
structure ScMay (s : Sc) : Prop where
  some_ : 1 ≤ s.M.length
  fewM : s.M.length ≤ 20
  fewE : s.E.length ≤ 20
  names : (namesS s).Pairwise (· ≠ ·)
  plain : ∀ x ∈ namesS s, typeK x = none
  M : ∀ m ∈ s.M, MdMay s m
  E : ∀ e ∈ s.E, EdMay e

/-! ### Sorting -/

theorem insF_perm (d : Df) : ∀ l : List Df, (insF d l).Perm (d :: l)
  | [] => List.Perm.refl _
  | x :: l => by
    unfold insF
    split
    · exact List.Perm.refl _
    · exact ((insF_perm d l).cons x).trans (List.Perm.swap d x l)
theorem sort_perm : ∀ (l acc : List Df), (l.foldl (fun o d => insF d o) acc).Perm (acc ++ l)
  | [], acc => by simp
  | d :: l, acc => by
    rw [List.foldl_cons]
    refine (sort_perm l (insF d acc)).trans ?_
    refine ((insF_perm d acc).append_right l).trans ?_
    exact List.perm_middle.symm
theorem sortF_perm (l : List Df) : (sortF l).Perm l := by simpa [sortF] using sort_perm l []
theorem insF_rise {d : Df} : ∀ {l : List Df}, l.Pairwise (fun a b => a.no < b.no) → (∀ x ∈ l, x.no ≠ d.no) → (insF d l).Pairwise fun a b => a.no < b.no
  | [], _, _ => by simp [insF]
  | x :: l, h, hd => by
    obtain ⟨h1, h2⟩ := List.pairwise_cons.1 h
    have hx := hd x (by simp)
    unfold insF
    split
    · rename_i hlt
      refine List.pairwise_cons.2 ⟨fun y hy => ?_, h⟩
      rcases List.mem_cons.1 hy with rfl | hy
      · exact hlt
      · have := h1 y hy; omega
    · refine List.pairwise_cons.2 ⟨fun y hy => ?_, insF_rise h2 fun y hy => hd y (by simp [hy])⟩
      rcases List.mem_cons.1 ((insF_perm d l).mem_iff.1 hy) with rfl | hy
      · omega
      · exact h1 y hy
theorem sort_rise : ∀ (l acc : List Df), acc.Pairwise (fun a b => a.no < b.no) → (acc ++ l).Pairwise (fun a b => a.no ≠ b.no) → (l.foldl (fun o d => insF d o) acc).Pairwise fun a b => a.no < b.no
  | [], acc, h, _ => h
  | d :: l, acc, h, hp => by
    rw [List.foldl_cons]
    have hd : ∀ x ∈ acc, x.no ≠ d.no := fun x hx => (List.pairwise_append.1 hp).2.2 x hx d (by simp)
    refine sort_rise l (insF d acc) (insF_rise h hd) ?_
    have hperm : (insF d acc ++ l).Perm (acc ++ d :: l) := ((insF_perm d acc).append_right l).trans List.perm_middle.symm
    exact (hperm.pairwise_iff (fun hab => fun e => hab e.symm)).2 hp
theorem sortF_rise {l : List Df} (h : l.Pairwise fun a b => a.no ≠ b.no) : (sortF l).Pairwise fun a b => a.no < b.no := sort_rise l [] List.Pairwise.nil (by simpa using h)
/-- Two lists that rise and have the same elements are one. -/
theorem rise_unique : ∀ {l m : List Df}, l.Pairwise (fun a b => a.no < b.no) → m.Pairwise (fun a b => a.no < b.no) → l.Perm m → l = m
  | [], m, _, _, h => (List.nil_perm.1 h).symm
  | x :: l, [], _, _, h => absurd h.length_eq (by simp)
  | x :: l, y :: m, h1, h2, h => by
    obtain ⟨a1, a2⟩ := List.pairwise_cons.1 h1
    obtain ⟨b1, b2⟩ := List.pairwise_cons.1 h2
    have hx : x ∈ y :: m := h.mem_iff.1 (by simp)
    have hy : y ∈ x :: l := h.mem_iff.2 (by simp)
    have e : x = y := by
      rcases List.mem_cons.1 hx with e | hx
      · exact e
      · rcases List.mem_cons.1 hy with e | hy
        · exact e.symm
        · have := b1 x hx
          have := a1 y hy
          omega
    subst e
    rw [rise_unique a2 b2 (List.perm_cons x |>.1 h)]

/-! ### What a type is -/

theorem typeK_vals {x : List UInt8} {k : Nat} (h : typeK x = some k) : k = 0 ∨ k = 1 ∨ k = 2 ∨ k = 3 ∨ k = 4 ∨ k = 5 ∨ k = 7 ∨ k = 8 := by
  unfold typeK at h
  repeat' (split at h)
  all_goals first | (obtain rfl := Option.some.inj h; simp) | cases h
theorem kindF_vals {f : Fl} {x : List UInt8} {k r : Int} (h : kindF f x = some (k, r)) : 0 ≤ k ∧ k ≤ 9 ∧ 0 ≤ r ∧ r ≤ (if k = 9 then (f.M.length : Int) - 1 else if k = 6 then (f.E.length : Int) - 1 else 0) := by
  unfold kindF at h
  split at h
  · rename_i q hq
    have hv := typeK_vals hq
    obtain ⟨rfl, rfl⟩ : (q : Int) = k ∧ (0 : Int) = r := by simpa using h
    have h9 : ¬ (q : Int) = 9 := by omega
    have h6 : ¬ (q : Int) = 6 := by omega
    rw [if_neg h9, if_neg h6]
    omega
  · split at h
    · rename_i hlt
      obtain ⟨rfl, rfl⟩ : (9 : Int) = k ∧ ((namesF f).idxOf x : Int) = r := by simpa using h
      simp only [if_true]
      omega
    · rename_i hlt
      split at h
      · rename_i hlt2
        obtain ⟨rfl, rfl⟩ : (6 : Int) = k ∧ (((namesF f).idxOf x - f.M.length : Nat) : Int) = r := by simpa using h
        rw [names_length] at hlt2
        have h9 : ¬ (6 : Int) = 9 := by omega
        rw [if_neg h9]
        simp only [if_true]
        omega
      · cases h
theorem keyOK_key {x : List UInt8} (h : keyOK x = true) : ∃ k, typeK x = some k ∧ keyedB k = true := by
  unfold keyOK at h
  cases hk : typeK x with
  | none => rw [hk] at h; cases h
  | some k => rw [hk] at h; exact ⟨k, rfl, h⟩
theorem defF_may {f : Fl} {m : Ms} {x : Fd} (hm : MsGood f m) (h : FdGood f m x) : DfMay (schF f) (defF f x) := by
  obtain ⟨⟨k, r⟩, hk⟩ := Option.isSome_iff_exists.1 h.type
  obtain ⟨v1, v2, v3, v4⟩ := kindF_vals hk
  have e1 : (defF f x).kind = k := by simp [defF, hk]
  have e2 : (defF f x).ref = r := by simp [defF, hk]
  refine ⟨h.num, by rw [e1]; exact v1, by rw [e1]; exact v2, h.lo, ?_, by rw [e2]; exact v3, ?_, ?_, ?_⟩
  · have := h.hi
    have := hm.onesFew
    show x.one ≤ 30
    omega
  · rw [e1, e2]
    simpa [schF] using v4
  · by_cases hx : x.key = []
    · exact .inl (by simp [defF, hx])
    · right
      obtain ⟨q, q1, q2⟩ := keyOK_key (h.key hx)
      refine ⟨by simp [defF, hx, q1, q2], ?_⟩
      cases hr : x.rep
      · exact hr
      · exact absurd ⟨hr, hx⟩ h.two
  · by_cases h0 : x.one = 0
    · exact .inl h0
    · right
      obtain ⟨a1, a2⟩ := h.alone (by have := h.lo; omega)
      exact ⟨a1, by simp [defF, a2]⟩
theorem defs_ne {f : Fl} {m : Ms} (h : MsGood f m) : (m.F.map (defF f)).Pairwise (fun a b => a.no ≠ b.no) ∧ (m.F.map (defF f)).Pairwise fun a b => a.name ≠ b.name := by
  rw [List.pairwise_map, List.pairwise_map]
  exact ⟨h.two.imp fun {a b} hab => hab.2, h.two.imp fun {a b} hab => hab.1⟩
theorem msgD_may {f : Fl} {m : Ms} (h : MsGood f m) : MdMay (schF f) (msgD f m) := by
  obtain ⟨h1, h2⟩ := defs_ne h
  have hp := sortF_perm (m.F.map (defF f))
  refine ⟨?_, sortF_rise h1, (hp.pairwise_iff (fun hab => fun e => hab e.symm)).2 h2, fun d hd => ?_⟩
  · show (sortF (m.F.map (defF f))).length ≤ 30
    rw [hp.length_eq, List.length_map]; exact h.few
  · obtain ⟨x, hx, rfl⟩ := List.mem_map.1 (hp.mem_iff.1 hd)
    exact defF_may h (h.each x hx)
theorem enD_may {e : En} (h : EnGood e) : EdMay (enD e) := by
  refine ⟨by simpa [enD] using h.some_, by simpa [enD] using h.few, by simp [enD], ?_, ?_, ?_, fun n hn => ?_⟩
  · have hlt : 0 < e.V.length := h.some_
    have h0 := h.zero _ (List.getElem?_eq_getElem hlt)
    simp only [enD, List.getElem?_map, List.getElem?_eq_getElem hlt, Option.map_some, h0]
  · simp only [enD, List.pairwise_map]; exact h.two.imp fun {a b} hab => hab.1
  · simp only [enD, List.pairwise_map]; exact h.two.imp fun {a b} hab => hab.2
  · simp only [enD, List.mem_map] at hn
    obtain ⟨v, hv, rfl⟩ := hn
    exact h.each v hv
theorem namesS_sch (f : Fl) : namesS (schF f) = namesF f := by simp [namesS, schF, namesF, msgD, enD, Function.comp_def]
theorem sch_may {f : Fl} (h : FlGood f) : ScMay (schF f) := by
  refine ⟨by simpa [schF] using h.some_, by simpa [schF] using h.fewM, by simpa [schF] using h.fewE, by rw [namesS_sch]; exact h.names, by rw [namesS_sch]; exact h.plain, fun m hm => ?_, fun e he => ?_⟩
  · obtain ⟨x, hx, rfl⟩ := List.mem_map.1 hm
    exact msgD_may (h.M x hx)
  · obtain ⟨x, hx, rfl⟩ := List.mem_map.1 he
    exact enD_may (h.E x hx)

/-! ### What is found -/

def msgAt (s : Sc) (m : Int) : Option Md := if m < 0 then none else s.M[m.toNat]?
def findS (s : Sc) (m : Int) (x : List UInt8) : Option Df := (msgAt s m).bind fun d => d.F.find? (·.name == x)
def byS (s : Sc) (m no : Int) : Option Df := (msgAt s m).bind fun d => d.F.find? (·.no == no)
def rootS (s : Sc) (x : List UInt8) : Option Nat := if (s.M.map (·.name)).idxOf x < s.M.length then some ((s.M.map (·.name)).idxOf x) else none
theorem find_pair {α β : Type} [BEq β] [LawfulBEq β] {g : α → β} : ∀ {l : List α}, (l.Pairwise fun a b => g a ≠ g b) → ∀ {x : α}, x ∈ l → l.find? (fun y => g y == g x) = some x
  | [], _, x, hx => by simp at hx
  | y :: l, h, x, hx => by
    obtain ⟨h1, h2⟩ := List.pairwise_cons.1 h
    rw [List.find?_cons]
    rcases List.mem_cons.1 hx with rfl | hx
    · simp
    · have := h1 x hx
      have e : (g y == g x) = false := by simpa using this
      rw [e]
      exact find_pair h2 hx
theorem MdMay.nos {s : Sc} {m : Md} (h : MdMay s m) : m.F.Pairwise fun a b => a.no ≠ b.no := h.rise.imp fun {a b} hab => by omega
theorem found_may {s : Sc} (h : ScMay s) {i : Nat} {m : Md} (hm : s.M[i]? = some m) {d : Df} (hd : d ∈ m.F) : findS s i d.name = some d ∧ byS s i d.no = some d := by
  have hmm := h.M m (List.mem_of_getElem? hm)
  have e : msgAt s (i : Int) = some m := by
    unfold msgAt
    rw [if_neg (by omega), Int.toNat_natCast, hm]
  unfold findS byS
  rw [e]
  exact ⟨find_pair (g := fun y : Df => y.name) hmm.names hd, find_pair (g := fun y : Df => y.no) hmm.nos hd⟩
theorem idx_pair {l : List (List UInt8)} (h : l.Pairwise (· ≠ ·)) {i : Nat} {x : List UInt8} (hx : l[i]? = some x) : l.idxOf x = i := by
  induction l generalizing i with
  | nil => simp at hx
  | cons y l ih =>
    obtain ⟨h1, h2⟩ := List.pairwise_cons.1 h
    cases i with
    | zero =>
      obtain rfl : y = x := by simpa using hx
      simp
    | succ i =>
      have hx' : l[i]? = some x := by simpa using hx
      have hne := h1 x (List.mem_of_getElem? hx')
      rw [List.idxOf_cons]
      have e : (y == x) = false := by simpa using hne
      rw [e]
      simp [ih h2 hx']
theorem root_may {s : Sc} (h : ScMay s) {i : Nat} {m : Md} (hm : s.M[i]? = some m) : rootS s m.name = some i := by
  have hp : (s.M.map (·.name)).Pairwise (· ≠ ·) := (List.pairwise_append.1 h.names).1
  have hx : (s.M.map (·.name))[i]? = some m.name := by simp [hm]
  have e := idx_pair hp hx
  have hlt := (List.getElem?_eq_some_iff.1 hm).1
  unfold rootS
  rw [e, if_pos hlt]
/-- A field of a file, as it is found in its schema. -/
theorem found_def {f : Fl} (h : FlGood f) {i : Nat} {m : Ms} (hm : f.M[i]? = some m) {x : Fd} (hx : x ∈ m.F) :
    findS (schF f) i x.name = some (defF f x) ∧ byS (schF f) i x.no = some (defF f x) ∧ ((defF f x).key = -1 ↔ x.key = []) := by
  have hmm : (schF f).M[i]? = some (msgD f m) := by simp [schF, hm]
  have hd : defF f x ∈ (msgD f m).F := (sortF_perm _).mem_iff.2 (List.mem_map_of_mem hx)
  obtain ⟨h1, h2⟩ := found_may (sch_may h) hmm hd
  refine ⟨h1, h2, ?_⟩
  have hg := (h.M m (List.mem_of_getElem? hm)).each x hx
  constructor
  · intro e
    by_cases hk : x.key = []
    · exact hk
    · obtain ⟨q, q1, _⟩ := keyOK_key (hg.key hk)
      have : (defF f x).key = (q : Int) := by simp [defF, hk, q1]
      omega
  · intro e
    simp [defF, e]

/-! ### The order of fields -/

def setF (f : Fl) (i : Nat) (l : List Fd) : Fl := { f with M := f.M.modify i fun m => { m with F := l } }
theorem setF_names (f : Fl) (i : Nat) (l : List Fd) : namesF (setF f i l) = namesF f := by
  unfold namesF setF
  congr 1
  apply List.ext_getElem?
  intro j
  simp only [List.getElem?_map, List.getElem?_modify]
  cases f.M[j]? with
  | none => simp
  | some m => by_cases h : i = j <;> simp [h]
theorem setF_len (f : Fl) (i : Nat) (l : List Fd) : (setF f i l).M.length = f.M.length := by simp [setF]
theorem kindF_same {f g : Fl} (h1 : namesF g = namesF f) (h2 : g.M.length = f.M.length) (x : List UInt8) : kindF g x = kindF f x := by
  unfold kindF
  rw [h1, h2]
theorem FdGood.same {f g : Fl} (h1 : namesF g = namesF f) (h2 : g.M.length = f.M.length) {m m' : Ms} (ho : m'.ones = m.ones) (hr : m'.res = m.res) {x : Fd} (h : FdGood f m x) : FdGood g m' x :=
  ⟨by rw [hr]; exact h.res, by rw [ho]; exact h.ones, h.num, h.lo, by rw [ho]; exact h.hi, h.two, h.alone, h.key, by rw [kindF_same h1 h2]; exact h.type⟩
theorem good_setF {f : Fl} {i : Nat} {m : Ms} {l : List Fd} (hm : f.M[i]? = some m) (hl : l.Perm m.F) (h : FlGood f) : FlGood (setF f i l) := by
  have h1 := setF_names f i l
  have h2 := setF_len f i l
  refine ⟨by rw [h2]; exact h.some_, by rw [h2]; exact h.fewM, h.fewE, by rw [h1]; exact h.names, by rw [h1]; exact h.plain, fun q hq => ?_, h.E⟩
  obtain ⟨j, hj⟩ := List.mem_iff_getElem?.1 hq
  simp only [setF, List.getElem?_modify] at hj
  cases hfj : f.M[j]? with
  | none => rw [hfj] at hj; simp at hj
  | some y =>
    rw [hfj] at hj
    have hy := h.M y (List.mem_of_getElem? hfj)
    by_cases hij : i = j
    · subst hij
      rw [hm] at hfj
      obtain rfl := Option.some.inj hfj
      simp at hj
      subst hj
      exact ⟨by rw [hl.length_eq]; exact hy.few, hy.onesFew, (hl.pairwise_iff (fun hab => ⟨fun e => hab.1 e.symm, fun e => hab.2 e.symm⟩)).2 hy.two, fun x hx => FdGood.same (m := m) (m' := { m with F := l }) h1 h2 rfl rfl (hy.each x (hl.mem_iff.1 hx))⟩
    · simp [hij] at hj
      subst hj
      exact ⟨hy.few, hy.onesFew, hy.two, fun x hx => (hy.each x hx).same h1 h2 rfl rfl⟩
theorem setF_back {f : Fl} {i : Nat} {m : Ms} {l : List Fd} (hm : f.M[i]? = some m) : setF (setF f i l) i m.F = f := by
  obtain ⟨M, E⟩ := f
  simp only [setF, Fl.mk.injEq, and_true]
  apply List.ext_getElem?
  intro j
  simp only [List.getElem?_modify]
  cases hj : M[j]? with
  | none => simp
  | some y =>
    by_cases hij : i = j
    · subst hij
      simp only at hm
      rw [hm] at hj
      obtain rfl := Option.some.inj hj
      simp
    · simp [hij]
theorem setF_at {f : Fl} {i : Nat} {m : Ms} (hm : f.M[i]? = some m) (l : List Fd) : (setF f i l).M[i]? = some { m with F := l } := by simp [setF, hm]
theorem good_order {f : Fl} {i : Nat} {m : Ms} {l : List Fd} (hm : f.M[i]? = some m) (hl : l.Perm m.F) : FlGood (setF f i l) ↔ FlGood f := by
  constructor
  · intro h
    have := good_setF (setF_at hm l) hl.symm h
    rwa [show setF (setF f i l) i m.F = f from setF_back hm] at this
  · exact good_setF hm hl
theorem sch_order {f : Fl} {i : Nat} {m : Ms} {l : List Fd} (hm : f.M[i]? = some m) (hl : l.Perm m.F) (h : FlGood f) : schF (setF f i l) = schF f := by
  have h1 := setF_names f i l
  have h2 := setF_len f i l
  have hdef : defF (setF f i l) = defF f := by
    funext x
    unfold defF
    rw [kindF_same h1 h2]
  have hg := h.M m (List.mem_of_getElem? hm)
  have hs : sortF (l.map (defF f)) = sortF (m.F.map (defF f)) := by
    have hp : (l.map (defF f)).Perm (m.F.map (defF f)) := hl.map _
    have hn := (defs_ne hg).1
    exact rise_unique (sortF_rise ((hp.pairwise_iff (fun hab => fun e => hab e.symm)).2 hn)) (sortF_rise hn) ((sortF_perm _).trans (hp.trans (sortF_perm _).symm))
  unfold schF
  have e : (setF f i l).M.map (msgD (setF f i l)) = f.M.map (msgD f) := by
    apply List.ext_getElem?
    intro j
    simp only [List.getElem?_map, setF, List.getElem?_modify]
    cases hj : f.M[j]? with
    | none => simp
    | some y =>
      by_cases hij : i = j
      · subst hij
        rw [hm] at hj
        obtain rfl := Option.some.inj hj
        have := hdef
        unfold setF at this
        simp [msgD, this, hs]
      · have := hdef
        unfold setF at this
        simp [hij, msgD, this]
  rw [e]
  rfl
/-- Both are right, or none; and told the same. -/
theorem tab_order {f : Fl} {i : Nat} {m : Ms} {l : List Fd} (hm : f.M[i]? = some m) (hl : l.Perm m.F) : ((errR (setF f i l)).isSome = (errR f).isSome) ∧ tabS (setF f i l) = tabS f := by
  have hiff := good_order hm hl
  rw [← good_iff, ← good_iff] at hiff
  unfold tabS
  cases h : errR f with
  | none =>
    have h2 := hiff.2 h
    rw [h2]
    exact ⟨rfl, by simp [sch_order hm hl ((good_iff f).1 h)]⟩
  | some y =>
    cases h2 : errR (setF f i l) with
    | none => rw [hiff.1 h2] at h; cases h
    | some z => exact ⟨rfl, rfl⟩
/-- Two fields changed about. -/
theorem swap_perm {α : Type} : ∀ (l : List α) (a b : Nat) (x y : α), l[a]? = some x → l[b]? = some y → ((l.set a y).set b x).Perm l := by
  have key : ∀ (l : List α) (a b : Nat) (x y : α), a ≤ b → l[a]? = some x → l[b]? = some y → ((l.set a y).set b x).Perm l := by
    intro l
    induction l with
    | nil => intro a b x y _ h; simp at h
    | cons z l ih =>
      intro a b x y hab hx hy
      cases a with
      | succ a =>
        cases b with
        | zero => omega
        | succ b =>
          simp only [List.set_cons_succ]
          exact (ih a b x y (by omega) (by simpa using hx) (by simpa using hy)).cons z
      | zero =>
        obtain rfl : z = x := by simpa using hx
        cases b with
        | zero => simp
        | succ b =>
          simp only [List.set_cons_zero, List.set_cons_succ]
          have hy' : l[b]? = some y := by simpa using hy
          obtain ⟨hb, rfl⟩ := List.getElem?_eq_some_iff.1 hy'
          have e1 : l.set b z = l.take b ++ z :: l.drop (b + 1) := List.set_eq_take_append_cons_drop.trans (by rw [if_pos hb])
          have e2 : l = l.take b ++ l[b] :: l.drop (b + 1) := by rw [← List.drop_eq_getElem_cons hb, List.take_append_drop]
          rw [e1]
          conv => rhs; rw [e2]
          refine (List.perm_middle.cons l[b]).trans ?_
          refine (List.Perm.swap z l[b] _).trans ?_
          exact (List.perm_middle.symm).cons z
  intro l a b x y hx hy
  rcases Nat.le_total a b with h | h
  · exact key l a b x y h hx hy
  · rcases Nat.eq_or_lt_of_le h with rfl | h
    · exact key l b b x y (Nat.le_refl _) hx hy
    · rw [List.set_comm _ _ (by omega)]
      exact key l b a y x (by omega) hy hx
end Go.Proofs.YtggcjdajmbkpiaaGreatDoor
/-
  The words of the table's own code, by plain functions: sets of names that may still be taken, the first place that is wrong, what a field may be; each held against the document's words.
-/
namespace Go.Proofs.YtggcjdajmbkpiaaGreatDoor
set_option maxRecDepth 100000

/-! ### The first that is told -/

theorem range_split {n k : Nat} (h : k < n) : List.range n = List.range k ++ k :: List.range' (k + 1) (n - k - 1) := by
  apply List.ext_getElem
  · simp; omega
  · intro i h1 h2
    simp only [List.length_range] at h1
    rw [List.getElem_range, List.getElem_append]
    split
    · simp
    · rename_i hlt
      simp only [List.length_range] at hlt
      rw [List.getElem_cons]
      split
      · rename_i h0; simp only [List.length_range] at h0; omega
      · rename_i h0; simp only [List.length_range] at h0; rw [List.getElem_range']; simp only [List.length_range]; omega
theorem firstOf_at {α β : Type} {g : Nat → α → Option β} {l : List α} {k : Nat} {x : α} {r : β} (h : ∀ j y, j < k → l[j]? = some y → g j y = none) (hk : l[k]? = some x) (hg : g k x = some r) : firstOf g l = some r := by
  have hlt := (List.getElem?_eq_some_iff.1 hk).1
  unfold firstOf
  rw [List.findSome?_eq_some_iff]
  refine ⟨_, k, _, range_split hlt, by rw [hk]; exact hg, fun j hj => ?_⟩
  have hj := List.mem_range.1 hj
  rw [List.getElem?_eq_getElem (by omega)]
  exact h j _ hj (List.getElem?_eq_getElem (by omega))
theorem findSome_at {α β : Type} {g : α → Option β} {l : List α} {k : Nat} {x : α} {r : β} (h : ∀ j y, j < k → l[j]? = some y → g y = none) (hk : l[k]? = some x) (hg : g x = some r) : l.findSome? g = some r := by
  have hlt := (List.getElem?_eq_some_iff.1 hk).1
  rw [List.findSome?_eq_some_iff]
  refine ⟨l.take k, x, l.drop (k + 1), ?_, hg, fun y hy => ?_⟩
  · have e : l.drop k = x :: l.drop (k + 1) := by
      rw [List.drop_eq_getElem_cons hlt]
      obtain ⟨_, e⟩ := List.getElem?_eq_some_iff.1 hk
      rw [e]
    rw [← e, List.take_append_drop]
  · obtain ⟨j, hj, rfl⟩ := List.mem_iff_getElem.1 hy
    rw [List.length_take] at hj
    rw [List.getElem_take]
    exact h j _ (by omega) (List.getElem?_eq_getElem (by omega))
theorem findSome_range {β : Type} {g : Nat → Option β} {n k : Nat} {r : β} (h : ∀ j, j < k → g j = none) (hk : k < n) (hg : g k = some r) : (List.range n).findSome? g = some r := by
  rw [List.findSome?_eq_some_iff]
  exact ⟨_, k, _, range_split hk, hg, fun j hj => h j (List.mem_range.1 hj)⟩

/-! ### The plain types, in a row -/

def plainsL : List (List UInt8 × Nat) := [(tInt64, 0), (tSint64, 1), (tUint32, 2), (tBool, 3), (tFixed32, 4), (tSfixed64, 5), (tString, 7), (tBytes, 8)]
theorem typeK_find (x : List UInt8) : (plainsL.find? fun q => q.1 == x).map (·.2) = typeK x := by
  unfold typeK plainsL
  simp only [List.find?_cons, List.find?_nil]
  by_cases h0 : x = tInt64
  · subst h0; rfl
  by_cases h1 : x = tSint64
  · subst h1; rfl
  by_cases h2 : x = tUint32
  · subst h2; rfl
  by_cases h3 : x = tBool
  · subst h3; rfl
  by_cases h4 : x = tFixed32
  · subst h4; rfl
  by_cases h5 : x = tSfixed64
  · subst h5; rfl
  by_cases h6 : x = tString
  · subst h6; rfl
  by_cases h7 : x = tBytes
  · subst h7; rfl
  have e : ∀ y : List UInt8, x ≠ y → (y == x) = false := fun y hy => beq_eq_false_iff_ne.2 (Ne.symm hy)
  simp only [h0, h1, h2, h3, h4, h5, h6, h7, if_false, e _ h0, e _ h1, e _ h2, e _ h3, e _ h4, e _ h5, e _ h6, e _ h7, Option.map_none]
theorem typeK_none (x : List UInt8) : (typeK x).isNone = !(plainsL.map (·.1)).contains x := by
  rw [← typeK_find]
  rw [Option.isNone_map]
  cases h : plainsL.find? fun q => q.1 == x with
  | none =>
    rw [List.find?_eq_none] at h
    simp only [Option.isNone_none]
    symm
    rw [Bool.not_eq_true', List.contains_eq_mem, decide_eq_false_iff_not]
    intro hm
    obtain ⟨q, hq, rfl⟩ := List.mem_map.1 hm
    exact absurd (h q hq) (by simp)
  | some q =>
    have h1 := List.find?_some h
    have h2 := List.mem_of_find?_eq_some h
    simp only [Option.isNone_some]
    symm
    rw [Bool.not_eq_false', List.contains_eq_mem, decide_eq_true_eq]
    exact List.mem_map.2 ⟨q, h2, by simpa using h1⟩

/-! ### What may still be taken -/

/-- Of a list what is neither barred nor among its first k. -/
def still {α : Type} [BEq α] (l bar : List α) (k : Nat) (x : α) : Bool := l.contains x && !bar.contains x && !(l.take k).contains x
theorem still_start {α : Type} [BEq α] [LawfulBEq α] (l bar : List α) : still l bar 0 = fun x => l.contains x && !bar.contains x := by funext x; simp [still]
theorem still_next {α : Type} [BEq α] [LawfulBEq α] [DecidableEq α] {l bar : List α} {k : Nat} {y : α} (h : l[k]? = some y) : (fun x => still l bar k x && decide (x ≠ y)) = still l bar (k + 1) := by
  funext x
  unfold still
  rw [List.take_add_one, h]
  by_cases hx : x = y
  · subst hx; simp
  · simp [hx]
theorem still_self {α : Type} [BEq α] [LawfulBEq α] {l bar : List α} {k : Nat} {y : α} (h : l[k]? = some y) : still l bar k y = (!bar.contains y && !(l.take k).contains y) := by
  have : l.contains y = true := by rw [List.contains_eq_mem, decide_eq_true_eq]; exact List.mem_of_getElem? h
  simp only [still, this, Bool.true_and]

/-! ### A message -/

/-- May a field be in a oneof, of so many, and be repeated, or a map? -/
def standB (ones one : Int) (rep pairs : Bool) : Bool := decide (0 ≤ one) && decide (one ≤ ones) && !(rep && pairs) && !(decide (one ≠ 0) && (rep || pairs))
def nmF (m : Ms) : List (List UInt8) := m.F.map (·.name)
def noF (m : Ms) : List Int := m.F.map (·.no)
theorem take_map_contains {α β : Type} [BEq β] [LawfulBEq β] (g : α → β) (l : List α) (k : Nat) (y : β) : ((l.map g).take k).contains y = (l.take k).any fun x => g x == y := by
  rw [← List.map_take, List.contains_eq_any_beq, List.any_map]
  congr 1
  funext x
  simp only [Function.comp]
  exact BEq.comm
theorem any_or {α : Type} (f g : α → Bool) (l : List α) : (l.any fun x => f x || g x) = (l.any f || l.any g) := by
  induction l with
  | nil => rfl
  | cons x l ih => simp only [List.any_cons, ih]; cases f x <;> cases g x <;> simp
theorem fdForm_code {m : Ms} {k : Nat} {x : Fd} (h : m.F[k]? = some x) :
    fdForm m k x = !((still (nmF m) m.ones k x.name && still (noF m) m.res k x.no) && numberB x.no && standB m.ones.length x.one x.rep (decide (x.key ≠ []))) := by
  rw [still_self (by simp [nmF, h]), still_self (by simp [noF, h])]
  unfold fdForm
  rw [any_or (fun y : Fd => y.name == x.name) (fun y : Fd => y.no == x.no), nmF, noF, take_map_contains, take_map_contains]
  cases (m.F.take k).any fun y => y.name == x.name
  all_goals cases (m.F.take k).any fun y => y.no == x.no
  all_goals cases m.res.contains x.no
  all_goals cases m.ones.contains x.name
  all_goals cases numberB x.no
  all_goals (try simp only [Bool.or_true, Bool.true_or, Bool.not_true, Bool.not_false, Bool.and_false, Bool.false_and, Bool.and_true, Bool.true_and, Bool.false_or, Bool.or_false])
  unfold standB
  by_cases h1 : x.one < 0
  · have e : decide (0 ≤ x.one) = false := by rw [decide_eq_false_iff_not]; omega
    simp [h1, e]
  · have e1 : decide (0 ≤ x.one) = true := by rw [decide_eq_true_eq]; omega
    have e2 : decide (x.one < 0) = false := by rw [decide_eq_false_iff_not]; omega
    by_cases h2 : x.one ≤ (m.ones.length : Int)
    · have e3 : decide ((m.ones.length : Int) < x.one) = false := by rw [decide_eq_false_iff_not]; omega
      have e4 : decide (0 < x.one) = decide (x.one ≠ 0) := by congr 1; apply propext; omega
      rw [e1, e2, e3, e4, decide_eq_true h2]
      cases x.rep <;> cases decide (x.key ≠ []) <;> cases decide (x.one ≠ 0) <;> rfl
    · have e3 : decide ((m.ones.length : Int) < x.one) = true := by rw [decide_eq_true_eq]; omega
      rw [e1, e2, e3, decide_eq_false h2]
      simp
/-- The kind of keys, by their type. -/
def keyK (x : List UInt8) : Int := if x = [] then -1 else ((typeK x).map Int.ofNat).getD 0

/-! ### Names of messages and enums -/

def stillT (l : List (List UInt8)) (k : Nat) (x : List UInt8) : Bool := still l (plainsL.map (·.1)) k x
theorem stillT_self {l : List (List UInt8)} {k : Nat} {y : List UInt8} (h : l[k]? = some y) : stillT l k y = !((typeK y).isSome || (l.take k).contains y) := by
  unfold stillT
  rw [still_self h, ← typeK_none]
  cases typeK y <;> simp

/-! ### What names mean -/

/-- What a name means once the first k names are told. -/
def meanK (f : Fl) (k : Nat) (x : List UInt8) : Option (Int × Int) :=
  match typeK x with
  | some q => some (q, 0)
  | none => if (namesF f).idxOf x < k ∧ (namesF f).idxOf x < (namesF f).length then (if (namesF f).idxOf x < f.M.length then some (9, (namesF f).idxOf x) else some (6, ((namesF f).idxOf x - f.M.length : Nat))) else none
theorem meanK_all (f : Fl) : meanK f (namesF f).length = kindF f := by
  funext x
  unfold meanK kindF
  rw [names_length]
  cases typeK x with
  | some q => rfl
  | none =>
    simp only
    by_cases h1 : (namesF f).idxOf x < f.M.length
    · rw [if_pos h1, if_pos h1, if_pos (by omega)]
    · rw [if_neg h1, if_neg h1]
      by_cases h2 : (namesF f).idxOf x < f.M.length + f.E.length
      · rw [if_pos ⟨h2, h2⟩, if_pos h2]
      · rw [if_neg (fun h => h2 h.1), if_neg h2]
theorem meanK_start (f : Fl) (x : List UInt8) : meanK f 0 x = (typeK x).map fun q => ((q : Int), 0) := by
  unfold meanK
  cases typeK x <;> simp
theorem meanK_next {f : Fl} (hp : (namesF f).Pairwise (· ≠ ·)) {k : Nat} {y : List UInt8} (h : (namesF f)[k]? = some y) (ht : typeK y = none) (x : List UInt8) :
    meanK f (k + 1) x = if x = y then (if k < f.M.length then some (9, (k : Int)) else some (6, ((k - f.M.length : Nat) : Int))) else meanK f k x := by
  have hk := (List.getElem?_eq_some_iff.1 h).1
  by_cases hx : x = y
  · subst hx
    rw [if_pos rfl]
    unfold meanK
    rw [ht, idx_pair hp h]
    simp only
    rw [if_pos ⟨by omega, hk⟩]
  · rw [if_neg hx]
    unfold meanK
    cases typeK x with
    | some q => rfl
    | none =>
      simp only
      by_cases hl : (namesF f).idxOf x < (namesF f).length
      · have hne : (namesF f).idxOf x ≠ k := by
          intro e
          have h1 : (namesF f)[(namesF f).idxOf x]? = some x := by rw [List.getElem?_eq_getElem hl, List.getElem_idxOf hl]
          rw [e, h] at h1
          exact hx (Option.some.inj h1).symm
        by_cases h2 : (namesF f).idxOf x < k
        · rw [if_pos (show _ ∧ _ from ⟨by omega, hl⟩), if_pos (show _ ∧ _ from ⟨h2, hl⟩)]
        · rw [if_neg (by omega), if_neg (by omega)]
      · rw [if_neg (fun h => hl h.2), if_neg (fun h => hl h.2)]

/-! ### Enums -/

/-- Is the name, or the number, at place k of an enum wrong? -/
def wrongB (V : List (List UInt8)) (N : List Int) (k : Nat) (x : List UInt8) (n : Int) : Bool :=
  (V.take k).contains x || (N.take k).contains n || !(decide (-2147483648 ≤ n) && decide (n ≤ 2147483647)) || (k == 0 && n != 0)
theorem wrong_vl {e : En} {k : Nat} {x : Vl} : vlErr e k x = if wrongB (e.V.map (·.name)) (e.V.map (·.n)) k x.name x.n then some (x.at_, 4) else none := by
  unfold vlErr wrongB
  rw [any_or (fun y : Vl => y.name == x.name) (fun y : Vl => y.n == x.n), take_map_contains, take_map_contains]
  have e1 : (!(decide (-2147483648 ≤ x.n) && decide (x.n ≤ 2147483647))) = (decide (x.n < -2147483648) || decide (2147483647 < x.n)) := by
    by_cases h1 : x.n < -2147483648 <;> by_cases h2 : 2147483647 < x.n
    · exfalso; omega
    all_goals
      first
        | have a1 : decide (-2147483648 ≤ x.n) = true := by rw [decide_eq_true_eq]; omega
        | have a1 : decide (-2147483648 ≤ x.n) = false := by rw [decide_eq_false_iff_not]; omega
      first
        | have a2 : decide (x.n ≤ 2147483647) = true := by rw [decide_eq_true_eq]; omega
        | have a2 : decide (x.n ≤ 2147483647) = false := by rw [decide_eq_false_iff_not]; omega
      rw [a1, a2]
      simp [h1, h2]
  rw [e1]
  simp only [Bool.or_assoc]

/-! ### Schemas that may be -/

def referB (s : Sc) (kind ref : Int) : Bool := decide (0 ≤ kind) && decide (kind < 10) && decide (0 ≤ ref) && decide (ref < if kind = 9 then (s.M.length : Int) else if kind = 6 then (s.E.length : Int) else 1)
def fdMayB (s : Sc) (d : Df) : Bool := !(decide (d.key ≠ -1) && !keyedB d.key) && referB s d.kind d.ref && standB 30 d.one d.rep (decide (d.key ≠ -1))
theorem dfMay_iff (s : Sc) (d : Df) : DfMay s d ↔ numberB d.no = true ∧ fdMayB s d = true := by
  unfold fdMayB referB standB
  constructor
  · intro h
    refine ⟨h.num, ?_⟩
    have h9 := h.k9
    have hr := h.ref
    have e0 : decide (d.ref < if d.kind = 9 then (s.M.length : Int) else if d.kind = 6 then (s.E.length : Int) else 1) = true := by
      rw [decide_eq_true_eq]
      split at hr
      · rename_i h1; rw [if_pos h1]; omega
      · rename_i h1
        rw [if_neg h1]
        split at hr
        · rename_i h2; rw [if_pos h2]; omega
        · rename_i h2; rw [if_neg h2]; omega
    rw [decide_eq_true h.k0, decide_eq_true (show d.kind < 10 by omega), decide_eq_true h.r0, e0, decide_eq_true h.o0, decide_eq_true h.o30]
    rcases h.key with hk | ⟨hk, hrep⟩
    · rcases h.alone with ho | ⟨ho, -⟩
      · simp [hk, ho]
      · simp [hk, ho]
    · rcases h.alone with ho | ⟨ho, hk2⟩
      · simp [hk, ho, hrep]
      · simp [hk2, hrep]
  · rintro ⟨hn, h⟩
    simp only [Bool.and_eq_true, decide_eq_true_eq, Bool.not_eq_true', Bool.and_eq_false_iff, Bool.or_eq_false_iff, decide_eq_false_iff_not, Bool.not_eq_false', Classical.not_not] at h
    obtain ⟨⟨a1, ⟨⟨a2, a3⟩, a4⟩, a5⟩, ⟨⟨a6, a7⟩, a8⟩, a9⟩ := h
    refine ⟨hn, a2, by omega, a6, a7, a4, ?_, ?_, ?_⟩
    · split
      · rename_i h1; rw [if_pos h1] at a5; omega
      · rename_i h1
        rw [if_neg h1] at a5
        split
        · rename_i h2; rw [if_pos h2] at a5; omega
        · rename_i h2; rw [if_neg h2] at a5; omega
    · by_cases hk : d.key = -1
      · exact .inl hk
      · refine .inr ⟨?_, ?_⟩
        · rcases a1 with a1 | a1
          · exact absurd a1 hk
          · exact a1
        · rcases a8 with a8 | a8
          · exact a8
          · exact absurd a8 hk
    · rcases a9 with a9 | a9
      · exact .inl a9
      · exact .inr a9
/-- The number of the field ahead. -/
def lastNo (l : List Df) (k : Nat) : Int := if k = 0 then 0 else (l[k - 1]?.map (·.no)).getD 0
def mdNames (m : Md) : List (List UInt8) := m.F.map (·.name)
def mdAtB (s : Sc) (m : Md) (k : Nat) (d : Df) : Bool := !decide (d.no ≤ lastNo m.F k) && numberB d.no && still (mdNames m) [] k d.name && fdMayB s d
theorem mdMay_iff (s : Sc) (m : Md) : MdMay s m ↔ m.F.length ≤ 30 ∧ ∀ k d, m.F[k]? = some d → mdAtB s m k d = true := by
  constructor
  · intro h
    refine ⟨h.few, fun k d hd => ?_⟩
    have hmem := List.mem_of_getElem? hd
    obtain ⟨a1, a2⟩ := (dfMay_iff s d).1 (h.each d hmem)
    unfold mdAtB
    rw [a1, a2, still_self (by simp [mdNames, hd]), mdNames, take_map_contains]
    have e1 : decide (d.no ≤ lastNo m.F k) = false := by
      rw [decide_eq_false_iff_not]
      unfold lastNo
      split
      · have := a1
        unfold numberB at this
        simp only [Bool.and_eq_true, decide_eq_true_eq] at this
        omega
      · rename_i hk
        obtain ⟨hlt, rfl⟩ := List.getElem?_eq_some_iff.1 hd
        have := (List.pairwise_iff_getElem.1 h.rise) (k - 1) k (by omega) hlt (by omega)
        rw [List.getElem?_eq_getElem (by omega)]
        simp only [Option.map_some, Option.getD_some]
        omega
    have e2 : ((m.F.take k).any fun x => x.name == d.name) = false := by
      have h2 : (m.F.Pairwise fun a b => (a.name == b.name) = false) := h.names.imp fun {a b} hab => by simpa using hab
      exact (pair_take (R := fun a b : Df => a.name == b.name)).2 h2 k d hd
    rw [e1, e2]
    rfl
  · rintro ⟨hf, h⟩
    have hp : ∀ k d, m.F[k]? = some d → d.no > lastNo m.F k ∧ numberB d.no = true ∧ ((m.F.take k).any fun x => x.name == d.name) = false ∧ fdMayB s d = true := by
      intro k d hd
      have := h k d hd
      unfold mdAtB at this
      rw [still_self (by simp [mdNames, hd]), mdNames, take_map_contains] at this
      simp only [Bool.and_eq_true, Bool.not_eq_true', decide_eq_false_iff_not, List.contains_nil, Bool.not_false, Bool.true_and] at this
      obtain ⟨⟨⟨b1, b2⟩, b3⟩, b4⟩ := this
      exact ⟨by omega, b2, by simpa using b3, b4⟩
    refine ⟨hf, ?_, ?_, fun d hd => ?_⟩
    · rw [List.pairwise_iff_getElem]
      intro i j
      induction j with
      | zero => intro _ _ h0; omega
      | succ j ih =>
        intro hi hj hij
        have h1 := (hp (j + 1) _ (List.getElem?_eq_getElem hj)).1
        unfold lastNo at h1
        rw [if_neg (by omega), Nat.add_sub_cancel, List.getElem?_eq_getElem (by omega)] at h1
        simp only [Option.map_some, Option.getD_some] at h1
        by_cases he : i = j
        · subst he; omega
        · have := ih hi (by omega) (by omega)
          omega
    · have h2 : (m.F.Pairwise fun a b => (a.name == b.name) = false) := pair_take.1 fun k x hx => (hp k x hx).2.2.1
      exact h2.imp fun {a b} hab => by simpa using hab
    · obtain ⟨k, hk⟩ := List.mem_iff_getElem?.1 hd
      have := hp k d hk
      exact (dfMay_iff s d).2 ⟨this.2.1, this.2.2.2⟩
def edAtB (e : Ed) (k : Nat) (x : List UInt8) (n : Int) : Bool := !wrongB e.V e.N k x n
theorem contains_pair {α : Type} [BEq α] [LawfulBEq α] {l : List α} : (∀ k x, l[k]? = some x → (l.take k).contains x = false) ↔ l.Pairwise (· ≠ ·) := by
  have h2 : (l.Pairwise fun a b => (a == b) = false) ↔ l.Pairwise (· ≠ ·) := by
    constructor <;> intro hp <;> exact hp.imp fun {a b} hab => by simpa using hab
  rw [← h2, ← pair_take]
  have e : ∀ k x, (l.take k).contains x = (l.take k).any (· == x) := fun k x => by
    rw [List.contains_eq_any_beq]
    congr 1
    funext y
    exact BEq.comm
  simp only [e]
theorem edMay_iff (e : Ed) : EdMay e ↔ 1 ≤ e.V.length ∧ e.V.length ≤ 30 ∧ e.V.length = e.N.length ∧ ∀ k x n, e.V[k]? = some x → e.N[k]? = some n → wrongB e.V e.N k x n = false := by
  constructor
  · intro h
    refine ⟨h.some_, h.few, h.same.symm, fun k x n hx hn => ?_⟩
    unfold wrongB
    have hr := h.each n (List.mem_of_getElem? hn)
    rw [contains_pair.2 h.names k x hx, contains_pair.2 h.nums k n hn, decide_eq_true hr.1, decide_eq_true hr.2]
    by_cases hk : k = 0
    · subst hk
      have := h.zero
      rw [hn] at this
      obtain rfl := Option.some.inj this
      rfl
    · simp [hk]
  · rintro ⟨h1, h2, h3, h4⟩
    have key : ∀ k (hk : k < e.V.length), (e.V.take k).contains e.V[k] = false ∧ (e.N.take k).contains (e.N[k]'(by omega)) = false ∧ (-2147483648 ≤ (e.N[k]'(by omega)) ∧ (e.N[k]'(by omega)) ≤ 2147483647) ∧ (k = 0 → (e.N[k]'(by omega)) = 0) := by
      intro k hk
      have := h4 k _ _ (List.getElem?_eq_getElem hk) (List.getElem?_eq_getElem (by omega))
      unfold wrongB at this
      simp only [Bool.or_eq_false_iff, Bool.not_eq_false', Bool.and_eq_true, decide_eq_true_eq, Bool.and_eq_false_iff, beq_eq_false_iff_ne, bne_eq_false_iff_eq] at this
      obtain ⟨⟨⟨b1, b2⟩, b3⟩, b4⟩ := this
      exact ⟨b1, b2, b3, fun h0 => by rcases b4 with b4 | b4; exact absurd h0 b4; exact b4⟩
    refine ⟨h1, h2, h3.symm, ?_, ?_, ?_, fun n hn => ?_⟩
    · rw [List.getElem?_eq_getElem (by omega), (key 0 (by omega)).2.2.2 rfl]
    · refine contains_pair.1 fun k x hx => ?_
      obtain ⟨hk, rfl⟩ := List.getElem?_eq_some_iff.1 hx
      exact (key k hk).1
    · refine contains_pair.1 fun k x hx => ?_
      obtain ⟨hk, rfl⟩ := List.getElem?_eq_some_iff.1 hx
      exact (key k (by omega)).2.1
    · obtain ⟨k, hk⟩ := List.mem_iff_getElem?.1 hn
      obtain ⟨hk, rfl⟩ := List.getElem?_eq_some_iff.1 hk
      exact (key k (by omega)).2.2.1
theorem scMay_iff (s : Sc) : ScMay s ↔ 1 ≤ s.M.length ∧ s.M.length ≤ 20 ∧ s.E.length ≤ 20 ∧ (∀ k x, (namesS s)[k]? = some x → stillT (namesS s) k x = true) ∧ (∀ m ∈ s.M, MdMay s m) ∧ ∀ e ∈ s.E, EdMay e := by
  have key : (∀ k x, (namesS s)[k]? = some x → stillT (namesS s) k x = true) ↔ (namesS s).Pairwise (· ≠ ·) ∧ ∀ x ∈ namesS s, typeK x = none := by
    rw [← contains_pair]
    constructor
    · intro h
      have h' : ∀ k x, (namesS s)[k]? = some x → typeK x = none ∧ ((namesS s).take k).contains x = false := fun k x hx => by
        have := h k x hx
        rw [stillT_self hx] at this
        cases ht : typeK x <;> cases hc : ((namesS s).take k).contains x <;> simp_all
      exact ⟨fun k x hx => (h' k x hx).2, fun x hx => by obtain ⟨k, hk⟩ := List.mem_iff_getElem?.1 hx; exact (h' k x hk).1⟩
    · rintro ⟨h1, h2⟩ k x hx
      rw [stillT_self hx, h1 k x hx, h2 x (List.mem_of_getElem? hx)]
      rfl
  constructor
  · intro h
    exact ⟨h.some_, h.fewM, h.fewE, key.2 ⟨h.names, h.plain⟩, h.M, h.E⟩
  · rintro ⟨h1, h2, h3, h4, h5, h6⟩
    obtain ⟨k1, k2⟩ := key.1 h4
    exact ⟨h1, h2, h3, k1, k2, h5, h6⟩
end Go.Proofs.YtggcjdajmbkpiaaGreatDoor
/-
  Slices of bytes that read as lists of bytes.
-/
namespace Go.Proofs.YtggcjdajmbkpiaaGreatDoor
set_option maxRecDepth 100000

open Go.ChangeShapes Go.WideShapes Go.ChangeAt Go.RowKit

/-! ### Bytes -/

def BV (b : UInt8) : Value := .int .u8 (b.toNat : Int)
def bs (l : List UInt8) : List Value := l.map BV
theorem bs_append (a b : List UInt8) : bs (a ++ b) = bs a ++ bs b := by simp [bs]
theorem bs_length (a : List UInt8) : (bs a).length = a.length := by simp [bs]
theorem bs_get (a : List UInt8) (k : Nat) : (bs a)[k]? = a[k]?.map BV := by simp [bs]
theorem bs_inj {a b : List UInt8} (h : bs a = bs b) : a = b := by
  induction a generalizing b with
  | nil => cases b with
    | nil => rfl
    | cons y b => simp [bs] at h
  | cons x a ih => cases b with
    | nil => simp [bs] at h
    | cons y b =>
      simp only [bs, List.map_cons, List.cons.injEq, BV, Value.int.injEq, true_and] at h
      obtain rfl := UInt8.toNat_inj.1 (show x.toNat = y.toNat by omega)
      rw [ih h.2]
theorem bs_one (a : List UInt8) : ∀ u ∈ bs a, u.oneCell' = true := by
  intro u hu
  obtain ⟨b, _, rfl⟩ := List.mem_map.1 hu
  rfl

/-- A slice of bytes that reads as the list l. -/
def SlB (w : World) (A : Option Addr) (c : Nat) (l : List UInt8) : Prop := Sl w A l.length c 1 (bs l)
theorem SlB.on {w w' : World} {A : Option Addr} {c : Nat} {l : List UInt8} (h : SlB w A c l) (hb : Below w.heap.size w w') : SlB w' A c l := Sl.on h hb
theorem SlB.lit {w : World} {A : Option Addr} {c : Nat} {l : List UInt8} (h : SlB w A c l) (o : Obj) : SlB (w.alloc o) A c l := h.on (below_new w o)
theorem SlB.drew {w : World} {A : Option Addr} {c : Nat} {l : List UInt8} (h : SlB w A c l) : SlB w.drew A c l := h.on (Below.refl _ _).drew
theorem SlB.le {w : World} {A : Option Addr} {c : Nat} {l : List UInt8} (h : SlB w A c l) : l.length ≤ c := Sl.le h
theorem SlB.small {w : World} {A : Option Addr} {c : Nat} {l : List UInt8} (h : SlB w A c l) : l.length ≤ 9223372036854775807 ∧ c ≤ 9223372036854775807 := by
  have h1 := Sl.le h
  have h2 := Sl.cap h
  unfold maxLen at h2
  omega
/-- The byte at k: its address, and its cell. -/
theorem SlB.at_ {w : World} {A : Option Addr} {c : Nat} {l : List UInt8} (h : SlB w A c l) {k : Nat} (hk : k < l.length) : ∃ ad b, A = some ad ∧ ad.block < w.heap.size ∧ l[k]? = some b ∧ w.cell? (ad.add k) = some (.int .u8 (b.toNat : Int)) := by
  obtain ⟨ad, rfl, hb, hcell⟩ := Sl.there h (by omega)
  exact ⟨ad, l[k], rfl, hb, List.getElem?_eq_getElem hk, hcell k _ (by rw [bs_get, List.getElem?_eq_getElem hk]; rfl)⟩
theorem SlB.of_own {w : World} {base : Nat} {e : TypeId} {v : Value} {l : List UInt8} (h : w.ownsRow base e 1 v l.length (bs l)) : ∃ A c, v = .slice A l.length c ∧ SlB w A c l := Sl.of_own h
theorem SlB.nil (w : World) : SlB w none 0 [] := Sl.nothing w 1

theorem info_u8 : (Tryz.prog.info? 5).map (fun i => (i.zero, i.size, i.bytes)) = some (some (.int .u8 0), 1, 1) := by kernel_rfl
theorem open_u8 {H : Type} {enc : TypeId × Value → H} {W : World} {base : Nat} {v : Value} {d : DataW H} {ps : List MemPlace}
    (hval : Value.okWide Tryz.prog W .any base 5 v) (h : DataW.Trod enc Tryz.prog W 0 (fun _ => true) true 5 v d ps) : ∃ n : Nat, v = .int .u8 (n : Int) ∧ n < 256 := by
  obtain ⟨a, rfl, rfl, rfl, wf⟩ := open_int Tryz.underlying5 hval h
  have hb := bounds_u8 wf
  obtain ⟨n, rfl⟩ := Int.eq_ofNat_of_zero_le hb.1
  exact ⟨n, rfl, by omega⟩
theorem cells_u8 : Tryz.prog.cellsOf 5 = 1 := by kernel_rfl
theorem bs_of_ints (zs : List Int) (h : ∀ n ∈ zs, (Lit.int .u8 n).wf = true) : ∃ l : List UInt8, zs.map (Value.int .u8) = bs l := by
  induction zs with
  | nil => exact ⟨[], rfl⟩
  | cons z zs ih =>
    obtain ⟨l, hl⟩ := ih (fun n hn => h n (by simp [hn]))
    have hb := bounds_u8 (h z (by simp))
    refine ⟨UInt8.ofNat z.toNat :: l, ?_⟩
    simp only [List.map_cons, bs, List.cons.injEq]
    refine ⟨?_, by simpa [bs] using hl⟩
    simp only [BV, Value.int.injEq, true_and]
    rw [UInt8.toNat_ofNat']
    omega
theorem open_bytes {H : Type} {enc : TypeId × Value → H} {W : World} {base : Nat} {v : Value} {d : DataW H} {ps : List MemPlace}
    (hval : Value.okWide Tryz.prog W .any base 51 v) (h : DataW.Trod enc Tryz.prog W 0 (fun _ => true) true 51 v d ps) :
    ∃ (A : Option Addr) (c : Nat) (l : List UInt8), v = .slice A l.length c ∧ SlB W A c l := by
  obtain ⟨a0, len, cap, rfl⟩ := okWide_slice Tryz.underlying51 hval
  obtain ⟨fuel, hf⟩ := h
  rcases open_ints Tryz.underlying51 Tryz.underlying5 cells_u8 hf with ⟨hcs, hx⟩ | ⟨a, len', cap', zs, hcs, _, hl, hm, hz, hx, hcell, hwz⟩
  · simp [Value.cells] at hcs
    obtain ⟨rfl, rfl, rfl⟩ := hcs
    exact ⟨none, 0, [], rfl, SlB.nil W⟩
  · simp [Value.cells] at hcs
    obtain ⟨rfl, rfl, rfl⟩ := hcs
    simp only [if_true] at hz
    obtain ⟨l, hl2⟩ := bs_of_ints (zs.take len) (fun n hn => hwz n (List.mem_of_mem_take hn))
    have hlen : l.length = len := by
      have := congrArg List.length hl2
      simp [bs] at this
      omega
    subst hlen
    refine ⟨some a, cap, l, rfl, by simp [bs], hl, hm, by simp, fun ad ha hn => ?_, fun ad ha k u hu => ?_⟩
    · obtain rfl := Option.some.inj ha
      have hb := World.block_lt_of_cell? W _ (hcell 0 (by omega))
      rwa [add_same_block] at hb
    · obtain rfl := Option.some.inj ha
      rw [← hl2] at hu
      have hk : k < l.length := by
        have := (List.getElem?_eq_some_iff.1 hu).1
        simp at this
        omega
      rw [hcell k (by omega)]
      rw [List.getElem?_map, List.getElem?_take, if_pos hk] at hu
      obtain ⟨z, hz2, rfl⟩ := Option.map_eq_some_iff.1 hu
      simp [List.getD, hz2]
theorem lit_reads (w : World) (l : List UInt8) (hl : l.length ≤ 100) : SlB (w.alloc (.cells (bs l).toArray 5)) (some ⟨w.heap.size, 0, none⟩) l.length l := by
  have h := Sl.new w (bs l) 5 (by rw [bs_length]; unfold maxLen; omega)
  rw [bs_length] at h
  exact h

end Go.Proofs.YtggcjdajmbkpiaaGreatDoor
/-
  Bytes that become a text: the conversion of a slice of bytes.
-/
namespace Go.Proofs.YtggcjdajmbkpiaaGreatDoor
set_option maxRecDepth 100000

open Go.RowKit

def txt (l : List UInt8) : ByteArray := ⟨l.toArray⟩
theorem txt_list (l : List UInt8) : (txt l).data.toList = l := by simp [txt]
theorem txt_size (l : List UInt8) : (txt l).size = l.length := by simp [txt, ByteArray.size]
theorem txt_of (s : ByteArray) : txt s.data.toList = s := by cases s; simp [txt]
theorem run_str_of_bytes {P : Program} (w : World) (src dst e : TypeId) (hs : P.underlying src = some (.slice e)) (he : P.underlying e = some (.int .u8)) (hd : P.underlying dst = some .string)
    (A : Option Addr) (c : Nat) (l : List UInt8) (hr : SlB w A c l) : (convert src dst (.slice A l.length c)).run P w = .ok (.string (txt l)) w := by
  cases A with
  | none =>
    obtain ⟨hn, rfl, hx⟩ := Sl.none_len hr
    obtain rfl : l = [] := List.eq_nil_of_length_eq_zero hn
    exact run_convert_bytes_nil w src e hs he 0 0 dst hd
  | some ad =>
    have hm : (l.map fun b => (b.toNat : Int)).map (Value.int .u8) = bs l := by simp [bs, BV]
    have hl : (loadCells ad l.length).run P w = .ok ((l.map fun b => (b.toNat : Int)).map (Value.int .u8)).toArray w := by
      have := run_loadCells_list (P := P) w ad (bs l) (fun j v hj => Sl.cell hr ad rfl j v hj)
      rw [bs_length] at this
      rw [hm]
      exact this
    rw [run_convert_bytes_string w src dst e _ _ _ hs he hd, run_bytesToString w _ _ _ _ hl, foldl_push_bytes]
    have h2 : ((l.map fun b => (b.toNat : Int)).map fun n => UInt8.ofNat n.toNat) = l := by
      rw [List.map_map]
      conv => rhs; rw [← List.map_id l]
      refine List.map_congr_left fun b _ => ?_
      simp
    rw [h2]
    simp [txt, ByteArray.empty, ByteArray.emptyWithCapacity]
    rfl
end Go.Proofs.YtggcjdajmbkpiaaGreatDoor
