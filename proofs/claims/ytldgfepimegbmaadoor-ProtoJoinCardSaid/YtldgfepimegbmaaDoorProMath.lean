/-
  A schema's text as a file: what the parser does, by plain functions on lists of tokens; and the same as steps of a machine that takes one token after the other.
-/
import Derived.Test.YtldgfepimegbmaaDoorTokMath
namespace Go.Proofs.YtldgfepimegbmaaDoor
set_option maxRecDepth 100000

structure Fd where
  type : List UInt8
  key : List UInt8
  rep : Bool
  one : Nat
  name : List UInt8
  no : Int
  at_ : Nat
  deriving DecidableEq
structure Ms where
  name : List UInt8
  F : List Fd
  ones : List (List UInt8)
  res : List Int
  at_ : Nat
structure Vl where
  name : List UInt8
  n : Int
  at_ : Nat
  deriving DecidableEq
structure En where
  name : List UInt8
  V : List Vl
  at_ : Nat
structure Fl where
  M : List Ms
  E : List En

def wMessage : List UInt8 := [109, 101, 115, 115, 97, 103, 101]
def wEnum : List UInt8 := [101, 110, 117, 109]
def wRepeated : List UInt8 := [114, 101, 112, 101, 97, 116, 101, 100]
def wMap : List UInt8 := [109, 97, 112]
def wOneof : List UInt8 := [111, 110, 101, 111, 102]
def wReserved : List UInt8 := [114, 101, 115, 101, 114, 118, 101, 100]

/-! ### The parser: the tokens that are left, and whether it is stuck -/
structure S where
  l : List T
  st : Bool
namespace S
def is (s : S) (k : Nat) : Bool := !s.st && (match s.l with | [] => false | t :: _ => t.kind == k)
def sees (s : S) (k : Nat) (x : List UInt8) : Bool := s.is k && ((s.l.headD default).text == x)
def eat (s : S) (b : Bool) : S := if b then ⟨s.l.tail, s.st⟩ else ⟨s.l, true⟩
/-- The token that is taken, or none. -/
def tok (s : S) (b : Bool) : T := if b then s.l.headD default else default
def nameT (s : S) : List UInt8 := if s.is 0 then (s.l.headD default).text else []
def numV (s : S) : Int := if s.is 1 then (s.l.headD default).num else 0
def name (s : S) : S := s.eat (s.is 0)
def num (s : S) : S := s.eat (s.is 1)
def word (s : S) (x : List UInt8) : S := s.eat (s.sees 0 x)
def sign (s : S) (x : List UInt8) : S := s.eat (s.sees 3 x)
def place (E : Nat) (s : S) : Nat := match s.l with | [] => E | t :: _ => t.at_
def inside (s : S) : Bool := !s.st && !(s.sees 3 [125])
def map2 (s : S) : Bool := s.sees 0 wMap && decide (1 < s.l.length) && ((s.l.tail.headD default).kind == 3) && ((s.l.tail.headD default).text == [60])
def nbd (s : S) : S := ((s.name.sign [61]).num).sign [59]
def nbdNo (s : S) : Int := (s.name.sign [61]).numV
def fld (E : Nat) (s : S) : Fd := ⟨s.nameT, [], false, 0, s.name.nameT, s.name.nbdNo, s.place E⟩
def fldS (s : S) : S := s.name.nbd
/-- How far it is to the end. -/
def mu (s : S) : Nat := s.l.length + (if s.st then 0 else 1)

theorem is_st {s : S} (h : s.st = true) (k : Nat) : s.is k = false := by simp [is, h]
theorem sees_st {s : S} (h : s.st = true) (k : Nat) (x : List UInt8) : s.sees k x = false := by simp [sees, is_st h]
theorem is_l {s : S} {k : Nat} (h : s.is k = true) : s.st = false ∧ ∃ t l, s.l = t :: l ∧ t.kind = k := by
  obtain ⟨l, st⟩ := s
  cases st <;> cases l <;> simp_all [is]
theorem sees_l {s : S} {k : Nat} {x : List UInt8} (h : s.sees k x = true) : s.st = false ∧ ∃ t l, s.l = t :: l ∧ t.kind = k ∧ t.text = x := by
  simp only [sees, Bool.and_eq_true] at h
  obtain ⟨h1, t, l, h2, h3⟩ := is_l h.1
  have h4 := h.2
  rw [h2] at h4
  exact ⟨h1, t, l, h2, h3, by simpa using h4⟩
theorem eat_st {s : S} (h : s.st = true) : s.eat false = s := by cases s; simp_all [eat]
theorem eat_mu {s : S} {b : Bool} (hb : b = true → s.st = false ∧ s.l ≠ []) : mu (s.eat b) ≤ mu s ∧ (s.st = false → mu (s.eat b) + 1 ≤ mu s) := by
  obtain ⟨l, st⟩ := s
  cases b
  · cases st <;> simp [eat, mu]
  · obtain ⟨h1, h2⟩ := hb rfl
    simp only at h1 h2
    subst h1
    cases l with
    | nil => exact absurd rfl h2
    | cons t l => simp [eat, mu]
theorem is_ne {s : S} {k : Nat} (h : s.is k = true) : s.st = false ∧ s.l ≠ [] := by
  obtain ⟨h1, t, l, h2, _⟩ := is_l h
  exact ⟨h1, by rw [h2]; simp⟩
theorem sees_ne {s : S} {k : Nat} {x : List UInt8} (h : s.sees k x = true) : s.st = false ∧ s.l ≠ [] := by
  simp only [sees, Bool.and_eq_true] at h
  exact is_ne h.1
theorem name_mu (s : S) : mu s.name ≤ mu s ∧ (s.st = false → mu s.name + 1 ≤ mu s) := eat_mu is_ne
theorem num_mu (s : S) : mu s.num ≤ mu s ∧ (s.st = false → mu s.num + 1 ≤ mu s) := eat_mu is_ne
theorem word_mu (s : S) (x : List UInt8) : mu (s.word x) ≤ mu s ∧ (s.st = false → mu (s.word x) + 1 ≤ mu s) := eat_mu sees_ne
theorem sign_mu (s : S) (x : List UInt8) : mu (s.sign x) ≤ mu s ∧ (s.st = false → mu (s.sign x) + 1 ≤ mu s) := eat_mu sees_ne
theorem nbd_mu (s : S) : mu s.nbd ≤ mu s ∧ (s.st = false → mu s.nbd + 1 ≤ mu s) := by
  have h1 := name_mu s
  have h2 := sign_mu s.name [61]
  have h3 := num_mu (s.name.sign [61])
  have h4 := sign_mu (s.name.sign [61]).num [59]
  unfold nbd
  exact ⟨by omega, fun h => by have := h1.2 h; omega⟩
theorem fldS_mu (s : S) : mu s.fldS ≤ mu s ∧ (s.st = false → mu s.fldS + 1 ≤ mu s) := by
  have h1 := name_mu s
  have h2 := nbd_mu s.name
  unfold fldS
  exact ⟨by omega, fun h => by have := h1.2 h; omega⟩
theorem inside_st {s : S} (h : s.inside = true) : s.st = false := by
  cases hs : s.st <;> simp_all [inside]
end S
open S

/-! ### Items, messages, enums, files -/
def Ms.add (m : Ms) (d : Fd) : Ms := { m with F := m.F ++ [d] }
def Ms.wt (m : Ms) : Nat := m.F.length + m.ones.length + m.res.length
theorem Ms.add_wt (m : Ms) (d : Fd) : (m.add d).wt = m.wt + 1 := by simp [Ms.add, Ms.wt]; omega
def onesF (E : Nat) (s : S) (m : Ms) : S × Ms :=
  if _h : s.inside = true then onesF E s.fldS (m.add { s.fld E with one := m.ones.length }) else (s, m)
termination_by s.mu
decreasing_by have := (fldS_mu s).2 (inside_st _h); omega
def resF (s : S) (m : Ms) : S × Ms :=
  if _h : s.sees 3 [44] = true then resF (s.sign [44]).num { m with res := m.res ++ [(s.sign [44]).numV] } else (s, m)
termination_by s.mu
decreasing_by have h1 := (sign_mu s [44]).2 (sees_l _h).1; have h2 := (num_mu (s.sign [44])).1; omega
def singleF (E : Nat) (s : S) (m : Ms) : S × Ms := (s.fldS, m.add (s.fld E))
def repF (E : Nat) (s : S) (m : Ms) : S × Ms := ((s.word wRepeated).fldS, m.add { (s.word wRepeated).fld E with rep := true, at_ := s.place E })
def mapS1 (s : S) : S := (s.word wMap).sign [60]
def mapS2 (s : S) : S := (mapS1 s).name.sign [44]
def mapS3 (s : S) : S := (mapS2 s).name.sign [62]
def pairsF (E : Nat) (s : S) (m : Ms) : S × Ms :=
  ((mapS3 s).nbd, m.add ⟨(mapS2 s).nameT, (mapS1 s).nameT, false, 0, (mapS3 s).nameT, (mapS3 s).nbdNo, s.place E⟩)
def oneofS (s : S) : S := (s.word wOneof).name.sign [123]
def oneofM (s : S) (m : Ms) : Ms := { m with ones := m.ones ++ [(s.word wOneof).nameT] }
def oneofF (E : Nat) (s : S) (m : Ms) : S × Ms := ((onesF E (oneofS s) (oneofM s m)).1.sign [125], (onesF E (oneofS s) (oneofM s m)).2)
def resS (s : S) : S := (s.word wReserved).num
def resM (s : S) (m : Ms) : Ms := { m with res := m.res ++ [(s.word wReserved).numV] }
def reservedF (s : S) (m : Ms) : S × Ms := ((resF (resS s) (resM s m)).1.sign [59], (resF (resS s) (resM s m)).2)
def itemF (E : Nat) (s : S) (m : Ms) : S × Ms :=
  if s.sees 0 wRepeated then repF E s m
  else if s.sees 0 wOneof then oneofF E s m
  else if s.sees 0 wReserved then reservedF s m
  else if s.map2 then pairsF E s m
  else singleF E s m

theorem onesF_wt (E : Nat) (s : S) (m : Ms) : mu (onesF E s m).1 ≤ mu s ∧ (onesF E s m).2.wt + mu (onesF E s m).1 ≤ m.wt + mu s := by
  induction s, m using onesF.induct E with
  | case1 s m h ih =>
    rw [onesF, dif_pos h]
    have h1 := (fldS_mu s).2 (inside_st h)
    rw [Ms.add_wt] at ih
    omega
  | case2 s m h => rw [onesF, dif_neg h]; exact ⟨Nat.le_refl _, Nat.le_refl _⟩
theorem resF_wt (s : S) (m : Ms) : mu (resF s m).1 ≤ mu s ∧ (resF s m).2.wt + mu (resF s m).1 ≤ m.wt + mu s := by
  induction s, m using resF.induct with
  | case1 s m h ih =>
    rw [resF, dif_pos h]
    have h1 := (sign_mu s [44]).2 (sees_l h).1
    have h2 := (num_mu (s.sign [44])).1
    have h3 : ({ m with res := m.res ++ [(s.sign [44]).numV] } : Ms).wt = m.wt + 1 := by simp [Ms.wt]; omega
    rw [h3] at ih
    omega
  | case2 s m h => rw [resF, dif_neg h]; exact ⟨Nat.le_refl _, Nat.le_refl _⟩
theorem singleF_wt (E : Nat) (s : S) (m : Ms) (h : s.st = false) : mu (singleF E s m).1 + 1 ≤ mu s ∧ (singleF E s m).2.wt + mu (singleF E s m).1 ≤ m.wt + mu s := by
  have h1 := (fldS_mu s).2 h
  simp only [singleF, Ms.add_wt]
  omega
theorem repF_wt (E : Nat) (s : S) (m : Ms) (h : s.st = false) : mu (repF E s m).1 + 1 ≤ mu s ∧ (repF E s m).2.wt + mu (repF E s m).1 ≤ m.wt + mu s := by
  have h1 := (word_mu s wRepeated).2 h
  have h2 := (fldS_mu (s.word wRepeated)).1
  simp only [repF, Ms.add_wt]
  omega
theorem pairsF_wt (E : Nat) (s : S) (m : Ms) (h : s.st = false) : mu (pairsF E s m).1 + 1 ≤ mu s ∧ (pairsF E s m).2.wt + mu (pairsF E s m).1 ≤ m.wt + mu s := by
  have h1 := (word_mu s wMap).2 h
  have h2 := (sign_mu (s.word wMap) [60]).1
  have h3 := (name_mu (mapS1 s)).1
  have h4 := (sign_mu (mapS1 s).name [44]).1
  have h5 := (name_mu (mapS2 s)).1
  have h6 := (sign_mu (mapS2 s).name [62]).1
  have h7 := (nbd_mu (mapS3 s)).1
  have e1 : mapS1 s = (s.word wMap).sign [60] := rfl
  have e2 : mapS2 s = (mapS1 s).name.sign [44] := rfl
  have e3 : mapS3 s = (mapS2 s).name.sign [62] := rfl
  rw [← e1] at h2
  rw [← e2] at h4
  rw [← e3] at h6
  simp only [pairsF, Ms.add_wt]
  omega
theorem oneofS_mu (s : S) (h : s.st = false) : mu (oneofS s) + 1 ≤ mu s := by
  have h1 := (word_mu s wOneof).2 h
  have h2 := (name_mu (s.word wOneof)).1
  have h3 := (sign_mu (s.word wOneof).name [123]).1
  unfold oneofS
  omega
theorem oneofM_wt (s : S) (m : Ms) : (oneofM s m).wt = m.wt + 1 := by simp [oneofM, Ms.wt]; omega
theorem oneofF_wt (E : Nat) (s : S) (m : Ms) (h : s.st = false) : mu (oneofF E s m).1 + 1 ≤ mu s ∧ (oneofF E s m).2.wt + mu (oneofF E s m).1 ≤ m.wt + mu s := by
  have h1 := oneofS_mu s h
  have h4 := onesF_wt E (oneofS s) (oneofM s m)
  rw [oneofM_wt] at h4
  have h5 := (sign_mu (onesF E (oneofS s) (oneofM s m)).1 [125]).1
  simp only [oneofF]
  omega
theorem resS_mu (s : S) (h : s.st = false) : mu (resS s) + 1 ≤ mu s := by
  have h1 := (word_mu s wReserved).2 h
  have h2 := (num_mu (s.word wReserved)).1
  unfold resS
  omega
theorem resM_wt (s : S) (m : Ms) : (resM s m).wt = m.wt + 1 := by simp [resM, Ms.wt]; omega
theorem reservedF_wt (s : S) (m : Ms) (h : s.st = false) : mu (reservedF s m).1 + 1 ≤ mu s ∧ (reservedF s m).2.wt + mu (reservedF s m).1 ≤ m.wt + mu s := by
  have h1 := resS_mu s h
  have h4 := resF_wt (resS s) (resM s m)
  rw [resM_wt] at h4
  have h5 := (sign_mu (resF (resS s) (resM s m)).1 [59]).1
  simp only [reservedF]
  omega
theorem itemF_wt (E : Nat) (s : S) (m : Ms) (h : s.st = false) : mu (itemF E s m).1 + 1 ≤ mu s ∧ (itemF E s m).2.wt + mu (itemF E s m).1 ≤ m.wt + mu s := by
  unfold itemF
  split
  · exact repF_wt E s m h
  · split
    · exact oneofF_wt E s m h
    · split
      · exact reservedF_wt s m h
      · split
        · exact pairsF_wt E s m h
        · exact singleF_wt E s m h
def itemsF (E : Nat) (s : S) (m : Ms) : S × Ms :=
  if _h : s.inside = true then itemsF E (itemF E s m).1 (itemF E s m).2 else (s, m)
termination_by s.mu
decreasing_by have := (itemF_wt E s m (inside_st _h)).1; omega
def msgS (s : S) : S := (s.word wMessage).name.sign [123]
def msgM (E : Nat) (s : S) : Ms := ⟨(s.word wMessage).nameT, [], [], [], s.place E⟩
def messageF (E : Nat) (s : S) : S × Ms := ((itemsF E (msgS s) (msgM E s)).1.sign [125], (itemsF E (msgS s) (msgM E s)).2)
def valsF (E : Nat) (s : S) (e : En) : S × En :=
  if _h : s.inside = true then valsF E s.nbd { e with V := e.V ++ [⟨s.nameT, s.nbdNo, s.place E⟩] } else (s, e)
termination_by s.mu
decreasing_by have := (nbd_mu s).2 (inside_st _h); omega
def enS (s : S) : S := (s.word wEnum).name.sign [123]
def enE (E : Nat) (s : S) : En := ⟨(s.word wEnum).nameT, [], s.place E⟩
def enumF (E : Nat) (s : S) : S × En := ((valsF E (enS s) (enE E s)).1.sign [125], (valsF E (enS s) (enE E s)).2)
theorem itemsF_mu (E : Nat) (s : S) (m : Ms) : mu (itemsF E s m).1 ≤ mu s := by
  induction s, m using itemsF.induct E with
  | case1 s m h ih =>
    rw [itemsF, dif_pos h]
    have := (itemF_wt E s m (inside_st h)).1
    omega
  | case2 s m h => rw [itemsF, dif_neg h]; exact Nat.le_refl _
theorem msgS_mu (s : S) (h : s.st = false) : mu (msgS s) + 1 ≤ mu s := by
  have h1 := (word_mu s wMessage).2 h
  have h2 := (name_mu (s.word wMessage)).1
  have h3 := (sign_mu (s.word wMessage).name [123]).1
  unfold msgS
  omega
theorem messageF_mu (E : Nat) (s : S) (h : s.st = false) : mu (messageF E s).1 + 1 ≤ mu s := by
  have h1 := msgS_mu s h
  have h2 := itemsF_mu E (msgS s) (msgM E s)
  have h3 := (sign_mu (itemsF E (msgS s) (msgM E s)).1 [125]).1
  simp only [messageF]
  omega
theorem valsF_mu (E : Nat) (s : S) (e : En) : mu (valsF E s e).1 ≤ mu s := by
  induction s, e using valsF.induct E with
  | case1 s m h ih =>
    rw [valsF, dif_pos h]
    have := (nbd_mu s).2 (inside_st h)
    omega
  | case2 s m h => rw [valsF, dif_neg h]; exact Nat.le_refl _
theorem enS_mu (s : S) (h : s.st = false) : mu (enS s) + 1 ≤ mu s := by
  have h1 := (word_mu s wEnum).2 h
  have h2 := (name_mu (s.word wEnum)).1
  have h3 := (sign_mu (s.word wEnum).name [123]).1
  unfold enS
  omega
theorem enumF_mu (E : Nat) (s : S) (h : s.st = false) : mu (enumF E s).1 + 1 ≤ mu s := by
  have h1 := enS_mu s h
  have h2 := valsF_mu E (enS s) (enE E s)
  have h3 := (sign_mu (valsF E (enS s) (enE E s)).1 [125]).1
  simp only [enumF]
  omega
def S.goes (s : S) : Bool := !s.st && decide (0 < s.l.length)
theorem goes_st {s : S} (h : s.goes = true) : s.st = false := by cases hs : s.st <;> simp_all [S.goes]
def fileF (E : Nat) (s : S) (f : Fl) : S × Fl :=
  if _h : s.goes = true then
    if s.sees 0 wEnum then fileF E (enumF E s).1 { f with E := f.E ++ [(enumF E s).2] }
    else fileF E (messageF E s).1 { f with M := f.M ++ [(messageF E s).2] }
  else (s, f)
termination_by s.mu
decreasing_by
  · have := enumF_mu E s (goes_st _h); omega
  · have := messageF_mu E s (goes_st _h); omega
end Go.Proofs.YtldgfepimegbmaaDoor
