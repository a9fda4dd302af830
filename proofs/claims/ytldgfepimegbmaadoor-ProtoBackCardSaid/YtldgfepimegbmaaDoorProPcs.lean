/-
  Texts that are made of pieces: blanks, signs, and names and numbers with a blank or a sign behind them; what is told of their tokens.
-/
import Derived.Test.YtldgfepimegbmaaDoorProText
import Derived.Test.YtldgfepimegbmaaDoorProFacts
import Derived.Test.YtldgfepimegbmaaDoorProRun
namespace Go.Proofs.YtldgfepimegbmaaDoor
set_option maxRecDepth 100000

def nameOK (x : List UInt8) : Prop := (∃ c r, x = c :: r ∧ isFirst c = true ∧ ∀ d ∈ r, isNext d = true) ∧ x.length ≤ 1500
def inr (n : Int) : Prop := -9223372036854775808 ≤ n ∧ n ≤ 9223372036854775807
/-- A token of a text. -/
def tokOK (t : T) : Prop := (t.kind = 0 → nameOK t.text) ∧ (t.kind = 1 → inr t.num)
theorem lex_tokOK : ∀ (l : List UInt8) (k p : Nat), l.length ≤ 1500 → ∀ t ∈ (lex Lib.itoa k p l).1, tokOK t
  | [], k, p, _, t, h => by cases k <;> simp [lex] at h
  | c :: r, k + 1, p, hl, t, h => by
    simp only [lex] at h
    exact lex_tokOK r k (p + 1) (by simp at hl; omega) t h
  | c :: r, 0, p, hl, t, h => by
    have hl' : r.length ≤ 1500 := by simp at hl; omega
    simp only [lex] at h
    split at h
    · exact lex_tokOK r _ (p + 1) hl' t h
    · split at h
      · simp at h
      · rename_i x hx
        rcases List.mem_cons.1 h with rfl | h
        · have s1 := span_le isNext r
          simp only [tk] at hx
          by_cases h1 : isFirst c = true
          · rw [if_pos h1] at hx
            injection hx with hx
            subst hx
            refine ⟨fun _ => ⟨⟨c, _, rfl, h1, span_all isNext r⟩, ?_⟩, fun h => by simp at h⟩
            simp only [List.length_cons, List.length_take, Nat.min_eq_left s1]
            simp at hl
            omega
          · rw [if_neg h1] at hx
            by_cases h2 : (isDigit c || c == 45) = true
            · rw [if_pos h2] at hx
              simp only [Option.map_eq_some_iff] at hx
              obtain ⟨n, hn, rfl⟩ := hx
              exact ⟨fun h => by simp at h, fun _ => (numOf_some hn).2⟩
            · rw [if_neg h2] at hx
              by_cases h3 : (c == 34) = true
              · rw [if_pos h3] at hx
                simp only [Option.map_eq_some_iff] at hx
                obtain ⟨y, _, rfl⟩ := hx
                exact ⟨fun h => by simp at h, fun h => by simp at h⟩
              · rw [if_neg h3] at hx
                split at hx
                · injection hx with hx
                  subst hx
                  exact ⟨fun h => by simp at h, fun h => by simp at h⟩
                · cases hx
        · exact lex_tokOK r x.more (p + 1) hl' t h

/-! ### Pieces -/
inductive Pce where
  | bl (c : UInt8)
  | sg (c : UInt8)
  | nb (x : List UInt8)
  | ns (x : List UInt8) (c : UInt8)
  | us (n : Int) (c : UInt8)
def Pce.ok : Pce → Prop
  | .bl c => isBlank c = true
  | .sg c => isSign c = true
  | .nb x => nameOK x
  | .ns x c => nameOK x ∧ isSign c = true
  | .us n c => inr n ∧ isSign c = true
def Pce.byt : Pce → List UInt8
  | .bl c => [c]
  | .sg c => [c]
  | .nb x => x ++ [32]
  | .ns x c => x ++ [c]
  | .us n c => Lib.itoa n ++ [c]
def tSg (c : UInt8) : T := ⟨3, [c], 0, 0⟩
def tNm (x : List UInt8) : T := ⟨0, x, 0, 0⟩
def tNu (n : Int) : T := ⟨1, Lib.itoa n, n, 0⟩
def Pce.tks : Pce → List T
  | .bl _ => []
  | .sg c => [tSg c]
  | .nb x => [tNm x]
  | .ns x c => [tNm x, tSg c]
  | .us n c => [tNu n, tSg c]
def bytP (l : List Pce) : List UInt8 := l.flatMap Pce.byt
def tksP (l : List Pce) : List T := l.flatMap Pce.tks
def unAt (t : T) : T := { t with at_ := 0 }
/-- The tokens, but for where they are, and that there are no others. -/
def Lexed (l : List UInt8) (X : List T) : Prop := ∀ p, (lex Lib.itoa 0 p l).1.map unAt = X ∧ (lex Lib.itoa 0 p l).2 = none
theorem Lexed.nil : Lexed [] [] := fun p => by simp [lex]
theorem ws_hard {c : UInt8} (h1 : isBlank c = false) (h2 : c ≠ 47) (r : List UInt8) : ws false (c :: r) = 0 := by
  have h3 : (c == 47) = false := by simpa using h2
  simp [ws, h1, h3]
theorem Lexed.bl {c : UInt8} (h : isBlank c = true) {l : List UInt8} {X : List T} (hl : Lexed l X) : Lexed (c :: l) X := by
  intro p
  have e : lex Lib.itoa 0 p (c :: l) = lex Lib.itoa 0 (p + 1) l := by
    rw [lex_ws, show c :: l = [c] ++ l from rfl, ws_blanks [c] (by simpa using h), List.length_singleton]
    rw [show ([c] ++ l).drop (1 + ws false l) = l.drop (ws false l) by rw [Nat.add_comm]; rfl, ← Nat.add_assoc, ← lex_ws]
  rw [e]
  exact hl (p + 1)
theorem Lexed.tok {y : List UInt8} {k : Nat} {n : Int} {l : List UInt8} {X : List T} (hw : ws false (y ++ l) = 0) (hy : y ≠ []) (ht : tk Lib.itoa (y ++ l) = some ⟨k, y, n, y.length - 1⟩) (hl : Lexed l X) : Lexed (y ++ l) (⟨k, y, n, 0⟩ :: X) := by
  intro p
  have hpos : 0 < y.length := List.length_pos_iff.2 hy
  rw [lex_some hw ht]
  simp only
  rw [show y.length - 1 + 1 = y.length by omega, List.drop_left]
  obtain ⟨h1, h2⟩ := hl (p + (y.length - 1) + 1)
  exact ⟨by rw [List.map_cons, h1]; rfl, h2⟩
theorem sign_hard {c : UInt8} (h : isSign c = true) : isBlank c = false ∧ c ≠ 47 ∧ isFirst c = false ∧ (isDigit c || c == 45) = false ∧ (c == 34) = false ∧ isNext c = false ∧ isDigit c = false := by
  simp only [isSign, List.contains_eq_mem, List.mem_cons, List.not_mem_nil, or_false, decide_eq_true_eq] at h
  rcases h with rfl | rfl | rfl | rfl | rfl | rfl | rfl | rfl | rfl | rfl | rfl | rfl <;> decide
theorem Lexed.sg {c : UInt8} (h : isSign c = true) {l : List UInt8} {X : List T} (hl : Lexed l X) : Lexed (c :: l) (tSg c :: X) := by
  obtain ⟨h1, h2, h3, h4, h5, _, _⟩ := sign_hard h
  exact Lexed.tok (y := [c]) (ws_hard h1 h2 l) (by simp) (by simp [tk, h3, h4, h5, h]) hl
theorem first_hard {c : UInt8} (h : isFirst c = true) : isBlank c = false ∧ c ≠ 47 := by
  simp only [isFirst, Bool.or_eq_true, Bool.and_eq_true, decide_eq_true_eq, beq_iff_eq] at h
  constructor
  · simp only [isBlank, Bool.or_eq_false_iff, beq_eq_false_iff_ne]
    refine ⟨⟨⟨?_, ?_⟩, ?_⟩, ?_⟩ <;> (rintro rfl; simp at h)
  · rintro rfl; simp at h
theorem Lexed.nm {x : List UInt8} (h : nameOK x) {d : UInt8} (hd : isNext d = false) {l : List UInt8} {X : List T} (hl : Lexed (d :: l) X) : Lexed (x ++ d :: l) (tNm x :: X) := by
  obtain ⟨⟨c, r, rfl, hc, hr⟩, _⟩ := h
  obtain ⟨h1, h2⟩ := first_hard hc
  have hs : span isNext (r ++ d :: l) = r.length := by rw [span_app isNext d hd, span_whole isNext r hr]
  refine Lexed.tok (y := c :: r) (ws_hard h1 h2 _) (by simp) ?_ hl
  simp [tk, hc, hs]
theorem itoa_form (n : Int) : ∃ c r, Lib.itoa n = c :: r ∧ (c = 45 ∨ isDigit c = true) ∧ ∀ d ∈ r, isDigit d = true := by
  by_cases hn : n < 0
  · exact ⟨45, _, itoa_neg n hn, .inl rfl, dec_digits _⟩
  · rw [itoa_nonneg n (by omega)]
    have hd := dec_digits n.toNat
    cases hdd : Lib.decDigits n.toNat with
    | nil => exact absurd hdd (dec_ne _)
    | cons c r =>
      rw [hdd] at hd
      exact ⟨c, r, rfl, .inr (hd c (by simp)), fun d h => hd d (by simp [h])⟩
theorem num_hard {c : UInt8} (h : c = 45 ∨ isDigit c = true) : isBlank c = false ∧ c ≠ 47 ∧ isFirst c = false ∧ (isDigit c || c == 45) = true := by
  rcases h with rfl | h
  · decide
  · simp only [isDigit, Bool.and_eq_true, decide_eq_true_eq] at h
    refine ⟨?_, ?_, ?_, ?_⟩
    · simp only [isBlank, Bool.or_eq_false_iff, beq_eq_false_iff_ne]
      refine ⟨⟨⟨?_, ?_⟩, ?_⟩, ?_⟩ <;> (rintro rfl; simp at h)
    · rintro rfl; simp at h
    · have h95 : (c == 95) = false := by
        rw [beq_eq_false_iff_ne]; rintro rfl; simp at h
      simp only [isFirst, h95, Bool.or_false, Bool.or_eq_false_iff, Bool.and_eq_false_iff, decide_eq_false_iff_not]
      omega
    · simp [isDigit, h]
theorem Lexed.nu {n : Int} (h : inr n) {d : UInt8} (hd : isDigit d = false) {l : List UInt8} {X : List T} (hl : Lexed (d :: l) X) : Lexed (Lib.itoa n ++ d :: l) (tNu n :: X) := by
  obtain ⟨c, r, hc, hcc, hr⟩ := itoa_form n
  obtain ⟨h1, h2, h3, h4⟩ := num_hard hcc
  have hn := numOf_itoa h.1 h.2
  unfold tNu
  rw [hc] at hn ⊢
  have hs : span isDigit (r ++ d :: l) = r.length := by rw [span_app isDigit d hd, span_whole isDigit r hr]
  refine Lexed.tok (y := c :: r) (ws_hard h1 h2 _) (by simp) ?_ hl
  simp [tk, h3, h4, hs, hn]
theorem lexed_pcs : ∀ (l : List Pce), (∀ p ∈ l, p.ok) → Lexed (bytP l) (tksP l)
  | [], _ => Lexed.nil
  | q :: l, h => by
    have ih := lexed_pcs l fun p hp => h p (by simp [hp])
    have hq := h q (by simp)
    have e1 : bytP (q :: l) = q.byt ++ bytP l := by simp [bytP]
    have e2 : tksP (q :: l) = q.tks ++ tksP l := by simp [tksP]
    rw [e1, e2]
    cases q with
    | bl c => exact ih.bl hq
    | sg c => exact ih.sg hq
    | nb x =>
      simp only [Pce.byt, Pce.tks, List.append_assoc, List.singleton_append, List.cons_append, List.nil_append]
      exact Lexed.nm hq (by decide) (ih.bl (by decide))
    | ns x c =>
      simp only [Pce.byt, Pce.tks, List.append_assoc, List.singleton_append, List.cons_append, List.nil_append]
      exact Lexed.nm hq.1 (sign_hard hq.2).2.2.2.2.2.1 (ih.sg hq.2)
    | us n c =>
      simp only [Pce.byt, Pce.tks, List.append_assoc, List.singleton_append, List.cons_append, List.nil_append]
      exact Lexed.nu hq.1 (sign_hard hq.2).2.2.2.2.2.2 (ih.sg hq.2)
theorem bytP_app (a b : List Pce) : bytP (a ++ b) = bytP a ++ bytP b := by simp [bytP]
theorem tksP_app (a b : List Pce) : tksP (a ++ b) = tksP a ++ tksP b := by simp [tksP]
end Go.Proofs.YtldgfepimegbmaaDoor
/-
  What is plain of a file that is read: how it is made of items, and how many tokens it has at most.
-/
namespace Go.Proofs.YtldgfepimegbmaaDoor
set_option maxRecDepth 100000

/-! ### Items -/
inductive Itm where
  | fd (d : Fd)
  | one (x : List UInt8) (l : List Fd)
def setOne (k : Nat) (d : Fd) : Fd := { d with one := k }
/-- The fields of items, behind so many oneofs. -/
def Fs : Nat → List Itm → List Fd
  | _, [] => []
  | j, .fd d :: r => d :: Fs j r
  | j, .one _ l :: r => l.map (setOne (j + 1)) ++ Fs (j + 1) r
def OsI : List Itm → List (List UInt8)
  | [] => []
  | .fd _ :: r => OsI r
  | .one x _ :: r => x :: OsI r
theorem Os_app : ∀ (a b : List Itm), OsI (a ++ b) = OsI a ++ OsI b
  | [], _ => rfl
  | .fd _ :: r, b => by simp [OsI, Os_app r b]
  | .one _ _ :: r, b => by simp [OsI, Os_app r b]
theorem Fs_app : ∀ (a b : List Itm) (j : Nat), Fs j (a ++ b) = Fs j a ++ Fs (j + (OsI a).length) b
  | [], _, _ => by simp [Fs, OsI]
  | .fd _ :: r, b, j => by simp [Fs, OsI, Fs_app r b]
  | .one _ _ :: r, b, j => by simp [Fs, OsI, Fs_app r b, Nat.add_assoc, Nat.add_comm 1]
/-- A field's type, ahead of its name. -/
def okT (d : Fd) : Prop := d.one = 0 ∧ nameOK d.type ∧ ((d.key = [] ∧ (d.rep = true ∨ (d.type ≠ wRepeated ∧ d.type ≠ wOneof ∧ d.type ≠ wReserved))) ∨ (nameOK d.key ∧ d.rep = false))
def okO (d : Fd) : Prop := d.key = [] ∧ d.rep = false ∧ nameOK d.type
def okE (d : Fd) : Prop := nameOK d.name ∧ inr d.no
def Itm.ok : Itm → Prop
  | .fd d => okT d ∧ okE d
  | .one x l => nameOK x ∧ ∀ d ∈ l, okO d ∧ okE d
structure MW (m : Ms) : Prop where
  name : nameOK m.name
  its : ∃ its : List Itm, (∀ i ∈ its, i.ok) ∧ m.F = Fs 0 its ∧ m.ones = OsI its
  res : ∀ n ∈ m.res, inr n
structure MO (m : Ms) : Prop where
  name : nameOK m.name
  its : ∃ (its : List Itm) (x : List UInt8) (l : List Fd), (∀ i ∈ its, i.ok) ∧ (Itm.one x l).ok ∧ m.F = Fs 0 (its ++ [.one x l]) ∧ m.ones = OsI (its ++ [.one x l])
  res : ∀ n ∈ m.res, inr n
structure EW (e : En) : Prop where
  name : nameOK e.name
  V : ∀ v ∈ e.V, nameOK v.name ∧ inr v.n
structure FW (f : Fl) : Prop where
  M : ∀ m ∈ f.M, MW m
  E : ∀ e ∈ f.E, EW e
theorem MO.mw {m : Ms} (h : MO m) : MW m := by
  obtain ⟨its, x, l, h1, h2, h3, h4⟩ := h.its
  refine ⟨h.name, ⟨its ++ [.one x l], ?_, h3, h4⟩, h.res⟩
  intro i hi
  rcases List.mem_append.1 hi with hi | hi
  · exact h1 i hi
  · obtain rfl := List.mem_singleton.1 hi
    exact h2
theorem MW.add {m : Ms} (h : MW m) {d : Fd} (h1 : okT d) (h2 : okE d) : MW (m.add d) := by
  obtain ⟨its, g1, g2, g3⟩ := h.its
  refine ⟨h.name, ⟨its ++ [.fd d], ?_, ?_, ?_⟩, h.res⟩
  · intro i hi
    rcases List.mem_append.1 hi with hi | hi
    · exact g1 i hi
    · obtain rfl := List.mem_singleton.1 hi
      exact ⟨h1, h2⟩
  · simp [Ms.add, Fs_app, Fs, g2]
  · simp [Ms.add, Os_app, OsI, g3]
theorem MW.one {m : Ms} (h : MW m) {x : List UInt8} (hx : nameOK x) : MO { m with ones := m.ones ++ [x] } := by
  obtain ⟨its, g1, g2, g3⟩ := h.its
  refine ⟨h.name, ⟨its, x, [], g1, ⟨hx, by simp⟩, ?_, ?_⟩, h.res⟩
  · simp [Fs_app, Fs, g2]
  · simp [Os_app, OsI, g3]
theorem MO.add {m : Ms} (h : MO m) {d : Fd} (h1 : okO d) (h2 : okE d) (h3 : d.one = m.ones.length) : MO (m.add d) := by
  obtain ⟨its, x, l, g1, g2, g3, g4⟩ := h.its
  refine ⟨h.name, ⟨its, x, l ++ [d], g1, ⟨g2.1, ?_⟩, ?_, ?_⟩, h.res⟩
  · intro e he
    rcases List.mem_append.1 he with he | he
    · exact g2.2 e he
    · obtain rfl := List.mem_singleton.1 he
      exact ⟨h1, h2⟩
  · have e1 : setOne ((OsI its).length + 1) d = d := by
      have h5 : d.one = (OsI its).length + 1 := by rw [h3, g4, Os_app]; simp [OsI]
      cases d
      simp only at h5
      simp [setOne, h5]
    simp [Ms.add, Fs_app, Fs, g3, e1]
  · simp [Ms.add, Os_app, OsI, g4]
theorem MW.resv {m : Ms} (h : MW m) {n : Int} (hn : inr n) : MW { m with res := m.res ++ [n] } := by
  refine ⟨h.name, h.its, ?_⟩
  intro k hk
  rcases List.mem_append.1 hk with hk | hk
  · exact h.res k hk
  · obtain rfl := List.mem_singleton.1 hk
    exact hn
theorem EW.add {e : En} (h : EW e) {v : Vl} (h1 : nameOK v.name) (h2 : inr v.n) : EW { e with V := e.V ++ [v] } := by
  refine ⟨h.name, ?_⟩
  intro k hk
  rcases List.mem_append.1 hk with hk | hk
  · exact h.V k hk
  · obtain rfl := List.mem_singleton.1 hk
    exact ⟨h1, h2⟩
theorem FW.addM {f : Fl} (h : FW f) {m : Ms} (hm : MW m) : FW (f.addM m) := by
  refine ⟨?_, h.E⟩
  intro k hk
  rcases List.mem_append.1 hk with hk | hk
  · exact h.M k hk
  · obtain rfl := List.mem_singleton.1 hk
    exact hm
theorem FW.addE {f : Fl} (h : FW f) {m : En} (hm : EW m) : FW (f.addE m) := by
  refine ⟨h.M, ?_⟩
  intro k hk
  rcases List.mem_append.1 hk with hk | hk
  · exact h.E k hk
  · obtain rfl := List.mem_singleton.1 hk
    exact hm

/-! ### The machine -/
def DW (c : C) : Prop := (c.o = true ∧ MO c.m ∧ okO c.d ∧ c.d.one = c.m.ones.length) ∨ (c.o = false ∧ MW c.m ∧ okT c.d)
def PcI (c : C) : Prop :=
  match c.pc with
  | .top => True
  | .m1 => c.o = false ∧ c.m.F = [] ∧ c.m.ones = [] ∧ c.m.res = []
  | .m2 => c.o = false ∧ MW c.m
  | .it => c.o = false ∧ MW c.m
  | .ty => c.o = false ∧ MW c.m ∧ c.d.rep = true ∧ c.d.key = [] ∧ c.d.one = 0
  | .mp => c.o = false ∧ MW c.m ∧ c.d.type = wMap ∧ c.d.rep = false ∧ c.d.key = [] ∧ c.d.one = 0
  | .key => c.o = false ∧ MW c.m ∧ c.d.rep = false ∧ c.d.one = 0
  | .comma => c.o = false ∧ MW c.m ∧ c.d.rep = false ∧ c.d.one = 0 ∧ nameOK c.d.key
  | .vty => c.o = false ∧ MW c.m ∧ c.d.rep = false ∧ c.d.one = 0 ∧ nameOK c.d.key
  | .gt => c.o = false ∧ MW c.m ∧ c.d.rep = false ∧ c.d.one = 0 ∧ nameOK c.d.key ∧ nameOK c.d.type
  | .nm => DW c
  | .eq => DW c ∧ nameOK c.d.name
  | .no => DW c ∧ nameOK c.d.name
  | .semi => DW c ∧ okE c.d
  | .o1 => c.o = false ∧ MW c.m
  | .o2 => c.o = false ∧ MO c.m
  | .oi => c.o = false ∧ MO c.m
  | .r1 => c.o = false ∧ MW c.m
  | .r2 => c.o = false ∧ MW c.m
  | .e1 => c.e.V = []
  | .e2 => EW c.e
  | .ei => EW c.e
  | .v1 => EW c.e ∧ nameOK c.v.name
  | .v2 => EW c.e ∧ nameOK c.v.name
  | .v3 => EW c.e ∧ nameOK c.v.name ∧ inr c.v.n
structure Inv (c : C) : Prop where
  f : FW c.f
  p : PcI c
theorem isN_ok {t : T} (ht : tokOK t) (h : isN t = true) : nameOK t.text := ht.1 (by simpa [isN] using h)
theorem isNum_ok {t : T} (ht : tokOK t) (h : isNum t = true) : inr t.num := ht.2 (by simpa [isNum] using h)
theorem isW_no {t : T} {x : List UInt8} (hn : isN t = true) (h : ¬ isW t x = true) : t.text ≠ x := by
  rintro rfl
  exact h (by simp only [isN] at hn; simp [isW, hn])
theorem map_ok : nameOK wMap ∧ wMap ≠ wRepeated ∧ wMap ≠ wOneof ∧ wMap ≠ wReserved := by
  refine ⟨⟨⟨109, [97, 112], rfl, by decide, by decide⟩, by decide⟩, by decide, by decide, by decide⟩
set_option maxHeartbeats 1000000 in
theorem step_inv {c c' : C} {t : T} (ht : tokOK t) (h : Inv c) (hs : step c t = some c') : Inv c' := by
  obtain ⟨hf, hp⟩ := h
  obtain ⟨pc, f, m, d, o, e, v⟩ := c
  simp only at hf
  cases pc <;> simp only [step] at hs <;> simp only [PcI] at hp
  case top =>
    split at hs
    · obtain rfl := Option.some.inj hs
      exact ⟨hf, rfl⟩
    · split at hs
      · obtain rfl := Option.some.inj hs
        exact ⟨hf, rfl, rfl, rfl, rfl⟩
      · cases hs
  case m1 =>
    split at hs
    · rename_i h1
      obtain rfl := Option.some.inj hs
      obtain ⟨p1, p2, p3, p4⟩ := hp
      refine ⟨hf, p1, isN_ok ht h1, ⟨[], by simp, by simp [Fs, p2], by simp [OsI, p3]⟩, by simp [p4]⟩
    · cases hs
  case m2 =>
    split at hs
    · obtain rfl := Option.some.inj hs
      exact ⟨hf, hp⟩
    · cases hs
  case it =>
    obtain ⟨p1, p2⟩ := hp
    split at hs
    · obtain rfl := Option.some.inj hs
      exact ⟨hf.addM p2, trivial⟩
    · split at hs
      · obtain rfl := Option.some.inj hs
        exact ⟨hf, p1, p2, rfl, rfl, rfl⟩
      · split at hs
        · obtain rfl := Option.some.inj hs
          exact ⟨hf, p1, p2⟩
        · split at hs
          · obtain rfl := Option.some.inj hs
            exact ⟨hf, p1, p2⟩
          · split at hs
            · obtain rfl := Option.some.inj hs
              exact ⟨hf, p1, p2, rfl, rfl, rfl, rfl⟩
            · split at hs
              · rename_i n1 n2 n3 n4 hn
                obtain rfl := Option.some.inj hs
                exact ⟨hf, .inr ⟨p1, p2, rfl, isN_ok ht hn, .inl ⟨rfl, .inr ⟨isW_no hn n1, isW_no hn n2, isW_no hn n3⟩⟩⟩⟩
              · cases hs
  case ty =>
    obtain ⟨p1, p2, p3, p4, p5⟩ := hp
    split at hs
    · rename_i hn
      obtain rfl := Option.some.inj hs
      exact ⟨hf, .inr ⟨p1, p2, p5, isN_ok ht hn, .inl ⟨p4, .inl p3⟩⟩⟩
    · cases hs
  case mp =>
    obtain ⟨p1, p2, p3, p4, p5, p6⟩ := hp
    split at hs
    · obtain rfl := Option.some.inj hs
      exact ⟨hf, p1, p2, p4, p6⟩
    · split at hs
      · rename_i hn
        obtain rfl := Option.some.inj hs
        refine ⟨hf, .inr ⟨p1, p2, p6, ?_, .inl ⟨p5, .inr ?_⟩⟩, isN_ok ht hn⟩
        · show nameOK d.type
          rw [p3]; exact map_ok.1
        · show d.type ≠ _ ∧ d.type ≠ _ ∧ d.type ≠ _
          rw [p3]; exact map_ok.2
      · cases hs
  case key =>
    obtain ⟨p1, p2, p3, p4⟩ := hp
    split at hs
    · rename_i hn
      obtain rfl := Option.some.inj hs
      exact ⟨hf, p1, p2, p3, p4, isN_ok ht hn⟩
    · cases hs
  case comma =>
    split at hs
    · obtain rfl := Option.some.inj hs
      exact ⟨hf, hp⟩
    · cases hs
  case vty =>
    obtain ⟨p1, p2, p3, p4, p5⟩ := hp
    split at hs
    · rename_i hn
      obtain rfl := Option.some.inj hs
      exact ⟨hf, p1, p2, p3, p4, p5, isN_ok ht hn⟩
    · cases hs
  case gt =>
    obtain ⟨p1, p2, p3, p4, p5, p6⟩ := hp
    split at hs
    · obtain rfl := Option.some.inj hs
      exact ⟨hf, .inr ⟨p1, p2, p4, p6, .inr ⟨p5, p3⟩⟩⟩
    · cases hs
  case nm =>
    split at hs
    · rename_i hn
      obtain rfl := Option.some.inj hs
      exact ⟨hf, hp, isN_ok ht hn⟩
    · cases hs
  case eq =>
    split at hs
    · obtain rfl := Option.some.inj hs
      exact ⟨hf, hp⟩
    · cases hs
  case no =>
    split at hs
    · rename_i hn
      obtain rfl := Option.some.inj hs
      exact ⟨hf, hp.1, hp.2, isNum_ok ht hn⟩
    · cases hs
  case semi =>
    split at hs
    · obtain rfl := Option.some.inj hs
      obtain ⟨h1 | h1, h2⟩ := hp
      · obtain ⟨rfl, q1, q2, q3⟩ := h1
        exact ⟨hf, rfl, q1.add q2 h2 q3⟩
      · obtain ⟨rfl, q1, q2⟩ := h1
        exact ⟨hf, rfl, q1.add q2 h2⟩
    · cases hs
  case o1 =>
    split at hs
    · rename_i hn
      obtain rfl := Option.some.inj hs
      exact ⟨hf, hp.1, hp.2.one (isN_ok ht hn)⟩
    · cases hs
  case o2 =>
    split at hs
    · obtain rfl := Option.some.inj hs
      exact ⟨hf, hp⟩
    · cases hs
  case oi =>
    split at hs
    · obtain rfl := Option.some.inj hs
      exact ⟨hf, hp.1, hp.2.mw⟩
    · split at hs
      · rename_i hn
        obtain rfl := Option.some.inj hs
        exact ⟨hf, .inl ⟨rfl, hp.2, ⟨rfl, rfl, isN_ok ht hn⟩, rfl⟩⟩
      · cases hs
  case r1 =>
    split at hs
    · rename_i hn
      obtain rfl := Option.some.inj hs
      exact ⟨hf, hp.1, hp.2.resv (isNum_ok ht hn)⟩
    · cases hs
  case r2 =>
    split at hs
    · obtain rfl := Option.some.inj hs
      exact ⟨hf, hp⟩
    · split at hs
      · obtain rfl := Option.some.inj hs
        exact ⟨hf, hp⟩
      · cases hs
  case e1 =>
    split at hs
    · rename_i hn
      obtain rfl := Option.some.inj hs
      exact ⟨hf, isN_ok ht hn, by simp [hp]⟩
    · cases hs
  case e2 =>
    split at hs
    · obtain rfl := Option.some.inj hs
      exact ⟨hf, hp⟩
    · cases hs
  case ei =>
    split at hs
    · obtain rfl := Option.some.inj hs
      exact ⟨hf.addE hp, trivial⟩
    · split at hs
      · rename_i hn
        obtain rfl := Option.some.inj hs
        exact ⟨hf, hp, isN_ok ht hn⟩
      · cases hs
  case v1 =>
    split at hs
    · obtain rfl := Option.some.inj hs
      exact ⟨hf, hp⟩
    · cases hs
  case v2 =>
    split at hs
    · rename_i hn
      obtain rfl := Option.some.inj hs
      exact ⟨hf, hp.1, hp.2, isNum_ok ht hn⟩
    · cases hs
  case v3 =>
    split at hs
    · obtain rfl := Option.some.inj hs
      exact ⟨hf, hp.1.add hp.2.1 hp.2.2⟩
    · cases hs
theorem run_inv : ∀ (l : List T) (c : C), (∀ t ∈ l, tokOK t) → Inv c → Inv (run c l).1
  | [], c, _, h => h
  | t :: l, c, ht, h => by
    cases hs : step c t with
    | none => rw [run_none hs]; exact h
    | some c' =>
      rw [run_some hs]
      exact run_inv l c' (fun u hu => ht u (by simp [hu])) (step_inv (ht t (by simp)) h hs)

/-! ### How many tokens -/
def pre (d : Fd) : Nat := if d.key = [] then (if d.rep then 2 else 1) else 6
def resC (l : List Int) : Nat := if l = [] then 0 else 2 * l.length + 1
def body (m : Ms) : Nat := (m.F.map fun d => pre d + 4).sum + 4 * m.ones.length + resC m.res
def cost (f : Fl) : Nat := (f.M.map fun m => 4 + body m).sum + (f.E.map fun e => 4 + 4 * e.V.length).sum
def bo (c : C) : Nat := if c.o then 2 else 3
def Phi (c : C) : Nat :=
  cost c.f + match c.pc with
  | .top => 0
  | .m1 => 1
  | .m2 => 2
  | .it => 3 + body c.m
  | .ty => bo c + body c.m + pre c.d - 1
  | .mp => bo c + body c.m + pre c.d
  | .key => bo c + body c.m + 2
  | .comma => bo c + body c.m + 3
  | .vty => bo c + body c.m + 4
  | .gt => bo c + body c.m + 5
  | .nm => bo c + body c.m + pre c.d
  | .eq => bo c + body c.m + pre c.d + 1
  | .no => bo c + body c.m + pre c.d + 2
  | .semi => bo c + body c.m + pre c.d + 3
  | .o1 => 4 + body c.m
  | .o2 => 1 + body c.m
  | .oi => 2 + body c.m
  | .r1 => 3 + body c.m + (if c.m.res = [] then 1 else 0)
  | .r2 => 2 + body c.m
  | .e1 => 1
  | .e2 => 2
  | .ei => 3 + 4 * c.e.V.length
  | .v1 => 4 + 4 * c.e.V.length
  | .v2 => 5 + 4 * c.e.V.length
  | .v3 => 6 + 4 * c.e.V.length
theorem body_add (m : Ms) (d : Fd) : body (m.add d) = body m + pre d + 4 := by simp [body, Ms.add]; omega
theorem body_one (m : Ms) (x : List UInt8) : body { m with ones := m.ones ++ [x] } = body m + 4 := by simp [body]; omega
theorem body_res (m : Ms) (n : Int) : body { m with res := m.res ++ [n] } = body m + (if m.res = [] then 3 else 2) := by
  simp only [body, resC]
  by_cases h : m.res = [] <;> simp [h] <;> omega
theorem cost_addM (f : Fl) (m : Ms) : cost (f.addM m) = cost f + 4 + body m := by simp [cost, Fl.addM]; omega
theorem cost_addE (f : Fl) (e : En) : cost (f.addE e) = cost f + 4 + 4 * e.V.length := by simp [cost, Fl.addE]; omega
theorem pre_ge (d : Fd) : 1 ≤ pre d ∧ pre d ≤ 6 := by unfold pre; split <;> (try split) <;> omega
/-- What a state costs, and how that grows. -/
structure PhiI (c : C) : Prop where
  m1 : c.pc = .m1 → c.m.F = [] ∧ c.m.ones = [] ∧ c.m.res = []
  m2 : c.pc = .m2 → c.m.F = [] ∧ c.m.ones = [] ∧ c.m.res = []
  e1 : c.pc = .e1 → c.e.V = []
  e2 : c.pc = .e2 → c.e.V = []
  r2 : c.pc = .r2 → c.m.res ≠ []
set_option maxHeartbeats 1000000 in
theorem step_phi {c c' : C} {t : T} (h : PhiI c) (hs : step c t = some c') : PhiI c' ∧ Phi c' ≤ Phi c + 1 := by
  obtain ⟨g1, g2, g3, g4, g5⟩ := h
  obtain ⟨pc, f, m, d, o, e, v⟩ := c
  have hbo : bo ⟨pc, f, m, d, o, e, v⟩ ≤ 3 := by unfold bo; split <;> omega
  have hd := pre_ge d
  simp only at g1 g2 g3 g4 g5
  cases pc <;> simp only [step] at hs <;> (repeat' (split at hs)) <;> try (cases hs; done)
  all_goals
    obtain rfl := Option.some.inj hs
    refine ⟨?_, ?_⟩
    · refine ⟨?_, ?_, ?_, ?_, ?_⟩ <;> intro hpc <;> first | exact g1 rfl | exact g3 rfl | exact ⟨rfl, rfl, rfl⟩ | rfl | (cases hpc; done) | (simp only at hpc; split at hpc <;> cases hpc) | (simp; done)
    · simp only [Phi, cost_addM, cost_addE, body_one, body_res]
      try simp only [bo] at hbo ⊢
      first
        | omega
        | (obtain ⟨q1, q2, q3⟩ := g2 rfl; simp only [body, q1, q2, q3, resC]; simp; done)
        | (obtain q1 := g4 rfl; simp only [q1]; simp; done)
        | (simp only [pre]; (repeat' split) <;> simp_all <;> omega)
        | (cases o <;> first | contradiction | (simp [body_add]; omega) | (exfalso; simp_all; done))
        | (have q1 := g5 rfl; simp [q1]; omega)
        | (by_cases hq : m.res = [] <;> simp [hq] <;> omega)
theorem run_phi : ∀ (l : List T) (c : C), PhiI c → Phi (run c l).1 ≤ Phi c + l.length
  | [], c, _ => by simp [run]
  | t :: l, c, h => by
    cases hs : step c t with
    | none => rw [run_none hs]; simp only; omega
    | some c' =>
      rw [run_some hs]
      obtain ⟨h1, h2⟩ := step_phi h hs
      have := run_phi l c' h1
      simp only [List.length_cons]
      omega
end Go.Proofs.YtldgfepimegbmaaDoor
/-
  A file that is read, as pieces: their bytes are its text.
-/
namespace Go.Proofs.YtldgfepimegbmaaDoor
set_option maxRecDepth 100000

def typeP (d : Fd) : List Pce := if d.key ≠ [] then [.ns wMap 60, .ns d.key 44, .bl 32, .ns d.type 62, .bl 32] else if d.rep then [.nb wRepeated, .nb d.type] else [.nb d.type]
def fieldP (d : Fd) : List Pce := typeP d ++ [.nb d.name, .sg 61, .bl 32, .us d.no 59, .bl 10]
def itmP : Itm → List Pce
  | .fd d => [.bl 32, .bl 32] ++ fieldP d
  | .one x l => [.bl 32, .bl 32, .nb wOneof, .nb x, .sg 123, .bl 10] ++ (l.flatMap fun d => [.bl 32, .bl 32, .bl 32, .bl 32] ++ fieldP d) ++ [.bl 32, .bl 32, .sg 125, .bl 10]
def numsP : Int → List Int → List Pce
  | n, [] => [.us n 59]
  | n, k :: l => .us n 44 :: .bl 32 :: numsP k l
def resP : List Int → List Pce
  | [] => []
  | n :: l => [.bl 32, .bl 32, .nb wReserved] ++ numsP n l ++ [.bl 10]
def msgP (name : List UInt8) (its : List Itm) (res : List Int) : List Pce := [.nb wMessage, .nb name, .sg 123, .bl 10] ++ its.flatMap itmP ++ resP res ++ [.sg 125, .bl 10]
def valP (v : Vl) : List Pce := [.bl 32, .bl 32, .nb v.name, .sg 61, .bl 32, .us v.n 59, .bl 10]
def enP (e : En) : List Pce := [.nb wEnum, .nb e.name, .sg 123, .bl 10] ++ e.V.flatMap valP ++ [.sg 125, .bl 10]

/-! ### They are pieces -/
theorem word_ok {x : List UInt8} (h : x = wMap ∨ x = wRepeated ∨ x = wOneof ∨ x = wReserved ∨ x = wMessage ∨ x = wEnum) : nameOK x := by
  rcases h with rfl | rfl | rfl | rfl | rfl | rfl <;> exact ⟨⟨_, _, rfl, by decide, by decide⟩, by decide⟩
theorem typeP_ok {d : Fd} (ht : nameOK d.type) (hk : d.key = [] ∨ nameOK d.key) : ∀ p ∈ typeP d, p.ok := by
  intro p hp
  unfold typeP at hp
  split at hp
  · rename_i h
    have hk' : nameOK d.key := by rcases hk with h1 | h1; exact absurd h1 h; exact h1
    simp only [List.mem_cons, List.not_mem_nil, or_false] at hp
    rcases hp with rfl | rfl | rfl | rfl | rfl
    · exact ⟨word_ok (by simp), by decide⟩
    · exact ⟨hk', by decide⟩
    · exact (by decide : isBlank 32 = true)
    · exact ⟨ht, by decide⟩
    · exact (by decide : isBlank 32 = true)
  · split at hp
    · simp only [List.mem_cons, List.not_mem_nil, or_false] at hp
      rcases hp with rfl | rfl
      · exact word_ok (by simp)
      · exact ht
    · simp only [List.mem_cons, List.not_mem_nil, or_false] at hp
      subst hp
      exact ht
theorem fieldP_ok {d : Fd} (ht : nameOK d.type) (hk : d.key = [] ∨ nameOK d.key) (he : okE d) : ∀ p ∈ fieldP d, p.ok := by
  intro p hp
  rcases List.mem_append.1 hp with hp | hp
  · exact typeP_ok ht hk p hp
  · simp only [List.mem_cons, List.not_mem_nil, or_false] at hp
    rcases hp with rfl | rfl | rfl | rfl | rfl
    · exact he.1
    · exact (by decide : isSign 61 = true)
    · exact (by decide : isBlank 32 = true)
    · exact ⟨he.2, by decide⟩
    · exact (by decide : isBlank 10 = true)
theorem okT_key {d : Fd} (h : okT d) : d.key = [] ∨ nameOK d.key := by rcases h.2.2 with h | h; exact .inl h.1; exact .inr h.1
theorem itmP_ok : ∀ {i : Itm}, i.ok → ∀ p ∈ itmP i, p.ok
  | .fd d, h, p, hp => by
    simp only [itmP, List.mem_append, List.mem_cons, List.not_mem_nil, or_false] at hp
    rcases hp with (rfl | rfl) | hp
    · exact (by decide : isBlank 32 = true)
    · exact (by decide : isBlank 32 = true)
    · exact fieldP_ok h.1.2.1 (okT_key h.1) h.2 p hp
  | .one x l, h, p, hp => by
    simp only [itmP, List.mem_append, List.mem_cons, List.not_mem_nil, or_false, List.mem_flatMap] at hp
    rcases hp with ((rfl | rfl | rfl | rfl | rfl | rfl) | ⟨d, hd, (rfl | rfl | rfl | rfl) | hp⟩) | (rfl | rfl | rfl | rfl)
    · exact (by decide : isBlank 32 = true)
    · exact (by decide : isBlank 32 = true)
    · exact word_ok (by simp)
    · exact h.1
    · exact (by decide : isSign 123 = true)
    · exact (by decide : isBlank 10 = true)
    · exact (by decide : isBlank 32 = true)
    · exact (by decide : isBlank 32 = true)
    · exact (by decide : isBlank 32 = true)
    · exact (by decide : isBlank 32 = true)
    · exact fieldP_ok (h.2 d hd).1.2.2 (.inl (h.2 d hd).1.1) (h.2 d hd).2 p hp
    · exact (by decide : isBlank 32 = true)
    · exact (by decide : isBlank 32 = true)
    · exact (by decide : isSign 125 = true)
    · exact (by decide : isBlank 10 = true)
theorem numsP_ok : ∀ (l : List Int) (n : Int), inr n → (∀ k ∈ l, inr k) → ∀ p ∈ numsP n l, p.ok
  | [], n, hn, _, p, hp => by
    simp only [numsP, List.mem_cons, List.not_mem_nil, or_false] at hp
    subst hp
    exact ⟨hn, by decide⟩
  | k :: l, n, hn, hl, p, hp => by
    simp only [numsP, List.mem_cons] at hp
    rcases hp with rfl | rfl | hp
    · exact ⟨hn, by decide⟩
    · exact (by decide : isBlank 32 = true)
    · exact numsP_ok l k (hl k (by simp)) (fun j hj => hl j (by simp [hj])) p hp
theorem resP_ok {l : List Int} (h : ∀ n ∈ l, inr n) : ∀ p ∈ resP l, p.ok := by
  intro p hp
  cases l with
  | nil => simp [resP] at hp
  | cons n l =>
    simp only [resP, List.mem_append, List.mem_cons, List.not_mem_nil, or_false] at hp
    rcases hp with ((rfl | rfl | rfl) | hp) | rfl
    · exact (by decide : isBlank 32 = true)
    · exact (by decide : isBlank 32 = true)
    · exact word_ok (by simp)
    · exact numsP_ok l n (h n (by simp)) (fun k hk => h k (by simp [hk])) p hp
    · exact (by decide : isBlank 10 = true)
theorem msgP_ok {name : List UInt8} {its : List Itm} {res : List Int} (h1 : nameOK name) (h2 : ∀ i ∈ its, i.ok) (h3 : ∀ n ∈ res, inr n) : ∀ p ∈ msgP name its res, p.ok := by
  intro p hp
  simp only [msgP, List.mem_append, List.mem_cons, List.not_mem_nil, or_false, List.mem_flatMap] at hp
  rcases hp with (((rfl | rfl | rfl | rfl) | ⟨i, hi, hp⟩) | hp) | (rfl | rfl)
  · exact word_ok (by simp)
  · exact h1
  · exact (by decide : isSign 123 = true)
  · exact (by decide : isBlank 10 = true)
  · exact itmP_ok (h2 i hi) p hp
  · exact resP_ok h3 p hp
  · exact (by decide : isSign 125 = true)
  · exact (by decide : isBlank 10 = true)
theorem enP_ok {e : En} (h : EW e) : ∀ p ∈ enP e, p.ok := by
  intro p hp
  simp only [enP, valP, List.mem_append, List.mem_cons, List.not_mem_nil, or_false, List.mem_flatMap] at hp
  rcases hp with ((rfl | rfl | rfl | rfl) | ⟨v, hv, rfl | rfl | rfl | rfl | rfl | rfl | rfl⟩) | (rfl | rfl)
  · exact word_ok (by simp)
  · exact h.name
  · exact (by decide : isSign 123 = true)
  · exact (by decide : isBlank 10 = true)
  · exact (by decide : isBlank 32 = true)
  · exact (by decide : isBlank 32 = true)
  · exact (h.V v hv).1
  · exact (by decide : isSign 61 = true)
  · exact (by decide : isBlank 32 = true)
  · exact ⟨(h.V v hv).2, by decide⟩
  · exact (by decide : isBlank 10 = true)
  · exact (by decide : isSign 125 = true)
  · exact (by decide : isBlank 10 = true)

/-! ### Their bytes -/
theorem fieldP_byt (a : List UInt8) (d : Fd) : a ++ bytP (fieldP d) = fieldB a d := by
  unfold fieldP typeP fieldB typeB lineB digB
  rw [bytP_app]
  split
  · simp [bytP, Pce.byt, wMap]
  · split
    · simp [bytP, Pce.byt, wRepeated]
    · simp [bytP, Pce.byt]
theorem numsP_byt : ∀ (l : List Int) (n : Int), bytP (numsP n l) = digB n ++ numsB [44, 32] l ++ [59]
  | [], n => by simp [numsP, bytP, Pce.byt, numsB, digB]
  | k :: l, n => by
    have ih := numsP_byt l k
    have e : bytP (numsP n (k :: l)) = digB n ++ [44, 32] ++ bytP (numsP k l) := by simp [numsP, bytP, Pce.byt, digB]
    rw [e, ih]
    simp [numsB, digB]
theorem resP_byt (l : List Int) : bytP (resP l) = if l = [] then [] else resB l := by
  cases l with
  | nil => rfl
  | cons n l =>
    rw [if_neg (by simp)]
    simp only [resP]
    rw [bytP_app, bytP_app, numsP_byt]
    simp [bytP, Pce.byt, resB, numsB, lineB, wReserved]
theorem valP_byt (v : Vl) : bytP (valP v) = valB v := by simp [valP, bytP, Pce.byt, valB, lineB, digB]
theorem flat_byt {α : Type} (g : α → List Pce) (h : α → List UInt8) (he : ∀ x, bytP (g x) = h x) : ∀ l : List α, bytP (l.flatMap g) = (l.map h).flatten
  | [] => rfl
  | x :: l => by
    rw [List.flatMap_cons, bytP_app, he, flat_byt g h he l]; simp
theorem enP_byt (e : En) : bytP (enP e) = enumB e := by
  unfold enP enumB
  rw [bytP_app, bytP_app, flat_byt valP valB valP_byt]
  simp [bytP, Pce.byt, lineB, wEnum]
def itmB : Itm → List UInt8
  | .fd d => fieldB [32, 32] d
  | .one x l => lineB [[32, 32], wOneof, [32], x, [32, 123]] ++ fieldsB [32, 32, 32, 32] l ++ lineB [[32, 32], [125]]
theorem itmP_byt : ∀ i : Itm, bytP (itmP i) = itmB i
  | .fd d => by
    simp only [itmP]
    rw [bytP_app, show bytP [.bl 32, .bl 32] = [32, 32] from rfl, fieldP_byt]; rfl
  | .one x l => by
    simp only [itmP]
    rw [bytP_app, bytP_app, flat_byt (fun d => [Pce.bl 32, Pce.bl 32, Pce.bl 32, Pce.bl 32] ++ fieldP d) (fieldB [32, 32, 32, 32]) (fun d => by rw [bytP_app]; exact fieldP_byt [32, 32, 32, 32] d)]
    simp [bytP, Pce.byt, itmB, lineB, fieldsB, wOneof]

/-! ### What is printed of items -/
theorem mem_fold (n k : Nat) : ∀ (l : List Fd) (ms : List (List Fd)), k < ms.length → ms.length = n → ((l.foldl (memStep n) ms).getD k []) = ms.getD k [] ++ l.filter fun d => d.one == k + 1
  | [], ms, _, _ => by simp
  | d :: l, ms, hk, hn => by
    rw [List.foldl_cons, mem_fold n k l (memStep n ms d) (by rw [memStep_length]; exact hk) (by rw [memStep_length]; exact hn), List.filter_cons]
    unfold memStep inOne
    by_cases h : d.one = k + 1
    · have h1 : (decide (0 < d.one) && decide (d.one ≤ n)) = true := by simp; omega
      rw [if_pos h1, h, Nat.add_sub_cancel]
      simp [List.getD_eq_getElem?_getD, hk]
    · have h2 : (d.one == k + 1) = false := by simpa using h
      simp only [h2, Bool.false_eq_true, if_false]
      split
      · rename_i h3
        simp only [Bool.and_eq_true, decide_eq_true_eq] at h3
        rw [List.getD_eq_getElem?_getD, List.getElem?_set_ne (by omega), ← List.getD_eq_getElem?_getD]
      · rfl
theorem memsB_get (n k : Nat) (hk : k < n) (l : List Fd) : (memsB n l).getD k [] = l.filter fun d => d.one == k + 1 := by
  unfold memsB
  rw [mem_fold n k l _ (by simpa using hk) (by simp)]
  simp [List.getD_eq_getElem?_getD, hk]
/-- Oneofs behind so many have greater numbers. -/
theorem Fs_ge : ∀ (its : List Itm) (j : Nat), (∀ i ∈ its, i.ok) → ∀ d ∈ Fs j its, d.one = 0 ∨ (j < d.one ∧ d.one ≤ j + (OsI its).length)
  | [], _, _, d, hd => by simp [Fs] at hd
  | .fd e :: r, j, h, d, hd => by
    simp only [Fs, List.mem_cons] at hd
    rcases hd with rfl | hd
    · exact .inl (h (.fd d) (by simp)).1.1
    · exact Fs_ge r j (fun i hi => h i (by simp [hi])) d hd
  | .one x l :: r, j, h, d, hd => by
    simp only [Fs, List.mem_append, List.mem_map] at hd
    simp only [OsI, List.length_cons]
    rcases hd with ⟨e, _, rfl⟩ | hd
    · right; simp only [setOne]; omega
    · rcases Fs_ge r (j + 1) (fun i hi => h i (by simp [hi])) d hd with h1 | h1
      · exact .inl h1
      · right; omega
def setMap (j : Nat) (l : List Fd) : List Fd := l.map (setOne j)
theorem fieldB_set (a : List UInt8) (j : Nat) (d : Fd) : fieldB a (setOne j d) = fieldB a d := rfl
theorem fieldsB_set (a : List UInt8) (j : Nat) (l : List Fd) : fieldsB a (l.map (setOne j)) = fieldsB a l := by
  unfold fieldsB
  rw [List.map_map]
  rfl
theorem skip_ones (ones : List (List UInt8)) (j : Nat) (hj : j < ones.length) (X : List Fd) : ∀ (l : List Fd) (ms : List (List Fd)), ms.getD j [] = [] → itemsB ones ms (l.map (setOne (j + 1)) ++ X) = itemsB ones (if l = [] then ms else ms.set j []) X
  | [], ms, _ => by simp
  | d :: l, ms, hm => by
    rw [List.map_cons, List.cons_append]
    have h1 : inOne ones.length (setOne (j + 1) d) = true := by have e : (setOne (j + 1) d).one = j + 1 := rfl; simp only [inOne, e, Bool.and_eq_true, decide_eq_true_eq]; omega
    have h2 : ((setOne (j + 1) d).one - 1) = j := by simp [setOne]
    simp only [itemsB, h1, if_true, h2, hm]
    have h3 : (ms.set j []).getD j [] = [] := by
      rw [List.getD_eq_getElem?_getD, List.getElem?_set]
      simp only [if_true]
      split <;> rfl
    rw [skip_ones ones j hj X l (ms.set j []) h3]
    simp [oneB]
theorem itemsB_its (ones : List (List UInt8)) : ∀ (its : List Itm) (j : Nat) (ms : List (List Fd)), (∀ i ∈ its, i.ok) → (∀ x l, Itm.one x l ∈ its → l ≠ []) →
    ones.length = j + (OsI its).length → (∀ k, ones[j + k]? = (OsI its)[k]? ∨ (OsI its).length ≤ k) → ms.length = ones.length →
    (∀ k, j ≤ k → k < ones.length → ms.getD k [] = (Fs j its).filter fun d => d.one == k + 1) → itemsB ones ms (Fs j its) = (its.map itmB).flatten
  | [], j, ms, _, _, _, _, _, _ => by simp [Fs, itemsB]
  | .fd d :: r, j, ms, h1, h2, h3, h4, h5, h6 => by
    have hd := (h1 (.fd d) (by simp)).1.1
    have hin : inOne ones.length d = false := by simp [inOne, hd]
    simp only [Fs, itemsB, hin, Bool.false_eq_true, if_false, List.map_cons, List.flatten_cons, itmB]
    congr 1
    refine itemsB_its ones r j ms (fun i hi => h1 i (by simp [hi])) (fun x l hx => h2 x l (by simp [hx])) h3 h4 h5 (fun k hk hk2 => ?_)
    rw [h6 k hk hk2]
    simp [Fs, hd]
  | .one x l :: r, j, ms, h1, h2, h3, h4, h5, h6 => by
    have hl := h2 x l (by simp)
    simp only [OsI, List.length_cons] at h3
    have hj : j < ones.length := by omega
    have hx : ones[j]? = some x := by
      rcases h4 0 with h | h
      · simpa [OsI] using h
      · simp [OsI] at h
    have hr : ∀ i ∈ r, i.ok := fun i hi => h1 i (by simp [hi])
    have hge := Fs_ge r (j + 1) hr
    have hf0 : (Fs (j + 1) r).filter (fun d => d.one == j + 1) = [] := by
      rw [List.filter_eq_nil_iff]
      intro d hd
      have := hge d hd
      simp only [beq_iff_eq]
      omega
    have hfl : ∀ k, (l.map (setOne (j + 1))).filter (fun d => d.one == k + 1) = if k = j then l.map (setOne (j + 1)) else [] := by
      intro k
      split
      · subst k
        rw [List.filter_eq_self]
        intro d hd
        obtain ⟨e, _, rfl⟩ := List.mem_map.1 hd
        simp [setOne]
      · rename_i hkj
        rw [List.filter_eq_nil_iff]
        intro d hd
        obtain ⟨e, _, rfl⟩ := List.mem_map.1 hd
        simp [setOne]
        omega
    have hmj : ms.getD j [] = l.map (setOne (j + 1)) := by
      rw [h6 j (Nat.le_refl _) hj]
      simp only [Fs, List.filter_append, hf0, hfl, if_true, List.append_nil]
    obtain ⟨d0, l', rfl⟩ : ∃ d0 l', l = d0 :: l' := by cases l with | nil => exact absurd rfl hl | cons a b => exact ⟨a, b, rfl⟩
    have hin : inOne ones.length (setOne (j + 1) d0) = true := by have e : (setOne (j + 1) d0).one = j + 1 := rfl; simp only [inOne, e, Bool.and_eq_true, decide_eq_true_eq]; omega
    have e2 : (setOne (j + 1) d0).one - 1 = j := by simp [setOne]
    have hset : (ms.set j []).getD j [] = [] := by
      rw [List.getD_eq_getElem?_getD, List.getElem?_set]
      simp only [if_true]
      split <;> rfl
    simp only [Fs, List.map_cons, List.cons_append, itemsB, hin, if_true, e2, List.flatten_cons]
    rw [skip_ones ones j hj (Fs (j + 1) r) l' (ms.set j []) hset]
    have hsame : (if l' = [] then ms.set j [] else (ms.set j []).set j []) = ms.set j [] := by split <;> simp
    rw [hsame]
    congr 1
    · rw [List.getD_eq_getElem?_getD (l := ones), hx, hmj]
      simp only [Option.getD_some, oneB, itmB]
      rw [if_neg (by simp), fieldsB_set]
    · refine itemsB_its ones r (j + 1) (ms.set j []) hr (fun y k hy => h2 y k (by simp [hy])) (by omega) (fun k => ?_) (by rw [List.length_set, h5]) (fun k hk hk2 => ?_)
      · rcases h4 (k + 1) with h | h
        · left
          rw [show j + 1 + k = j + (k + 1) by omega, h]
          simp [OsI]
        · right
          simp only [OsI, List.length_cons] at h
          omega
      · rw [List.getD_eq_getElem?_getD, List.getElem?_set_ne (by omega), ← List.getD_eq_getElem?_getD, h6 k (by omega) hk2]
        have hkj : ¬ k = j := by omega
        simp only [Fs, List.filter_append, hfl, hkj, if_false, List.nil_append]
/-- A message's text. -/
theorem msgP_byt {m : Ms} {its : List Itm} (h1 : ∀ i ∈ its, i.ok) (h2 : ∀ x l, Itm.one x l ∈ its → l ≠ []) (hF : m.F = Fs 0 its) (hO : m.ones = OsI its) : bytP (msgP m.name its m.res) = messageB m := by
  unfold msgP messageB
  rw [bytP_app, bytP_app, bytP_app, flat_byt itmP itmB itmP_byt, resP_byt, hF, hO]
  rw [itemsB_its (OsI its) its 0 (memsB (OsI its).length (Fs 0 its)) h1 h2 (by omega) (fun k => .inl (by rw [Nat.zero_add])) (memsB_length _ _) (fun k _ hk => memsB_get _ _ hk _)]
  simp [bytP, Pce.byt, lineB, wMessage]
/-- Where each oneof has a field. -/
theorem full_its : ∀ (its : List Itm) (j : Nat), (∀ i ∈ its, i.ok) → (∀ k, j < k → k ≤ j + (OsI its).length → ∃ d ∈ Fs j its, d.one = k) → ∀ x l, Itm.one x l ∈ its → l ≠ []
  | [], _, _, _, x, l, h => by simp at h
  | .fd e :: r, j, h, hf, x, l, hm => by
    simp only [List.mem_cons, reduceCtorEq, false_or] at hm
    refine full_its r j (fun i hi => h i (by simp [hi])) (fun k hk hk2 => ?_) x l hm
    obtain ⟨d, hd, hk3⟩ := hf k hk hk2
    simp only [Fs, List.mem_cons] at hd
    rcases hd with rfl | hd
    · have := (h (.fd d) (by simp)).1.1
      omega
    · exact ⟨d, hd, hk3⟩
  | .one y m :: r, j, h, hf, x, l, hm => by
    have hr : ∀ i ∈ r, i.ok := fun i hi => h i (by simp [hi])
    simp only [OsI, List.length_cons] at hf
    have hge := Fs_ge r (j + 1) hr
    have hmne : m ≠ [] := by
      rintro rfl
      obtain ⟨d, hd, hk3⟩ := hf (j + 1) (by omega) (by omega)
      simp only [Fs, List.map_nil, List.nil_append] at hd
      have := hge d hd
      omega
    rcases List.mem_cons.1 hm with hm | hm
    · injection hm with _ h2
      rw [h2]; exact hmne
    · refine full_its r (j + 1) hr (fun k hk hk2 => ?_) x l hm
      obtain ⟨d, hd, hk3⟩ := hf k (by omega) (by omega)
      simp only [Fs, List.mem_append, List.mem_map] at hd
      rcases hd with ⟨e, _, rfl⟩ | hd
      · simp only [setOne] at hk3; omega
      · exact ⟨d, hd, hk3⟩
end Go.Proofs.YtldgfepimegbmaaDoor
