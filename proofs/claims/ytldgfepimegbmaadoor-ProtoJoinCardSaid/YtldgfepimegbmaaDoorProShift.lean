/-
  Where things begin does not matter to a file; how much a file has of what: facts on the parser's machine.
-/
import Derived.Test.YtldgfepimegbmaaDoorProSame7
import Derived.Test.YtldgfepimegbmaaDoorProPlace
namespace Go.Proofs.YtldgfepimegbmaaDoor
set_option maxRecDepth 100000

/-! ### The same but for places -/
theorem alike_of {α β : Type} (b : α → β) (f : α → α → Bool) (hf : ∀ x y, b x = b y → f x y = true) : ∀ (l m : List α), l.map b = m.map b → alike f l m = true
  | [], [], _ => rfl
  | x :: l, y :: m, h => by
    simp only [List.map_cons, List.cons.injEq] at h
    simp [alike, hf x y h.1, alike_of b f hf l m h.2]
  | [], y :: m, h => by simp at h
  | x :: l, [], h => by simp at h
def Ms.bare (m : Ms) : Ms := { m with F := m.F.map Fd.bare, at_ := 0 }
def En.bare (e : En) : En := { e with V := e.V.map Vl.bare, at_ := 0 }
def Fl.bare (f : Fl) : Fl := ⟨f.M.map Ms.bare, f.E.map En.bare⟩
def T.bare (t : T) : T := { t with at_ := 0 }
def C.bare (c : C) : C := { c with f := c.f.bare, m := c.m.bare, d := c.d.bare, e := c.e.bare, v := c.v.bare }
theorem same_ms {a b : Ms} (h : a.bare = b.bare) : sameMs a b = true := by
  obtain ⟨a1, a2, a3, a4, a5⟩ := a
  obtain ⟨b1, b2, b3, b4, b5⟩ := b
  simp only [Ms.bare, Ms.mk.injEq] at h
  obtain ⟨rfl, h2, rfl, rfl, _⟩ := h
  simp only [sameMs, decide_true, Bool.true_and, Bool.and_true]
  exact alike_of Fd.bare sameFd (fun x y h => by simp [sameFd, h]) _ _ h2
theorem same_en {a b : En} (h : a.bare = b.bare) : sameEn a b = true := by
  obtain ⟨a1, a2, a3⟩ := a
  obtain ⟨b1, b2, b3⟩ := b
  simp only [En.bare, En.mk.injEq] at h
  obtain ⟨rfl, h2, _⟩ := h
  simp only [sameEn, decide_true, Bool.true_and]
  exact alike_of Vl.bare sameVl (fun x y h => by simp [sameVl, h]) _ _ h2
theorem same_fl {f g : Fl} (h : f.bare = g.bare) : sameFl f g = true := by
  simp only [Fl.bare, Fl.mk.injEq] at h
  simp only [sameFl, Bool.and_eq_true]
  exact ⟨alike_of Ms.bare sameMs (fun _ _ => same_ms) _ _ h.1, alike_of En.bare sameEn (fun _ _ => same_en) _ _ h.2⟩
theorem addM_bare (f : Fl) (m : Ms) : (f.addM m).bare = f.bare.addM m.bare := by simp [Fl.addM, Fl.bare]
theorem addE_bare (f : Fl) (m : En) : (f.addE m).bare = f.bare.addE m.bare := by simp [Fl.addE, Fl.bare]
theorem add_bare (m : Ms) (d : Fd) : (m.add d).bare = m.bare.add d.bare := by simp [Ms.add, Ms.bare]

theorem step_bare (c : C) (t : T) : step c.bare t.bare = (step c t).map C.bare := by
  obtain ⟨pc, f, m, d, o, e, v⟩ := c
  obtain ⟨m1, m2, m3, m4, m5⟩ := m
  obtain ⟨d1, d2, d3, d4, d5, d6, d7⟩ := d
  obtain ⟨e1, e2, e3⟩ := e
  obtain ⟨v1, v2, v3⟩ := v
  have a1 : ∀ x, isW t.bare x = isW t x := fun _ => rfl
  have a2 : ∀ x, isS t.bare x = isS t x := fun _ => rfl
  have a3 : isN t.bare = isN t := rfl
  have a4 : isNum t.bare = isNum t := rfl
  cases o <;> cases pc <;> simp only [step, C.bare, a1, a2, a3, a4] <;> (repeat' split) <;> first | (exfalso; contradiction) |
    simp [C.bare, T.bare, Ms.bare, En.bare, Vl.bare, Fd.bare, addM_bare, addE_bare, Ms.add, m0, d0, en0, vl0] | simp_all
theorem run_bare : ∀ (l : List T) (c : C), run c.bare (l.map T.bare) = ((run c l).1.bare, (run c l).2.map T.bare)
  | [], c => rfl
  | t :: l, c => by
    have h := step_bare c t
    cases hs : step c t with
    | none =>
      rw [hs] at h
      rw [List.map_cons, run_none h, run_none hs]
      rfl
    | some c' =>
      rw [hs] at h
      rw [List.map_cons, run_some h, run_some hs]
      exact run_bare l c'
def shift (d : Nat) (t : T) : T := { t with at_ := t.at_ + d }
theorem shift_bare (d : Nat) (l : List T) : (l.map (shift d)).map T.bare = l.map T.bare := by
  rw [List.map_map]; rfl
/-- A machine that begins alike, over tokens that stand elsewhere: it ends alike, and what is left is what is left. -/
theorem run_shift (d : Nat) (l : List T) (c c' : C) (hc : c'.bare = c.bare) : (run c' (l.map (shift d))).1.bare = (run c l).1.bare ∧ (run c' (l.map (shift d))).2 = (run c l).2.map (shift d) := by
  have h1 := run_bare l c
  have h2 := run_bare (l.map (shift d)) c'
  rw [shift_bare, hc, h1] at h2
  refine ⟨(congrArg Prod.fst h2).symm, ?_⟩
  have hl : (run c' (l.map (shift d))).2.length = (run c l).2.length := by
    have := congrArg (fun x => x.2.length) h2
    simpa using this.symm
  obtain ⟨p1, q1, _⟩ := run_split l c
  obtain ⟨p2, q2, _⟩ := run_split (l.map (shift d)) c'
  have e1 : (run c l).2 = l.drop (l.length - (run c l).2.length) := by
    have hp : l.length - (run c l).2.length = p1.length := by
      have := congrArg List.length q1
      rw [List.length_append] at this
      omega
    rw [hp]
    conv => rhs; rw [q1]
    simp
  have e2 : (run c' (l.map (shift d))).2 = (l.map (shift d)).drop (l.length - (run c' (l.map (shift d))).2.length) := by
    have hp : l.length - (run c' (l.map (shift d))).2.length = p2.length := by
      have := congrArg List.length q2
      rw [List.length_append, List.length_map] at this
      omega
    rw [hp]
    conv => rhs; rw [q2]
    simp
  rw [e2, hl, e1, List.length_drop]
  rw [← List.map_drop]
  congr 2
  have : (run c l).2.length ≤ l.length := by
    have := congrArg List.length q1
    rw [List.length_append] at this
    omega
  omega

/-! ### How much there is -/
structure MsS (n : Nat) (m : Ms) : Prop where
  f : m.F.length ≤ n
  o : m.ones.length ≤ n
  r : m.res.length ≤ n
structure Sma (n : Nat) (c : C) : Prop where
  lm : c.f.M.length ≤ n
  le : c.f.E.length ≤ n
  m : ∀ m ∈ c.f.M, MsS n m
  e : ∀ e ∈ c.f.E, e.V.length ≤ n
  cm : MsS n c.m
  ce : c.e.V.length ≤ n
theorem MsS.more {n : Nat} {m : Ms} (h : MsS n m) : MsS (n + 1) m := ⟨Nat.le_succ_of_le h.f, Nat.le_succ_of_le h.o, Nat.le_succ_of_le h.r⟩
theorem m0_s (n : Nat) : MsS n m0 := ⟨by simp [m0], by simp [m0], by simp [m0]⟩
theorem Sma.more {n : Nat} {c : C} (h : Sma n c) : Sma (n + 1) c := ⟨Nat.le_succ_of_le h.lm, Nat.le_succ_of_le h.le, fun m hm => (h.m m hm).more, fun e he => Nat.le_succ_of_le (h.e e he), h.cm.more, Nat.le_succ_of_le h.ce⟩
theorem addM_mem {n : Nat} {f : Fl} {m : Ms} (h : ∀ x ∈ f.M, MsS n x) (hm : MsS n m) : ∀ x ∈ (f.addM m).M, MsS n x := by
  intro x hx
  simp only [Fl.addM, List.mem_append, List.mem_singleton] at hx
  rcases hx with hx | rfl
  · exact h x hx
  · exact hm
theorem addE_mem {n : Nat} {f : Fl} {m : En} (h : ∀ x ∈ f.E, x.V.length ≤ n) (hm : m.V.length ≤ n) : ∀ x ∈ (f.addE m).E, x.V.length ≤ n := by
  intro x hx
  simp only [Fl.addE, List.mem_append, List.mem_singleton] at hx
  rcases hx with hx | rfl
  · exact h x hx
  · exact hm
theorem step_sma {n : Nat} {c c' : C} {t : T} (h : Sma n c) (hs : step c t = some c') : Sma (n + 1) c' := by
  have H := h.more
  obtain ⟨h1, h2, h3, h4, h5, h6⟩ := h
  obtain ⟨g1, g2, g3, g4, g5, g6⟩ := H
  obtain ⟨k1, k2, k3⟩ := h5
  obtain ⟨pc, f, m, d, o, e, v⟩ := c
  simp only at h1 h2 h3 h4 h6 g1 g2 g3 g4 g5 g6 k1 k2 k3
  cases pc <;> simp only [step] at hs <;> (repeat' (split at hs)) <;> try (cases hs; done)
  all_goals
    obtain rfl := Option.some.inj hs
    refine ⟨?_, ?_, ?_, ?_, ⟨?_, ?_, ?_⟩, ?_⟩
    · first | exact g1 | (simp only [Fl.addM, Fl.addE, List.length_append, List.length_singleton]; omega)
    · first | exact g2 | (simp only [Fl.addM, Fl.addE, List.length_append, List.length_singleton]; omega)
    · first | exact g3 | exact addM_mem g3 g5
    · first | exact g4 | exact addE_mem g4 g6
    · first | exact g5.f | exact Nat.zero_le _ | (simp only [Ms.add, List.length_append, List.length_singleton]; omega)
    · first | exact g5.o | exact Nat.zero_le _ | (simp only [Ms.add, List.length_append, List.length_singleton]; omega)
    · first | exact g5.r | exact Nat.zero_le _ | (simp only [Ms.add, List.length_append, List.length_singleton]; omega)
    · first | exact g6 | exact Nat.zero_le _ | (simp only [List.length_append, List.length_singleton]; omega)
theorem run_sma : ∀ (l : List T) (c : C) (n : Nat), Sma n c → Sma (n + l.length) (run c l).1
  | [], c, n, h => h
  | t :: l, c, n, h => by
    cases hs : step c t with
    | none =>
      rw [run_none hs]
      have : ∀ k, Sma (n + k) c := fun k => by
        induction k with
        | zero => exact h
        | succ k ih => exact ih.more
      exact this _
    | some c' =>
      rw [run_some hs]
      have := run_sma l c' (n + 1) (step_sma h hs)
      rw [List.length_cons, show n + (l.length + 1) = n + 1 + l.length by omega]
      exact this
theorem few_par (L : List UInt8) : FlFew (parF L) := by
  unfold parF
  split
  · have h := run_sma (toksOf L) c0 0 ⟨by simp [c0], by simp [c0], fun m hm => by simp [c0] at hm, fun m hm => by simp [c0] at hm, m0_s _, by simp [c0, en0]⟩
    have hl := toks_few L
    exact ⟨fun m hm => ⟨by have := (h.m m hm).f; omega, by have := (h.m m hm).o; omega, by have := (h.m m hm).r; omega⟩, fun e he => by have := h.e e he; omega, by have := h.lm; omega, by have := h.le; omega⟩
  · exact ⟨fun m hm => by simp at hm, fun m hm => by simp at hm, by simp, by simp⟩
end Go.Proofs.YtldgfepimegbmaaDoor
