/-
  A list of nodes' texts.
-/
import Derived.Test.YtceomdbahiimlaaDoorSexBack
namespace Go.Proofs.YtceomdbahiimlaaDoor.T14
set_option maxRecDepth 100000

section

variable {it : Int → List UInt8}

theorem pre_shift (k : Nat) (x : Nd) : ∀ (i : Nat) (z : Nd) (j : Nat), (z, j) ∈ x.pre i → (z, j + k) ∈ x.pre (i + k) := by
  refine Nd.ind (P := fun x => ∀ (i : Nat) (z : Nd) (j : Nat), (z, j) ∈ x.pre i → (z, j + k) ∈ x.pre (i + k)) (fun x ih i z j h => ?_) x
  rw [Nd.pre_eq] at h ⊢
  rcases List.mem_cons.1 h with h | h
  · injection h with h1 h2
    subst h1 h2
    exact List.mem_cons_self ..
  · obtain ⟨s, hs, hz⟩ := List.mem_flatten.1 h
    obtain ⟨y, hy, rfl⟩ := List.mem_map.1 hs
    have := ih y hy (i + 1) z j hz
    rw [show i + 1 + k = i + k + 1 by omega] at this
    exact List.mem_cons_of_mem _ (List.mem_flatten.2 ⟨_, List.mem_map.2 ⟨y, hy, rfl⟩, this⟩)
theorem fit_un (x : Nd) : ∀ i, FitN it x.un i ↔ FitN it x i := by
  refine Nd.ind (P := fun x => ∀ i, FitN it x.un i ↔ FitN it x i) (fun x ih i => ?_) x
  have hf : fitB it x.un i = fitB it x i := by
    rw [x.un_eq]
    unfold fitB
    have e : leafB it (Nd.mk x.kind x.text x.num 0 (x.l.map Nd.un)) = leafB it x := by
      unfold leafB tokB
      rw [show (Nd.mk x.kind x.text x.num 0 (x.l.map Nd.un)).l.isEmpty = x.l.isEmpty from by show (x.l.map Nd.un).isEmpty = _; cases x.l <;> rfl]
      rfl
    rw [e]
    rfl
  have hl : x.un.l = x.l.map Nd.un := by rw [x.un_eq]; rfl
  constructor
  · intro h
    exact FitN.intro (hf ▸ h.head) fun y hy => (ih y hy _).1 (h.below (by rw [hl]; exact List.mem_map.2 ⟨y, hy, rfl⟩))
  · intro h
    refine FitN.intro (hf ▸ h.head) fun y hy => ?_
    rw [hl] at hy
    obtain ⟨z, hz, rfl⟩ := List.mem_map.1 hy
    exact (ih z hz _).2 (h.below hz)

/-- There is a list within so many others. -/
def HasN (x : Nd) (i d : Nat) : Prop := ∃ z ∈ x.pre i, z.1.kind = 4 ∧ z.2 = d
def Has : List Nd → Nat → Prop
  | [], _ => False
  | q :: r, d => (q.kind = 4 ∧ r.length = d) ∨ (∃ c ∈ q.l, HasN c (r.length + 1) d) ∨ Has r d
theorem Has.add {q n : Nd} {r : List Nd} {d : Nat} (h : Has (q :: r) d) : Has (q.add n :: r) d := by
  rcases h with h | ⟨c, hc, h⟩ | h
  · exact .inl h
  · exact .inr (.inl ⟨c, List.mem_append_left _ hc, h⟩)
  · exact .inr (.inr h)
theorem Has.new {q n : Nd} {r : List Nd} {d : Nat} (h : HasN n (r.length + 1) d) : Has (q.add n :: r) d :=
  .inr (.inl ⟨n, List.mem_append_right _ (List.mem_singleton.2 rfl), h⟩)
theorem Has.close {q : Nd} {r : List Nd} {d : Nat} (h : Has (q :: r) d) : HasN q r.length d ∨ Has r d := by
  rcases h with ⟨h1, h2⟩ | ⟨c, hc, z, hz, h⟩ | h
  · exact .inl ⟨(q, r.length), by rw [Nd.pre_eq]; exact List.mem_cons_self .., h1, h2⟩
  · refine .inl ⟨z, ?_, h⟩
    rw [Nd.pre_eq]
    exact List.mem_cons_of_mem _ (List.mem_flatten.2 ⟨_, List.mem_map.2 ⟨c, hc, rfl⟩, hz⟩)
  · exact .inr h
theorem run_done {l : List T} {x : Nd} {p : Ps} (h : runP l ⟨[], some x⟩ = .ok p) : l = [] ∧ p = ⟨[], some x⟩ := by
  cases l with
  | nil =>
    injection h with h
    exact ⟨rfl, h.symm⟩
  | cons t l => simp [runP, stepP] at h
theorem run_has : ∀ (ts : List T) (os : List Nd) (y : Nd) (d : Nat), Has os d → runP ts ⟨os, none⟩ = .ok ⟨[], some y⟩ → HasN y 0 d
  | [], os, y, d, _, h => by injection h with h; injection h with _ h; cases h
  | t :: ts, os, y, d, hh, h => by
    unfold runP at h
    split at h
    · cases h
    · rename_i q hq
      unfold stepP at hq
      rw [if_neg (by simp)] at hq
      split at hq
      · injection hq with hq
        subst hq
        cases os with
        | nil => exact hh.elim
        | cons q r => exact run_has ts _ y d hh.add h
      · split at hq
        · split at hq
          · cases hq
          · injection hq with hq
            subst hq
            exact run_has ts (_ :: os) y d (Or.inr (Or.inr hh)) h
        · split at hq
          · cases os with
            | nil => cases hq
            | cons q r =>
              injection hq with hq
              subst hq
              rcases hh.close with hc | hc
              · cases r with
                | nil =>
                  obtain ⟨_, h2⟩ := run_done h
                  injection h2 with _ h2
                  injection h2 with h2
                  subst h2
                  exact hc
                | cons q' r' => exact run_has ts _ y d (Has.new hc) h
              · cases r with
                | nil => exact hc.elim
                | cons q' r' => exact run_has ts _ y d hc.add h
          · cases hq
/-- The same tokens within lists that are open. -/
theorem run_within (o : List Nd) (ho : o ≠ []) : ∀ (ts : List T) (os : List Nd) (y : Nd), os.length + o.length ≤ 16 → runP ts ⟨os, none⟩ = .ok ⟨[], some y⟩ →
    runP ts ⟨os ++ o, none⟩ = .ok (putP o y) ∨ ∃ a, runP ts ⟨os ++ o, none⟩ = .error (2, a) ∧ ∃ d, HasN y 0 d ∧ d + o.length = 16
  | [], os, y, _, h => by injection h with h; injection h with _ h; cases h
  | t :: ts, os, y, hl, h => by
    unfold runP at h ⊢
    split at h
    · cases h
    · rename_i q hq
      unfold stepP at hq ⊢
      rw [if_neg (by simp)] at hq ⊢
      split at hq
      · rename_i c2
        injection hq with hq
        subst hq
        rw [if_pos c2]
        cases os with
        | nil =>
          obtain ⟨rfl, h2⟩ := run_done h
          injection h2 with _ h2
          injection h2 with h2
          subst h2
          exact .inl rfl
        | cons q r => exact run_within o ho ts (q.add (leaf t) :: r) y hl h
      · rename_i c2
        rw [if_neg c2]
        split at hq
        · rename_i c3
          rw [if_pos c3]
          split at hq
          · cases hq
          · injection hq with hq
            subst hq
            by_cases c4 : (os ++ o).length = 16
            · rw [if_pos c4]
              right
              refine ⟨_, rfl, os.length, run_has ts (Nd.mk 4 [] 0 t.at_ [] :: os) y os.length (Or.inl ⟨rfl, rfl⟩) h, ?_⟩
              rw [List.length_append] at c4
              exact c4
            · rw [if_neg c4]
              rw [List.length_append] at c4
              exact run_within o ho ts (_ :: os) y (by simp; omega) h
        · rename_i c3
          rw [if_neg c3]
          split at hq
          · rename_i c5
            rw [if_pos c5]
            cases os with
            | nil => cases hq
            | cons q r =>
              injection hq with hq
              subst hq
              cases r with
              | nil =>
                obtain ⟨rfl, h2⟩ := run_done h
                injection h2 with _ h2
                injection h2 with h2
                subst h2
                exact .inl rfl
              | cons q' r' => exact run_within o ho ts (q'.add q :: r') y (by simp at hl ⊢; omega) h
          · cases hq

/-! ### The texts, one behind the other -/

theorem lex_none_at {l : List UInt8} (h : (lex it 0 0 l).2 = none) (p : Nat) : (lex it 0 p l).2 = none ∧ (lex it 0 p l).1.map unT = (lex it 0 0 l).1.map unT := by
  have e := lex_shift (it := it) p l 0 0
  rw [Nat.zero_add] at e
  rw [e, h]
  refine ⟨rfl, ?_⟩
  simp only [List.map_map]
  exact List.map_congr_left fun t _ => rfl
theorem Lexd.join {l t : List UInt8} {X : List T} (h : (lex it 0 0 l).2 = none) (hX : Lexd it t X) : Lexd it (l ++ 10 :: t) ((lex it 0 0 l).1.map unT ++ X) := by
  intro p
  obtain ⟨h1, h2⟩ := lex_none_at h p
  rw [lex_join t l 0 p (Nat.zero_le _) h1]
  obtain ⟨h3, h4⟩ := hX (p + l.length + 1)
  exact ⟨by simp only [List.map_append, h2, h3], h4⟩
/-- What is known of a text that is a node. -/
theorem par_ok {l : List UInt8} (h : (parR it l).2.2 = 0) : (lex it 0 0 l).2 = none ∧ (lex it 0 0 l).1.length ≤ 1000 ∧ runP (lex it 0 0 l).1 ⟨[], none⟩ = .ok ⟨[], some (parR it l).1⟩ := by
  have hm := h
  unfold parR at h ⊢
  split at h
  · rename_i h0; exact absurd h h0
  · rename_i h0
    rw [if_neg h0]
    have h0 : allE it l = 0 := by omega
    rcases all_cases (it := it) l with ⟨_, _, h1, h2⟩ | ⟨_, _, h3⟩
    · have hn : (lex it 0 0 l).2 = none := by
        unfold allE ansE at h0
        split at h0
        · omega
        · split at h0
          · omega
          · cases hc : (lex it 0 0 l).2 with
            | none => rfl
            | some q => rw [hc] at h0; simp at h0
      refine ⟨hn, by rw [← h2]; exact h1, ?_⟩
      rw [← h2]
      unfold endP at h ⊢
      split at h
      · rename_i e a hr
        exact absurd h (run_err _ _ _ _ hr)
      · rename_i p hp
        split at h
        · rename_i x hx
          have hok := run_ok (it := it) (allT it l) ⟨[], none⟩ p (fun t ht => all_tg ht) ⟨trivial, fun x e => by cases e⟩ hp
          have ho := (hok.2 x hx).2
          rw [hp]
          simp only [hx]
          congr 1
          cases p
          simp only at ho hx
          rw [ho, hx]
        · cases h
    · omega
def joinB (Ls : List (List UInt8)) : List UInt8 := Ls.flatMap fun l => l ++ [10]
theorem lexd_joinB : ∀ (Ls : List (List UInt8)) (r : List UInt8) (X : List T), (∀ l ∈ Ls, (parR it l).2.2 = 0) → Lexd it r X → Lexd it (joinB Ls ++ r) ((Ls.map fun l => (lex it 0 0 l).1.map unT).flatten ++ X)
  | [], _, _, _, h => h
  | l :: Ls, r, X, hl, h => by
    have h1 := lexd_joinB Ls r X (fun l h => hl l (List.mem_cons_of_mem _ h)) h
    have h2 := Lexd.join (par_ok (hl l (List.mem_cons_self ..))).1 h1
    simp only [joinB, List.flatMap_cons, List.map_cons, List.flatten_cons, List.append_assoc, List.singleton_append] at h2 ⊢
    exact h2
/-- A text's tokens without their places make the node without its places. -/
theorem run_bare {l : List UInt8} (h : (parR it l).2.2 = 0) : ∃ y, runP ((lex it 0 0 l).1.map unT) ⟨[], none⟩ = .ok ⟨[], some y⟩ ∧ y.un = (parR it l).1.un := by
  have h1 := run_un (lex it 0 0 l).1 ((lex it 0 0 l).1.map unT) ⟨[], none⟩ ⟨[], none⟩ (by rw [List.map_map]; exact List.map_congr_left fun t _ => rfl) rfl
  rw [(par_ok h).2.2] at h1
  unfold strip at h1
  split at h1
  · rename_i hr; cases hr
  · rename_i q hq
    injection hq with hq
    subst hq
    split at h1
    · cases h1
    · rename_i q' hq'
      injection h1 with h1
      obtain ⟨o, w⟩ := q'
      simp only [Ps.un] at h1
      injection h1 with h2 h3
      cases w with
      | none => cases h3
      | some y =>
        simp only [Option.map_some, Option.some.injEq] at h3
        obtain rfl : o = [] := by
          cases o with
          | nil => rfl
          | cons _ _ => cases h2
        exact ⟨y, hq', h3.symm⟩
theorem has_fit {x y : Nd} (h : y.un = x.un) {d : Nat} (hd : HasN y 0 d) (h16 : d + 1 = 16) : ¬ FitN it x 1 := by
  intro hx
  have hy : FitN it y 1 := (fit_un y 1).1 (h ▸ (fit_un x 1).2 hx)
  obtain ⟨z, hz, h1, h2⟩ := hd
  have := hy (z.1, z.2 + 1) (pre_shift 1 y 0 z.1 z.2 hz)
  unfold fitB at this
  rw [if_pos h1] at this
  simp only [Bool.and_eq_true, decide_eq_true_eq] at this
  omega
theorem run_texts : ∀ (Ls : List (List UInt8)) (q : Nd), (∀ l ∈ Ls, (parR it l).2.2 = 0) →
    (∃ ys, runP (Ls.map fun l => (lex it 0 0 l).1.map unT).flatten ⟨[q], none⟩ = .ok ⟨[.mk q.kind q.text q.num q.at_ (q.l ++ ys)], none⟩ ∧ ys.map Nd.un = Ls.map fun l => (parR it l).1.un) ∨
    (∃ a, runP (Ls.map fun l => (lex it 0 0 l).1.map unT).flatten ⟨[q], none⟩ = .error (2, a) ∧ ∃ l ∈ Ls, ¬ FitN it (parR it l).1 1)
  | [], q, _ => .inl ⟨[], by simp [runP, ← Nd.eta], rfl⟩
  | l :: Ls, q, hl => by
    obtain ⟨y, hy, hu⟩ := run_bare (hl l (List.mem_cons_self ..))
    rw [List.map_cons, List.flatten_cons, runP_append]
    rcases run_within [q] (by simp) _ [] y (by simp) hy with h | ⟨a, h, d, hd, h16⟩
    · rw [show ([] : List Nd) ++ [q] = [q] from rfl] at h
      rw [h]
      show (∃ ys, runP _ ⟨[q.add y], none⟩ = _ ∧ _) ∨ (∃ a, runP _ ⟨[q.add y], none⟩ = _ ∧ _)
      rcases run_texts Ls (q.add y) (fun l h => hl l (List.mem_cons_of_mem _ h)) with ⟨ys, h1, h2⟩ | ⟨a, h1, l', h2, h3⟩
      · left
        refine ⟨y :: ys, ?_, by simp [hu, h2]⟩
        rw [h1]
        simp [Nd.add, Nd.kind, Nd.text, Nd.num, Nd.at_, Nd.l]
      · exact .inr ⟨a, h1, l', List.mem_cons_of_mem _ h2, h3⟩
    · right
      rw [show ([] : List Nd) ++ [q] = [q] from rfl] at h
      rw [h]
      exact ⟨a, rfl, l, List.mem_cons_self .., has_fit hu hd h16⟩
theorem joinB_toks : ∀ (Ls : List (List UInt8)), (Ls.map fun l => (lex it 0 0 l).1.map unT).flatten.length + Ls.length ≤ (joinB Ls).length
  | [] => by simp [joinB]
  | l :: Ls => by
    have h1 := joinB_toks Ls
    have h2 := lex_count (it := it) l 0 0
    simp only [joinB, List.flatMap_cons, List.map_cons, List.flatten_cons, List.length_append, List.length_map, List.length_cons, List.length_nil] at h1 ⊢
    omega
/-- All that SexpList asks of texts that are nodes. -/
theorem list14 (Ls : List (List UInt8)) (hl : ∀ l ∈ Ls, (parR it l).2.2 = 0) (n : Nd) (hn : n.un = Nd.mk 4 [] 0 0 (Ls.map fun l => (parR it l).1.un)) (S : List UInt8) (hS : S = 40 :: joinB Ls) :
    ((parR it (S ++ [41])).2.2 = 2 ∧ (mayB it n = false ∨ 1000 < S.length)) ∨ ((parR it (S ++ [41])).2.2 = 0 ∧ (parR it (S ++ [41])).2.1 = S.length + 1 ∧ (parR it (S ++ [41])).1.un = n.un ∧ mayB it n = true) := by
  have hL : Lexd it (S ++ [41]) (sg 40 :: ((Ls.map fun l => (lex it 0 0 l).1.map unT).flatten ++ [sg 41])) := by
    rw [hS]
    exact Lexd.sg (by decide) (lexd_joinB Ls [41] [sg 41] hl (Lexd.sg (by decide) Lexd.nil))
  obtain ⟨h1, h2⟩ := hL 0
  have hlen : (S ++ [41]).length = S.length + 1 := by simp
  have hn0 : (lex it 0 0 (S ++ [41])).1.length = (Ls.map fun l => (lex it 0 0 l).1.map unT).flatten.length + 2 := by
    have := congrArg List.length h1
    simpa using this
  have hjt := joinB_toks (it := it) Ls
  have hSl : S.length = (joinB Ls).length + 1 := by rw [hS]; simp
  by_cases h5 : 5000 < (S ++ [41]).length
  · left
    have : allE it (S ++ [41]) = 2 := by unfold allE; rw [if_pos h5]
    unfold parR
    rw [if_pos (by omega)]
    exact ⟨this, .inr (by omega)⟩
  · by_cases h10 : 1000 < (lex it 0 0 (S ++ [41])).1.length
    · left
      have : allE it (S ++ [41]) = 2 := by unfold allE ansE; rw [if_neg h5, if_pos h10]
      unfold parR
      rw [if_pos (by omega)]
      refine ⟨this, .inr ?_⟩
      cases Ls with
      | nil => simp at hn0; omega
      | cons l Ls => simp only [List.length_cons] at hjt; omega
    · have e0 : allE it (S ++ [41]) = 0 := by unfold allE ansE; rw [if_neg h5, if_neg h10, h2]; rfl
      have eT : allT it (S ++ [41]) = (lex it 0 0 (S ++ [41])).1 := by unfold allT ansT; rw [if_neg h5, if_neg h10, h2]; rfl
      have hr := run_un (lex it 0 0 (S ++ [41])).1 (sg 40 :: ((Ls.map fun l => (lex it 0 0 l).1.map unT).flatten ++ [sg 41])) ⟨[], none⟩ ⟨[], none⟩ (by
        rw [← h1, List.map_map]
        exact List.map_congr_left fun t _ => rfl) rfl
      have e1 : stepP (sg 40) ⟨[], none⟩ = .ok ⟨[.mk 4 [] 0 0 []], none⟩ := by simp [stepP, sg]
      rw [runP, e1] at hr
      simp only at hr
      rw [runP_append] at hr
      rcases run_texts (it := it) Ls (.mk 4 [] 0 0 []) hl with ⟨ys, h3, h4⟩ | ⟨a, h3, l, h4, h6⟩
      · right
        rw [h3] at hr
        have e2 : (Except.ok (ε := Nat × Nat) (⟨[.mk (Nd.mk 4 [] 0 0 []).kind (Nd.mk 4 [] 0 0 []).text (Nd.mk 4 [] 0 0 []).num (Nd.mk 4 [] 0 0 []).at_ ((Nd.mk 4 [] 0 0 []).l ++ ys)], none⟩ : Ps)).bind (runP [sg 41]) = .ok ⟨[], some (.mk 4 [] 0 0 ys)⟩ := by
          show runP [sg 41] ⟨[.mk 4 [] 0 0 ([] ++ ys)], none⟩ = _
          rw [runP]
          have e3 : stepP (sg 41) ⟨[.mk 4 [] 0 0 ([] ++ ys)], none⟩ = .ok ⟨[], some (.mk 4 [] 0 0 ys)⟩ := by simp [stepP, sg, putP]
          rw [e3]
          rfl
        rw [e2] at hr
        have hm0 : (parR it (S ++ [41])).2.2 = 0 ∧ (parR it (S ++ [41])).2.1 = S.length + 1 ∧ (parR it (S ++ [41])).1.un = n.un := by
          unfold parR
          rw [if_neg (by omega), eT]
          unfold strip at hr
          split at hr
          · cases hr
          · rename_i q hq
            injection hr with hr
            have hw := congrArg Ps.w hr
            simp only [Ps.un, Option.map_some] at hw
            cases hqw : q.w with
            | none => rw [hqw] at hw; cases hw
            | some y =>
              rw [hqw] at hw
              simp only [Option.map_some, Option.some.injEq] at hw
              simp only [endP, hq, hqw]
              refine ⟨trivial, by rw [hlen], ?_⟩
              rw [hw, hn, Nd.un_eq]
              show Nd.mk 4 [] 0 0 (ys.map Nd.un) = _
              rw [h4]
        refine ⟨hm0.1, hm0.2.1, hm0.2.2, ?_⟩
        have := may_iff.1 (par_may hm0.1)
        exact may_iff.2 ((fit_un n 0).1 (hm0.2.2 ▸ (fit_un _ 0).2 this))
      · left
        rw [h3] at hr
        have hp : (parR it (S ++ [41])).2.2 = 2 := by
          unfold parR
          rw [if_neg (by omega), eT]
          have hr : strip (runP (lex it 0 0 (S ++ [41])).1 ⟨[], none⟩) = .error 2 := hr
          unfold strip at hr
          split at hr
          · rename_i e he
            injection hr with hr
            rw [he]
            exact hr
          · cases hr
        refine ⟨hp, .inl ?_⟩
        rw [Bool.eq_false_iff]
        intro hm
        have hf := (fit_un n 0).2 (may_iff.1 hm)
        rw [hn] at hf
        have := hf.below (y := (parR it l).1.un) (List.mem_map.2 ⟨l, h4, rfl⟩)
        exact h6 ((fit_un _ 1).1 this)
end

end Go.Proofs.YtceomdbahiimlaaDoor.T14
