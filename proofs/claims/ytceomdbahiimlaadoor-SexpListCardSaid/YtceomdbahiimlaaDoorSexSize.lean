/-
  How long the texts of a parsed node are, and how deep one is that may be.
-/
import Derived.Test.YtceomdbahiimlaaDoorSexPrint
import Derived.Test.YtceomdbahiimlaaDoorSexMat
namespace Go.Proofs.YtceomdbahiimlaaDoor.T14
set_option maxRecDepth 100000

open Go.RowKit

section

variable {it : Int → List UInt8}

theorem strB_len : ∀ (l : List UInt8) (k : Nat) (x : List UInt8 × Nat), strB k l = some x → x.1.length ≤ l.length
  | [], k, x, h => by cases k <;> simp [strB] at h
  | c :: r, k + 1, x, h => by
    simp only [strB, Option.map_eq_some_iff] at h
    obtain ⟨y, hy, rfl⟩ := h
    have := strB_len r k y hy
    simp only [List.length_cons]
    omega
  | c :: r, 0, x, h => by
    simp only [strB] at h
    split at h
    · injection h with h
      subst h
      simp
    · split at h
      · cases h
      · simp only [Option.map_eq_some_iff] at h
        obtain ⟨y, hy, rfl⟩ := h
        have := strB_len r _ y hy
        simp only [List.length_cons]
        omega
theorem tk_len {L : List UInt8} {t : Tk} (h : tk it L = some t) : t.text.length ≤ L.length := by
  cases L with
  | nil => simp [tk] at h
  | cons c r =>
    simp only [tk] at h
    split at h
    · injection h with h
      subst h
      simp only [List.length_cons, List.length_take]
      omega
    · split at h
      · simp only [Option.map_eq_some_iff] at h
        obtain ⟨n, _, rfl⟩ := h
        simp only [List.length_cons, List.length_take]
        omega
      · split at h
        · simp only [Option.map_eq_some_iff] at h
          obtain ⟨x, hx, rfl⟩ := h
          have := strB_len r 0 x hx
          simp only [List.length_cons]
          omega
        · split at h
          · injection h with h
            subst h
            simp
          · cases h
theorem lex_small : ∀ (l : List UInt8) (k p : Nat), ∀ t ∈ (lex it k p l).1, t.text.length ≤ l.length
  | [], k, p, t, h => by cases k <;> simp [lex] at h
  | c :: r, k + 1, p, t, h => by
    simp only [lex] at h
    have := lex_small r k (p + 1) t h
    simp only [List.length_cons]
    omega
  | c :: r, 0, p, t, h => by
    simp only [lex] at h
    split at h
    · have := lex_small r _ (p + 1) t h
      simp only [List.length_cons]
      omega
    · split at h
      · simp at h
      · rename_i x hx
        rcases List.mem_cons.1 h with rfl | h
        · exact tk_len hx
        · have := lex_small r x.more (p + 1) t h
          simp only [List.length_cons]
          omega
theorem all_small {L : List UInt8} {t : T} (h : t ∈ allT it L) : t.text.length ≤ 5000 := Nat.le_trans (lex_small L 0 0 t (allT_lex h).2) (allT_lex h).1
/-- No text in it is longer. -/
def Sm (N : Nat) (x : Nd) : Prop := ∀ y ∈ x.pre 0, y.1.text.length ≤ N
theorem Sm.at {N : Nat} {x : Nd} (h : Sm N x) (i : Nat) : ∀ y ∈ x.pre i, y.1.text.length ≤ N := fun z hz => by
  have h1 : z.1 ∈ (x.pre 0).map Prod.fst := by rw [pre_fst x 0 i]; exact List.mem_map_of_mem hz
  obtain ⟨z2, hz2, e⟩ := List.mem_map.1 h1
  rw [← e]
  exact h z2 hz2
theorem Sm.intro {N : Nat} {x : Nd} (h : x.text.length ≤ N) (hl : ∀ y ∈ x.l, Sm N y) : Sm N x := by
  intro y hy
  rw [Nd.pre_eq] at hy
  rcases List.mem_cons.1 hy with rfl | hy
  · exact h
  · obtain ⟨s, hs, hy⟩ := List.mem_flatten.1 hy
    obtain ⟨z, hz, rfl⟩ := List.mem_map.1 hs
    exact (hl z hz).at 1 y hy
theorem Sm.below {N : Nat} {x : Nd} (h : Sm N x) {y : Nd} (hy : y ∈ x.l) : Sm N y := fun z hz => by
  have h1 : z.1 ∈ (y.pre 1).map Prod.fst := by rw [pre_fst y 1 0]; exact List.mem_map_of_mem hz
  obtain ⟨z2, hz2, e⟩ := List.mem_map.1 h1
  rw [← e]
  exact h z2 (by rw [Nd.pre_eq]; exact List.mem_cons_of_mem _ (List.mem_flatten.2 ⟨_, List.mem_map.2 ⟨y, hy, rfl⟩, hz2⟩))
theorem Sm.head {N : Nat} {x : Nd} (h : Sm N x) : x.text.length ≤ N := h (x, 0) (by rw [Nd.pre_eq]; exact List.mem_cons_self ..)
theorem Sm.mono {N M : Nat} {x : Nd} (h : Sm N x) (hN : N ≤ M) : Sm M x := fun y hy => Nat.le_trans (h y hy) hN
def SmP (N : Nat) (p : Ps) : Prop := (∀ x ∈ p.o, Sm N x) ∧ ∀ x, p.w = some x → Sm N x
theorem put_sm {N : Nat} {o : List Nd} {n : Nd} (ho : ∀ x ∈ o, Sm N x) (hn : Sm N n) : SmP N (putP o n) := by
  cases o with
  | nil => exact ⟨fun x h => (by cases h), fun x e => by cases e; exact hn⟩
  | cons q r =>
    refine ⟨fun x hx => ?_, fun x e => by cases e⟩
    rcases List.mem_cons.1 hx with rfl | hx
    · refine Sm.intro (ho q (List.mem_cons_self ..)).head fun y hy => ?_
      rcases List.mem_append.1 (show y ∈ q.l ++ [n] from hy) with hy | hy
      · exact (ho q (List.mem_cons_self ..)).below hy
      · obtain rfl := List.mem_singleton.1 hy
        exact hn
    · exact ho x (List.mem_cons_of_mem _ hx)
theorem step_sm {N : Nat} {t : T} {p q : Ps} (ht : t.text.length ≤ N) (hp : SmP N p) (h : stepP t p = .ok q) : SmP N q := by
  have hl : Sm N (leaf t) := Sm.intro ht (fun y hy => by cases hy)
  unfold stepP at h
  split at h
  · cases h
  · split at h
    · injection h with h
      subst h
      exact put_sm hp.1 hl
    · split at h
      · split at h
        · cases h
        · injection h with h
          subst h
          refine ⟨fun x hx => ?_, fun x e => by cases e⟩
          rcases List.mem_cons.1 hx with rfl | hx
          · exact Sm.intro (Nat.zero_le _) (fun y hy => by cases hy)
          · exact hp.1 x hx
      · split at h
        · split at h
          · cases h
          · rename_i q r ho
            injection h with h
            subst h
            have h0 := hp.1
            rw [ho] at h0
            exact put_sm (fun x hx => h0 x (List.mem_cons_of_mem _ hx)) (h0 q (List.mem_cons_self ..))
        · cases h
theorem run_sm {N : Nat} : ∀ (l : List T) (p q : Ps), (∀ t ∈ l, t.text.length ≤ N) → SmP N p → runP l p = .ok q → SmP N q
  | [], p, q, _, hp, h => by
    injection h with h
    subst h
    exact hp
  | t :: l, p, q, ht, hp, h => by
    unfold runP at h
    split at h
    · cases h
    · rename_i q' hq
      exact run_sm l q' q (fun t h => ht t (List.mem_cons_of_mem _ h)) (step_sm (ht t (List.mem_cons_self ..)) hp hq) h
theorem zero_sm (N : Nat) : Sm N Nd.zero := Sm.intro (Nat.zero_le _) (fun y hy => by cases hy)
theorem par_small (L : List UInt8) : Sm 5000 (parR it L).1 := by
  unfold parR
  split
  · exact zero_sm _
  · unfold endP
    split
    · exact zero_sm _
    · rename_i p hp
      split
      · rename_i x hx
        exact (run_sm (allT it L) ⟨[], none⟩ p (fun t ht => all_small ht) ⟨fun x h => (by cases h), fun x e => by cases e⟩ hp).2 x hx
      · exact zero_sm _
/-- One that may be is no deeper than 17. -/
theorem nat_fit {R : RP} : ∀ (D : Nat) (x : Nd) (cs : List Value) (i : Nat), i ≤ 16 → FitN it x i → NAt R D x cs → NAt R (17 - i) x cs
  | 0, _, _, _, _, _, h => h.elim
  | D + 1, x, cs, i, hi, hf, ⟨u, h1, xs, h2, h3⟩ => by
    have e : 17 - i = (16 - i) + 1 := by omega
    rw [e]
    refine ⟨u, h1, xs, h2, h3.imp_mem fun y hy cs hc => ?_⟩
    have hh := hf.head
    have hi2 : i < 16 := by
      unfold fitB at hh
      split at hh
      · simp only [Bool.and_eq_true, decide_eq_true_eq] at hh
        exact hh.2
      · unfold leafB at hh
        simp only [Bool.and_eq_true, List.isEmpty_iff] at hh
        rw [hh.1] at hy
        cases hy
    have := nat_fit D y cs (i + 1) (by omega) (hf.below hy) hc
    rwa [show 17 - (i + 1) = 16 - i by omega] at this
end

theorem nat_may {R : RP} {D : Nat} {x : Nd} {cs : List Value} (hm : mayB Lib.itoa x = true) (h : NAt R D x cs) : NAt R 17 x cs := nat_fit D x cs 0 (by omega) (may_iff.1 hm) h
theorem nat_zero {R : RP} {D : Nat} {cs : List Value} (h : NAt R D Nd.zero cs) : NAt R 17 Nd.zero cs := by
  cases D with
  | zero => exact h.elim
  | succ D =>
    obtain ⟨u, h1, xs, h2, h3⟩ := h
    exact ⟨u, h1, xs, h2, h3.imp_mem fun y hy => by cases hy⟩
theorem nat_par {R : RP} {D : Nat} {L : List UInt8} {cs : List Value} (h : NAt R D (parR Lib.itoa L).1 cs) : NAt R 17 (parR Lib.itoa L).1 cs := by
  by_cases he : (parR Lib.itoa L).2.2 = 0
  · exact nat_may (par_may he) h
  · have hz := (par_err he).1
    rw [hz] at h ⊢
    exact nat_zero h
/-- Parse, as what is read. -/
theorem parse14_rd (s : ByteArray) (hs : s.size ≤ 1000000) (w : World) (LV : Laid w) :
    Calls Tryd.prog 11 #[.string s] w fun e w' => ∃ g, e = .returned (.tuple #[.agg #[.int .i64 (parR Lib.itoa s.data.toList).1.kind, .string (tx (parR Lib.itoa s.data.toList).1.text), .int .i64 (parR Lib.itoa s.data.toList).1.num, .int .i64 (parR Lib.itoa s.data.toList).1.at_, g], .int .i64 (parR Lib.itoa s.data.toList).2.1, .int .i64 (parR Lib.itoa s.data.toList).2.2]) ∧
      NAt (Rd w'.heap.size w') 17 (parR Lib.itoa s.data.toList).1 [.int .i64 (parR Lib.itoa s.data.toList).1.kind, .string (tx (parR Lib.itoa s.data.toList).1.text), .int .i64 (parR Lib.itoa s.data.toList).1.num, .int .i64 (parR Lib.itoa s.data.toList).1.at_, g] ∧ Below w.heap.size w w' := by
  refine (parse14_any s hs w LV).mono ?_
  rintro e w' ⟨X, rfl, hX, hl, hb⟩
  have hn := LN.natR (by decide) X hl
  rw [hX] at hn
  have hn := nat_par hn
  have e1 : X.kind = (parR Lib.itoa s.data.toList).1.kind := by rw [← hX, LN.bare_eq]; rfl
  have e2 : X.text = (parR Lib.itoa s.data.toList).1.text := by rw [← hX, LN.bare_eq]; rfl
  have e3 : X.num = (parR Lib.itoa s.data.toList).1.num := by rw [← hX, LN.bare_eq]; rfl
  have e4 : X.at_ = (parR Lib.itoa s.data.toList).1.at_ := by rw [← hX, LN.bare_eq]; rfl
  refine ⟨X.g, ?_, ?_, hb⟩
  · rw [LN.val, e1, e2, e3, e4]
  · rw [LN.cells, e1, e2, e3, e4] at hn
    exact hn
end Go.Proofs.YtceomdbahiimlaaDoor.T14
