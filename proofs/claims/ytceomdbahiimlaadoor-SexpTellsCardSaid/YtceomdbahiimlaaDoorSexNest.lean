/-
  Lists within lists; a text as a string.
-/
import Derived.Test.YtceomdbahiimlaaDoorSexBack
namespace Go.Proofs.YtceomdbahiimlaaDoor.T14
set_option maxRecDepth 100000

section

variable {it : Int → List UInt8}

def nest : Nat → Nd
  | 0 => .mk 0 [97] 0 0 []
  | n + 1 => .mk 4 [] 0 0 [nest n]
def nestB (n : Nat) : List UInt8 := List.replicate n 40 ++ 97 :: List.replicate n 41
theorem nestB_succ (n : Nat) : nestB (n + 1) = 40 :: (nestB n ++ [41]) := by
  unfold nestB
  rw [List.replicate_succ, List.replicate_succ' (n := n) (a := (41 : UInt8))]
  simp
theorem nestB_len (n : Nat) : (nestB n).length = 2 * n + 1 := by unfold nestB; simp; omega
theorem nest_str : ∀ n, (nest n).str = nestB n
  | 0 => by rw [Nd.str_eq]; rfl
  | n + 1 => by
    rw [Nd.str_eq, nestB_succ]
    show 40 :: (sepB [(nest n).str] ++ [41]) = _
    rw [nest_str n]
    rfl
theorem nest_un : ∀ n, (nest n).un = nest n
  | 0 => by rw [Nd.un_eq]; rfl
  | n + 1 => by
    rw [Nd.un_eq]
    show Nd.mk 4 [] 0 0 [(nest n).un] = _
    rw [nest_un n]
    rfl
theorem lex_a (p : Nat) : lex it 0 p [97] = ([⟨0, [97], 0, p⟩], none) := by
  have h1 : ws false [97] = 0 := by decide
  have h2 : tk it [97] = some ⟨0, [97], 0, 0⟩ := by
    simp only [tk]
    rw [if_pos (by decide)]
    rfl
  rw [lex_some h1 h2]
  simp [lex]
theorem nest_fit : ∀ (n i : Nat), i + n ≤ 16 → FitN it (nest n) i
  | 0, i, _ => by
    refine FitN.intro ?_ (fun y hy => by cases hy)
    show (([] : List Nd).isEmpty && tokB it (nest 0)) = true
    unfold tokB
    have : allT it [97] = [⟨0, [97], 0, 0⟩] := by
      unfold allT ansT
      rw [lex_a]
      rfl
    rw [show (nest 0).text = [97] from rfl, this]
    rfl
  | n + 1, i, h => by
    refine FitN.intro ?_ (fun y hy => ?_)
    · show (decide (([] : List UInt8) = []) && decide ((0 : Int) = 0) && decide (i < 16)) = true
      simp; omega
    · obtain rfl := List.mem_singleton.1 (show y ∈ [nest n] from hy)
      exact nest_fit n (i + 1) (by omega)
theorem nest_deep : ∀ (n i : Nat), FitN it (nest n) i → n = 0 ∨ i + n ≤ 16
  | 0, _, _ => .inl rfl
  | n + 1, i, h => by
    right
    have h1 := (fit_list h rfl).2.2
    have h2 := nest_deep n (i + 1) (h.below (show nest n ∈ [nest n] from List.mem_singleton.2 rfl))
    omega
theorem nest_may (n : Nat) : mayB it (nest n) = decide (n ≤ 16) := by
  rw [Bool.eq_iff_iff, may_iff, decide_eq_true_eq]
  exact ⟨fun h => by have := nest_deep n 0 h; omega, fun h => nest_fit n 0 (by omega)⟩
def opensT : Nat → Nat → List T
  | 0, _ => []
  | m + 1, p => ⟨3, [40], 0, p⟩ :: opensT m (p + 1)
theorem lex_opens (r : List UInt8) : ∀ (m p : Nat), lex it 0 p (List.replicate m 40 ++ r) = (opensT m p ++ (lex it 0 (p + m) r).1, (lex it 0 (p + m) r).2)
  | 0, p => by simp [opensT]
  | m + 1, p => by
    have h1 : ws false (40 :: (List.replicate m 40 ++ r)) = 0 := ws_hd (by decide) (by decide) _
    have h2 : tk it (40 :: (List.replicate m 40 ++ r)) = some ⟨3, [40], 0, 0⟩ := by
      simp only [tk]
      rw [if_neg (by decide), if_neg (by decide), if_neg (by decide), if_pos (by decide)]
    rw [List.replicate_succ, List.cons_append, lex_some h1 h2]
    simp only [Nat.add_zero, Nat.zero_add, List.drop_succ_cons, List.drop_zero]
    rw [lex_opens r m (p + 1)]
    simp only [opensT, List.cons_append, show p + 1 + m = p + (m + 1) by omega]
theorem run_opens (X : List T) : ∀ (m p : Nat) (o : List Nd), o.length ≤ 16 → 16 < o.length + m → runP (opensT m p ++ X) ⟨o, none⟩ = .error (2, p + (16 - o.length))
  | 0, p, o, h1, h2 => by omega
  | m + 1, p, o, h1, h2 => by
    simp only [opensT, List.cons_append]
    unfold runP
    by_cases h : o.length = 16
    · have : stepP ⟨3, [40], 0, p⟩ ⟨o, none⟩ = .error 2 := by simp [stepP, h]
      rw [this, h]
      simp
    · have : stepP ⟨3, [40], 0, p⟩ ⟨o, none⟩ = .ok ⟨.mk 4 [] 0 p [] :: o, none⟩ := by simp [stepP, h]
      rw [this]
      simp only
      rw [run_opens X m (p + 1) _ (by simp; omega) (by simp; omega)]
      simp only [List.length_cons]
      congr 2
      omega
theorem lexd_close : ∀ m, Lexd it (List.replicate m 41) (List.replicate m (sg 41))
  | 0 => Lexd.nil
  | m + 1 => by
    rw [List.replicate_succ, List.replicate_succ]
    exact Lexd.sg (by decide) (lexd_close m)
/-- All that SexpNest asks of lists. -/
theorem nest14 (n : Nat) (h : n ≤ 100) : if 16 < n then (parR it (nestB n)).2.2 = 2 ∧ (parR it (nestB n)).2.1 = 16 ∧ mayB it (nest n) = false else (parR it (nestB n)).2.2 = 0 ∧ (parR it (nestB n)).1.un = (nest n).un ∧ mayB it (nest n) = true := by
  have hl := nestB_len n
  split
  · rename_i hn
    have hL := lex_opens (it := it) (97 :: List.replicate n 41) n 0
    have hc := lex_count (it := it) (nestB n) 0 0
    rw [show List.replicate n 40 ++ 97 :: List.replicate n 41 = nestB n from rfl] at hL
    have hn2 : (lex it 0 0 (nestB n)).2 = none := by
      rw [hL]
      have h1 : ws false (97 :: List.replicate n 41) = 0 := ws_hd (by decide) (by decide) _
      have hs : span isNext (List.replicate n 41) = 0 := by
        cases n with
        | zero => rfl
        | succ n => rw [List.replicate_succ]; simp [span, show isNext 41 = false by decide]
      have h2 : tk it (97 :: List.replicate n 41) = some ⟨0, [97], 0, 0⟩ := by
        simp only [tk]
        rw [if_pos (by decide), hs]
        rfl
      rw [lex_some h1 h2]
      exact (lexd_close n _).2
    have e0 : allE it (nestB n) = 0 := by unfold allE ansE; rw [if_neg (by omega), if_neg (by omega), hn2]; rfl
    have eT : allT it (nestB n) = (lex it 0 0 (nestB n)).1 := by unfold allT ansT; rw [if_neg (by omega), if_neg (by omega), hn2]; rfl
    unfold parR
    rw [if_neg (by omega), eT, hL, run_opens _ n 0 [] (by simp) (by simpa using hn)]
    exact ⟨rfl, rfl, by rw [nest_may]; simp; omega⟩
  · rename_i hn
    have hm : mayB it (nest n) = true := by rw [nest_may]; simp; omega
    have := back14 hm
    rw [nest_str] at this
    rcases this with ⟨h1, h2, h3⟩ | ⟨h1, h2, h3⟩
    · omega
    · exact ⟨h1, h3, hm⟩

/-! ### A text as a string -/

theorem q1_len (c : UInt8) : (q1 c).length ≤ 4 := by
  unfold q1
  repeat' (split <;> try simp)
theorem quote_len (t : List UInt8) : (quote t).length ≤ 4 * t.length + 2 := by
  unfold quote
  have : (t.flatMap q1).length ≤ 4 * t.length := by
    induction t with
    | nil => simp
    | cons c t ih =>
      rw [List.flatMap_cons, List.length_append, List.length_cons]
      have := q1_len c
      omega
  simp only [List.length_cons, List.length_append, List.length_nil]
  omega
def strN (t : List UInt8) : Nd := .mk 2 t 0 0 []
def strL (t : List UInt8) : Nd := .mk 4 [] 0 0 [strN t, strN t]
theorem strN_fit (t : List UInt8) (i : Nat) : FitN it (strN t) i := FitN.intro rfl (fun y hy => by cases hy)
theorem str14 (t : List UInt8) (h : t.length ≤ 600) : mayB it (strN t) = true ∧ mayB it (strL t) = true ∧
    ((parR it (strN t).str).2.2 = 0 ∧ (parR it (strN t).str).2.1 = (strN t).str.length ∧ (parR it (strN t).str).1.un = (strN t).un) ∧
    ((parR it (strL t).str).2.2 = 0 ∧ (parR it (strL t).str).1.un = (strL t).un) := by
  have m1 : mayB it (strN t) = true := may_iff.2 (strN_fit t 0)
  have m2 : mayB it (strL t) = true := may_iff.2 (FitN.intro rfl (fun y hy => by
    rcases List.mem_cons.1 (show y ∈ [strN t, strN t] from hy) with rfl | hy
    · exact strN_fit t 1
    · obtain rfl := List.mem_singleton.1 hy
      exact strN_fit t 1))
  have hq := quote_len t
  have e1 : (strN t).str = quote t := by rw [Nd.str_eq]; rfl
  have e2 : (strL t).str = 40 :: (quote t ++ 32 :: quote t ++ [41]) := by
    rw [Nd.str_eq]
    show 40 :: (sepB [(strN t).str, (strN t).str] ++ [41]) = _
    rw [e1]
    rfl
  have l1 : (strN t).tks.length = 1 := by rw [Nd.tks_eq]; rfl
  have l2 : (strL t).tks.length = 4 := by rw [Nd.tks_eq]; show (sg 40 :: (((strN t).tks ++ ((strN t).tks ++ [])) ++ [sg 41])).length = 4; simp [l1]
  refine ⟨m1, m2, ?_, ?_⟩
  · rcases back14 m1 with ⟨_, h2, _⟩ | h
    · rw [e1, l1] at h2; omega
    · exact h
  · rcases back14 m2 with ⟨_, h2, _⟩ | ⟨h1, _, h3⟩
    · rw [e2, l2] at h2
      simp only [List.length_cons, List.length_append, List.length_nil] at h2
      omega
    · exact ⟨h1, h3⟩
end

end Go.Proofs.YtceomdbahiimlaaDoor.T14
