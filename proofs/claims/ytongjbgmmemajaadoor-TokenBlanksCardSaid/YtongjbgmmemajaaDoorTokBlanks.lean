/-
  A text behind blanks, and with blanks behind it: its tokens, as lists; a token's place put back in its row.
-/
import Derived.Test.YtongjbgmmemajaaDoorTokJoin
namespace Go.Proofs.YtongjbgmmemajaaDoor
open Go.RowKit

def blankAt (k : Nat) : UInt8 := [32, 9, 10, 13].getD (k % 4) 32
def padB (k : Nat) : List UInt8 := (List.range k).map blankAt
def padL (k : Nat) : List UInt8 := 47 :: 47 :: 32 :: 120 :: 10 :: padB k
theorem padL_length (k : Nat) : (padL k).length = k + 5 := by simp [padL, padB]
theorem padL_succ (k : Nat) : padL k ++ [blankAt k] = padL (k + 1) := by simp [padL, padB, List.range_succ]
theorem blankAt_blank (k : Nat) : isBlank (blankAt k) = true := by
  have h : ∀ m, m < 4 → isBlank (([32, 9, 10, 13] : List UInt8).getD m 32) = true := by decide
  exact h _ (Nat.mod_lt _ (by omega))
theorem padB_blank (k : Nat) : ∀ c ∈ padB k, isBlank c = true := by
  intro c hc
  obtain ⟨i, _, rfl⟩ := List.mem_map.1 hc
  exact blankAt_blank i
theorem pad_ws (k : Nat) (S : List UInt8) : ws false (padL k ++ S) = (padL k).length + ws false S := by
  have h1 : padL k ++ S = 47 :: 47 :: 32 :: 120 :: ((10 :: padB k) ++ S) := by simp [padL]
  rw [h1, ws_comment rfl, ws_true, if_pos (by simp)]
  have h2 : span (fun c => c != 10) (47 :: 47 :: 32 :: 120 :: ((10 :: padB k) ++ S)) = 4 := by simp [span]
  rw [h2, show (47 :: 47 :: 32 :: 120 :: ((10 :: padB k) ++ S)).drop 4 = (10 :: padB k) ++ S from rfl, ws_blanks (10 :: padB k) (by
    intro c hc
    rcases List.mem_cons.1 hc with rfl | hc
    · decide
    · exact padB_blank k c hc)]
  simp only [padL, List.length_cons]
  omega
section
variable {it : Int → List UInt8}
theorem pad_lex (k : Nat) (S : List UInt8) : lex it 0 0 (padL k ++ S) = ((lex it 0 0 S).1.map (shiftT (padL k).length), (lex it 0 0 S).2.map (· + (padL k).length)) := by
  have h := lex_shift (it := it) (padL k).length S 0 0
  rw [lex_ws 0 (padL k ++ S), pad_ws, show (padL k ++ S).drop ((padL k).length + ws false S) = S.drop (ws false S) by rw [List.drop_append, List.drop_of_length_le (by omega)]; simp, ← Nat.add_assoc, ← lex_ws, h]
  rfl
theorem pad_only (k p : Nat) : lex it 0 p (padL k) = ([], none) := by
  have h := pad_lex (it := it) k []
  have hs := lex_shift (it := it) p (padL k) 0 0
  rw [List.append_nil] at h
  rw [Nat.zero_add, h] at hs
  rw [hs]
  simp [lex]
theorem blanks_all (S : List UInt8) (n : Nat) (hS : S.length ≤ 1000) (hn : n ≤ 100) :
    allE it (padL n ++ S) = allE it S ∧ allT it (padL n ++ S) = (allT it S).map (shiftT (padL n).length) ∧ (allT it S).length ≤ 1000 ∧ (∀ x ∈ allT it S, x.at_ ≤ 1000) ∧ allAt it S ≤ 1000 ∧
      ((allE it S = 0 ∧ allE it (S ++ 10 :: padL n) = 0 ∧ allT it (S ++ 10 :: padL n) = allT it S) ∨ (allE it S = 4 ∧ allAt it (padL n ++ S) = allAt it S + (padL n).length ∧ allT it S = [])) := by
  have cS := lex_count (it := it) S 0 0
  have hp := pad_lex (it := it) n S
  have hpl := padL_length n
  have hc1 : (lex it 0 0 (padL n ++ S)).1.length ≤ 1000 := by rw [hp]; simp only [List.length_map]; omega
  have hl1 : (padL n ++ S).length ≤ 5000 := by rw [List.length_append]; omega
  have hl2 : (S ++ 10 :: padL n).length ≤ 5000 := by rw [List.length_append, List.length_cons]; omega
  rcases short_all (it := it) S (by omega) (by omega) with ⟨a1, a2, a3, a4⟩ | ⟨a1, a2, q, a3, a5, a4⟩
  · rw [a4] at hp
    have hj := lex_join (it := it) (padL n) S 0 0 (by omega) a4
    rw [pad_only, List.append_nil] at hj
    have hc2 : (lex it 0 0 (S ++ 10 :: padL n)).1.length ≤ 1000 := by rw [hj]; simp only; omega
    have hat : ∀ x ∈ (lex it 0 0 S).1, x.at_ ≤ 1000 := fun x hx => by have := lex_good S 0 0 x hx; omega
    rcases short_all (it := it) (padL n ++ S) hl1 hc1 with ⟨b1, b2, b3, b4⟩ | ⟨_, _, _, _, _, b4⟩
    · rcases short_all (it := it) (S ++ 10 :: padL n) hl2 hc2 with ⟨c1, c2, c3, c4⟩ | ⟨_, _, _, _, _, c4⟩
      · exact ⟨by rw [b1, a1], by rw [b2, a2, hp], by rw [a2]; omega, by rw [a2]; exact hat, by omega, .inl ⟨a1, c1, by rw [c2, a2, hj]⟩⟩
      · rw [hj] at c4; cases c4
    · rw [hp] at b4; cases b4
  · rw [a4] at hp
    rcases short_all (it := it) (padL n ++ S) hl1 hc1 with ⟨_, _, _, b4⟩ | ⟨b1, b2, p, b3, b5, b4⟩
    · rw [hp] at b4; cases b4
    · rw [hp] at b4
      have hq : q + (padL n).length = p := by simpa using b4
      exact ⟨by rw [b1, a1], by rw [b2, a2]; rfl, by rw [a2]; simp, by rw [a2]; simp, by omega, .inr ⟨a1, by omega, a2⟩⟩
end
theorem own_on {w w' : World} {base : Nat} {e : TypeId} {size : Nat} {v : Value} {n : Nat} {xs : List Value} (h : w.ownsRow base e size v n xs) (hb : Below w.heap.size w w') : w'.ownsRow base e size v n xs :=
  h.kept (row := none) ⟨hb.os, hb.tape, hb.output, hb.size, fun k hk _ => hb.block k hk⟩ (by
    cases hv : v.ownBlock with
    | none => exact .inl rfl
    | some k => exact .inr (by simp))
theorem unshift_get {X : List T} {k d : Nat} {x : T} (hx : X[k]? = some x) : (tv (X.take k ++ (X.drop k).map (shiftT d)))[k * 4 + 3]? = some (.int .i64 ((x.at_ + d : Nat) : Int)) := by
  obtain ⟨hk, hx'⟩ := List.getElem?_eq_some_iff.1 hx
  rw [tv_get _ k 3 (shiftT d x) (by
    rw [List.getElem?_append_right (by rw [List.length_take]; omega), List.length_take, show k - min k X.length = 0 by omega, List.getElem?_map, List.getElem?_drop, Nat.add_zero, hx]; rfl) (by omega)]
  rfl
theorem unshift_step {X : List T} {k d : Nat} {x : T} (hx : X[k]? = some x) :
    (tv (X.take k ++ (X.drop k).map (shiftT d))).set (k * 4 + 3) (.int .i64 (x.at_ : Int)) = tv (X.take (k + 1) ++ (X.drop (k + 1)).map (shiftT d)) := by
  obtain ⟨hk, hx'⟩ := List.getElem?_eq_some_iff.1 hx
  have hl : (tv (X.take k)).length = k * 4 := by rw [tv_length, List.length_take, show min k X.length = k by omega]
  rw [List.drop_eq_getElem_cons hk, hx', List.map_cons, tv_append, tv_cons, List.set_append_right _ _ (by omega), hl, show k * 4 + 3 - k * 4 = 3 by omega]
  rw [List.take_add_one, hx, List.append_assoc, tv_append, tv_append (some x).toList]
  rfl
end Go.Proofs.YtongjbgmmemajaaDoor
