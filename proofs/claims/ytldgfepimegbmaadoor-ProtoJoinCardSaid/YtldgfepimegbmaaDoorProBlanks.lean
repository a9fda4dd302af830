/-
  A text behind a remark and blanks is the same file: facts on lists.
-/
import Derived.Test.YtldgfepimegbmaaDoorProShift
import Derived.Test.YtldgfepimegbmaaDoorTokRnum
namespace Go.Proofs.YtldgfepimegbmaaDoor
set_option maxRecDepth 100000

def padP (k : Nat) : List UInt8 := 47 :: 47 :: 10 :: List.replicate k 32
theorem padP_length (k : Nat) : (padP k).length = k + 3 := by simp [padP]
theorem padP_succ (k : Nat) : padP k ++ [32] = padP (k + 1) := by simp [padP, List.replicate_succ']
theorem padP_ws (k : Nat) (S : List UInt8) : ws false (padP k ++ S) = (padP k).length + ws false S := by
  have h1 : padP k ++ S = 47 :: 47 :: ((10 :: List.replicate k 32) ++ S) := by simp [padP]
  rw [h1, ws_comment rfl, ws_true, if_pos (by simp)]
  have h2 : span (fun c => c != 10) (47 :: 47 :: ((10 :: List.replicate k 32) ++ S)) = 2 := by simp [span]
  rw [h2, show (47 :: 47 :: ((10 :: List.replicate k 32) ++ S)).drop 2 = (10 :: List.replicate k 32) ++ S from rfl, ws_blanks (10 :: List.replicate k 32) (by
    intro c hc
    rcases List.mem_cons.1 hc with rfl | hc
    · decide
    · obtain rfl := List.eq_of_mem_replicate hc
      decide)]
  simp only [padP, List.length_cons]
  omega
theorem padP_lex {it : Int → List UInt8} (k : Nat) (S : List UInt8) : lex it 0 0 (padP k ++ S) = ((lex it 0 0 S).1.map (shift (padP k).length), (lex it 0 0 S).2.map (· + (padP k).length)) := by
  have h := lex_shift (it := it) (padP k).length S 0 0
  rw [lex_ws 0 (padP k ++ S), padP_ws, show (padP k ++ S).drop ((padP k).length + ws false S) = S.drop (ws false S) by rw [List.drop_append, List.drop_of_length_le (by omega)]; simp, ← Nat.add_assoc, ← lex_ws, h]
  rfl
/-- Tokens that stand further on, behind what is no longer than the text may be. -/
theorem all_shift {L M : List UInt8} {d : Nat} (hl : M.length = L.length + d) (h5 : M.length ≤ 5000) (h : lex Lib.itoa 0 0 M = ((lex Lib.itoa 0 0 L).1.map (shift d), (lex Lib.itoa 0 0 L).2.map (· + d))) :
    errOf M = errOf L ∧ toksOf M = (toksOf L).map (shift d) ∧ allAt Lib.itoa M = allAt Lib.itoa L + d := by
  have n1 : ¬ 5000 < M.length := by omega
  have n2 : ¬ 5000 < L.length := by omega
  unfold errOf toksOf allE allT allAt
  simp only [if_neg n1, if_neg n2]
  rw [h]
  unfold ansE ansT ansAt
  simp only [List.length_map]
  by_cases hc : 1000 < (lex Lib.itoa 0 0 L).1.length
  · simp only [if_pos hc]
    refine ⟨by trivial, by trivial, ?_⟩
    have hg := List.getElem?_eq_getElem hc
    simp only [List.getD_eq_getElem?_getD, List.getElem?_map, hg]
    rfl
  · simp only [if_neg hc]
    cases (lex Lib.itoa 0 0 L).2 with
    | none => exact ⟨by trivial, by trivial, hl⟩
    | some q => exact ⟨by trivial, by trivial, by trivial⟩
theorem par_shift {L M : List UInt8} {d : Nat} (hl : M.length = L.length + d) (h1 : errOf M = errOf L) (h2 : toksOf M = (toksOf L).map (shift d)) (h3 : allAt Lib.itoa M = allAt Lib.itoa L + d) :
    parE M = parE L ∧ parAt M = parAt L + d ∧ sameFl (parF L) (parF M) = true := by
  obtain ⟨r1, r2⟩ := run_shift d (toksOf L) c0 c0 rfl
  have hpc : (run c0 ((toksOf L).map (shift d))).1.pc = (run c0 (toksOf L)).1.pc := by
    have h : (run c0 ((toksOf L).map (shift d))).1.bare.pc = (run c0 (toksOf L)).1.bare.pc := by rw [r1]
    exact h
  have hok : okR (run c0 ((toksOf L).map (shift d))) = okR (run c0 (toksOf L)) := by
    unfold okR
    rw [hpc, r2]
    cases (run c0 (toksOf L)).2 <;> rfl
  unfold parE parAt parF parOK
  rw [h1, h2, h3, hok, hl]
  refine ⟨rfl, ?_, ?_⟩
  · split
    · split
      · rfl
      · rw [r2]
        cases (run c0 (toksOf L)).2 with
        | nil => rfl
        | cons t r => rfl
    · rfl
  · split
    · have h : (run c0 ((toksOf L).map (shift d))).1.bare.f = (run c0 (toksOf L)).1.bare.f := by rw [r1]
      exact same_fl h.symm
    · exact same_fl rfl
theorem blanks7 (S : List UInt8) (n : Nat) (hS : S.length ≤ 1500) (hn : n ≤ 100) :
    parE (padP n ++ S) = parE S ∧ parAt (padP n ++ S) = parAt S + (padP n).length ∧ sameFl (parF S) (parF (padP n ++ S)) = true := by
  have hp := padP_length n
  have hl : (padP n ++ S).length = S.length + (padP n).length := by rw [List.length_append]; omega
  obtain ⟨a1, a2, a3⟩ := all_shift hl (by omega) (padP_lex n S)
  exact par_shift hl a1 a2 a3
theorem allAt_le (L : List UInt8) : allAt Lib.itoa L ≤ L.length := by
  unfold allAt
  split
  · omega
  · unfold ansAt
    split
    · rename_i hc
      have hg := List.getElem?_eq_getElem hc
      rw [List.getD_eq_getElem?_getD, hg]
      have := lex_good (it := Lib.itoa) L 0 0 _ (List.getElem_mem hc)
      simp only [Option.getD_some]
      omega
    · cases hq : (lex Lib.itoa 0 0 L).2 with
      | none => simp
      | some q =>
        have := lex_place (it := Lib.itoa) L 0 0 q hq
        simp only [Option.getD_some]
        omega
theorem parAt_le (L : List UInt8) : parAt L ≤ L.length := by
  by_cases h0 : errOf L = 0
  · cases h1 : okR (run c0 (toksOf L)) with
    | true => rw [(par_ok h0 h1).2.2]; omega
    | false => exact (place_pure L h0 h1).1
  · rw [(par_err h0).2.2]; exact allAt_le L
end Go.Proofs.YtldgfepimegbmaaDoor
