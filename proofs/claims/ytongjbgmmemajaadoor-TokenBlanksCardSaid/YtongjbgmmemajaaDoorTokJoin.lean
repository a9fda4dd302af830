/-
  Of two texts with a line feed between the tokens are those of both: what the tokens of the joined text are, as lists.
-/
import Derived.Test.YtongjbgmmemajaaDoorTokAwake
import Derived.Test.YtongjbgmmemajaaDoorTokPlaces
namespace Go.Proofs.YtongjbgmmemajaaDoor
open Go.RowKit

def shiftT (d : Nat) (t : T) : T := { t with at_ := t.at_ + d }
theorem join_list (s t : ByteArray) : (s ++ ⟨#[10]⟩ ++ t).data.toList = s.data.toList ++ 10 :: t.data.toList := by
  rw [show s ++ ⟨#[10]⟩ ++ t = txt (s.data.toList ++ [10] ++ t.data.toList) by rw [← txt_app, ← txt_app, txt_of, txt_of]; rfl, txt_list]
  simp
theorem size_list (s : ByteArray) : s.size = s.data.toList.length := by simp
theorem join_size (s t : ByteArray) : (s ++ ⟨#[10]⟩ ++ t).size = s.size + 1 + t.size := by
  rw [size_list, join_list, List.length_append, List.length_cons, ← size_list, ← size_list]
  omega
section
variable {it : Int → List UInt8}
theorem short_all (L : List UInt8) (h : L.length ≤ 5000) (hc : (lex it 0 0 L).1.length ≤ 1000) :
    (allE it L = 0 ∧ allT it L = (lex it 0 0 L).1 ∧ allAt it L = L.length ∧ (lex it 0 0 L).2 = none) ∨ (allE it L = 4 ∧ allT it L = [] ∧ ∃ q, allAt it L = q ∧ q < L.length ∧ (lex it 0 0 L).2 = some q) := by
  unfold allE allT allAt ansE ansT ansAt
  simp only [if_neg (show ¬ 5000 < L.length by omega), if_neg (show ¬ 1000 < (lex it 0 0 L).1.length by omega)]
  cases h2 : (lex it 0 0 L).2 with
  | none => left; exact ⟨rfl, rfl, rfl, rfl⟩
  | some q =>
    right
    have := lex_place L 0 0 q h2
    exact ⟨rfl, rfl, q, rfl, by omega, rfl⟩
theorem join_all (S T : List UInt8) (hS : S.length ≤ 500) (hT : T.length ≤ 500) :
    (allE it S = 4 ∧ (allT it S).length ≤ 500) ∨
    (allE it S = 0 ∧ (allT it S).length ≤ 500 ∧ (allT it T).length ≤ 500 ∧ allE it (S ++ 10 :: T) = allE it T ∧ allAt it (S ++ 10 :: T) = allAt it T + S.length + 1 ∧ allAt it T ≤ 500 ∧ (allT it (S ++ 10 :: T)).length ≤ 1000 ∧
      (allE it T = 0 ∧ (allT it (S ++ 10 :: T)).length = (allT it S).length + (allT it T).length ∨ allE it T = 4) ∧
      ∀ k, k < (allT it (S ++ 10 :: T)).length → (k < (allT it S).length → (allT it (S ++ 10 :: T))[k]? = (allT it S)[k]?) ∧
        ((allT it S).length ≤ k → ∃ y, (allT it T)[k - (allT it S).length]? = some y ∧ (allT it (S ++ 10 :: T))[k]? = some (shiftT (S.length + 1) y) ∧ y.at_ ≤ 500)) := by
  have cS := lex_count (it := it) S 0 0
  have cT := lex_count (it := it) T 0 0
  rcases short_all (it := it) S (by omega) (by omega) with ⟨a1, a2, a3, a4⟩ | ⟨a1, a2, _⟩
  · right
    have hj := lex_join (it := it) T S 0 0 (by omega) a4
    have hs := lex_shift (it := it) (S.length + 1) T 0 0
    rw [show 0 + S.length + 1 = 0 + (S.length + 1) by omega, hs] at hj
    have hl : (S ++ 10 :: T).length = S.length + 1 + T.length := by rw [List.length_append, List.length_cons]; omega
    have hc : (lex it 0 0 (S ++ 10 :: T)).1.length ≤ 1000 := by rw [hj]; simp only [List.length_append, List.length_map]; omega
    rcases short_all (it := it) (S ++ 10 :: T) (by omega) hc with ⟨b1, b2, b3, b4⟩ | ⟨b1, b2, q, b3, _, b4⟩
    · rw [hj] at b4
      have e4 : (lex it 0 0 T).2 = none := by simpa using b4
      rcases short_all (it := it) T (by omega) (by omega) with ⟨c1, c2, c3, c4⟩ | ⟨_, _, _, _, _, c4⟩
      · refine ⟨a1, by rw [a2]; omega, by rw [c2]; omega, by rw [b1, c1], by rw [b3, c3, hl]; omega, by omega, by rw [b2]; exact hc, .inl ⟨c1, ?_⟩, ?_⟩
        · rw [b2, a2, c2, hj]; simp
        · intro k hk
          rw [b2, hj] at hk ⊢
          rw [a2, c2]
          refine ⟨fun h => List.getElem?_append_left h, fun h => ?_⟩
          simp only [List.length_append, List.length_map] at hk
          have hlt : k - (lex it 0 0 S).1.length < (lex it 0 0 T).1.length := by omega
          have hy := List.getElem?_eq_getElem hlt
          have hg := lex_good T 0 0 _ (List.getElem_mem hlt)
          refine ⟨_, hy, ?_, by omega⟩
          rw [List.getElem?_append_right h, List.getElem?_map, hy]
          rfl
      · rw [e4] at c4; cases c4
    · rw [hj] at b4
      rcases short_all (it := it) T (by omega) (by omega) with ⟨_, _, _, c4⟩ | ⟨c1, c2, p, c3, c5, c4⟩
      · rw [c4] at b4; simp at b4
      · rw [c4] at b4
        have hq : p + (S.length + 1) = q := by simpa using b4
        refine ⟨a1, by rw [a2]; omega, by rw [c2]; simp, by rw [b1, c1], by rw [b3, c3]; omega, by omega, by rw [b2]; simp, .inr c1, ?_⟩
        intro k hk
        rw [b2] at hk
        simp at hk
  · left
    exact ⟨a1, by rw [a2]; simp⟩
end
end Go.Proofs.YtongjbgmmemajaaDoor
