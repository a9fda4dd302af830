/-
  The chapter's example of a node.
-/
import Derived.Test.YtceomdbahiimlaaDoorSexFacts
namespace Go.Proofs.YtceomdbahiimlaaDoor.T14
set_option maxRecDepth 100000

def ex14 : List UInt8 := [40, 101, 113, 32, 97, 32, 53, 41]
def ex14T : List T := [⟨3, [40], 0, 0⟩, ⟨0, [101, 113], 0, 1⟩, ⟨0, [97], 0, 4⟩, ⟨1, [53], 5, 6⟩, ⟨3, [41], 0, 7⟩]
def ex14N : Nd := .mk 4 [] 0 0 [.mk 0 [101, 113] 0 1 [], .mk 0 [97] 0 4 [], .mk 1 [53] 5 6 []]
theorem itoa_5 : Lib.itoa 5 = [53] := by
  rw [itoa_nonneg _ (by decide), show (5 : Int).toNat = 5 from rfl, Lib.decDigits_one (by decide)]; rfl
theorem num_5 : numOf Lib.itoa [53] = some 5 := by
  have h := numOf_itoa (n := 5) (by omega) (by omega)
  rwa [itoa_5] at h
theorem ex14_lex (it : Int → List UInt8) (h : numOf it [53] = some 5) : lex it 0 0 ex14 = (ex14T, none) := by
  have h1 : lex it 0 0 ex14 = (ex14T.take 3 ++ (lex it 0 5 [32, 53, 41]).1, (lex it 0 5 [32, 53, 41]).2) := rfl
  have h2 : tk it [53, 41] = some ⟨1, [53], 5, 0⟩ := by
    have : tk it [53, 41] = (numOf it [53]).map fun n => ⟨1, [53], n, 0⟩ := rfl
    rw [this, h]; rfl
  have h3 : lex it 0 5 [32, 53, 41] = lex it 0 6 [53, 41] := rfl
  rw [h1, h3, lex_some rfl h2]
  rfl
theorem ex14_all : allT Lib.itoa ex14 = ex14T ∧ allE Lib.itoa ex14 = 0 := by
  have h := ex14_lex Lib.itoa num_5
  simp only [allT, allE, h]
  exact ⟨rfl, rfl⟩
theorem ex14_par : parR Lib.itoa ex14 = (ex14N, 8, 0) := by
  unfold parR
  rw [ex14_all.1, ex14_all.2]
  rfl
theorem ex14_may : mayB Lib.itoa ex14N = true := by
  have h := par_may (it := Lib.itoa) (L := ex14) (by rw [ex14_par])
  rwa [ex14_par] at h
theorem ex14_str : ex14N.str = ex14 := by
  simp [ex14N, ex14, Nd.str_eq, Nd.kind, Nd.text, Nd.l, sepB]
theorem ex14_print : printB Lib.itoa ex14N = ex14 := by rw [printB, ex14_may, if_pos rfl, ex14_str]
end Go.Proofs.YtceomdbahiimlaaDoor.T14
