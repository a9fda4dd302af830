/-
  Where a text goes wrong: what is plain of it.
-/
import Derived.Test.YtldgfepimegbmaaDoorProFacts
import Derived.Test.YtldgfepimegbmaaDoorProAwake
namespace Go.Proofs.YtldgfepimegbmaaDoor
set_option maxRecDepth 100000
open Go.RowKit

theorem par_open {F : Fl} {p e : Nat} {w w' : World} {r : Ending} (h : ParPost F p e w r w') :
    ∃ A c A' c', r = .returned (.tuple #[.agg #[.slice A F.M.length c, .slice A' F.E.length c'], .int .i64 p, .int .i64 e]) ∧ FRead w' F (.slice A F.M.length c) (.slice A' F.E.length c') ∧ Below w.heap.size w w' := by
  obtain ⟨vM, vE, rfl, hf, hb⟩ := h
  have hf2 := hf
  obtain ⟨xs, ys, h1, h2, h3, h4⟩ := hf
  obtain ⟨A, c, rfl, -⟩ := Sl.of_own h1
  obtain ⟨A', c', rfl, -⟩ := Sl.of_own h3
  exact ⟨A, c, A', c', rfl, hf2, hb⟩
/-- A text without an error of its tokens. -/
theorem err0 {L : List UInt8} (h : errOf L = 0) : L.length ≤ 5000 ∧ toksOf L = (lex Lib.itoa 0 0 L).1 ∧ (lex Lib.itoa 0 0 L).2 = none ∧ (lex Lib.itoa 0 0 L).1.length ≤ 1000 ∧ allAt Lib.itoa L = L.length := by
  unfold errOf allE at h
  by_cases h5 : 5000 < L.length
  · rw [if_pos h5] at h; cases h
  · rw [if_neg h5] at h
    unfold ansE at h
    by_cases h1 : 1000 < (lex Lib.itoa 0 0 L).1.length
    · rw [if_pos h1] at h; cases h
    · rw [if_neg h1] at h
      cases h2 : (lex Lib.itoa 0 0 L).2 with
      | some q => rw [h2] at h; cases h
      | none =>
        refine ⟨by omega, ?_, rfl, by omega, ?_⟩
        · unfold toksOf allT ansT
          rw [if_neg h5, if_neg h1, h2]; rfl
        · unfold allAt ansAt
          rw [if_neg h5, if_neg h1, h2]; rfl
theorem err_of_lex {L : List UInt8} {X : List T} (h5 : L.length ≤ 5000) (h : lex Lib.itoa 0 0 L = (X, none)) (hx : X.length ≤ 1000) : errOf L = 0 ∧ toksOf L = X := by
  have n5 : ¬ 5000 < L.length := by omega
  have n1 : ¬ 1000 < X.length := by omega
  constructor
  · unfold errOf allE ansE
    rw [if_neg n5, h]
    simp only [if_neg n1]; rfl
  · unfold toksOf allT ansT
    rw [if_neg n5, h]
    simp only [if_neg n1]; rfl
theorem par_bad {L : List UInt8} (h0 : errOf L = 0) (h1 : okR (run c0 (toksOf L)) = false) : parF L = ⟨[], []⟩ ∧ parE L = 4 ∧ parAt L = S.place L.length ⟨(run c0 (toksOf L)).2, true⟩ := by
  simp [parF, parE, parAt, parOK, h0, h1]
theorem par_ok {L : List UInt8} (h0 : errOf L = 0) (h1 : okR (run c0 (toksOf L)) = true) : parF L = (run c0 (toksOf L)).1.f ∧ parE L = 0 ∧ parAt L = L.length := by
  simp [parF, parE, parAt, parOK, h0, h1]
theorem par_err {L : List UInt8} (h0 : errOf L ≠ 0) : parF L = ⟨[], []⟩ ∧ parE L = errOf L ∧ parAt L = allAt Lib.itoa L := by
  simp [parF, parE, parAt, parOK, h0]
theorem place_pure (L : List UInt8) (h0 : errOf L = 0) (h1 : okR (run c0 (toksOf L)) = false) :
    parAt L ≤ L.length ∧ (parAt L = L.length ∨ ∃ t ∈ toksOf L, t.at_ = parAt L) ∧ (parE (L.take (parAt L)) = 0 ∨ (parE (L.take (parAt L)) = 4 ∧ parAt (L.take (parAt L)) = parAt L)) := by
  obtain ⟨e1, e2, e3, e4, e5⟩ := err0 h0
  obtain ⟨b1, b2, b3⟩ := par_bad h0 h1
  have hlx : lex Lib.itoa 0 0 L = (toksOf L, none) := by rw [e2, ← e3]
  obtain ⟨pre, hp1, hp2⟩ := run_split (toksOf L) c0
  cases hr : (run c0 (toksOf L)).2 with
  | nil =>
    have hq : parAt L = L.length := by rw [b3, hr]; rfl
    rw [hq, List.take_length]
    exact ⟨Nat.le_refl _, .inl rfl, .inr ⟨b2, hq⟩⟩
  | cons t r =>
    have hq : parAt L = t.at_ := by rw [b3, hr]; rfl
    rw [hr] at hp1
    have hmem : t ∈ toksOf L := by rw [hp1]; simp
    have hg := lex_good (it := Lib.itoa) L 0 0 t (by rw [← e2]; exact hmem)
    have hcut := lex_take (it := Lib.itoa) L 0 0 pre t r none (by rw [hlx, hp1])
    rw [Nat.sub_zero, ← hq] at hcut
    have hle : parAt L ≤ L.length := by omega
    have hlt : (L.take (parAt L)).length = parAt L := by rw [List.length_take]; omega
    have hpl : pre.length ≤ 1000 := by
      have := congrArg List.length hp1
      rw [e2] at this
      simp at this
      omega
    obtain ⟨c1, c2⟩ := err_of_lex (L := L.take (parAt L)) (by omega) hcut hpl
    refine ⟨hle, .inr ⟨t, hmem, hq.symm⟩, ?_⟩
    cases hok : okR (run c0 (toksOf (L.take (parAt L)))) with
    | true => exact .inl (par_ok c1 hok).2.1
    | false =>
      obtain ⟨d1, d2, d3⟩ := par_bad c1 hok
      refine .inr ⟨d2, ?_⟩
      rw [d3, c2, hp2]
      exact hlt
end Go.Proofs.YtldgfepimegbmaaDoor
