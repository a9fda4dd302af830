/-
  A text behind another one that is a file: facts on lists.
-/
import Derived.Test.YtldgfepimegbmaaDoorProBlanks
namespace Go.Proofs.YtldgfepimegbmaaDoor
set_option maxRecDepth 100000

def Fl.app (f g : Fl) : Fl := ⟨f.M ++ g.M, f.E ++ g.E⟩
def C.pre (F : Fl) (c : C) : C := { c with f := F.app c.f }
theorem app_addM (F f : Fl) (m : Ms) : F.app (f.addM m) = (F.app f).addM m := by simp [Fl.app, Fl.addM]
theorem app_addE (F f : Fl) (m : En) : F.app (f.addE m) = (F.app f).addE m := by simp [Fl.app, Fl.addE]
theorem step_pre (F : Fl) (c : C) (t : T) : step (c.pre F) t = (step c t).map (C.pre F) := by
  obtain ⟨pc, f, m, d, o, e, v⟩ := c
  cases o <;> cases pc <;> simp only [step, C.pre] <;> (repeat' split) <;> first | (exfalso; contradiction) | simp [C.pre, app_addM, app_addE] | simp_all
theorem run_pre (F : Fl) : ∀ (l : List T) (c : C), run (c.pre F) l = ((run c l).1.pre F, (run c l).2)
  | [], c => rfl
  | t :: l, c => by
    have h := step_pre F c t
    cases hs : step c t with
    | none =>
      rw [hs] at h
      rw [run_none h, run_none hs]
    | some c' =>
      rw [hs] at h
      rw [run_some h, run_some hs]
      exact run_pre F l c'
def Neat (c : C) : Prop := c.pc = .top → c = { pc := .top, f := c.f }
theorem step_neat {c c' : C} {t : T} (hs : step c t = some c') : Neat c' := by
  obtain ⟨pc, f, m, d, o, e, v⟩ := c
  cases pc <;> simp only [step] at hs <;> (repeat' (split at hs)) <;> try (cases hs; done)
  all_goals
    obtain rfl := Option.some.inj hs
    intro h
    first | rfl | (cases h; done) | (simp only at h; split at h <;> cases h)
theorem run_neat : ∀ (l : List T) (c : C), Neat c → Neat (run c l).1
  | [], c, h => h
  | t :: l, c, h => by
    cases hs : step c t with
    | none => rw [run_none hs]; exact h
    | some c' => rw [run_some hs]; exact run_neat l c' (step_neat hs)
theorem okR_iff {x : C × List T} : okR x = true ↔ x.1.pc = .top ∧ x.2 = [] := by
  unfold okR
  rw [Bool.and_eq_true, decide_eq_true_eq, List.isEmpty_iff]
theorem parE_zero {L : List UInt8} (h : parE L = 0) : errOf L = 0 ∧ okR (run c0 (toksOf L)) = true := by
  by_cases h0 : errOf L = 0
  · refine ⟨h0, ?_⟩
    cases h1 : okR (run c0 (toksOf L)) with
    | true => rfl
    | false => rw [(par_bad h0 h1).2.1] at h; cases h
  · rw [(par_err h0).2.1] at h
    exact absurd h h0
theorem join7 (A B : List UInt8) (hS : A.length ≤ 1500) (hT : B.length ≤ 1500) :
    parE A ≠ 0 ∨ parE B = 2 ∨ parE (A ++ 10 :: B) = 2 ∨ (parE B ≠ 0 ∧ parE (A ++ 10 :: B) = parE B ∧ parAt (A ++ 10 :: B) = parAt B + A.length + 1) ∨
      (parE B = 0 ∧ parE (A ++ 10 :: B) = 0 ∧ sameFl (parF (A ++ 10 :: B)) ((parF A).app (parF B)) = true) := by
  by_cases hz : parE A = 0
  · right; right
    obtain ⟨z1, z2⟩ := parE_zero hz
    obtain ⟨e1, e2, e3, e4, e5⟩ := err0 z1
    have hF := (par_ok z1 z2).1
    have hj := lex_join (it := Lib.itoa) B A 0 0 (by omega) e3
    have hs := lex_shift (it := Lib.itoa) (A.length + 1) B 0 0
    rw [show 0 + A.length + 1 = 0 + (A.length + 1) by omega, hs, ← e2] at hj
    have hl : (A ++ 10 :: B).length = B.length + (A.length + 1) := by rw [List.length_append, List.length_cons]; omega
    obtain ⟨o1, o2⟩ := okR_iff.1 z2
    have hn := run_neat (toksOf A) c0 (fun _ => rfl) o1
    generalize hX : toksOf A = X at *
    clear hX
    have hmap : ∀ l : List T, l.map (fun t => { t with at_ := t.at_ + (A.length + 1) }) = l.map (shift (A.length + 1)) := fun _ => rfl
    rw [hmap] at hj
    by_cases hc : 1000 < (lex Lib.itoa 0 0 (A ++ 10 :: B)).1.length
    · left
      have h2 : errOf (A ++ 10 :: B) = 2 := by
        unfold errOf allE ansE
        rw [if_neg (by omega), if_pos hc]
      rw [(par_err (by rw [h2]; decide)).2.1, h2]
    · right
      have hcT : ¬ 1000 < (lex Lib.itoa 0 0 B).1.length := by
        rw [hj] at hc
        simp only [List.length_append, List.length_map] at hc
        omega
      have n1 : ¬ 5000 < (A ++ 10 :: B).length := by omega
      have n2 : ¬ 5000 < B.length := by omega
      cases hq : (lex Lib.itoa 0 0 B).2 with
      | some q =>
        left
        have hqU : (lex Lib.itoa 0 0 (A ++ 10 :: B)).2 = some (q + (A.length + 1)) := by rw [hj, hq]; rfl
        have a1 : errOf B = 4 := by unfold errOf allE ansE; rw [if_neg n2, if_neg hcT, hq]; rfl
        have a2 : errOf (A ++ 10 :: B) = 4 := by unfold errOf allE ansE; rw [if_neg n1, if_neg hc, hqU]; rfl
        have a3 : allAt Lib.itoa B = q := by unfold allAt ansAt; rw [if_neg n2, if_neg hcT, hq]; rfl
        have a4 : allAt Lib.itoa (A ++ 10 :: B) = q + (A.length + 1) := by unfold allAt ansAt; rw [if_neg n1, if_neg hc, hqU]; rfl
        obtain ⟨-, b2, b3⟩ := par_err (L := B) (by rw [a1]; decide)
        obtain ⟨-, c2, c3⟩ := par_err (L := A ++ 10 :: B) (by rw [a2]; decide)
        exact ⟨by rw [b2, a1]; decide, by rw [b2, c2, a1, a2], by rw [b3, c3, a3, a4]; omega⟩
      | none =>
        have tT : lex Lib.itoa 0 0 B = ((lex Lib.itoa 0 0 B).1, none) := by rw [← hq]
        obtain ⟨a1, a2⟩ := err_of_lex (by omega) tT (by omega)
        rw [hq, ← a2] at hj
        simp only [Option.map_none] at hj
        obtain ⟨c1, c2⟩ := err_of_lex (L := A ++ 10 :: B) (by omega) hj (by rw [hj] at hc; simp only at hc; omega)
        obtain ⟨r1, r2⟩ := run_shift (A.length + 1) (toksOf B) c0 c0 rfl
        have hrun : run c0 (toksOf (A ++ 10 :: B)) = ((run c0 ((toksOf B).map (shift (A.length + 1)))).1.pre (parF A), (run c0 ((toksOf B).map (shift (A.length + 1)))).2) := by
          rw [c2, run_append _ _ _ o2, hn, ← hF, ← run_pre]
          congr 1
          simp [C.pre, c0, Fl.app]
        have hpc : (run c0 (toksOf (A ++ 10 :: B))).1.pc = (run c0 (toksOf B)).1.pc := by
          have h : (run c0 ((toksOf B).map (shift (A.length + 1)))).1.bare.pc = (run c0 (toksOf B)).1.bare.pc := by rw [r1]
          rw [hrun]
          exact h
        have hle : (run c0 (toksOf (A ++ 10 :: B))).2 = (run c0 (toksOf B)).2.map (shift (A.length + 1)) := by rw [hrun]; exact r2
        have hok : okR (run c0 (toksOf (A ++ 10 :: B))) = okR (run c0 (toksOf B)) := by
          unfold okR
          rw [hpc, hle]
          cases (run c0 (toksOf B)).2 <;> rfl
        cases h1 : okR (run c0 (toksOf B)) with
        | true =>
          right
          obtain ⟨g1, g2, g3⟩ := par_ok a1 h1
          obtain ⟨k1, k2, k3⟩ := par_ok c1 (hok.trans h1)
          refine ⟨g2, k2, ?_⟩
          rw [k1, g1, hrun]
          apply same_fl
          have h : (run c0 ((toksOf B).map (shift (A.length + 1)))).1.bare.f = (run c0 (toksOf B)).1.bare.f := by rw [r1]
          have h' : (run c0 ((toksOf B).map (shift (A.length + 1)))).1.f.bare = (run c0 (toksOf B)).1.f.bare := h
          simp only [Fl.bare, Fl.mk.injEq] at h'
          simp only [C.pre, Fl.app, Fl.bare, List.map_append, h'.1, h'.2]
        | false =>
          left
          obtain ⟨g1, g2, g3⟩ := par_bad a1 h1
          obtain ⟨k1, k2, k3⟩ := par_bad c1 (hok.trans h1)
          refine ⟨by rw [g2]; decide, by rw [g2, k2], ?_⟩
          rw [k3, g3, hle, hl]
          cases (run c0 (toksOf B)).2 with
          | nil => simp only [S.place, List.map_nil]; omega
          | cons t r => simp only [S.place, List.map_cons, shift]; omega
  · exact .inl hz
end Go.Proofs.YtldgfepimegbmaaDoor
