/-
  A file that is read, printed, and read again is the same.
-/
import Derived.Test.YtldgfepimegbmaaDoorProPcs
import Derived.Test.YtldgfepimegbmaaDoorProBlanks
import Derived.Test.YtldgfepimegbmaaDoorProPrint
namespace Go.Proofs.YtldgfepimegbmaaDoor
set_option maxRecDepth 100000

/-! ### The machine on pieces -/
def Goes (c : C) (l : List T) (c' : C) : Prop := ∀ r, run c (l ++ r) = run c' r
theorem Goes.nil (c : C) : Goes c [] c := fun _ => rfl
theorem Goes.app {c c' c'' : C} {l m : List T} (h : Goes c l c') (k : Goes c' m c'') : Goes c (l ++ m) c'' := fun r => by rw [List.append_assoc, h, k]
theorem Goes.cons {c c' c'' : C} {t : T} {m : List T} (h : step c t = some c') (k : Goes c' m c'') : Goes c (t :: m) c'' := fun r => by rw [List.cons_append, run_some h, k]
theorem isW_nm (x y : List UInt8) : isW (tNm x) y = decide (x = y) := by
  by_cases h : x = y <;> simp [isW, tNm, h]
theorem nbd_goes (f : Fl) (m : Ms) (d : Fd) (o : Bool) (name : List UInt8) (no : Int) :
    Goes { pc := .nm, f := f, m := m, d := d, o := o } [tNm name, tSg 61, tNu no, tSg 59] { pc := (if o then .oi else .it), f := f, m := m.add { d with name := name, no := no } } :=
  .cons rfl (.cons rfl (.cons rfl (.cons rfl (.nil _))))
theorem fieldP_tks (d : Fd) : tksP (fieldP d) = tksP (typeP d) ++ [tNm d.name, tSg 61, tNu d.no, tSg 59] := by unfold fieldP; rw [tksP_app]; rfl
theorem field_goes (f : Fl) (m : Ms) (d : Fd) (h : okT d) : Goes { pc := .it, f := f, m := m } (tksP (fieldP d)) { pc := .it, f := f, m := m.add d.bare } := by
  obtain ⟨type, key, rep, one, name, no, at_⟩ := d
  obtain ⟨h1, h2, h3⟩ := h
  simp only at h1 h2 h3
  subst h1
  rw [fieldP_tks]
  unfold typeP
  simp only
  by_cases hk : key = []
  · subst hk
    rw [if_neg (by simp)]
    cases rep with
    | true =>
      rw [if_pos rfl]
      refine Goes.app (c' := { pc := .nm, f := f, m := m, d := ⟨type, [], true, 0, [], 0, 0⟩ }) ?_ (nbd_goes f m ⟨type, [], true, 0, [], 0, 0⟩ false name no)
      exact .cons (c' := { pc := .ty, f := f, m := m, d := ⟨[], [], true, 0, [], 0, 0⟩ }) rfl (.cons rfl (.nil _))
    | false =>
      rw [if_neg (by simp)]
      have h4 : type ≠ wRepeated ∧ type ≠ wOneof ∧ type ≠ wReserved := by
        rcases h3 with ⟨_, h3 | h3⟩ | ⟨h3, _⟩
        · cases h3
        · exact h3
        · obtain ⟨⟨c, r, hc, _⟩, _⟩ := h3; cases hc
      obtain ⟨q1, q2, q3⟩ := h4
      by_cases hm : type = wMap
      · subst hm
        have e : tksP [Pce.nb wMap] ++ [tNm name, tSg 61, tNu no, tSg 59] = [tNm wMap, tNm name, tSg 61, tNu no, tSg 59] := rfl
        rw [e]
        exact .cons (c' := { pc := .mp, f := f, m := m, d := ⟨wMap, [], false, 0, [], 0, 0⟩ }) rfl (.cons (c' := { pc := .eq, f := f, m := m, d := ⟨wMap, [], false, 0, name, 0, 0⟩ }) rfl (.cons rfl (.cons rfl (.cons rfl (.nil _)))))
      · refine Goes.app (c' := { pc := .nm, f := f, m := m, d := ⟨type, [], false, 0, [], 0, 0⟩ }) ?_ (nbd_goes f m ⟨type, [], false, 0, [], 0, 0⟩ false name no)
        refine .cons ?_ (.nil _)
        have e0 : isS (tNm type) [125] = false := rfl
        have e5 : isN (tNm type) = true := rfl
        simp only [step, e0, isW_nm, q1, q2, q3, hm, e5, decide_false, Bool.false_eq_true, if_false, if_true]
        rfl
  · rw [if_pos hk]
    have h4 : rep = false := by
      rcases h3 with ⟨h3, _⟩ | ⟨_, h3⟩
      · exact absurd h3 hk
      · exact h3
    subst h4
    refine Goes.app (c' := { pc := .nm, f := f, m := m, d := ⟨type, key, false, 0, [], 0, 0⟩ }) ?_ (nbd_goes f m ⟨type, key, false, 0, [], 0, 0⟩ false name no)
    exact .cons (c' := { pc := .mp, f := f, m := m, d := ⟨wMap, [], false, 0, [], 0, 0⟩ }) rfl
      (.cons (c' := { pc := .key, f := f, m := m, d := ⟨[], [], false, 0, [], 0, 0⟩ }) rfl
      (.cons (c' := { pc := .comma, f := f, m := m, d := ⟨[], key, false, 0, [], 0, 0⟩ }) rfl (.cons (c' := { pc := .vty, f := f, m := m, d := ⟨[], key, false, 0, [], 0, 0⟩ }) rfl
      (.cons (c' := { pc := .gt, f := f, m := m, d := ⟨type, key, false, 0, [], 0, 0⟩ }) rfl (.cons rfl (.nil _))))))
theorem ofield_goes (f : Fl) (m : Ms) (d : Fd) (h : okO d) : Goes { pc := .oi, f := f, m := m } (tksP (fieldP d)) { pc := .oi, f := f, m := m.add { d.bare with one := m.ones.length } } := by
  obtain ⟨type, key, rep, one, name, no, at_⟩ := d
  obtain ⟨h1, h2, h3⟩ := h
  simp only at h1 h2 h3
  subst h1 h2
  rw [fieldP_tks]
  refine Goes.app (c' := { pc := .nm, f := f, m := m, d := ⟨type, [], false, m.ones.length, [], 0, 0⟩, o := true }) ?_ (nbd_goes f m ⟨type, [], false, m.ones.length, [], 0, 0⟩ true name no)
  exact .cons rfl (.nil _)
theorem ofields_goes (f : Fl) : ∀ (l : List Fd) (m : Ms), (∀ d ∈ l, okO d) → Goes { pc := .oi, f := f, m := m } (tksP (l.flatMap fun d => [.bl 32, .bl 32, .bl 32, .bl 32] ++ fieldP d)) { pc := .oi, f := f, m := { m with F := m.F ++ l.map fun d => { d.bare with one := m.ones.length } } }
  | [], m, _ => by simp only [List.flatMap_nil, List.map_nil, List.append_nil]; exact Goes.nil _
  | d :: l, m, h => by
    rw [List.flatMap_cons, tksP_app, tksP_app]
    have h1 := ofield_goes f m d (h d (by simp))
    have h2 := ofields_goes f l (m.add { d.bare with one := m.ones.length }) (fun e he => h e (by simp [he]))
    have h3 := h1.app h2
    simp only [Ms.add, List.append_assoc, List.singleton_append] at h3
    rw [show tksP [Pce.bl 32, Pce.bl 32, Pce.bl 32, Pce.bl 32] = [] from rfl, List.nil_append]
    simpa using h3
theorem item_goes (f : Fl) (m : Ms) : ∀ (i : Itm), i.ok → Goes { pc := .it, f := f, m := m } (tksP (itmP i)) { pc := .it, f := f, m := { m with F := m.F ++ (Fs m.ones.length [i]).map Fd.bare, ones := m.ones ++ OsI [i] } }
  | .fd d, h => by
    have h1 := field_goes f m d h.1
    simp only [itmP]
    rw [tksP_app, show tksP [Pce.bl 32, Pce.bl 32] = [] from rfl, List.nil_append]
    simpa [Fs, OsI, Ms.add] using h1
  | .one x l, h => by
    have h1 : Goes { pc := .it, f := f, m := m } (tksP [.bl 32, .bl 32, .nb wOneof, .nb x, .sg 123, .bl 10]) { pc := .oi, f := f, m := { m with ones := m.ones ++ [x] } } :=
      .cons (c' := { pc := .o1, f := f, m := m }) rfl (.cons rfl (.cons rfl (.nil _)))
    have h2 := h1.app (ofields_goes f l { m with ones := m.ones ++ [x] } (fun d hd => (h.2 d hd).1))
    have h3 := h2.app (m := tksP [.bl 32, .bl 32, .sg 125, .bl 10]) (.cons rfl (.nil _))
    simp only [itmP]
    rw [tksP_app, tksP_app]
    simp only [List.length_append, List.length_singleton] at h3
    simp only [Fs, OsI, List.append_nil, List.map_map]
    exact h3
theorem items_goes (f : Fl) : ∀ (its : List Itm) (m : Ms), (∀ i ∈ its, i.ok) → Goes { pc := .it, f := f, m := m } (tksP (its.flatMap itmP)) { pc := .it, f := f, m := { m with F := m.F ++ (Fs m.ones.length its).map Fd.bare, ones := m.ones ++ OsI its } }
  | [], m, _ => by simp only [List.flatMap_nil, Fs, OsI, List.map_nil, List.append_nil]; exact Goes.nil _
  | i :: its, m, h => by
    have h1 := item_goes f m i (h i (by simp))
    have h2 := items_goes f its { m with F := m.F ++ (Fs m.ones.length [i]).map Fd.bare, ones := m.ones ++ OsI [i] } (fun j hj => h j (by simp [hj]))
    have h3 := h1.app h2
    have e1 := Fs_app [i] its m.ones.length
    have e2 := Os_app [i] its
    rw [List.singleton_append] at e1 e2
    rw [List.flatMap_cons, tksP_app, e1, e2]
    simp only [List.length_append, List.append_assoc, List.map_append] at h3 ⊢
    exact h3
theorem nums_goes (f : Fl) : ∀ (l : List Int) (n : Int) (m : Ms), Goes { pc := .r1, f := f, m := m } (tksP (numsP n l)) { pc := .it, f := f, m := { m with res := m.res ++ n :: l } }
  | [], n, m => .cons rfl (.cons rfl (.nil _))
  | k :: l, n, m => by
    have h1 : Goes { pc := .r1, f := f, m := m } (tksP [.us n 44, .bl 32]) { pc := .r1, f := f, m := { m with res := m.res ++ [n] } } := .cons (c' := { pc := .r2, f := f, m := { m with res := m.res ++ [n] } }) rfl (.cons rfl (.nil _))
    have h2 := h1.app (nums_goes f l k { m with res := m.res ++ [n] })
    rw [← tksP_app] at h2
    simp only [List.append_assoc, List.singleton_append] at h2
    exact h2
theorem res_goes (f : Fl) (m : Ms) : ∀ (l : List Int), Goes { pc := .it, f := f, m := m } (tksP (resP l)) { pc := .it, f := f, m := { m with res := m.res ++ l } }
  | [] => by simp only [resP, List.append_nil]; exact Goes.nil _
  | n :: l => by
    have h1 : Goes { pc := .it, f := f, m := m } (tksP [.bl 32, .bl 32, .nb wReserved]) { pc := .r1, f := f, m := m } := .cons rfl (.nil _)
    have h2 := (h1.app (nums_goes f l n m)).app (m := tksP [.bl 10]) (.nil _)
    simp only [resP]
    rw [tksP_app, tksP_app]
    exact h2
theorem msg_goes (f : Fl) {m : Ms} {its : List Itm} (h1 : ∀ i ∈ its, i.ok) (hF : m.F = Fs 0 its) (hO : m.ones = OsI its) : Goes { pc := .top, f := f } (tksP (msgP m.name its m.res)) { pc := .top, f := f.addM m.bare } := by
  have a1 : Goes { pc := .top, f := f } (tksP [.nb wMessage, .nb m.name, .sg 123, .bl 10]) { pc := .it, f := f, m := ⟨m.name, [], [], [], 0⟩ } :=
    .cons (c' := { pc := .m1, f := f, m := ⟨[], [], [], [], 0⟩ }) rfl (.cons rfl (.cons rfl (.nil _)))
  have a2 := a1.app (items_goes f its ⟨m.name, [], [], [], 0⟩ h1)
  have a3 := a2.app (res_goes f _ m.res)
  have a4 := a3.app (m := tksP [.sg 125, .bl 10]) (.cons rfl (.nil _))
  unfold msgP
  rw [tksP_app, tksP_app, tksP_app]
  have e : m.bare = ⟨m.name, (Fs 0 its).map Fd.bare, OsI its, m.res, 0⟩ := by rw [← hF, ← hO]; rfl
  rw [e]
  exact a4
theorem vals_goes (f : Fl) : ∀ (l : List Vl) (e : En), Goes { pc := .ei, f := f, e := e } (tksP (l.flatMap valP)) { pc := .ei, f := f, e := { e with V := e.V ++ l.map Vl.bare } }
  | [], e => by simp only [List.flatMap_nil, List.map_nil, List.append_nil]; exact Goes.nil _
  | v :: l, e => by
    have h1 : Goes { pc := .ei, f := f, e := e } (tksP (valP v)) { pc := .ei, f := f, e := { e with V := e.V ++ [v.bare] } } :=
      .cons (c' := { pc := .v1, f := f, e := e, v := ⟨v.name, 0, 0⟩ }) rfl (.cons rfl (.cons rfl (.cons rfl (.nil _))))
    have h2 := h1.app (vals_goes f l { e with V := e.V ++ [v.bare] })
    rw [List.flatMap_cons, tksP_app]
    simp only [List.append_assoc, List.singleton_append] at h2
    exact h2
theorem en_goes (f : Fl) (e : En) : Goes { pc := .top, f := f } (tksP (enP e)) { pc := .top, f := f.addE e.bare } := by
  have a1 : Goes { pc := .top, f := f } (tksP [.nb wEnum, .nb e.name, .sg 123, .bl 10]) { pc := .ei, f := f, e := ⟨e.name, [], 0⟩ } :=
    .cons (c' := { pc := .e1, f := f, e := ⟨[], [], 0⟩ }) rfl (.cons rfl (.cons rfl (.nil _)))
  have a2 := a1.app (vals_goes f e.V ⟨e.name, [], 0⟩)
  have a3 := a2.app (m := tksP [.sg 125, .bl 10]) (.cons rfl (.nil _))
  unfold enP
  rw [tksP_app, tksP_app]
  exact a3

/-! ### How many tokens -/
theorem fieldP_len {d : Fd} : (tksP (fieldP d)).length = pre d + 4 := by
  rw [fieldP_tks, List.length_append]
  unfold typeP pre
  by_cases hk : d.key = []
  · simp only [hk, ne_eq, not_true, if_false, if_true]
    split <;> rfl
  · simp only [hk, ne_eq, not_false_eq_true, if_false, if_true]
    rfl
theorem ofields_len : ∀ (l : List Fd) (j : Nat), (tksP (l.flatMap fun d => [.bl 32, .bl 32, .bl 32, .bl 32] ++ fieldP d)).length = ((l.map (setOne j)).map fun d => pre d + 4).sum
  | [], _ => rfl
  | d :: l, j => by
    rw [List.flatMap_cons, tksP_app, tksP_app, List.length_append, List.length_append, fieldP_len, ofields_len l j]
    simp only [List.map_cons, List.sum_cons]
    have e : pre (setOne j d) = pre d := rfl
    rw [show tksP [Pce.bl 32, Pce.bl 32, Pce.bl 32, Pce.bl 32] = [] from rfl, e]
    simp
theorem items_len : ∀ (its : List Itm) (j : Nat), (tksP (its.flatMap itmP)).length = ((Fs j its).map fun d => pre d + 4).sum + 4 * (OsI its).length
  | [], _ => rfl
  | .fd d :: r, j => by
    rw [List.flatMap_cons, tksP_app, List.length_append, items_len r j]
    simp only [itmP]
    rw [tksP_app, List.length_append, fieldP_len, show tksP [Pce.bl 32, Pce.bl 32] = [] from rfl]
    simp [Fs, OsI]; omega
  | .one x l :: r, j => by
    rw [List.flatMap_cons, tksP_app, List.length_append, items_len r (j + 1)]
    simp only [itmP]
    rw [tksP_app, tksP_app, List.length_append, List.length_append, ofields_len l (j + 1)]
    simp only [Fs, OsI, List.map_append, List.sum_append, List.length_cons]
    have e1 : (tksP [Pce.bl 32, .bl 32, .nb wOneof, .nb x, .sg 123, .bl 10]).length = 3 := rfl
    have e2 : (tksP [Pce.bl 32, .bl 32, .sg 125, .bl 10]).length = 1 := rfl
    rw [e1, e2]
    omega
theorem nums_len : ∀ (l : List Int) (n : Int), (tksP (numsP n l)).length = 2 * l.length + 2
  | [], n => rfl
  | k :: l, n => by
    have e : (tksP (numsP n (k :: l))).length = 2 + (tksP (numsP k l)).length := by simp [numsP, tksP, Pce.tks]; omega
    rw [e, nums_len l k]; simp; omega
theorem res_len (l : List Int) : (tksP (resP l)).length = resC l := by
  cases l with
  | nil => rfl
  | cons n l =>
    simp only [resP]
    rw [tksP_app, tksP_app, List.length_append, List.length_append, nums_len]
    have e1 : (tksP [Pce.bl 32, .bl 32, .nb wReserved]).length = 1 := rfl
    have e2 : (tksP [Pce.bl 10]).length = 0 := rfl
    rw [e1, e2]
    simp [resC]; omega
theorem msg_len {m : Ms} {its : List Itm} (hF : m.F = Fs 0 its) (hO : m.ones = OsI its) : (tksP (msgP m.name its m.res)).length = 4 + body m := by
  unfold msgP body
  rw [tksP_app, tksP_app, tksP_app, List.length_append, List.length_append, List.length_append, items_len its 0, res_len, hF, hO]
  have e1 : (tksP [Pce.nb wMessage, .nb m.name, .sg 123, .bl 10]).length = 3 := rfl
  have e2 : (tksP [Pce.sg 125, .bl 10]).length = 1 := rfl
  rw [e1, e2]
  omega
theorem vals_len : ∀ l : List Vl, (tksP (l.flatMap valP)).length = 4 * l.length
  | [] => rfl
  | v :: l => by
    rw [List.flatMap_cons, tksP_app, List.length_append, vals_len l]
    have e1 : (tksP (valP v)).length = 4 := rfl
    rw [e1]
    simp; omega
theorem en_len (e : En) : (tksP (enP e)).length = 4 + 4 * e.V.length := by
  unfold enP
  rw [tksP_app, tksP_app, List.length_append, List.length_append, vals_len]
  have e1 : (tksP [Pce.nb wEnum, .nb e.name, .sg 123, .bl 10]).length = 3 := rfl
  have e2 : (tksP [Pce.sg 125, .bl 10]).length = 1 := rfl
  rw [e1, e2]
  omega

/-! ### How many bytes -/
theorem itoa_len {n : Int} (h : inr n) : (Lib.itoa n).length ≤ 20 := by
  by_cases hn : n < 0
  · rw [itoa_neg n hn, List.length_cons, Lib.decDigits_length]
    have := nDigits_le 18 n.natAbs (by have : (10 : Nat) ^ (18 + 1) = 10000000000000000000 := by decide
                                       have := h.1
                                       omega)
    omega
  · rw [itoa_nonneg n (by omega), Lib.decDigits_length]
    have := nDigits_le 18 n.toNat (by have : (10 : Nat) ^ (18 + 1) = 10000000000000000000 := by decide
                                      have := h.2
                                      omega)
    omega
theorem field_b {d : Fd} (ht : nameOK d.type) (hk : d.key = [] ∨ nameOK d.key) (he : okE d) : (bytP (fieldP d)).length + 4 ≤ 650 * (pre d + 4) := by
  have h1 := ht.2
  have h2 := he.1.2
  have h3 := itoa_len he.2
  have h4 : d.key.length ≤ 1500 := by rcases hk with hk | hk; (rw [hk]; decide); exact hk.2
  unfold fieldP typeP pre
  rw [bytP_app, List.length_append]
  by_cases hk : d.key = []
  · simp only [hk, ne_eq, not_true, if_false, if_true]
    split
    · simp [bytP, Pce.byt, wRepeated]; omega
    · simp [bytP, Pce.byt]; omega
  · simp only [hk, ne_eq, not_false_eq_true, if_false, if_true]
    simp [bytP, Pce.byt, wMap]; omega
theorem ofields_b : ∀ (l : List Fd), (∀ d ∈ l, okO d ∧ okE d) → (bytP (l.flatMap fun d => [.bl 32, .bl 32, .bl 32, .bl 32] ++ fieldP d)).length ≤ 650 * (tksP (l.flatMap fun d => [.bl 32, .bl 32, .bl 32, .bl 32] ++ fieldP d)).length
  | [], _ => by simp [bytP]
  | d :: l, h => by
    have ih := ofields_b l fun e he => h e (by simp [he])
    have h0 := h d (by simp)
    have h1 := field_b h0.1.2.2 (.inl h0.1.1) h0.2
    rw [List.flatMap_cons, tksP_app, tksP_app, bytP_app, bytP_app]
    simp only [List.length_append, fieldP_len]
    have e1 : (bytP [Pce.bl 32, Pce.bl 32, Pce.bl 32, Pce.bl 32]).length = 4 := rfl
    have e2 : (tksP [Pce.bl 32, Pce.bl 32, Pce.bl 32, Pce.bl 32]).length = 0 := rfl
    rw [e1, e2]
    omega
theorem items_b : ∀ (its : List Itm), (∀ i ∈ its, i.ok) → (bytP (its.flatMap itmP)).length ≤ 650 * (tksP (its.flatMap itmP)).length
  | [], _ => by simp [bytP]
  | .fd d :: r, h => by
    have ih := items_b r fun i hi => h i (by simp [hi])
    have h0 := h (.fd d) (by simp)
    have h1 := field_b h0.1.2.1 (okT_key h0.1) h0.2
    rw [List.flatMap_cons, tksP_app, bytP_app]
    simp only [itmP]
    rw [tksP_app, bytP_app]
    simp only [List.length_append, fieldP_len]
    have e1 : (bytP [Pce.bl 32, Pce.bl 32]).length = 2 := rfl
    have e2 : (tksP [Pce.bl 32, Pce.bl 32]).length = 0 := rfl
    rw [e1, e2]
    omega
  | .one x l :: r, h => by
    have ih := items_b r fun i hi => h i (by simp [hi])
    have h0 := h (.one x l) (by simp)
    have h1 := ofields_b l h0.2
    have hx := h0.1.2
    rw [List.flatMap_cons, tksP_app, bytP_app]
    simp only [itmP]
    rw [tksP_app, bytP_app, tksP_app, bytP_app]
    simp only [List.length_append]
    have e1 : (bytP [Pce.bl 32, .bl 32, .nb wOneof, .nb x, .sg 123, .bl 10]).length = x.length + 11 := by simp [bytP, Pce.byt, wOneof]
    have e2 : (tksP [Pce.bl 32, .bl 32, .nb wOneof, .nb x, .sg 123, .bl 10]).length = 3 := rfl
    have e3 : (bytP [Pce.bl 32, .bl 32, .sg 125, .bl 10]).length = 4 := rfl
    have e4 : (tksP [Pce.bl 32, .bl 32, .sg 125, .bl 10]).length = 1 := rfl
    rw [e1, e2, e3, e4]
    omega
theorem nums_b : ∀ (l : List Int) (n : Int), inr n → (∀ k ∈ l, inr k) → (bytP (numsP n l)).length ≤ 22 * l.length + 21
  | [], n, h, _ => by have := itoa_len h; simp [numsP, bytP, Pce.byt]; omega
  | k :: l, n, h, hl => by
    have ih := nums_b l k (hl k (by simp)) fun j hj => hl j (by simp [hj])
    have h1 := itoa_len h
    have e : (bytP (numsP n (k :: l))).length = (Lib.itoa n).length + 2 + (bytP (numsP k l)).length := by simp [numsP, bytP, Pce.byt]; omega
    rw [e]
    simp only [List.length_cons]
    omega
theorem res_b (l : List Int) (h : ∀ k ∈ l, inr k) : (bytP (resP l)).length ≤ 650 * (tksP (resP l)).length := by
  cases l with
  | nil => simp [resP, bytP]
  | cons n l =>
    have h1 := nums_b l n (h n (by simp)) fun k hk => h k (by simp [hk])
    rw [res_len]
    simp only [resP]
    rw [bytP_app, bytP_app]
    simp only [List.length_append]
    have e1 : (bytP [Pce.bl 32, .bl 32, .nb wReserved]).length = 11 := rfl
    have e2 : (bytP [Pce.bl 10]).length = 1 := rfl
    rw [e1, e2]
    simp [resC]
    omega
theorem msg_b {name : List UInt8} {its : List Itm} {res : List Int} (h1 : nameOK name) (h2 : ∀ i ∈ its, i.ok) (h3 : ∀ n ∈ res, inr n) : (bytP (msgP name its res)).length ≤ 650 * (tksP (msgP name its res)).length := by
  have a1 := items_b its h2
  have a2 := res_b res h3
  have a3 := h1.2
  unfold msgP
  rw [bytP_app, bytP_app, bytP_app, tksP_app, tksP_app, tksP_app]
  simp only [List.length_append]
  have e1 : (bytP [Pce.nb wMessage, .nb name, .sg 123, .bl 10]).length = name.length + 11 := by simp [bytP, Pce.byt, wMessage]
  have e2 : (tksP [Pce.nb wMessage, .nb name, .sg 123, .bl 10]).length = 3 := rfl
  have e3 : (bytP [Pce.sg 125, .bl 10]).length = 2 := rfl
  have e4 : (tksP [Pce.sg 125, .bl 10]).length = 1 := rfl
  rw [e1, e2, e3, e4]
  omega
theorem vals_b : ∀ l : List Vl, (∀ v ∈ l, nameOK v.name ∧ inr v.n) → (bytP (l.flatMap valP)).length ≤ 650 * (tksP (l.flatMap valP)).length
  | [], _ => by simp [bytP]
  | v :: l, h => by
    have ih := vals_b l fun e he => h e (by simp [he])
    have h0 := h v (by simp)
    have h1 := h0.1.2
    have h2 := itoa_len h0.2
    rw [List.flatMap_cons, tksP_app, bytP_app]
    simp only [List.length_append]
    have e1 : (bytP (valP v)).length = v.name.length + (Lib.itoa v.n).length + 7 := by simp [valP, bytP, Pce.byt]; omega
    have e2 : (tksP (valP v)).length = 4 := rfl
    rw [e1, e2]
    omega
theorem en_b {e : En} (h : EW e) : (bytP (enP e)).length ≤ 650 * (tksP (enP e)).length := by
  have a1 := vals_b e.V h.V
  have a3 := h.name.2
  unfold enP
  rw [bytP_app, bytP_app, tksP_app, tksP_app]
  simp only [List.length_append]
  have e1 : (bytP [Pce.nb wEnum, .nb e.name, .sg 123, .bl 10]).length = e.name.length + 8 := by simp [bytP, Pce.byt, wEnum]
  have e2 : (tksP [Pce.nb wEnum, .nb e.name, .sg 123, .bl 10]).length = 3 := rfl
  have e3 : (bytP [Pce.sg 125, .bl 10]).length = 2 := rfl
  have e4 : (tksP [Pce.sg 125, .bl 10]).length = 1 := rfl
  rw [e1, e2, e3, e4]
  omega

/-! ### Files -/
def full (f : Fl) : Prop := ∀ m ∈ f.M, ∀ k, 0 < k → k ≤ m.ones.length → ∃ d ∈ m.F, d.one = k
theorem ms_pcs : ∀ (M : List Ms), (∀ m ∈ M, MW m) → (∀ m ∈ M, ∀ k, 0 < k → k ≤ m.ones.length → ∃ d ∈ m.F, d.one = k) →
    ∃ ps : List Pce, (∀ p ∈ ps, p.ok) ∧ bytP ps = (M.map messageB).flatten ∧ (∀ f : Fl, Goes { pc := .top, f := f } (tksP ps) { pc := .top, f := { f with M := f.M ++ M.map Ms.bare } }) ∧ (tksP ps).length = (M.map fun m => 4 + body m).sum ∧ (bytP ps).length ≤ 650 * (tksP ps).length
  | [], _, _ => ⟨[], by simp, rfl, fun f => by simp only [List.map_nil, List.append_nil]; exact Goes.nil _, rfl, by simp [bytP]⟩
  | m :: M, h, hf => by
    obtain ⟨ps, p1, p2, p3, p4, p5⟩ := ms_pcs M (fun x hx => h x (by simp [hx])) (fun x hx => hf x (by simp [hx]))
    have hm := h m (by simp)
    obtain ⟨its, i1, i2, i3⟩ := hm.its
    have hfl := full_its its 0 i1 (fun k hk hk2 => by rw [← i2]; exact hf m (by simp) k hk (by rw [i3]; omega))
    refine ⟨msgP m.name its m.res ++ ps, ?_, ?_, ?_, ?_, ?_⟩
    · intro p hp
      rcases List.mem_append.1 hp with hp | hp
      · exact msgP_ok hm.name i1 hm.res p hp
      · exact p1 p hp
    · rw [bytP_app, msgP_byt i1 hfl i2 i3, p2]; simp
    · intro f
      rw [tksP_app]
      have h1 := (msg_goes f i1 i2 i3).app (p3 (f.addM m.bare))
      simp only [Fl.addM, List.append_assoc, List.singleton_append] at h1
      exact h1
    · rw [tksP_app, List.length_append, msg_len i2 i3, p4]; simp
    · have := msg_b hm.name i1 hm.res
      rw [tksP_app, bytP_app, List.length_append, List.length_append]; omega
theorem en_pcs : ∀ (E : List En), (∀ e ∈ E, EW e) →
    ∃ ps : List Pce, (∀ p ∈ ps, p.ok) ∧ bytP ps = (E.map enumB).flatten ∧ (∀ f : Fl, Goes { pc := .top, f := f } (tksP ps) { pc := .top, f := { f with E := f.E ++ E.map En.bare } }) ∧ (tksP ps).length = (E.map fun e => 4 + 4 * e.V.length).sum ∧ (bytP ps).length ≤ 650 * (tksP ps).length
  | [], _ => ⟨[], by simp, rfl, fun f => by simp only [List.map_nil, List.append_nil]; exact Goes.nil _, rfl, by simp [bytP]⟩
  | e :: E, h => by
    obtain ⟨ps, p1, p2, p3, p4, p5⟩ := en_pcs E (fun x hx => h x (by simp [hx]))
    refine ⟨enP e ++ ps, ?_, ?_, ?_, ?_, ?_⟩
    · intro p hp
      rcases List.mem_append.1 hp with hp | hp
      · exact enP_ok (h e (by simp)) p hp
      · exact p1 p hp
    · rw [bytP_app, enP_byt, p2]; simp
    · intro f
      rw [tksP_app]
      have h1 := (en_goes f e).app (p3 (f.addE e.bare))
      simp only [Fl.addE, List.append_assoc, List.singleton_append] at h1
      exact h1
    · rw [tksP_app, List.length_append, en_len, p4]; simp
    · have := en_b (h e (by simp))
      rw [tksP_app, bytP_app, List.length_append, List.length_append]; omega
theorem file_pcs {f : Fl} (h : FW f) (hf : full f) : ∃ ps : List Pce, (∀ p ∈ ps, p.ok) ∧ bytP ps = fileB f ∧ run c0 (tksP ps) = ({ pc := .top, f := f.bare }, []) ∧ (tksP ps).length = cost f ∧ (fileB f).length ≤ 650 * cost f := by
  obtain ⟨ps, p1, p2, p3, p4, p5⟩ := ms_pcs f.M h.M hf
  obtain ⟨qs, q1, q2, q3, q4, q5⟩ := en_pcs f.E h.E
  have e2 : bytP (ps ++ qs) = fileB f := by rw [bytP_app, p2, q2]; rfl
  have e4 : (tksP (ps ++ qs)).length = cost f := by rw [tksP_app, List.length_append, p4, q4]; rfl
  refine ⟨ps ++ qs, ?_, e2, ?_, e4, ?_⟩
  · intro p hp
    rcases List.mem_append.1 hp with hp | hp
    · exact p1 p hp
    · exact q1 p hp
  · have h1 := ((p3 ⟨[], []⟩).app (q3 _)) []
    rw [List.append_nil, ← tksP_app] at h1
    simp only [List.nil_append] at h1
    exact h1
  · rw [← e2, ← e4, tksP_app, bytP_app, List.length_append, List.length_append]; omega

/-! ### A text does not hang on places -/
theorem mem_bare (n : Nat) : ∀ (l : List Fd) (ms : List (List Fd)), (l.map Fd.bare).foldl (memStep n) (ms.map (List.map Fd.bare)) = (l.foldl (memStep n) ms).map (List.map Fd.bare)
  | [], _ => rfl
  | d :: l, ms => by
    rw [List.map_cons, List.foldl_cons, List.foldl_cons, ← mem_bare n l]
    congr 1
    unfold memStep
    have e : inOne n d.bare = inOne n d := rfl
    have e2 : d.bare.one = d.one := rfl
    rw [e, e2]
    split
    · rw [List.map_set]
      congr 1
      rw [List.map_append, List.getD_eq_getElem?_getD, List.getD_eq_getElem?_getD, List.getElem?_map]
      cases ms[d.one - 1]? <;> rfl
    · rfl
theorem oneB_bare (x : List UInt8) (l : List Fd) : oneB x (l.map Fd.bare) = oneB x l := by
  unfold oneB fieldsB
  rw [List.map_map]
  cases l <;> rfl
theorem itemsB_bare (ones : List (List UInt8)) : ∀ (l : List Fd) (ms : List (List Fd)), itemsB ones (ms.map (List.map Fd.bare)) (l.map Fd.bare) = itemsB ones ms l
  | [], _ => rfl
  | d :: l, ms => by
    have e : inOne ones.length d.bare = inOne ones.length d := rfl
    have e2 : d.bare.one = d.one := rfl
    have e3 : fieldB [32, 32] d.bare = fieldB [32, 32] d := rfl
    have e4 : (ms.map (List.map Fd.bare)).getD (d.one - 1) [] = (ms.getD (d.one - 1) []).map Fd.bare := by
      rw [List.getD_eq_getElem?_getD, List.getD_eq_getElem?_getD, List.getElem?_map]
      cases ms[d.one - 1]? <;> rfl
    have e5 : (ms.map (List.map Fd.bare)).set (d.one - 1) [] = (ms.set (d.one - 1) []).map (List.map Fd.bare) := by rw [List.map_set]; rfl
    simp only [List.map_cons, itemsB, e, e2, e3, e4, e5, oneB_bare, itemsB_bare ones l]
theorem messageB_bare (m : Ms) : messageB m.bare = messageB m := by
  have e1 : m.bare.F = m.F.map Fd.bare := rfl
  have e2 : m.bare.ones = m.ones := rfl
  have e3 : m.bare.res = m.res := rfl
  have e4 : m.bare.name = m.name := rfl
  have h := mem_bare m.ones.length m.F (List.replicate m.ones.length [])
  rw [List.map_replicate] at h
  have h2 : memsB m.ones.length (m.F.map Fd.bare) = (memsB m.ones.length m.F).map (List.map Fd.bare) := h
  unfold messageB
  rw [e1, e2, e3, e4, h2, itemsB_bare]
theorem enumB_bare (e : En) : enumB e.bare = enumB e := by
  unfold enumB
  have e1 : e.bare.V = e.V.map Vl.bare := rfl
  have e2 : e.bare.name = e.name := rfl
  rw [e1, e2, List.map_map]
  rfl
theorem fileB_bare (f : Fl) : fileB f.bare = fileB f := by
  unfold fileB Fl.bare
  simp only [List.map_map]
  rw [show messageB ∘ Ms.bare = messageB from funext messageB_bare, show enumB ∘ En.bare = enumB from funext enumB_bare]

/-! ### What is read -/
theorem toks_ok {L : List UInt8} (hL : L.length ≤ 1500) (h0 : errOf L = 0) : ∀ t ∈ toksOf L, tokOK t := by
  obtain ⟨e1, e2, _⟩ := err0 h0
  rw [e2]
  exact lex_tokOK L 0 0 hL
theorem c0_inv : Inv c0 := ⟨⟨fun m hm => by simp [c0] at hm, fun m hm => by simp [c0] at hm⟩, trivial⟩
theorem c0_phi : PhiI c0 := ⟨(fun h => by cases h), (fun h => by cases h), (fun h => by cases h), (fun h => by cases h), (fun h => by cases h)⟩
theorem fw_par (L : List UInt8) (hL : L.length ≤ 1500) : FW (parF L) := by
  unfold parF parOK
  split
  · rename_i h
    simp only [Bool.and_eq_true, beq_iff_eq] at h
    exact (run_inv _ _ (toks_ok hL h.1) c0_inv).f
  · exact ⟨fun m hm => by simp at hm, fun m hm => by simp at hm⟩
theorem parE_zero' {L : List UInt8} (h : parE L = 0) : errOf L = 0 ∧ okR (run c0 (toksOf L)) = true := by
  by_cases h0 : errOf L = 0
  · refine ⟨h0, ?_⟩
    cases h1 : okR (run c0 (toksOf L)) with
    | true => rfl
    | false => rw [(par_bad h0 h1).2.1] at h; cases h
  · rw [(par_err h0).2.1] at h
    exact absurd h h0
theorem cost_par {L : List UInt8} (h : parE L = 0) : cost (parF L) ≤ 1000 := by
  obtain ⟨h0, h1⟩ := parE_zero' h
  obtain ⟨e1, e2, e3, e4, e5⟩ := err0 h0
  have hp := run_phi (toksOf L) c0 c0_phi
  have hpc : (run c0 (toksOf L)).1.pc = .top := by
    unfold okR at h1
    rw [Bool.and_eq_true, decide_eq_true_eq] at h1
    exact h1.1
  have hF := (par_ok h0 h1).1
  have e : Phi (run c0 (toksOf L)).1 = cost (run c0 (toksOf L)).1.f := by simp only [Phi, hpc]; omega
  have z : Phi c0 = 0 := rfl
  rw [hF, ← e, ← e2] at *
  omega
theorem back7 {L : List UInt8} (hL : L.length ≤ 1500) (hE : parE L = 0) (hf : full (parF L)) (hl : (fileB (parF L)).length ≤ 5000) :
    parE (fileB (parF L)) = 0 ∧ sameFl (parF L) (parF (fileB (parF L))) = true ∧ fileB (parF (fileB (parF L))) = fileB (parF L) ∧ (parF (fileB (parF L))).bare = (parF L).bare := by
  obtain ⟨ps, p1, p2, p3, p4, _⟩ := file_pcs (fw_par L hL) hf
  have hc := cost_par hE
  generalize parF L = f at *
  obtain ⟨q1, q2⟩ := lexed_pcs ps p1 0
  rw [p2] at q1 q2
  have hlen : (lex Lib.itoa 0 0 (fileB f)).1.length ≤ 1000 := by
    have := congrArg List.length q1
    rw [List.length_map, p4] at this
    omega
  obtain ⟨a1, a2⟩ := err_of_lex (L := fileB f) hl (X := (lex Lib.itoa 0 0 (fileB f)).1) (by rw [← q2]) hlen
  have hb := run_bare (lex Lib.itoa 0 0 (fileB f)).1 c0
  have hu : (lex Lib.itoa 0 0 (fileB f)).1.map T.bare = tksP ps := q1
  rw [hu, show c0.bare = c0 from rfl, p3, ← a2] at hb
  have h1 : (run c0 (toksOf (fileB f))).1.bare = { pc := .top, f := f.bare } := (congrArg Prod.fst hb).symm
  have h2 : (run c0 (toksOf (fileB f))).2.map T.bare = [] := (congrArg Prod.snd hb).symm
  have h3 : (run c0 (toksOf (fileB f))).1.pc = .top := congrArg C.pc h1
  have h4 : (run c0 (toksOf (fileB f))).1.f.bare = f.bare := congrArg C.f h1
  have h5 : okR (run c0 (toksOf (fileB f))) = true := by
    unfold okR
    rw [h3]
    have h6 : (run c0 (toksOf (fileB f))).2 = [] := List.map_eq_nil_iff.1 h2
    rw [h6]; rfl
  obtain ⟨b1, b2, _⟩ := par_ok a1 h5
  rw [b1]
  refine ⟨b2, same_fl h4.symm, ?_, h4⟩
  rw [← fileB_bare, h4, fileB_bare]

/-! ### What the contracts ask -/
theorem Fs_ok : ∀ (its : List Itm) (j : Nat), (∀ i ∈ its, i.ok) → ∀ d ∈ Fs j its, nameOK d.type ∧ (d.key = [] ∨ nameOK d.key) ∧ okE d
  | [], _, _, d, hd => by simp [Fs] at hd
  | .fd e :: r, j, h, d, hd => by
    simp only [Fs, List.mem_cons] at hd
    rcases hd with rfl | hd
    · have h0 := h (.fd d) (by simp)
      exact ⟨h0.1.2.1, okT_key h0.1, h0.2⟩
    · exact Fs_ok r j (fun i hi => h i (by simp [hi])) d hd
  | .one x l :: r, j, h, d, hd => by
    simp only [Fs, List.mem_append, List.mem_map] at hd
    rcases hd with ⟨e, he, rfl⟩ | hd
    · have h0 := (h (.one x l) (by simp)).2 e he
      exact ⟨h0.1.2.2, .inl h0.1.1, h0.2⟩
    · exact Fs_ok r (j + 1) (fun i hi => h i (by simp [hi])) d hd
theorem sma_par (L : List UInt8) : (∀ m ∈ (parF L).M, MsS 1000 m) ∧ (∀ e ∈ (parF L).E, e.V.length ≤ 1000) ∧ (parF L).M.length ≤ 1000 ∧ (parF L).E.length ≤ 1000 := by
  unfold parF
  split
  · have h := run_sma (toksOf L) c0 0 ⟨by simp [c0], by simp [c0], fun m hm => by simp [c0] at hm, fun m hm => by simp [c0] at hm, m0_s _, by simp [c0, en0]⟩
    have hl := toks_few L
    exact ⟨fun m hm => ⟨by have := (h.m m hm).f; omega, by have := (h.m m hm).o; omega, by have := (h.m m hm).r; omega⟩, fun e he => by have := h.e e he; omega, by have := h.lm; omega, by have := h.le; omega⟩
  · exact ⟨fun m hm => by simp at hm, fun m hm => by simp at hm, by simp, by simp⟩
theorem flok_par (L : List UInt8) (hL : L.length ≤ 1500) : FlOk (parF L) := by
  have hw := fw_par L hL
  obtain ⟨s1, s2, s3, s4⟩ := sma_par L
  refine ⟨fun m hm => ?_, fun e he => ⟨fun v hv => ?_, ?_⟩, by omega, by omega⟩
  · obtain ⟨its, i1, i2, i3⟩ := (hw.M m hm).its
    have hs := s1 m hm
    refine ⟨fun d hd => ?_, fun n hn => (hw.M m hm).res n hn, by have := hs.f; omega, by have := hs.o; omega, by have := hs.r; omega⟩
    rw [i2] at hd
    obtain ⟨a1, a2, a3⟩ := Fs_ok its 0 i1 d hd
    have h4 : d.key.length ≤ 1500 := by rcases a2 with hk | hk; (rw [hk]; decide); exact hk.2
    exact ⟨by omega, by have := a1.2; omega, by have := a3.1.2; omega, a3.2.1, a3.2.2⟩
  · have := (hw.E e he).V v hv
    exact ⟨this.2.1, this.2.2⟩
  · have := s2 e he
    omega
theorem flok_bare {f g : Fl} (h : g.bare = f.bare) (hf : FlOk f) : FlOk g := by
  simp only [Fl.bare, Fl.mk.injEq] at h
  obtain ⟨h1, h2⟩ := h
  have l1 := congrArg List.length h1
  have l2 := congrArg List.length h2
  simp only [List.length_map] at l1 l2
  refine ⟨fun m hm => ?_, fun e he => ?_, by have := hf.lm; omega, by have := hf.le; omega⟩
  · have hmm : m.bare ∈ f.M.map Ms.bare := by rw [← h1]; exact List.mem_map_of_mem hm
    obtain ⟨m', hm', he⟩ := List.mem_map.1 hmm
    obtain ⟨a1, a2, a3, a4, a5⟩ := hf.m m' hm'
    have q1 : m'.F.map Fd.bare = m.F.map Fd.bare := congrArg Ms.F he
    have q2 : m'.ones = m.ones := by have := congrArg Ms.ones he; exact this
    have q3 : m'.res = m.res := by have := congrArg Ms.res he; exact this
    have q4 := congrArg List.length q1
    simp only [List.length_map] at q4
    refine ⟨fun d hd => ?_, by rw [← q3]; exact a2, by omega, by rw [← q2]; exact a4, by rw [← q3]; exact a5⟩
    have hdd : d.bare ∈ m'.F.map Fd.bare := by rw [q1]; exact List.mem_map_of_mem hd
    obtain ⟨d', hd', hde⟩ := List.mem_map.1 hdd
    obtain ⟨b1, b2, b3, b4, b5⟩ := a1 d' hd'
    have w1 : d'.key = d.key := by have := congrArg Fd.key hde; exact this
    have w2 : d'.type = d.type := by have := congrArg Fd.type hde; exact this
    have w3 : d'.name = d.name := by have := congrArg Fd.name hde; exact this
    have w4 : d'.no = d.no := by have := congrArg Fd.no hde; exact this
    exact ⟨by rw [← w1]; exact b1, by rw [← w2]; exact b2, by rw [← w3]; exact b3, by rw [← w4]; exact b4, by rw [← w4]; exact b5⟩
  · have hmm : e.bare ∈ f.E.map En.bare := by rw [← h2]; exact List.mem_map_of_mem he
    obtain ⟨m', hm', hee⟩ := List.mem_map.1 hmm
    obtain ⟨a1, a2⟩ := hf.e m' hm'
    have q1 : m'.V.map Vl.bare = e.V.map Vl.bare := congrArg En.V hee
    have q4 := congrArg List.length q1
    simp only [List.length_map] at q4
    refine ⟨fun d hd => ?_, by omega⟩
    have hdd : d.bare ∈ m'.V.map Vl.bare := by rw [q1]; exact List.mem_map_of_mem hd
    obtain ⟨d', hd', hde⟩ := List.mem_map.1 hdd
    obtain ⟨b1, b2⟩ := a1 d' hd'
    have w4 : d'.n = d.n := by have := congrArg Vl.n hde; exact this
    exact ⟨by rw [← w4]; exact b1, by rw [← w4]; exact b2⟩
theorem len_par {L : List UInt8} (hL : L.length ≤ 1500) (hE : parE L = 0) (hf : full (parF L)) : (fileB (parF L)).length ≤ 650000 := by
  obtain ⟨ps, p1, p2, p3, p4, p5⟩ := file_pcs (fw_par L hL) hf
  have := cost_par hE
  omega
end Go.Proofs.YtldgfepimegbmaaDoor
