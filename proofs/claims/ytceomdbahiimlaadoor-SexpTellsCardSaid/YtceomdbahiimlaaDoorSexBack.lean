/-
  A node's text: its tokens, and what these make.
-/
import Derived.Test.YtceomdbahiimlaaDoorSexFacts
namespace Go.Proofs.YtceomdbahiimlaaDoor.T14
set_option maxRecDepth 100000

/-! ### Places do not matter to what is made -/

def unT (t : T) : T := { t with at_ := 0 }
def Ps.un (p : Ps) : Ps := ⟨p.o.map Nd.un, p.w.map Nd.un⟩
theorem un_un (x : Nd) : x.un.un = x.un := by
  refine Nd.ind (P := fun x => x.un.un = x.un) (fun x ih => ?_) x
  rw [x.un_eq, Nd.un_eq]
  simp only [Nd.kind, Nd.text, Nd.num, Nd.l, List.map_map]
  congr 1
  exact List.map_congr_left fun y hy => ih y hy
theorem add_un (q n : Nd) : (q.add n).un = q.un.add n.un := by
  rw [Nd.un_eq, q.un_eq]
  simp [Nd.add, Nd.kind, Nd.text, Nd.num, Nd.l, Nd.at_]
theorem put_un (o : List Nd) (n : Nd) : (putP o n).un = putP (o.map Nd.un) n.un := by
  cases o with
  | nil => rfl
  | cons q r => simp [putP, Ps.un, add_un]
theorem step_un (t : T) (p : Ps) : (stepP t p).map Ps.un = stepP (unT t) p.un := by
  have hw : p.un.w.isSome = p.w.isSome := by simp [Ps.un]
  have hl : p.un.o.length = p.o.length := by simp [Ps.un]
  unfold stepP
  rw [hw, hl]
  by_cases c1 : p.w.isSome = true
  · rw [if_pos c1, if_pos c1]; rfl
  · rw [if_neg c1, if_neg c1]
    by_cases c2 : t.kind ≠ 3 ∨ t.text = [46]
    · rw [if_pos c2, if_pos (show (unT t).kind ≠ 3 ∨ (unT t).text = [46] from c2)]
      show Except.ok (putP p.o (leaf t)).un = _
      rw [put_un]
      have : (leaf t).un = leaf (unT t) := by rw [Nd.un_eq]; rfl
      rw [this]
      rfl
    · rw [if_neg c2, if_neg (show ¬ ((unT t).kind ≠ 3 ∨ (unT t).text = [46]) from c2)]
      by_cases c3 : t.text = [40]
      · rw [if_pos c3, if_pos (show (unT t).text = [40] from c3)]
        by_cases c4 : p.o.length = 16
        · rw [if_pos c4, if_pos c4]; rfl
        · rw [if_neg c4, if_neg c4]
          show Except.ok (Ps.un _) = _
          simp only [Ps.un, List.map_cons, Option.map_none]
          rw [Nd.un_eq]
          rfl
      · rw [if_neg c3, if_neg (show ¬ (unT t).text = [40] from c3)]
        by_cases c5 : t.text = [41]
        · rw [if_pos c5, if_pos (show (unT t).text = [41] from c5)]
          cases ho : p.o with
          | nil =>
            have e : p.un.o = [] := by simp [Ps.un, ho]
            rw [e]
            rfl
          | cons q r =>
            have e : p.un.o = q.un :: r.map Nd.un := by simp [Ps.un, ho]
            rw [e]
            show Except.ok (putP r q).un = _
            rw [put_un]
        · rw [if_neg c5, if_neg (show ¬ (unT t).text = [41] from c5)]; rfl
def strip (x : Except (Nat × Nat) Ps) : Except Nat Ps := match x with
  | .error e => .error e.1
  | .ok q => .ok q.un
theorem run_un : ∀ (l l' : List T) (p p' : Ps), l.map unT = l'.map unT → p.un = p'.un → strip (runP l p) = strip (runP l' p')
  | [], [], p, p', _, hp => by simp [runP, strip, hp]
  | [], _ :: _, _, _, h, _ => by simp at h
  | _ :: _, [], _, _, h, _ => by simp at h
  | t :: l, t' :: l', p, p', h, hp => by
    simp only [List.map_cons, List.cons.injEq] at h
    have h1 := step_un t p
    have h2 := step_un t' p'
    rw [h.1, hp, ← h2] at h1
    unfold runP
    cases hs : stepP t p with
    | error e =>
      cases hs' : stepP t' p' with
      | error e' =>
        rw [hs, hs'] at h1
        injection h1 with h1
        simp [strip, h1]
      | ok q' => rw [hs, hs'] at h1; cases h1
    | ok q =>
      cases hs' : stepP t' p' with
      | error e' => rw [hs, hs'] at h1; cases h1
      | ok q' =>
        rw [hs, hs'] at h1
        injection h1 with h1
        exact run_un l l' q q' h.2 h1

/-! ### A node's tokens -/

def sg (c : UInt8) : T := ⟨3, [c], 0, 0⟩
def Nd.tks : Nd → List T
  | .mk k t n _ l => if k = 4 then sg 40 :: ((l.attach.map fun ⟨y, _⟩ => Nd.tks y).flatten ++ [sg 41]) else [⟨k.toNat, t, n, 0⟩]
theorem Nd.tks_eq (x : Nd) : x.tks = if x.kind = 4 then sg 40 :: ((x.l.map Nd.tks).flatten ++ [sg 41]) else [⟨x.kind.toNat, x.text, x.num, 0⟩] := by
  cases x with
  | mk k t n a l =>
    rw [Nd.tks, att l Nd.tks]
    rfl
section

variable {it : Int → List UInt8}

theorem fit_list {x : Nd} {i : Nat} (h : FitN it x i) (hk : x.kind = 4) : x.text = [] ∧ x.num = 0 ∧ i < 16 := by
  have h0 := h.head
  unfold fitB at h0
  rw [if_pos hk] at h0
  simp only [Bool.and_eq_true, decide_eq_true_eq] at h0
  exact ⟨h0.1.1, h0.1.2, h0.2⟩
theorem fit_leaf {x : Nd} {i : Nat} (h : FitN it x i) (hk : ¬ x.kind = 4) : x.l = [] ∧ ((x.kind = 0 ∨ x.kind = 1) ∧ tokB it x = true ∨ x.kind = 2 ∧ x.num = 0 ∨ x.kind = 3 ∧ x.text = [46] ∧ x.num = 0) := by
  have h0 := h.head
  unfold fitB at h0
  rw [if_neg hk] at h0
  unfold leafB at h0
  simp only [Bool.and_eq_true, List.isEmpty_iff] at h0
  refine ⟨h0.1, ?_⟩
  have h1 := h0.2
  split at h1
  · rename_i h2; exact .inl ⟨h2, h1⟩
  · split at h1
    · rename_i h2; exact .inr (.inl ⟨h2, by simpa using h1⟩)
    · split at h1
      · rename_i h2
        simp only [Bool.and_eq_true, decide_eq_true_eq] at h1
        exact .inr (.inr ⟨h2, h1.1, h1.2⟩)
      · cases h1
theorem run_list {o : List Nd} : ∀ (l : List Nd) (q : Nd), (∀ y ∈ l, ∀ o' : List Nd, o'.length = o.length + 1 → runP y.tks ⟨o', none⟩ = .ok (putP o' y.un)) →
    runP (l.map Nd.tks).flatten ⟨q :: o, none⟩ = .ok ⟨.mk q.kind q.text q.num q.at_ (q.l ++ l.map Nd.un) :: o, none⟩
  | [], q, _ => by simp [runP, ← Nd.eta]
  | y :: l, q, h => by
    rw [List.map_cons, List.flatten_cons, runP_append, h y (List.mem_cons_self ..) (q :: o) rfl]
    show runP _ ⟨q.add y.un :: o, none⟩ = _
    rw [run_list l _ fun z hz => h z (List.mem_cons_of_mem _ hz)]
    simp [Nd.add, Nd.kind, Nd.text, Nd.num, Nd.at_, Nd.l]
theorem run_tks (x : Nd) : ∀ (o : List Nd), FitN it x o.length → runP x.tks ⟨o, none⟩ = .ok (putP o x.un) := by
  refine Nd.ind (P := fun x => ∀ o : List Nd, FitN it x o.length → runP x.tks ⟨o, none⟩ = .ok (putP o x.un)) (fun x ih o hx => ?_) x
  rw [Nd.tks_eq]
  by_cases hk : x.kind = 4
  · rw [if_pos hk]
    obtain ⟨h1, h2, h3⟩ := fit_list hx hk
    have e1 : stepP (sg 40) ⟨o, none⟩ = .ok ⟨.mk 4 [] 0 0 [] :: o, none⟩ := by
      simp [stepP, sg, show ¬ o.length = 16 by omega]
    rw [runP, e1]
    simp only
    rw [runP_append, run_list x.l _ fun y hy o' ho' => ih y hy o' (by rw [ho']; exact hx.below hy)]
    show runP [sg 41] ⟨_ :: o, none⟩ = _
    have e2 : stepP (sg 41) ⟨.mk 4 [] 0 0 ([] ++ x.l.map Nd.un) :: o, none⟩ = .ok (putP o x.un) := by
      rw [x.un_eq, hk, h1, h2]
      simp [stepP, sg]
    rw [runP]
    have e3 : (Nd.mk (Nd.mk 4 [] 0 0 []).kind (Nd.mk 4 [] 0 0 []).text (Nd.mk 4 [] 0 0 []).num (Nd.mk 4 [] 0 0 []).at_ ((Nd.mk 4 [] 0 0 []).l ++ x.l.map Nd.un)) = Nd.mk 4 [] 0 0 ([] ++ x.l.map Nd.un) := rfl
    rw [e3, e2]
    rfl
  · rw [if_neg hk]
    obtain ⟨h1, h2⟩ := fit_leaf hx hk
    have hk0 : ((x.kind.toNat : Nat) : Int) = x.kind := by omega
    have e : stepP ⟨x.kind.toNat, x.text, x.num, 0⟩ ⟨o, none⟩ = .ok (putP o x.un) := by
      unfold stepP
      rw [if_neg (by simp), if_pos]
      · have : leaf ⟨x.kind.toNat, x.text, x.num, 0⟩ = x.un := by
          rw [x.un_eq, h1]
          simp [leaf, hk0]
        rw [this]
      · show x.kind.toNat ≠ 3 ∨ x.text = [46]
        rcases h2 with ⟨h2, -⟩ | ⟨h2, -⟩ | ⟨-, h2, -⟩
        · exact .inl (by omega)
        · exact .inl (by omega)
        · exact .inr h2
    rw [runP, e]
    rfl

/-! ### The text's tokens -/

def Lexd (it : Int → List UInt8) (l : List UInt8) (X : List T) : Prop := ∀ p, (lex it 0 p l).1.map unT = X ∧ (lex it 0 p l).2 = none
theorem Lexd.nil : Lexd it [] [] := fun p => by simp [lex]
theorem Lexd.bl {l : List UInt8} {X : List T} (hl : Lexd it l X) : Lexd it (32 :: l) X := by
  intro p
  have e : lex it 0 p (32 :: l) = lex it 0 (p + 1) l := by
    have hd : ([32] ++ l).drop (1 + ws false l) = l.drop (ws false l) := by rw [Nat.add_comm]; rfl
    rw [lex_ws, show (32 : UInt8) :: l = [32] ++ l from rfl, ws_blanks [32] (by decide), List.length_singleton, hd, ← Nat.add_assoc, ← lex_ws]
  rw [e]
  exact hl (p + 1)
theorem Lexd.tok {y : List UInt8} {t : Tk} {l : List UInt8} {X : List T} (hw : ws false (y ++ l) = 0) (ht : tk it (y ++ l) = some t) (hm : t.more + 1 = y.length) (hl : Lexd it l X) : Lexd it (y ++ l) (⟨t.kind, t.text, t.num, 0⟩ :: X) := by
  intro p
  rw [lex_some hw ht]
  simp only
  rw [hm, List.drop_left]
  obtain ⟨h1, h2⟩ := hl (p + t.more + 1)
  exact ⟨by rw [List.map_cons, h1]; rfl, h2⟩
theorem Lexd.sg {c : UInt8} (h : isSign c = true) {l : List UInt8} {X : List T} (hl : Lexd it l X) : Lexd it (c :: l) (sg c :: X) := by
  obtain ⟨h1, h2, h3, h4, h5, _, _⟩ := sign_hd h
  exact Lexd.tok (y := [c]) (t := ⟨3, [c], 0, 0⟩) (ws_hd h1 h2 l) (by simp [tk, h3, h4, h5, h]) rfl hl
theorem Lexd.str {s l : List UInt8} {X : List T} (hl : Lexd it l X) : Lexd it (quote s ++ l) (⟨2, s, 0, 0⟩ :: X) := by
  refine Lexd.tok (t := ⟨2, s, 0, (s.flatMap q1).length + 1⟩) (ws_hd (by decide) (by decide) _) ?_ (by simp [quote]) hl
  show tk it (34 :: (s.flatMap q1 ++ [34] ++ l)) = _
  have e : strB 0 (s.flatMap q1 ++ [34] ++ l) = some (s, (s.flatMap q1).length + 1) := by
    rw [List.append_assoc]
    exact str_quote l s
  have h1 : isFirst 34 = false := by decide
  have h2 : (isDigit 34 || (34 : UInt8) == 45) = false := by decide
  have e2 : tk it (34 :: (s.flatMap q1 ++ [34] ++ l)) = (strB 0 (s.flatMap q1 ++ [34] ++ l)).map fun x => ⟨2, x.1, 0, x.2⟩ := by
    simp only [tk]
    rw [if_neg (by rw [h1]; decide), if_neg (by rw [h2]; decide), if_pos (by decide)]
  rw [e2, e]
  rfl
theorem stop_sign {c : UInt8} (h : isNext c = false) (r : List UInt8) : Stop (c :: r) := fun c' r' e => by
  injection e with e1 e2
  rw [← e1]; exact h
theorem lex_list : ∀ (l : List Nd) (r : List UInt8) (X : List T), (∀ y ∈ l, ∀ r X, Stop r → Lexd it r X → Lexd it (y.str ++ r) (y.tks ++ X)) → Lexd it (41 :: r) X → Lexd it (sepB (l.map Nd.str) ++ 41 :: r) ((l.map Nd.tks).flatten ++ X)
  | [], r, X, _, h => h
  | [y], r, X, hy, h => by
    simp only [List.map_cons, List.map_nil, sepB, List.flatten_cons, List.flatten_nil, List.append_nil]
    exact hy y (List.mem_cons_self ..) _ _ (stop_sign (by decide) _) h
  | y :: z :: l, r, X, hy, h => by
    have h1 := lex_list (z :: l) r X (fun y h => hy y (List.mem_cons_of_mem _ h)) h
    simp only [List.map_cons, sepB, List.flatten_cons, List.append_assoc, List.cons_append] at h1 ⊢
    exact hy y (List.mem_cons_self ..) _ _ (stop_sign (by decide) _) h1.bl
theorem lex_str (x : Nd) : ∀ (i : Nat), FitN it x i → ∀ l X, Stop l → Lexd it l X → Lexd it (x.str ++ l) (x.tks ++ X) := by
  refine Nd.ind (P := fun x => ∀ i, FitN it x i → ∀ l X, Stop l → Lexd it l X → Lexd it (x.str ++ l) (x.tks ++ X)) (fun x ih i hx l X hs hl => ?_) x
  rw [Nd.str_eq, Nd.tks_eq]
  by_cases hk : x.kind = 4
  · rw [if_neg (by omega), if_pos hk, if_pos hk]
    simp only [List.cons_append, List.append_assoc, List.singleton_append]
    exact Lexd.sg (by decide) (lex_list x.l l (sg 41 :: X) (fun y hy => ih y hy _ (hx.below hy)) (Lexd.sg (by decide) hl))
  · rw [if_neg hk, if_neg hk]
    obtain ⟨h1, h2⟩ := fit_leaf hx hk
    by_cases h2k : x.kind = 2
    · rw [if_pos h2k]
      have hn : x.num = 0 := by
        rcases h2 with ⟨h2, -⟩ | ⟨-, h2⟩ | ⟨h2, -⟩
        · omega
        · exact h2
        · omega
      rw [h2k, hn]
      exact hl.str
    · rw [if_neg h2k]
      rcases h2 with ⟨h3, h4⟩ | ⟨h3, -⟩ | ⟨h3, h4, h5⟩
      · unfold tokB at h4
        split at h4
        · rename_i t ht
          simp only [Bool.and_eq_true, decide_eq_true_eq] at h4
          obtain ⟨⟨⟨a1, a2⟩, a3⟩, a4⟩ := h4
          have hg := all_tg (it := it) (L := x.text) (t := t) (by rw [ht]; exact List.mem_cons_self ..)
          obtain ⟨_, m, hm, hg⟩ := hg.2.1 (by omega)
          obtain ⟨b1, b2⟩ := hg l hs
          rw [a2] at b1 b2 hm
          have := Lexd.tok b1 b2 hm hl
          rw [show x.kind.toNat = t.kind by omega, ← a3]
          exact this
        · cases h4
      · omega
      · rw [h4, h5, h3]
        exact Lexd.sg (by decide) hl
theorem lex_len {s : List UInt8} {X : List T} (h : Lexd it s X) : X.length ≤ s.length := by
  rw [← (h 0).1, List.length_map]
  exact lex_count s 0 0
/-- What is printed is parsed as the same, if it is not too long. -/
theorem back14 {x : Nd} (h : mayB it x = true) : (parR it x.str).2.2 = 2 ∧ (5000 < x.str.length ∨ 1000 < x.tks.length) ∧ 1000 < x.str.length ∨ (parR it x.str).2.2 = 0 ∧ (parR it x.str).2.1 = x.str.length ∧ (parR it x.str).1.un = x.un := by
  have hx := may_iff.1 h
  have hL := lex_str x 0 hx [] [] (fun c r e => by cases e) Lexd.nil
  rw [List.append_nil, List.append_nil] at hL
  obtain ⟨h1, h2⟩ := hL 0
  have hn : (lex it 0 0 x.str).1.length ≤ x.str.length := lex_count _ 0 0
  by_cases h5 : 5000 < x.str.length
  · left
    have : allE it x.str = 2 := by unfold allE; rw [if_pos h5]
    unfold parR
    rw [if_pos (by omega)]
    exact ⟨this, .inl h5, by omega⟩
  · by_cases h10 : 1000 < (lex it 0 0 x.str).1.length
    · left
      have : allE it x.str = 2 := by unfold allE ansE; rw [if_neg h5, if_pos h10]
      unfold parR
      rw [if_pos (by omega)]
      exact ⟨this, .inr (by rw [← h1, List.length_map]; exact h10), by omega⟩
    · right
      have e0 : allE it x.str = 0 := by unfold allE ansE; rw [if_neg h5, if_neg h10, h2]; rfl
      have eT : allT it x.str = (lex it 0 0 x.str).1 := by unfold allT ansT; rw [if_neg h5, if_neg h10, h2]; rfl
      have hr := run_un (lex it 0 0 x.str).1 x.tks ⟨[], none⟩ ⟨[], none⟩ (by
        have h3 : (x.tks).map unT = x.tks := by
          rw [← h1, List.map_map]
          exact List.map_congr_left fun t _ => rfl
        rw [h1, h3]) rfl
      rw [run_tks x [] hx] at hr
      unfold parR
      rw [if_neg (by omega), eT]
      unfold strip at hr
      split at hr
      · cases hr
      · rename_i q hq
        injection hr with hr
        have hw := congrArg Ps.w hr
        simp only [Ps.un, putP, Option.map_some] at hw
        cases hqw : q.w with
        | none => rw [hqw] at hw; cases hw
        | some y =>
          rw [hqw] at hw
          simp only [Option.map_some, Option.some.injEq] at hw
          simp only [endP, hq, hqw]
          exact ⟨trivial, trivial, by rw [hw, un_un]⟩
theorem str_un (x : Nd) : x.un.str = x.str := by
  refine Nd.ind (P := fun x => x.un.str = x.str) (fun x ih => ?_) x
  have e : (x.l.map Nd.un).map Nd.str = x.l.map Nd.str := by
    rw [List.map_map]
    exact List.map_congr_left fun y hy => ih y hy
  rw [x.un_eq, Nd.str_eq, Nd.str_eq x]
  show (if x.kind = 2 then quote x.text else if x.kind = 4 then 40 :: (sepB ((x.l.map Nd.un).map Nd.str) ++ [41]) else x.text) = _
  rw [e]
end

end Go.Proofs.YtceomdbahiimlaaDoor.T14
