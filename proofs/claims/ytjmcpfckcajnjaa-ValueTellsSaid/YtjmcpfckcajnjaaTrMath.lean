/-
  Messages as trees: what they are, how deep, how great, and the slots that are got and set.
-/
import Derived.Test.YtjmcpfckcajnjaaBase
namespace Go.Proofs.Ytjmcpfckcajnjaa.T9
set_option maxRecDepth 100000

structure VV (α : Type) : Type where
  n : Int
  s : List UInt8
  M : List α
structure SL (α : Type) : Type where
  no : Int
  K : List (VV α)
  V : List (VV α)
inductive Mg : Type where
  | mk (F : List (SL Mg)) : Mg
def Mg.F : Mg → List (SL Mg) | .mk l => l
abbrev Vl' := VV Mg
abbrev So := SL Mg
theorem Mg.eta (m : Mg) : Mg.mk m.F = m := by cases m; rfl
theorem Mg.ext {a b : Mg} (h : a.F = b.F) : a = b := by rw [← a.eta, ← b.eta, h]
instance : Inhabited Mg := ⟨.mk []⟩
instance {α : Type} : Inhabited (VV α) := ⟨⟨0, [], []⟩⟩
instance {α : Type} : Inhabited (SL α) := ⟨⟨0, [], []⟩⟩
theorem Mg.sz {m : Mg} {s : So} {v : Vl'} {x : Mg} (hs : s ∈ m.F) (hv : v ∈ s.K ∨ v ∈ s.V) (hx : x ∈ v.M) : SizeOf.sizeOf x < SizeOf.sizeOf m := by
  obtain ⟨F⟩ := m
  have h1 := List.sizeOf_lt_of_mem (show s ∈ F from hs)
  obtain ⟨no, K, V⟩ := s
  have h3 : SizeOf.sizeOf v < SizeOf.sizeOf (SL.mk no K V) := by
    rcases hv with hv | hv
    · have := List.sizeOf_lt_of_mem (show v ∈ K from hv); simp only [SL.mk.sizeOf_spec]; omega
    · have := List.sizeOf_lt_of_mem (show v ∈ V from hv); simp only [SL.mk.sizeOf_spec]; omega
  obtain ⟨n, s, M⟩ := v
  have h4 := List.sizeOf_lt_of_mem (show x ∈ M from hx)
  simp only [VV.mk.sizeOf_spec] at h3
  simp only [Mg.mk.sizeOf_spec]
  omega
theorem Mg.ind {P : Mg → Prop} (h : ∀ m, (∀ s ∈ m.F, ∀ v, v ∈ s.K ∨ v ∈ s.V → ∀ x ∈ v.M, P x) → P m) (m : Mg) : P m :=
  h m fun _ hs _ hv x hx => Mg.ind h x
termination_by SizeOf.sizeOf m
decreasing_by exact Mg.sz hs hv hx

/-! ### Numbers that are told of lists -/

def mx : List Nat → Nat
  | [] => 0
  | x :: l => max x (mx l)
def sm : List Nat → Nat
  | [] => 0
  | x :: l => x + sm l
theorem mx_append (a b : List Nat) : mx (a ++ b) = max (mx a) (mx b) := by
  induction a with
  | nil => simp [mx]
  | cons x a ih => simp only [List.cons_append, mx, ih]; omega
theorem sm_append (a b : List Nat) : sm (a ++ b) = sm a + sm b := by
  induction a with
  | nil => simp [sm]
  | cons x a ih => simp only [List.cons_append, sm, ih]; omega
theorem mx_le {l : List Nat} {n : Nat} (h : ∀ x ∈ l, x ≤ n) : mx l ≤ n := by
  induction l with
  | nil => exact Nat.zero_le _
  | cons x l ih => have := h x (by simp); have := ih fun y hy => h y (by simp [hy]); simp only [mx]; omega
theorem le_mx {l : List Nat} {x : Nat} (h : x ∈ l) : x ≤ mx l := by
  induction l with
  | nil => cases h
  | cons y l ih =>
    simp only [mx]
    rcases List.mem_cons.1 h with rfl | h
    · omega
    · have := ih h; omega
theorem le_sm {l : List Nat} {x : Nat} (h : x ∈ l) : x ≤ sm l := by
  induction l with
  | nil => cases h
  | cons y l ih =>
    simp only [sm]
    rcases List.mem_cons.1 h with rfl | h
    · omega
    · have := ih h; omega
theorem mx_take_next {α : Type} {l : List α} {k : Nat} {x : α} (g : α → Nat) (h : l[k]? = some x) : mx ((l.take (k + 1)).map g) = max (mx ((l.take k).map g)) (g x) := by
  rw [List.take_add_one, h, List.map_append, mx_append]
  simp [mx]
theorem sm_take_next {α : Type} {l : List α} {k : Nat} {x : α} (g : α → Nat) (h : l[k]? = some x) : sm ((l.take (k + 1)).map g) = sm ((l.take k).map g) + g x := by
  rw [List.take_add_one, h, List.map_append, sm_append]
  simp [sm]
theorem sm_take_le {α : Type} (l : List α) (k : Nat) (g : α → Nat) : sm ((l.take k).map g) ≤ sm (l.map g) := by
  have h := sm_append ((l.take k).map g) ((l.drop k).map g)
  rw [← List.map_append, List.take_append_drop] at h
  omega
theorem mx_take_le {α : Type} (l : List α) (k : Nat) (g : α → Nat) : mx ((l.take k).map g) ≤ mx (l.map g) := by
  have h := mx_append ((l.take k).map g) ((l.drop k).map g)
  rw [← List.map_append, List.take_append_drop] at h
  omega
theorem sm_congr {α : Type} {l : List α} {f g : α → Nat} (h : ∀ x ∈ l, f x = g x) : sm (l.map f) = sm (l.map g) := by rw [List.map_congr_left h]
theorem sm_mono {α : Type} {l : List α} {f g : α → Nat} (h : ∀ x ∈ l, f x ≤ g x) : sm (l.map f) ≤ sm (l.map g) := by
  induction l with
  | nil => simp [sm]
  | cons x l ih => have := h x (by simp); have := ih fun y hy => h y (by simp [hy]); simp only [List.map_cons, sm]; omega
theorem sm_add {α : Type} (l : List α) (f g : α → Nat) : sm (l.map fun x => f x + g x) = sm (l.map f) + sm (l.map g) := by
  induction l with
  | nil => rfl
  | cons x l ih => simp only [List.map_cons, sm, ih]; omega
theorem sm_one {α : Type} (l : List α) : sm (l.map fun _ => 1) = l.length := by
  induction l with
  | nil => rfl
  | cons x l ih => simp only [List.map_cons, sm, ih, List.length_cons]; omega

/-! ### Deep, Size, and how many slots, values and messages there are -/

def Mg.deep (m : Mg) : Nat := 1 + mx (m.F.attach.map fun ⟨s, hs⟩ => max (mx (s.K.attach.map fun ⟨v, hv⟩ => mx (v.M.attach.map fun ⟨x, hx⟩ => x.deep))) (mx (s.V.attach.map fun ⟨v, hv⟩ => mx (v.M.attach.map fun ⟨x, hx⟩ => x.deep))))
termination_by SizeOf.sizeOf m
decreasing_by
  · exact Mg.sz hs (.inl hv) hx
  · exact Mg.sz hs (.inr hv) hx
def Mg.size (m : Mg) : Nat := sm (m.F.attach.map fun ⟨s, hs⟩ => sm (s.K.attach.map fun ⟨v, hv⟩ => 1 + sm (v.M.attach.map fun ⟨x, hx⟩ => x.size)) + sm (s.V.attach.map fun ⟨v, hv⟩ => 1 + sm (v.M.attach.map fun ⟨x, hx⟩ => x.size)))
termination_by SizeOf.sizeOf m
decreasing_by
  · exact Mg.sz hs (.inl hv) hx
  · exact Mg.sz hs (.inr hv) hx
def Mg.cnt (m : Mg) : Nat := sm (m.F.attach.map fun ⟨s, hs⟩ => 1 + (sm (s.K.attach.map fun ⟨v, hv⟩ => 1 + sm (v.M.attach.map fun ⟨x, hx⟩ => 1 + x.cnt)) + sm (s.V.attach.map fun ⟨v, hv⟩ => 1 + sm (v.M.attach.map fun ⟨x, hx⟩ => 1 + x.cnt))))
termination_by SizeOf.sizeOf m
decreasing_by
  · exact Mg.sz hs (.inl hv) hx
  · exact Mg.sz hs (.inr hv) hx
def dV (v : Vl') : Nat := mx (v.M.map Mg.deep)
def dS (s : So) : Nat := max (mx (s.K.map dV)) (mx (s.V.map dV))
def zV (v : Vl') : Nat := 1 + sm (v.M.map Mg.size)
def zS (s : So) : Nat := sm (s.K.map zV) + sm (s.V.map zV)
def cV (v : Vl') : Nat := 1 + sm (v.M.map fun x => 1 + x.cnt)
def cS (s : So) : Nat := 1 + (sm (s.K.map cV) + sm (s.V.map cV))
theorem att {α β : Type} (l : List α) (g : α → β) (f : {x // x ∈ l} → β) (h : ∀ x, f x = g x.1) : l.attach.map f = l.map g := by
  have e : f = fun x => g x.1 := funext h
  rw [e]
  simp
theorem Mg.deep_eq (m : Mg) : m.deep = 1 + mx (m.F.map dS) := by
  rw [Mg.deep, att m.F dS]
  rintro ⟨s, hs⟩
  show max _ _ = dS s
  unfold dS
  rw [att s.K dV, att s.V dV]
  · rintro ⟨v, hv⟩
    exact congrArg mx (att v.M Mg.deep _ fun x => rfl)
  · rintro ⟨v, hv⟩
    exact congrArg mx (att v.M Mg.deep _ fun x => rfl)
theorem Mg.size_eq (m : Mg) : m.size = sm (m.F.map zS) := by
  rw [Mg.size, att m.F zS]
  rintro ⟨s, hs⟩
  show _ + _ = zS s
  unfold zS
  rw [att s.K zV, att s.V zV]
  · rintro ⟨v, hv⟩
    exact congrArg (1 + sm ·) (att v.M Mg.size _ fun x => rfl)
  · rintro ⟨v, hv⟩
    exact congrArg (1 + sm ·) (att v.M Mg.size _ fun x => rfl)
theorem Mg.cnt_eq (m : Mg) : m.cnt = sm (m.F.map cS) := by
  rw [Mg.cnt, att m.F cS]
  rintro ⟨s, hs⟩
  show 1 + (_ + _) = cS s
  unfold cS
  rw [att s.K cV, att s.V cV]
  · rintro ⟨v, hv⟩
    exact congrArg (1 + sm ·) (att v.M (fun x => 1 + x.cnt) _ fun x => rfl)
  · rintro ⟨v, hv⟩
    exact congrArg (1 + sm ·) (att v.M (fun x => 1 + x.cnt) _ fun x => rfl)
theorem Mg.deep_pos (m : Mg) : 1 ≤ m.deep := by rw [m.deep_eq]; omega
theorem mem_le_sm {α : Type} {l : List α} {g : α → Nat} {x : α} (h : x ∈ l) : g x ≤ sm (l.map g) := le_sm (List.mem_map_of_mem h)
theorem mem_le_mx {α : Type} {l : List α} {g : α → Nat} {x : α} (h : x ∈ l) : g x ≤ mx (l.map g) := le_mx (List.mem_map_of_mem h)
theorem deep_lt {m : Mg} {s : So} {v : Vl'} {x : Mg} (hs : s ∈ m.F) (hv : v ∈ s.K ∨ v ∈ s.V) (hx : x ∈ v.M) : x.deep < m.deep := by
  have h1 : x.deep ≤ dV v := mem_le_mx hx
  have h2 : dV v ≤ dS s := by
    unfold dS
    rcases hv with hv | hv
    · have := mem_le_mx (g := dV) hv; omega
    · have := mem_le_mx (g := dV) hv; omega
  have h3 : dS s ≤ _ := mem_le_mx (g := dS) hs
  rw [m.deep_eq]
  omega

/-! ### Not too great -/

/-- A tree of so many slots, values and messages at most, and so deep at most. -/
structure Fit (c d : Nat) (m : Mg) : Prop where
  cnt : m.cnt ≤ c
  deep : m.deep ≤ d
theorem cS_len {s : So} : s.K.length + s.V.length ≤ cS s := by
  have h1 : s.K.length ≤ sm (s.K.map cV) := by rw [← sm_one s.K]; exact sm_mono fun v _ => by unfold cV; omega
  have h2 : s.V.length ≤ sm (s.V.map cV) := by rw [← sm_one s.V]; exact sm_mono fun v _ => by unfold cV; omega
  unfold cS
  omega
theorem cnt_F (m : Mg) : m.F.length ≤ m.cnt := by
  rw [m.cnt_eq, ← sm_one m.F]
  exact sm_mono fun s _ => by unfold cS; omega
theorem cV_M (v : Vl') : v.M.length ≤ cV v := by
  have h1 : v.M.length ≤ sm (v.M.map fun x => 1 + x.cnt) := by rw [← sm_one v.M]; exact sm_mono fun x _ => by omega
  unfold cV
  omega
theorem cS_le {m : Mg} {s : So} (hs : s ∈ m.F) : cS s ≤ m.cnt := by rw [m.cnt_eq]; exact mem_le_sm hs
theorem cV_le {s : So} {v : Vl'} (hv : v ∈ s.K ∨ v ∈ s.V) : cV v < cS s := by
  unfold cS
  rcases hv with hv | hv
  · have := mem_le_sm (g := cV) hv; omega
  · have := mem_le_sm (g := cV) hv; omega
theorem cnt_le {v : Vl'} {x : Mg} (hx : x ∈ v.M) : x.cnt < cV v := by
  have := mem_le_sm (g := fun x : Mg => 1 + x.cnt) hx
  unfold cV
  omega
theorem size_le_cnt (m : Mg) : m.size ≤ m.cnt := by
  induction m using Mg.ind with
  | h m ih =>
    have hv : ∀ s ∈ m.F, ∀ v, v ∈ s.K ∨ v ∈ s.V → zV v ≤ cV v := fun s hs v hv => by
      unfold zV cV
      have : sm (v.M.map Mg.size) ≤ sm (v.M.map fun x => 1 + x.cnt) := sm_mono fun x hx => by have := ih s hs v hv x hx; omega
      omega
    rw [m.size_eq, m.cnt_eq]
    refine sm_mono fun s hs => ?_
    unfold zS cS
    have h1 := sm_mono (l := s.K) fun v h => hv s hs v (.inl h)
    have h2 := sm_mono (l := s.V) fun v h => hv s hs v (.inr h)
    omega

/-! ### Get and Set -/

def getM (m : Mg) (no : Int) : Option So := m.F.find? fun s => s.no == no
def rest (l : List So) (no : Int) : List So := l.filter fun s => s.no != no
def place (l : List So) (no : Int) : Nat := l.findIdx fun s => decide (no < s.no)
def putS (l : List So) (s : So) : List So := l.take (place l s.no) ++ s :: l.drop (place l s.no)
def setM (m : Mg) (s : So) : Mg := .mk (if s.V = [] then rest m.F s.no else putS (rest m.F s.no) s)
theorem place_le (l : List So) (no : Int) : place l no ≤ l.length := List.findIdx_le_length
/-- The document's own way to set a slot: what is done of what is left. -/
def setR (s : So) : List So → Bool → List So
  | [], d => if d then [] else [s]
  | x :: l, d => if x.no = s.no then setR s l d else if x.no > s.no ∧ d = false then s :: x :: setR s l true else x :: setR s l d
theorem setR_done (s : So) (l : List So) : setR s l true = rest l s.no := by
  induction l with
  | nil => rfl
  | cons x l ih =>
    unfold setR rest
    by_cases h : x.no = s.no
    · rw [if_pos h, ih, List.filter_cons_of_neg (by simp [h])]; rfl
    · rw [if_neg h, if_neg (by simp), ih, List.filter_cons_of_pos (by simp [h])]; rfl
theorem putS_nil (s : So) : putS [] s = [s] := by simp [putS, place]
theorem putS_cons (x : So) (l : List So) (s : So) : putS (x :: l) s = if s.no < x.no then s :: x :: l else x :: putS l s := by
  unfold putS place
  rw [List.findIdx_cons]
  by_cases h : s.no < x.no
  · simp [h]
  · simp [h]
theorem setR_new (s : So) (l : List So) : setR s l false = putS (rest l s.no) s := by
  induction l with
  | nil => simp [setR, rest, putS_nil]
  | cons x l ih =>
    unfold setR rest
    by_cases h : x.no = s.no
    · rw [if_pos h, ih, List.filter_cons_of_neg (by simp [h])]; rfl
    · rw [if_neg h, List.filter_cons_of_pos (by simp [h]), putS_cons]
      by_cases h2 : x.no > s.no
      · rw [if_pos ⟨h2, rfl⟩, if_pos h2, setR_done]; rfl
      · rw [if_neg (by simp [h2]), if_neg h2, ih]; rfl
theorem setR_is (m : Mg) (s : So) : setR s m.F (decide (s.V = [])) = (setM m s).F := by
  unfold setM
  by_cases h : s.V = []
  · rw [if_pos h, decide_eq_true h, setR_done]; rfl
  · rw [if_neg h, decide_eq_false h, setR_new]; rfl
theorem mem_putS {l : List So} {s x : So} : x ∈ putS l s ↔ x = s ∨ x ∈ l := by
  unfold putS
  have h : x ∈ l ↔ x ∈ l.take (place l s.no) ∨ x ∈ l.drop (place l s.no) := by rw [← List.mem_append, List.take_append_drop]
  rw [List.mem_append, List.mem_cons, h]
  constructor
  · rintro (a | a | a) <;> simp [a]
  · rintro (a | a | a) <;> simp [a]
theorem rest_put {l : List So} {s : So} : rest (putS l s) s.no = rest l s.no := by
  unfold putS rest
  rw [List.filter_append, List.filter_cons_of_neg (by simp), ← List.filter_append, List.take_append_drop]
theorem rest_rest {l : List So} {no : Int} : rest (rest l no) no = rest l no := by simp [rest]
/-- What is set is set. -/
theorem set_set (m : Mg) (s t : So) (h : t.no = s.no) : setM (setM m s) t = setM m t := by
  have e : rest (setM m s).F t.no = rest m.F t.no := by
    unfold setM Mg.F
    simp only
    by_cases h1 : s.V = []
    · rw [if_pos h1, h]; exact rest_rest
    · rw [if_neg h1, h, rest_put]; exact rest_rest
  unfold setM at e ⊢
  rw [e]
theorem find_rest (l : List So) (no : Int) : (rest l no).find? (fun s => s.no == no) = none := by
  rw [List.find?_eq_none]
  intro x hx
  have := (List.mem_filter.1 hx).2
  simpa using this
theorem find_putS {l : List So} {s : So} (no : Int) : (putS l s).find? (fun x => x.no == no) = if s.no = no then (if l.any (fun x => x.no == no) then (putS l s).find? (fun x => x.no == no) else some s) else l.find? (fun x => x.no == no) := by
  by_cases h : s.no = no
  · rw [if_pos h]
    split
    · rfl
    · next hn =>
      unfold putS
      have h1 : (l.take (place l s.no)).find? (fun x => x.no == no) = none := by
        rw [List.find?_eq_none]
        intro x hx he
        exact hn (List.any_eq_true.2 ⟨x, List.mem_of_mem_take hx, he⟩)
      rw [List.find?_append, h1, Option.none_or, List.find?_cons_of_pos (by simp [h])]
  · rw [if_neg h]
    have h1 : (l.take (place l s.no) ++ l.drop (place l s.no)).find? (fun x => x.no == no) = l.find? fun x => x.no == no := by rw [List.take_append_drop]
    unfold putS
    rw [List.find?_append, List.find?_cons_of_neg (by simp [h]), ← List.find?_append, h1]
theorem get_set (m : Mg) (s : So) : getM (setM m s) s.no = if s.V = [] then none else some s := by
  unfold getM setM Mg.F
  simp only
  by_cases h : s.V = []
  · rw [if_pos h, if_pos h]; exact find_rest _ _
  · rw [if_neg h, if_neg h, find_putS, if_pos rfl, if_neg]
    intro hn
    obtain ⟨x, hx, he⟩ := List.any_eq_true.1 hn
    have := (List.mem_filter.1 hx).2
    simp only [bne_iff_ne, ne_eq, beq_iff_eq] at this he
    exact this he
theorem find_filter_ne (l : List So) (a no : Int) (h : no ≠ a) : (rest l a).find? (fun s => s.no == no) = l.find? fun s => s.no == no := by
  induction l with
  | nil => rfl
  | cons x l ih =>
    by_cases hx : x.no = a
    · unfold rest
      rw [List.filter_cons_of_neg (by simp [hx]), List.find?_cons_of_neg (by simp [hx]; exact fun e => h e.symm)]
      exact ih
    · unfold rest
      rw [List.filter_cons_of_pos (by simp [hx])]
      by_cases hn : x.no = no
      · rw [List.find?_cons_of_pos (by simp [hn]), List.find?_cons_of_pos (by simp [hn])]
      · rw [List.find?_cons_of_neg (by simp [hn]), List.find?_cons_of_neg (by simp [hn])]
        exact ih
theorem get_other (m : Mg) (s : So) (no : Int) (h : no ≠ s.no) : getM (setM m s) no = getM m no := by
  unfold getM setM Mg.F
  simp only
  by_cases hv : s.V = []
  · rw [if_pos hv]; exact find_filter_ne _ _ _ h
  · rw [if_neg hv, find_putS, if_neg fun e => h e.symm]; exact find_filter_ne _ _ _ h
end Go.Proofs.Ytjmcpfckcajnjaa.T9
