/-
  Messages made normal, by plain functions; what is normal is of its message, and normal again is the same.
-/
import Derived.Test.YtipaangiehdgkaaGreatDoorTrIn
import Derived.Test.YtipaangiehdgkaaGreatDoorTabFacts
import Derived.Deep.RegionLaw
import Derived.Deep.QuietTactic
import Derived.BigQuiet
import Derived.Test.YtipaangiehdgkaaGreatDoorTrAwake
import Derived.Lib.LaidTab
namespace Go.Proofs.YtipaangiehdgkaaGreatDoor.T9
set_option maxRecDepth 100000
open Go.Proofs.YtipaangiehdgkaaGreatDoor.T4

def defB (v : Vl') : Bool := (v.n == 0) && (v.s.isEmpty && v.M.isEmpty)
def toldB (f : Df) (l : List Vl') : Bool := match l with
  | [] => false
  | v :: _ => f.rep || (f.key != -1 || (f.one != 0 || (f.kind == 9 || !defB v)))
def ltNo (a b : So) : Bool := decide (a.no < b.no)
def bare (v : Vl') : Vl' := ⟨v.n, v.s, []⟩
def sameK (a b : Vl') : Bool := (a.n == b.n) && (a.s == b.s)
/-- The keys that there are, rising. -/
def risen (K : List Vl') : List Vl' := srt lessV (K.map bare)
/-- Of one key the last value. -/
def lastP (P : List (Vl' × Vl')) (k : Vl') : Vl' × Vl' := (P.reverse.find? fun p => sameK p.1 k).getD (⟨0, [], []⟩, ⟨0, [], []⟩)
def lastV (P : List (Vl' × Vl')) (k : Vl') : Vl' := (lastP P k).2
def norV (N : Int → Mg → Mg) (ref : Int) (v : Vl') : Vl' := ⟨v.n, v.s, v.M.map (N ref)⟩
def norS (N : Int → Mg → Mg) (f : Df) (a : So) : So :=
  if f.key = -1 then ⟨a.no, [], a.V.map (norV N f.ref)⟩ else ⟨a.no, risen a.K, (risen a.K).map fun k => norV N f.ref (lastV (a.K.zip a.V) k)⟩
def norO (fd : Int → Option Df) (N : Int → Mg → Mg) (a : So) : Option So := (fd a.no).bind fun f => if toldB f a.V then some (norS N f a) else none
def norF (fd : Int → Option Df) (N : Int → Mg → Mg) (F : List So) : List So := srt ltNo (F.filterMap (norO fd N))
def norG (s : Sc) (N : Int → Mg → Mg) (m : Int) (x : Mg) : Mg := .mk (norF (byS s m) N x.F)
/-- A message made normal, within so many levels. -/
def norB (s : Sc) : Nat → Int → Mg → Mg
  | 0 => fun _ _ => .mk []
  | d + 1 => norG s (norB s d)

/-! ### The orders -/
theorem no_irr (a : So) : ltNo a a = false := by simp [ltNo]
theorem no_tr (a b c : So) (h : ltNo a b = true) (h' : ltNo b c = true) : ltNo a c = true := by
  unfold ltNo at *
  simp only [decide_eq_true_eq] at *
  omega
theorem lv_irr (a : Vl') : lessV a a = false := lessV_same rfl rfl
theorem lv_tr (a b c : Vl') (h : lessV a b = true) (h' : lessV b c = true) : lessV a c = true := lessV_trans h h'
theorem same_iff {a b : Vl'} : sameK a b = true ↔ a.n = b.n ∧ a.s = b.s := by simp [sameK]
theorem bare_same {a b : Vl'} : bare a = bare b ↔ sameK a b = true := by
  rw [same_iff]
  unfold bare
  simp
theorem lv_tot (K : List Vl') : ∀ a ∈ K.map bare, ∀ b ∈ K.map bare, lessV a b = false → lessV b a = false → a = b := by
  intro a ha b hb h h'
  obtain ⟨x, _, rfl⟩ := List.mem_map.1 ha
  obtain ⟨y, _, rfl⟩ := List.mem_map.1 hb
  obtain ⟨h1, h2⟩ := lessV_total h h'
  exact bare_same.2 (same_iff.2 ⟨h1, h2⟩)
theorem mem_risen {K : List Vl'} {k : Vl'} : k ∈ risen K ↔ ∃ x ∈ K, bare x = k := by
  unfold risen
  rw [mem_srt (lv_tot K), List.mem_map]
theorem rise_risen (K : List Vl') : Rise lessV (risen K) := rise_srt lv_tr _
theorem bare_risen {K : List Vl'} {k : Vl'} (h : k ∈ risen K) : bare k = k := by
  obtain ⟨x, _, rfl⟩ := mem_risen.1 h
  rfl
theorem map_bare_risen (K : List Vl') : (risen K).map bare = risen K := by
  conv => rhs; rw [← List.map_id (risen K)]
  exact List.map_congr_left fun k hk => bare_risen hk
theorem risen_risen (K : List Vl') : risen (risen K) = risen K := by
  show srt lessV ((risen K).map bare) = _
  rw [map_bare_risen, srt_rise lv_irr lv_tr (rise_risen K)]
theorem no_tot {l : List So} (h : l.Pairwise fun a b => a.no ≠ b.no) : ∀ a ∈ l, ∀ b ∈ l, ltNo a b = false → ltNo b a = false → a = b := by
  intro a ha b hb h1 h2
  unfold ltNo at h1 h2
  rw [decide_eq_false_iff_not] at h1 h2
  have e : a.no = b.no := by omega
  obtain ⟨i, hi, rfl⟩ := List.mem_iff_getElem.1 ha
  obtain ⟨j, hj, rfl⟩ := List.mem_iff_getElem.1 hb
  rw [List.pairwise_iff_getElem] at h
  rcases Nat.lt_trichotomy i j with hij | hij | hij
  · exact absurd e (h i j hi hj hij)
  · subst hij; rfl
  · exact absurd e.symm (h j i hj hi hij)

/-! ### What slots claim -/
def clsOf (fd : Int → Option Df) (a : So) : List (Int × Int) := match fd a.no with | none => [] | some f => claimsOf f
def Dj (fd : Int → Option Df) (a b : So) : Prop := ∀ c ∈ clsOf fd a, c ∉ clsOf fd b
theorem Dj.symm {fd : Int → Option Df} {a b : So} (h : Dj fd a b) : Dj fd b a := fun c hc hc' => h c hc' hc
theorem claim_iff {cl : List (Int × Int)} {f : Df} : claimB cl f = true ↔ ∀ c ∈ claimsOf f, c ∉ cl := by
  unfold claimB claimsOf
  by_cases h : f.one = 0
  · rw [if_pos h]; simp [h]
  · rw [if_neg h]
    have h2 : (0, f.one) ≠ (f.no, (0 : Int)) := fun e => h (congrArg Prod.snd e)
    simp [h, h2, and_comm]
theorem slots_iff {fd : Int → Option Df} {fill : Df → So → Bool} {cl : List (Int × Int)} {l : List So} :
    slotsG fd fill cl l = true ↔ (∀ a ∈ l, ∃ f, fd a.no = some f ∧ fill f a = true) ∧ (∀ a ∈ l, ∀ c ∈ clsOf fd a, c ∉ cl) ∧ l.Pairwise (Dj fd) := by
  induction l generalizing cl with
  | nil => simp [slotsG]
  | cons a l ih =>
    rw [slotsG_cons]
    cases h : fd a.no with
    | none => simp [h]
    | some f =>
      have hc : clsOf fd a = claimsOf f := by unfold clsOf; rw [h]
      simp only [Bool.and_eq_true, ih, claim_iff, List.pairwise_cons, List.mem_cons, forall_eq_or_imp, hc]
      constructor
      · rintro ⟨h1, h2, h3, h4, h5⟩
        refine ⟨⟨⟨f, h, h2⟩, h3⟩, ⟨h1, fun b hb c hcb hcl => h4 b hb c hcb (List.mem_append.2 (.inr hcl))⟩, fun b hb c hca hcb => ?_, h5⟩
        rw [hc] at hca
        exact h4 b hb c hcb (List.mem_append.2 (.inl hca))
      · rintro ⟨⟨⟨g, hg, h2⟩, h3⟩, ⟨h1, h4⟩, h5, h6⟩
        rw [h] at hg
        obtain rfl := Option.some.inj hg
        refine ⟨h1, h2, h3, fun b hb c hcb hm => ?_, h6⟩
        rcases List.mem_append.1 hm with hm | hm
        · exact h5 b hb c (by rw [hc]; exact hm) hcb
        · exact h4 b hb c hcb hm
theorem dj_no {fd : Int → Option Df} {a b : So} {f : Df} (h : Dj fd a b) (ha : fd a.no = some f) : a.no ≠ b.no := by
  intro e
  have h1 : clsOf fd a = claimsOf f := by unfold clsOf; rw [ha]
  have h2 : clsOf fd b = claimsOf f := by unfold clsOf; rw [← e, ha]
  have h3 : (f.no, (0 : Int)) ∈ claimsOf f := by unfold claimsOf; split <;> simp
  exact h _ (by rw [h1]; exact h3) (by rw [h2]; exact h3)
theorem dj_cong {fd : Int → Option Df} {a b a' b' : So} (h : Dj fd a b) (ha : a'.no = a.no) (hb : b'.no = b.no) : Dj fd a' b' := by
  unfold Dj clsOf at *
  rw [ha, hb]
  exact h
theorem slots_no {fd : Int → Option Df} {fill : Df → So → Bool} {l : List So} (h : slotsG fd fill [] l = true) : l.Pairwise fun a b => a.no ≠ b.no := by
  obtain ⟨h1, -, h3⟩ := slots_iff.1 h
  refine List.Pairwise.imp_of_mem (fun {a b} ha hb hab => ?_) h3
  obtain ⟨f, hf, _⟩ := h1 a ha
  exact dj_no hab hf
/-! ### What is told -/
theorem norS_no {N : Int → Mg → Mg} {f : Df} {a : So} : (norS N f a).no = a.no := by unfold norS; split <;> rfl
theorem norO_some {fd : Int → Option Df} {N : Int → Mg → Mg} {a b : So} (h : norO fd N a = some b) : ∃ f, fd a.no = some f ∧ toldB f a.V = true ∧ b = norS N f a := by
  unfold norO at h
  cases hf : fd a.no with
  | none => rw [hf] at h; cases h
  | some f =>
    rw [hf, Option.bind_some] at h
    split at h
    · rename_i ht
      exact ⟨f, rfl, ht, (Option.some.inj h).symm⟩
    · cases h
theorem norO_no {fd : Int → Option Df} {N : Int → Mg → Mg} {a b : So} (h : norO fd N a = some b) : b.no = a.no := by
  obtain ⟨f, _, _, rfl⟩ := norO_some h
  exact norS_no
theorem told_no {fd : Int → Option Df} {N : Int → Mg → Mg} {l : List So} (h : l.Pairwise fun a b => a.no ≠ b.no) : (l.filterMap (norO fd N)).Pairwise fun a b => a.no ≠ b.no := by
  rw [List.pairwise_filterMap]
  refine h.imp fun {a b} hab c hc d hd => ?_
  rw [norO_no hc, norO_no hd]
  exact hab
theorem mem_norF {fd : Int → Option Df} {N : Int → Mg → Mg} {l : List So} (h : l.Pairwise fun a b => a.no ≠ b.no) {b : So} : b ∈ norF fd N l ↔ ∃ a ∈ l, norO fd N a = some b := by
  unfold norF
  rw [mem_srt (no_tot (told_no h)), List.mem_filterMap]
theorem rise_norF (fd : Int → Option Df) (N : Int → Mg → Mg) (l : List So) : Rise ltNo (norF fd N l) := rise_srt no_tr _
/-! ### What is normal is of its message -/
structure Good (G : Int → Mg → Bool) (N : Int → Mg → Mg) : Prop where
  is : ∀ r x, G r x = true → G r (N r x) = true
  same : ∀ r x, G r x = true → N r (N r x) = N r x
  deep : ∀ r x, G r x = true → (N r x).deep ≤ x.deep
  size : ∀ r x, G r x = true → (N r x).size ≤ x.size
  cnt : ∀ r x, G r x = true → (N r x).cnt ≤ x.cnt
  in_ : ∀ r x, G r x = true → MIn x → MIn (N r x)
structure GoodV (G : Int → Mg → Bool) (N : Int → Mg → Mg) (kind ref : Int) (v : Vl') : Prop where
  is : askG G kind ref (norV N ref v) = true
  same : norV N ref (norV N ref v) = norV N ref v
  def_ : kind ≠ 9 → defB (norV N ref v) = defB v
  deep : dV (norV N ref v) ≤ dV v
  size : zV (norV N ref v) ≤ zV v
  cnt : cV (norV N ref v) ≤ cV v
  in_ : VIn v → VIn (norV N ref v)
theorem ask_nine {G : Int → Mg → Bool} {ref : Int} {v : Vl'} (h : askG G 9 ref v = true) : v.n = 0 ∧ v.s = [] ∧ ∃ x, v.M = [x] ∧ G ref x = true := by
  unfold askG at h
  rw [if_neg (by omega), if_neg (by omega), if_pos rfl] at h
  simp only [Bool.and_eq_true, beq_iff_eq, List.isEmpty_iff] at h
  obtain ⟨h1, h2, h3⟩ := h
  refine ⟨h1, h2, ?_⟩
  obtain ⟨n, s, M⟩ := v
  match M, h3 with
  | [x], h3 => exact ⟨x, rfl, h3⟩
theorem good_val {G : Int → Mg → Bool} {N : Int → Mg → Mg} (g : Good G N) {kind ref : Int} {v : Vl'} (h : askG G kind ref v = true) : GoodV G N kind ref v := by
  by_cases h9 : kind = 9
  · subst h9
    obtain ⟨n, s, M⟩ := v
    obtain ⟨h1, h2, x, h3, hx⟩ := ask_nine h
    simp only at h1 h2 h3
    subst h1 h2 h3
    have hd := g.deep _ _ hx
    have hz := g.size _ _ hx
    have hc := g.cnt _ _ hx
    constructor
    · unfold askG norV
      simp [oneB, g.is _ _ hx]
    · simp [norV, g.same _ _ hx]
    · intro h; exact absurd rfl h
    · simp only [dV, norV, List.map_cons, List.map_nil, mx]; omega
    · simp only [zV, norV, List.map_cons, List.map_nil, sm]; omega
    · simp only [cV, norV, List.map_cons, List.map_nil, sm]; omega
    · rintro ⟨hv, hm⟩
      refine ⟨hv, fun y hy => ?_⟩
      simp only [norV, List.map_cons, List.map_nil, List.mem_singleton] at hy
      subst hy
      exact g.in_ _ _ hx (hm x (by simp))
  · have hM := ask_of h h9
    have e : norV N ref v = v := by
      obtain ⟨n, s, M⟩ := v
      simp only at hM
      subst hM
      rfl
    constructor <;> rw [e]
    · exact h
    · exact e
    · exact fun _ => rfl
    · exact Nat.le_refl _
    · exact Nat.le_refl _
    · exact Nat.le_refl _
    · exact id
theorem ask_bare {G : Int → Mg → Bool} {kind ref : Int} {v : Vl'} (h : askG G kind ref v = true) (h9 : kind ≠ 9) : bare v = v := by
  have hM := ask_of h h9
  obtain ⟨n, s, M⟩ := v
  simp only at hM
  subst hM
  rfl

/-! ### The last value of a key -/
theorem last_in {K V : List Vl'} (hl : K.length = V.length) {k x : Vl'} (hx : x ∈ K) (hk : sameK x k = true) : lastP (K.zip V) k ∈ K.zip V ∧ sameK (lastP (K.zip V) k).1 k = true := by
  unfold lastP
  obtain ⟨i, hi, rfl⟩ := List.mem_iff_getElem.1 hx
  have hz : (K[i], V[i]) ∈ K.zip V := by
    rw [List.mem_iff_getElem]
    exact ⟨i, by rw [List.length_zip]; omega, List.getElem_zip⟩
  cases h : (K.zip V).reverse.find? fun p => sameK p.1 k with
  | none =>
    rw [List.find?_eq_none] at h
    exact absurd hk (h _ (List.mem_reverse.2 hz))
  | some p =>
    have h1 := List.find?_some h
    have h2 := List.mem_of_find?_eq_some h
    exact ⟨List.mem_reverse.1 h2, h1⟩
theorem last_risen {K V : List Vl'} (hl : K.length = V.length) {k : Vl'} (hk : k ∈ risen K) : lastP (K.zip V) k ∈ K.zip V ∧ sameK (lastP (K.zip V) k).1 k = true := by
  obtain ⟨x, hx, rfl⟩ := mem_risen.1 hk
  exact last_in hl hx (by rw [same_iff]; exact ⟨rfl, rfl⟩)
theorem last_V {K V : List Vl'} (hl : K.length = V.length) {k : Vl'} (hk : k ∈ risen K) : lastV (K.zip V) k ∈ V := (List.of_mem_zip (last_risen hl hk).1).2
theorem last_apart {K V : List Vl'} (hl : K.length = V.length) : (risen K).Pairwise fun a b => lastP (K.zip V) a ≠ lastP (K.zip V) b := by
  refine List.Pairwise.imp_of_mem (fun {a b} ha hb hab => ?_) (rise_risen K)
  intro e
  have h1 := (last_risen hl ha).2
  have h2 := (last_risen hl hb).2
  rw [e] at h1
  rw [same_iff] at h1 h2
  rw [lessV_same (h1.1.symm.trans h2.1) (h1.2.symm.trans h2.2)] at hab
  cases hab
theorem last_self {l : List Vl'} (h : ∀ k ∈ l, bare k = k) (g : Vl' → Vl') {k : Vl'} (hk : k ∈ l) : lastV (l.zip (l.map g)) k = g k := by
  have hl : l.length = (l.map g).length := by simp
  obtain ⟨h1, h2⟩ := last_in hl hk (show sameK k k = true by rw [same_iff]; exact ⟨rfl, rfl⟩)
  have e : ∀ p ∈ l.zip (l.map g), p.2 = g p.1 := by
    intro p hp
    obtain ⟨i, hi, rfl⟩ := List.mem_iff_getElem.1 hp
    rw [List.getElem_zip]
    simp
  unfold lastV
  rw [e _ h1]
  have h4 := h k hk
  have h5 := bare_same.2 h2
  obtain ⟨q, hq⟩ : ∃ q, lastP (l.zip (l.map g)) k = q := ⟨_, rfl⟩
  rw [hq] at h1 h5 ⊢
  have h3 := h _ (List.of_mem_zip (show (q.1, q.2) ∈ _ from h1)).1
  rw [← h3, h5, h4]
theorem sm_inj {α β : Type} (g : α → Nat) (h : β → Nat) (r : α → β) : ∀ (l : List α) (m : List β), (∀ a ∈ l, r a ∈ m ∧ g a ≤ h (r a)) → l.Pairwise (fun a b => r a ≠ r b) → sm (l.map g) ≤ sm (m.map h)
  | [], _, _, _ => Nat.zero_le _
  | a :: l, m, h1, h2 => by
    obtain ⟨p1, p2⟩ := List.pairwise_cons.1 h2
    obtain ⟨hm, hg⟩ := h1 a (by simp)
    obtain ⟨m1, m2, rfl⟩ := List.append_of_mem hm
    have ih := sm_inj g h r l (m1 ++ m2) (fun b hb => ⟨by
      have h3 := (h1 b (by simp [hb])).1
      have h4 := p1 b hb
      rcases List.mem_append.1 h3 with h3 | h3
      · exact List.mem_append.2 (.inl h3)
      · rcases List.mem_cons.1 h3 with h3 | h3
        · exact absurd h3.symm h4
        · exact List.mem_append.2 (.inr h3), (h1 b (by simp [hb])).2⟩) p2
    rw [List.map_append, sm_append] at ih ⊢
    simp only [List.map_cons, sm]
    omega
theorem sm_zip {α β : Type} (f : α → Nat) (g : β → Nat) : ∀ (K : List α) (V : List β), K.length = V.length → sm ((K.zip V).map fun p => f p.1 + g p.2) = sm (K.map f) + sm (V.map g)
  | [], [], _ => rfl
  | k :: K, v :: V, h => by
    have := sm_zip f g K V (by simpa using h)
    simp only [List.zip_cons_cons, List.map_cons, sm, this]
    omega
theorem meas_map {N : Int → Mg → Mg} {ref : Int} {K V : List Vl'} (hl : K.length = V.length) (μ : Vl' → Nat) (hb : ∀ v, μ (bare v) ≤ μ v) (hn : ∀ v ∈ V, μ (norV N ref v) ≤ μ v) :
    sm ((risen K).map μ) + sm (((risen K).map fun k => norV N ref (lastV (K.zip V) k)).map μ) ≤ sm (K.map μ) + sm (V.map μ) := by
  rw [List.map_map, ← sm_add, ← sm_zip μ μ K V hl]
  refine sm_inj _ _ (lastP (K.zip V)) _ _ (fun k hk => ?_) (last_apart hl)
  obtain ⟨h1, h2⟩ := last_risen hl hk
  refine ⟨h1, ?_⟩
  have h3 := hn _ (last_V hl hk)
  have h4 := hb (lastP (K.zip V) k).1
  rw [show bare (lastP (K.zip V) k).1 = k from (bare_same.2 (by rw [same_iff] at h2 ⊢; exact h2)).trans (bare_risen hk)] at h4
  show μ k + μ (norV N ref (lastP (K.zip V) k).2) ≤ _
  unfold lastV at h3
  omega

/-! ### A slot -/
structure GoodS (G : Int → Mg → Bool) (N : Int → Mg → Mg) (f : Df) (a : So) : Prop where
  is : fillG G f (norS N f a) = true
  same : norS N f (norS N f a) = norS N f a
  told : toldB f a.V = true → toldB f (norS N f a).V = true
  deep : dS (norS N f a) ≤ dS a
  size : zS (norS N f a) ≤ zS a
  cnt : cS (norS N f a) ≤ cS a
  in_ : SIn a → SIn (norS N f a)
  rise : Rise lessV (norS N f a).K
theorem told_ne {f : Df} {l : List Vl'} (h : toldB f l = true) : l ≠ [] := by
  rintro rfl
  cases h
theorem good_slot {G : Int → Mg → Bool} {N : Int → Mg → Mg} (g : Good G N) {f : Df} {a : So} (hk9 : f.key ≠ 9) (h : fillG G f a = true) : GoodS G N f a := by
  unfold fillG at h
  simp only [Bool.and_eq_true, List.all_eq_true] at h
  obtain ⟨h1, h2, h3⟩ := h
  have gv : ∀ v ∈ a.V, GoodV G N f.kind f.ref v := fun v hv => good_val g (h3 v hv)
  obtain ⟨no, K, V⟩ := a
  simp only at h1 h2 h3 gv
  unfold manyB at h1
  by_cases hk : f.key = -1
  · rw [if_pos hk] at h1
    simp only [Bool.and_eq_true, beq_iff_eq] at h1
    obtain ⟨hK, hV⟩ := h1
    obtain rfl := List.eq_nil_of_length_eq_zero hK
    have e : norS N f ⟨no, [], V⟩ = ⟨no, [], V.map (norV N f.ref)⟩ := by unfold norS; rw [if_pos hk]
    constructor <;> rw [e]
    · unfold fillG manyB
      rw [if_pos hk]
      simp only [Bool.and_eq_true, List.all_eq_true, List.length_map, List.length_nil]
      refine ⟨⟨rfl, hV⟩, ⟨(fun x hx => absurd hx (by simp)), fun x hx => ?_⟩⟩
      obtain ⟨v, hv, rfl⟩ := List.mem_map.1 hx
      exact (gv v hv).is
    · unfold norS
      rw [if_pos hk]
      simp only [List.map_map, SL.mk.injEq, true_and]
      exact List.map_congr_left fun v hv => (gv v hv).same
    · intro ht
      match V, ht, gv with
      | v :: V, ht, gv =>
        unfold toldB at ht ⊢
        simp only [List.map_cons]
        by_cases h9 : f.kind = 9
        · simp [h9]
        · rw [(gv v (by simp)).def_ h9]; exact ht
    · unfold dS
      refine Nat.max_le.2 ⟨by simp [mx], mx_le fun x hx => ?_⟩
      rw [List.map_map] at hx
      obtain ⟨v, hv, rfl⟩ := List.mem_map.1 hx
      exact Nat.le_trans (gv v hv).deep (Nat.le_trans (mem_le_mx hv) (Nat.le_max_right _ _))
    · unfold zS
      simp only [List.map_map]
      exact Nat.add_le_add_left (sm_mono fun v hv => (gv v hv).size) _
    · unfold cS
      simp only [List.map_map]
      exact Nat.add_le_add_left (Nat.add_le_add_left (sm_mono fun v hv => (gv v hv).cnt) _) _
    · rintro ⟨hn, hv⟩
      refine ⟨hn, fun v h => ?_⟩
      rcases h with h | h
      · cases h
      · obtain ⟨v, hv', rfl⟩ := List.mem_map.1 h
        exact (gv v hv').in_ (hv v (.inr hv'))
    · exact List.Pairwise.nil
  · rw [if_neg hk] at h1
    have hl : K.length = V.length := by simpa using h1
    obtain ⟨H, hH⟩ : ∃ H : Vl' → Vl', H = fun k => norV N f.ref (lastV (K.zip V) k) := ⟨_, rfl⟩
    have e : norS N f ⟨no, K, V⟩ = ⟨no, risen K, (risen K).map H⟩ := by unfold norS; rw [if_neg hk, hH]
    have gH : ∀ k ∈ risen K, ∃ v ∈ V, H k = norV N f.ref v := fun k hk => ⟨_, last_V hl hk, by rw [hH]⟩
    have hme : ∀ μ : Vl' → Nat, (∀ v, μ (bare v) ≤ μ v) → (∀ v ∈ V, μ (norV N f.ref v) ≤ μ v) → sm ((risen K).map μ) + sm (((risen K).map H).map μ) ≤ sm (K.map μ) + sm (V.map μ) := fun μ h4 h5 => by rw [hH]; exact meas_map hl μ h4 h5
    constructor <;> rw [e]
    · unfold fillG manyB
      rw [if_neg hk]
      simp only [Bool.and_eq_true, List.all_eq_true, List.length_map, beq_self_eq_true, true_and]
      refine ⟨fun k hk' => ?_, fun x hx => ?_⟩
      · obtain ⟨x, hx, rfl⟩ := mem_risen.1 hk'
        rw [ask_bare (h2 x hx) hk9]
        exact h2 x hx
      · obtain ⟨k, hk', rfl⟩ := List.mem_map.1 hx
        obtain ⟨v, hv, e2⟩ := gH k hk'
        rw [e2]
        exact (gv v hv).is
    · unfold norS
      rw [if_neg hk]
      simp only [risen_risen, SL.mk.injEq, true_and]
      refine List.map_congr_left fun k hk' => ?_
      rw [last_self (fun k hk => bare_risen hk) H hk']
      obtain ⟨v, hv, e2⟩ := gH k hk'
      rw [e2]
      exact (gv v hv).same
    · intro ht
      have hne := told_ne ht
      have hK : K ≠ [] := by
        rintro rfl
        exact hne (List.eq_nil_of_length_eq_zero hl.symm)
      have hr : risen K ≠ [] := by
        intro e2
        obtain ⟨x, hx⟩ := List.exists_mem_of_ne_nil K hK
        have := mem_risen.2 ⟨x, hx, rfl⟩
        rw [e2] at this
        cases this
      show toldB f ((risen K).map H) = true
      match hr2 : risen K, hr with
      | k :: l, _ =>
        unfold toldB
        simp [hk]
    · unfold dS
      refine Nat.max_le.2 ⟨mx_le fun x hx => ?_, mx_le fun x hx => ?_⟩
      · obtain ⟨k, hk', rfl⟩ := List.mem_map.1 hx
        rw [← bare_risen hk']
        simp [dV, bare, mx]
      · obtain ⟨y, hy, rfl⟩ := List.mem_map.1 hx
        obtain ⟨k, hk', rfl⟩ := List.mem_map.1 hy
        obtain ⟨v, hv, e2⟩ := gH k hk'
        rw [e2]
        exact Nat.le_trans (gv v hv).deep (Nat.le_trans (mem_le_mx hv) (Nat.le_max_right _ _))
    · exact hme zV (fun v => by simp [zV, bare, sm]) fun v hv => (gv v hv).size
    · have := hme cV (fun v => by simp [cV, bare, sm]) fun v hv => (gv v hv).cnt
      unfold cS
      simp only at this ⊢
      omega
    · rintro ⟨hn, hv⟩
      refine ⟨hn, fun v h => ?_⟩
      rcases h with h | h
      · obtain ⟨x, hx, rfl⟩ := mem_risen.1 h
        exact ⟨(hv x (.inl hx)).1, fun y hy => by cases hy⟩
      · obtain ⟨k, hk', rfl⟩ := List.mem_map.1 h
        obtain ⟨v, hv', e2⟩ := gH k hk'
        rw [e2]
        exact (gv v hv').in_ (hv v (.inr hv'))
    · exact rise_risen K

/-! ### A message -/
theorem pair_dj {fd : Int → Option Df} {l : List So} (h : l.Pairwise (Dj fd)) {a b : So} (ha : a ∈ l) (hb : b ∈ l) (hne : a.no ≠ b.no) : Dj fd a b := by
  obtain ⟨i, hi, rfl⟩ := List.mem_iff_getElem.1 ha
  obtain ⟨j, hj, rfl⟩ := List.mem_iff_getElem.1 hb
  rw [List.pairwise_iff_getElem] at h
  rcases Nat.lt_trichotomy i j with hij | hij | hij
  · exact h i j hi hj hij
  · subst hij; exact absurd rfl hne
  · exact (h j i hj hi hij).symm
theorem find_no {l : List So} (h : l.Pairwise fun a b => a.no ≠ b.no) {a : So} (ha : a ∈ l) : l.find? (fun s => s.no == a.no) = some a := by
  cases h1 : l.find? fun s => s.no == a.no with
  | none =>
    rw [List.find?_eq_none] at h1
    exact absurd (by simp) (h1 a ha)
  | some b =>
    have h2 := List.find?_some h1
    have h3 := List.mem_of_find?_eq_some h1
    have e : b.no = a.no := by simpa using h2
    rw [no_tot h b h3 a ha (by simp [ltNo, e]) (by simp [ltNo, e])]
theorem filterMap_self {α : Type} {g : α → Option α} : ∀ {l : List α}, (∀ b ∈ l, g b = some b) → l.filterMap g = l
  | [], _ => rfl
  | a :: l, h => by rw [List.filterMap_cons_some (h a (by simp)), filterMap_self fun b hb => h b (by simp [hb])]
/-- No key of a map is a message. -/
def KeysOk (s : Sc) : Prop := ∀ m no f, byS s m no = some f → f.key ≠ 9
theorem may_keys {s : Sc} (h : ScMay s) : KeysOk s := by
  intro m no f hf
  unfold byS msgAt at hf
  split at hf
  · simp at hf
  · cases hm : s.M[m.toNat]? with
    | none => rw [hm] at hf; simp at hf
    | some d =>
      rw [hm] at hf
      simp only [Option.bind_some] at hf
      rcases ((h.M d (List.mem_of_getElem? hm)).each f (List.mem_of_find?_eq_some hf)).key with h1 | ⟨h1, -⟩
      · omega
      · intro e
        rw [e] at h1
        exact absurd h1 (by decide)
theorem good_step {s : Sc} (hk : KeysOk s) {G : Int → Mg → Bool} {N : Int → Mg → Mg} (g : Good G N) : Good (isG s G) (norG s N) := by
  have main : ∀ m x, isG s G m x = true → (decide (0 ≤ m ∧ m < s.M.length) = true) ∧ (∀ a ∈ x.F, ∃ f, byS s m a.no = some f ∧ GoodS G N f a) ∧ x.F.Pairwise (Dj (byS s m)) ∧ (x.F.Pairwise fun a b => a.no ≠ b.no) := by
    intro m x h
    unfold isG at h
    rw [Bool.and_eq_true] at h
    obtain ⟨h0, h⟩ := h
    have hno := slots_no h
    obtain ⟨h1, -, h3⟩ := slots_iff.1 h
    refine ⟨h0, fun a ha => ?_, h3, hno⟩
    obtain ⟨f, hf, hfl⟩ := h1 a ha
    exact ⟨f, hf, good_slot g (hk m a.no f hf) hfl⟩
  have slot : ∀ m x, isG s G m x = true → ∀ b ∈ (norG s N m x).F, ∃ a ∈ x.F, ∃ f, byS s m a.no = some f ∧ GoodS G N f a ∧ toldB f a.V = true ∧ b = norS N f a := by
    intro m x h b hb
    obtain ⟨-, h1, -, hno⟩ := main m x h
    obtain ⟨a, ha, e⟩ := (mem_norF hno).1 hb
    obtain ⟨f, hf, ht, rfl⟩ := norO_some e
    obtain ⟨f', hf', gs⟩ := h1 a ha
    rw [hf] at hf'
    obtain rfl := Option.some.inj hf'
    exact ⟨a, ha, f, hf, gs, ht, rfl⟩
  have sums : ∀ (μ : So → Nat), ∀ m x, isG s G m x = true → (∀ a ∈ x.F, ∀ f, GoodS G N f a → μ (norS N f a) ≤ μ a) → sm ((norG s N m x).F.map μ) ≤ sm (x.F.map μ) := by
    intro μ m x h hμ
    obtain ⟨-, h1, -, hno⟩ := main m x h
    refine sm_inj _ _ (fun b => (x.F.find? fun s => s.no == b.no).getD b) _ _ (fun b hb => ?_) ?_
    · obtain ⟨a, ha, f, hf, gs, ht, rfl⟩ := slot m x h b hb
      simp only [norS_no, find_no hno ha, Option.getD_some]
      exact ⟨ha, hμ a ha f gs⟩
    · refine List.Pairwise.imp_of_mem (fun {b c} hb hc hbc => ?_) (rise_norF (byS s m) N x.F)
      obtain ⟨a, ha, f, hf, gs, ht, rfl⟩ := slot m x h b hb
      obtain ⟨a', ha', f', hf', gs', ht', rfl⟩ := slot m x h c hc
      simp only [norS_no, find_no hno ha, find_no hno ha', Option.getD_some]
      intro e
      subst e
      simp [ltNo, norS_no] at hbc
  constructor
  · intro m x h
    obtain ⟨h0, h1, h3, hno⟩ := main m x h
    unfold isG
    rw [h0, Bool.true_and]
    refine slots_iff.2 ⟨fun b hb => ?_, fun _ _ _ _ => by simp, ?_⟩
    · obtain ⟨a, ha, f, hf, gs, ht, rfl⟩ := slot m x h b hb
      exact ⟨f, by rw [norS_no]; exact hf, gs.is⟩
    · refine List.Pairwise.imp_of_mem (fun {b c} hb hc hbc => ?_) (rise_norF (byS s m) N x.F)
      obtain ⟨a, ha, f, hf, gs, ht, rfl⟩ := slot m x h b hb
      obtain ⟨a', ha', f', hf', gs', ht', rfl⟩ := slot m x h c hc
      refine dj_cong (pair_dj h3 ha ha' fun e => ?_) norS_no norS_no
      simp [ltNo, norS_no, e] at hbc
  · intro m x h
    refine Mg.ext ?_
    show srt ltNo ((norG s N m x).F.filterMap (norO (byS s m) N)) = (norG s N m x).F
    rw [filterMap_self]
    · exact srt_rise no_irr no_tr (rise_norF (byS s m) N x.F)
    · intro b hb
      obtain ⟨a, ha, f, hf, gs, ht, rfl⟩ := slot m x h b hb
      unfold norO
      rw [norS_no, hf, Option.bind_some, if_pos (gs.told ht), gs.same]
  · intro m x h
    rw [Mg.deep_eq, Mg.deep_eq]
    refine Nat.add_le_add_left (mx_le fun y hy => ?_) 1
    obtain ⟨b, hb, rfl⟩ := List.mem_map.1 hy
    obtain ⟨a, ha, f, hf, gs, ht, rfl⟩ := slot m x h b hb
    exact Nat.le_trans gs.deep (mem_le_mx ha)
  · intro m x h
    rw [Mg.size_eq, Mg.size_eq]
    exact sums zS m x h fun a _ f gs => gs.size
  · intro m x h
    rw [Mg.cnt_eq, Mg.cnt_eq]
    exact sums cS m x h fun a _ f gs => gs.cnt
  · intro m x h hi
    refine MIn.of fun b hb => ?_
    obtain ⟨a, ha, f, hf, gs, ht, rfl⟩ := slot m x h b hb
    exact gs.in_ (hi.slot ha)
theorem norB_good {s : Sc} (hk : KeysOk s) : ∀ d, Good (isB s d) (norB s d)
  | 0 => by constructor <;> (intro r x h; cases h)
  | d + 1 => good_step hk (norB_good hk d)
end Go.Proofs.YtipaangiehdgkaaGreatDoor.T9
/-
  A message without one of its slots: what it is when it is normal; and the row of the call's own that an element is taken out of.
-/
namespace Go.Proofs.YtipaangiehdgkaaGreatDoor.T9
set_option maxRecDepth 100000
open Go.RowKit

theorem isB_slots {s : Sc} {d : Nat} {m : Int} {x : Mg} (h : isB s (d + 1) m x = true) : slotsG (byS s m) (fillG (isB s d)) [] x.F = true := by
  have h1 : (decide (0 ≤ m ∧ m < s.M.length) && slotsG (byS s m) (fillG (isB s d)) [] x.F) = true := h
  rw [Bool.and_eq_true] at h1
  exact h1.2
/-! ### An element is taken out -/
end Go.Proofs.YtipaangiehdgkaaGreatDoor.T9
/-
  Numbers as bytes of seven bits, on lists alone: how many bytes, which bytes.
-/
namespace Go.Proofs.YtipaangiehdgkaaGreatDoor
set_option maxRecDepth 100000

def vlong (n : Nat) : Nat := if n < 128 then 1 else vlong (n / 128) + 1
termination_by n
decreasing_by omega

theorem vlong_small {n : Nat} (h : n < 128) : vlong n = 1 := by rw [vlong, if_pos h]
theorem vlong_big {n : Nat} (h : ¬ n < 128) : vlong n = vlong (n/128) + 1 := by rw [vlong, if_neg h]
theorem vlong_pos (n : Nat) : 1 ≤ vlong n := by
  by_cases h : n < 128
  · rw [vlong_small h]; omega
  · rw [vlong_big h]; omega
theorem vlong_le : ∀ (k : Nat) {n : Nat}, n < 128 ^ (k+1) → vlong n ≤ k + 1 := by
  intro k
  induction k with
  | zero => intro n h; rw [vlong_small (by simpa using h)]; omega
  | succ k ih =>
    intro n h
    by_cases hn : n < 128
    · rw [vlong_small hn]; omega
    · rw [vlong_big hn]
      have := @ih (n/128) (by rw [Nat.pow_succ] at h; omega)
      omega
theorem vlong_le10 {n : Nat} (h : n < 18446744073709551616) : vlong n ≤ 10 := vlong_le 9 (by omega)
def vput (n : Nat) : List UInt8 := if n < 128 then [UInt8.ofNat n] else UInt8.ofNat (n % 128 + 128) :: vput (n / 128)
termination_by n
decreasing_by omega
theorem vput_small {n : Nat} (h : n < 128) : vput n = [UInt8.ofNat n] := by rw [vput, if_pos h]
theorem vput_big {n : Nat} (h : ¬ n < 128) : vput n = UInt8.ofNat (n % 128 + 128) :: vput (n / 128) := by rw [vput, if_neg h]
theorem vput_length : ∀ n, (vput n).length = vlong n := by
  intro n
  induction n using Nat.strongRecOn with
  | _ n ih =>
    by_cases h : n < 128
    · rw [vput_small h, vlong_small h]; rfl
    · rw [vput_big h, vlong_big h, List.length_cons, ih (n/128) (by omega)]
theorem ofNat_toNat {n : Nat} (h : n < 256) : (UInt8.ofNat n).toNat = n := by simp [UInt8.toNat_ofNat']; omega

/-! ### Four or eight bytes -/

def fixb (n : Nat) : Nat → List UInt8
  | 0 => []
  | k + 1 => UInt8.ofNat (n % 256) :: fixb (n / 256) k
theorem fixb_length : ∀ (k n : Nat), (fixb n k).length = k
  | 0, _ => rfl
  | k + 1, n => by simp [fixb, fixb_length k]
theorem fixb_snoc : ∀ (k n : Nat), fixb n (k + 1) = fixb n k ++ [UInt8.ofNat (n / 256 ^ k % 256)]
  | 0, n => by simp [fixb]
  | k + 1, n => by
    show UInt8.ofNat (n % 256) :: fixb (n / 256) (k + 1) = (UInt8.ofNat (n % 256) :: fixb (n / 256) k) ++ _
    rw [fixb_snoc k (n / 256), List.cons_append, Nat.div_div_eq_div_mul, ← Nat.pow_succ']

/-- The number of bytes, the lowest one first. -/
def fixn : List UInt8 → Nat
  | [] => 0
  | b :: l => b.toNat + 256 * fixn l
theorem fixn_lt : ∀ l : List UInt8, fixn l < 256 ^ l.length
  | [] => by simp [fixn]
  | b :: l => by
    have := fixn_lt l
    have hb := b.toNat_lt
    simp only [fixn, List.length_cons, Nat.pow_succ]
    omega
theorem fixn_snoc : ∀ (l : List UInt8) (b : UInt8), fixn (l ++ [b]) = fixn l + 256 ^ l.length * b.toNat
  | [], b => by simp [fixn]
  | x :: l, b => by
    simp only [List.cons_append, fixn, fixn_snoc l b, List.length_cons, Nat.pow_succ]
    rw [Nat.mul_add, Nat.mul_comm (256 ^ l.length) 256, Nat.mul_assoc]; omega
theorem fixn_fixb : ∀ (k n : Nat), fixn (fixb n k) = n % 256 ^ k
  | 0, n => by simp [fixb, fixn, Nat.mod_one]
  | k + 1, n => by
    rw [fixb, fixn, fixn_fixb k, ofNat_toNat (by omega), Nat.pow_succ', Nat.mod_mul]

/-! ### A number of seven bits a byte, read -/

def lead : List UInt8 → Nat
  | [] => 0
  | b :: l => if b.toNat < 128 then 0 else lead l + 1
def vnum : List UInt8 → Nat
  | [] => 0
  | b :: l => b.toNat % 128 + 128 * vnum l
/-- Number, bytes, error: of bytes that begin where it is read, and end where reading ends. -/
def vget (l : List UInt8) : Nat × Nat × Nat :=
  if lead (l.take 10) = 10 then (0, 0, 7)
  else if lead (l.take 10) = l.length then (0, 0, 6)
  else (vnum (l.take (lead (l.take 10) + 1)) % 18446744073709551616, lead (l.take 10) + 1, 0)
theorem lead_le : ∀ l : List UInt8, lead l ≤ l.length
  | [] => by simp [lead]
  | b :: l => by
    have := lead_le l
    unfold lead
    split <;> simp <;> omega
theorem vnum_lt : ∀ l : List UInt8, vnum l < 128 ^ l.length
  | [] => by simp [vnum]
  | b :: l => by
    have := vnum_lt l
    simp only [vnum, List.length_cons, Nat.pow_succ]
    omega
theorem vnum_snoc : ∀ (l : List UInt8) (b : UInt8), vnum (l ++ [b]) = vnum l + 128 ^ l.length * (b.toNat % 128)
  | [], b => by simp [vnum]
  | x :: l, b => by
    simp only [List.cons_append, vnum, vnum_snoc l b, List.length_cons, Nat.pow_succ]
    rw [Nat.mul_add, Nat.mul_comm (128 ^ l.length) 128, Nat.mul_assoc]; omega
/-- The first k bytes go on, the next one does not. -/
theorem lead_at : ∀ (l : List UInt8) (k : Nat) (b : UInt8), (∀ j, j < k → ∃ c, l[j]? = some c ∧ 128 ≤ c.toNat) → l[k]? = some b → b.toNat < 128 → lead l = k
  | [], k, b, _, hb, _ => by simp at hb
  | x :: l, 0, b, _, hb, hlt => by
    simp at hb
    subst hb
    simp [lead, hlt]
  | x :: l, k + 1, b, h, hb, hlt => by
    obtain ⟨c, hc, hge⟩ := h 0 (by omega)
    simp at hc
    subst hc
    have := lead_at l k b (fun j hj => by
      obtain ⟨c, hc, hge⟩ := h (j + 1) (by omega)
      exact ⟨c, by simpa using hc, hge⟩) (by simpa using hb) hlt
    simp only [lead]
    rw [if_neg (by omega), this]
theorem lead_all : ∀ (l : List UInt8), (∀ j, j < l.length → ∃ c, l[j]? = some c ∧ 128 ≤ c.toNat) → lead l = l.length
  | [], _ => rfl
  | x :: l, h => by
    obtain ⟨c, hc, hge⟩ := h 0 (by simp)
    simp at hc
    subst hc
    have := lead_all l (fun j hj => by
      obtain ⟨c, hc, hge⟩ := h (j + 1) (by simp; omega)
      exact ⟨c, by simpa using hc, hge⟩)
    simp only [lead, List.length_cons]
    rw [if_neg (by omega), this]
theorem take_get {l : List UInt8} {n k : Nat} (h : k < n) : (l.take n)[k]? = l[k]? := by rw [List.getElem?_take, if_pos h]
theorem vget_ok {l : List UInt8} {k : Nat} {b : UInt8} (hk : k < 10) (h : ∀ j, j < k → ∃ c, l[j]? = some c ∧ 128 ≤ c.toNat) (hb : l[k]? = some b) (hlt : b.toNat < 128) :
    vget l = (vnum (l.take (k + 1)) % 18446744073709551616, k + 1, 0) := by
  have hl : lead (l.take 10) = k := lead_at _ k b (fun j hj => by rw [take_get (by omega)]; exact h j hj) (by rw [take_get hk]; exact hb) hlt
  have hkl : k < l.length := (List.getElem?_eq_some_iff.1 hb).1
  unfold vget
  rw [hl, if_neg (by omega), if_neg (by omega)]
theorem vget_long {l : List UInt8} (hl : 10 ≤ l.length) (h : ∀ j, j < 10 → ∃ c, l[j]? = some c ∧ 128 ≤ c.toNat) : vget l = (0, 0, 7) := by
  have hk : lead (l.take 10) = (l.take 10).length := lead_all _ (fun j hj => by
    have : j < 10 := by simp at hj; omega
    rw [take_get this]; exact h j this)
  unfold vget
  rw [hk, List.length_take, if_pos (by omega)]
theorem vget_cut {l : List UInt8} (hl : l.length < 10) (h : ∀ j, j < l.length → ∃ c, l[j]? = some c ∧ 128 ≤ c.toNat) : vget l = (0, 0, 6) := by
  have hk : lead (l.take 10) = l.length := by rw [List.take_of_length_le (by omega)]; exact lead_all _ h
  unfold vget
  rw [hk, if_neg (by omega), if_pos rfl]
theorem vget_lt (l : List UInt8) : (vget l).1 < 18446744073709551616 := by
  unfold vget
  split
  · decide
  · split
    · decide
    · exact Nat.mod_lt _ (by decide)

/-- What is read, from one place to another one, of a list: number, place behind it, error. -/
def getS (l : List UInt8) (a u : Nat) : Nat × Nat × Nat :=
  ((vget ((l.drop a).take (u - a))).1, (if (vget ((l.drop a).take (u - a))).2.2 = 0 then a + (vget ((l.drop a).take (u - a))).2.1 else 0), (vget ((l.drop a).take (u - a))).2.2)

theorem or_shift (x j b : Nat) (hx : x < 2 ^ j) (hj : j ≤ 64) : (x ||| (b * 2 ^ j) % 2 ^ 64) = (x + b * 2 ^ j) % 2 ^ 64 := by
  have h1 : (b * 2 ^ j) % 2 ^ 64 = (b % 2 ^ (64 - j)) * 2 ^ j := by
    rw [show (2 : Nat) ^ 64 = 2 ^ (64 - j) * 2 ^ j by rw [← Nat.pow_add]; congr 1; omega, Nat.mul_mod_mul_right]
  have h2 : (b % 2 ^ (64 - j)) * 2 ^ j + x = (b % 2 ^ (64 - j)) <<< j ||| x := by
    rw [← Nat.shiftLeft_add_eq_or_of_lt hx, Nat.shiftLeft_eq]
  have h3 : (b % 2 ^ (64 - j)) * 2 ^ j + x < 2 ^ 64 := by
    have ha : b % 2 ^ (64 - j) < 2 ^ (64 - j) := Nat.mod_lt _ (Nat.pow_pos (by decide))
    have hb : (b % 2 ^ (64 - j) + 1) * 2 ^ j ≤ 2 ^ (64 - j) * 2 ^ j := Nat.mul_le_mul_right _ ha
    rw [← Nat.pow_add, show 64 - j + j = 64 by omega, Nat.add_mul, Nat.one_mul] at hb
    omega
  have h4 : (x + b * 2 ^ j) % 2 ^ 64 = ((b * 2 ^ j) % 2 ^ 64 + x) % 2 ^ 64 := by rw [Nat.add_comm, Nat.mod_add_mod]
  rw [h4, h1, Nat.mod_eq_of_lt h3, Nat.or_comm, h2, Nat.shiftLeft_eq]

/-! ### What is put is got -/

theorem vput_cont : ∀ (n j : Nat), j + 1 < (vput n).length → ∃ c, (vput n)[j]? = some c ∧ 128 ≤ c.toNat := by
  intro n
  induction n using Nat.strongRecOn with
  | _ n ih =>
    intro j hj
    by_cases h : n < 128
    · rw [vput_small h] at hj; simp at hj
    · rw [vput_big h] at hj ⊢
      rcases j with _ | j
      · exact ⟨_, rfl, by rw [ofNat_toNat (by omega)]; omega⟩
      · obtain ⟨c, hc, hge⟩ := ih (n / 128) (by omega) j (by simpa using hj)
        exact ⟨c, by simpa using hc, hge⟩
theorem vput_last : ∀ (n : Nat), ∃ c, (vput n)[(vput n).length - 1]? = some c ∧ c.toNat < 128 := by
  intro n
  induction n using Nat.strongRecOn with
  | _ n ih =>
    by_cases h : n < 128
    · rw [vput_small h]; exact ⟨_, rfl, by rw [ofNat_toNat (by omega)]; exact h⟩
    · rw [vput_big h]
      obtain ⟨c, hc, hlt⟩ := ih (n / 128) (by omega)
      have hp : 1 ≤ (vput (n / 128)).length := by rw [vput_length]; exact vlong_pos _
      refine ⟨c, ?_, hlt⟩
      rw [List.length_cons, show (vput (n / 128)).length + 1 - 1 = ((vput (n / 128)).length - 1) + 1 by omega]
      simpa using hc
theorem vnum_vput : ∀ (n : Nat), vnum (vput n) = n := by
  intro n
  induction n using Nat.strongRecOn with
  | _ n ih =>
    by_cases h : n < 128
    · rw [vput_small h]; simp only [vnum]; rw [ofNat_toNat (by omega)]; omega
    · rw [vput_big h]; simp only [vnum]; rw [ih (n / 128) (by omega), ofNat_toNat (by omega)]; omega
theorem vput_pos (n : Nat) : 1 ≤ (vput n).length := by rw [vput_length]; exact vlong_pos _
theorem vget_vput {n : Nat} (hn : n < 18446744073709551616) (t : List UInt8) : vget (vput n ++ t) = (n, (vput n).length, 0) := by
  have hp := vput_pos n
  have h10 : (vput n).length ≤ 10 := by rw [vput_length]; exact vlong_le10 hn
  obtain ⟨c, hc, hlt⟩ := vput_last n
  rw [vget_ok (l := vput n ++ t) (k := (vput n).length - 1) (b := c) (by omega) (fun j hj => by
    obtain ⟨c, hc, hge⟩ := vput_cont n j (by omega)
    exact ⟨c, by rw [List.getElem?_append_left (by omega)]; exact hc, hge⟩) (by rw [List.getElem?_append_left (by omega)]; exact hc) hlt]
  rw [show (vput n).length - 1 + 1 = (vput n).length by omega, List.take_left, vnum_vput, Nat.mod_eq_of_lt hn]
end Go.Proofs.YtipaangiehdgkaaGreatDoor
/-
  The contracts of the functions that put a number into bytes of seven bits.
-/
namespace Go.Proofs.YtipaangiehdgkaaGreatDoor
set_option maxRecDepth 100000

open Go.RowKit

set_option maxRecDepth 1000000 in
theorem long_any (n : Nat) (hn : n < 18446744073709551616) (w : World) :
    Calls Tryz.prog 193 #[.int .u64 n] w fun e w' => e = .returned (.int .i64 (vlong n)) ∧ w = w' := by
  have hv := vlong_le10 hn
  go_enter Tryz.func193, Tryz.ntmps193
  go_wp2
  refine wp_scope_loop 0 (fun a' w' => w = w' ∧ ∃ (m k : Nat) (u4 u5 u6 u7 u8 u9 u10 : Value), a' = { tmps := #[.int .u64 m, undef, .int .i64 0, .int .i64 k, u4, u5, u6, u7, u8, u9, u10], defers := [] } ∧ k + vlong m = 1 + vlong n ∧ m < 18446744073709551616) (fun a' _ => (intOf (a'.tmps.getD 0 undef)).toNat) rfl ?_ ?_
  · go_wp2
    exact ⟨trivial, n, 1, _, _, _, _, _, _, _, rfl, rfl, hn⟩
  · rintro a' w' ⟨rfl, m, k, u4, u5, u6, u7, u8, u9, u10, rfl, hs, hm⟩
    have h1 := vlong_pos m
    have hk : k ≤ 10 := by omega
    have HS := Lib.hid hs
    clear hs
    go_wp2
    · have h : m < 128 := by omega
      simp only [Exit.jump]
      go_ret
      have := HS.out
      rw [vlong_small h] at this
      exact ⟨by simp; omega, rfl⟩
    · have h : ¬ m < 128 := by omega
      have hs := HS.out
      have := vlong_big h
      go_step3
      refine ⟨rfl, ⟨rfl, m / 128, k + 1, _, _, _, _, _, _, _, rfl, by omega, by omega⟩, ?_⟩
      simp [intOf]; omega

theorem or128_all : ∀ x : Fin 256, bits BinOp.or IntKind.u8 ((x.val : Nat) : Int) 128 = ((x.val % 128 + 128 : Nat) : Int) := by decide +kernel
theorem or128 (m : Nat) : bits BinOp.or IntKind.u8 ((m : Int) % 256) 128 = ((m % 128 + 128 : Nat) : Int) := by
  have h := or128_all ⟨m % 256, by omega⟩
  simp only at h
  rw [show ((m : Int) % 256) = ((m % 256 : Nat) : Int) by omega, h]
  congr 1; omega

def PutRel (w : World) (n : Nat) (a' : Act) (w' : World) : Prop :=
  ∃ (m : Nat) (v : Value) (xs : List UInt8) (u2 u4 u5 u6 u7 u8 u9 u10 u11 u12 u13 u14 u15 u16 u17 u18 u19 u20 u21 : Value), a' = { tmps := #[.int .u64 m, undef, u2, v, u4, u5, u6, u7, u8, u9, u10, u11, u12, u13, u14, u15, u16, u17, u18, u19, u20, u21], defers := [] } ∧
    w'.ownsRow w.heap.size 5 1 v xs.length (bs xs) ∧ Below w.heap.size w w' ∧ xs ++ vput m = vput n ∧ m < 18446744073709551616

set_option maxRecDepth 1000000 in
theorem put_any (n : Nat) (hn : n < 18446744073709551616) (w : World) :
    Calls Tryz.prog 176 #[.int .u64 n] w fun e w' => ∃ v, e = .returned v ∧ w'.ownsRow w.heap.size 5 1 v (vput n).length (bs (vput n)) ∧ Below w.heap.size w w' := by
  have hv := vlong_le10 hn
  obtain ⟨i0, hi, hz0, hz1, hz2⟩ := info_parts info_u8
  go_enter Tryz.func176, Tryz.ntmps176
  go_wp2
  refine wp_scope_loop 0 (PutRel w n) (fun a' _ => (intOf (a'.tmps.getD 0 undef)).toNat) rfl ?_ ?_
  · go_wp2_with (first
      | (go_at_call 193; refine (long_any _ hn _).mono ?_; rintro e w' ⟨rfl, rfl⟩)
      | (at_make; refine wpList_make_own _ rfl _ _ 22 rfl w.heap.size 5 i0 (.int .u8 0) 1 Tryz.underlying22 hi hz0 hz1 .i64 .i64 _ (vlong n) rfl rfl rfl (by rw [hz2]; omega) (by unfold maxLen; omega) (Nat.le_refl _) ?_; intro w0 hown0 hgrow0))
    exact ⟨n, _, [], _, _, _, _, _, _, _, _, _, _, _, _, _, _, _, _, _, _, _, rfl, hown0, (Below.refl _ _).grown hgrow0 (Nat.le_refl _) (by simp), rfl, hn⟩
  · rintro a' w1 ⟨m, v, xs, u2, u4, u5, u6, u7, u8, u9, u10, u11, u12, u13, u14, u15, u16, u17, u18, u19, u20, u21, rfl, hown, hb, hx, hm⟩
    have HX := Lib.hid hx
    clear hx
    have hz := hb.size
    have hlen : xs.length ≤ 10 := by
      have h1 := congrArg List.length HX.out
      rw [List.length_append, vput_length n] at h1
      omega
    go_wp2_with (at_builtin; refine wpList_app1 rfl _ _ 22 rfl w.heap.size 5 i0 (.int .u8 0) 1 Tryz.underlying22 hi hz0 hz1 hz2 rfl v xs.length (bs xs) rfl (hown.alloc _) w1.heap.size 1 _ rfl (World.cell?_alloc_at _ _ _ _ rfl) rfl (by unfold maxLen; omega) (by omega) (by simp; omega) ?_; intro v2 w2 hown2 hg2)
    · have h : m < 128 := by omega
      have hx := HX.out
      rw [vput_small h] at hx
      have he : bs xs ++ [#[Value.int IntKind.u8 (m : Int)][0]] = bs (vput n) := by rw [← hx, bs_append]; simp [bs, BV, ofNat_toNat (show m < 256 by omega)]
      have hl : xs.length + 1 = (vput n).length := by rw [← hx]; simp
      simp only [Exit.jump]
      go_ret
      rw [he, hl] at hown2
      exact ⟨_, rfl, hown2, (hb.alloc hz _).grown hg2 (by simp; omega) (own_ge hown)⟩
    · have h : ¬ m < 128 := by omega
      have hx := HX.out
      have he : bs xs ++ [#[Value.int IntKind.u8 (bits BinOp.or IntKind.u8 ((m : Int) % 256) 128)][0]] = bs (xs ++ [UInt8.ofNat (m % 128 + 128)]) := by
        rw [bs_append, or128]; simp [bs, BV]; omega
      have hl : xs.length + 1 = (xs ++ [UInt8.ofNat (m % 128 + 128)]).length := by simp
      rw [he, hl] at hown2
      have hx2 : (xs ++ [UInt8.ofNat (m % 128 + 128)]) ++ vput (m / 128) = vput n := by rw [← hx, vput_big h]; simp
      go_step3
      exact ⟨rfl, ⟨m / 128, v2, _, _, _, _, _, _, _, _, _, _, _, _, _, _, _, _, _, _, _, _, rfl, hown2, (hb.alloc hz _).grown hg2 (by simp; omega) (own_ge hown), hx2, by omega⟩, by simp [intOf]; omega⟩
end Go.Proofs.YtipaangiehdgkaaGreatDoor
/-
  The contracts of the small tests: places that may be, sizes that there are.
-/
namespace Go.Proofs.YtipaangiehdgkaaGreatDoor
set_option maxRecDepth 100000

open Go.RowKit

def mayB (at' upto : Int) (n : Nat) : Bool := decide (0 ≤ at' ∧ at' ≤ upto ∧ upto ≤ n)
theorem mayB_true {a u : Int} {n : Nat} : mayB a u n = true ↔ 0 ≤ a ∧ a ≤ u ∧ u ≤ n := by simp [mayB]
theorem mayB_false {a u : Int} {n : Nat} : mayB a u n = false ↔ ¬ (0 ≤ a ∧ a ≤ u ∧ u ≤ n) := by simp [mayB]
def sizeB (s : Int) : Bool := decide (s = 4 ∨ s = 8)

theorem mayBe_any (A : Option Addr) (n c : Nat) (a u : Int) (w : World) (hn : n ≤ 9223372036854775807) :
    Calls Tryz.prog 114 #[.slice A n c, .int .i64 a, .int .i64 u] w fun e w' => e = .returned (.bool (mayB a u n)) ∧ w = w' := by
  by_cases h0 : 0 ≤ a
  · by_cases h1 : a ≤ u
    · by_cases h2 : u ≤ n
      all_goals
        have HF : Hid (mayB a u n = decide (u ≤ n)) := Lib.hid (by simp [mayB, h0, h1])
        go_enter Tryz.func114, Tryz.ntmps114
        go_wp2
        go_ret
        exact ⟨by rw [HF.out]; simp [h0, h1, h2], rfl⟩
    · have HF : Hid (mayB a u n = false) := Lib.hid (by simp [mayB, h0, h1])
      go_enter Tryz.func114, Tryz.ntmps114
      go_wp2
      go_ret
      exact ⟨by rw [HF.out]; simp [h0, h1], rfl⟩
  · have HF : Hid (mayB a u n = false) := Lib.hid (by simp [mayB, h0])
    go_enter Tryz.func114, Tryz.ntmps114
    go_wp2
    go_ret
    exact ⟨by rw [HF.out]; simp [h0], rfl⟩

end Go.Proofs.YtipaangiehdgkaaGreatDoor
/-
  The contracts of the functions that get a number out of bytes of seven bits.
-/
namespace Go.Proofs.YtipaangiehdgkaaGreatDoor
set_option maxRecDepth 100000

open Go.RowKit

theorem ofNat_pow2 (b j : Nat) : (b : Int) * 2 ^ j = ((b * 2 ^ j : Nat) : Int) := by push_cast; rfl
theorem or_wrap (x j b : Nat) (hx : x < 2 ^ j) (hj : j ≤ 64) (hx64 : x < 18446744073709551616) :
    bits .or .u64 (x : Int) (IntKind.u64.wrap ((b : Int) * 2 ^ j)) = (((x + b * 2 ^ j) % 18446744073709551616 : Nat) : Int) := by
  have e : IntKind.u64.wrap ((b : Int) * 2 ^ j) = (((b * 2 ^ j) % 18446744073709551616 : Nat) : Int) := by
    rw [IntKind.wrap_u64, ofNat_pow2]; exact (Int.natCast_emod _ _).symm
  rw [e, u64_or_nat _ _ hx64 (Nat.mod_lt _ (by decide))]
  congr 1
  exact or_shift x j b hx hj

def GetRel (l : List UInt8) (a u : Nat) (n i : Value) : Prop :=
  ∃ k : Nat, i = .int .i64 k ∧ k ≤ u - a ∧ k ≤ 10 ∧ n = .int .u64 ((vnum (((l.drop a).take (u - a)).take k) % 18446744073709551616 : Nat) : Int) ∧
    (∀ j, j < k → ∃ c, ((l.drop a).take (u - a))[j]? = some c ∧ 128 ≤ c.toNat)

set_option maxRecDepth 1000000 in
theorem get_yes (A : Option Addr) (c : Nat) (l : List UInt8) (a u : Nat) (hau : a ≤ u) (hu : u ≤ l.length) (hl : l.length ≤ 1000000000) (w : World) (h1 : SlB w A c l) :
    Calls Tryz.prog 69 #[.slice A l.length c, .int .i64 a, .int .i64 u] w fun e w' =>
      e = .returned (.tuple #[.int .u64 (getS l a u).1, .int .i64 (getS l a u).2.1, .int .i64 (getS l a u).2.2]) ∧ w = w' := by
  have hmay : mayB a u l.length = true := by rw [mayB_true]; omega
  have hmin : ((u : Int) - (a : Int)) = ((u - a : Nat) : Int) := by omega
  by_cases h10 : 10 < u - a
  all_goals
    go_enter Tryz.func69, Tryz.ntmps69
    go_wp2_with (go_at_call 114; refine (mayBe_any _ _ _ _ _ _ (by omega)).mono ?_; rintro e w' ⟨rfl, rfl⟩)
    have HM := Lib.hid hmin
    clear hmin
    go_loop [9, 21] (fun n i => GetRel l a u n i) (fun _ i => 10 - (intOf i).toNat)
    case atStart => exact ⟨0, rfl, by omega, by omega, rfl, by omega⟩
    case round =>
      obtain ⟨k, rfl, hk, hk10, rfl, hall⟩ := hrel
      have HA := Lib.hid hall
      clear hall
      by_cases hlt : k < min (u - a) 10
      · have hlt1 : k < u - a := by omega
        have hlt2 : k < 10 := by omega
        obtain ⟨ad, b, rfl, _, hb, hc⟩ := h1.at_ (k := a + k) (by omega)
        have hb' : ((l.drop a).take (u - a))[k]? = some b := by rw [List.getElem?_take, if_pos hlt1, List.getElem?_drop]; exact hb
        have hsn : ((l.drop a).take (u - a)).take (k + 1) = ((l.drop a).take (u - a)).take k ++ [b] := by rw [List.take_add_one, hb']; rfl
        have hvl := vnum_lt (((l.drop a).take (u - a)).take k)
        have hlen : (((l.drop a).take (u - a)).take k).length = k := by simp; omega
        have hvn := vnum_snoc (((l.drop a).take (u - a)).take k) b
        rw [← hsn, hlen] at hvn
        rw [hlen] at hvl
        have hk9 : (128 : Nat) ^ k ≤ 128 ^ 9 := Nat.pow_le_pow_right (by omega) (by omega)
        rw [Nat.mod_eq_of_lt (show vnum (((l.drop a).take (u - a)).take k) < 18446744073709551616 by omega)]
        have hor := or_wrap (vnum (((l.drop a).take (u - a)).take k)) (7 * k) (b.toNat % 128) (by rw [Nat.pow_mul]; exact hvl) (by omega) (by omega)
        rw [show vnum (((l.drop a).take (u - a)).take k) + b.toNat % 128 * 2 ^ (7 * k) = vnum (((l.drop a).take (u - a)).take (k + 1)) by rw [hvn, Nat.pow_mul, Nat.mul_comm]] at hor
        rw [show ((b.toNat % 128 : Nat) : Int) = (b.toNat : Int) % 128 by omega] at hor
        have HO := Lib.hid hor
        have HB := Lib.hid hb'
        have hbl := b.toNat_lt
        clear hor hb' hvn hvl hlen hsn hb hk9 h1
        generalize vnum (((l.drop a).take (u - a)).take k) = X at *
        by_cases hb128 : b.toNat < 128
        · have HV := Lib.hid (vget_ok hlt2 HA.out HB.out hb128)
          go_wp2
          go_ret3
          refine ⟨?_, rfl⟩
          have hv := HV.out
          have ho := HO.out
          unfold getS
          rw [hv]
          exact ret3_int ho (by simp only [if_pos]; omega) rfl
        · go_wp2
          refine ⟨⟨k + 1, by go_num, by omega, by omega, ?_, ?_⟩, by simp [intOf]; omega⟩
          · have ho := HO.out
            rw [← ho]
          · intro j hj
            by_cases hjk : j = k
            · subst hjk
              exact ⟨b, HB.out, by omega⟩
            · exact HA.out j (by omega)
      · have hs : ((l.drop a).take (u - a)).length = u - a := by simp; omega
        by_cases hf : u - a < 10
        · have HV := Lib.hid (vget_cut (l := (l.drop a).take (u - a)) (by omega) (by rw [hs]; intro j hj; exact HA.out j (by omega)))
          clear h1 hs
          have hd : decide (((u - a : Nat) : Int) < 10) = true := by simp; omega
          have hm := HM.out
          try (exfalso; omega)
          all_goals go_wp2
          all_goals go_ret3
          all_goals exact ⟨by unfold getS; rw [HV.out]; rfl, rfl⟩
        · have HV := Lib.hid (vget_long (l := (l.drop a).take (u - a)) (by omega) (by intro j hj; exact HA.out j (by omega)))
          clear h1 hs
          have hm := HM.out
          have hd : decide (((u - a : Nat) : Int) < 10) = false := by simp; omega
          go_wp2
          go_ret3
          exact ⟨by unfold getS; rw [HV.out]; rfl, rfl⟩
end Go.Proofs.YtipaangiehdgkaaGreatDoor
/-
  The contract of the document's own way to get a number out of bytes of seven bits.
-/
namespace Go.Proofs.YtipaangiehdgkaaGreatDoor
set_option maxRecDepth 100000

open Go.RowKit

end Go.Proofs.YtipaangiehdgkaaGreatDoor
/-
  The contracts of the functions that get a number of seven bits a byte, at any arguments.
-/
namespace Go.Proofs.YtipaangiehdgkaaGreatDoor
set_option maxRecDepth 100000

open Go.RowKit

def getR (l : List UInt8) (a u : Int) : Nat × Nat × Nat := if mayB a u l.length then getS l a.toNat u.toNat else (0, 0, 1)
def V3 (r : Nat × Nat × Nat) : Value := .tuple #[.int .u64 r.1, .int .i64 r.2.1, .int .i64 r.2.2]

theorem get_any (A : Option Addr) (c : Nat) (l : List UInt8) (a u : Int) (hl : l.length ≤ 1000000000) (w : World) (h1 : SlB w A c l) :
    Calls Tryz.prog 69 #[.slice A l.length c, .int .i64 a, .int .i64 u] w fun e w' => e = .returned (V3 (getR l a u)) ∧ w = w' := by
  by_cases h : mayB a u l.length = true
  · have h' := mayB_true.1 h
    obtain ⟨an, rfl⟩ := Int.eq_ofNat_of_zero_le h'.1
    obtain ⟨un, rfl⟩ := Int.eq_ofNat_of_zero_le (show 0 ≤ u by omega)
    refine (get_yes A c l an un (by omega) (by omega) hl w h1).mono ?_
    rintro e w' ⟨rfl, rfl⟩
    exact ⟨by unfold getR; rw [if_pos h]; rfl, rfl⟩
  · have hf : mayB a u l.length = false := by simpa using h
    have HF : Hid (getR l a u = (0, 0, 1)) := Lib.hid (by unfold getR; rw [if_neg h])
    clear h
    go_enter Tryz.func69, Tryz.ntmps69
    go_wp2_with (go_at_call 114; refine (mayBe_any _ _ _ _ _ _ (by omega)).mono ?_; rintro e w' ⟨rfl, rfl⟩)
    go_ret3
    exact ⟨by rw [HF.out]; rfl, rfl⟩

end Go.Proofs.YtipaangiehdgkaaGreatDoor
/-
  The contracts of the functions that put a number into four or eight bytes, and get it.
-/
namespace Go.Proofs.YtipaangiehdgkaaGreatDoor
set_option maxRecDepth 100000

open Go.RowKit

theorem isSize_any (s : Int) (w : World) :
    Calls Tryz.prog 115 #[.int .i64 s] w fun e w' => e = .returned (.bool (sizeB s)) ∧ w = w' := by
  by_cases h4 : s = 4
  · have h : ((s : Int) == 4) = true := by simp [h4]
    have HF : Hid (sizeB s = true) := Lib.hid (by simp [sizeB, h4])
    clear h4
    go_enter Tryz.func115, Tryz.ntmps115
    go_wp2
    go_ret
    exact ⟨by rw [HF.out]; rfl, rfl⟩
  · have h : ((s : Int) == 4) = false := by simp [h4]
    by_cases h8 : s = 8
    · have h' : ((s : Int) == 8) = true := by simp [h8]
      have HF : Hid (sizeB s = true) := Lib.hid (by simp [sizeB, h8])
      clear h4 h8
      go_enter Tryz.func115, Tryz.ntmps115
      go_wp2
      go_ret
      exact ⟨by rw [HF.out]; rfl, rfl⟩
    · have h' : ((s : Int) == 8) = false := by simp [h8]
      have HF : Hid (sizeB s = false) := Lib.hid (by simp [sizeB, h4, h8])
      clear h4 h8
      go_enter Tryz.func115, Tryz.ntmps115
      go_wp2
      go_ret
      exact ⟨by rw [HF.out]; rfl, rfl⟩

def FixRel (w : World) (n S : Nat) (i : Value) (w' : World) : Prop :=
  ∃ k : Nat, i = .int .i64 k ∧ k ≤ S ∧ w'.ownsRow w.heap.size 5 1 (.slice (some ⟨w.heap.size, 0, none⟩) S S) S (bs (fixb n k ++ List.replicate (S - k) 0)) ∧ Below w.heap.size w w'

set_option maxRecDepth 1000000 in
theorem fix_yes (n S : Nat) (hS : S = 4 ∨ S = 8) (hn : n < 18446744073709551616) (w : World) :
    Calls Tryz.prog 194 #[.int .u64 n, .int .i64 S] w fun e w' => ∃ v, e = .returned (.tuple #[v, .bool true]) ∧ w'.ownsRow w.heap.size 5 1 v S (bs (fixb n S)) ∧ Below w.heap.size w w' := by
  obtain ⟨i0, hi, hz0, hz1, hz2⟩ := info_parts info_u8
  have hsz : sizeB S = true := by rcases hS with rfl | rfl <;> rfl
  have hS8 : S ≤ 8 := by omega
  go_enter Tryz.func194, Tryz.ntmps194
  go_wp2_with (first
    | (go_at_call 115; refine (isSize_any _ _).mono ?_; rintro e w' ⟨rfl, rfl⟩)
    | (at_make; refine wpList_make_full _ rfl _ _ 22 rfl w.heap.size 5 i0 (.int .u8 0) 1 Tryz.underlying22 hi hz0 hz1 .i64 .i64 _ _ S rfl rfl rfl rfl (by rw [hz2]; omega) (by unfold maxLen; omega) (Nat.le_refl _) ?_; intro w0 hown0 hgrow0))
  go_loopw [14] (fun i wr => FixRel w n S i wr) (fun i _ => S - (intOf i).toNat)
  case atStart =>
    refine ⟨0, rfl, by omega, ?_, (Below.refl _ _).grown hgrow0 (Nat.le_refl _) (by simp)⟩
    have e : (madeCells (Value.int IntKind.u8 0).cells (S * 1)).toList = bs (fixb n 0 ++ List.replicate (S - 0) 0) := by
      rw [show (Value.int IntKind.u8 0).cells = #[Value.int IntKind.u8 0] from rfl, toList_madeCells_one]
      simp [bs, fixb, BV]
    rw [← e]; exact hown0
  case round =>
    obtain ⟨k, rfl, hk, hown, hb⟩ := hrel
    by_cases hlt : k < S
    · have hcell : wr.cell? ⟨w.heap.size, k, none⟩ = some (BV 0) := by
        rw [hown.cellAt k (by omega), bs_get, List.getElem?_append_right (by rw [fixb_length]; omega), fixb_length]
        simp [show 0 < S - k by omega]
      have hfz := hown.frozenAt k
      have hst := hown.stored k (.int .u8 ((n : Int) / 2 ^ (8 * k) % 256))
      have he : (bs (fixb n k ++ List.replicate (S - k) 0)).set k (.int .u8 ((n : Int) / 2 ^ (8 * k) % 256)) = bs (fixb n (k + 1) ++ List.replicate (S - (k + 1)) 0) := by
        rw [fixb_snoc, show S - k = (S - (k + 1)) + 1 by omega, List.replicate_succ]
        have h256 : (256 : Nat) ^ k = 2 ^ (8 * k) := by rw [Nat.pow_mul]
        simp only [bs, List.map_append, List.map_cons, List.append_assoc]
        rw [List.set_append_right _ _ (by simp [fixb_length])]
        simp only [List.length_map, fixb_length, Nat.sub_self, List.set_cons_zero, List.map_nil, List.cons_append, List.nil_append]
        congr 2
        unfold BV
        rw [ofNat_toNat (by omega), h256]
        congr 1
      have HE := Lib.hid he
      have HST := Lib.hid hst
      clear he hst hown0 hown
      go_wp2
      exact ⟨⟨k + 1, by go_num, by omega, by rw [← HE.out]; exact HST.out.1, hb.setCell (by simp) _⟩, by simp [intOf]; omega⟩
    · obtain rfl : k = S := by omega
      clear hown0
      go_wp2
      go_ret2
      refine ⟨_, rfl, ?_, hb⟩
      simpa using hown

end Go.Proofs.YtipaangiehdgkaaGreatDoor
/-
  The contracts of the functions that get a number out of four or eight bytes; and those that get one, at any places.
-/
namespace Go.Proofs.YtipaangiehdgkaaGreatDoor
set_option maxRecDepth 100000

open Go.RowKit

def unfixS (l : List UInt8) (a u S : Nat) : Nat × Nat × Nat := if u - a < S then (0, 0, 6) else (fixn ((l.drop a).take S), a + S, 0)
def unfixR (l : List UInt8) (a u s : Int) : Nat × Nat × Nat := if mayB a u l.length && sizeB s then unfixS l a.toNat u.toNat s.toNat else (0, 0, 1)
/-- Three numbers, as they are answered. -/

def UnfixRel (l : List UInt8) (a : Nat) (S : Nat) (n i : Value) : Prop :=
  ∃ k : Nat, i = .int .i64 k ∧ k ≤ S ∧ n = .int .u64 ((fixn ((l.drop a).take k) % 18446744073709551616 : Nat) : Int)

theorem fix_lt (l : List UInt8) (a k : Nat) (hk : k ≤ 8) : fixn ((l.drop a).take k) < 18446744073709551616 := by
  have h := fixn_lt ((l.drop a).take k)
  have h2 : (256 : Nat) ^ ((l.drop a).take k).length ≤ 256 ^ 8 := Nat.pow_le_pow_right (by omega) (by simp; omega)
  omega

set_option maxRecDepth 1000000 in
theorem unfix_yes (A : Option Addr) (c : Nat) (l : List UInt8) (a u S : Nat) (hS : S = 4 ∨ S = 8) (hau : a ≤ u) (hu : u ≤ l.length) (hl : l.length ≤ 1000000000) (w : World) (h1 : SlB w A c l) :
    Calls Tryz.prog 68 #[.slice A l.length c, .int .i64 a, .int .i64 u, .int .i64 S] w fun e w' => e = .returned (V3 (unfixS l a u S)) ∧ w = w' := by
  have hmay : mayB a u l.length = true := by rw [mayB_true]; omega
  have hsz : sizeB S = true := by rcases hS with rfl | rfl <;> rfl
  have hS8 : S ≤ 8 := by omega
  by_cases hcut : u - a < S
  · have HF : Hid (unfixS l a u S = (0, 0, 6)) := Lib.hid (by unfold unfixS; rw [if_pos hcut])
    have hd : (u : Int) - a < S := by omega
    clear hcut
    go_enter Tryz.func68, Tryz.ntmps68
    go_wp2_with (first
      | (go_at_call 114; refine (mayBe_any _ _ _ _ _ _ (by omega)).mono ?_; rintro e w' ⟨rfl, rfl⟩)
      | (go_at_call 115; refine (isSize_any _ _).mono ?_; rintro e w' ⟨rfl, rfl⟩))
    go_ret3
    exact ⟨by rw [HF.out]; rfl, rfl⟩
  · have HF : Hid (unfixS l a u S = (fixn ((l.drop a).take S), a + S, 0)) := Lib.hid (by unfold unfixS; rw [if_neg hcut])
    have hd : ¬ (u : Int) - a < S := by omega
    have haS : a + S ≤ u := by omega
    clear hcut
    go_enter Tryz.func68, Tryz.ntmps68
    go_wp2_with (first
      | (go_at_call 114; refine (mayBe_any _ _ _ _ _ _ (by omega)).mono ?_; rintro e w' ⟨rfl, rfl⟩)
      | (go_at_call 115; refine (isSize_any _ _).mono ?_; rintro e w' ⟨rfl, rfl⟩))
    go_loop [11, 29] (fun n i => UnfixRel l a S n i) (fun _ i => S - (intOf i).toNat)
    case atStart => exact ⟨0, rfl, by omega, rfl⟩
    case round =>
      obtain ⟨k, rfl, hk, rfl⟩ := hrel
      by_cases hlt : k < S
      · obtain ⟨ad, b, rfl, _, hb, hc⟩ := h1.at_ (k := a + k) (by omega)
        have hsn : (l.drop a).take (k + 1) = (l.drop a).take k ++ [b] := by rw [List.take_add_one, List.getElem?_drop, hb]; rfl
        have hlen : ((l.drop a).take k).length = k := by simp; omega
        have hvl := fixn_lt ((l.drop a).take k)
        have hvn := fixn_snoc ((l.drop a).take k) b
        rw [← hsn, hlen] at hvn
        rw [hlen, Nat.pow_mul 2 8 k |>.symm] at hvl
        have h64 := fix_lt l a k (by omega)
        rw [Nat.mod_eq_of_lt h64]
        have hor := or_wrap (fixn ((l.drop a).take k)) (8 * k) b.toNat hvl (by omega) h64
        rw [show fixn ((l.drop a).take k) + b.toNat * 2 ^ (8 * k) = fixn ((l.drop a).take (k + 1)) by rw [hvn, Nat.pow_mul, Nat.mul_comm]] at hor
        have HO := Lib.hid hor
        have hbl := b.toNat_lt
        clear hor hvn hvl hlen hsn hb h1
        generalize fixn ((l.drop a).take k) = X at *
        go_wp2
        exact ⟨⟨k + 1, by go_num, by omega, by rw [← HO.out]⟩, by simp [intOf]; omega⟩
      · obtain rfl : k = S := by omega
        rw [Nat.mod_eq_of_lt (fix_lt l a k hS8)]
        clear h1
        go_wp2
        go_ret3
        exact ⟨by rw [HF.out]; rfl, rfl⟩

theorem unfix_any (A : Option Addr) (c : Nat) (l : List UInt8) (a u s : Int) (hl : l.length ≤ 1000000000) (w : World) (h1 : SlB w A c l) :
    Calls Tryz.prog 68 #[.slice A l.length c, .int .i64 a, .int .i64 u, .int .i64 s] w fun e w' => e = .returned (V3 (unfixR l a u s)) ∧ w = w' := by
  by_cases h : mayB a u l.length = true
  · by_cases hz : sizeB s = true
    · have h' := mayB_true.1 h
      have hs : s = 4 ∨ s = 8 := by simpa [sizeB] using hz
      obtain ⟨an, rfl⟩ := Int.eq_ofNat_of_zero_le h'.1
      obtain ⟨un, rfl⟩ := Int.eq_ofNat_of_zero_le (show 0 ≤ u by omega)
      obtain ⟨sn, rfl⟩ := Int.eq_ofNat_of_zero_le (show 0 ≤ s by omega)
      refine (unfix_yes A c l an un sn (by omega) (by omega) (by omega) hl w h1).mono ?_
      rintro e w' ⟨rfl, rfl⟩
      exact ⟨by unfold unfixR; rw [h, hz]; rfl, rfl⟩
    · have hf : sizeB s = false := by simpa using hz
      have HF : Hid (unfixR l a u s = (0, 0, 1)) := Lib.hid (by unfold unfixR; rw [h, hf]; rfl)
      clear hz
      go_enter Tryz.func68, Tryz.ntmps68
      go_wp2_with (first
        | (go_at_call 114; refine (mayBe_any _ _ _ _ _ _ (by omega)).mono ?_; rintro e w' ⟨rfl, rfl⟩)
        | (go_at_call 115; refine (isSize_any _ _).mono ?_; rintro e w' ⟨rfl, rfl⟩))
      go_ret3
      exact ⟨by rw [HF.out]; rfl, rfl⟩
  · have hf : mayB a u l.length = false := by simpa using h
    have HF : Hid (unfixR l a u s = (0, 0, 1)) := Lib.hid (by unfold unfixR; rw [hf]; rfl)
    clear h
    go_enter Tryz.func68, Tryz.ntmps68
    go_wp2_with (go_at_call 114; refine (mayBe_any _ _ _ _ _ _ (by omega)).mono ?_; rintro e w' ⟨rfl, rfl⟩)
    go_ret3
    exact ⟨by rw [HF.out]; rfl, rfl⟩
end Go.Proofs.YtipaangiehdgkaaGreatDoor
/-
  Package-level variables: an array of numbers that lies in its own block, and that nothing turns.
-/
namespace Go.Proofs.YtipaangiehdgkaaGreatDoor
set_option maxRecDepth 100000

open Go.RowKit

/-- The block g holds these cells. -/
def TabAt (w : World) (g : Nat) (cs : Array Value) : Prop := ∃ t fr, w.heap[g]? = some (.cells cs t fr)
theorem TabAt.on {w w' : World} {g : Nat} {cs : Array Value} (h : TabAt w g cs) (hb : Below w.heap.size w w') : TabAt w' g cs := by
  obtain ⟨t, fr, h⟩ := h
  exact ⟨t, fr, (hb.block g (Array.getElem?_eq_some_iff.1 h).1).trans h⟩
theorem TabAt.of_var {P : Program} {w : World} {n : String} {g : Nat} {cs : Array Value} (hg : P.globalNamed n = some g) (h : w.var? P n = some cs) : TabAt w g cs := by
  simp only [World.var?, hg, Option.bind_some] at h
  split at h
  · rename_i c t fr hb
    cases h
    exact ⟨t, fr, hb⟩
  · cases h
end Go.Proofs.YtipaangiehdgkaaGreatDoor
/-
  The wire types that there are: the contracts of the two functions that tell them.
-/
namespace Go.Proofs.YtipaangiehdgkaaGreatDoor
set_option maxRecDepth 100000

open Go.RowKit

def wiresC : Array Value := #[.int .i64 0, .int .i64 1, .int .i64 2, .int .i64 5]
def Wires (w : World) : Prop := TabAt w 2 wiresC
theorem Wires.on {w w' : World} (h : Wires w) (hb : Below w.heap.size w w') : Wires w' := TabAt.on h hb

def knownB (i : Int) : Bool := decide (i = 0 ∨ i = 1 ∨ i = 2 ∨ i = 5)

def KnownRel (i : Int) (v : Value) : Prop := ∃ k : Nat, v = .int .i64 k ∧ k ≤ 4 ∧ (0 < k → i ≠ 0) ∧ (1 < k → i ≠ 1) ∧ (2 < k → i ≠ 2) ∧ (3 < k → i ≠ 5)

set_option maxRecDepth 1000000 in
theorem known_any (i : Int) (w : World) (T : Wires w) :
    Calls Tryz.prog 178 #[.int .i64 i] w fun e w' => e = .returned (.bool (knownB i)) ∧ w = w' := by
  obtain ⟨tt, fr, hT⟩ := T
  go_enter Tryz.func178, Tryz.ntmps178
  go_wp2_with (refine wpList_load_row rfl 245 _ rfl 2 rfl tt _ fr _ hT Tryz.underlying245 rfl (by kernel_rfl) ?_)
  go_loop [6] (fun v => KnownRel i v) (fun v => 4 - (intOf v).toNat)
  case atStart => exact ⟨0, rfl, by omega, by omega, by omega, by omega, by omega⟩
  case round =>
    obtain ⟨k, rfl, hk, h0, h1, h2, h3⟩ := hrel
    have hc : k = 0 ∨ k = 1 ∨ k = 2 ∨ k = 3 ∨ k = 4 := by omega
    have e0 : (Instr.index 245 (.agg wiresC) (.int .i64 0)).run Tryz.prog w = .ok (.int .i64 0) w := by kernel_rfl
    have e1 : (Instr.index 245 (.agg wiresC) (.int .i64 1)).run Tryz.prog w = .ok (.int .i64 1) w := by kernel_rfl
    have e2 : (Instr.index 245 (.agg wiresC) (.int .i64 2)).run Tryz.prog w = .ok (.int .i64 2) w := by kernel_rfl
    have e3 : (Instr.index 245 (.agg wiresC) (.int .i64 3)).run Tryz.prog w = .ok (.int .i64 5) w := by kernel_rfl
    rcases hc with rfl | rfl | rfl | rfl | rfl
    · by_cases h : i = 0
      · have hB : ((0 : Int) == i) = true := by simp [h]
        go_wp2
        go_ret
        exact ⟨ret_bool (by simp [knownB, h]), rfl⟩
      · have hB : ((0 : Int) == i) = false := by simp; omega
        go_wp2
        exact ⟨⟨1, rfl, by omega, by omega, by omega, by omega, by omega⟩, by simp [intOf]⟩
    · by_cases h : i = 1
      · have hB : ((1 : Int) == i) = true := by simp [h]
        go_wp2
        go_ret
        exact ⟨ret_bool (by simp [knownB, h]), rfl⟩
      · have hB : ((1 : Int) == i) = false := by simp; omega
        go_wp2
        exact ⟨⟨2, rfl, by omega, by omega, by omega, by omega, by omega⟩, by simp [intOf]⟩
    · by_cases h : i = 2
      · have hB : ((2 : Int) == i) = true := by simp [h]
        go_wp2
        go_ret
        exact ⟨ret_bool (by simp [knownB, h]), rfl⟩
      · have hB : ((2 : Int) == i) = false := by simp; omega
        go_wp2
        exact ⟨⟨3, rfl, by omega, by omega, by omega, by omega, by omega⟩, by simp [intOf]⟩
    · by_cases h : i = 5
      · have hB : ((5 : Int) == i) = true := by simp [h]
        go_wp2
        go_ret
        exact ⟨ret_bool (by simp [knownB, h]), rfl⟩
      · have hB : ((5 : Int) == i) = false := by simp; omega
        go_wp2
        exact ⟨⟨4, rfl, by omega, by omega, by omega, by omega, by omega⟩, by simp [intOf]⟩
    · go_wp2
      go_ret
      refine ⟨ret_bool ?_, rfl⟩
      have : ¬ (i = 0 ∨ i = 1 ∨ i = 2 ∨ i = 5) := by omega
      simp [knownB, this]

end Go.Proofs.YtipaangiehdgkaaGreatDoor
