/-
  How values are ordered: one of two that differ is less, what is less than what is less is less.
-/
import Derived.Test.YtggcjdajmbkpiaaGreatDoorTrLaw
import Derived.Test.YtggcjdajmbkpiaaGreatDoorTrIn
import Derived.Test.YtggcjdajmbkpiaaGreatDoorTySrt
import Derived.Test.YtggcjdajmbkpiaaGreatDoorTokMath
import Derived.Deep.RegionHeldLaw
import Derived.Deep.RegionLaw
import Derived.Maps.RangeWalk
import Derived.Maps.OwnOps
namespace Go.Proofs.YtggcjdajmbkpiaaGreatDoor.T9
set_option maxRecDepth 100000

theorem by_same : ∀ a : List UInt8, Op.bytesLess a a = false
  | [] => rfl
  | x :: a => by
    have h : Op.bytesLess (x :: a) (x :: a) = (decide (x < x) || (x == x && Op.bytesLess a a)) := rfl
    rw [h, by_same a]
    simp
theorem by_asym : ∀ a b : List UInt8, Op.bytesLess a b = true → Op.bytesLess b a = false
  | [], [], _ => rfl
  | [], _ :: _, _ => rfl
  | _ :: _, [], h => by cases h
  | x :: a, y :: b, h => by
    have h1 : Op.bytesLess (x :: a) (y :: b) = (decide (x < y) || (x == y && Op.bytesLess a b)) := rfl
    have h2 : Op.bytesLess (y :: b) (x :: a) = (decide (y < x) || (y == x && Op.bytesLess b a)) := rfl
    rw [h1] at h
    rw [h2]
    simp only [Bool.or_eq_true, decide_eq_true_eq, Bool.and_eq_true, beq_iff_eq] at h
    rw [Bool.or_eq_false_iff]
    simp only [decide_eq_false_iff_not, Bool.and_eq_false_iff, beq_eq_false_iff_ne, ne_eq]
    rcases h with h | ⟨rfl, h⟩
    · refine ⟨fun h3 => ?_, .inl fun e => ?_⟩
      · rw [UInt8.lt_iff_toNat_lt] at h h3; omega
      · subst e; rw [UInt8.lt_iff_toNat_lt] at h; omega
    · exact ⟨fun h3 => by rw [UInt8.lt_iff_toNat_lt] at h3; omega, .inr (by_asym a b h)⟩
theorem by_total : ∀ a b : List UInt8, Op.bytesLess a b = false → Op.bytesLess b a = false → a = b
  | [], [], _, _ => rfl
  | [], _ :: _, h, _ => by cases h
  | _ :: _, [], _, h => by cases h
  | x :: a, y :: b, h, h' => by
    have h1 : Op.bytesLess (x :: a) (y :: b) = (decide (x < y) || (x == y && Op.bytesLess a b)) := rfl
    have h2 : Op.bytesLess (y :: b) (x :: a) = (decide (y < x) || (y == x && Op.bytesLess b a)) := rfl
    rw [h1] at h
    rw [h2] at h'
    simp only [Bool.or_eq_false_iff, decide_eq_false_iff_not, Bool.and_eq_false_iff, beq_eq_false_iff_ne, ne_eq] at h h'
    have e : x = y := by
      apply UInt8.toNat_inj.1
      have h3 := h.1
      have h4 := h'.1
      rw [UInt8.lt_iff_toNat_lt] at h3 h4
      omega
    subst e
    rw [by_total a b (by simpa using h.2) (by simpa using h'.2)]
theorem by_trans : ∀ a b c : List UInt8, Op.bytesLess a b = true → Op.bytesLess b c = true → Op.bytesLess a c = true
  | [], [], _, h, _ => by cases h
  | _ :: _, [], _, h, _ => by cases h
  | _, _ :: _, [], _, h => by cases h
  | [], _ :: _, _ :: _, _, _ => rfl
  | x :: a, y :: b, z :: c, h, h' => by
    have h1 : Op.bytesLess (x :: a) (y :: b) = (decide (x < y) || (x == y && Op.bytesLess a b)) := rfl
    have h2 : Op.bytesLess (y :: b) (z :: c) = (decide (y < z) || (y == z && Op.bytesLess b c)) := rfl
    have h3 : Op.bytesLess (x :: a) (z :: c) = (decide (x < z) || (x == z && Op.bytesLess a c)) := rfl
    rw [h1] at h
    rw [h2] at h'
    rw [h3]
    simp only [Bool.or_eq_true, decide_eq_true_eq, Bool.and_eq_true, beq_iff_eq, UInt8.lt_iff_toNat_lt] at h h' ⊢
    rcases h with h | ⟨rfl, h⟩
    · rcases h' with h' | ⟨rfl, h'⟩
      · left; omega
      · left; omega
    · rcases h' with h' | ⟨rfl, h'⟩
      · left; omega
      · right; exact ⟨rfl, by_trans a b c h h'⟩
theorem lessV_asym {a b : Vl'} (h : lessV a b = true) : lessV b a = false := by
  unfold lessV at h ⊢
  by_cases e : a.n = b.n
  · rw [if_pos e] at h
    rw [if_pos e.symm]
    exact by_asym _ _ h
  · rw [if_neg e] at h
    rw [if_neg (fun h => e h.symm)]
    rw [decide_eq_true_eq] at h
    rw [decide_eq_false_iff_not]
    omega
theorem lessV_same {a b : Vl'} (hn : a.n = b.n) (hs : a.s = b.s) : lessV a b = false := by
  unfold lessV
  rw [if_pos hn, hs, by_same]
theorem lessV_total {a b : Vl'} (h : lessV a b = false) (h' : lessV b a = false) : a.n = b.n ∧ a.s = b.s := by
  unfold lessV at h h'
  by_cases e : a.n = b.n
  · rw [if_pos e] at h
    rw [if_pos e.symm] at h'
    exact ⟨e, by_total _ _ h h'⟩
  · rw [if_neg e] at h
    rw [if_neg (fun h => e h.symm)] at h'
    rw [decide_eq_false_iff_not] at h h'
    omega
theorem lessV_trans {a b c : Vl'} (h : lessV a b = true) (h' : lessV b c = true) : lessV a c = true := by
  unfold lessV at h h' ⊢
  by_cases e : a.n = b.n
  · rw [if_pos e] at h
    by_cases f : b.n = c.n
    · rw [if_pos f] at h'
      rw [if_pos (e.trans f)]
      exact by_trans _ _ _ h h'
    · rw [if_neg f, decide_eq_true_eq] at h'
      rw [if_neg (by omega), decide_eq_true_eq]
      omega
  · rw [if_neg e, decide_eq_true_eq] at h
    by_cases f : b.n = c.n
    · rw [if_neg (by omega), decide_eq_true_eq]
      omega
    · rw [if_neg f, decide_eq_true_eq] at h'
      rw [if_neg (by omega), decide_eq_true_eq]
      omega
end Go.Proofs.YtggcjdajmbkpiaaGreatDoor.T9
/-
  Messages made normal, by plain functions; what is normal is of its message, and normal again is the same.
-/
namespace Go.Proofs.YtggcjdajmbkpiaaGreatDoor.T9
set_option maxRecDepth 100000
open Go.Proofs.YtggcjdajmbkpiaaGreatDoor.T4

def defB (v : Vl') : Bool := (v.n == 0) && (v.s.isEmpty && v.M.isEmpty)
def toldB (f : Df) (l : List Vl') : Bool := match l with
  | [] => false
  | v :: _ => f.rep || (f.key != -1 || (f.one != 0 || (f.kind == 9 || !defB v)))
def ltNo (a b : So) : Bool := decide (a.no < b.no)
def bare (v : Vl') : Vl' := ⟨v.n, v.s, []⟩
def sameK (a b : Vl') : Bool := (a.n == b.n) && (a.s == b.s)
/-- The keys that there are, rising. -/
def risen (K : List Vl') : List Vl' := srt lessV (K.map bare)
/-- Of one key the last value. -/
def lastP (P : List (Vl' × Vl')) (k : Vl') : Vl' × Vl' := (P.reverse.find? fun p => sameK p.1 k).getD (⟨0, [], []⟩, ⟨0, [], []⟩)
def lastV (P : List (Vl' × Vl')) (k : Vl') : Vl' := (lastP P k).2
def norV (N : Int → Mg → Mg) (ref : Int) (v : Vl') : Vl' := ⟨v.n, v.s, v.M.map (N ref)⟩
def norS (N : Int → Mg → Mg) (f : Df) (a : So) : So :=
  if f.key = -1 then ⟨a.no, [], a.V.map (norV N f.ref)⟩ else ⟨a.no, risen a.K, (risen a.K).map fun k => norV N f.ref (lastV (a.K.zip a.V) k)⟩
def norO (fd : Int → Option Df) (N : Int → Mg → Mg) (a : So) : Option So := (fd a.no).bind fun f => if toldB f a.V then some (norS N f a) else none
def norF (fd : Int → Option Df) (N : Int → Mg → Mg) (F : List So) : List So := srt ltNo (F.filterMap (norO fd N))
def norG (s : Sc) (N : Int → Mg → Mg) (m : Int) (x : Mg) : Mg := .mk (norF (byS s m) N x.F)
/-- A message made normal, within so many levels. -/
def norB (s : Sc) : Nat → Int → Mg → Mg
  | 0 => fun _ _ => .mk []
  | d + 1 => norG s (norB s d)

/-! ### The orders -/
theorem no_irr (a : So) : ltNo a a = false := by simp [ltNo]
theorem no_tr (a b c : So) (h : ltNo a b = true) (h' : ltNo b c = true) : ltNo a c = true := by
  unfold ltNo at *
  simp only [decide_eq_true_eq] at *
  omega
theorem lv_irr (a : Vl') : lessV a a = false := lessV_same rfl rfl
theorem lv_tr (a b c : Vl') (h : lessV a b = true) (h' : lessV b c = true) : lessV a c = true := lessV_trans h h'
theorem same_iff {a b : Vl'} : sameK a b = true ↔ a.n = b.n ∧ a.s = b.s := by simp [sameK]
theorem bare_same {a b : Vl'} : bare a = bare b ↔ sameK a b = true := by
  rw [same_iff]
  unfold bare
  simp
theorem lv_tot (K : List Vl') : ∀ a ∈ K.map bare, ∀ b ∈ K.map bare, lessV a b = false → lessV b a = false → a = b := by
  intro a ha b hb h h'
  obtain ⟨x, _, rfl⟩ := List.mem_map.1 ha
  obtain ⟨y, _, rfl⟩ := List.mem_map.1 hb
  obtain ⟨h1, h2⟩ := lessV_total h h'
  exact bare_same.2 (same_iff.2 ⟨h1, h2⟩)
theorem mem_risen {K : List Vl'} {k : Vl'} : k ∈ risen K ↔ ∃ x ∈ K, bare x = k := by
  unfold risen
  rw [mem_srt (lv_tot K), List.mem_map]
theorem rise_risen (K : List Vl') : Rise lessV (risen K) := rise_srt lv_tr _
theorem bare_risen {K : List Vl'} {k : Vl'} (h : k ∈ risen K) : bare k = k := by
  obtain ⟨x, _, rfl⟩ := mem_risen.1 h
  rfl
theorem map_bare_risen (K : List Vl') : (risen K).map bare = risen K := by
  conv => rhs; rw [← List.map_id (risen K)]
  exact List.map_congr_left fun k hk => bare_risen hk
theorem risen_risen (K : List Vl') : risen (risen K) = risen K := by
  show srt lessV ((risen K).map bare) = _
  rw [map_bare_risen, srt_rise lv_irr lv_tr (rise_risen K)]
theorem no_tot {l : List So} (h : l.Pairwise fun a b => a.no ≠ b.no) : ∀ a ∈ l, ∀ b ∈ l, ltNo a b = false → ltNo b a = false → a = b := by
  intro a ha b hb h1 h2
  unfold ltNo at h1 h2
  rw [decide_eq_false_iff_not] at h1 h2
  have e : a.no = b.no := by omega
  obtain ⟨i, hi, rfl⟩ := List.mem_iff_getElem.1 ha
  obtain ⟨j, hj, rfl⟩ := List.mem_iff_getElem.1 hb
  rw [List.pairwise_iff_getElem] at h
  rcases Nat.lt_trichotomy i j with hij | hij | hij
  · exact absurd e (h i j hi hj hij)
  · subst hij; rfl
  · exact absurd e.symm (h j i hj hi hij)

/-! ### What slots claim -/
def clsOf (fd : Int → Option Df) (a : So) : List (Int × Int) := match fd a.no with | none => [] | some f => claimsOf f
def Dj (fd : Int → Option Df) (a b : So) : Prop := ∀ c ∈ clsOf fd a, c ∉ clsOf fd b
theorem Dj.symm {fd : Int → Option Df} {a b : So} (h : Dj fd a b) : Dj fd b a := fun c hc hc' => h c hc' hc
theorem claim_iff {cl : List (Int × Int)} {f : Df} : claimB cl f = true ↔ ∀ c ∈ claimsOf f, c ∉ cl := by
  unfold claimB claimsOf
  by_cases h : f.one = 0
  · rw [if_pos h]; simp [h]
  · rw [if_neg h]
    have h2 : (0, f.one) ≠ (f.no, (0 : Int)) := fun e => h (congrArg Prod.snd e)
    simp [h, h2, and_comm]
theorem slots_iff {fd : Int → Option Df} {fill : Df → So → Bool} {cl : List (Int × Int)} {l : List So} :
    slotsG fd fill cl l = true ↔ (∀ a ∈ l, ∃ f, fd a.no = some f ∧ fill f a = true) ∧ (∀ a ∈ l, ∀ c ∈ clsOf fd a, c ∉ cl) ∧ l.Pairwise (Dj fd) := by
  induction l generalizing cl with
  | nil => simp [slotsG]
  | cons a l ih =>
    rw [slotsG_cons]
    cases h : fd a.no with
    | none => simp [h]
    | some f =>
      have hc : clsOf fd a = claimsOf f := by unfold clsOf; rw [h]
      simp only [Bool.and_eq_true, ih, claim_iff, List.pairwise_cons, List.mem_cons, forall_eq_or_imp, hc]
      constructor
      · rintro ⟨h1, h2, h3, h4, h5⟩
        refine ⟨⟨⟨f, h, h2⟩, h3⟩, ⟨h1, fun b hb c hcb hcl => h4 b hb c hcb (List.mem_append.2 (.inr hcl))⟩, fun b hb c hca hcb => ?_, h5⟩
        rw [hc] at hca
        exact h4 b hb c hcb (List.mem_append.2 (.inl hca))
      · rintro ⟨⟨⟨g, hg, h2⟩, h3⟩, ⟨h1, h4⟩, h5, h6⟩
        rw [h] at hg
        obtain rfl := Option.some.inj hg
        refine ⟨h1, h2, h3, fun b hb c hcb hm => ?_, h6⟩
        rcases List.mem_append.1 hm with hm | hm
        · exact h5 b hb c (by rw [hc]; exact hm) hcb
        · exact h4 b hb c hcb hm
theorem dj_no {fd : Int → Option Df} {a b : So} {f : Df} (h : Dj fd a b) (ha : fd a.no = some f) : a.no ≠ b.no := by
  intro e
  have h1 : clsOf fd a = claimsOf f := by unfold clsOf; rw [ha]
  have h2 : clsOf fd b = claimsOf f := by unfold clsOf; rw [← e, ha]
  have h3 : (f.no, (0 : Int)) ∈ claimsOf f := by unfold claimsOf; split <;> simp
  exact h _ (by rw [h1]; exact h3) (by rw [h2]; exact h3)
theorem dj_cong {fd : Int → Option Df} {a b a' b' : So} (h : Dj fd a b) (ha : a'.no = a.no) (hb : b'.no = b.no) : Dj fd a' b' := by
  unfold Dj clsOf at *
  rw [ha, hb]
  exact h
theorem slots_no {fd : Int → Option Df} {fill : Df → So → Bool} {l : List So} (h : slotsG fd fill [] l = true) : l.Pairwise fun a b => a.no ≠ b.no := by
  obtain ⟨h1, -, h3⟩ := slots_iff.1 h
  refine List.Pairwise.imp_of_mem (fun {a b} ha hb hab => ?_) h3
  obtain ⟨f, hf, _⟩ := h1 a ha
  exact dj_no hab hf
theorem slots_sub {fd : Int → Option Df} {fill : Df → So → Bool} {l l' : List So} (h : slotsG fd fill [] l = true) (hs : l'.Sublist l) : slotsG fd fill [] l' = true := by
  obtain ⟨h1, -, h3⟩ := slots_iff.1 h
  exact slots_iff.2 ⟨fun a ha => h1 a (hs.subset ha), fun _ _ _ _ => by simp, h3.sublist hs⟩
theorem slots_perm {fd : Int → Option Df} {fill : Df → So → Bool} {l l' : List So} (h : slotsG fd fill [] l = true) (hs : l'.Perm l) : slotsG fd fill [] l' = true := by
  obtain ⟨h1, -, h3⟩ := slots_iff.1 h
  exact slots_iff.2 ⟨fun a ha => h1 a (hs.mem_iff.1 ha), fun _ _ _ _ => by simp, (hs.pairwise_iff fun {a b} hab => Dj.symm hab).2 h3⟩

/-! ### What is told -/
theorem norS_no {N : Int → Mg → Mg} {f : Df} {a : So} : (norS N f a).no = a.no := by unfold norS; split <;> rfl
theorem norO_some {fd : Int → Option Df} {N : Int → Mg → Mg} {a b : So} (h : norO fd N a = some b) : ∃ f, fd a.no = some f ∧ toldB f a.V = true ∧ b = norS N f a := by
  unfold norO at h
  cases hf : fd a.no with
  | none => rw [hf] at h; cases h
  | some f =>
    rw [hf, Option.bind_some] at h
    split at h
    · rename_i ht
      exact ⟨f, rfl, ht, (Option.some.inj h).symm⟩
    · cases h
theorem norO_no {fd : Int → Option Df} {N : Int → Mg → Mg} {a b : So} (h : norO fd N a = some b) : b.no = a.no := by
  obtain ⟨f, _, _, rfl⟩ := norO_some h
  exact norS_no
theorem told_no {fd : Int → Option Df} {N : Int → Mg → Mg} {l : List So} (h : l.Pairwise fun a b => a.no ≠ b.no) : (l.filterMap (norO fd N)).Pairwise fun a b => a.no ≠ b.no := by
  rw [List.pairwise_filterMap]
  refine h.imp fun {a b} hab c hc d hd => ?_
  rw [norO_no hc, norO_no hd]
  exact hab
theorem mem_norF {fd : Int → Option Df} {N : Int → Mg → Mg} {l : List So} (h : l.Pairwise fun a b => a.no ≠ b.no) {b : So} : b ∈ norF fd N l ↔ ∃ a ∈ l, norO fd N a = some b := by
  unfold norF
  rw [mem_srt (no_tot (told_no h)), List.mem_filterMap]
theorem rise_norF (fd : Int → Option Df) (N : Int → Mg → Mg) (l : List So) : Rise ltNo (norF fd N l) := rise_srt no_tr _
theorem norF_perm {fd : Int → Option Df} {N : Int → Mg → Mg} {l l' : List So} (h : l.Pairwise fun a b => a.no ≠ b.no) (hp : l'.Perm l) : norF fd N l' = norF fd N l :=
  srt_same no_irr no_tr (no_tot (told_no h)) fun _ => (hp.filterMap _).mem_iff

/-! ### What is normal is of its message -/
structure Good (G : Int → Mg → Bool) (N : Int → Mg → Mg) : Prop where
  is : ∀ r x, G r x = true → G r (N r x) = true
  same : ∀ r x, G r x = true → N r (N r x) = N r x
  deep : ∀ r x, G r x = true → (N r x).deep ≤ x.deep
  size : ∀ r x, G r x = true → (N r x).size ≤ x.size
  cnt : ∀ r x, G r x = true → (N r x).cnt ≤ x.cnt
  in_ : ∀ r x, G r x = true → MIn x → MIn (N r x)
structure GoodV (G : Int → Mg → Bool) (N : Int → Mg → Mg) (kind ref : Int) (v : Vl') : Prop where
  is : askG G kind ref (norV N ref v) = true
  same : norV N ref (norV N ref v) = norV N ref v
  def_ : kind ≠ 9 → defB (norV N ref v) = defB v
  deep : dV (norV N ref v) ≤ dV v
  size : zV (norV N ref v) ≤ zV v
  cnt : cV (norV N ref v) ≤ cV v
  in_ : VIn v → VIn (norV N ref v)
theorem ask_nine {G : Int → Mg → Bool} {ref : Int} {v : Vl'} (h : askG G 9 ref v = true) : v.n = 0 ∧ v.s = [] ∧ ∃ x, v.M = [x] ∧ G ref x = true := by
  unfold askG at h
  rw [if_neg (by omega), if_neg (by omega), if_pos rfl] at h
  simp only [Bool.and_eq_true, beq_iff_eq, List.isEmpty_iff] at h
  obtain ⟨h1, h2, h3⟩ := h
  refine ⟨h1, h2, ?_⟩
  obtain ⟨n, s, M⟩ := v
  match M, h3 with
  | [x], h3 => exact ⟨x, rfl, h3⟩
theorem good_val {G : Int → Mg → Bool} {N : Int → Mg → Mg} (g : Good G N) {kind ref : Int} {v : Vl'} (h : askG G kind ref v = true) : GoodV G N kind ref v := by
  by_cases h9 : kind = 9
  · subst h9
    obtain ⟨n, s, M⟩ := v
    obtain ⟨h1, h2, x, h3, hx⟩ := ask_nine h
    simp only at h1 h2 h3
    subst h1 h2 h3
    have hd := g.deep _ _ hx
    have hz := g.size _ _ hx
    have hc := g.cnt _ _ hx
    constructor
    · unfold askG norV
      simp [oneB, g.is _ _ hx]
    · simp [norV, g.same _ _ hx]
    · intro h; exact absurd rfl h
    · simp only [dV, norV, List.map_cons, List.map_nil, mx]; omega
    · simp only [zV, norV, List.map_cons, List.map_nil, sm]; omega
    · simp only [cV, norV, List.map_cons, List.map_nil, sm]; omega
    · rintro ⟨hv, hm⟩
      refine ⟨hv, fun y hy => ?_⟩
      simp only [norV, List.map_cons, List.map_nil, List.mem_singleton] at hy
      subst hy
      exact g.in_ _ _ hx (hm x (by simp))
  · have hM := ask_of h h9
    have e : norV N ref v = v := by
      obtain ⟨n, s, M⟩ := v
      simp only at hM
      subst hM
      rfl
    constructor <;> rw [e]
    · exact h
    · exact e
    · exact fun _ => rfl
    · exact Nat.le_refl _
    · exact Nat.le_refl _
    · exact Nat.le_refl _
    · exact id
theorem ask_bare {G : Int → Mg → Bool} {kind ref : Int} {v : Vl'} (h : askG G kind ref v = true) (h9 : kind ≠ 9) : bare v = v := by
  have hM := ask_of h h9
  obtain ⟨n, s, M⟩ := v
  simp only at hM
  subst hM
  rfl

/-! ### The last value of a key -/
theorem last_in {K V : List Vl'} (hl : K.length = V.length) {k x : Vl'} (hx : x ∈ K) (hk : sameK x k = true) : lastP (K.zip V) k ∈ K.zip V ∧ sameK (lastP (K.zip V) k).1 k = true := by
  unfold lastP
  obtain ⟨i, hi, rfl⟩ := List.mem_iff_getElem.1 hx
  have hz : (K[i], V[i]) ∈ K.zip V := by
    rw [List.mem_iff_getElem]
    exact ⟨i, by rw [List.length_zip]; omega, List.getElem_zip⟩
  cases h : (K.zip V).reverse.find? fun p => sameK p.1 k with
  | none =>
    rw [List.find?_eq_none] at h
    exact absurd hk (h _ (List.mem_reverse.2 hz))
  | some p =>
    have h1 := List.find?_some h
    have h2 := List.mem_of_find?_eq_some h
    exact ⟨List.mem_reverse.1 h2, h1⟩
theorem last_risen {K V : List Vl'} (hl : K.length = V.length) {k : Vl'} (hk : k ∈ risen K) : lastP (K.zip V) k ∈ K.zip V ∧ sameK (lastP (K.zip V) k).1 k = true := by
  obtain ⟨x, hx, rfl⟩ := mem_risen.1 hk
  exact last_in hl hx (by rw [same_iff]; exact ⟨rfl, rfl⟩)
theorem last_V {K V : List Vl'} (hl : K.length = V.length) {k : Vl'} (hk : k ∈ risen K) : lastV (K.zip V) k ∈ V := (List.of_mem_zip (last_risen hl hk).1).2
theorem last_apart {K V : List Vl'} (hl : K.length = V.length) : (risen K).Pairwise fun a b => lastP (K.zip V) a ≠ lastP (K.zip V) b := by
  refine List.Pairwise.imp_of_mem (fun {a b} ha hb hab => ?_) (rise_risen K)
  intro e
  have h1 := (last_risen hl ha).2
  have h2 := (last_risen hl hb).2
  rw [e] at h1
  rw [same_iff] at h1 h2
  rw [lessV_same (h1.1.symm.trans h2.1) (h1.2.symm.trans h2.2)] at hab
  cases hab
theorem last_self {l : List Vl'} (h : ∀ k ∈ l, bare k = k) (g : Vl' → Vl') {k : Vl'} (hk : k ∈ l) : lastV (l.zip (l.map g)) k = g k := by
  have hl : l.length = (l.map g).length := by simp
  obtain ⟨h1, h2⟩ := last_in hl hk (show sameK k k = true by rw [same_iff]; exact ⟨rfl, rfl⟩)
  have e : ∀ p ∈ l.zip (l.map g), p.2 = g p.1 := by
    intro p hp
    obtain ⟨i, hi, rfl⟩ := List.mem_iff_getElem.1 hp
    rw [List.getElem_zip]
    simp
  unfold lastV
  rw [e _ h1]
  have h4 := h k hk
  have h5 := bare_same.2 h2
  obtain ⟨q, hq⟩ : ∃ q, lastP (l.zip (l.map g)) k = q := ⟨_, rfl⟩
  rw [hq] at h1 h5 ⊢
  have h3 := h _ (List.of_mem_zip (show (q.1, q.2) ∈ _ from h1)).1
  rw [← h3, h5, h4]
theorem sm_inj {α β : Type} (g : α → Nat) (h : β → Nat) (r : α → β) : ∀ (l : List α) (m : List β), (∀ a ∈ l, r a ∈ m ∧ g a ≤ h (r a)) → l.Pairwise (fun a b => r a ≠ r b) → sm (l.map g) ≤ sm (m.map h)
  | [], _, _, _ => Nat.zero_le _
  | a :: l, m, h1, h2 => by
    obtain ⟨p1, p2⟩ := List.pairwise_cons.1 h2
    obtain ⟨hm, hg⟩ := h1 a (by simp)
    obtain ⟨m1, m2, rfl⟩ := List.append_of_mem hm
    have ih := sm_inj g h r l (m1 ++ m2) (fun b hb => ⟨by
      have h3 := (h1 b (by simp [hb])).1
      have h4 := p1 b hb
      rcases List.mem_append.1 h3 with h3 | h3
      · exact List.mem_append.2 (.inl h3)
      · rcases List.mem_cons.1 h3 with h3 | h3
        · exact absurd h3.symm h4
        · exact List.mem_append.2 (.inr h3), (h1 b (by simp [hb])).2⟩) p2
    rw [List.map_append, sm_append] at ih ⊢
    simp only [List.map_cons, sm]
    omega
theorem sm_zip {α β : Type} (f : α → Nat) (g : β → Nat) : ∀ (K : List α) (V : List β), K.length = V.length → sm ((K.zip V).map fun p => f p.1 + g p.2) = sm (K.map f) + sm (V.map g)
  | [], [], _ => rfl
  | k :: K, v :: V, h => by
    have := sm_zip f g K V (by simpa using h)
    simp only [List.zip_cons_cons, List.map_cons, sm, this]
    omega
theorem meas_map {N : Int → Mg → Mg} {ref : Int} {K V : List Vl'} (hl : K.length = V.length) (μ : Vl' → Nat) (hb : ∀ v, μ (bare v) ≤ μ v) (hn : ∀ v ∈ V, μ (norV N ref v) ≤ μ v) :
    sm ((risen K).map μ) + sm (((risen K).map fun k => norV N ref (lastV (K.zip V) k)).map μ) ≤ sm (K.map μ) + sm (V.map μ) := by
  rw [List.map_map, ← sm_add, ← sm_zip μ μ K V hl]
  refine sm_inj _ _ (lastP (K.zip V)) _ _ (fun k hk => ?_) (last_apart hl)
  obtain ⟨h1, h2⟩ := last_risen hl hk
  refine ⟨h1, ?_⟩
  have h3 := hn _ (last_V hl hk)
  have h4 := hb (lastP (K.zip V) k).1
  rw [show bare (lastP (K.zip V) k).1 = k from (bare_same.2 (by rw [same_iff] at h2 ⊢; exact h2)).trans (bare_risen hk)] at h4
  show μ k + μ (norV N ref (lastP (K.zip V) k).2) ≤ _
  unfold lastV at h3
  omega

/-! ### A slot -/
structure GoodS (G : Int → Mg → Bool) (N : Int → Mg → Mg) (f : Df) (a : So) : Prop where
  is : fillG G f (norS N f a) = true
  same : norS N f (norS N f a) = norS N f a
  told : toldB f a.V = true → toldB f (norS N f a).V = true
  deep : dS (norS N f a) ≤ dS a
  size : zS (norS N f a) ≤ zS a
  cnt : cS (norS N f a) ≤ cS a
  in_ : SIn a → SIn (norS N f a)
  rise : Rise lessV (norS N f a).K
theorem told_ne {f : Df} {l : List Vl'} (h : toldB f l = true) : l ≠ [] := by
  rintro rfl
  cases h
theorem good_slot {G : Int → Mg → Bool} {N : Int → Mg → Mg} (g : Good G N) {f : Df} {a : So} (hk9 : f.key ≠ 9) (h : fillG G f a = true) : GoodS G N f a := by
  unfold fillG at h
  simp only [Bool.and_eq_true, List.all_eq_true] at h
  obtain ⟨h1, h2, h3⟩ := h
  have gv : ∀ v ∈ a.V, GoodV G N f.kind f.ref v := fun v hv => good_val g (h3 v hv)
  obtain ⟨no, K, V⟩ := a
  simp only at h1 h2 h3 gv
  unfold manyB at h1
  by_cases hk : f.key = -1
  · rw [if_pos hk] at h1
    simp only [Bool.and_eq_true, beq_iff_eq] at h1
    obtain ⟨hK, hV⟩ := h1
    obtain rfl := List.eq_nil_of_length_eq_zero hK
    have e : norS N f ⟨no, [], V⟩ = ⟨no, [], V.map (norV N f.ref)⟩ := by unfold norS; rw [if_pos hk]
    constructor <;> rw [e]
    · unfold fillG manyB
      rw [if_pos hk]
      simp only [Bool.and_eq_true, List.all_eq_true, List.length_map, List.length_nil]
      refine ⟨⟨rfl, hV⟩, ⟨(fun x hx => absurd hx (by simp)), fun x hx => ?_⟩⟩
      obtain ⟨v, hv, rfl⟩ := List.mem_map.1 hx
      exact (gv v hv).is
    · unfold norS
      rw [if_pos hk]
      simp only [List.map_map, SL.mk.injEq, true_and]
      exact List.map_congr_left fun v hv => (gv v hv).same
    · intro ht
      match V, ht, gv with
      | v :: V, ht, gv =>
        unfold toldB at ht ⊢
        simp only [List.map_cons]
        by_cases h9 : f.kind = 9
        · simp [h9]
        · rw [(gv v (by simp)).def_ h9]; exact ht
    · unfold dS
      refine Nat.max_le.2 ⟨by simp [mx], mx_le fun x hx => ?_⟩
      rw [List.map_map] at hx
      obtain ⟨v, hv, rfl⟩ := List.mem_map.1 hx
      exact Nat.le_trans (gv v hv).deep (Nat.le_trans (mem_le_mx hv) (Nat.le_max_right _ _))
    · unfold zS
      simp only [List.map_map]
      exact Nat.add_le_add_left (sm_mono fun v hv => (gv v hv).size) _
    · unfold cS
      simp only [List.map_map]
      exact Nat.add_le_add_left (Nat.add_le_add_left (sm_mono fun v hv => (gv v hv).cnt) _) _
    · rintro ⟨hn, hv⟩
      refine ⟨hn, fun v h => ?_⟩
      rcases h with h | h
      · cases h
      · obtain ⟨v, hv', rfl⟩ := List.mem_map.1 h
        exact (gv v hv').in_ (hv v (.inr hv'))
    · exact List.Pairwise.nil
  · rw [if_neg hk] at h1
    have hl : K.length = V.length := by simpa using h1
    obtain ⟨H, hH⟩ : ∃ H : Vl' → Vl', H = fun k => norV N f.ref (lastV (K.zip V) k) := ⟨_, rfl⟩
    have e : norS N f ⟨no, K, V⟩ = ⟨no, risen K, (risen K).map H⟩ := by unfold norS; rw [if_neg hk, hH]
    have gH : ∀ k ∈ risen K, ∃ v ∈ V, H k = norV N f.ref v := fun k hk => ⟨_, last_V hl hk, by rw [hH]⟩
    have hme : ∀ μ : Vl' → Nat, (∀ v, μ (bare v) ≤ μ v) → (∀ v ∈ V, μ (norV N f.ref v) ≤ μ v) → sm ((risen K).map μ) + sm (((risen K).map H).map μ) ≤ sm (K.map μ) + sm (V.map μ) := fun μ h4 h5 => by rw [hH]; exact meas_map hl μ h4 h5
    constructor <;> rw [e]
    · unfold fillG manyB
      rw [if_neg hk]
      simp only [Bool.and_eq_true, List.all_eq_true, List.length_map, beq_self_eq_true, true_and]
      refine ⟨fun k hk' => ?_, fun x hx => ?_⟩
      · obtain ⟨x, hx, rfl⟩ := mem_risen.1 hk'
        rw [ask_bare (h2 x hx) hk9]
        exact h2 x hx
      · obtain ⟨k, hk', rfl⟩ := List.mem_map.1 hx
        obtain ⟨v, hv, e2⟩ := gH k hk'
        rw [e2]
        exact (gv v hv).is
    · unfold norS
      rw [if_neg hk]
      simp only [risen_risen, SL.mk.injEq, true_and]
      refine List.map_congr_left fun k hk' => ?_
      rw [last_self (fun k hk => bare_risen hk) H hk']
      obtain ⟨v, hv, e2⟩ := gH k hk'
      rw [e2]
      exact (gv v hv).same
    · intro ht
      have hne := told_ne ht
      have hK : K ≠ [] := by
        rintro rfl
        exact hne (List.eq_nil_of_length_eq_zero hl.symm)
      have hr : risen K ≠ [] := by
        intro e2
        obtain ⟨x, hx⟩ := List.exists_mem_of_ne_nil K hK
        have := mem_risen.2 ⟨x, hx, rfl⟩
        rw [e2] at this
        cases this
      show toldB f ((risen K).map H) = true
      match hr2 : risen K, hr with
      | k :: l, _ =>
        unfold toldB
        simp [hk]
    · unfold dS
      refine Nat.max_le.2 ⟨mx_le fun x hx => ?_, mx_le fun x hx => ?_⟩
      · obtain ⟨k, hk', rfl⟩ := List.mem_map.1 hx
        rw [← bare_risen hk']
        simp [dV, bare, mx]
      · obtain ⟨y, hy, rfl⟩ := List.mem_map.1 hx
        obtain ⟨k, hk', rfl⟩ := List.mem_map.1 hy
        obtain ⟨v, hv, e2⟩ := gH k hk'
        rw [e2]
        exact Nat.le_trans (gv v hv).deep (Nat.le_trans (mem_le_mx hv) (Nat.le_max_right _ _))
    · exact hme zV (fun v => by simp [zV, bare, sm]) fun v hv => (gv v hv).size
    · have := hme cV (fun v => by simp [cV, bare, sm]) fun v hv => (gv v hv).cnt
      unfold cS
      simp only at this ⊢
      omega
    · rintro ⟨hn, hv⟩
      refine ⟨hn, fun v h => ?_⟩
      rcases h with h | h
      · obtain ⟨x, hx, rfl⟩ := mem_risen.1 h
        exact ⟨(hv x (.inl hx)).1, fun y hy => by cases hy⟩
      · obtain ⟨k, hk', rfl⟩ := List.mem_map.1 h
        obtain ⟨v, hv', e2⟩ := gH k hk'
        rw [e2]
        exact (gv v hv').in_ (hv v (.inr hv'))
    · exact rise_risen K

/-! ### A message -/
theorem pair_dj {fd : Int → Option Df} {l : List So} (h : l.Pairwise (Dj fd)) {a b : So} (ha : a ∈ l) (hb : b ∈ l) (hne : a.no ≠ b.no) : Dj fd a b := by
  obtain ⟨i, hi, rfl⟩ := List.mem_iff_getElem.1 ha
  obtain ⟨j, hj, rfl⟩ := List.mem_iff_getElem.1 hb
  rw [List.pairwise_iff_getElem] at h
  rcases Nat.lt_trichotomy i j with hij | hij | hij
  · exact h i j hi hj hij
  · subst hij; exact absurd rfl hne
  · exact (h j i hj hi hij).symm
theorem find_no {l : List So} (h : l.Pairwise fun a b => a.no ≠ b.no) {a : So} (ha : a ∈ l) : l.find? (fun s => s.no == a.no) = some a := by
  cases h1 : l.find? fun s => s.no == a.no with
  | none =>
    rw [List.find?_eq_none] at h1
    exact absurd (by simp) (h1 a ha)
  | some b =>
    have h2 := List.find?_some h1
    have h3 := List.mem_of_find?_eq_some h1
    have e : b.no = a.no := by simpa using h2
    rw [no_tot h b h3 a ha (by simp [ltNo, e]) (by simp [ltNo, e])]
theorem filterMap_self {α : Type} {g : α → Option α} : ∀ {l : List α}, (∀ b ∈ l, g b = some b) → l.filterMap g = l
  | [], _ => rfl
  | a :: l, h => by rw [List.filterMap_cons_some (h a (by simp)), filterMap_self fun b hb => h b (by simp [hb])]
/-- No key of a map is a message. -/
def KeysOk (s : Sc) : Prop := ∀ m no f, byS s m no = some f → f.key ≠ 9
theorem may_keys {s : Sc} (h : ScMay s) : KeysOk s := by
  intro m no f hf
  unfold byS msgAt at hf
  split at hf
  · simp at hf
  · cases hm : s.M[m.toNat]? with
    | none => rw [hm] at hf; simp at hf
    | some d =>
      rw [hm] at hf
      simp only [Option.bind_some] at hf
      rcases ((h.M d (List.mem_of_getElem? hm)).each f (List.mem_of_find?_eq_some hf)).key with h1 | ⟨h1, -⟩
      · omega
      · intro e
        rw [e] at h1
        exact absurd h1 (by decide)
theorem good_step {s : Sc} (hk : KeysOk s) {G : Int → Mg → Bool} {N : Int → Mg → Mg} (g : Good G N) : Good (isG s G) (norG s N) := by
  have main : ∀ m x, isG s G m x = true → (decide (0 ≤ m ∧ m < s.M.length) = true) ∧ (∀ a ∈ x.F, ∃ f, byS s m a.no = some f ∧ GoodS G N f a) ∧ x.F.Pairwise (Dj (byS s m)) ∧ (x.F.Pairwise fun a b => a.no ≠ b.no) := by
    intro m x h
    unfold isG at h
    rw [Bool.and_eq_true] at h
    obtain ⟨h0, h⟩ := h
    have hno := slots_no h
    obtain ⟨h1, -, h3⟩ := slots_iff.1 h
    refine ⟨h0, fun a ha => ?_, h3, hno⟩
    obtain ⟨f, hf, hfl⟩ := h1 a ha
    exact ⟨f, hf, good_slot g (hk m a.no f hf) hfl⟩
  have slot : ∀ m x, isG s G m x = true → ∀ b ∈ (norG s N m x).F, ∃ a ∈ x.F, ∃ f, byS s m a.no = some f ∧ GoodS G N f a ∧ toldB f a.V = true ∧ b = norS N f a := by
    intro m x h b hb
    obtain ⟨-, h1, -, hno⟩ := main m x h
    obtain ⟨a, ha, e⟩ := (mem_norF hno).1 hb
    obtain ⟨f, hf, ht, rfl⟩ := norO_some e
    obtain ⟨f', hf', gs⟩ := h1 a ha
    rw [hf] at hf'
    obtain rfl := Option.some.inj hf'
    exact ⟨a, ha, f, hf, gs, ht, rfl⟩
  have sums : ∀ (μ : So → Nat), ∀ m x, isG s G m x = true → (∀ a ∈ x.F, ∀ f, GoodS G N f a → μ (norS N f a) ≤ μ a) → sm ((norG s N m x).F.map μ) ≤ sm (x.F.map μ) := by
    intro μ m x h hμ
    obtain ⟨-, h1, -, hno⟩ := main m x h
    refine sm_inj _ _ (fun b => (x.F.find? fun s => s.no == b.no).getD b) _ _ (fun b hb => ?_) ?_
    · obtain ⟨a, ha, f, hf, gs, ht, rfl⟩ := slot m x h b hb
      simp only [norS_no, find_no hno ha, Option.getD_some]
      exact ⟨ha, hμ a ha f gs⟩
    · refine List.Pairwise.imp_of_mem (fun {b c} hb hc hbc => ?_) (rise_norF (byS s m) N x.F)
      obtain ⟨a, ha, f, hf, gs, ht, rfl⟩ := slot m x h b hb
      obtain ⟨a', ha', f', hf', gs', ht', rfl⟩ := slot m x h c hc
      simp only [norS_no, find_no hno ha, find_no hno ha', Option.getD_some]
      intro e
      subst e
      simp [ltNo, norS_no] at hbc
  constructor
  · intro m x h
    obtain ⟨h0, h1, h3, hno⟩ := main m x h
    unfold isG
    rw [h0, Bool.true_and]
    refine slots_iff.2 ⟨fun b hb => ?_, fun _ _ _ _ => by simp, ?_⟩
    · obtain ⟨a, ha, f, hf, gs, ht, rfl⟩ := slot m x h b hb
      exact ⟨f, by rw [norS_no]; exact hf, gs.is⟩
    · refine List.Pairwise.imp_of_mem (fun {b c} hb hc hbc => ?_) (rise_norF (byS s m) N x.F)
      obtain ⟨a, ha, f, hf, gs, ht, rfl⟩ := slot m x h b hb
      obtain ⟨a', ha', f', hf', gs', ht', rfl⟩ := slot m x h c hc
      refine dj_cong (pair_dj h3 ha ha' fun e => ?_) norS_no norS_no
      simp [ltNo, norS_no, e] at hbc
  · intro m x h
    refine Mg.ext ?_
    show srt ltNo ((norG s N m x).F.filterMap (norO (byS s m) N)) = (norG s N m x).F
    rw [filterMap_self]
    · exact srt_rise no_irr no_tr (rise_norF (byS s m) N x.F)
    · intro b hb
      obtain ⟨a, ha, f, hf, gs, ht, rfl⟩ := slot m x h b hb
      unfold norO
      rw [norS_no, hf, Option.bind_some, if_pos (gs.told ht), gs.same]
  · intro m x h
    rw [Mg.deep_eq, Mg.deep_eq]
    refine Nat.add_le_add_left (mx_le fun y hy => ?_) 1
    obtain ⟨b, hb, rfl⟩ := List.mem_map.1 hy
    obtain ⟨a, ha, f, hf, gs, ht, rfl⟩ := slot m x h b hb
    exact Nat.le_trans gs.deep (mem_le_mx ha)
  · intro m x h
    rw [Mg.size_eq, Mg.size_eq]
    exact sums zS m x h fun a _ f gs => gs.size
  · intro m x h
    rw [Mg.cnt_eq, Mg.cnt_eq]
    exact sums cS m x h fun a _ f gs => gs.cnt
  · intro m x h hi
    refine MIn.of fun b hb => ?_
    obtain ⟨a, ha, f, hf, gs, ht, rfl⟩ := slot m x h b hb
    exact gs.in_ (hi.slot ha)
theorem norB_good {s : Sc} (hk : KeysOk s) : ∀ d, Good (isB s d) (norB s d)
  | 0 => by constructor <;> (intro r x h; cases h)
  | d + 1 => good_step hk (norB_good hk d)
end Go.Proofs.YtggcjdajmbkpiaaGreatDoor.T9
/-
  A value, made normal: the contract of normalVal, as normal is told of the messages in it.
-/
namespace Go.Proofs.YtggcjdajmbkpiaaGreatDoor.T9
set_option maxRecDepth 100000
open Go.Proofs.YtggcjdajmbkpiaaGreatDoor.T4
open Go.RowKit Go.Maps

theorem box_new {w w' : World} {g : Nat} {t : TypeId} {cs : Array Value} {fr : Nat × Nat} {v : Value} (X : w.heap[g]? = some (.cells cs t fr)) (hg : w.grownBy w' v.ownBlock) (hlt : ∀ k, v.ownBlock = some k → k < g) : w'.heap[g]? = some (.cells cs t fr) :=
  (hg.block g (box_lt X) fun e => by have := hlt g e.symm; omega).trans X
theorem box_set {w : World} {q g j : Nat} {o : Obj} (X : w.heap[q]? = some o) (hne : q ≠ g) (x : Value) : (w.setCell ⟨g, j, none⟩ x).heap[q]? = some o := (heap_setCell_other _ ⟨g, j, none⟩ q _ hne).trans X
/-- normal, of messages within so many levels, of which G is told; N is what it makes of them. -/
def NormH (s : Sc) (B D : Nat) (G : Int → Mg → Bool) (N : Int → Mg → Mg) : Prop := ∀ (vM vE : Value) (m : Int) (x : Mg) (u : Value) (w : World), B ≤ w.heap.size → SAt B w s vM vE → MRd B w D x u → MIn x → x.cnt ≤ 100000 → G m x = true → ∀ b, b ≤ w.heap.size →
  Calls Tryz.prog 48 #[.agg #[vM, vE], .int .i64 m, .agg #[u]] w fun e w' => ∃ x1, e = .returned (.agg #[x1]) ∧ MAt (Ow b w') D (N m x) [x1] ∧ Below w.heap.size w w'
theorem map_take_snoc {α β : Type} {l : List α} {k : Nat} {a : α} (f : α → β) (h : l[k]? = some a) : (l.take k).map f ++ [f a] = (l.take (k + 1)).map f := by rw [List.take_add_one, h, List.map_append]; rfl
set_option maxRecDepth 1000000 in
set_option maxHeartbeats 8000000 in
theorem nval_any {s : Sc} {B D : Nat} {G : Int → Mg → Bool} {N : Int → Mg → Mg} (H : NormH s B D G N) (vM vE : Value) (ref : Int) (v : Vl') (u : Value) (w : World) (hB : B ≤ w.heap.size) (hs : SAt B w s vM vE) (hv : VAt (Rd B w) D v [.int .i64 v.n, .string (tx v.s), u]) (hi : VIn v) (hc : cV v ≤ 100000) (hg : ∀ x ∈ v.M, G ref x = true) (b : Nat) (hb : b ≤ w.heap.size) :
    Calls Tryz.prog 147 #[.agg #[vM, vE], .int .i64 ref, .agg #[.int .i64 v.n, .string (tx v.s), u]] w fun e w' => ∃ x1 x2 x3, e = .returned (.agg #[x1, x2, x3]) ∧ VAt (Ow b w') D (norV N ref v) [x1, x2, x3] ∧ Below w.heap.size w w' := by
  obtain ⟨u', hu, hl⟩ := hv
  simp only [List.cons.injEq, and_true, true_and] at hu
  subst hu
  obtain ⟨A, c, xs, rfl, hsl, hbl, hr, hn⟩ := hl.open_
  obtain ⟨j0, hj, hy0, hy1, hy2⟩ := info_parts info_msg
  obtain ⟨X1, X2, X3, X4, LBD⟩ := four_new w (.cells #[vM, vE] 25) (.cells #[.int .i64 v.n, .string (tx v.s), .slice A v.M.length c] 31) (.cells #[.int .i64 0, .string ⟨#[]⟩, .slice none 0 0] 31) (.cells #[.int .i64 v.n, .string (tx v.s), .slice none 0 0] 31)
  have hsz : ((((w.alloc (.cells #[vM, vE] 25)).alloc (.cells #[.int .i64 v.n, .string (tx v.s), .slice A v.M.length c] 31)).alloc (.cells #[.int .i64 0, .string ⟨#[]⟩, .slice none 0 0] 31)).alloc (.cells #[.int .i64 v.n, .string (tx v.s), .slice none 0 0] 31)).heap.size = w.heap.size + 4 := by simp
  obtain ⟨W0, hW0⟩ : ∃ W, W = ((((w.alloc (.cells #[vM, vE] 25)).alloc (.cells #[.int .i64 v.n, .string (tx v.s), .slice A v.M.length c] 31)).alloc (.cells #[.int .i64 0, .string ⟨#[]⟩, .slice none 0 0] 31)).alloc (.cells #[.int .i64 v.n, .string (tx v.s), .slice none 0 0] 31)) := ⟨_, rfl⟩
  have hcM := cV_M v
  have HS := Lib.hid hsl
  have HR := Lib.hid hr
  have HBB := Lib.hid hbl
  have HH := Lib.hid H
  have HSA := Lib.hid hs
  have HI := Lib.hid hi
  have HGD := Lib.hid hg
  have hcn : ∀ x ∈ v.M, x.cnt ≤ 100000 := fun x hx => by have := cnt_le hx; omega
  have HCN := Lib.hid hcn
  obtain ⟨p0, p1, p2⟩ := bx3 X2
  clear hsl hr hl hbl H hs hi hg hcn
  go_enter Tryz.func147, Tryz.ntmps147
  go_wp2
  rw [← hW0] at X1 X2 X3 X4 LBD hsz ⊢
  clear hW0 p0 p1 p2
  go_loopw [18] (fun i wr => ∃ (k : Nat) (v' : Value) (zs : List Value), i = .int .i64 k ∧ k ≤ v.M.length ∧ wr.heap[w.heap.size + 3]? = some (.cells #[.int .i64 v.n, .string (tx v.s), v'] 31 (0, 0)) ∧ Grow (fun R => MAt R D) 28 1 (w.heap.size + 4) wr v' ((v.M.take k).map (N ref)) zs ∧ Below (w.heap.size + 3) W0 wr ∧ w.heap.size + 4 ≤ wr.heap.size) (fun i _ => v.M.length - (intOf i).toNat)
  case atStart => exact ⟨0, _, [], rfl, by omega, X4, Grow.nil _ _ _ _ _, Below.refl _ _, by omega⟩
  case round =>
    obtain ⟨k, v', zs, rfl, hk, hX, hgx, hbx, hsx⟩ := hrel
    have hm1 := (hbx.block _ (show w.heap.size < w.heap.size + 3 by omega)).trans X1
    have hm3 := (hbx.block _ (show w.heap.size + 2 < w.heap.size + 3 by omega)).trans X3
    have hbw : Below w.heap.size w wr := LBD.trans (hbx.mono (by omega))
    have hBw : B ≤ wr.heap.size := by omega
    have hlo : Lo B w wr := Lo.of (hbw.mono hB)
    by_cases hlt : k < v.M.length
    · obtain ⟨x, hx⟩ : ∃ x, v.M[k]? = some x := ⟨_, List.getElem?_eq_getElem hlt⟩
      obtain ⟨am, ux, rfl, hgam, hcx, k0⟩ := row1 MAt.len (sl_low HS.out HBB.out hlo) (HR.out.imp fun a cs h => MRd.low hlo h) hx
      obtain ⟨Ax, cx, rfl⟩ := rd_shape hcx
      have hmem := List.mem_of_getElem? hx
      have N1 := below_new wr (.cells #[.slice Ax x.F.length cx] 28)
      have T1 := heap_alloc_new wr (.cells #[.slice Ax x.F.length cx] 28)
      obtain ⟨L, hL⟩ : ∃ L, (v.M.take k).map (N ref) = L := ⟨_, rfl⟩
      have hlq : L.length = k := by rw [← hL, List.length_map, List.length_take]; omega
      rw [hL] at hgx
      have HL := Lib.hid (hL ▸ map_take_snoc (N ref) hx : L ++ [N ref x] = (v.M.take (k + 1)).map (N ref))
      obtain ⟨W1, hW1⟩ : ∃ W, W = wr.alloc (.cells #[.slice Ax x.F.length cx] 28) := ⟨_, rfl⟩
      rw [← hW1] at N1 T1
      have hs1 : W1.heap.size = wr.heap.size + 1 := by rw [hW1]; simp
      have hD : Below W1.heap.size W1 W1.drew := (Below.refl _ _).drew
      have hb1 := below_then hbw N1
      have HCX := Lib.hid (HH.out vM vE ref x (.slice Ax x.F.length cx) W1.drew (show B ≤ W1.heap.size by omega) (SAt.lo HSA.out hb1.drew hB) (MRd.low (Lo.below N1.drew hBw) hcx) (HI.out.msg hmem) (HCN.out x hmem) (HGD.out x hmem) W1.heap.size (Nat.le_refl _))
      have HGX := Lib.hid (hgx.on (mono_m D) N1)
      have HGO := Lib.hid hgx
      have HX := Lib.hid (box_on hX N1)
      have HM := Lib.hid (And.intro (box_on hm1 N1) T1)
      have HB1 := Lib.hid (And.intro hbx N1)
      have g2 := (bx3 HX.out).2.2
      have hS0 : (W1.cell? ⟨w.heap.size, 0, none⟩ = some vM ∧ W1.cell? ⟨w.heap.size, 1, none⟩ = some vE) ∧ W1.cell? ⟨wr.heap.size, 0, none⟩ = some (.slice Ax x.F.length cx) := ⟨box2' HM.out.1, bx1 HM.out.2⟩
      clear hX hgx hbx hm1 hm3 hcx hx hL
      go_wp2_with fail
      rw [← hW1]
      clear hW1 k0
      refine wp_region_held_drew (S := (fun w' => (w'.cell? ⟨w.heap.size, 0, none⟩ = some vM ∧ w'.cell? ⟨w.heap.size, 1, none⟩ = some vE) ∧ w'.cell? ⟨wr.heap.size, 0, none⟩ = some (.slice Ax x.F.length cx))) (by kernel_rfl) (hS0) (fun hHeld => ?_)
      refine wpAnyH_take (i := 0) (oi := { dst := some 22, op := Go.Op.fieldAddr 31 (Go.Operand.tmp 7) 2, type := 0, pos := "typed.go:173", after := #[], guard := none }) (v := ?_) rfl (by kernel_rfl) (by kernel_rfl) (by kernel_rfl) (fun _ _ _ h => h) (Or.inl ⟨by rfl, ?_⟩) hHeld ?_
      rotate_left
      · intro w hSw
        (try dsimp only at hSw)
        go_simp
        all_goals with_reducible rfl
      (try simp only [Act.put, List.setIfInBounds_toArray, List.set_cons_zero, List.set_cons_succ])
      refine wpAnyH_take (i := 2) (oi := { dst := some 24, op := Go.Op.load 25 (Go.Operand.tmp 3), type := 25, pos := "typed.go:173", after := #[], guard := none }) (v := ?_) rfl (by kernel_rfl) (by kernel_rfl) (by kernel_rfl) (fun _ _ _ h => h) (Or.inl ⟨by rfl, ?_⟩) hHeld ?_
      rotate_left
      · intro w hSw
        (try dsimp only at hSw)
        go_simp
        all_goals with_reducible rfl
      (try simp only [Act.put, List.setIfInBounds_toArray, List.set_cons_zero, List.set_cons_succ])
      refine wpAnyH_take (i := 3) (oi := { dst := some 25, op := Go.Op.move (Go.Operand.tmp 1), type := 3, pos := "typed.go:173", after := #[], guard := none }) (v := ?_) rfl (by kernel_rfl) (by kernel_rfl) (by kernel_rfl) (fun _ _ _ h => h) (Or.inl ⟨by rfl, ?_⟩) hHeld ?_
      rotate_left
      · intro w hSw
        (try dsimp only at hSw)
        go_simp
        all_goals with_reducible rfl
      (try simp only [Act.put, List.setIfInBounds_toArray, List.set_cons_zero, List.set_cons_succ])
      refine wpAnyH_take (i := 4) (oi := { dst := some 26, op := Go.Op.load 28 (Go.Operand.tmp 9), type := 28, pos := "typed.go:173", after := #[], guard := none }) (v := ?_) rfl (by kernel_rfl) (by kernel_rfl) (by kernel_rfl) (fun _ _ _ h => h) (Or.inl ⟨by rfl, ?_⟩) hHeld ?_
      rotate_left
      · intro w hSw
        (try dsimp only at hSw)
        go_simp
        all_goals with_reducible rfl
      (try simp only [Act.put, List.setIfInBounds_toArray, List.set_cons_zero, List.set_cons_succ])
      refine wpAnyH_ready (rs := [1, 5]) (by kernel_rfl) (by simp) ?_
      refine AllReadyH.cons (o := { dst := some 23, op := Go.Op.load 29 (Go.Operand.tmp 22), type := 29, pos := "typed.go:173", after := #[{ on := 0, ground := Go.Ground.data }], guard := none }) rfl (fun K hK => ?_) (AllReadyH.cons (o := { dst := some 27, op := Go.Op.call { callee := Go.Callee.value (Go.Operand.func 48), args := #[Go.Operand.tmp 24, Go.Operand.tmp 25, Go.Operand.tmp 26], argTypes := #[25, 3, 28] }, type := 28, pos := "typed.go:173", after := #[{ on := 2, ground := Go.Ground.data }, { on := 3, ground := Go.Ground.data }, { on := 4, ground := Go.Ground.data }], guard := none }) rfl (fun K hK => ?_) AllReadyH.nil)
      · go_simp
        refine hK.out _ _ (hS0) (fun hHeld => ?_)
        clear hK K
        (try simp only [Act.put, List.setIfInBounds_toArray, List.set_cons_zero, List.set_cons_succ])
        refine wpAnyH_ready (rs := [5]) (by kernel_rfl) (by simp) ?_
        refine AllReadyH.cons (o := { dst := some 27, op := Go.Op.call { callee := Go.Callee.value (Go.Operand.func 48), args := #[Go.Operand.tmp 24, Go.Operand.tmp 25, Go.Operand.tmp 26], argTypes := #[25, 3, 28] }, type := 28, pos := "typed.go:173", after := #[{ on := 2, ground := Go.Ground.data }, { on := 3, ground := Go.Ground.data }, { on := 4, ground := Go.Ground.data }], guard := none }) rfl (fun K hK => ?_) AllReadyH.nil
        go_simp
        (go_at_call 48; refine HCX.out.mono ?_; rintro e w7 ⟨x1, rfl, ho7, hb7⟩; have hb7d := Lib.hid (hD.trans hb7); have HX7 := Lib.hid (box_on HX.out hb7d.out); have c7 := (bx3 HX7.out).2.2; have c7b := (bx3 (box_on HX7.out (below_new w7 (.cells #[x1] 28)))).2.2; have HG8 := Lib.hid ((HGX.out.on (mono_m D) hb7d.out).on (mono_m D) (below_new w7 (.cells #[x1] 28))); have hs7 : W1.heap.size ≤ w7.heap.size := hb7d.out.size; have HM7 := Lib.hid (And.intro (box_on HM.out.1 hb7d.out) (box_on HM.out.2 hb7d.out)))
        go_wp2_with fail
        refine hK.out _ _ (And.intro (box2' HM7.out.1) (bx1 HM7.out.2)) (fun hHeld => ?_)
        clear hK K
        (try simp only [Act.put, List.setIfInBounds_toArray, List.set_cons_zero, List.set_cons_succ])
        refine wpAnyH_ready (rs := [6]) (by kernel_rfl) (by simp) ?_
        refine AllReadyH.cons (o := { dst := some 28, op := Go.Op.buildSlice 29 1 #[(0, Go.Operand.tmp 27)], type := 29, pos := "typed.go:173", after := #[{ on := 5, ground := Go.Ground.data }], guard := none }) rfl (fun K hK => ?_) AllReadyH.nil
        go_simp
        refine hK.out _ _ (And.intro (box2' (box_on HM7.out.1 (below_new w7 (.cells #[x1] 28)))) (bx1 (box_on HM7.out.2 (below_new w7 (.cells #[x1] 28))))) (fun hHeld => ?_)
        clear hK K
        (try simp only [Act.put, List.setIfInBounds_toArray, List.set_cons_zero, List.set_cons_succ])
        refine wpAnyH_ready (rs := [7]) (by kernel_rfl) (by simp) ?_
        refine AllReadyH.cons (o := { dst := some 29, op := Go.Op.call { callee := Go.Callee.builtin Go.Builtin.append, args := #[Go.Operand.tmp 23, Go.Operand.tmp 28], argTypes := #[29, 29] }, type := 29, pos := "typed.go:173", after := #[{ on := 1, ground := Go.Ground.data }, { on := 6, ground := Go.Ground.data }, { on := 5, ground := Go.Ground.chain }], guard := none }) rfl (fun K hK => ?_) AllReadyH.nil
        (refine step_append_lies _ rfl _ _ 29 rfl (w.heap.size + 4) 28 j0 _ 1 24 Tryz.underlying29 hj hy0 hy1 hy2 rfl (by decide) v' L.length zs (by simp [Act.eval, Act.put]) HG8.out.own ⟨w7.heap.size, 0, none⟩ 1 1 [x1] (by simp [Act.eval, Act.put]) rfl (World.news_of_block (heap_alloc_new _ _)) (one_msg_ow ho7) (by decide) (by unfold maxLen; omega) (by omega) (by simp; omega) w7.heap.size.succ (by simp) ?_; intro g8 cap8 w8 hown8 hg8 hat8 hlt8; have hX8 := Lib.hid (box_far (box_on HX7.out (below_new w7 (.cells #[x1] 28))) hg8 HG8.out.own (Nat.lt_succ_self (w.heap.size + 3))); have f8 : w8.frozen? ⟨w.heap.size + 3, 2, none⟩ = false := (by simp [World.frozen?, hX8.out]); have c8 := (bx3 hX8.out).2.2; have HM8 := Lib.hid (And.intro (box_far (box_on HM7.out.1 (below_new w7 (.cells #[x1] 28))) hg8 HG8.out.own (show w.heap.size < w.heap.size + 4 by omega)) (box_new (box_on HM7.out.2 (below_new w7 (.cells #[x1] 28))) hg8 fun q hq => HGO.out.lt q hq)))
        refine hK.out _ _ (And.intro (box2' HM8.out.1) (bx1 HM8.out.2)) (fun hHeld => ?_)
        clear hK K
        (try simp only [Act.put, List.setIfInBounds_toArray, List.set_cons_zero, List.set_cons_succ])
        refine wpAnyH_take (i := 8) (oi := { dst := some 30, op := Go.Op.fieldAddr 31 (Go.Operand.tmp 7) 2, type := 0, pos := "typed.go:173", after := #[{ on := 0, ground := Go.Ground.phase }, { on := 1, ground := Go.Ground.phase }, { on := 2, ground := Go.Ground.phase }, { on := 3, ground := Go.Ground.phase }, { on := 4, ground := Go.Ground.phase }, { on := 5, ground := Go.Ground.phase }, { on := 6, ground := Go.Ground.phase }, { on := 7, ground := Go.Ground.phase }], guard := none }) (v := ?_) rfl (by kernel_rfl) (by kernel_rfl) (by kernel_rfl) (fun _ _ _ h => h) (Or.inl ⟨by rfl, ?_⟩) hHeld ?_
        rotate_left
        · intro w hSw
          (try dsimp only at hSw)
          go_simp
          all_goals with_reducible rfl
        (try simp only [Act.put, List.setIfInBounds_toArray, List.set_cons_zero, List.set_cons_succ])
        refine wpAnyH_ready (rs := [9]) (by kernel_rfl) (by simp) ?_
        refine AllReadyH.cons (o := { dst := none, op := Go.Op.store 29 (Go.Operand.tmp 30) (Go.Operand.tmp 29), type := 0, pos := "typed.go:173", after := #[{ on := 8, ground := Go.Ground.data }, { on := 7, ground := Go.Ground.data }, { on := 7, ground := Go.Ground.chain }, { on := 0, ground := Go.Ground.phase }, { on := 1, ground := Go.Ground.phase }, { on := 2, ground := Go.Ground.phase }, { on := 3, ground := Go.Ground.phase }, { on := 4, ground := Go.Ground.phase }, { on := 5, ground := Go.Ground.phase }, { on := 6, ground := Go.Ground.phase }, { on := 7, ground := Go.Ground.phase }], guard := none }) rfl (fun K hK => ?_) AllReadyH.nil
        go_simp
        refine hK.out _ _ (And.intro (box2' (box_set (g := w.heap.size + 3) (j := 2) HM8.out.1 (by omega) _)) (bx1 (box_set (g := w.heap.size + 3) (j := 2) HM8.out.2 (by omega) _))) (fun hHeld => ?_)
        clear hK K
        (try simp only [Act.put, List.setIfInBounds_toArray, List.set_cons_zero, List.set_cons_succ])
        refine wpAnyH_done (by kernel_rfl) ?_ _
        obtain ⟨Z1, Z2⟩ := cell3 hX8.out (.slice (some ⟨g8, 0, none⟩) (L.length + 1) cap8)
        have hnew := (Grow.app (mono_m D) HG8.out (a := N ref x) (b' := W1.heap.size) (by omega) (fun k hk => HGX.out.lt k hk) (MAt.imp (Ow.hi (hi_below _ (below_new w7 (.cells #[x1] 28)))) D _ _ ho7) hown8 hg8 (hat8.imp id fun h => by rw [h]; simp)).box (mono_m D) Z2 (Nat.lt_succ_self (w.heap.size + 3))
        rw [HL.out] at hnew
        rw [hlq] at hnew Z1 Z2
        have hbz : Below (w.heap.size + 3) wr _ := ((HB1.out.2.mono (by omega)).trans ((hb7d.out.mono (by omega)).trans ((below_new w7 (.cells #[x1] 28)).mono (by omega)))).trans ((below_row hg8 HG8.out.own (Nat.le_succ _) (by simp; omega)).trans (below_own Z2 (Nat.le_refl _) (by have := hg8.size; simp at this; omega)))
        try rw [hlq]
        go_wp2
        refine ⟨⟨k + 1, _, _, by go_num, by omega, Z1, hnew, HB1.out.1.trans hbz, by have h1 := hbz.size; have h2 := hg8.size; simp at h1 h2 ⊢; omega⟩, by simp [intOf]; omega⟩
      · go_simp
        (go_at_call 48; refine HCX.out.mono ?_; rintro e w7 ⟨x1, rfl, ho7, hb7⟩; have hb7d := Lib.hid (hD.trans hb7); have HX7 := Lib.hid (box_on HX.out hb7d.out); have c7 := (bx3 HX7.out).2.2; have c7b := (bx3 (box_on HX7.out (below_new w7 (.cells #[x1] 28)))).2.2; have HG8 := Lib.hid ((HGX.out.on (mono_m D) hb7d.out).on (mono_m D) (below_new w7 (.cells #[x1] 28))); have hs7 : W1.heap.size ≤ w7.heap.size := hb7d.out.size; have HM7 := Lib.hid (And.intro (box_on HM.out.1 hb7d.out) (box_on HM.out.2 hb7d.out)))
        go_wp2_with fail
        refine hK.out _ _ (And.intro (box2' HM7.out.1) (bx1 HM7.out.2)) (fun hHeld => ?_)
        clear hK K
        (try simp only [Act.put, List.setIfInBounds_toArray, List.set_cons_zero, List.set_cons_succ])
        refine wpAnyH_ready (rs := [1, 6]) (by kernel_rfl) (by simp) ?_
        refine AllReadyH.cons (o := { dst := some 23, op := Go.Op.load 29 (Go.Operand.tmp 22), type := 29, pos := "typed.go:173", after := #[{ on := 0, ground := Go.Ground.data }], guard := none }) rfl (fun K hK => ?_) (AllReadyH.cons (o := { dst := some 28, op := Go.Op.buildSlice 29 1 #[(0, Go.Operand.tmp 27)], type := 29, pos := "typed.go:173", after := #[{ on := 5, ground := Go.Ground.data }], guard := none }) rfl (fun K hK => ?_) AllReadyH.nil)
        · go_simp
          refine hK.out _ _ (And.intro (box2' HM7.out.1) (bx1 HM7.out.2)) (fun hHeld => ?_)
          clear hK K
          (try simp only [Act.put, List.setIfInBounds_toArray, List.set_cons_zero, List.set_cons_succ])
          refine wpAnyH_ready (rs := [6]) (by kernel_rfl) (by simp) ?_
          refine AllReadyH.cons (o := { dst := some 28, op := Go.Op.buildSlice 29 1 #[(0, Go.Operand.tmp 27)], type := 29, pos := "typed.go:173", after := #[{ on := 5, ground := Go.Ground.data }], guard := none }) rfl (fun K hK => ?_) AllReadyH.nil
          go_simp
          refine hK.out _ _ (And.intro (box2' (box_on HM7.out.1 (below_new w7 (.cells #[x1] 28)))) (bx1 (box_on HM7.out.2 (below_new w7 (.cells #[x1] 28))))) (fun hHeld => ?_)
          clear hK K
          (try simp only [Act.put, List.setIfInBounds_toArray, List.set_cons_zero, List.set_cons_succ])
          refine wpAnyH_ready (rs := [7]) (by kernel_rfl) (by simp) ?_
          refine AllReadyH.cons (o := { dst := some 29, op := Go.Op.call { callee := Go.Callee.builtin Go.Builtin.append, args := #[Go.Operand.tmp 23, Go.Operand.tmp 28], argTypes := #[29, 29] }, type := 29, pos := "typed.go:173", after := #[{ on := 1, ground := Go.Ground.data }, { on := 6, ground := Go.Ground.data }, { on := 5, ground := Go.Ground.chain }], guard := none }) rfl (fun K hK => ?_) AllReadyH.nil
          (refine step_append_lies _ rfl _ _ 29 rfl (w.heap.size + 4) 28 j0 _ 1 24 Tryz.underlying29 hj hy0 hy1 hy2 rfl (by decide) v' L.length zs (by simp [Act.eval, Act.put]) HG8.out.own ⟨w7.heap.size, 0, none⟩ 1 1 [x1] (by simp [Act.eval, Act.put]) rfl (World.news_of_block (heap_alloc_new _ _)) (one_msg_ow ho7) (by decide) (by unfold maxLen; omega) (by omega) (by simp; omega) w7.heap.size.succ (by simp) ?_; intro g8 cap8 w8 hown8 hg8 hat8 hlt8; have hX8 := Lib.hid (box_far (box_on HX7.out (below_new w7 (.cells #[x1] 28))) hg8 HG8.out.own (Nat.lt_succ_self (w.heap.size + 3))); have f8 : w8.frozen? ⟨w.heap.size + 3, 2, none⟩ = false := (by simp [World.frozen?, hX8.out]); have c8 := (bx3 hX8.out).2.2; have HM8 := Lib.hid (And.intro (box_far (box_on HM7.out.1 (below_new w7 (.cells #[x1] 28))) hg8 HG8.out.own (show w.heap.size < w.heap.size + 4 by omega)) (box_new (box_on HM7.out.2 (below_new w7 (.cells #[x1] 28))) hg8 fun q hq => HGO.out.lt q hq)))
          refine hK.out _ _ (And.intro (box2' HM8.out.1) (bx1 HM8.out.2)) (fun hHeld => ?_)
          clear hK K
          (try simp only [Act.put, List.setIfInBounds_toArray, List.set_cons_zero, List.set_cons_succ])
          refine wpAnyH_take (i := 8) (oi := { dst := some 30, op := Go.Op.fieldAddr 31 (Go.Operand.tmp 7) 2, type := 0, pos := "typed.go:173", after := #[{ on := 0, ground := Go.Ground.phase }, { on := 1, ground := Go.Ground.phase }, { on := 2, ground := Go.Ground.phase }, { on := 3, ground := Go.Ground.phase }, { on := 4, ground := Go.Ground.phase }, { on := 5, ground := Go.Ground.phase }, { on := 6, ground := Go.Ground.phase }, { on := 7, ground := Go.Ground.phase }], guard := none }) (v := ?_) rfl (by kernel_rfl) (by kernel_rfl) (by kernel_rfl) (fun _ _ _ h => h) (Or.inl ⟨by rfl, ?_⟩) hHeld ?_
          rotate_left
          · intro w hSw
            (try dsimp only at hSw)
            go_simp
            all_goals with_reducible rfl
          (try simp only [Act.put, List.setIfInBounds_toArray, List.set_cons_zero, List.set_cons_succ])
          refine wpAnyH_ready (rs := [9]) (by kernel_rfl) (by simp) ?_
          refine AllReadyH.cons (o := { dst := none, op := Go.Op.store 29 (Go.Operand.tmp 30) (Go.Operand.tmp 29), type := 0, pos := "typed.go:173", after := #[{ on := 8, ground := Go.Ground.data }, { on := 7, ground := Go.Ground.data }, { on := 7, ground := Go.Ground.chain }, { on := 0, ground := Go.Ground.phase }, { on := 1, ground := Go.Ground.phase }, { on := 2, ground := Go.Ground.phase }, { on := 3, ground := Go.Ground.phase }, { on := 4, ground := Go.Ground.phase }, { on := 5, ground := Go.Ground.phase }, { on := 6, ground := Go.Ground.phase }, { on := 7, ground := Go.Ground.phase }], guard := none }) rfl (fun K hK => ?_) AllReadyH.nil
          go_simp
          refine hK.out _ _ (And.intro (box2' (box_set (g := w.heap.size + 3) (j := 2) HM8.out.1 (by omega) _)) (bx1 (box_set (g := w.heap.size + 3) (j := 2) HM8.out.2 (by omega) _))) (fun hHeld => ?_)
          clear hK K
          (try simp only [Act.put, List.setIfInBounds_toArray, List.set_cons_zero, List.set_cons_succ])
          refine wpAnyH_done (by kernel_rfl) ?_ _
          obtain ⟨Z1, Z2⟩ := cell3 hX8.out (.slice (some ⟨g8, 0, none⟩) (L.length + 1) cap8)
          have hnew := (Grow.app (mono_m D) HG8.out (a := N ref x) (b' := W1.heap.size) (by omega) (fun k hk => HGX.out.lt k hk) (MAt.imp (Ow.hi (hi_below _ (below_new w7 (.cells #[x1] 28)))) D _ _ ho7) hown8 hg8 (hat8.imp id fun h => by rw [h]; simp)).box (mono_m D) Z2 (Nat.lt_succ_self (w.heap.size + 3))
          rw [HL.out] at hnew
          rw [hlq] at hnew Z1 Z2
          have hbz : Below (w.heap.size + 3) wr _ := ((HB1.out.2.mono (by omega)).trans ((hb7d.out.mono (by omega)).trans ((below_new w7 (.cells #[x1] 28)).mono (by omega)))).trans ((below_row hg8 HG8.out.own (Nat.le_succ _) (by simp; omega)).trans (below_own Z2 (Nat.le_refl _) (by have := hg8.size; simp at this; omega)))
          try rw [hlq]
          go_wp2
          refine ⟨⟨k + 1, _, _, by go_num, by omega, Z1, hnew, HB1.out.1.trans hbz, by have h1 := hbz.size; have h2 := hg8.size; simp at h1 h2 ⊢; omega⟩, by simp [intOf]; omega⟩
        · go_simp
          refine hK.out _ _ (And.intro (box2' (box_on HM7.out.1 (below_new w7 (.cells #[x1] 28)))) (bx1 (box_on HM7.out.2 (below_new w7 (.cells #[x1] 28))))) (fun hHeld => ?_)
          clear hK K
          (try simp only [Act.put, List.setIfInBounds_toArray, List.set_cons_zero, List.set_cons_succ])
          refine wpAnyH_ready (rs := [1]) (by kernel_rfl) (by simp) ?_
          refine AllReadyH.cons (o := { dst := some 23, op := Go.Op.load 29 (Go.Operand.tmp 22), type := 29, pos := "typed.go:173", after := #[{ on := 0, ground := Go.Ground.data }], guard := none }) rfl (fun K hK => ?_) AllReadyH.nil
          go_simp
          refine hK.out _ _ (And.intro (box2' (box_on HM7.out.1 (below_new w7 (.cells #[x1] 28)))) (bx1 (box_on HM7.out.2 (below_new w7 (.cells #[x1] 28))))) (fun hHeld => ?_)
          clear hK K
          (try simp only [Act.put, List.setIfInBounds_toArray, List.set_cons_zero, List.set_cons_succ])
          refine wpAnyH_ready (rs := [7]) (by kernel_rfl) (by simp) ?_
          refine AllReadyH.cons (o := { dst := some 29, op := Go.Op.call { callee := Go.Callee.builtin Go.Builtin.append, args := #[Go.Operand.tmp 23, Go.Operand.tmp 28], argTypes := #[29, 29] }, type := 29, pos := "typed.go:173", after := #[{ on := 1, ground := Go.Ground.data }, { on := 6, ground := Go.Ground.data }, { on := 5, ground := Go.Ground.chain }], guard := none }) rfl (fun K hK => ?_) AllReadyH.nil
          (refine step_append_lies _ rfl _ _ 29 rfl (w.heap.size + 4) 28 j0 _ 1 24 Tryz.underlying29 hj hy0 hy1 hy2 rfl (by decide) v' L.length zs (by simp [Act.eval, Act.put]) HG8.out.own ⟨w7.heap.size, 0, none⟩ 1 1 [x1] (by simp [Act.eval, Act.put]) rfl (World.news_of_block (heap_alloc_new _ _)) (one_msg_ow ho7) (by decide) (by unfold maxLen; omega) (by omega) (by simp; omega) w7.heap.size.succ (by simp) ?_; intro g8 cap8 w8 hown8 hg8 hat8 hlt8; have hX8 := Lib.hid (box_far (box_on HX7.out (below_new w7 (.cells #[x1] 28))) hg8 HG8.out.own (Nat.lt_succ_self (w.heap.size + 3))); have f8 : w8.frozen? ⟨w.heap.size + 3, 2, none⟩ = false := (by simp [World.frozen?, hX8.out]); have c8 := (bx3 hX8.out).2.2; have HM8 := Lib.hid (And.intro (box_far (box_on HM7.out.1 (below_new w7 (.cells #[x1] 28))) hg8 HG8.out.own (show w.heap.size < w.heap.size + 4 by omega)) (box_new (box_on HM7.out.2 (below_new w7 (.cells #[x1] 28))) hg8 fun q hq => HGO.out.lt q hq)))
          refine hK.out _ _ (And.intro (box2' HM8.out.1) (bx1 HM8.out.2)) (fun hHeld => ?_)
          clear hK K
          (try simp only [Act.put, List.setIfInBounds_toArray, List.set_cons_zero, List.set_cons_succ])
          refine wpAnyH_take (i := 8) (oi := { dst := some 30, op := Go.Op.fieldAddr 31 (Go.Operand.tmp 7) 2, type := 0, pos := "typed.go:173", after := #[{ on := 0, ground := Go.Ground.phase }, { on := 1, ground := Go.Ground.phase }, { on := 2, ground := Go.Ground.phase }, { on := 3, ground := Go.Ground.phase }, { on := 4, ground := Go.Ground.phase }, { on := 5, ground := Go.Ground.phase }, { on := 6, ground := Go.Ground.phase }, { on := 7, ground := Go.Ground.phase }], guard := none }) (v := ?_) rfl (by kernel_rfl) (by kernel_rfl) (by kernel_rfl) (fun _ _ _ h => h) (Or.inl ⟨by rfl, ?_⟩) hHeld ?_
          rotate_left
          · intro w hSw
            (try dsimp only at hSw)
            go_simp
            all_goals with_reducible rfl
          (try simp only [Act.put, List.setIfInBounds_toArray, List.set_cons_zero, List.set_cons_succ])
          refine wpAnyH_ready (rs := [9]) (by kernel_rfl) (by simp) ?_
          refine AllReadyH.cons (o := { dst := none, op := Go.Op.store 29 (Go.Operand.tmp 30) (Go.Operand.tmp 29), type := 0, pos := "typed.go:173", after := #[{ on := 8, ground := Go.Ground.data }, { on := 7, ground := Go.Ground.data }, { on := 7, ground := Go.Ground.chain }, { on := 0, ground := Go.Ground.phase }, { on := 1, ground := Go.Ground.phase }, { on := 2, ground := Go.Ground.phase }, { on := 3, ground := Go.Ground.phase }, { on := 4, ground := Go.Ground.phase }, { on := 5, ground := Go.Ground.phase }, { on := 6, ground := Go.Ground.phase }, { on := 7, ground := Go.Ground.phase }], guard := none }) rfl (fun K hK => ?_) AllReadyH.nil
          go_simp
          refine hK.out _ _ (And.intro (box2' (box_set (g := w.heap.size + 3) (j := 2) HM8.out.1 (by omega) _)) (bx1 (box_set (g := w.heap.size + 3) (j := 2) HM8.out.2 (by omega) _))) (fun hHeld => ?_)
          clear hK K
          (try simp only [Act.put, List.setIfInBounds_toArray, List.set_cons_zero, List.set_cons_succ])
          refine wpAnyH_done (by kernel_rfl) ?_ _
          obtain ⟨Z1, Z2⟩ := cell3 hX8.out (.slice (some ⟨g8, 0, none⟩) (L.length + 1) cap8)
          have hnew := (Grow.app (mono_m D) HG8.out (a := N ref x) (b' := W1.heap.size) (by omega) (fun k hk => HGX.out.lt k hk) (MAt.imp (Ow.hi (hi_below _ (below_new w7 (.cells #[x1] 28)))) D _ _ ho7) hown8 hg8 (hat8.imp id fun h => by rw [h]; simp)).box (mono_m D) Z2 (Nat.lt_succ_self (w.heap.size + 3))
          rw [HL.out] at hnew
          rw [hlq] at hnew Z1 Z2
          have hbz : Below (w.heap.size + 3) wr _ := ((HB1.out.2.mono (by omega)).trans ((hb7d.out.mono (by omega)).trans ((below_new w7 (.cells #[x1] 28)).mono (by omega)))).trans ((below_row hg8 HG8.out.own (Nat.le_succ _) (by simp; omega)).trans (below_own Z2 (Nat.le_refl _) (by have := hg8.size; simp at this; omega)))
          try rw [hlq]
          go_wp2
          refine ⟨⟨k + 1, _, _, by go_num, by omega, Z1, hnew, HB1.out.1.trans hbz, by have h1 := hbz.size; have h2 := hg8.size; simp at h1 h2 ⊢; omega⟩, by simp [intOf]; omega⟩
    · obtain rfl : k = v.M.length := by omega
      rw [List.take_length] at hgx
      obtain ⟨Av, cv, rfl, -⟩ := Sl.of_own hgx.own
      rw [List.length_map] at hX hgx
      obtain ⟨g0, g1, g2⟩ := bx3 hX
      obtain ⟨⟨q0, q1, q2⟩, q3, q4, q5⟩ := wr3 hm3
      go_wp2
      obtain ⟨Z1, Z2⟩ := three_set hm3 (.int .i64 v.n) (.string (tx v.s)) (.slice Av v.M.length cv)
      refine bodyPost_ret (results_cell_row rfl _ _ (w.heap.size + 2) _ _ (0, 0) _ rfl Z1 Tryz.underlying31 rfl sz_val) rfl ?_
      refine ⟨_, _, _, rfl, ⟨_, rfl, ?_⟩, hbw.trans (below_own Z2 (by omega) (by omega))⟩
      have h1 := (hgx.box (mono_m D) Z2 (show w.heap.size + 2 < w.heap.size + 4 by omega)).less (mono_m D) (show b ≤ w.heap.size + 4 by omega)
      exact h1.ow (mono_m D) (by rw [List.length_map]; exact hn)
end Go.Proofs.YtggcjdajmbkpiaaGreatDoor.T9
/-
  Rows of elements of several cells that are sorted: slots by their numbers, keys by Less.
-/
namespace Go.Proofs.YtggcjdajmbkpiaaGreatDoor.T9
set_option maxRecDepth 100000
open Go.RowKit Go.Lib Go.Sort

/-! ### A row as the sort's own words have it -/
section
variable {α : Type} [Inhabited α] {DC : α → List Value} {k : Nat}
omit [Inhabited α] in
theorem fm_len (hl : ∀ a, (DC a).length = k) (l : List α) : (l.flatMap DC).length = l.length * k := by
  induction l with
  | nil => simp
  | cons a l ih => rw [List.flatMap_cons, List.length_append, hl, ih, List.length_cons, Nat.succ_mul]; omega
omit [Inhabited α] in
theorem fm_get (hl : ∀ a, (DC a).length = k) : ∀ (l : List α) (i j : Nat) (a : α), l[i]? = some a → j < k → (l.flatMap DC)[i * k + j]? = (DC a)[j]?
  | [], _, _, _, h, _ => by simp at h
  | b :: l, 0, j, a, h, hj => by
    obtain rfl : b = a := by simpa using h
    rw [List.flatMap_cons, Nat.zero_mul, Nat.zero_add, List.getElem?_append_left (by rw [hl]; exact hj)]
  | b :: l, i + 1, j, a, h, hj => by
    rw [List.flatMap_cons, List.getElem?_append_right (by rw [hl, Nat.succ_mul]; omega), hl, ← fm_get hl l i j a (by simpa using h) hj]
    congr 1
    rw [Nat.succ_mul]; omega
theorem flat_gen (hl : ∀ a, (DC a).length = k) (hk : 0 < k) (d : Array α) : (flatK DC k d).toList = d.toList.flatMap DC := by
  apply List.ext_getElem?
  intro t
  by_cases ht : t < d.size * k
  · have h1 := get_flatK DC k d t ht
    rw [getElem!_pos _ t (by rw [size_flatK]; exact ht)] at h1
    have hq : t / k < d.size := Nat.div_lt_of_lt_mul (by rw [Nat.mul_comm]; exact ht)
    have h2 := fm_get hl d.toList (t / k) (t % k) d[t / k]! (by
      rw [getElem!_pos d (t / k) hq, Array.getElem?_toList, Array.getElem?_eq_getElem hq]) (Nat.mod_lt _ hk)
    rw [show t / k * k + t % k = t by rw [Nat.mul_comm]; exact Nat.div_add_mod t k] at h2
    rw [h2, Array.getElem?_toList, Array.getElem?_eq_getElem (by rw [size_flatK]; exact ht), h1]
    have h3 : t % k < (DC d[t / k]!).length := by rw [hl]; exact Nat.mod_lt _ hk
    rw [List.getElem?_eq_getElem h3, getElem!_pos (DC d[t / k]!) (t % k) h3]
  · rw [List.getElem?_eq_none (by rw [Array.length_toList, size_flatK]; omega), List.getElem?_eq_none (by rw [fm_len hl, Array.length_toList]; omega)]
theorem holds_gen (hl : ∀ a, (DC a).length = k) (hk : 0 < k) {w : World} {g : Nat} {cur : Array Value} {t : TypeId} {l : List α} (hh : w.heap[g]? = some (.cells cur t (0, 0))) (ht : cur.toList.take (l.length * k) = l.flatMap DC) : HoldsK DC k w g 0 l.toArray := by
  intro j hj
  rw [size_flatK] at hj
  have hj' : j < l.length * k := by simpa using hj
  rw [Nat.zero_add]
  refine ⟨?_, heap_free hh j⟩
  rw [heap_cell hh j]
  have h1 : (flatK DC k l.toArray)[j]? = (l.flatMap DC)[j]? := by rw [← Array.getElem?_toList, flat_gen hl hk]
  have h2 : cur[j]? = (l.flatMap DC)[j]? := by
    rw [← ht, List.getElem?_take_of_lt hj', Array.getElem?_toList]
  rw [h2, ← h1, getElem!_pos (flatK DC k l.toArray) j (by rw [size_flatK]; exact hj), Array.getElem?_eq_getElem (by rw [size_flatK]; exact hj)]
  rfl
theorem sorted_gen (hl : ∀ a, (DC a).length = k) (hk : 0 < k) {w : World} {g n : Nat} {cur : Array Value} {t : TypeId} {d : Array α} {os : Array Obj} (hh : w.heap[g]? = some (.cells cur t (0, 0))) (hs : d.size * k ≤ cur.size) :
    ∃ cur', (sortWorldK DC k w g 0 n d os).heap[g]? = some (.cells cur' t (0, 0)) ∧ cur'.size = cur.size ∧ cur'.toList.take (d.size * k) = d.toList.flatMap DC ∧ w.grownBy (sortWorldK DC k w g 0 n d os) (some g) := by
  have hlt := (Array.getElem?_eq_some_iff.1 hh).1
  refine ⟨putCells id 0 (flatK DC k d) cur, ?_, by simp [putCells], ?_, rfl, rfl, rfl, ?_, ?_⟩
  · unfold sortWorldK putRowK putRow mapBlock grow
    simp only
    rw [Array.getElem?_append_left (by simpa using hlt), Array.getElem?_modify, if_pos rfl]
    show Option.map _ w.heap[g]? = _
    rw [hh]
    rfl
  · rw [← flat_gen hl hk]
    apply List.ext_getElem?
    intro q
    by_cases hq : q < d.size * k
    · rw [List.getElem?_take_of_lt hq, Array.getElem?_toList, Array.getElem?_toList]
      unfold putCells
      rw [Array.getElem?_mapIdx, Array.getElem?_eq_getElem (by omega), Array.getElem?_eq_getElem (by rw [size_flatK]; exact hq)]
      simp only [Option.map_some]
      rw [if_pos (by rw [size_flatK]; omega), Nat.sub_zero, getElem!_pos _ q (by rw [size_flatK]; exact hq)]
      rfl
    · rw [List.getElem?_eq_none (by rw [List.length_take]; omega), List.getElem?_eq_none (by rw [Array.length_toList, size_flatK]; omega)]
  · unfold sortWorldK putRowK putRow mapBlock grow
    simp
  · intro i hi hne
    unfold sortWorldK putRowK putRow mapBlock grow
    simp only
    rw [Array.getElem?_append_left (by simpa using hi), Array.getElem?_modify, if_neg (fun e => hne (by rw [e]))]
    rfl
end

/-! ### Slots -/
abbrev SV := Option Addr × Nat × Nat
def svV (s : SV) : Value := .slice s.1 s.2.1 s.2.2
abbrev Tri := So × SV × SV
def triC (t : Tri) : List Value := [.int .i64 t.1.no, svV t.2.1, svV t.2.2]
theorem tri_len (t : Tri) : (triC t).length = 3 := rfl
theorem tri_one (t : Tri) : ∀ v ∈ triC t, v.oneCell' = true := by
  intro v hv
  simp only [triC, List.mem_cons, List.not_mem_nil, or_false] at hv
  rcases hv with rfl | rfl | rfl <;> rfl
def cmpTri (x y : Tri) : Int := Lib.compareInt x.1.no y.1.no
theorem lt_tri (x y : Tri) : ltOf cmpTri x y = ltNo x.1 y.1 := by
  unfold ltOf cmpTri Lib.compareInt ltNo
  by_cases h1 : x.1.no < y.1.no
  · simp [h1]
  · by_cases h2 : y.1.no < x.1.no <;> simp [h1, h2]
theorem swo_tri : SWO (ltOf cmpTri) where
  irrefl x := by rw [lt_tri]; exact no_irr _
  trans x y z h1 h2 := by rw [lt_tri] at *; exact no_tr _ _ _ h1 h2
  ntrans x y z h1 h2 := by rw [lt_tri] at *; simp [ltNo] at *; omega
theorem slices_of {b : Nat} {r : Option Nat} {w : World} {e : TypeId} {size : Nat} {v : Value} {n : Nat} {xs : List Value} (h : Ap b r w e size v n xs) : ∃ s : SV, v = svV s := by
  obtain ⟨A, c, rfl, -⟩ := Sl.of_own h.1
  exact ⟨(A, n, c), rfl⟩
/-- Slots' rows as a row of triples. -/
theorem tri_rows {d b : Nat} {r : Option Nat} {w : World} : ∀ {l : List So} {xs : List Value}, Rows (SAt' (Ap b r w) d) l xs → ∃ tr : List Tri, tr.map (·.1) = l ∧ xs = tr.flatMap triC ∧ ∀ t ∈ tr, SAt' (Ap b r w) d t.1 (triC t)
  | [], xs, h => ⟨[], rfl, h, by simp⟩
  | a :: l, xs, ⟨cs, ys, h1, h2, h3⟩ => by
    obtain ⟨tr, e1, e2, e3⟩ := tri_rows h3
    obtain ⟨u1, u2, rfl, ⟨z1, q1, q1'⟩, ⟨z2, q2, q2'⟩⟩ := h2
    obtain ⟨s1, rfl⟩ := slices_of q1
    obtain ⟨s2, rfl⟩ := slices_of q2
    refine ⟨(a, s1, s2) :: tr, by simp [e1], by rw [h1, e2]; rfl, fun t ht => ?_⟩
    rcases List.mem_cons.1 ht with rfl | ht
    · exact ⟨_, _, rfl, ⟨z1, q1, q1'⟩, ⟨z2, q2, q2'⟩⟩
    · exact e3 t ht
theorem rows_tri {C : So → List Value → Prop} : ∀ {tr : List Tri}, (∀ t ∈ tr, C t.1 (triC t)) → Rows C (tr.map (·.1)) (tr.flatMap triC)
  | [], _ => rfl
  | t :: tr, h => ⟨triC t, _, rfl, h t (by simp), rows_tri fun t ht => h t (by simp [ht])⟩
set_option maxHeartbeats 1000000 in
theorem compare_no (x y : Int) (w : World) : Calls Tryz.prog 92 #[.int .i64 x, .int .i64 y] w fun e w' => e = .returned (.int .i64 (Lib.compareInt x y)) ∧ w = w' := by
  have H : Hid (Lib.compareInt x y = if x < y then -1 else if y < x then 1 else 0) := Lib.hid rfl
  by_cases h1 : x < y
  · rw [if_pos h1] at H
    go_enter Tryz.func92, Tryz.ntmps92
    go_wp2
    go_ret
    exact ⟨ret_int H.out.symm, rfl⟩
  · rw [if_neg h1] at H
    by_cases h2 : y < x
    · rw [if_pos h2] at H
      go_enter Tryz.func92, Tryz.ntmps92
      go_wp2
      go_ret
      exact ⟨ret_int H.out.symm, rfl⟩
    · rw [if_neg h2] at H
      go_enter Tryz.func92, Tryz.ntmps92
      go_wp2
      go_ret
      exact ⟨ret_int H.out.symm, rfl⟩
set_option maxHeartbeats 1000000 in
theorem tri_clo (x y : Tri) (W : World) : Calls Tryz.prog 91 #[.agg (triC x).toArray, .agg (triC y).toArray] W fun e w' => e = .returned (.int .i64 (cmpTri x y)) ∧ ∃ q os', w' = grow (W.drewN q) os' := by
  have hcon := fun W' => compare_no x.1.no y.1.no W'
  unfold cmpTri triC
  generalize Lib.compareInt x.1.no y.1.no = r at hcon ⊢
  go_enter Tryz.func91, Tryz.ntmps91
  go_wp2_with (go_at_call 92; refine (hcon _).mono ?_; rintro e w' ⟨rfl, rfl⟩)
  go_ret
  exact ⟨rfl, 0, _, by rw [alloc_eq_grow, alloc_eq_grow, grow_grow]; rfl⟩
set_option maxHeartbeats 1000000 in
/-- A row of slots of the call's own is sorted by their numbers. -/
theorem sort_slots (d base : Nat) (v : Value) (l : List So) (xs : List Value) (w : World) (hg : Grow (fun R => SAt' R d) 36 3 base w v l xs) (hd : l.Pairwise fun a b => a.no ≠ b.no) (hl : l.length ≤ 1000000) :
    Calls Tryz.prog 90 #[v, .func (.func 91) #[] #[]] w fun e w' => e = .returned (.tuple #[]) ∧ (∃ ys, Grow (fun R => SAt' R d) 36 3 base w' v (srt ltNo l) ys) ∧ (srt ltNo l).length = l.length ∧ w.grownBy w' v.ownBlock := by
  obtain ⟨hown, hrows⟩ := hg
  have hown0 := hown
  obtain ⟨hlen, ⟨rfl, hn⟩ | ⟨g, cap, cur, rfl, hgb, hh, hle, hmax, hsz, htake⟩⟩ := hown
  · refine (Tryz.slices_SortFunc_none_f90 (α := So) none 0 _ w).mono ?_
    rintro e w' ⟨rfl, rfl⟩
    obtain rfl : l = [] := List.eq_nil_of_length_eq_zero hn
    exact ⟨rfl, ⟨xs, hown0, hrows⟩, rfl, World.grownBy.refl _ _⟩
  · obtain ⟨tr, e1, e2, e3⟩ := tri_rows hrows
    have htl : tr.length = l.length := by rw [← e1, List.length_map]
    have eg : ∀ args w, (callFunc 91 args).run Tryz.prog w = .ok (.enter 91 args) w := enters_of Tryz.func91 (by kernel_rfl) rfl
    have hcap : cap * 3 = cur.size := hsz.symm
    have hcon := Tryz.slices_SortFunc_f90 3 Tryz.isAgg36 Tryz.sizeOf36 triC tri_len tri_one cmpTri swo_tri 91 #[] g 0 cap tr.toArray w eg (fun _ _ _ _ x y => tri_clo x y _) (holds_gen tri_len (by omega) hh (by rw [htl, ← e2]; exact htake)) (Array.getElem?_eq_some_iff.1 hh).1 (by simp; omega)
    rw [show tr.toArray.size = l.length by simp [htl]] at hcon
    refine hcon.mono ?_
    rintro e w' ⟨rfl, d', n, os, hp, hs, rfl⟩
    have hsize : d'.size = l.length := by have := hp.1; simp at this; omega
    have hperm : d'.toList.Perm tr := by
      have h3 := hp.2.2
      rw [show l.length = d'.size from hsize.symm, Array.extract_size] at h3
      have e4 : (tr.toArray.extract 0 d'.size) = tr.toArray := by
        rw [hsize, show l.length = tr.toArray.size by simp [htl], Array.extract_size]
      rw [e4] at h3
      simpa using h3
    have hpm : (d'.toList.map (·.1)).Perm l := by rw [← e1]; exact hperm.map _
    have hd' : (d'.toList.map (·.1)).Pairwise fun a b => a.no ≠ b.no := (hpm.pairwise_iff (R := fun a b : So => a.no ≠ b.no) (fun hab => fun e => hab e.symm)).2 hd
    have hrise : Rise ltNo (d'.toList.map (·.1)) := by
      refine rise_of_sorted (hd'.imp fun {a b} hab => ?_) fun i j hi hj hij => ?_
      · unfold ltNo
        by_cases h : a.no < b.no
        · exact .inl (decide_eq_true h)
        · exact .inr (decide_eq_true (by omega))
      · rw [List.length_map, Array.length_toList] at hi hj
        have := hs i j (Nat.zero_le _) hij (by omega)
        rw [lt_tri, getElem!_pos d' j hj, getElem!_pos d' i hi] at this
        rw [List.getElem_map, List.getElem_map, Array.getElem_toList, Array.getElem_toList]
        simpa using this
    have hsort : d'.toList.map (·.1) = srt ltNo l := srt_is no_irr no_tr (no_tot hd) hrise fun _ => hpm.mem_iff
    obtain ⟨cur', r1, r2, r3, r4⟩ := sorted_gen (n := n) (d := d') (os := os) tri_len (by omega) hh (by rw [hsize]; omega)
    have hll : (srt ltNo l).length = l.length := by rw [← hsort, List.length_map, Array.length_toList, hsize]
    have hown' : (sortWorldK triC 3 w g 0 n d' os).ownsRow base 36 3 (.slice (some ⟨g, 0, none⟩) l.length cap) l.length (d'.toList.flatMap triC) := by
      rw [hsize] at r3
      refine ⟨?_, .inr ⟨g, cap, cur', rfl, hgb, r1, hle, hmax, by rw [r2]; exact hsz, r3⟩⟩
      rw [fm_len tri_len, Array.length_toList, hsize]
    refine ⟨rfl, ⟨d'.toList.flatMap triC, ⟨by rw [hll]; exact hown', ?_⟩⟩, hll, r4⟩
    rw [← hsort]
    refine rows_tri fun t ht => ?_
    refine sAt.imp (fun e size v n xs h => ?_) (fun m cs h => MAt.imp (fun e size v n xs h => ?_) d m cs h) _ _ (e3 t (hperm.mem_iff.1 ht))
    all_goals exact Ap.grown r4 (.inl rfl) e size v n xs h
end Go.Proofs.YtggcjdajmbkpiaaGreatDoor.T9
/-
  A map's keys as the program's own map of them: of each key the last value; the contracts of keyOf and lastOnes.
-/
namespace Go.Proofs.YtggcjdajmbkpiaaGreatDoor.T9
set_option maxRecDepth 100000
open Go.RowKit Go.Maps

/-- A key that a machine has. -/
abbrev Kk := {p : Int × List UInt8 // inr p.1 ∧ p.2.length ≤ maxLen}
def kkVal (p : Int × List UInt8) : Value := .agg #[.int .i64 p.1, .string (tx p.2)]
theorem kk_law : Keyed Tryz.prog 180 := Keyed.of_law (deep_law_laid Tryz.laidOut (m := 2) (by omega) (by decide +kernel) (by kernel_rfl) (by kernel_rfl))
theorem kk_cells : Tryz.prog.cellsOf 180 = 2 := by kernel_rfl
theorem kk_int : Tryz.prog.cellsOf 2 = 1 := by kernel_rfl
theorem kk_string : Tryz.prog.cellsOf 9 = 1 := by kernel_rfl
theorem kk_type : Tryz.prog.keyType 180 = true := by kernel_rfl
theorem lits_int64 {n : Int} (d : Nat) (h : (Lit.int .i64 n).wf = true) : Tryz.prog.keyLits (d + 1) 2 [.int .i64 n] = some [.int .i64 n] := by
  simp [Program.keyLits, Tryz.underlying2, h]
theorem lits_string {s : List UInt8} (d : Nat) (h : s.length ≤ maxLen) : ∃ l, Tryz.prog.keyLits (d + 1) 9 [.string (tx s)] = some [.string l] := by
  have hs : (tx s).size ≤ maxLen := by simpa [tx, ByteArray.size] using h
  exact ⟨_, by simp [Program.keyLits, Tryz.underlying9, hs]; rfl⟩
theorem kk_some (p : Kk) : ∃ l, Go.keyOf Tryz.prog 180 (kkVal p.1) = some l := by
  have h1 := cl_wf p.2.1
  obtain ⟨n, hn⟩ := ck_size
  obtain ⟨l2, h2⟩ := lits_string n p.2.2
  have hf : (kkVal p.1).formed Tryz.prog 180 = true := by
    unfold Value.formed kkVal
    simp [Tryz.underlying180, kk_cells]
  unfold Go.keyOf
  rw [Tryz.underlying180]
  simp only [kk_type, hf, Bool.and_self, if_true]
  rw [hn]
  unfold Program.keyLits
  rw [Tryz.underlying180]
  simp [kkVal, Value.cells, kk_cells, kk_int, kk_string, lits_int64 n h1, h2]
noncomputable def kKk (p : Kk) : Lit := (Go.keyOf Tryz.prog 180 (kkVal p.1)).getD (.bool false)
theorem kKk_key (p : Kk) : Go.keyOf Tryz.prog 180 (kkVal p.1) = some (kKk p) := by
  obtain ⟨l, hl⟩ := kk_some p
  unfold kKk
  rw [hl]; rfl
theorem kKk_inj (x y : Kk) (h : kKk x = kKk y) : x = y := by
  have h1 := kKk_key x
  rw [h] at h1
  have h2 := kk_law.inj h1 (kKk_key y)
  unfold kkVal at h2
  simp only [Value.agg.injEq, Array.mk.injEq, List.cons.injEq, Value.int.injEq, Value.string.injEq, true_and, and_true] at h2
  exact Subtype.ext (Prod.ext h2.1 (tx_inj h2.2))
theorem kKk_lit (x : Kk) : WideAt.IsKeyLit (kKk x) := kk_law.key (kKk_key x)
/-- Any value at all, as it is. -/
def heldE (v : Value) : Option (DataW Value × List MemPlace) := some (.held v, [])
def keyV (v : Vl') : Int × List UInt8 := (v.n, v.s)
/-- Of a list of keys and values the last value of a key. -/
def lastA (P : List (Vl' × Value)) (k : Int × List UInt8) : Option Value := (P.reverse.find? fun p => decide (keyV p.1 = k)).map (·.2)
theorem lastA_snoc (P : List (Vl' × Value)) (x : Vl' × Value) (k : Int × List UInt8) : lastA (P ++ [x]) k = if keyV x.1 = k then some x.2 else lastA P k := by
  unfold lastA
  rw [List.reverse_append]
  show ((x :: P.reverse).find? _).map _ = _
  by_cases h : keyV x.1 = k
  · rw [List.find?_cons_of_pos (by simp [h]), if_pos h]; rfl
  · rw [List.find?_cons_of_neg (by simp [h]), if_neg h]
/-- Block b is a map of at most n entries: of each key the last value of a list. -/
def LastM (w : World) (b n : Nat) (P : List (Vl' × Value)) : Prop := ∃ D : DataW Value, w.ownsMap Tryz.prog 180 heldE b n D ∧ ∀ k : Kk, has D (kKk k) = (lastA P k.1).isSome ∧ ∀ v, lastA P k.1 = some v → ∀ z, D.atKey (kKk k) z = .held v
theorem LastM.made (w : World) : LastM (w.alloc (.map #[] 0)) w.heap.size 0 [] := ⟨.map [], World.ownsMap_made w _ _ _, fun k => ⟨rfl, fun v h => by cases h⟩⟩
theorem LastM.lt {w : World} {b n : Nat} {P : List (Vl' × Value)} (h : LastM w b n P) : b < w.heap.size := by
  obtain ⟨D, h1, _⟩ := h
  exact h1.lt
theorem LastM.block {w w' : World} {b n : Nat} {P : List (Vl' × Value)} (h : LastM w b n P) (hb : w'.heap[b]? = w.heap[b]?) : LastM w' b n P := by
  obtain ⟨D, ⟨es, clock, h1, h2⟩, h3⟩ := h
  exact ⟨D, ⟨es, clock, hb.trans h1, h2⟩, h3⟩
theorem LastM.on {w w' : World} {b n : Nat} {P : List (Vl' × Value)} (h : LastM w b n P) (hb : Below w.heap.size w w') : LastM w' b n P := h.block (hb.block b h.lt)
section
variable {w : World} {ops : Array Oper} {rest : List Oper} {o : Oper} {a : Act} {Q : Exit → Act → World → Prop}
theorem LastM.put {b n : Nat} {P : List (Vl' × Value)} (h : LastM w b n P) (hn : n < 1000000000) (x : Vl') (hx : inr x.n ∧ x.s.length ≤ maxLen) (v : Value) :
    ∃ w', (Instr.mapUpdate 176 (.map (some b)) (.agg #[.int .i64 x.n, .string (tx x.s)]) v).run Tryz.prog w = .ok () w' ∧ LastM w' b (n + 1) (P ++ [(x, v)]) ∧ w.grownBy w' (some b) := by
  obtain ⟨D, h1, h2⟩ := h
  have hkey := kKk_key ⟨keyV x, hx⟩
  obtain ⟨w', hrun, r1, r2⟩ := h1.update kk_law Tryz.underlying176 (by unfold maxLen; omega) (val := v) (d := .held v) (ps := []) hkey rfl
  refine ⟨w', hrun, ⟨_, r1, fun k => ?_⟩, r2⟩
  rw [lastA_snoc]
  by_cases hk : keyV x = k.1
  · rw [if_pos hk]
    obtain rfl : (⟨keyV x, hx⟩ : Kk) = k := Subtype.ext hk
    refine ⟨by rw [has_put_same h1.isMap (kKk_lit _)]; rfl, fun u hu z => ?_⟩
    rw [atKey_put_same h1.isMap (kKk_lit _)]
    exact congrArg DataW.held (Option.some.inj hu)
  · rw [if_neg hk]
    have hne : kKk k ≠ kKk ⟨keyV x, hx⟩ := fun e => hk (congrArg Subtype.val (kKk_inj _ _ e)).symm
    refine ⟨by rw [has_put_other hne]; exact (h2 k).1, fun u hu z => ?_⟩
    rw [atKey_put_other hne]
    exact (h2 k).2 u hu z
theorem zero_val (w : World) : (zeroValue 31).run Tryz.prog w = .ok (.agg #[.int .i64 0, .string ⟨#[]⟩, .slice none 0 0]) w := by kernel_rfl
theorem LastM.look {b n : Nat} {P : List (Vl' × Value)} (h : LastM w b n P) (x : Vl') (hx : inr x.n ∧ x.s.length ≤ maxLen) {v : Value} (hv : lastA P (keyV x) = some v) :
    (Instr.lookup 176 (.map (some b)) (.agg #[.int .i64 x.n, .string (tx x.s)]) false).run Tryz.prog w = .ok v w := by
  obtain ⟨D, h1, h2⟩ := h
  have hkey := kKk_key ⟨keyV x, hx⟩
  obtain ⟨v', ps, hrun, hv'⟩ := h1.lookup kk_law Tryz.underlying176 (zero_val w) (zd := .held (.agg #[.int .i64 0, .string ⟨#[]⟩, .slice none 0 0])) (zp := []) rfl hkey
  rw [(h2 ⟨keyV x, hx⟩).2 v hv] at hv'
  unfold heldE at hv'
  simp only [Option.some.injEq, Prod.mk.injEq, DataW.held.injEq] at hv'
  exact hrun.trans (by rw [hv'.1])
end
theorem sz_key : (Tryz.prog.info? 180).map (·.size) = some 2 := by kernel_rfl
set_option maxRecDepth 1000000 in
set_option maxHeartbeats 2000000 in
theorem keyOf_any (v : Vl') (u : Value) (w : World) : Calls Tryz.prog 150 #[.agg #[.int .i64 v.n, .string (tx v.s), u]] w fun e w' => e = .returned (.agg #[.int .i64 v.n, .string (tx v.s)]) ∧ Below w.heap.size w w' := by
  obtain ⟨Y1, Y2, LBY⟩ := two_boxes w (.cells #[.int .i64 v.n, .string (tx v.s), u] 31) (.cells #[.int .i64 v.n, .string (tx v.s)] 180)
  go_enter Tryz.func150, Tryz.ntmps150
  go_wp2
  refine bodyPost_ret (results_cell_row rfl _ _ (w.heap.size + 1) _ _ (0, 0) _ rfl Y2 Tryz.underlying180 rfl sz_key) rfl ?_
  exact ⟨rfl, LBY⟩
end Go.Proofs.YtggcjdajmbkpiaaGreatDoor.T9
