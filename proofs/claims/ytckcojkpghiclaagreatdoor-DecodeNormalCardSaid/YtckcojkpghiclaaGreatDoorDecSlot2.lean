/-
 How values are ordered: one of two that differ is less, what is less than what is less is less.
-/
import Derived.Test.YtckcojkpghiclaaGreatDoorTrAwake
import Derived.OpenShut
import Derived.Test.YtckcojkpghiclaaGreatDoorTySrt
import Derived.Test.YtckcojkpghiclaaGreatDoorRecWin
import Derived.Test.YtckcojkpghiclaaGreatDoorTokMath
import Derived.Deep.RegionHeld3
import Derived.Test.YtckcojkpghiclaaGreatDoorVarUnfix
namespace Go.Proofs.YtckcojkpghiclaaGreatDoor.T9
set_option maxRecDepth 100000
theorem by_same : ∀ a : List UInt8, Op.bytesLess a a = false
 | [] => rfl
 | x :: a => by
  have h : Op.bytesLess (x :: a) (x :: a) = (decide (x < x) || (x == x && Op.bytesLess a a)) := rfl
  rw [h, by_same a]
  simp
theorem by_asym : ∀ a b : List UInt8, Op.bytesLess a b = true → Op.bytesLess b a = false
 | [], [], _ => rfl
 | [], _ :: _, _ => rfl
 | _ :: _, [], h => by cases h
 | x :: a, y :: b, h => by
  have h1 : Op.bytesLess (x :: a) (y :: b) = (decide (x < y) || (x == y && Op.bytesLess a b)) := rfl
  have h2 : Op.bytesLess (y :: b) (x :: a) = (decide (y < x) || (y == x && Op.bytesLess b a)) := rfl
  rw [h1] at h
  rw [h2]
  simp only [Bool.or_eq_true, decide_eq_true_eq, Bool.and_eq_true, beq_iff_eq] at h
  rw [Bool.or_eq_false_iff]
  simp only [decide_eq_false_iff_not, Bool.and_eq_false_iff, beq_eq_false_iff_ne, ne_eq]
  rcases h with h | ⟨rfl, h⟩
  ·refine ⟨fun h3 => ?_, .inl fun e => ?_⟩
   ·rw [UInt8.lt_iff_toNat_lt] at h h3; omega
   ·subst e; rw [UInt8.lt_iff_toNat_lt] at h; omega
  ·exact ⟨fun h3 => by rw [UInt8.lt_iff_toNat_lt] at h3; omega, .inr (by_asym a b h)⟩
theorem by_total : ∀ a b : List UInt8, Op.bytesLess a b = false → Op.bytesLess b a = false → a = b
 | [], [], _, _ => rfl
 | [], _ :: _, h, _ => by cases h
 | _ :: _, [], _, h => by cases h
 | x :: a, y :: b, h, h' => by
  have h1 : Op.bytesLess (x :: a) (y :: b) = (decide (x < y) || (x == y && Op.bytesLess a b)) := rfl
  have h2 : Op.bytesLess (y :: b) (x :: a) = (decide (y < x) || (y == x && Op.bytesLess b a)) := rfl
  rw [h1] at h
  rw [h2] at h'
  simp only [Bool.or_eq_false_iff, decide_eq_false_iff_not, Bool.and_eq_false_iff, beq_eq_false_iff_ne, ne_eq] at h h'
  have e : x = y := by
   apply UInt8.toNat_inj.1
   have h3 := h.1
   have h4 := h'.1
   rw [UInt8.lt_iff_toNat_lt] at h3 h4
   omega
  subst e
  rw [by_total a b (by simpa using h.2) (by simpa using h'.2)]
theorem by_trans : ∀ a b c : List UInt8, Op.bytesLess a b = true → Op.bytesLess b c = true → Op.bytesLess a c = true
 | [], [], _, h, _ => by cases h
 | _ :: _, [], _, h, _ => by cases h
 | _, _ :: _, [], _, h => by cases h
 | [], _ :: _, _ :: _, _, _ => rfl
 | x :: a, y :: b, z :: c, h, h' => by
  have h1 : Op.bytesLess (x :: a) (y :: b) = (decide (x < y) || (x == y && Op.bytesLess a b)) := rfl
  have h2 : Op.bytesLess (y :: b) (z :: c) = (decide (y < z) || (y == z && Op.bytesLess b c)) := rfl
  have h3 : Op.bytesLess (x :: a) (z :: c) = (decide (x < z) || (x == z && Op.bytesLess a c)) := rfl
  rw [h1] at h
  rw [h2] at h'
  rw [h3]
  simp only [Bool.or_eq_true, decide_eq_true_eq, Bool.and_eq_true, beq_iff_eq, UInt8.lt_iff_toNat_lt] at h h' ⊢
  rcases h with h | ⟨rfl, h⟩
  ·rcases h' with h' | ⟨rfl, h'⟩
   ·left; omega
   ·left; omega
  ·rcases h' with h' | ⟨rfl, h'⟩
   ·left; omega
   ·right; exact ⟨rfl, by_trans a b c h h'⟩
theorem lessV_same {a b : Vl'} (hn : a.n = b.n) (hs : a.s = b.s) : lessV a b = false := by
 unfold lessV
 rw [if_pos hn, hs, by_same]
theorem lessV_total {a b : Vl'} (h : lessV a b = false) (h' : lessV b a = false) : a.n = b.n ∧ a.s = b.s := by
 unfold lessV at h h'
 by_cases e : a.n = b.n
 ·rw [if_pos e] at h
  rw [if_pos e.symm] at h'
  exact ⟨e, by_total _ _ h h'⟩
 ·rw [if_neg e] at h
  rw [if_neg (fun h => e h.symm)] at h'
  rw [decide_eq_false_iff_not] at h h'
  omega
theorem lessV_trans {a b c : Vl'} (h : lessV a b = true) (h' : lessV b c = true) : lessV a c = true := by
 unfold lessV at h h' ⊢
 by_cases e : a.n = b.n
 ·rw [if_pos e] at h
  by_cases f : b.n = c.n
  ·rw [if_pos f] at h'
   rw [if_pos (e.trans f)]
   exact by_trans _ _ _ h h'
  ·rw [if_neg f, decide_eq_true_eq] at h'
   rw [if_neg (by omega), decide_eq_true_eq]
   omega
 ·rw [if_neg e, decide_eq_true_eq] at h
  by_cases f : b.n = c.n
  ·rw [if_neg (by omega), decide_eq_true_eq]
   omega
  ·rw [if_neg f, decide_eq_true_eq] at h'
   rw [if_neg (by omega), decide_eq_true_eq]
   omega
end Go.Proofs.YtckcojkpghiclaaGreatDoor.T9
/-
 Messages, slots and values as arguments, with what their numbers and texts fit.
-/
namespace Go.Proofs.YtckcojkpghiclaaGreatDoor.T9
set_option maxRecDepth 100000
open Go.RowKit Go.ChangeShapes Go.WideShapes Go.ChangeAt
def inI (n : Int) : Prop := -9223372036854775808 ≤ n ∧ n ≤ 9223372036854775807
inductive MIn : Mg → Prop
 | mk {m : Mg} (h1 : ∀ s ∈ m.F, inI s.no) (h2 : ∀ s ∈ m.F, ∀ v, v ∈ s.K ∨ v ∈ s.V → inI v.n ∧ v.s.length ≤ 140737488351232) (h3 : ∀ s ∈ m.F, ∀ v, v ∈ s.K ∨ v ∈ s.V → ∀ x ∈ v.M, MIn x) : MIn m
def VIn (v : Vl') : Prop := (inI v.n ∧ v.s.length ≤ 140737488351232) ∧ ∀ x ∈ v.M, MIn x
def SIn (s : So) : Prop := inI s.no ∧ ∀ v, v ∈ s.K ∨ v ∈ s.V → VIn v
theorem MIn.slot {m : Mg} (h : MIn m) {s : So} (hs : s ∈ m.F) : SIn s := by
 cases h with
 | mk h1 h2 h3 => exact ⟨h1 s hs, fun v hv => ⟨h2 s hs v hv, h3 s hs v hv⟩⟩
theorem MIn.of {m : Mg} (h : ∀ s ∈ m.F, SIn s) : MIn m := .mk (fun s hs => (h s hs).1) (fun s hs v hv => ((h s hs).2 v hv).1) fun s hs v hv => ((h s hs).2 v hv).2
theorem SIn.val {s : So} (h : SIn s) {v : Vl'} (hv : v ∈ s.K ∨ v ∈ s.V) : VIn v := h.2 v hv
theorem VIn.msg {v : Vl'} (h : VIn v) {x : Mg} (hx : x ∈ v.M) : MIn x := h.2 x hx
end Go.Proofs.YtckcojkpghiclaaGreatDoor.T9
/-
 Messages made normal, by plain functions; what is normal is of its message, and normal again is the same.
-/
namespace Go.Proofs.YtckcojkpghiclaaGreatDoor.T9
set_option maxRecDepth 100000
open Go.Proofs.YtckcojkpghiclaaGreatDoor.T4
def defB (v : Vl') : Bool := (v.n == 0) && (v.s.isEmpty && v.M.isEmpty)
def toldB (f : Df) (l : List Vl') : Bool := match l with
 | [] => false
 | v :: _ => f.rep || (f.key != -1 || (f.one != 0 || (f.kind == 9 || !defB v)))
def ltNo (a b : So) : Bool := decide (a.no < b.no)
def bare (v : Vl') : Vl' := ⟨v.n, v.s, []⟩
def sameK (a b : Vl') : Bool := (a.n == b.n) && (a.s == b.s)
def risen (K : List Vl') : List Vl' := srt lessV (K.map bare)
def lastP (P : List (Vl' × Vl')) (k : Vl') : Vl' × Vl' := (P.reverse.find? fun p => sameK p.1 k).getD (⟨0, [], []⟩, ⟨0, [], []⟩)
def lastV (P : List (Vl' × Vl')) (k : Vl') : Vl' := (lastP P k).2
def norV (N : Int → Mg → Mg) (ref : Int) (v : Vl') : Vl' := ⟨v.n, v.s, v.M.map (N ref)⟩
def norS (N : Int → Mg → Mg) (f : Df) (a : So) : So :=
 if f.key = -1 then ⟨a.no, [], a.V.map (norV N f.ref)⟩ else ⟨a.no, risen a.K, (risen a.K).map fun k => norV N f.ref (lastV (a.K.zip a.V) k)⟩
def norO (fd : Int → Option Df) (N : Int → Mg → Mg) (a : So) : Option So := (fd a.no).bind fun f => if toldB f a.V then some (norS N f a) else none
def norF (fd : Int → Option Df) (N : Int → Mg → Mg) (F : List So) : List So := srt ltNo (F.filterMap (norO fd N))
def norG (s : Sc) (N : Int → Mg → Mg) (m : Int) (x : Mg) : Mg := .mk (norF (byS s m) N x.F)
def norB (s : Sc) : Nat → Int → Mg → Mg
 | 0 => fun _ _ => .mk []
 | d + 1 => norG s (norB s d)
theorem no_irr (a : So) : ltNo a a = false := by simp [ltNo]
theorem no_tr (a b c : So) (h : ltNo a b = true) (h' : ltNo b c = true) : ltNo a c = true := by
 unfold ltNo at *
 simp only [decide_eq_true_eq] at *
 omega
theorem lv_irr (a : Vl') : lessV a a = false := lessV_same rfl rfl
theorem lv_tr (a b c : Vl') (h : lessV a b = true) (h' : lessV b c = true) : lessV a c = true := lessV_trans h h'
theorem same_iff {a b : Vl'} : sameK a b = true ↔ a.n = b.n ∧ a.s = b.s := by simp [sameK]
theorem bare_same {a b : Vl'} : bare a = bare b ↔ sameK a b = true := by
 rw [same_iff]
 unfold bare
 simp
theorem lv_tot (K : List Vl') : ∀ a ∈ K.map bare, ∀ b ∈ K.map bare, lessV a b = false → lessV b a = false → a = b := by
 intro a ha b hb h h'
 obtain ⟨x, _, rfl⟩ := List.mem_map.1 ha
 obtain ⟨y, _, rfl⟩ := List.mem_map.1 hb
 obtain ⟨h1, h2⟩ := lessV_total h h'
 exact bare_same.2 (same_iff.2 ⟨h1, h2⟩)
theorem mem_risen {K : List Vl'} {k : Vl'} : k ∈ risen K ↔ ∃ x ∈ K, bare x = k := by
 unfold risen
 rw [mem_srt (lv_tot K), List.mem_map]
theorem rise_risen (K : List Vl') : Rise lessV (risen K) := rise_srt lv_tr _
theorem bare_risen {K : List Vl'} {k : Vl'} (h : k ∈ risen K) : bare k = k := by
 obtain ⟨x, _, rfl⟩ := mem_risen.1 h
 rfl
theorem map_bare_risen (K : List Vl') : (risen K).map bare = risen K := by
 conv => rhs; rw [← List.map_id (risen K)]
 exact List.map_congr_left fun k hk => bare_risen hk
theorem risen_risen (K : List Vl') : risen (risen K) = risen K := by
 show srt lessV ((risen K).map bare) = _
 rw [map_bare_risen, srt_rise lv_irr lv_tr (rise_risen K)]
theorem no_tot {l : List So} (h : l.Pairwise fun a b => a.no ≠ b.no) : ∀ a ∈ l, ∀ b ∈ l, ltNo a b = false → ltNo b a = false → a = b := by
 intro a ha b hb h1 h2
 unfold ltNo at h1 h2
 rw [decide_eq_false_iff_not] at h1 h2
 have e : a.no = b.no := by omega
 obtain ⟨i, hi, rfl⟩ := List.mem_iff_getElem.1 ha
 obtain ⟨j, hj, rfl⟩ := List.mem_iff_getElem.1 hb
 rw [List.pairwise_iff_getElem] at h
 rcases Nat.lt_trichotomy i j with hij | hij | hij
 ·exact absurd e (h i j hi hj hij)
 ·subst hij; rfl
 ·exact absurd e.symm (h j i hj hi hij)
def clsOf (fd : Int → Option Df) (a : So) : List (Int × Int) := match fd a.no with | none => [] | some f => claimsOf f
def Dj (fd : Int → Option Df) (a b : So) : Prop := ∀ c ∈ clsOf fd a, c ∉ clsOf fd b
theorem Dj.symm {fd : Int → Option Df} {a b : So} (h : Dj fd a b) : Dj fd b a := fun c hc hc' => h c hc' hc
theorem claim_iff {cl : List (Int × Int)} {f : Df} : claimB cl f = true ↔ ∀ c ∈ claimsOf f, c ∉ cl := by
 unfold claimB claimsOf
 by_cases h : f.one = 0
 ·rw [if_pos h]; simp [h]
 ·rw [if_neg h]
  have h2 : (0, f.one) ≠ (f.no, (0 : Int)) := fun e => h (congrArg Prod.snd e)
  simp [h, h2, and_comm]
theorem slots_iff {fd : Int → Option Df} {fill : Df → So → Bool} {cl : List (Int × Int)} {l : List So} :
  slotsG fd fill cl l = true ↔ (∀ a ∈ l, ∃ f, fd a.no = some f ∧ fill f a = true) ∧ (∀ a ∈ l, ∀ c ∈ clsOf fd a, c ∉ cl) ∧ l.Pairwise (Dj fd) := by
 induction l generalizing cl with
 | nil => simp [slotsG]
 | cons a l ih =>
  rw [slotsG_cons]
  cases h : fd a.no with
  | none => simp [h]
  | some f =>
   have hc : clsOf fd a = claimsOf f := by unfold clsOf; rw [h]
   simp only [Bool.and_eq_true, ih, claim_iff, List.pairwise_cons, List.mem_cons, forall_eq_or_imp, hc]
   constructor
   ·rintro ⟨h1, h2, h3, h4, h5⟩
    refine ⟨⟨⟨f, h, h2⟩, h3⟩, ⟨h1, fun b hb c hcb hcl => h4 b hb c hcb (List.mem_append.2 (.inr hcl))⟩, fun b hb c hca hcb => ?_, h5⟩
    rw [hc] at hca
    exact h4 b hb c hcb (List.mem_append.2 (.inl hca))
   ·rintro ⟨⟨⟨g, hg, h2⟩, h3⟩, ⟨h1, h4⟩, h5, h6⟩
    rw [h] at hg
    obtain rfl := Option.some.inj hg
    refine ⟨h1, h2, h3, fun b hb c hcb hm => ?_, h6⟩
    rcases List.mem_append.1 hm with hm | hm
    ·exact h5 b hb c (by rw [hc]; exact hm) hcb
    ·exact h4 b hb c hcb hm
theorem dj_no {fd : Int → Option Df} {a b : So} {f : Df} (h : Dj fd a b) (ha : fd a.no = some f) : a.no ≠ b.no := by
 intro e
 have h1 : clsOf fd a = claimsOf f := by unfold clsOf; rw [ha]
 have h2 : clsOf fd b = claimsOf f := by unfold clsOf; rw [← e, ha]
 have h3 : (f.no, (0 : Int)) ∈ claimsOf f := by unfold claimsOf; split <;> simp
 exact h _ (by rw [h1]; exact h3) (by rw [h2]; exact h3)
theorem dj_cong {fd : Int → Option Df} {a b a' b' : So} (h : Dj fd a b) (ha : a'.no = a.no) (hb : b'.no = b.no) : Dj fd a' b' := by
 unfold Dj clsOf at *
 rw [ha, hb]
 exact h
theorem slots_no {fd : Int → Option Df} {fill : Df → So → Bool} {l : List So} (h : slotsG fd fill [] l = true) : l.Pairwise fun a b => a.no ≠ b.no := by
 obtain ⟨h1, -, h3⟩ := slots_iff.1 h
 refine List.Pairwise.imp_of_mem (fun {a b} ha hb hab => ?_) h3
 obtain ⟨f, hf, _⟩ := h1 a ha
 exact dj_no hab hf
theorem slots_sub {fd : Int → Option Df} {fill : Df → So → Bool} {l l' : List So} (h : slotsG fd fill [] l = true) (hs : l'.Sublist l) : slotsG fd fill [] l' = true := by
 obtain ⟨h1, -, h3⟩ := slots_iff.1 h
 exact slots_iff.2 ⟨fun a ha => h1 a (hs.subset ha), fun _ _ _ _ => by simp, h3.sublist hs⟩
theorem norS_no {N : Int → Mg → Mg} {f : Df} {a : So} : (norS N f a).no = a.no := by unfold norS; split <;> rfl
theorem norO_some {fd : Int → Option Df} {N : Int → Mg → Mg} {a b : So} (h : norO fd N a = some b) : ∃ f, fd a.no = some f ∧ toldB f a.V = true ∧ b = norS N f a := by
 unfold norO at h
 cases hf : fd a.no with
 | none => rw [hf] at h; cases h
 | some f =>
  rw [hf, Option.bind_some] at h
  split at h
  ·rename_i ht
   exact ⟨f, rfl, ht, (Option.some.inj h).symm⟩
  ·cases h
theorem norO_no {fd : Int → Option Df} {N : Int → Mg → Mg} {a b : So} (h : norO fd N a = some b) : b.no = a.no := by
 obtain ⟨f, _, _, rfl⟩ := norO_some h
 exact norS_no
theorem told_no {fd : Int → Option Df} {N : Int → Mg → Mg} {l : List So} (h : l.Pairwise fun a b => a.no ≠ b.no) : (l.filterMap (norO fd N)).Pairwise fun a b => a.no ≠ b.no := by
 rw [List.pairwise_filterMap]
 refine h.imp fun {a b} hab c hc d hd => ?_
 rw [norO_no hc, norO_no hd]
 exact hab
theorem mem_norF {fd : Int → Option Df} {N : Int → Mg → Mg} {l : List So} (h : l.Pairwise fun a b => a.no ≠ b.no) {b : So} : b ∈ norF fd N l ↔ ∃ a ∈ l, norO fd N a = some b := by
 unfold norF
 rw [mem_srt (no_tot (told_no h)), List.mem_filterMap]
theorem rise_norF (fd : Int → Option Df) (N : Int → Mg → Mg) (l : List So) : Rise ltNo (norF fd N l) := rise_srt no_tr _
structure Good (G : Int → Mg → Bool) (N : Int → Mg → Mg) : Prop where
 is : ∀ r x, G r x = true → G r (N r x) = true
 same : ∀ r x, G r x = true → N r (N r x) = N r x
 deep : ∀ r x, G r x = true → (N r x).deep ≤ x.deep
 size : ∀ r x, G r x = true → (N r x).size ≤ x.size
 cnt : ∀ r x, G r x = true → (N r x).cnt ≤ x.cnt
 in_ : ∀ r x, G r x = true → MIn x → MIn (N r x)
structure GoodV (G : Int → Mg → Bool) (N : Int → Mg → Mg) (kind ref : Int) (v : Vl') : Prop where
 is : askG G kind ref (norV N ref v) = true
 same : norV N ref (norV N ref v) = norV N ref v
 def_ : kind ≠ 9 → defB (norV N ref v) = defB v
 deep : dV (norV N ref v) ≤ dV v
 size : zV (norV N ref v) ≤ zV v
 cnt : cV (norV N ref v) ≤ cV v
 in_ : VIn v → VIn (norV N ref v)
theorem ask_nine {G : Int → Mg → Bool} {ref : Int} {v : Vl'} (h : askG G 9 ref v = true) : v.n = 0 ∧ v.s = [] ∧ ∃ x, v.M = [x] ∧ G ref x = true := by
 unfold askG at h
 rw [if_neg (by omega), if_neg (by omega), if_pos rfl] at h
 simp only [Bool.and_eq_true, beq_iff_eq, List.isEmpty_iff] at h
 obtain ⟨h1, h2, h3⟩ := h
 refine ⟨h1, h2, ?_⟩
 obtain ⟨n, s, M⟩ := v
 match M, h3 with
 | [x], h3 => exact ⟨x, rfl, h3⟩
theorem good_val {G : Int → Mg → Bool} {N : Int → Mg → Mg} (g : Good G N) {kind ref : Int} {v : Vl'} (h : askG G kind ref v = true) : GoodV G N kind ref v := by
 by_cases h9 : kind = 9
 ·subst h9
  obtain ⟨n, s, M⟩ := v
  obtain ⟨h1, h2, x, h3, hx⟩ := ask_nine h
  simp only at h1 h2 h3
  subst h1 h2 h3
  have hd := g.deep _ _ hx
  have hz := g.size _ _ hx
  have hc := g.cnt _ _ hx
  constructor
  ·unfold askG norV
   simp [oneB, g.is _ _ hx]
  ·simp [norV, g.same _ _ hx]
  ·intro h; exact absurd rfl h
  ·simp only [dV, norV, List.map_cons, List.map_nil, mx]; omega
  ·simp only [zV, norV, List.map_cons, List.map_nil, sm]; omega
  ·simp only [cV, norV, List.map_cons, List.map_nil, sm]; omega
  ·rintro ⟨hv, hm⟩
   refine ⟨hv, fun y hy => ?_⟩
   simp only [norV, List.map_cons, List.map_nil, List.mem_singleton] at hy
   subst hy
   exact g.in_ _ _ hx (hm x (by simp))
 ·have hM := ask_of h h9
  have e : norV N ref v = v := by
   obtain ⟨n, s, M⟩ := v
   simp only at hM
   subst hM
   rfl
  constructor <;> rw [e]
  ·exact h
  ·exact e
  ·exact fun _ => rfl
  ·exact Nat.le_refl _
  ·exact Nat.le_refl _
  ·exact Nat.le_refl _
  ·exact id
theorem ask_bare {G : Int → Mg → Bool} {kind ref : Int} {v : Vl'} (h : askG G kind ref v = true) (h9 : kind ≠ 9) : bare v = v := by
 have hM := ask_of h h9
 obtain ⟨n, s, M⟩ := v
 simp only at hM
 subst hM
 rfl
theorem last_in {K V : List Vl'} (hl : K.length = V.length) {k x : Vl'} (hx : x ∈ K) (hk : sameK x k = true) : lastP (K.zip V) k ∈ K.zip V ∧ sameK (lastP (K.zip V) k).1 k = true := by
 unfold lastP
 obtain ⟨i, hi, rfl⟩ := List.mem_iff_getElem.1 hx
 have hz : (K[i], V[i]) ∈ K.zip V := by
  rw [List.mem_iff_getElem]
  exact ⟨i, by rw [List.length_zip]; omega, List.getElem_zip⟩
 cases h : (K.zip V).reverse.find? fun p => sameK p.1 k with
 | none =>
  rw [List.find?_eq_none] at h
  exact absurd hk (h _ (List.mem_reverse.2 hz))
 | some p =>
  have h1 := List.find?_some h
  have h2 := List.mem_of_find?_eq_some h
  exact ⟨List.mem_reverse.1 h2, h1⟩
theorem last_risen {K V : List Vl'} (hl : K.length = V.length) {k : Vl'} (hk : k ∈ risen K) : lastP (K.zip V) k ∈ K.zip V ∧ sameK (lastP (K.zip V) k).1 k = true := by
 obtain ⟨x, hx, rfl⟩ := mem_risen.1 hk
 exact last_in hl hx (by rw [same_iff]; exact ⟨rfl, rfl⟩)
theorem last_V {K V : List Vl'} (hl : K.length = V.length) {k : Vl'} (hk : k ∈ risen K) : lastV (K.zip V) k ∈ V := (List.of_mem_zip (last_risen hl hk).1).2
theorem last_apart {K V : List Vl'} (hl : K.length = V.length) : (risen K).Pairwise fun a b => lastP (K.zip V) a ≠ lastP (K.zip V) b := by
 refine List.Pairwise.imp_of_mem (fun {a b} ha hb hab => ?_) (rise_risen K)
 intro e
 have h1 := (last_risen hl ha).2
 have h2 := (last_risen hl hb).2
 rw [e] at h1
 rw [same_iff] at h1 h2
 rw [lessV_same (h1.1.symm.trans h2.1) (h1.2.symm.trans h2.2)] at hab
 cases hab
theorem last_self {l : List Vl'} (h : ∀ k ∈ l, bare k = k) (g : Vl' → Vl') {k : Vl'} (hk : k ∈ l) : lastV (l.zip (l.map g)) k = g k := by
 have hl : l.length = (l.map g).length := by simp
 obtain ⟨h1, h2⟩ := last_in hl hk (show sameK k k = true by rw [same_iff]; exact ⟨rfl, rfl⟩)
 have e : ∀ p ∈ l.zip (l.map g), p.2 = g p.1 := by
  intro p hp
  obtain ⟨i, hi, rfl⟩ := List.mem_iff_getElem.1 hp
  rw [List.getElem_zip]
  simp
 unfold lastV
 rw [e _ h1]
 have h4 := h k hk
 have h5 := bare_same.2 h2
 obtain ⟨q, hq⟩ : ∃ q, lastP (l.zip (l.map g)) k = q := ⟨_, rfl⟩
 rw [hq] at h1 h5 ⊢
 have h3 := h _ (List.of_mem_zip (show (q.1, q.2) ∈ _ from h1)).1
 rw [← h3, h5, h4]
theorem sm_inj {α β : Type} (g : α → Nat) (h : β → Nat) (r : α → β) : ∀ (l : List α) (m : List β), (∀ a ∈ l, r a ∈ m ∧ g a ≤ h (r a)) → l.Pairwise (fun a b => r a ≠ r b) → sm (l.map g) ≤ sm (m.map h)
 | [], _, _, _ => Nat.zero_le _
 | a :: l, m, h1, h2 => by
  obtain ⟨p1, p2⟩ := List.pairwise_cons.1 h2
  obtain ⟨hm, hg⟩ := h1 a (by simp)
  obtain ⟨m1, m2, rfl⟩ := List.append_of_mem hm
  have ih := sm_inj g h r l (m1 ++ m2) (fun b hb => ⟨by
   have h3 := (h1 b (by simp [hb])).1
   have h4 := p1 b hb
   rcases List.mem_append.1 h3 with h3 | h3
   ·exact List.mem_append.2 (.inl h3)
   ·rcases List.mem_cons.1 h3 with h3 | h3
    ·exact absurd h3.symm h4
    ·exact List.mem_append.2 (.inr h3), (h1 b (by simp [hb])).2⟩) p2
  rw [List.map_append, sm_append] at ih ⊢
  simp only [List.map_cons, sm]
  omega
theorem sm_zip {α β : Type} (f : α → Nat) (g : β → Nat) : ∀ (K : List α) (V : List β), K.length = V.length → sm ((K.zip V).map fun p => f p.1 + g p.2) = sm (K.map f) + sm (V.map g)
 | [], [], _ => rfl
 | k :: K, v :: V, h => by
  have := sm_zip f g K V (by simpa using h)
  simp only [List.zip_cons_cons, List.map_cons, sm, this]
  omega
theorem meas_map {N : Int → Mg → Mg} {ref : Int} {K V : List Vl'} (hl : K.length = V.length) (μ : Vl' → Nat) (hb : ∀ v, μ (bare v) ≤ μ v) (hn : ∀ v ∈ V, μ (norV N ref v) ≤ μ v) :
  sm ((risen K).map μ) + sm (((risen K).map fun k => norV N ref (lastV (K.zip V) k)).map μ) ≤ sm (K.map μ) + sm (V.map μ) := by
 rw [List.map_map, ← sm_add, ← sm_zip μ μ K V hl]
 refine sm_inj _ _ (lastP (K.zip V)) _ _ (fun k hk => ?_) (last_apart hl)
 obtain ⟨h1, h2⟩ := last_risen hl hk
 refine ⟨h1, ?_⟩
 have h3 := hn _ (last_V hl hk)
 have h4 := hb (lastP (K.zip V) k).1
 rw [show bare (lastP (K.zip V) k).1 = k from (bare_same.2 (by rw [same_iff] at h2 ⊢; exact h2)).trans (bare_risen hk)] at h4
 show μ k + μ (norV N ref (lastP (K.zip V) k).2) ≤ _
 unfold lastV at h3
 omega
structure GoodS (G : Int → Mg → Bool) (N : Int → Mg → Mg) (f : Df) (a : So) : Prop where
 is : fillG G f (norS N f a) = true
 same : norS N f (norS N f a) = norS N f a
 told : toldB f a.V = true → toldB f (norS N f a).V = true
 deep : dS (norS N f a) ≤ dS a
 size : zS (norS N f a) ≤ zS a
 cnt : cS (norS N f a) ≤ cS a
 in_ : SIn a → SIn (norS N f a)
 rise : Rise lessV (norS N f a).K
theorem told_ne {f : Df} {l : List Vl'} (h : toldB f l = true) : l ≠ [] := by
 rintro rfl
 cases h
theorem good_slot {G : Int → Mg → Bool} {N : Int → Mg → Mg} (g : Good G N) {f : Df} {a : So} (hk9 : f.key ≠ 9) (h : fillG G f a = true) : GoodS G N f a := by
 unfold fillG at h
 simp only [Bool.and_eq_true, List.all_eq_true] at h
 obtain ⟨h1, h2, h3⟩ := h
 have gv : ∀ v ∈ a.V, GoodV G N f.kind f.ref v := fun v hv => good_val g (h3 v hv)
 obtain ⟨no, K, V⟩ := a
 simp only at h1 h2 h3 gv
 unfold manyB at h1
 by_cases hk : f.key = -1
 ·rw [if_pos hk] at h1
  simp only [Bool.and_eq_true, beq_iff_eq] at h1
  obtain ⟨hK, hV⟩ := h1
  obtain rfl := List.eq_nil_of_length_eq_zero hK
  have e : norS N f ⟨no, [], V⟩ = ⟨no, [], V.map (norV N f.ref)⟩ := by unfold norS; rw [if_pos hk]
  constructor <;> rw [e]
  ·unfold fillG manyB
   rw [if_pos hk]
   simp only [Bool.and_eq_true, List.all_eq_true, List.length_map, List.length_nil]
   refine ⟨⟨rfl, hV⟩, ⟨(fun x hx => absurd hx (by simp)), fun x hx => ?_⟩⟩
   obtain ⟨v, hv, rfl⟩ := List.mem_map.1 hx
   exact (gv v hv).is
  ·unfold norS
   rw [if_pos hk]
   simp only [List.map_map, SL.mk.injEq, true_and]
   exact List.map_congr_left fun v hv => (gv v hv).same
  ·intro ht
   match V, ht, gv with
   | v :: V, ht, gv =>
    unfold toldB at ht ⊢
    simp only [List.map_cons]
    by_cases h9 : f.kind = 9
    ·simp [h9]
    ·rw [(gv v (by simp)).def_ h9]; exact ht
  ·unfold dS
   refine Nat.max_le.2 ⟨by simp [mx], mx_le fun x hx => ?_⟩
   rw [List.map_map] at hx
   obtain ⟨v, hv, rfl⟩ := List.mem_map.1 hx
   exact Nat.le_trans (gv v hv).deep (Nat.le_trans (mem_le_mx hv) (Nat.le_max_right _ _))
  ·unfold zS
   simp only [List.map_map]
   exact Nat.add_le_add_left (sm_mono fun v hv => (gv v hv).size) _
  ·unfold cS
   simp only [List.map_map]
   exact Nat.add_le_add_left (Nat.add_le_add_left (sm_mono fun v hv => (gv v hv).cnt) _) _
  ·rintro ⟨hn, hv⟩
   refine ⟨hn, fun v h => ?_⟩
   rcases h with h | h
   ·cases h
   ·obtain ⟨v, hv', rfl⟩ := List.mem_map.1 h
    exact (gv v hv').in_ (hv v (.inr hv'))
  ·exact List.Pairwise.nil
 ·rw [if_neg hk] at h1
  have hl : K.length = V.length := by simpa using h1
  obtain ⟨H, hH⟩ : ∃ H : Vl' → Vl', H = fun k => norV N f.ref (lastV (K.zip V) k) := ⟨_, rfl⟩
  have e : norS N f ⟨no, K, V⟩ = ⟨no, risen K, (risen K).map H⟩ := by unfold norS; rw [if_neg hk, hH]
  have gH : ∀ k ∈ risen K, ∃ v ∈ V, H k = norV N f.ref v := fun k hk => ⟨_, last_V hl hk, by rw [hH]⟩
  have hme : ∀ μ : Vl' → Nat, (∀ v, μ (bare v) ≤ μ v) → (∀ v ∈ V, μ (norV N f.ref v) ≤ μ v) → sm ((risen K).map μ) + sm (((risen K).map H).map μ) ≤ sm (K.map μ) + sm (V.map μ) := fun μ h4 h5 => by rw [hH]; exact meas_map hl μ h4 h5
  constructor <;> rw [e]
  ·unfold fillG manyB
   rw [if_neg hk]
   simp only [Bool.and_eq_true, List.all_eq_true, List.length_map, beq_self_eq_true, true_and]
   refine ⟨fun k hk' => ?_, fun x hx => ?_⟩
   ·obtain ⟨x, hx, rfl⟩ := mem_risen.1 hk'
    rw [ask_bare (h2 x hx) hk9]
    exact h2 x hx
   ·obtain ⟨k, hk', rfl⟩ := List.mem_map.1 hx
    obtain ⟨v, hv, e2⟩ := gH k hk'
    rw [e2]
    exact (gv v hv).is
  ·unfold norS
   rw [if_neg hk]
   simp only [risen_risen, SL.mk.injEq, true_and]
   refine List.map_congr_left fun k hk' => ?_
   rw [last_self (fun k hk => bare_risen hk) H hk']
   obtain ⟨v, hv, e2⟩ := gH k hk'
   rw [e2]
   exact (gv v hv).same
  ·intro ht
   have hne := told_ne ht
   have hK : K ≠ [] := by
    rintro rfl
    exact hne (List.eq_nil_of_length_eq_zero hl.symm)
   have hr : risen K ≠ [] := by
    intro e2
    obtain ⟨x, hx⟩ := List.exists_mem_of_ne_nil K hK
    have := mem_risen.2 ⟨x, hx, rfl⟩
    rw [e2] at this
    cases this
   show toldB f ((risen K).map H) = true
   match hr2 : risen K, hr with
   | k :: l, _ =>
    unfold toldB
    simp [hk]
  ·unfold dS
   refine Nat.max_le.2 ⟨mx_le fun x hx => ?_, mx_le fun x hx => ?_⟩
   ·obtain ⟨k, hk', rfl⟩ := List.mem_map.1 hx
    rw [← bare_risen hk']
    simp [dV, bare, mx]
   ·obtain ⟨y, hy, rfl⟩ := List.mem_map.1 hx
    obtain ⟨k, hk', rfl⟩ := List.mem_map.1 hy
    obtain ⟨v, hv, e2⟩ := gH k hk'
    rw [e2]
    exact Nat.le_trans (gv v hv).deep (Nat.le_trans (mem_le_mx hv) (Nat.le_max_right _ _))
  ·exact hme zV (fun v => by simp [zV, bare, sm]) fun v hv => (gv v hv).size
  ·have := hme cV (fun v => by simp [cV, bare, sm]) fun v hv => (gv v hv).cnt
   unfold cS
   simp only at this ⊢
   omega
  ·rintro ⟨hn, hv⟩
   refine ⟨hn, fun v h => ?_⟩
   rcases h with h | h
   ·obtain ⟨x, hx, rfl⟩ := mem_risen.1 h
    exact ⟨(hv x (.inl hx)).1, fun y hy => by cases hy⟩
   ·obtain ⟨k, hk', rfl⟩ := List.mem_map.1 h
    obtain ⟨v, hv', e2⟩ := gH k hk'
    rw [e2]
    exact (gv v hv').in_ (hv v (.inr hv'))
  ·exact rise_risen K
theorem pair_dj {fd : Int → Option Df} {l : List So} (h : l.Pairwise (Dj fd)) {a b : So} (ha : a ∈ l) (hb : b ∈ l) (hne : a.no ≠ b.no) : Dj fd a b := by
 obtain ⟨i, hi, rfl⟩ := List.mem_iff_getElem.1 ha
 obtain ⟨j, hj, rfl⟩ := List.mem_iff_getElem.1 hb
 rw [List.pairwise_iff_getElem] at h
 rcases Nat.lt_trichotomy i j with hij | hij | hij
 ·exact h i j hi hj hij
 ·subst hij; exact absurd rfl hne
 ·exact (h j i hj hi hij).symm
theorem find_no {l : List So} (h : l.Pairwise fun a b => a.no ≠ b.no) {a : So} (ha : a ∈ l) : l.find? (fun s => s.no == a.no) = some a := by
 cases h1 : l.find? fun s => s.no == a.no with
 | none =>
  rw [List.find?_eq_none] at h1
  exact absurd (by simp) (h1 a ha)
 | some b =>
  have h2 := List.find?_some h1
  have h3 := List.mem_of_find?_eq_some h1
  have e : b.no = a.no := by simpa using h2
  rw [no_tot h b h3 a ha (by simp [ltNo, e]) (by simp [ltNo, e])]
theorem filterMap_self {α : Type} {g : α → Option α} : ∀ {l : List α}, (∀ b ∈ l, g b = some b) → l.filterMap g = l
 | [], _ => rfl
 | a :: l, h => by rw [List.filterMap_cons_some (h a (by simp)), filterMap_self fun b hb => h b (by simp [hb])]
def KeysOk (s : Sc) : Prop := ∀ m no f, byS s m no = some f → f.key ≠ 9
theorem may_keys {s : Sc} (h : ScMay s) : KeysOk s := by
 intro m no f hf
 unfold byS msgAt at hf
 split at hf
 ·simp at hf
 ·cases hm : s.M[m.toNat]? with
  | none => rw [hm] at hf; simp at hf
  | some d =>
   rw [hm] at hf
   simp only [Option.bind_some] at hf
   rcases ((h.M d (List.mem_of_getElem? hm)).each f (List.mem_of_find?_eq_some hf)).key with h1 | ⟨h1, -⟩
   ·omega
   ·intro e
    rw [e] at h1
    exact absurd h1 (by decide)
theorem good_step {s : Sc} (hk : KeysOk s) {G : Int → Mg → Bool} {N : Int → Mg → Mg} (g : Good G N) : Good (isG s G) (norG s N) := by
 have main : ∀ m x, isG s G m x = true → (decide (0 ≤ m ∧ m < s.M.length) = true) ∧ (∀ a ∈ x.F, ∃ f, byS s m a.no = some f ∧ GoodS G N f a) ∧ x.F.Pairwise (Dj (byS s m)) ∧ (x.F.Pairwise fun a b => a.no ≠ b.no) := by
  intro m x h
  unfold isG at h
  rw [Bool.and_eq_true] at h
  obtain ⟨h0, h⟩ := h
  have hno := slots_no h
  obtain ⟨h1, -, h3⟩ := slots_iff.1 h
  refine ⟨h0, fun a ha => ?_, h3, hno⟩
  obtain ⟨f, hf, hfl⟩ := h1 a ha
  exact ⟨f, hf, good_slot g (hk m a.no f hf) hfl⟩
 have slot : ∀ m x, isG s G m x = true → ∀ b ∈ (norG s N m x).F, ∃ a ∈ x.F, ∃ f, byS s m a.no = some f ∧ GoodS G N f a ∧ toldB f a.V = true ∧ b = norS N f a := by
  intro m x h b hb
  obtain ⟨-, h1, -, hno⟩ := main m x h
  obtain ⟨a, ha, e⟩ := (mem_norF hno).1 hb
  obtain ⟨f, hf, ht, rfl⟩ := norO_some e
  obtain ⟨f', hf', gs⟩ := h1 a ha
  rw [hf] at hf'
  obtain rfl := Option.some.inj hf'
  exact ⟨a, ha, f, hf, gs, ht, rfl⟩
 have sums : ∀ (μ : So → Nat), ∀ m x, isG s G m x = true → (∀ a ∈ x.F, ∀ f, GoodS G N f a → μ (norS N f a) ≤ μ a) → sm ((norG s N m x).F.map μ) ≤ sm (x.F.map μ) := by
  intro μ m x h hμ
  obtain ⟨-, h1, -, hno⟩ := main m x h
  refine sm_inj _ _ (fun b => (x.F.find? fun s => s.no == b.no).getD b) _ _ (fun b hb => ?_) ?_
  ·obtain ⟨a, ha, f, hf, gs, ht, rfl⟩ := slot m x h b hb
   simp only [norS_no, find_no hno ha, Option.getD_some]
   exact ⟨ha, hμ a ha f gs⟩
  ·refine List.Pairwise.imp_of_mem (fun {b c} hb hc hbc => ?_) (rise_norF (byS s m) N x.F)
   obtain ⟨a, ha, f, hf, gs, ht, rfl⟩ := slot m x h b hb
   obtain ⟨a', ha', f', hf', gs', ht', rfl⟩ := slot m x h c hc
   simp only [norS_no, find_no hno ha, find_no hno ha', Option.getD_some]
   intro e
   subst e
   simp [ltNo, norS_no] at hbc
 constructor
 ·intro m x h
  obtain ⟨h0, h1, h3, hno⟩ := main m x h
  unfold isG
  rw [h0, Bool.true_and]
  refine slots_iff.2 ⟨fun b hb => ?_, fun _ _ _ _ => by simp, ?_⟩
  ·obtain ⟨a, ha, f, hf, gs, ht, rfl⟩ := slot m x h b hb
   exact ⟨f, by rw [norS_no]; exact hf, gs.is⟩
  ·refine List.Pairwise.imp_of_mem (fun {b c} hb hc hbc => ?_) (rise_norF (byS s m) N x.F)
   obtain ⟨a, ha, f, hf, gs, ht, rfl⟩ := slot m x h b hb
   obtain ⟨a', ha', f', hf', gs', ht', rfl⟩ := slot m x h c hc
   refine dj_cong (pair_dj h3 ha ha' fun e => ?_) norS_no norS_no
   simp [ltNo, norS_no, e] at hbc
 ·intro m x h
  refine Mg.ext ?_
  show srt ltNo ((norG s N m x).F.filterMap (norO (byS s m) N)) = (norG s N m x).F
  rw [filterMap_self]
  ·exact srt_rise no_irr no_tr (rise_norF (byS s m) N x.F)
  ·intro b hb
   obtain ⟨a, ha, f, hf, gs, ht, rfl⟩ := slot m x h b hb
   unfold norO
   rw [norS_no, hf, Option.bind_some, if_pos (gs.told ht), gs.same]
 ·intro m x h
  rw [Mg.deep_eq, Mg.deep_eq]
  refine Nat.add_le_add_left (mx_le fun y hy => ?_) 1
  obtain ⟨b, hb, rfl⟩ := List.mem_map.1 hy
  obtain ⟨a, ha, f, hf, gs, ht, rfl⟩ := slot m x h b hb
  exact Nat.le_trans gs.deep (mem_le_mx ha)
 ·intro m x h
  rw [Mg.size_eq, Mg.size_eq]
  exact sums zS m x h fun a _ f gs => gs.size
 ·intro m x h
  rw [Mg.cnt_eq, Mg.cnt_eq]
  exact sums cS m x h fun a _ f gs => gs.cnt
 ·intro m x h hi
  refine MIn.of fun b hb => ?_
  obtain ⟨a, ha, f, hf, gs, ht, rfl⟩ := slot m x h b hb
  exact gs.in_ (hi.slot ha)
theorem norB_good {s : Sc} (hk : KeysOk s) : ∀ d, Good (isB s d) (norB s d)
 | 0 => by constructor <;> (intro r x h; cases h)
 | d + 1 => good_step hk (norB_good hk d)
end Go.Proofs.YtckcojkpghiclaaGreatDoor.T9
/-
 Messages as bytes, by plain functions: what a value, a field and a message are as bytes, and how long that is.
-/
namespace Go.Proofs.YtckcojkpghiclaaGreatDoor.T12
set_option maxRecDepth 100000
open Go.Proofs.YtckcojkpghiclaaGreatDoor.T9 Go.Proofs.YtckcojkpghiclaaGreatDoor.T4
end Go.Proofs.YtckcojkpghiclaaGreatDoor.T12
/-
 What a message takes from bytes, by plain functions: records one behind the other, each held against its field.
-/
namespace Go.Proofs.YtckcojkpghiclaaGreatDoor.T11
set_option maxRecDepth 100000
open Go.Proofs.YtckcojkpghiclaaGreatDoor.T9 Go.Proofs.YtckcojkpghiclaaGreatDoor.T4
def winR (d : List UInt8) (r : Rc) : List UInt8 := (d.drop r.frm).take (r.upto - r.frm)
def mapE {α β : Type} (f : α → β) : Except Nat α → Except Nat β
 | .ok x => .ok (f x)
 | .error e => .error e
def foldR {α : Type} (g : List UInt8 → Rc → α → Except Nat α) : Nat → List UInt8 → α → Except Nat α
 | 0, _, x => .ok x
 | n + 1, d, x => if d = [] then .ok x else if (wnext d).2.2 = 0 then (match g d (wnext d).1 x with | .ok y => foldR g n (d.drop (wnext d).2.1) y | .error e => .error e) else .error (wnext d).2.2
def decR {α : Type} (g : List UInt8 → Rc → α → Except Nat α) (d : List UInt8) (x : α) : Except Nat α := foldR g d.length d x
def blankV (k : Int) : Vl' := ⟨0, [], if k = 9 then [.mk []] else []⟩
def takeV (sub : Int → List UInt8 → Mg → Except Nat Mg) (kind ref : Int) (d : List UInt8) (r : Rc) (v : Vl') : Except Nat Vl' :=
 if (r.wire : Int) ≠ wireI kind then .error 8
 else if kind = 9 then mapE (fun y => ⟨v.n, v.s, y :: v.M.tail⟩) (sub ref (winR d r) (v.M.headD (.mk [])))
 else if kind = 7 then (if first (winR d r) = (winR d r).length then .ok ⟨v.n, winR d r, v.M⟩ else .error 10)
 else if kind = 8 then .ok ⟨v.n, winR d r, v.M⟩
 else .ok ⟨ofI kind r.num, v.s, v.M⟩
def onSlot (no : Int) (g : So → Except Nat So) : List So → Except Nat (List So)
 | [] => mapE (fun t => [t]) (g ⟨no, [], []⟩)
 | t :: l => if t.no = no then mapE (fun u => (u :: l)) (g t) else mapE (fun l' => (t :: l')) (onSlot no g l)
def pairD (sub : Int → List UInt8 → Mg → Except Nat Mg) (f : Df) (d : List UInt8) (r : Rc) (p : Vl' × Vl') : Except Nat (Vl' × Vl') :=
 if r.no = 1 then mapE (fun k => (k, p.2)) (takeV sub f.key 0 d r p.1)
 else if r.no = 2 then mapE (fun v => (p.1, v)) (takeV sub f.kind f.ref d r p.2)
 else .ok p
def entryS (n : Nat) (sub : Int → List UInt8 → Mg → Except Nat Mg) (f : Df) (d : List UInt8) (r : Rc) (t : So) : Except Nat So :=
 if r.wire ≠ 2 then .error 8 else if f.kind = 9 ∧ n = 0 then .error 11
 else mapE (fun p => ⟨t.no, t.K ++ [p.1], t.V ++ [p.2]⟩) (decR (pairD sub f) (winR d r) (blankV f.key, blankV f.kind))
def packedS (f : Df) (d : List UInt8) (r : Rc) (t : So) : Except Nat So :=
 if (numsK f.kind (winR d r)).2 = 0 then .ok ⟨t.no, t.K, t.V ++ (numsK f.kind (winR d r)).1.map fun n => ⟨n, [], []⟩⟩ else .error (numsK f.kind (winR d r)).2
def repS (sub : Int → List UInt8 → Mg → Except Nat Mg) (f : Df) (d : List UInt8) (r : Rc) (t : So) : Except Nat So :=
 mapE (fun v => ⟨t.no, t.K, t.V ++ [v]⟩) (takeV sub f.kind f.ref d r (blankV f.kind))
def onlyS (sub : Int → List UInt8 → Mg → Except Nat Mg) (f : Df) (d : List UInt8) (r : Rc) (t : So) : Except Nat So :=
 mapE (fun v => ⟨t.no, t.K, v :: t.V.tail⟩) (takeV sub f.kind f.ref d r (t.V.headD (blankV f.kind)))
def leaveL (fd : Int → Option Df) (f : Df) (l : List So) : List So :=
 if f.one = 0 then l else l.filter fun t => !(match fd t.no with | none => decide (0 = f.one ∧ 0 ≠ f.no) | some o => decide (o.one = f.one ∧ o.no ≠ f.no))
def slotD (n : Nat) (sub : Int → List UInt8 → Mg → Except Nat Mg) (f : Df) (d : List UInt8) (r : Rc) : So → Except Nat So :=
 if f.key ≠ -1 then entryS n sub f d r else if f.rep = true ∧ r.wire = 2 ∧ cnt f.kind = true then packedS f d r else if f.rep = true then repS sub f d r else onlyS sub f d r
def fieldD (fd : Int → Option Df) (n : Nat) (sub : Int → List UInt8 → Mg → Except Nat Mg) (d : List UInt8) (r : Rc) (l : List So) : Except Nat (List So) :=
 match fd r.no with
 | none => .ok l
 | some f => onSlot f.no (slotD n sub f d r) (if f.key = -1 ∧ f.rep = false then leaveL fd f l else l)
def decM (s : Sc) : Nat → Int → List UInt8 → Mg → Except Nat Mg
 | 0 => fun _ _ _ => .error 11
 | n + 1 => fun m d x => mapE (fun l => (.mk l)) (decR (fieldD (byS s m) n (decM s n)) d x.F)
def wholeM (s : Sc) (m : Int) (d : List UInt8) : Mg × Nat := match decM s 64 m d (.mk []) with | .ok x => (norB s 64 m x, 0) | .error e => (.mk [], e)
theorem wnext_pos {d : List UInt8} (h : (wnext d).2.2 = 0) : 2 ≤ (wnext d).2.1 ∧ (wnext d).2.1 ≤ d.length := by
 have hw : wnext d = ((wnext d).1, (wnext d).2.1, 0) := by rw [← h]
 have := wnext_le hw
 exact ⟨this.1, this.2.1⟩
theorem foldR_fuel {α : Type} (g : List UInt8 → Rc → α → Except Nat α) : ∀ (n m : Nat) (d : List UInt8) (x : α), d.length ≤ n → d.length ≤ m → foldR g n d x = foldR g m d x := by
 intro n
 induction n with
 | zero =>
  intro m d x h1 _
  obtain rfl : d = [] := List.eq_nil_of_length_eq_zero (by omega)
  cases m <;> simp [foldR]
 | succ n ih =>
  intro m d x h1 h2
  cases m with
  | zero =>
   obtain rfl : d = [] := List.eq_nil_of_length_eq_zero (by omega)
   simp [foldR]
  | succ m =>
   unfold foldR
   by_cases hd : d = []
   ·rw [if_pos hd, if_pos hd]
   ·rw [if_neg hd, if_neg hd]
    by_cases he : (wnext d).2.2 = 0
    ·rw [if_pos he, if_pos he]
     obtain ⟨p1, p2⟩ := wnext_pos he
     cases g d (wnext d).1 x with
     | error e => rfl
     | ok y => exact ih m _ y (by rw [List.length_drop]; omega) (by rw [List.length_drop]; omega)
    ·rw [if_neg he, if_neg he]
theorem decR_nil {α : Type} (g : List UInt8 → Rc → α → Except Nat α) (x : α) : decR g [] x = .ok x := rfl
theorem decR_err {α : Type} (g : List UInt8 → Rc → α → Except Nat α) {d : List UInt8} (x : α) (hd : d ≠ []) (h : (wnext d).2.2 ≠ 0) : decR g d x = .error (wnext d).2.2 := by
 unfold decR
 obtain ⟨n, hn⟩ : ∃ n, d.length = n + 1 := ⟨d.length - 1, by have := List.length_pos_iff.2 hd; omega⟩
 rw [hn]; unfold foldR
 rw [if_neg hd, if_neg h]
theorem foldR_step {α : Type} (g : List UInt8 → Rc → α → Except Nat α) (n : Nat) (d : List UInt8) (x : α) : foldR g (n + 1) d x = if d = [] then .ok x else if (wnext d).2.2 = 0 then (match g d (wnext d).1 x with | .ok y => foldR g n (d.drop (wnext d).2.1) y | .error e => .error e) else .error (wnext d).2.2 := rfl
theorem decR_cons {α : Type} (g : List UInt8 → Rc → α → Except Nat α) {d : List UInt8} {r : Rc} {p : Nat} (x : α) (h : wnext d = (r, p, 0)) : decR g d x = match g d r x with | .ok y => decR g (d.drop p) y | .error e => .error e := by
 have hle := wnext_le h
 have hd : d ≠ [] := by intro e; subst e; simp at hle; omega
 unfold decR
 obtain ⟨n, hn⟩ : ∃ n, d.length = n + 1 := ⟨d.length - 1, by have := List.length_pos_iff.2 hd; omega⟩
 rw [hn, foldR_step, if_neg hd, h, if_pos rfl]
 cases g d r x with
 | error e => rfl
 | ok y => exact foldR_fuel g n (d.drop p).length (d.drop p) y (by rw [List.length_drop]; omega) (Nat.le_refl _)
theorem winR_local {d : List UInt8} {r : Rc} {p : Nat} (h : wnext d = (r, p, 0)) (t : List UInt8) : winR (d.take p ++ t) r = winR d r := by
 obtain ⟨h1, h2, h3, h4, h5⟩ := wnext_le h
 unfold winR
 have hl : (d.take p).length = p := by rw [List.length_take]; omega
 have hx : r.upto - r.frm ≤ ((d.take p).drop r.frm).length := by rw [List.length_drop, hl, h3]; exact Nat.le_refl _
 rw [List.drop_append_of_le_length (show r.frm ≤ (d.take p).length by omega), List.take_append_of_le_length hx, List.drop_take, List.take_take]
 congr 1
 omega
def Local {α : Type} (g : List UInt8 → Rc → α → Except Nat α) : Prop := ∀ d d' r x, winR d r = winR d' r → g d r x = g d' r x
theorem decR_append {α : Type} {g : List UInt8 → Rc → α → Except Nat α} (hg : Local g) (b : List UInt8) : ∀ (n : Nat) (a : List UInt8) (x y : α), a.length ≤ n → decR g a x = .ok y → decR g (a ++ b) x = decR g b y := by
 intro n
 induction n with
 | zero =>
  intro a x y hn h
  obtain rfl : a = [] := List.eq_nil_of_length_eq_zero (by omega)
  rw [decR_nil] at h
  obtain rfl := Except.ok.inj h
  rfl
 | succ n ih =>
  intro a x y hn h
  by_cases ha : a = []
  ·subst ha
   rw [decR_nil] at h
   obtain rfl := Except.ok.inj h
   rfl
  ·by_cases he : (wnext a).2.2 = 0
   ·have hw : wnext a = ((wnext a).1, (wnext a).2.1, 0) := by rw [← he]
    obtain ⟨p1, p2⟩ := wnext_pos he
    obtain ⟨r, hr⟩ : ∃ r, (wnext a).1 = r := ⟨_, rfl⟩
    obtain ⟨p, hp⟩ : ∃ p, (wnext a).2.1 = p := ⟨_, rfl⟩
    rw [hr, hp] at hw
    rw [hp] at p1 p2
    have hab : a ++ b = a.take p ++ (a.drop p ++ b) := by rw [← List.append_assoc, List.take_append_drop]
    have hw2 : wnext (a ++ b) = (r, p, 0) := by rw [hab]; exact wnext_local hw _
    rw [decR_cons g x hw] at h
    rw [decR_cons g x hw2, hg (a ++ b) a r x (by rw [hab]; exact winR_local hw _), List.drop_append_of_le_length p2]
    cases hgx : g a r x with
    | error e => rw [hgx] at h; cases h
    | ok z =>
     rw [hgx] at h
     exact ih (a.drop p) z y (by rw [List.length_drop]; omega) h
   ·rw [decR_err g x ha he] at h; cases h
end Go.Proofs.YtckcojkpghiclaaGreatDoor.T11
/-
 The slot of a number, by its place: pure.
-/
namespace Go.Proofs.YtckcojkpghiclaaGreatDoor.T11
set_option maxRecDepth 100000
open Go.Proofs.YtckcojkpghiclaaGreatDoor.T9 Go.Proofs.YtckcojkpghiclaaGreatDoor.T4
theorem mapE_map {α β γ : Type} (f : α → β) (g : β → γ) (a : Except Nat α) : mapE g (mapE f a) = mapE (fun x => g (f x)) a := by cases a <;> rfl
theorem onSlot_at (no : Int) (g : So → Except Nat So) : ∀ (l : List So) (i : Nat) (t : So), l[i]? = some t → t.no = no → (∀ (k : Nat) (u : So), k < i → l[k]? = some u → u.no ≠ no) → onSlot no g l = mapE (fun u => l.set i u) (g t)
 | [], _, _, h, _, _ => by simp at h
 | a :: l, 0, t, h, ht, _ => by
  obtain rfl : a = t := by simpa using h
  unfold onSlot
  rw [if_pos ht]
  rfl
 | a :: l, i + 1, t, h, ht, hf => by
  have ha : a.no ≠ no := hf 0 a (by omega) rfl
  unfold onSlot
  rw [if_neg ha, onSlot_at no g l i t (by simpa using h) ht (fun k u hk hu => hf (k + 1) u (by omega) (by simpa using hu)), mapE_map]
  rfl
theorem onSlot_new (no : Int) (g : So → Except Nat So) : ∀ (l : List So), (∀ u ∈ l, u.no ≠ no) → onSlot no g l = mapE (fun u => l ++ [u]) (g ⟨no, [], []⟩)
 | [], _ => rfl
 | a :: l, h => by
  unfold onSlot
  rw [if_neg (h a (List.mem_cons_self ..)), onSlot_new no g l (fun u hu => h u (List.mem_cons_of_mem _ hu)), mapE_map]
  rfl
theorem slot_cases (no : Int) : ∀ (l : List So), (∃ i t, l[i]? = some t ∧ t.no = no ∧ ∀ (k : Nat) (u : So), k < i → l[k]? = some u → u.no ≠ no) ∨ ∀ u ∈ l, u.no ≠ no
 | [] => .inr (fun u hu => by cases hu)
 | a :: l => by
  by_cases ha : a.no = no
  ·exact .inl ⟨0, a, rfl, ha, fun k u hk => absurd hk (Nat.not_lt_zero _)⟩
  ·rcases slot_cases no l with ⟨i, t, h1, h2, h3⟩ | h
   ·refine .inl ⟨i + 1, t, by rw [List.getElem?_cons_succ]; exact h1, h2, fun k u hk hu => ?_⟩
    cases k with
    | zero =>
         obtain rfl : a = u := by simpa using hu
         exact ha
    | succ k => exact h3 k u (by omega) (by simpa using hu)
   ·exact .inr (fun u hu => (List.mem_cons.1 hu).elim (fun e => e ▸ ha) (h u))
end Go.Proofs.YtckcojkpghiclaaGreatDoor.T11
/-
 How deep, and what is taken into: the contracts of deeper and blank.
-/
namespace Go.Proofs.YtckcojkpghiclaaGreatDoor.T11
set_option maxRecDepth 100000
open Go.RowKit
theorem deeper_yes (d : Int) (h0 : 0 ≤ d) (h : d < 64) (w : World) : Calls Tryz.prog 196 #[.int .i64 d] w fun e w' => e = .returned (.int .i64 (d + 1)) ∧ w' = w := by
 have h1 : decide (d < 64) = true := decide_eq_true h
 go_enter Tryz.func196, Tryz.ntmps196
 go_wp2_with fail
 refine (must_yes 11 w).mono ?_
 rintro e w1 ⟨rfl, rfl⟩
 go_wp2
 go_ret
 exact ⟨rfl, rfl⟩
theorem deeper_no (d : Int) (h : 64 ≤ d) (w : World) : Calls Tryz.prog 196 #[.int .i64 d] w fun r w' => r = .panicked [{ v := errP (11 : Nat), recovered := false }] ∧ w' = w := by
 have h1 : decide (d < 64) = false := decide_eq_false (by omega)
 have HM := Lib.hid (must_no (11 : Nat) w)
 go_enter Tryz.func196, Tryz.ntmps196
 go_wp2_with fail
 refine HM.out.mono ?_
 rintro e w1 ⟨rfl, rfl⟩
 go_wp2
 exact ⟨rfl, rfl, rfl⟩
theorem blank_num (k : Int) (h : k ≠ 9) (w : World) : Calls Tryz.prog 197 #[.int .i64 k] w fun e w' => e = .returned (.agg #[.int .i64 0, .string { data := #[] }, .slice none 0 0]) ∧ Below w.heap.size w w' := by
 have h1 : (k == 9) = false := by rw [beq_eq_false_iff_ne]; exact h
 go_enter Tryz.func197, Tryz.ntmps197
 go_wp2
 refine bodyPost_ret (results_cell_row rfl _ _ w.heap.size 81 _ (0, 0) _ rfl (heap_alloc_last w _) Tryz.underlying81 rfl (by kernel_rfl)) rfl ?_
 exact ⟨rfl, below_new w _⟩
set_option maxRecDepth 1000000 in
set_option maxHeartbeats 4000000 in
theorem take_num (vM vE vB : Value) (p : Addr) (kind ref no wire : Int) (num : Nat) (frm upto deep : Int) (hk : cnt kind = true) (hw : wire = wireI kind) (hn : num < 18446744073709551616) (w : World) (old : Value) (hp : p.block < w.heap.size) (hc : w.cell? p = some old) (hz : w.frozen? p = false) :
  Calls Tryz.prog 198 #[.agg #[vM, vE, vB], .pointer (some p), .int .i64 kind, .int .i64 ref, .agg #[.int .i64 no, .int .i64 wire, .int .u64 num, .int .i64 frm, .int .i64 upto], .int .i64 deep] w fun e w' => e = .returned (.tuple #[]) ∧ ∃ w2, Below w.heap.size w w2 ∧ w' = w2.setCell p (.int .i64 (ofI kind (num : Int))) := by
 have hkr : 0 ≤ kind ∧ kind < 7 := by simpa [cnt] using hk
 have k9 : (kind == 9) = false := by rw [beq_eq_false_iff_ne]; omega
 have k8 : (kind == 8) = false := by rw [beq_eq_false_iff_ne]; omega
 have k7 : (kind == 7) = false := by rw [beq_eq_false_iff_ne]; omega
 have HOF := Lib.hid (fun wx => of_any kind (num : Int) (by omega) (by omega) wx)
 have HW := Lib.hid (fun wx => wire_any kind wx)
 have HY := Lib.hid (fun wx => must_yes 8 wx)
 rw [hk] at HOF
 rw [← hw] at HW
 go_enter Tryz.func198, Tryz.ntmps198
 go_wp2_with fail
 obtain ⟨wf, hwf⟩ : ∃ wf, (w.alloc (Obj.cells #[vM, vE, vB] 113)).alloc (Obj.cells #[.int .i64 no, .int .i64 (wireI kind), .int .u64 num, .int .i64 frm, .int .i64 upto] 41) = wf := ⟨_, rfl⟩
 have X1 : wf.heap[w.heap.size + 1]? = some (Obj.cells #[.int .i64 no, .int .i64 (wireI kind), .int .u64 num, .int .i64 frm, .int .i64 upto] 41) := by
  have h := heap_alloc_new (w.alloc (Obj.cells #[vM, vE, vB] 113)) (Obj.cells #[.int .i64 no, .int .i64 (wireI kind), .int .u64 num, .int .i64 frm, .int .i64 upto] 41)
  rw [hwf] at h
  have hs : (w.alloc (Obj.cells #[vM, vE, vB] 113)).heap.size = w.heap.size + 1 := by simp
  rw [hs] at h
  exact h
 have hb0 : Below w.heap.size w wf := by
  rw [← hwf]
  exact (below_new w _).alloc (by simp) _
 rw [← hw] at X1
 have HSX : Hid (∀ wx, Below wf.heap.size wf wx → (wx.cell? ⟨w.heap.size + 1, 1, none⟩ = some (.int .i64 wire) ∧ wx.cell? ⟨w.heap.size + 1, 2, none⟩ = some (.int .u64 num)) ∧ wx.cell? p = some old ∧ wx.frozen? p = false) := Lib.hid (fun wx hx => by
  have Y := (hx.block _ (Array.getElem?_eq_some_iff.1 X1).1).trans X1
  have hb := below_then hb0 hx
  exact ⟨⟨by simp [World.cell?, Y], by simp [World.cell?, Y]⟩, (hb.cell hp).trans hc, (hb.frozen hp).trans hz⟩)
 rw [hwf]
 have LD : Below wf.heap.size wf wf.drew := (Below.refl _ _).drew
 have hww : (wire == wire) = true := by simp
 have HB0 := Lib.hid hb0
 clear hwf X1 hb0 hc hz
 go_region_held3 (fun wx => (wx.cell? ⟨w.heap.size + 1, 1, none⟩ = some (.int .i64 wire) ∧ wx.cell? ⟨w.heap.size + 1, 2, none⟩ = some (.int .u64 num)) ∧ wx.cell? p = some old ∧ wx.frozen? p = false)
  (first | exact HSX.out _ LD | exact HSX.out _ L6 | go_keep)
  ((first
   | (go_at_call 80; refine (HW.out _).mono ?_; rintro e w6 ⟨rfl, hb6⟩; have L6 := LD.trans hb6)
   | (go_at_call 62; refine (HY.out _).mono ?_; rintro e w7 ⟨rfl, rfl⟩)
   | fail))
 all_goals
  go_wp2_with fail
  refine (HOF.out _).mono ?_
  rintro e w8 ⟨rfl, hb8⟩
  have L8 := below_then L6 hb8
  obtain ⟨-, P1, P2⟩ := HSX.out _ L8
  have HB8 := Lib.hid (below_then HB0.out L8)
  clear hb8 L8
  go_wp2
  go_end0
  exact ⟨rfl, _, HB8.out, rfl⟩
end Go.Proofs.YtckcojkpghiclaaGreatDoor.T11
/-
 The slot of a number: the contract of slotOf where there is one.
-/
namespace Go.Proofs.YtckcojkpghiclaaGreatDoor.T11
set_option maxRecDepth 100000
open Go.RowKit
theorem slot_at {w : World} {A : Option Addr} {c : Nat} {xs : List Value} {nos : List Int} (h : Sl w A nos.length c 3 xs) (hN : ∀ k x, nos[k]? = some x → xs[k * 3]? = some (.int .i64 x)) {k : Nat} (hk : k < nos.length) : ∃ ad x, A = some ad ∧ nos[k]? = some x ∧ w.cell? (ad.add (k * 3)) = some (.int .i64 x) := by
 obtain ⟨ad, rfl, hb, hcell⟩ := Sl.there h (by omega)
 exact ⟨ad, nos[k], rfl, List.getElem?_eq_getElem hk, hcell _ _ (hN k _ (List.getElem?_eq_getElem hk))⟩
set_option maxRecDepth 1000000 in
set_option maxHeartbeats 4000000 in
theorem slotOf_old (p : Addr) (no : Int) (A : Option Addr) (c : Nat) (xs : List Value) (nos : List Int) (i : Nat) (w : World) (hF : w.cell? p = some (.slice A nos.length c)) (hS : Sl w A nos.length c 3 xs) (hsm : nos.length ≤ 1000000000)
  (hN : ∀ k x, nos[k]? = some x → xs[k * 3]? = some (.int .i64 x)) (hi : nos[i]? = some no) (hfirst : ∀ k, k < i → nos[k]? ≠ some no) :
  Calls Tryz.prog 149 #[.pointer (some p), .int .i64 no] w fun e w' => (∃ ad, A = some ad ∧ e = .returned (.pointer (some (ad.add (i * 3))))) ∧ w' = w := by
 have hin : i < nos.length := (List.getElem?_eq_some_iff.1 hi).1
 have HI := Lib.hid hi
 have HF := Lib.hid hfirst
 have HN := Lib.hid hN
 have HS := Lib.hid hS
 clear hi hfirst hN hS
 go_enter Tryz.func149, Tryz.ntmps149
 go_wp2
 go_loopw [11] (fun i' wr => ∃ k : Nat, i' = .int .i64 k ∧ k ≤ i ∧ wr = w) (fun i' _ => nos.length - (intOf i').toNat)
 case atStart => exact ⟨0, rfl, by omega, rfl⟩
 case round =>
  obtain ⟨k, rfl, hk, rfl⟩ := hrel
  have hkl : k < nos.length := by omega
  obtain ⟨ad, x, rfl, hx, c0⟩ := slot_at HS.out HN.out hkl
  have hkm : k * 3 < 9223372036854775807 := by omega
  by_cases hki : k = i
  ·subst hki
   obtain rfl : x = no := by have := hx.symm.trans HI.out; injection this
   have hxx : (x == x) = true := by simp
   clear hx
   go_wp2
   go_ret
   exact ⟨⟨ad, rfl, rfl⟩, rfl⟩
  ·have hne : (x == no) = false := by
    rw [beq_eq_false_iff_ne]
    rintro rfl
    exact HF.out k (by omega) hx
   clear hx
   go_wp2
   exact ⟨⟨k + 1, by go_num, by omega, trivial⟩, by simp [intOf]; omega⟩
end Go.Proofs.YtckcojkpghiclaaGreatDoor.T11
/-
 Append of a slice onto a row of the call's own, behind a guard that holds.
-/
namespace Go.Proofs.YtckcojkpghiclaaGreatDoor
set_option maxRecDepth 100000
open Go.RowKit
end Go.Proofs.YtckcojkpghiclaaGreatDoor
/-
 The slot of a number: the contract of slotOf where there is none yet.
-/
namespace Go.Proofs.YtckcojkpghiclaaGreatDoor.T11
set_option maxRecDepth 100000
open Go.RowKit
theorem info_slot : (Tryz.prog.info? 67).map (fun i => (i.zero, i.size, i.bytes)) = some (some (.agg #[.int .i64 0, .slice none 0 0, .slice none 0 0]), 3, 56) := by kernel_rfl
theorem own_there2 {w : World} {base : Nat} {e : TypeId} {size : Nat} {v : Value} {n : Nat} {xs : List Value} (h : w.ownsRow base e size v n xs) (hn : 0 < n) (hs : 0 < size) : ∃ g cap, v = .slice (some ⟨g, 0, none⟩) n cap ∧ base ≤ g := by
 rcases h.2 with ⟨rfl, rfl⟩ | ⟨g, cap, cur, rfl, hb, _⟩
 ·have := h.1
  have h0 := Nat.mul_pos hn hs
  simp at this
  omega
 ·exact ⟨g, cap, rfl, hb⟩
theorem cell_grown {w w' : World} {r : Option Nat} {p : Addr} {v : Value} (hp : p.block < w.heap.size) (hr : ∀ k, r = some k → k ≠ p.block) (hg : w.grownBy w' r) (h : w.cell? p = some v) : w'.cell? p = some v :=
 (World.cell?_of_block (w := w) (hg.block p.block hp (fun e => hr _ e.symm rfl))).trans h
theorem frozen_grown {w w' : World} {r : Option Nat} {p : Addr} {b : Bool} (hp : p.block < w.heap.size) (hr : ∀ k, r = some k → k ≠ p.block) (hg : w.grownBy w' r) (h : w.frozen? p = b) : w'.frozen? p = b :=
 (World.frozen?_of_block (w := w) (hg.block p.block hp (fun e => hr _ e.symm rfl))).trans h
theorem grown_alloc {w w' : World} {o : Obj} {r : Option Nat} (h : (w.alloc o).grownBy w' r) : w.grownBy w' r := by
 have hs : (w.alloc o).heap.size = w.heap.size + 1 := by simp
 exact ⟨h.os, h.tape, h.output, by have := h.size; omega, fun k hk e => (h.block k (by omega) e).trans ((below_new w o).block k hk)⟩
end Go.Proofs.YtckcojkpghiclaaGreatDoor.T11
