/-
 Messages that a schema allows,by plain functions: what is of a kind,what is of a message.
-/
import Derived.Test.YtckcojkpghiclaaGreatDoorTrSet
import Derived.Test.YtckcojkpghiclaaGreatDoorConvRules
import Derived.Test.YtckcojkpghiclaaGreatDoorProMath
import Derived.OpenShut
import Derived.Deep.AppendLies
import Derived.Deep.RegionLaw
import Derived.Deep.RegionHeldLaw
namespace Go.Proofs.YtckcojkpghiclaaGreatDoor.T9
set_option maxRecDepth 100000
open Go.Proofs.YtckcojkpghiclaaGreatDoor.T4
def utfB (s:List UInt8):Bool:=fineB s 0 s.length
def oneB (f:Mg → Bool):List Mg → Bool
 | [x]=>f x
 | _=>false
theorem oneB_ne {f:Mg → Bool} {l:List Mg} (h:l.length ≠ 1):oneB f l = false:=by
 match l,h with
 | [],_=>rfl
 | _ :: _ :: _,_=>rfl
def askG (G:Int → Mg → Bool) (kind ref:Int) (v:Vl'):Bool :=
 if kind = 7 then (v.n == 0) && (utfB v.s && v.M.isEmpty)
 else if kind = 8 then (v.n == 0) && v.M.isEmpty
 else if kind = 9 then (v.n == 0) && (v.s.isEmpty && oneB (G ref) v.M)
 else fitsB kind v.n && (v.s.isEmpty && v.M.isEmpty)
def manyB (f:Df) (k v:Nat):Bool:=if f.key = -1 then (k == 0) && (f.rep || v == 1) else k == v
def fillG (G:Int → Mg → Bool) (f:Df) (s:So):Bool:=manyB f s.K.length s.V.length && (s.K.all (askG G f.key 0) && s.V.all (askG G f.kind f.ref))
def claimsOf (f:Df):List (Int × Int):=if f.one = 0 then [(f.no,0)] else [(0,f.one),(f.no,0)]
def claimB (cl:List (Int × Int)) (f:Df):Bool:=!cl.contains (f.no,0) && (f.one == 0 || !((f.no,0) :: cl).contains (0,f.one))
def slotsG (fd:Int → Option Df) (fill:Df → So → Bool):List (Int × Int) → List So → Bool
 | _,[]=>true
 | cl,s :: l=>match fd s.no with
  | none=>false
  | some f=>claimB cl f && (fill f s && slotsG fd fill (claimsOf f ++ cl) l)
def isG (s:Sc) (G:Int → Mg → Bool) (m:Int) (x:Mg):Bool:=decide (0 ≤ m ∧ m < s.M.length) && slotsG (byS s m) (fillG G) [] x.F
def isB (s:Sc):Nat → Int → Mg → Bool
 | 0=>fun _ _=>false
 | d + 1=>isG s (isB s d)
open Classical in
noncomputable def mayT (s:Sc) (m:Int) (x:Mg):Bool:=decide (ScMay s) && isB s 64 m x
theorem slotsG_cons {fd:Int → Option Df} {fill:Df → So → Bool} {cl:List (Int × Int)} {s:So} {l:List So}:slotsG fd fill cl (s :: l) = match fd s.no with | none=>false | some f=>claimB cl f && (fill f s && slotsG fd fill (claimsOf f ++ cl) l):=rfl
theorem drop_cons {α:Type} {l:List α} {k:Nat} {a:α} (h:l[k]? = some a):l.drop k = a :: l.drop (k + 1):=by
 obtain ⟨hk,rfl⟩:=List.getElem?_eq_some_iff.1 h
 exact List.drop_eq_getElem_cons hk
theorem ask_of {G:Int → Mg → Bool} {kind ref:Int} {v:Vl'} (h:askG G kind ref v = true) (h9:kind ≠ 9):v.M = []:=by
 unfold askG at h
 repeat' split at h
 all_goals simp_all
end Go.Proofs.YtckcojkpghiclaaGreatDoor.T9
namespace Go.Proofs.YtckcojkpghiclaaGreatDoor.T9
set_option maxRecDepth 100000
section
variable {α:Type}
def insL (lt:α → α → Bool) (x:α):List α → List α
 | []=>[x]
 | a :: l=>if lt x a = true then x :: a :: l else if lt a x = true then a :: insL lt x l else a :: l
def srt (lt:α → α → Bool) (l:List α):List α:=l.foldr (insL lt) []
def Rise (lt:α → α → Bool) (l:List α):Prop:=l.Pairwise fun a b=>lt a b = true
variable {lt:α → α → Bool}
theorem mem_insL_sub {x y:α}:∀ {l:List α},y ∈ insL lt x l → y = x ∨ y ∈ l
 | [],h=>.inl (by simpa [insL] using h)
 | a :: l,h=>by
  unfold insL at h
  split at h
  ·simpa using h
  ·split at h
   ·rcases List.mem_cons.1 h with h | h
    ·exact .inr (by simp [h])
    ·rcases mem_insL_sub h with h | h
     ·exact .inl h
     ·exact .inr (by simp [h])
   ·exact .inr h
theorem mem_insL_old {x y:α}:∀ {l:List α},y ∈ l → y ∈ insL lt x l
 | a :: l,h=>by
  unfold insL
  split
  ·simp [List.mem_cons.1 h]
  ·split
   ·rcases List.mem_cons.1 h with h | h
    ·simp [h]
    ·exact List.mem_cons_of_mem _ (mem_insL_old h)
   ·exact h
theorem mem_insL_new {x:α}:∀ {l:List α},(∀ a ∈ l,lt x a = false → lt a x = false → x = a) → x ∈ insL lt x l
 | [],_=>by simp [insL]
 | a :: l,h=>by
  unfold insL
  split
  ·simp
  ·rename_i h1
   split
   ·exact List.mem_cons_of_mem _ (mem_insL_new fun b hb=>h b (by simp [hb]))
   ·rename_i h2
    rw [h a (by simp) (by simpa using h1) (by simpa using h2)]
    simp
theorem rise_insL (tr:∀ a b c,lt a b = true → lt b c = true → lt a c = true) {x:α}:∀ {l:List α},Rise lt l → Rise lt (insL lt x l)
 | [],_=>List.pairwise_singleton _ _
 | a :: l,h=>by
  obtain ⟨h1,h2⟩:=List.pairwise_cons.1 h
  unfold insL
  split
  ·rename_i hx
   refine List.pairwise_cons.2 ⟨fun b hb=>?_,h⟩
   rcases List.mem_cons.1 hb with rfl | hb
   ·exact hx
   ·exact tr _ _ _ hx (h1 b hb)
  ·split
   ·rename_i hx
    refine List.pairwise_cons.2 ⟨fun b hb=>?_,rise_insL tr h2⟩
    rcases mem_insL_sub hb with rfl | hb
    ·exact hx
    ·exact h1 b hb
   ·exact h
theorem rise_srt (tr:∀ a b c,lt a b = true → lt b c = true → lt a c = true):∀ l:List α,Rise lt (srt lt l)
 | []=>List.Pairwise.nil
 | _ :: l=>rise_insL tr (rise_srt tr l)
theorem mem_srt_sub {y:α}:∀ {l:List α},y ∈ srt lt l → y ∈ l
 | x :: l,h=>by
  rcases mem_insL_sub (show y ∈ insL lt x (srt lt l) from h) with h | h
  ·simp [h]
  ·exact List.mem_cons_of_mem _ (mem_srt_sub h)
theorem mem_srt {l:List α} (h:∀ a ∈ l,∀ b ∈ l,lt a b = false → lt b a = false → a = b) {y:α}:y ∈ srt lt l ↔ y ∈ l:=by
 refine ⟨mem_srt_sub,fun hy=>?_⟩
 induction l with
 | nil=>cases hy
 | cons x l ih =>
  show y ∈ insL lt x (srt lt l)
  rcases List.mem_cons.1 hy with rfl | hy
  ·exact mem_insL_new fun a ha=>h _ (by simp) _ (List.mem_cons_of_mem _ (mem_srt_sub ha))
  ·exact mem_insL_old (ih (fun a ha b hb=>h a (by simp [ha]) b (by simp [hb])) hy)
theorem rise_unique' (ir:∀ a,lt a a = false) (tr:∀ a b c,lt a b = true → lt b c = true → lt a c = true):∀ {l m:List α},Rise lt l → Rise lt m → (∀ x,x ∈ l ↔ x ∈ m) → l = m
 | [],[],_,_,_=>rfl
 | [],b :: m,_,_,h=>absurd ((h b).2 (by simp)) (by simp)
 | a :: l,[],_,_,h=>absurd ((h a).1 (by simp)) (by simp)
 | a :: l,b :: m,h1,h2,h=>by
  obtain ⟨p1,p2⟩:=List.pairwise_cons.1 h1
  obtain ⟨q1,q2⟩:=List.pairwise_cons.1 h2
  have e:a = b:=by
   rcases List.mem_cons.1 ((h a).1 (by simp)) with e | ha
   ·exact e
   ·rcases List.mem_cons.1 ((h b).2 (by simp)) with e | hb
    ·exact e.symm
    ·have:=tr _ _ _ (p1 b hb) (q1 a ha)
     rw [ir] at this
     cases this
  subst e
  refine congrArg (a :: ·) (rise_unique' ir tr p2 q2 fun x=>?_)
  constructor
  ·intro hx
   rcases List.mem_cons.1 ((h x).1 (by simp [hx])) with rfl | h'
   ·have:=p1 _ hx
    rw [ir] at this
    cases this
   ·exact h'
  ·intro hx
   rcases List.mem_cons.1 ((h x).2 (by simp [hx])) with rfl | h'
   ·have:=q1 _ hx
    rw [ir] at this
    cases this
   ·exact h'
theorem srt_is (ir:∀ a,lt a a = false) (tr:∀ a b c,lt a b = true → lt b c = true → lt a c = true) {l d:List α} (h:∀ a ∈ l,∀ b ∈ l,lt a b = false → lt b a = false → a = b) (hr:Rise lt d) (hm:∀ x,x ∈ d ↔ x ∈ l):d = srt lt l :=
 rise_unique' ir tr hr (rise_srt tr l) fun x=>(hm x).trans (mem_srt h).symm
theorem rise_of_sorted {l:List α} (hd:l.Pairwise fun a b=>lt a b = true ∨ lt b a = true) (hs:∀ i j (hi:i < l.length) (hj:j < l.length),i < j → lt l[j] l[i] = false):Rise lt l:=by
 rw [Rise,List.pairwise_iff_getElem] at *
 intro i j hi hj hij
 rcases hd i j hi hj hij with h | h
 ·exact h
 ·rw [hs i j hi hj hij] at h; cases h
end
end Go.Proofs.YtckcojkpghiclaaGreatDoor.T9
namespace Go.Proofs.YtckcojkpghiclaaGreatDoor.T9
set_option maxRecDepth 100000
theorem by_same:∀ a:List UInt8,Op.bytesLess a a = false
 | []=>rfl
 | x :: a=>by
  have h:Op.bytesLess (x :: a) (x :: a) = (decide (x < x) || (x == x && Op.bytesLess a a)):=rfl
  rw [h,by_same a]
  simp
theorem by_asym:∀ a b:List UInt8,Op.bytesLess a b = true → Op.bytesLess b a = false
 | [],[],_=>rfl
 | [],_ :: _,_=>rfl
 | _ :: _,[],h=>by cases h
 | x :: a,y :: b,h=>by
  have h1:Op.bytesLess (x :: a) (y :: b) = (decide (x < y) || (x == y && Op.bytesLess a b)):=rfl
  have h2:Op.bytesLess (y :: b) (x :: a) = (decide (y < x) || (y == x && Op.bytesLess b a)):=rfl
  rw [h1] at h
  rw [h2]
  simp only [Bool.or_eq_true,decide_eq_true_eq,Bool.and_eq_true,beq_iff_eq] at h
  rw [Bool.or_eq_false_iff]
  simp only [decide_eq_false_iff_not,Bool.and_eq_false_iff,beq_eq_false_iff_ne,ne_eq]
  rcases h with h | ⟨rfl,h⟩
  ·refine ⟨fun h3=>?_,.inl fun e=>?_⟩
   ·rw [UInt8.lt_iff_toNat_lt] at h h3; omega
   ·subst e; rw [UInt8.lt_iff_toNat_lt] at h; omega
  ·exact ⟨fun h3=>by rw [UInt8.lt_iff_toNat_lt] at h3; omega,.inr (by_asym a b h)⟩
theorem by_total:∀ a b:List UInt8,Op.bytesLess a b = false → Op.bytesLess b a = false → a = b
 | [],[],_,_=>rfl
 | [],_ :: _,h,_=>by cases h
 | _ :: _,[],_,h=>by cases h
 | x :: a,y :: b,h,h'=>by
  have h1:Op.bytesLess (x :: a) (y :: b) = (decide (x < y) || (x == y && Op.bytesLess a b)):=rfl
  have h2:Op.bytesLess (y :: b) (x :: a) = (decide (y < x) || (y == x && Op.bytesLess b a)):=rfl
  rw [h1] at h
  rw [h2] at h'
  simp only [Bool.or_eq_false_iff,decide_eq_false_iff_not,Bool.and_eq_false_iff,beq_eq_false_iff_ne,ne_eq] at h h'
  have e:x = y:=by
   apply UInt8.toNat_inj.1
   have h3:=h.1
   have h4:=h'.1
   rw [UInt8.lt_iff_toNat_lt] at h3 h4
   omega
  subst e
  rw [by_total a b (by simpa using h.2) (by simpa using h'.2)]
theorem by_trans:∀ a b c:List UInt8,Op.bytesLess a b = true → Op.bytesLess b c = true → Op.bytesLess a c = true
 | [],[],_,h,_=>by cases h
 | _ :: _,[],_,h,_=>by cases h
 | _,_ :: _,[],_,h=>by cases h
 | [],_ :: _,_ :: _,_,_=>rfl
 | x :: a,y :: b,z :: c,h,h'=>by
  have h1:Op.bytesLess (x :: a) (y :: b) = (decide (x < y) || (x == y && Op.bytesLess a b)):=rfl
  have h2:Op.bytesLess (y :: b) (z :: c) = (decide (y < z) || (y == z && Op.bytesLess b c)):=rfl
  have h3:Op.bytesLess (x :: a) (z :: c) = (decide (x < z) || (x == z && Op.bytesLess a c)):=rfl
  rw [h1] at h
  rw [h2] at h'
  rw [h3]
  simp only [Bool.or_eq_true,decide_eq_true_eq,Bool.and_eq_true,beq_iff_eq,UInt8.lt_iff_toNat_lt] at h h' ⊢
  rcases h with h | ⟨rfl,h⟩
  ·rcases h' with h' | ⟨rfl,h'⟩
   ·left; omega
   ·left; omega
  ·rcases h' with h' | ⟨rfl,h'⟩
   ·left; omega
   ·right; exact ⟨rfl,by_trans a b c h h'⟩
theorem lessV_same {a b:Vl'} (hn:a.n = b.n) (hs:a.s = b.s):lessV a b = false:=by
 unfold lessV
 rw [if_pos hn,hs,by_same]
theorem lessV_total {a b:Vl'} (h:lessV a b = false) (h':lessV b a = false):a.n = b.n ∧ a.s = b.s:=by
 unfold lessV at h h'
 by_cases e:a.n = b.n
 ·rw [if_pos e] at h
  rw [if_pos e.symm] at h'
  exact ⟨e,by_total _ _ h h'⟩
 ·rw [if_neg e] at h
  rw [if_neg (fun h=>e h.symm)] at h'
  rw [decide_eq_false_iff_not] at h h'
  omega
theorem lessV_trans {a b c:Vl'} (h:lessV a b = true) (h':lessV b c = true):lessV a c = true:=by
 unfold lessV at h h' ⊢
 by_cases e:a.n = b.n
 ·rw [if_pos e] at h
  by_cases f:b.n = c.n
  ·rw [if_pos f] at h'
   rw [if_pos (e.trans f)]
   exact by_trans _ _ _ h h'
  ·rw [if_neg f,decide_eq_true_eq] at h'
   rw [if_neg (by omega),decide_eq_true_eq]
   omega
 ·rw [if_neg e,decide_eq_true_eq] at h
  by_cases f:b.n = c.n
  ·rw [if_neg (by omega),decide_eq_true_eq]
   omega
  ·rw [if_neg f,decide_eq_true_eq] at h'
   rw [if_neg (by omega),decide_eq_true_eq]
   omega
end Go.Proofs.YtckcojkpghiclaaGreatDoor.T9
namespace Go.Proofs.YtckcojkpghiclaaGreatDoor.T9
set_option maxRecDepth 100000
open Go.RowKit Go.ChangeShapes Go.WideShapes Go.ChangeAt
def inI (n:Int):Prop:=-9223372036854775808 ≤ n ∧ n ≤ 9223372036854775807
inductive MIn:Mg → Prop
 | mk {m:Mg} (h1:∀ s ∈ m.F,inI s.no) (h2:∀ s ∈ m.F,∀ v,v ∈ s.K ∨ v ∈ s.V → inI v.n ∧ v.s.length ≤ 140737488351232) (h3:∀ s ∈ m.F,∀ v,v ∈ s.K ∨ v ∈ s.V → ∀ x ∈ v.M,MIn x):MIn m
def VIn (v:Vl'):Prop:=(inI v.n ∧ v.s.length ≤ 140737488351232) ∧ ∀ x ∈ v.M,MIn x
def SIn (s:So):Prop:=inI s.no ∧ ∀ v,v ∈ s.K ∨ v ∈ s.V → VIn v
theorem MIn.slot {m:Mg} (h:MIn m) {s:So} (hs:s ∈ m.F):SIn s:=by
 cases h with
 | mk h1 h2 h3=>exact ⟨h1 s hs,fun v hv=>⟨h2 s hs v hv,h3 s hs v hv⟩⟩
theorem MIn.of {m:Mg} (h:∀ s ∈ m.F,SIn s):MIn m:=.mk (fun s hs=>(h s hs).1) (fun s hs v hv=>((h s hs).2 v hv).1) fun s hs v hv=>((h s hs).2 v hv).2
theorem SIn.val {s:So} (h:SIn s) {v:Vl'} (hv:v ∈ s.K ∨ v ∈ s.V):VIn v:=h.2 v hv
theorem VIn.msg {v:Vl'} (h:VIn v) {x:Mg} (hx:x ∈ v.M):MIn x:=h.2 x hx
end Go.Proofs.YtckcojkpghiclaaGreatDoor.T9
namespace Go.Proofs.YtckcojkpghiclaaGreatDoor.T9
set_option maxRecDepth 100000
open Go.Proofs.YtckcojkpghiclaaGreatDoor.T4
def defB (v:Vl'):Bool:=(v.n == 0) && (v.s.isEmpty && v.M.isEmpty)
def toldB (f:Df) (l:List Vl'):Bool:=match l with
 | []=>false
 | v :: _=>f.rep || (f.key != -1 || (f.one != 0 || (f.kind == 9 || !defB v)))
def ltNo (a b:So):Bool:=decide (a.no < b.no)
def bare (v:Vl'):Vl':=⟨v.n,v.s,[]⟩
def sameK (a b:Vl'):Bool:=(a.n == b.n) && (a.s == b.s)
def risen (K:List Vl'):List Vl':=srt lessV (K.map bare)
def lastP (P:List (Vl' × Vl')) (k:Vl'):Vl' × Vl':=(P.reverse.find? fun p=>sameK p.1 k).getD (⟨0,[],[]⟩,⟨0,[],[]⟩)
def lastV (P:List (Vl' × Vl')) (k:Vl'):Vl':=(lastP P k).2
def norV (N:Int → Mg → Mg) (ref:Int) (v:Vl'):Vl':=⟨v.n,v.s,v.M.map (N ref)⟩
def norS (N:Int → Mg → Mg) (f:Df) (a:So):So :=
 if f.key = -1 then ⟨a.no,[],a.V.map (norV N f.ref)⟩ else ⟨a.no,risen a.K,(risen a.K).map fun k=>norV N f.ref (lastV (a.K.zip a.V) k)⟩
def norO (fd:Int → Option Df) (N:Int → Mg → Mg) (a:So):Option So:=(fd a.no).bind fun f=>if toldB f a.V then some (norS N f a) else none
def norF (fd:Int → Option Df) (N:Int → Mg → Mg) (F:List So):List So:=srt ltNo (F.filterMap (norO fd N))
def norG (s:Sc) (N:Int → Mg → Mg) (m:Int) (x:Mg):Mg:=.mk (norF (byS s m) N x.F)
def norB (s:Sc):Nat → Int → Mg → Mg
 | 0=>fun _ _=>.mk []
 | d + 1=>norG s (norB s d)
theorem no_irr (a:So):ltNo a a = false:=by simp [ltNo]
theorem no_tr (a b c:So) (h:ltNo a b = true) (h':ltNo b c = true):ltNo a c = true:=by
 unfold ltNo at *
 simp only [decide_eq_true_eq] at *
 omega
theorem lv_irr (a:Vl'):lessV a a = false:=lessV_same rfl rfl
theorem lv_tr (a b c:Vl') (h:lessV a b = true) (h':lessV b c = true):lessV a c = true:=lessV_trans h h'
theorem same_iff {a b:Vl'}:sameK a b = true ↔ a.n = b.n ∧ a.s = b.s:=by simp [sameK]
theorem bare_same {a b:Vl'}:bare a = bare b ↔ sameK a b = true:=by
 rw [same_iff]
 unfold bare
 simp
theorem lv_tot (K:List Vl'):∀ a ∈ K.map bare,∀ b ∈ K.map bare,lessV a b = false → lessV b a = false → a = b:=by
 intro a ha b hb h h'
 obtain ⟨x,_,rfl⟩:=List.mem_map.1 ha
 obtain ⟨y,_,rfl⟩:=List.mem_map.1 hb
 obtain ⟨h1,h2⟩:=lessV_total h h'
 exact bare_same.2 (same_iff.2 ⟨h1,h2⟩)
theorem mem_risen {K:List Vl'} {k:Vl'}:k ∈ risen K ↔ ∃ x ∈ K,bare x = k:=by
 unfold risen
 rw [mem_srt (lv_tot K),List.mem_map]
theorem rise_risen (K:List Vl'):Rise lessV (risen K):=rise_srt lv_tr _
theorem bare_risen {K:List Vl'} {k:Vl'} (h:k ∈ risen K):bare k = k:=by
 obtain ⟨x,_,rfl⟩:=mem_risen.1 h
 rfl
theorem no_tot {l:List So} (h:l.Pairwise fun a b=>a.no ≠ b.no):∀ a ∈ l,∀ b ∈ l,ltNo a b = false → ltNo b a = false → a = b:=by
 intro a ha b hb h1 h2
 unfold ltNo at h1 h2
 rw [decide_eq_false_iff_not] at h1 h2
 have e:a.no = b.no:=by omega
 obtain ⟨i,hi,rfl⟩:=List.mem_iff_getElem.1 ha
 obtain ⟨j,hj,rfl⟩:=List.mem_iff_getElem.1 hb
 rw [List.pairwise_iff_getElem] at h
 rcases Nat.lt_trichotomy i j with hij | hij | hij
 ·exact absurd e (h i j hi hj hij)
 ·subst hij; rfl
 ·exact absurd e.symm (h j i hj hi hij)
def clsOf (fd:Int → Option Df) (a:So):List (Int × Int):=match fd a.no with | none=>[] | some f=>claimsOf f
def Dj (fd:Int → Option Df) (a b:So):Prop:=∀ c ∈ clsOf fd a,c ∉ clsOf fd b
theorem claim_iff {cl:List (Int × Int)} {f:Df}:claimB cl f = true ↔ ∀ c ∈ claimsOf f,c ∉ cl:=by
 unfold claimB claimsOf
 by_cases h:f.one = 0
 ·rw [if_pos h]; simp [h]
 ·rw [if_neg h]
  have h2:(0,f.one) ≠ (f.no,(0:Int)):=fun e=>h (congrArg Prod.snd e)
  simp [h,h2,and_comm]
theorem slots_iff {fd:Int → Option Df} {fill:Df → So → Bool} {cl:List (Int × Int)} {l:List So} :
  slotsG fd fill cl l = true ↔ (∀ a ∈ l,∃ f,fd a.no = some f ∧ fill f a = true) ∧ (∀ a ∈ l,∀ c ∈ clsOf fd a,c ∉ cl) ∧ l.Pairwise (Dj fd):=by
 induction l generalizing cl with
 | nil=>simp [slotsG]
 | cons a l ih =>
  rw [slotsG_cons]
  cases h:fd a.no with
  | none=>simp [h]
  | some f =>
   have hc:clsOf fd a = claimsOf f:=by unfold clsOf; rw [h]
   simp only [Bool.and_eq_true,ih,claim_iff,List.pairwise_cons,List.mem_cons,forall_eq_or_imp,hc]
   constructor
   ·rintro ⟨h1,h2,h3,h4,h5⟩
    refine ⟨⟨⟨f,h,h2⟩,h3⟩,⟨h1,fun b hb c hcb hcl=>h4 b hb c hcb (List.mem_append.2 (.inr hcl))⟩,fun b hb c hca hcb=>?_,h5⟩
    rw [hc] at hca
    exact h4 b hb c hcb (List.mem_append.2 (.inl hca))
   ·rintro ⟨⟨⟨g,hg,h2⟩,h3⟩,⟨h1,h4⟩,h5,h6⟩
    rw [h] at hg
    obtain rfl:=Option.some.inj hg
    refine ⟨h1,h2,h3,fun b hb c hcb hm=>?_,h6⟩
    rcases List.mem_append.1 hm with hm | hm
    ·exact h5 b hb c (by rw [hc]; exact hm) hcb
    ·exact h4 b hb c hcb hm
theorem dj_no {fd:Int → Option Df} {a b:So} {f:Df} (h:Dj fd a b) (ha:fd a.no = some f):a.no ≠ b.no:=by
 intro e
 have h1:clsOf fd a = claimsOf f:=by unfold clsOf; rw [ha]
 have h2:clsOf fd b = claimsOf f:=by unfold clsOf; rw [← e,ha]
 have h3:(f.no,(0:Int)) ∈ claimsOf f:=by unfold claimsOf; split <;> simp
 exact h _ (by rw [h1]; exact h3) (by rw [h2]; exact h3)
theorem dj_cong {fd:Int → Option Df} {a b a' b':So} (h:Dj fd a b) (ha:a'.no = a.no) (hb:b'.no = b.no):Dj fd a' b':=by
 unfold Dj clsOf at *
 rw [ha,hb]
 exact h
theorem slots_no {fd:Int → Option Df} {fill:Df → So → Bool} {l:List So} (h:slotsG fd fill [] l = true):l.Pairwise fun a b=>a.no ≠ b.no:=by
 obtain ⟨h1,-,h3⟩:=slots_iff.1 h
 refine List.Pairwise.imp_of_mem (fun {a b} ha hb hab=>?_) h3
 obtain ⟨f,hf,_⟩:=h1 a ha
 exact dj_no hab hf
theorem slots_sub {fd:Int → Option Df} {fill:Df → So → Bool} {l l':List So} (h:slotsG fd fill [] l = true) (hs:l'.Sublist l):slotsG fd fill [] l' = true:=by
 obtain ⟨h1,-,h3⟩:=slots_iff.1 h
 exact slots_iff.2 ⟨fun a ha=>h1 a (hs.subset ha),fun _ _ _ _=>by simp,h3.sublist hs⟩
theorem norS_no {N:Int → Mg → Mg} {f:Df} {a:So}:(norS N f a).no = a.no:=by unfold norS; split <;> rfl
theorem norO_some {fd:Int → Option Df} {N:Int → Mg → Mg} {a b:So} (h:norO fd N a = some b):∃ f,fd a.no = some f ∧ toldB f a.V = true ∧ b = norS N f a:=by
 unfold norO at h
 cases hf:fd a.no with
 | none=>rw [hf] at h; cases h
 | some f =>
  rw [hf,Option.bind_some] at h
  split at h
  ·rename_i ht
   exact ⟨f,rfl,ht,(Option.some.inj h).symm⟩
  ·cases h
theorem norO_no {fd:Int → Option Df} {N:Int → Mg → Mg} {a b:So} (h:norO fd N a = some b):b.no = a.no:=by
 obtain ⟨f,_,_,rfl⟩:=norO_some h
 exact norS_no
theorem told_no {fd:Int → Option Df} {N:Int → Mg → Mg} {l:List So} (h:l.Pairwise fun a b=>a.no ≠ b.no):(l.filterMap (norO fd N)).Pairwise fun a b=>a.no ≠ b.no:=by
 rw [List.pairwise_filterMap]
 refine h.imp fun {a b} hab c hc d hd=>?_
 rw [norO_no hc,norO_no hd]
 exact hab
theorem mem_norF {fd:Int → Option Df} {N:Int → Mg → Mg} {l:List So} (h:l.Pairwise fun a b=>a.no ≠ b.no) {b:So}:b ∈ norF fd N l ↔ ∃ a ∈ l,norO fd N a = some b:=by
 unfold norF
 rw [mem_srt (no_tot (told_no h)),List.mem_filterMap]
theorem rise_norF (fd:Int → Option Df) (N:Int → Mg → Mg) (l:List So):Rise ltNo (norF fd N l):=rise_srt no_tr _
theorem ask_nine {G:Int → Mg → Bool} {ref:Int} {v:Vl'} (h:askG G 9 ref v = true):v.n = 0 ∧ v.s = [] ∧ ∃ x,v.M = [x] ∧ G ref x = true:=by
 unfold askG at h
 rw [if_neg (by omega),if_neg (by omega),if_pos rfl] at h
 simp only [Bool.and_eq_true,beq_iff_eq,List.isEmpty_iff] at h
 obtain ⟨h1,h2,h3⟩:=h
 refine ⟨h1,h2,?_⟩
 obtain ⟨n,s,M⟩:=v
 match M,h3 with
 | [x],h3=>exact ⟨x,rfl,h3⟩
theorem last_in {K V:List Vl'} (hl:K.length = V.length) {k x:Vl'} (hx:x ∈ K) (hk:sameK x k = true):lastP (K.zip V) k ∈ K.zip V ∧ sameK (lastP (K.zip V) k).1 k = true:=by
 unfold lastP
 obtain ⟨i,hi,rfl⟩:=List.mem_iff_getElem.1 hx
 have hz:(K[i],V[i]) ∈ K.zip V:=by
  rw [List.mem_iff_getElem]
  exact ⟨i,by rw [List.length_zip]; omega,List.getElem_zip⟩
 cases h:(K.zip V).reverse.find? fun p=>sameK p.1 k with
 | none =>
  rw [List.find?_eq_none] at h
  exact absurd hk (h _ (List.mem_reverse.2 hz))
 | some p =>
  have h1:=List.find?_some h
  have h2:=List.mem_of_find?_eq_some h
  exact ⟨List.mem_reverse.1 h2,h1⟩
theorem last_risen {K V:List Vl'} (hl:K.length = V.length) {k:Vl'} (hk:k ∈ risen K):lastP (K.zip V) k ∈ K.zip V ∧ sameK (lastP (K.zip V) k).1 k = true:=by
 obtain ⟨x,hx,rfl⟩:=mem_risen.1 hk
 exact last_in hl hx (by rw [same_iff]; exact ⟨rfl,rfl⟩)
theorem last_V {K V:List Vl'} (hl:K.length = V.length) {k:Vl'} (hk:k ∈ risen K):lastV (K.zip V) k ∈ V:=(List.of_mem_zip (last_risen hl hk).1).2
theorem last_apart {K V:List Vl'} (hl:K.length = V.length):(risen K).Pairwise fun a b=>lastP (K.zip V) a ≠ lastP (K.zip V) b:=by
 refine List.Pairwise.imp_of_mem (fun {a b} ha hb hab=>?_) (rise_risen K)
 intro e
 have h1:=(last_risen hl ha).2
 have h2:=(last_risen hl hb).2
 rw [e] at h1
 rw [same_iff] at h1 h2
 rw [lessV_same (h1.1.symm.trans h2.1) (h1.2.symm.trans h2.2)] at hab
 cases hab
theorem sm_inj {α β:Type} (g:α → Nat) (h:β → Nat) (r:α → β):∀ (l:List α) (m:List β),(∀ a ∈ l,r a ∈ m ∧ g a ≤ h (r a)) → l.Pairwise (fun a b=>r a ≠ r b) → sm (l.map g) ≤ sm (m.map h)
 | [],_,_,_=>Nat.zero_le _
 | a :: l,m,h1,h2=>by
  obtain ⟨p1,p2⟩:=List.pairwise_cons.1 h2
  obtain ⟨hm,hg⟩:=h1 a (by simp)
  obtain ⟨m1,m2,rfl⟩:=List.append_of_mem hm
  have ih:=sm_inj g h r l (m1 ++ m2) (fun b hb=>⟨by
   have h3:=(h1 b (by simp [hb])).1
   have h4:=p1 b hb
   rcases List.mem_append.1 h3 with h3 | h3
   ·exact List.mem_append.2 (.inl h3)
   ·rcases List.mem_cons.1 h3 with h3 | h3
    ·exact absurd h3.symm h4
    ·exact List.mem_append.2 (.inr h3),(h1 b (by simp [hb])).2⟩) p2
  rw [List.map_append,sm_append] at ih ⊢
  simp only [List.map_cons,sm]
  omega
theorem sm_zip {α β:Type} (f:α → Nat) (g:β → Nat):∀ (K:List α) (V:List β),K.length = V.length → sm ((K.zip V).map fun p=>f p.1 + g p.2) = sm (K.map f) + sm (V.map g)
 | [],[],_=>rfl
 | k :: K,v :: V,h=>by
  have:=sm_zip f g K V (by simpa using h)
  simp only [List.zip_cons_cons,List.map_cons,sm,this]
  omega
theorem meas_map {N:Int → Mg → Mg} {ref:Int} {K V:List Vl'} (hl:K.length = V.length) (μ:Vl' → Nat) (hb:∀ v,μ (bare v) ≤ μ v) (hn:∀ v ∈ V,μ (norV N ref v) ≤ μ v) :
  sm ((risen K).map μ) + sm (((risen K).map fun k=>norV N ref (lastV (K.zip V) k)).map μ) ≤ sm (K.map μ) + sm (V.map μ):=by
 rw [List.map_map,← sm_add,← sm_zip μ μ K V hl]
 refine sm_inj _ _ (lastP (K.zip V)) _ _ (fun k hk=>?_) (last_apart hl)
 obtain ⟨h1,h2⟩:=last_risen hl hk
 refine ⟨h1,?_⟩
 have h3:=hn _ (last_V hl hk)
 have h4:=hb (lastP (K.zip V) k).1
 rw [show bare (lastP (K.zip V) k).1 = k from (bare_same.2 (by rw [same_iff] at h2 ⊢; exact h2)).trans (bare_risen hk)] at h4
 show μ k + μ (norV N ref (lastP (K.zip V) k).2) ≤ _
 unfold lastV at h3
 omega
end Go.Proofs.YtckcojkpghiclaaGreatDoor.T9
namespace Go.Proofs.YtckcojkpghiclaaGreatDoor.T9
set_option maxRecDepth 100000
open Go.RowKit
def Ap (b:Nat) (r:Option Nat) (w:World):RP:=fun e size v n xs=>w.ownsRow b e size v n xs ∧ (∀ k,v.ownBlock = some k → r ≠ some k) ∧ n ≤ 10000000000000
theorem own_kept {w w':World} {b:Nat} {e:TypeId} {size:Nat} {v:Value} {n:Nat} {xs:List Value} (h:w.ownsRow b e size v n xs) (hk:∀ k,v.ownBlock = some k → k < w.heap.size → w'.heap[k]? = w.heap[k]?):w'.ownsRow b e size v n xs:=by
 rcases h with ⟨hl,⟨rfl,rfl⟩ | ⟨g,cap,cur,rfl,h1,h2,h3⟩⟩
 ·exact ⟨hl,.inl ⟨rfl,rfl⟩⟩
 ·exact ⟨hl,.inr ⟨g,cap,cur,rfl,h1,(hk g rfl (box_lt h2)).trans h2,h3⟩⟩
theorem own_blk {w:World} {b:Nat} {e:TypeId} {size:Nat} {v:Value} {n:Nat} {xs:List Value} (h:w.ownsRow b e size v n xs) (k:Nat) (hk:v.ownBlock = some k):b ≤ k ∧ k < w.heap.size:=by
 rcases h with ⟨hl,⟨rfl,rfl⟩ | ⟨g,cap,cur,rfl,h1,h2,h3⟩⟩
 ·simp [Value.ownBlock] at hk
 ·simp only [Value.ownBlock,Option.some.injEq] at hk
  subst hk
  exact ⟨h1,box_lt h2⟩
theorem Ap.ow {b:Nat} {r:Option Nat} {w:World} (e:TypeId) (size:Nat) (v:Value) (n:Nat) (xs:List Value) (h:Ap b r w e size v n xs):Ow b w e size v n xs:=⟨h.1,h.2.2⟩
theorem Ap.of {b b':Nat} {r:Option Nat} {w:World} (hb:b ≤ b') (hr:∀ k,r = some k → k < b') (e:TypeId) (size:Nat) (v:Value) (n:Nat) (xs:List Value) (h:Ow b' w e size v n xs):Ap b r w e size v n xs :=
 ⟨own_less h.1 hb,fun k hk e=>by have:=(own_blk h.1 k hk).1; have:=hr k e; omega,h.2⟩
theorem Ap.on {b:Nat} {r:Option Nat} {w w':World} (hb:Below w.heap.size w w') (e:TypeId) (size:Nat) (v:Value) (n:Nat) (xs:List Value) (h:Ap b r w e size v n xs):Ap b r w' e size v n xs :=
 ⟨own_kept h.1 fun k _ hk=>hb.block k hk,h.2⟩
theorem Ap.grown {b g:Nat} {r:Option Nat} {w w':World} (hg:w.grownBy w' r) (hn:r = some g ∨ w.heap.size ≤ g) (e:TypeId) (size:Nat) (v:Value) (n:Nat) (xs:List Value) (h:Ap b r w e size v n xs):Ap b (some g) w' e size v n xs:=by
 refine ⟨own_kept h.1 fun k hk hlt=>hg.block k hlt fun e=>h.2.1 k hk e.symm,fun k hk e=>?_,h.2.2⟩
 obtain rfl:=Option.some.inj e
 rcases hn with hn | hn
 ·exact h.2.1 g hk hn
 ·have:=(own_blk h.1 g hk).2
  omega
theorem Ap.box {b g:Nat} {r:Option Nat} {w w':World} (hg:w.grownBy w' (some g)) (hgb:g < b) (e:TypeId) (size:Nat) (v:Value) (n:Nat) (xs:List Value) (h:Ap b r w e size v n xs):Ap b r w' e size v n xs :=
 ⟨own_kept h.1 fun k hk hlt=>hg.block k hlt fun e=>by have:=(own_blk h.1 k hk).1; injection e with e; omega,h.2⟩
abbrev EC (α:Type):=RP → α → List Value → Prop
def Mono {α:Type} (C:EC α):Prop:=∀ {R R':RP},(∀ e size v n xs,R e size v n xs → R' e size v n xs) → ∀ a cs,C R a cs → C R' a cs
theorem mono_m (d:Nat):Mono fun R=>MAt R d:=fun h a cs=>MAt.imp h d a cs
theorem mono_v (d:Nat):Mono fun R=>VAt R d:=fun h a cs=>vAt.imp h (fun m cs=>MAt.imp h d m cs) a cs
theorem mono_s (d:Nat):Mono fun R=>SAt' R d:=fun h a cs=>sAt.imp h (fun m cs=>MAt.imp h d m cs) a cs
structure Grow {α:Type} (C:EC α) (e:TypeId) (size b:Nat) (w:World) (v:Value) (l:List α) (xs:List Value):Prop where
 own:w.ownsRow b e size v l.length xs
 rows:Rows (C (Ap b v.ownBlock w)) l xs
section
variable {α:Type} {C:EC α} {e:TypeId} {size b:Nat} {w w':World} {v:Value} {l:List α} {xs:List Value}
theorem Grow.nil (C:EC α) (e:TypeId) (size b:Nat) (w:World):Grow C e size b w (.slice none 0 0) [] []:=⟨World.ownsRow_nil _ _ _ _,rfl⟩
theorem Grow.on (hC:Mono C) (h:Grow C e size b w v l xs) (hb:Below w.heap.size w w'):Grow C e size b w' v l xs :=
 ⟨own_hi h.own (hi_below b hb),h.rows.imp (hC (Ap.on hb))⟩
theorem Grow.box (hC:Mono C) (h:Grow C e size b w v l xs) {g:Nat} (hg:w.grownBy w' (some g)) (hgb:g < b):Grow C e size b w' v l xs :=
 ⟨own_hi h.own (hi_grown hg hgb),h.rows.imp (hC (Ap.box hg hgb))⟩
theorem Grow.less (hC:Mono C) (h:Grow C e size b w v l xs) {b':Nat} (hb:b' ≤ b):Grow C e size b' w v l xs :=
 ⟨own_less h.own hb,h.rows.imp (hC fun e size v n xs h=>⟨own_less h.1 hb,h.2⟩)⟩
theorem Grow.lt (h:Grow C e size b w v l xs) (k:Nat) (hk:v.ownBlock = some k):k < w.heap.size:=(own_blk h.own k hk).2
theorem Grow.app (hC:Mono C) (h:Grow C e size b w v l xs) {a:α} {cs:List Value} {b':Nat} (hbb:b ≤ b') (hv:∀ k,v.ownBlock = some k → k < b') (ha:C (Ow b' w) a cs) {g cap:Nat}
  (hrow:w'.ownsRow b e size (.slice (some ⟨g,0,none⟩) (l.length + 1) cap) (l.length + 1) (xs ++ cs)) (hg:w.grownBy w' v.ownBlock) (hat:v.ownBlock = some g ∨ w.heap.size ≤ g):Grow C e size b w' (.slice (some ⟨g,0,none⟩) (l.length + 1) cap) (l ++ [a]) (xs ++ cs) :=
 ⟨by rw [List.length_append]; exact hrow,(h.rows.imp (hC (Ap.grown hg hat))).append (Rows.single (hC (Ap.grown hg hat) _ _ (hC (Ap.of hbb hv) _ _ ha)))⟩
theorem Grow.ow (hC:Mono C) (h:Grow C e size b w v l xs) (hl:l.length ≤ 10000000000000):LsAt (Ow b w) e size (C (Ow b w)) l v:=⟨xs,⟨h.own,hl⟩,h.rows.imp (hC Ap.ow)⟩
end
theorem one_msg_ow {b:Nat} {w:World} {d:Nat} {m:Mg} {x:Value} (h:MAt (Ow b w) d m [x]):∀ u ∈ [x],u.oneCell' = true:=MAt.oneO m [x] h
theorem cell3 {w:World} {g:Nat} {a b c:Value} {t:TypeId} (h:w.heap[g]? = some (.cells #[a,b,c] t (0,0))) (x:Value) :
  (w.setCell ⟨g,2,none⟩ x).heap[g]? = some (.cells #[a,b,x] t (0,0)) ∧ w.grownBy (w.setCell ⟨g,2,none⟩ x) (some g) :=
 ⟨heap_setCell_same w g 2 #[a,b,c] t x h,rfl,rfl,rfl,by simp,fun k _ hk=>heap_setCell_other _ ⟨g,2,none⟩ k _ (fun e=>hk (by simp [e]))⟩
theorem box_far {w w':World} {g:Nat} {t:TypeId} {cs:Array Value} {fr:Nat × Nat} {v:Value} {b e size n:Nat} {xs:List Value} (X:w.heap[g]? = some (.cells cs t fr)) (hg:w.grownBy w' v.ownBlock) (hown:w.ownsRow b e size v n xs) (hlt:g < b):w'.heap[g]? = some (.cells cs t fr) :=
 (hg.block g (box_lt X) fun e=>by have:=(own_blk hown g e.symm).1; omega).trans X
theorem below_row {w w':World} {v:Value} {b e size n B:Nat} {xs:List Value} (hg:w.grownBy w' v.ownBlock) (hown:w.ownsRow b e size v n xs) (hB:B ≤ b) (hs:B ≤ w.heap.size):Below B w w' :=
 ⟨hg.os,hg.tape,hg.output,hg.size,fun k hk=>hg.block k (by omega) fun e=>by have:=(own_blk hown k e.symm).1; omega⟩
theorem take_snoc {α:Type} {l:List α} {k:Nat} {a:α} (h:l[k]? = some a):l.take k ++ [a] = l.take (k + 1):=by rw [List.take_add_one,h]; rfl
theorem cell1 {w:World} {g:Nat} {a:Value} {t:TypeId} (h:w.heap[g]? = some (.cells #[a] t (0,0))) (x:Value) :
  (w.setCell ⟨g,0,none⟩ x).heap[g]? = some (.cells #[x] t (0,0)) ∧ w.grownBy (w.setCell ⟨g,0,none⟩ x) (some g) :=
 ⟨heap_setCell_same w g 0 #[a] t x h,rfl,rfl,rfl,by simp,fun k _ hk=>heap_setCell_other _ ⟨g,0,none⟩ k _ (fun e=>hk (by simp [e]))⟩
end Go.Proofs.YtckcojkpghiclaaGreatDoor.T9
namespace Go.Proofs.YtckcojkpghiclaaGreatDoor.T9
set_option maxRecDepth 100000
open Go.RowKit
end Go.Proofs.YtckcojkpghiclaaGreatDoor.T9
namespace Go.Proofs.YtckcojkpghiclaaGreatDoor
set_option maxRecDepth 100000
def fixn:List UInt8 → Nat
 | []=>0
 | b :: l=>b.toNat + 256 * fixn l
theorem fixn_lt:∀ l:List UInt8,fixn l < 256 ^ l.length
 | []=>by simp [fixn]
 | b :: l=>by
  have:=fixn_lt l
  have hb:=b.toNat_lt
  simp only [fixn,List.length_cons,Nat.pow_succ]
  omega
theorem fixn_snoc:∀ (l:List UInt8) (b:UInt8),fixn (l ++ [b]) = fixn l + 256 ^ l.length * b.toNat
 | [],b=>by simp [fixn]
 | x :: l,b=>by
  simp only [List.cons_append,fixn,fixn_snoc l b,List.length_cons,Nat.pow_succ]
  rw [Nat.mul_add,Nat.mul_comm (256 ^ l.length) 256,Nat.mul_assoc]; omega
def lead:List UInt8 → Nat
 | []=>0
 | b :: l=>if b.toNat < 128 then 0 else lead l + 1
def vnum:List UInt8 → Nat
 | []=>0
 | b :: l=>b.toNat % 128 + 128 * vnum l
def vget (l:List UInt8):Nat × Nat × Nat :=
 if lead (l.take 10) = 10 then (0,0,7)
 else if lead (l.take 10) = l.length then (0,0,6)
 else (vnum (l.take (lead (l.take 10) + 1)) % 18446744073709551616,lead (l.take 10) + 1,0)
theorem lead_le:∀ l:List UInt8,lead l ≤ l.length
 | []=>by simp [lead]
 | b :: l=>by
  have:=lead_le l
  unfold lead
  split <;> simp <;> omega
theorem vnum_lt:∀ l:List UInt8,vnum l < 128 ^ l.length
 | []=>by simp [vnum]
 | b :: l=>by
  have:=vnum_lt l
  simp only [vnum,List.length_cons,Nat.pow_succ]
  omega
theorem vnum_snoc:∀ (l:List UInt8) (b:UInt8),vnum (l ++ [b]) = vnum l + 128 ^ l.length * (b.toNat % 128)
 | [],b=>by simp [vnum]
 | x :: l,b=>by
  simp only [List.cons_append,vnum,vnum_snoc l b,List.length_cons,Nat.pow_succ]
  rw [Nat.mul_add,Nat.mul_comm (128 ^ l.length) 128,Nat.mul_assoc]; omega
theorem lead_at:∀ (l:List UInt8) (k:Nat) (b:UInt8),(∀ j,j < k → ∃ c,l[j]? = some c ∧ 128 ≤ c.toNat) → l[k]? = some b → b.toNat < 128 → lead l = k
 | [],k,b,_,hb,_=>by simp at hb
 | x :: l,0,b,_,hb,hlt=>by
  simp at hb
  subst hb
  simp [lead,hlt]
 | x :: l,k + 1,b,h,hb,hlt=>by
  obtain ⟨c,hc,hge⟩:=h 0 (by omega)
  simp at hc
  subst hc
  have:=lead_at l k b (fun j hj=>by
   obtain ⟨c,hc,hge⟩:=h (j + 1) (by omega)
   exact ⟨c,by simpa using hc,hge⟩) (by simpa using hb) hlt
  simp only [lead]
  rw [if_neg (by omega),this]
theorem lead_all:∀ (l:List UInt8),(∀ j,j < l.length → ∃ c,l[j]? = some c ∧ 128 ≤ c.toNat) → lead l = l.length
 | [],_=>rfl
 | x :: l,h=>by
  obtain ⟨c,hc,hge⟩:=h 0 (by simp)
  simp at hc
  subst hc
  have:=lead_all l (fun j hj=>by
   obtain ⟨c,hc,hge⟩:=h (j + 1) (by simp; omega)
   exact ⟨c,by simpa using hc,hge⟩)
  simp only [lead,List.length_cons]
  rw [if_neg (by omega),this]
theorem take_get {l:List UInt8} {n k:Nat} (h:k < n):(l.take n)[k]? = l[k]?:=by rw [List.getElem?_take,if_pos h]
theorem vget_ok {l:List UInt8} {k:Nat} {b:UInt8} (hk:k < 10) (h:∀ j,j < k → ∃ c,l[j]? = some c ∧ 128 ≤ c.toNat) (hb:l[k]? = some b) (hlt:b.toNat < 128) :
  vget l = (vnum (l.take (k + 1)) % 18446744073709551616,k + 1,0):=by
 have hl:lead (l.take 10) = k:=lead_at _ k b (fun j hj=>by rw [take_get (by omega)]; exact h j hj) (by rw [take_get hk]; exact hb) hlt
 have hkl:k < l.length:=(List.getElem?_eq_some_iff.1 hb).1
 unfold vget
 rw [hl,if_neg (by omega),if_neg (by omega)]
theorem vget_long {l:List UInt8} (hl:10 ≤ l.length) (h:∀ j,j < 10 → ∃ c,l[j]? = some c ∧ 128 ≤ c.toNat):vget l = (0,0,7):=by
 have hk:lead (l.take 10) = (l.take 10).length:=lead_all _ (fun j hj=>by
  have:j < 10:=by simp at hj; omega
  rw [take_get this]; exact h j this)
 unfold vget
 rw [hk,List.length_take,if_pos (by omega)]
theorem vget_cut {l:List UInt8} (hl:l.length < 10) (h:∀ j,j < l.length → ∃ c,l[j]? = some c ∧ 128 ≤ c.toNat):vget l = (0,0,6):=by
 have hk:lead (l.take 10) = l.length:=by rw [List.take_of_length_le (by omega)]; exact lead_all _ h
 unfold vget
 rw [hk,if_neg (by omega),if_pos rfl]
theorem vget_lt (l:List UInt8):(vget l).1 < 18446744073709551616:=by
 unfold vget
 split
 ·decide
 ·split
  ·decide
  ·exact Nat.mod_lt _ (by decide)
def getS (l:List UInt8) (a u:Nat):Nat × Nat × Nat :=
 ((vget ((l.drop a).take (u - a))).1,(if (vget ((l.drop a).take (u - a))).2.2 = 0 then a + (vget ((l.drop a).take (u - a))).2.1 else 0),(vget ((l.drop a).take (u - a))).2.2)
theorem or_shift (x j b:Nat) (hx:x < 2 ^ j) (hj:j ≤ 64):(x ||| (b * 2 ^ j) % 2 ^ 64) = (x + b * 2 ^ j) % 2 ^ 64:=by
 have h1:(b * 2 ^ j) % 2 ^ 64 = (b % 2 ^ (64 - j)) * 2 ^ j:=by
  rw [show (2:Nat) ^ 64 = 2 ^ (64 - j) * 2 ^ j by rw [← Nat.pow_add]; congr 1; omega,Nat.mul_mod_mul_right]
 have h2:(b % 2 ^ (64 - j)) * 2 ^ j + x = (b % 2 ^ (64 - j)) <<< j ||| x:=by
  rw [← Nat.shiftLeft_add_eq_or_of_lt hx,Nat.shiftLeft_eq]
 have h3:(b % 2 ^ (64 - j)) * 2 ^ j + x < 2 ^ 64:=by
  have ha:b % 2 ^ (64 - j) < 2 ^ (64 - j):=Nat.mod_lt _ (Nat.pow_pos (by decide))
  have hb:(b % 2 ^ (64 - j) + 1) * 2 ^ j ≤ 2 ^ (64 - j) * 2 ^ j:=Nat.mul_le_mul_right _ ha
  rw [← Nat.pow_add,show 64 - j + j = 64 by omega,Nat.add_mul,Nat.one_mul] at hb
  omega
 have h4:(x + b * 2 ^ j) % 2 ^ 64 = ((b * 2 ^ j) % 2 ^ 64 + x) % 2 ^ 64:=by rw [Nat.add_comm,Nat.mod_add_mod]
 rw [h4,h1,Nat.mod_eq_of_lt h3,Nat.or_comm,h2,Nat.shiftLeft_eq]
end Go.Proofs.YtckcojkpghiclaaGreatDoor
namespace Go.Proofs.YtckcojkpghiclaaGreatDoor
set_option maxRecDepth 100000
open Go.RowKit
end Go.Proofs.YtckcojkpghiclaaGreatDoor
