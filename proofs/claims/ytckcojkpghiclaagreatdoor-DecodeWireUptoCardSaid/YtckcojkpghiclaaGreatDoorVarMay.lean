/-
 The array of rules.
-/
import Derived.Test.YtckcojkpghiclaaGreatDoorConvSmall
import Derived.Deep.WholeRow
import Derived.Great.BuildSlice
import Derived.Test.YtckcojkpghiclaaGreatDoorTrSet
import Derived.Test.YtckcojkpghiclaaGreatDoorTokMath
import Derived.OpenShut
import Derived.Deep.RegionLaw
import Derived.Deep.QuietTactic
import Derived.BigQuiet
namespace Go.Proofs.YtckcojkpghiclaaGreatDoor
set_option maxRecDepth 100000
open Go.RowKit
def fv (k:Nat):Value:=.func (.func k) #[] #[]
def ruleV (t f o b:Nat):List Value:=[.int .i64 t,fv f,fv o,fv b]
def rulesL:List Value :=
 ruleV 0 155 156 157 ++ (
 ruleV 0 155 158 159 ++ (
 ruleV 0 160 161 157 ++ (
 ruleV 0 162 163 157 ++ (
 ruleV 5 160 161 157 ++ (
 ruleV 1 155 156 157 ++ (
 ruleV 0 164 165 157))))))
def rulesV:Value:=.agg rulesL.toArray
theorem rules_any (w:World):Calls Tryz.prog 115 #[] w fun e w'=>e = .returned rulesV ∧ Below w.heap.size w w':=by
 have hi:(Tryz.prog.info? 166).map (·.size) = some rulesL.toArray.size:=by kernel_rfl
 have h1:rulesL.toArray.all (·.oneCell') = true:=by kernel_rfl
 go_enter Tryz.func115,Tryz.ntmps115
 go_wp2_with (refine wpList_store_rowTo rfl 166 _ _ rfl rfl w.heap.size rulesL.toArray rfl rfl 166 _ (heap_alloc_last w _) hi rfl h1 ?_)
 rw [World.setRow_alloc_new]
 refine bodyPost_ret (v:=rulesV) ?_ rfl ⟨rfl,below_new w _⟩
 exact results_cell_row rfl _ _ w.heap.size 166 rulesL.toArray (0,0) _ rfl (heap_alloc_last w _) Tryz.underlying166 rfl hi
def ruleI (k:Nat):Value:=.agg ((rulesL.drop (4 * k)).take 4).toArray
theorem rule_at (k:Nat) (hk:k < 7) (w:World):(Instr.index 166 rulesV (.int .i64 k)).run Tryz.prog w = .ok (ruleI k) w:=by
 rcases k with _ | _ | _ | _ | _ | _ | _ | k
 ·kernel_rfl
 ·kernel_rfl
 ·kernel_rfl
 ·kernel_rfl
 ·kernel_rfl
 ·kernel_rfl
 ·kernel_rfl
 ·omega
def fitsB (k n:Int):Bool :=
 if k = 0 then true else if k = 1 then true else if k = 2 then decide (0 ≤ n) && decide (n ≤ 4294967295) else if k = 3 then n == 0 || n == 1
 else if k = 4 then decide (0 ≤ n) && decide (n ≤ 4294967295) else if k = 5 then true else if k = 6 then decide (-2147483648 ≤ n) && decide (n ≤ 2147483647) else false
theorem fits_by (k f:Nat) (n:Int) (b:Bool) (hk:k < 7)
  (hf:∀ w,(Instr.field 165 (ruleI k) 1).run Tryz.prog w = .ok (.func (.func f) #[] #[]) w)
  (hent:∀ args w,(callFunc f args).run Tryz.prog w = .ok (.enter f args) w)
  (hcall:∀ w,Calls Tryz.prog f #[.int .i64 n] w fun e w'=>e = .returned (.bool b) ∧ w = w')
  (w:World):Calls Tryz.prog 207 #[.int .i64 k,.int .i64 n] w fun e w'=>e = .returned (.bool b) ∧ Below w.heap.size w w':=by
 have hx:=rule_at k hk
 have hc:∀ w,Calls Tryz.prog 114 #[.int .i64 k] w fun e w'=>e = .returned (.bool true) ∧ w = w':=fun w=>by
  have h:=counts_any k w
  rw [show (decide (0 ≤ (k:Int)) && decide ((k:Int) < 7)) = true by simp; omega] at h
  exact h
 go_enter Tryz.func207,Tryz.ntmps207
 go_wp2_with fail
 refine (hc _).mono ?_
 rintro e w1 ⟨rfl,rfl⟩
 go_wp2_with fail
 refine (rules_any _).mono ?_
 rintro e w1 ⟨rfl,hb⟩
 go_wp2_with fail
 refine (hcall _).mono ?_
 rintro e w2 ⟨rfl,rfl⟩
 go_wp2
 go_ret
 exact ⟨rfl,hb⟩
theorem of_by (k f:Nat) (r:Int) (v:Int) (hk:k < 7)
  (hf:∀ w,(Instr.field 165 (ruleI k) 2).run Tryz.prog w = .ok (.func (.func f) #[] #[]) w)
  (hent:∀ args w,(callFunc f args).run Tryz.prog w = .ok (.enter f args) w)
  (hcall:∀ w,Calls Tryz.prog f #[.int .u64 r] w fun e w'=>e = .returned (.int .i64 v) ∧ w = w')
  (w:World):Calls Tryz.prog 82 #[.int .i64 k,.int .u64 r] w fun e w'=>e = .returned (.tuple #[.int .i64 v,.bool true]) ∧ Below w.heap.size w w':=by
 have hx:=rule_at k hk
 have hc:∀ w,Calls Tryz.prog 114 #[.int .i64 k] w fun e w'=>e = .returned (.bool true) ∧ w = w':=fun w=>by
  have h:=counts_any k w
  rw [show (decide (0 ≤ (k:Int)) && decide ((k:Int) < 7)) = true by simp; omega] at h
  exact h
 go_enter Tryz.func82,Tryz.ntmps82
 go_wp2_with fail
 refine (hc _).mono ?_
 rintro e w1 ⟨rfl,rfl⟩
 go_wp2_with fail
 refine (rules_any _).mono ?_
 rintro e w1 ⟨rfl,hb⟩
 go_wp2_with fail
 refine (hcall _).mono ?_
 rintro e w2 ⟨rfl,rfl⟩
 go_wp2
 go_ret2
 exact ⟨rfl,hb⟩
theorem wire_by (k:Nat) (v:Int) (hk:k < 7)
  (hf:∀ w,(Instr.field 165 (ruleI k) 0).run Tryz.prog w = .ok (.int .i64 v) w)
  (w:World):Calls Tryz.prog 80 #[.int .i64 k] w fun e w'=>e = .returned (.int .i64 v) ∧ Below w.heap.size w w':=by
 have hx:=rule_at k hk
 have hc:∀ w,Calls Tryz.prog 114 #[.int .i64 k] w fun e w'=>e = .returned (.bool true) ∧ w = w':=fun w=>by
  have h:=counts_any k w
  rw [show (decide (0 ≤ (k:Int)) && decide ((k:Int) < 7)) = true by simp; omega] at h
  exact h
 go_enter Tryz.func80,Tryz.ntmps80
 go_wp2_with fail
 refine (hc _).mono ?_
 rintro e w1 ⟨rfl,rfl⟩
 go_wp2_with fail
 refine (rules_any _).mono ?_
 rintro e w1 ⟨rfl,hb⟩
 go_wp2
 go_ret
 exact ⟨rfl,hb⟩
theorem counts_not {k:Int} (h:¬ (0 ≤ k ∧ k < 7)) (w:World):Calls Tryz.prog 114 #[.int .i64 k] w fun e w'=>e = .returned (.bool false) ∧ w = w':=by
 have h2:=counts_any k w
 rw [show (decide (0 ≤ k) && decide (k < 7)) = false by simp; omega] at h2
 exact h2
theorem wire_not (k:Int) (h:¬ (0 ≤ k ∧ k < 7)) (w:World) :
  Calls Tryz.prog 80 #[.int .i64 k] w fun e w'=>e = .returned (.int .i64 (if 0 ≤ k ∧ k < 10 then 2 else -1)) ∧ Below w.heap.size w w':=by
 have hc:=counts_not h
 by_cases h1:k < 0
 ·rw [if_neg (by omega)]
  clear h
  go_enter Tryz.func80,Tryz.ntmps80
  go_wp2_with fail
  refine (hc _).mono ?_
  rintro e w1 ⟨rfl,rfl⟩
  go_wp2
  go_ret
  exact ⟨rfl,Below.refl _ _⟩
 by_cases h2:k < 10
 ·rw [if_pos (by omega)]
  clear h
  go_enter Tryz.func80,Tryz.ntmps80
  go_wp2_with fail
  refine (hc _).mono ?_
  rintro e w1 ⟨rfl,rfl⟩
  go_wp2
  go_ret
  exact ⟨rfl,Below.refl _ _⟩
 ·rw [if_neg (by omega)]
  clear h
  go_enter Tryz.func80,Tryz.ntmps80
  go_wp2_with fail
  refine (hc _).mono ?_
  rintro e w1 ⟨rfl,rfl⟩
  go_wp2
  go_ret
  exact ⟨rfl,Below.refl _ _⟩
theorem of_not (k:Int) (r:Int) (h:¬ (0 ≤ k ∧ k < 7)) (w:World) :
  Calls Tryz.prog 82 #[.int .i64 k,.int .u64 r] w fun e w'=>e = .returned (.tuple #[.int .i64 0,.bool false]) ∧ Below w.heap.size w w':=by
 have hc:=counts_not h
 clear h
 go_enter Tryz.func82,Tryz.ntmps82
 go_wp2_with fail
 refine (hc _).mono ?_
 rintro e w1 ⟨rfl,rfl⟩
 go_wp2
 go_ret2
 exact ⟨rfl,Below.refl _ _⟩
theorem fits_not (k:Int) (n:Int) (h:¬ (0 ≤ k ∧ k < 7)) (w:World) :
  Calls Tryz.prog 207 #[.int .i64 k,.int .i64 n] w fun e w'=>e = .returned (.bool false) ∧ Below w.heap.size w w':=by
 have hc:=counts_not h
 clear h
 go_enter Tryz.func207,Tryz.ntmps207
 go_wp2_with fail
 refine (hc _).mono ?_
 rintro e w1 ⟨rfl,rfl⟩
 go_wp2
 go_ret
 exact ⟨rfl,Below.refl _ _⟩
def cnt (k:Int):Bool:=decide (0 ≤ k ∧ k < 7)
def wireI (k:Int):Int:=if k = 0 ∨ k = 1 ∨ k = 2 ∨ k = 3 ∨ k = 6 then 0 else if k = 4 then 5 else if k = 5 then 1 else if 0 ≤ k ∧ k < 10 then 2 else -1
def ofI (k r:Int):Int :=
 if k = 0 then S64 r else if k = 1 then unzigI r else if k = 2 then r % 4294967296 else if k = 3 then (if r = 0 then 0 else 1) else if k = 4 then r % 4294967296 else if k = 5 then S64 r else if k = 6 then S32 (r % 4294967296) else 0
theorem seven {k:Int} (h:0 ≤ k ∧ k < 7):k = 0 ∨ k = 1 ∨ k = 2 ∨ k = 3 ∨ k = 4 ∨ k = 5 ∨ k = 6:=by omega
theorem wire_any (k:Int) (w:World):Calls Tryz.prog 80 #[.int .i64 k] w fun e w'=>e = .returned (.int .i64 (wireI k)) ∧ Below w.heap.size w w':=by
 by_cases h:0 ≤ k ∧ k < 7
 ·rcases seven h with rfl | rfl | rfl | rfl | rfl | rfl | rfl
  ·exact wire_by 0 0 (by omega) (fun _=>by kernel_rfl) w
  ·exact wire_by 1 0 (by omega) (fun _=>by kernel_rfl) w
  ·exact wire_by 2 0 (by omega) (fun _=>by kernel_rfl) w
  ·exact wire_by 3 0 (by omega) (fun _=>by kernel_rfl) w
  ·exact wire_by 4 5 (by omega) (fun _=>by kernel_rfl) w
  ·exact wire_by 5 1 (by omega) (fun _=>by kernel_rfl) w
  ·exact wire_by 6 0 (by omega) (fun _=>by kernel_rfl) w
 ·have e:wireI k = if 0 ≤ k ∧ k < 10 then 2 else -1:=by
   unfold wireI
   rw [if_neg (by omega),if_neg (by omega),if_neg (by omega)]
  rw [e]
  exact wire_not k h w
theorem fits_any (k n:Int) (w:World):Calls Tryz.prog 207 #[.int .i64 k,.int .i64 n] w fun e w'=>e = .returned (.bool (fitsB k n)) ∧ Below w.heap.size w w':=by
 by_cases h:0 ≤ k ∧ k < 7
 ·rcases seven h with rfl | rfl | rfl | rfl | rfl | rfl | rfl
  ·exact fits_by 0 _ n _ (by omega) (fun _=>by kernel_rfl) (fun _ _=>by kernel_rfl) (fitsAlways_any n) w
  ·exact fits_by 1 _ n _ (by omega) (fun _=>by kernel_rfl) (fun _ _=>by kernel_rfl) (fitsAlways_any n) w
  ·exact fits_by 2 _ n _ (by omega) (fun _=>by kernel_rfl) (fun _ _=>by kernel_rfl) (fitsLow_any n) w
  ·exact fits_by 3 _ n _ (by omega) (fun _=>by kernel_rfl) (fun _ _=>by kernel_rfl) (fitsFlag_any n) w
  ·exact fits_by 4 _ n _ (by omega) (fun _=>by kernel_rfl) (fun _ _=>by kernel_rfl) (fitsLow_any n) w
  ·exact fits_by 5 _ n _ (by omega) (fun _=>by kernel_rfl) (fun _ _=>by kernel_rfl) (fitsAlways_any n) w
  ·exact fits_by 6 _ n _ (by omega) (fun _=>by kernel_rfl) (fun _ _=>by kernel_rfl) (fitsSignedLow_any n) w
 ·have e:fitsB k n = false:=by
   unfold fitsB
   rw [if_neg (by omega),if_neg (by omega),if_neg (by omega),if_neg (by omega),if_neg (by omega),if_neg (by omega),if_neg (by omega)]
  rw [e]
  exact fits_not k n h w
theorem of_any (k r:Int) (h0:0 ≤ r) (h1:r < 18446744073709551616) (w:World):Calls Tryz.prog 82 #[.int .i64 k,.int .u64 r] w fun e w'=>e = .returned (.tuple #[.int .i64 (ofI k r),.bool (cnt k)]) ∧ Below w.heap.size w w':=by
 by_cases h:0 ≤ k ∧ k < 7
 ·rcases seven h with rfl | rfl | rfl | rfl | rfl | rfl | rfl
  ·exact of_by 0 _ r _ (by omega) (fun _=>by kernel_rfl) (fun _ _=>by kernel_rfl) (signed_any r h0 h1) w
  ·exact of_by 1 _ r _ (by omega) (fun _=>by kernel_rfl) (fun _ _=>by kernel_rfl) (unzigzag_any r h0 h1) w
  ·exact of_by 2 _ r _ (by omega) (fun _=>by kernel_rfl) (fun _ _=>by kernel_rfl) (low_any r h0 h1) w
  ·exact of_by 3 _ r _ (by omega) (fun _=>by kernel_rfl) (fun _ _=>by kernel_rfl) (flag_any r) w
  ·exact of_by 4 _ r _ (by omega) (fun _=>by kernel_rfl) (fun _ _=>by kernel_rfl) (low_any r h0 h1) w
  ·exact of_by 5 _ r _ (by omega) (fun _=>by kernel_rfl) (fun _ _=>by kernel_rfl) (signed_any r h0 h1) w
  ·exact of_by 6 _ r _ (by omega) (fun _=>by kernel_rfl) (fun _ _=>by kernel_rfl) (signedLow_any r h0 h1) w
 ·have e:ofI k r = 0:=by
   unfold ofI
   rw [if_neg (by omega),if_neg (by omega),if_neg (by omega),if_neg (by omega),if_neg (by omega),if_neg (by omega),if_neg (by omega)]
  have e2:cnt k = false:=by simp [cnt]; omega
  rw [e,e2]
  exact of_not k r h w
end Go.Proofs.YtckcojkpghiclaaGreatDoor
namespace Go.Proofs.YtckcojkpghiclaaGreatDoor.T9
set_option maxRecDepth 100000
open Go.Proofs.YtckcojkpghiclaaGreatDoor.T4
def utfB (s:List UInt8):Bool:=fineB s 0 s.length
def oneB (f:Mg → Bool):List Mg → Bool
 | [x]=>f x
 | _=>false
theorem oneB_ne {f:Mg → Bool} {l:List Mg} (h:l.length ≠ 1):oneB f l = false:=by
 match l,h with
 | [],_=>rfl
 | _ :: _ :: _,_=>rfl
def askG (G:Int → Mg → Bool) (kind ref:Int) (v:Vl'):Bool :=
 if kind = 7 then (v.n == 0) && (utfB v.s && v.M.isEmpty)
 else if kind = 8 then (v.n == 0) && v.M.isEmpty
 else if kind = 9 then (v.n == 0) && (v.s.isEmpty && oneB (G ref) v.M)
 else fitsB kind v.n && (v.s.isEmpty && v.M.isEmpty)
def manyB (f:Df) (k v:Nat):Bool:=if f.key = -1 then (k == 0) && (f.rep || v == 1) else k == v
def fillG (G:Int → Mg → Bool) (f:Df) (s:So):Bool:=manyB f s.K.length s.V.length && (s.K.all (askG G f.key 0) && s.V.all (askG G f.kind f.ref))
def claimsOf (f:Df):List (Int × Int):=if f.one = 0 then [(f.no,0)] else [(0,f.one),(f.no,0)]
def claimB (cl:List (Int × Int)) (f:Df):Bool:=!cl.contains (f.no,0) && (f.one == 0 || !((f.no,0) :: cl).contains (0,f.one))
def slotsG (fd:Int → Option Df) (fill:Df → So → Bool):List (Int × Int) → List So → Bool
 | _,[]=>true
 | cl,s :: l=>match fd s.no with
  | none=>false
  | some f=>claimB cl f && (fill f s && slotsG fd fill (claimsOf f ++ cl) l)
def isG (s:Sc) (G:Int → Mg → Bool) (m:Int) (x:Mg):Bool:=decide (0 ≤ m ∧ m < s.M.length) && slotsG (byS s m) (fillG G) [] x.F
def isB (s:Sc):Nat → Int → Mg → Bool
 | 0=>fun _ _=>false
 | d + 1=>isG s (isB s d)
open Classical in
noncomputable def mayT (s:Sc) (m:Int) (x:Mg):Bool:=decide (ScMay s) && isB s 64 m x
theorem slotsG_cons {fd:Int → Option Df} {fill:Df → So → Bool} {cl:List (Int × Int)} {s:So} {l:List So}:slotsG fd fill cl (s :: l) = match fd s.no with | none=>false | some f=>claimB cl f && (fill f s && slotsG fd fill (claimsOf f ++ cl) l):=rfl
theorem drop_cons {α:Type} {l:List α} {k:Nat} {a:α} (h:l[k]? = some a):l.drop k = a :: l.drop (k + 1):=by
 obtain ⟨hk,rfl⟩:=List.getElem?_eq_some_iff.1 h
 exact List.drop_eq_getElem_cons hk
theorem ask_of {G:Int → Mg → Bool} {kind ref:Int} {v:Vl'} (h:askG G kind ref v = true) (h9:kind ≠ 9):v.M = []:=by
 unfold askG at h
 repeat' split at h
 all_goals simp_all
end Go.Proofs.YtckcojkpghiclaaGreatDoor.T9
namespace Go.Proofs.YtckcojkpghiclaaGreatDoor.T9
set_option maxRecDepth 100000
section
variable {α:Type}
def insL (lt:α → α → Bool) (x:α):List α → List α
 | []=>[x]
 | a :: l=>if lt x a = true then x :: a :: l else if lt a x = true then a :: insL lt x l else a :: l
def srt (lt:α → α → Bool) (l:List α):List α:=l.foldr (insL lt) []
def Rise (lt:α → α → Bool) (l:List α):Prop:=l.Pairwise fun a b=>lt a b = true
variable {lt:α → α → Bool}
theorem mem_insL_sub {x y:α}:∀ {l:List α},y ∈ insL lt x l → y = x ∨ y ∈ l
 | [],h=>.inl (by simpa [insL] using h)
 | a :: l,h=>by
  unfold insL at h
  split at h
  ·simpa using h
  ·split at h
   ·rcases List.mem_cons.1 h with h | h
    ·exact .inr (by simp [h])
    ·rcases mem_insL_sub h with h | h
     ·exact .inl h
     ·exact .inr (by simp [h])
   ·exact .inr h
theorem mem_insL_old {x y:α}:∀ {l:List α},y ∈ l → y ∈ insL lt x l
 | a :: l,h=>by
  unfold insL
  split
  ·simp [List.mem_cons.1 h]
  ·split
   ·rcases List.mem_cons.1 h with h | h
    ·simp [h]
    ·exact List.mem_cons_of_mem _ (mem_insL_old h)
   ·exact h
theorem mem_insL_new {x:α}:∀ {l:List α},(∀ a ∈ l,lt x a = false → lt a x = false → x = a) → x ∈ insL lt x l
 | [],_=>by simp [insL]
 | a :: l,h=>by
  unfold insL
  split
  ·simp
  ·rename_i h1
   split
   ·exact List.mem_cons_of_mem _ (mem_insL_new fun b hb=>h b (by simp [hb]))
   ·rename_i h2
    rw [h a (by simp) (by simpa using h1) (by simpa using h2)]
    simp
theorem rise_insL (tr:∀ a b c,lt a b = true → lt b c = true → lt a c = true) {x:α}:∀ {l:List α},Rise lt l → Rise lt (insL lt x l)
 | [],_=>List.pairwise_singleton _ _
 | a :: l,h=>by
  obtain ⟨h1,h2⟩:=List.pairwise_cons.1 h
  unfold insL
  split
  ·rename_i hx
   refine List.pairwise_cons.2 ⟨fun b hb=>?_,h⟩
   rcases List.mem_cons.1 hb with rfl | hb
   ·exact hx
   ·exact tr _ _ _ hx (h1 b hb)
  ·split
   ·rename_i hx
    refine List.pairwise_cons.2 ⟨fun b hb=>?_,rise_insL tr h2⟩
    rcases mem_insL_sub hb with rfl | hb
    ·exact hx
    ·exact h1 b hb
   ·exact h
theorem rise_srt (tr:∀ a b c,lt a b = true → lt b c = true → lt a c = true):∀ l:List α,Rise lt (srt lt l)
 | []=>List.Pairwise.nil
 | _ :: l=>rise_insL tr (rise_srt tr l)
theorem mem_srt_sub {y:α}:∀ {l:List α},y ∈ srt lt l → y ∈ l
 | x :: l,h=>by
  rcases mem_insL_sub (show y ∈ insL lt x (srt lt l) from h) with h | h
  ·simp [h]
  ·exact List.mem_cons_of_mem _ (mem_srt_sub h)
theorem mem_srt {l:List α} (h:∀ a ∈ l,∀ b ∈ l,lt a b = false → lt b a = false → a = b) {y:α}:y ∈ srt lt l ↔ y ∈ l:=by
 refine ⟨mem_srt_sub,fun hy=>?_⟩
 induction l with
 | nil=>cases hy
 | cons x l ih =>
  show y ∈ insL lt x (srt lt l)
  rcases List.mem_cons.1 hy with rfl | hy
  ·exact mem_insL_new fun a ha=>h _ (by simp) _ (List.mem_cons_of_mem _ (mem_srt_sub ha))
  ·exact mem_insL_old (ih (fun a ha b hb=>h a (by simp [ha]) b (by simp [hb])) hy)
theorem rise_unique' (ir:∀ a,lt a a = false) (tr:∀ a b c,lt a b = true → lt b c = true → lt a c = true):∀ {l m:List α},Rise lt l → Rise lt m → (∀ x,x ∈ l ↔ x ∈ m) → l = m
 | [],[],_,_,_=>rfl
 | [],b :: m,_,_,h=>absurd ((h b).2 (by simp)) (by simp)
 | a :: l,[],_,_,h=>absurd ((h a).1 (by simp)) (by simp)
 | a :: l,b :: m,h1,h2,h=>by
  obtain ⟨p1,p2⟩:=List.pairwise_cons.1 h1
  obtain ⟨q1,q2⟩:=List.pairwise_cons.1 h2
  have e:a = b:=by
   rcases List.mem_cons.1 ((h a).1 (by simp)) with e | ha
   ·exact e
   ·rcases List.mem_cons.1 ((h b).2 (by simp)) with e | hb
    ·exact e.symm
    ·have:=tr _ _ _ (p1 b hb) (q1 a ha)
     rw [ir] at this
     cases this
  subst e
  refine congrArg (a :: ·) (rise_unique' ir tr p2 q2 fun x=>?_)
  constructor
  ·intro hx
   rcases List.mem_cons.1 ((h x).1 (by simp [hx])) with rfl | h'
   ·have:=p1 _ hx
    rw [ir] at this
    cases this
   ·exact h'
  ·intro hx
   rcases List.mem_cons.1 ((h x).2 (by simp [hx])) with rfl | h'
   ·have:=q1 _ hx
    rw [ir] at this
    cases this
   ·exact h'
theorem srt_is (ir:∀ a,lt a a = false) (tr:∀ a b c,lt a b = true → lt b c = true → lt a c = true) {l d:List α} (h:∀ a ∈ l,∀ b ∈ l,lt a b = false → lt b a = false → a = b) (hr:Rise lt d) (hm:∀ x,x ∈ d ↔ x ∈ l):d = srt lt l :=
 rise_unique' ir tr hr (rise_srt tr l) fun x=>(hm x).trans (mem_srt h).symm
theorem rise_of_sorted {l:List α} (hd:l.Pairwise fun a b=>lt a b = true ∨ lt b a = true) (hs:∀ i j (hi:i < l.length) (hj:j < l.length),i < j → lt l[j] l[i] = false):Rise lt l:=by
 rw [Rise,List.pairwise_iff_getElem] at *
 intro i j hi hj hij
 rcases hd i j hi hj hij with h | h
 ·exact h
 ·rw [hs i j hi hj hij] at h; cases h
end
end Go.Proofs.YtckcojkpghiclaaGreatDoor.T9
namespace Go.Proofs.YtckcojkpghiclaaGreatDoor.T9
set_option maxRecDepth 100000
theorem by_same:∀ a:List UInt8,Op.bytesLess a a = false
 | []=>rfl
 | x :: a=>by
  have h:Op.bytesLess (x :: a) (x :: a) = (decide (x < x) || (x == x && Op.bytesLess a a)):=rfl
  rw [h,by_same a]
  simp
theorem by_asym:∀ a b:List UInt8,Op.bytesLess a b = true → Op.bytesLess b a = false
 | [],[],_=>rfl
 | [],_ :: _,_=>rfl
 | _ :: _,[],h=>by cases h
 | x :: a,y :: b,h=>by
  have h1:Op.bytesLess (x :: a) (y :: b) = (decide (x < y) || (x == y && Op.bytesLess a b)):=rfl
  have h2:Op.bytesLess (y :: b) (x :: a) = (decide (y < x) || (y == x && Op.bytesLess b a)):=rfl
  rw [h1] at h
  rw [h2]
  simp only [Bool.or_eq_true,decide_eq_true_eq,Bool.and_eq_true,beq_iff_eq] at h
  rw [Bool.or_eq_false_iff]
  simp only [decide_eq_false_iff_not,Bool.and_eq_false_iff,beq_eq_false_iff_ne,ne_eq]
  rcases h with h | ⟨rfl,h⟩
  ·refine ⟨fun h3=>?_,.inl fun e=>?_⟩
   ·rw [UInt8.lt_iff_toNat_lt] at h h3; omega
   ·subst e; rw [UInt8.lt_iff_toNat_lt] at h; omega
  ·exact ⟨fun h3=>by rw [UInt8.lt_iff_toNat_lt] at h3; omega,.inr (by_asym a b h)⟩
theorem by_total:∀ a b:List UInt8,Op.bytesLess a b = false → Op.bytesLess b a = false → a = b
 | [],[],_,_=>rfl
 | [],_ :: _,h,_=>by cases h
 | _ :: _,[],_,h=>by cases h
 | x :: a,y :: b,h,h'=>by
  have h1:Op.bytesLess (x :: a) (y :: b) = (decide (x < y) || (x == y && Op.bytesLess a b)):=rfl
  have h2:Op.bytesLess (y :: b) (x :: a) = (decide (y < x) || (y == x && Op.bytesLess b a)):=rfl
  rw [h1] at h
  rw [h2] at h'
  simp only [Bool.or_eq_false_iff,decide_eq_false_iff_not,Bool.and_eq_false_iff,beq_eq_false_iff_ne,ne_eq] at h h'
  have e:x = y:=by
   apply UInt8.toNat_inj.1
   have h3:=h.1
   have h4:=h'.1
   rw [UInt8.lt_iff_toNat_lt] at h3 h4
   omega
  subst e
  rw [by_total a b (by simpa using h.2) (by simpa using h'.2)]
theorem by_trans:∀ a b c:List UInt8,Op.bytesLess a b = true → Op.bytesLess b c = true → Op.bytesLess a c = true
 | [],[],_,h,_=>by cases h
 | _ :: _,[],_,h,_=>by cases h
 | _,_ :: _,[],_,h=>by cases h
 | [],_ :: _,_ :: _,_,_=>rfl
 | x :: a,y :: b,z :: c,h,h'=>by
  have h1:Op.bytesLess (x :: a) (y :: b) = (decide (x < y) || (x == y && Op.bytesLess a b)):=rfl
  have h2:Op.bytesLess (y :: b) (z :: c) = (decide (y < z) || (y == z && Op.bytesLess b c)):=rfl
  have h3:Op.bytesLess (x :: a) (z :: c) = (decide (x < z) || (x == z && Op.bytesLess a c)):=rfl
  rw [h1] at h
  rw [h2] at h'
  rw [h3]
  simp only [Bool.or_eq_true,decide_eq_true_eq,Bool.and_eq_true,beq_iff_eq,UInt8.lt_iff_toNat_lt] at h h' ⊢
  rcases h with h | ⟨rfl,h⟩
  ·rcases h' with h' | ⟨rfl,h'⟩
   ·left; omega
   ·left; omega
  ·rcases h' with h' | ⟨rfl,h'⟩
   ·left; omega
   ·right; exact ⟨rfl,by_trans a b c h h'⟩
theorem lessV_same {a b:Vl'} (hn:a.n = b.n) (hs:a.s = b.s):lessV a b = false:=by
 unfold lessV
 rw [if_pos hn,hs,by_same]
theorem lessV_total {a b:Vl'} (h:lessV a b = false) (h':lessV b a = false):a.n = b.n ∧ a.s = b.s:=by
 unfold lessV at h h'
 by_cases e:a.n = b.n
 ·rw [if_pos e] at h
  rw [if_pos e.symm] at h'
  exact ⟨e,by_total _ _ h h'⟩
 ·rw [if_neg e] at h
  rw [if_neg (fun h=>e h.symm)] at h'
  rw [decide_eq_false_iff_not] at h h'
  omega
theorem lessV_trans {a b c:Vl'} (h:lessV a b = true) (h':lessV b c = true):lessV a c = true:=by
 unfold lessV at h h' ⊢
 by_cases e:a.n = b.n
 ·rw [if_pos e] at h
  by_cases f:b.n = c.n
  ·rw [if_pos f] at h'
   rw [if_pos (e.trans f)]
   exact by_trans _ _ _ h h'
  ·rw [if_neg f,decide_eq_true_eq] at h'
   rw [if_neg (by omega),decide_eq_true_eq]
   omega
 ·rw [if_neg e,decide_eq_true_eq] at h
  by_cases f:b.n = c.n
  ·rw [if_neg (by omega),decide_eq_true_eq]
   omega
  ·rw [if_neg f,decide_eq_true_eq] at h'
   rw [if_neg (by omega),decide_eq_true_eq]
   omega
end Go.Proofs.YtckcojkpghiclaaGreatDoor.T9
namespace Go.Proofs.YtckcojkpghiclaaGreatDoor.T9
set_option maxRecDepth 100000
open Go.RowKit Go.ChangeShapes Go.WideShapes Go.ChangeAt
def inI (n:Int):Prop:=-9223372036854775808 ≤ n ∧ n ≤ 9223372036854775807
inductive MIn:Mg → Prop
 | mk {m:Mg} (h1:∀ s ∈ m.F,inI s.no) (h2:∀ s ∈ m.F,∀ v,v ∈ s.K ∨ v ∈ s.V → inI v.n ∧ v.s.length ≤ 140737488351232) (h3:∀ s ∈ m.F,∀ v,v ∈ s.K ∨ v ∈ s.V → ∀ x ∈ v.M,MIn x):MIn m
def VIn (v:Vl'):Prop:=(inI v.n ∧ v.s.length ≤ 140737488351232) ∧ ∀ x ∈ v.M,MIn x
def SIn (s:So):Prop:=inI s.no ∧ ∀ v,v ∈ s.K ∨ v ∈ s.V → VIn v
theorem MIn.slot {m:Mg} (h:MIn m) {s:So} (hs:s ∈ m.F):SIn s:=by
 cases h with
 | mk h1 h2 h3=>exact ⟨h1 s hs,fun v hv=>⟨h2 s hs v hv,h3 s hs v hv⟩⟩
theorem MIn.of {m:Mg} (h:∀ s ∈ m.F,SIn s):MIn m:=.mk (fun s hs=>(h s hs).1) (fun s hs v hv=>((h s hs).2 v hv).1) fun s hs v hv=>((h s hs).2 v hv).2
theorem SIn.val {s:So} (h:SIn s) {v:Vl'} (hv:v ∈ s.K ∨ v ∈ s.V):VIn v:=h.2 v hv
theorem VIn.msg {v:Vl'} (h:VIn v) {x:Mg} (hx:x ∈ v.M):MIn x:=h.2 x hx
end Go.Proofs.YtckcojkpghiclaaGreatDoor.T9
namespace Go.Proofs.YtckcojkpghiclaaGreatDoor.T9
set_option maxRecDepth 100000
open Go.Proofs.YtckcojkpghiclaaGreatDoor.T4
def defB (v:Vl'):Bool:=(v.n == 0) && (v.s.isEmpty && v.M.isEmpty)
def toldB (f:Df) (l:List Vl'):Bool:=match l with
 | []=>false
 | v :: _=>f.rep || (f.key != -1 || (f.one != 0 || (f.kind == 9 || !defB v)))
def ltNo (a b:So):Bool:=decide (a.no < b.no)
def bare (v:Vl'):Vl':=⟨v.n,v.s,[]⟩
def sameK (a b:Vl'):Bool:=(a.n == b.n) && (a.s == b.s)
def risen (K:List Vl'):List Vl':=srt lessV (K.map bare)
def lastP (P:List (Vl' × Vl')) (k:Vl'):Vl' × Vl':=(P.reverse.find? fun p=>sameK p.1 k).getD (⟨0,[],[]⟩,⟨0,[],[]⟩)
def lastV (P:List (Vl' × Vl')) (k:Vl'):Vl':=(lastP P k).2
def norV (N:Int → Mg → Mg) (ref:Int) (v:Vl'):Vl':=⟨v.n,v.s,v.M.map (N ref)⟩
def norS (N:Int → Mg → Mg) (f:Df) (a:So):So :=
 if f.key = -1 then ⟨a.no,[],a.V.map (norV N f.ref)⟩ else ⟨a.no,risen a.K,(risen a.K).map fun k=>norV N f.ref (lastV (a.K.zip a.V) k)⟩
def norO (fd:Int → Option Df) (N:Int → Mg → Mg) (a:So):Option So:=(fd a.no).bind fun f=>if toldB f a.V then some (norS N f a) else none
def norF (fd:Int → Option Df) (N:Int → Mg → Mg) (F:List So):List So:=srt ltNo (F.filterMap (norO fd N))
def norG (s:Sc) (N:Int → Mg → Mg) (m:Int) (x:Mg):Mg:=.mk (norF (byS s m) N x.F)
def norB (s:Sc):Nat → Int → Mg → Mg
 | 0=>fun _ _=>.mk []
 | d + 1=>norG s (norB s d)
theorem no_irr (a:So):ltNo a a = false:=by simp [ltNo]
theorem no_tr (a b c:So) (h:ltNo a b = true) (h':ltNo b c = true):ltNo a c = true:=by
 unfold ltNo at *
 simp only [decide_eq_true_eq] at *
 omega
theorem lv_irr (a:Vl'):lessV a a = false:=lessV_same rfl rfl
theorem lv_tr (a b c:Vl') (h:lessV a b = true) (h':lessV b c = true):lessV a c = true:=lessV_trans h h'
theorem same_iff {a b:Vl'}:sameK a b = true ↔ a.n = b.n ∧ a.s = b.s:=by simp [sameK]
theorem bare_same {a b:Vl'}:bare a = bare b ↔ sameK a b = true:=by
 rw [same_iff]
 unfold bare
 simp
theorem lv_tot (K:List Vl'):∀ a ∈ K.map bare,∀ b ∈ K.map bare,lessV a b = false → lessV b a = false → a = b:=by
 intro a ha b hb h h'
 obtain ⟨x,_,rfl⟩:=List.mem_map.1 ha
 obtain ⟨y,_,rfl⟩:=List.mem_map.1 hb
 obtain ⟨h1,h2⟩:=lessV_total h h'
 exact bare_same.2 (same_iff.2 ⟨h1,h2⟩)
theorem mem_risen {K:List Vl'} {k:Vl'}:k ∈ risen K ↔ ∃ x ∈ K,bare x = k:=by
 unfold risen
 rw [mem_srt (lv_tot K),List.mem_map]
theorem rise_risen (K:List Vl'):Rise lessV (risen K):=rise_srt lv_tr _
theorem bare_risen {K:List Vl'} {k:Vl'} (h:k ∈ risen K):bare k = k:=by
 obtain ⟨x,_,rfl⟩:=mem_risen.1 h
 rfl
theorem no_tot {l:List So} (h:l.Pairwise fun a b=>a.no ≠ b.no):∀ a ∈ l,∀ b ∈ l,ltNo a b = false → ltNo b a = false → a = b:=by
 intro a ha b hb h1 h2
 unfold ltNo at h1 h2
 rw [decide_eq_false_iff_not] at h1 h2
 have e:a.no = b.no:=by omega
 obtain ⟨i,hi,rfl⟩:=List.mem_iff_getElem.1 ha
 obtain ⟨j,hj,rfl⟩:=List.mem_iff_getElem.1 hb
 rw [List.pairwise_iff_getElem] at h
 rcases Nat.lt_trichotomy i j with hij | hij | hij
 ·exact absurd e (h i j hi hj hij)
 ·subst hij; rfl
 ·exact absurd e.symm (h j i hj hi hij)
def clsOf (fd:Int → Option Df) (a:So):List (Int × Int):=match fd a.no with | none=>[] | some f=>claimsOf f
def Dj (fd:Int → Option Df) (a b:So):Prop:=∀ c ∈ clsOf fd a,c ∉ clsOf fd b
theorem claim_iff {cl:List (Int × Int)} {f:Df}:claimB cl f = true ↔ ∀ c ∈ claimsOf f,c ∉ cl:=by
 unfold claimB claimsOf
 by_cases h:f.one = 0
 ·rw [if_pos h]; simp [h]
 ·rw [if_neg h]
  have h2:(0,f.one) ≠ (f.no,(0:Int)):=fun e=>h (congrArg Prod.snd e)
  simp [h,h2,and_comm]
theorem slots_iff {fd:Int → Option Df} {fill:Df → So → Bool} {cl:List (Int × Int)} {l:List So} :
  slotsG fd fill cl l = true ↔ (∀ a ∈ l,∃ f,fd a.no = some f ∧ fill f a = true) ∧ (∀ a ∈ l,∀ c ∈ clsOf fd a,c ∉ cl) ∧ l.Pairwise (Dj fd):=by
 induction l generalizing cl with
 | nil=>simp [slotsG]
 | cons a l ih =>
  rw [slotsG_cons]
  cases h:fd a.no with
  | none=>simp [h]
  | some f =>
   have hc:clsOf fd a = claimsOf f:=by unfold clsOf; rw [h]
   simp only [Bool.and_eq_true,ih,claim_iff,List.pairwise_cons,List.mem_cons,forall_eq_or_imp,hc]
   constructor
   ·rintro ⟨h1,h2,h3,h4,h5⟩
    refine ⟨⟨⟨f,h,h2⟩,h3⟩,⟨h1,fun b hb c hcb hcl=>h4 b hb c hcb (List.mem_append.2 (.inr hcl))⟩,fun b hb c hca hcb=>?_,h5⟩
    rw [hc] at hca
    exact h4 b hb c hcb (List.mem_append.2 (.inl hca))
   ·rintro ⟨⟨⟨g,hg,h2⟩,h3⟩,⟨h1,h4⟩,h5,h6⟩
    rw [h] at hg
    obtain rfl:=Option.some.inj hg
    refine ⟨h1,h2,h3,fun b hb c hcb hm=>?_,h6⟩
    rcases List.mem_append.1 hm with hm | hm
    ·exact h5 b hb c (by rw [hc]; exact hm) hcb
    ·exact h4 b hb c hcb hm
theorem dj_no {fd:Int → Option Df} {a b:So} {f:Df} (h:Dj fd a b) (ha:fd a.no = some f):a.no ≠ b.no:=by
 intro e
 have h1:clsOf fd a = claimsOf f:=by unfold clsOf; rw [ha]
 have h2:clsOf fd b = claimsOf f:=by unfold clsOf; rw [← e,ha]
 have h3:(f.no,(0:Int)) ∈ claimsOf f:=by unfold claimsOf; split <;> simp
 exact h _ (by rw [h1]; exact h3) (by rw [h2]; exact h3)
theorem dj_cong {fd:Int → Option Df} {a b a' b':So} (h:Dj fd a b) (ha:a'.no = a.no) (hb:b'.no = b.no):Dj fd a' b':=by
 unfold Dj clsOf at *
 rw [ha,hb]
 exact h
theorem slots_no {fd:Int → Option Df} {fill:Df → So → Bool} {l:List So} (h:slotsG fd fill [] l = true):l.Pairwise fun a b=>a.no ≠ b.no:=by
 obtain ⟨h1,-,h3⟩:=slots_iff.1 h
 refine List.Pairwise.imp_of_mem (fun {a b} ha hb hab=>?_) h3
 obtain ⟨f,hf,_⟩:=h1 a ha
 exact dj_no hab hf
theorem slots_sub {fd:Int → Option Df} {fill:Df → So → Bool} {l l':List So} (h:slotsG fd fill [] l = true) (hs:l'.Sublist l):slotsG fd fill [] l' = true:=by
 obtain ⟨h1,-,h3⟩:=slots_iff.1 h
 exact slots_iff.2 ⟨fun a ha=>h1 a (hs.subset ha),fun _ _ _ _=>by simp,h3.sublist hs⟩
theorem norS_no {N:Int → Mg → Mg} {f:Df} {a:So}:(norS N f a).no = a.no:=by unfold norS; split <;> rfl
theorem norO_some {fd:Int → Option Df} {N:Int → Mg → Mg} {a b:So} (h:norO fd N a = some b):∃ f,fd a.no = some f ∧ toldB f a.V = true ∧ b = norS N f a:=by
 unfold norO at h
 cases hf:fd a.no with
 | none=>rw [hf] at h; cases h
 | some f =>
  rw [hf,Option.bind_some] at h
  split at h
  ·rename_i ht
   exact ⟨f,rfl,ht,(Option.some.inj h).symm⟩
  ·cases h
theorem norO_no {fd:Int → Option Df} {N:Int → Mg → Mg} {a b:So} (h:norO fd N a = some b):b.no = a.no:=by
 obtain ⟨f,_,_,rfl⟩:=norO_some h
 exact norS_no
theorem told_no {fd:Int → Option Df} {N:Int → Mg → Mg} {l:List So} (h:l.Pairwise fun a b=>a.no ≠ b.no):(l.filterMap (norO fd N)).Pairwise fun a b=>a.no ≠ b.no:=by
 rw [List.pairwise_filterMap]
 refine h.imp fun {a b} hab c hc d hd=>?_
 rw [norO_no hc,norO_no hd]
 exact hab
theorem ask_nine {G:Int → Mg → Bool} {ref:Int} {v:Vl'} (h:askG G 9 ref v = true):v.n = 0 ∧ v.s = [] ∧ ∃ x,v.M = [x] ∧ G ref x = true:=by
 unfold askG at h
 rw [if_neg (by omega),if_neg (by omega),if_pos rfl] at h
 simp only [Bool.and_eq_true,beq_iff_eq,List.isEmpty_iff] at h
 obtain ⟨h1,h2,h3⟩:=h
 refine ⟨h1,h2,?_⟩
 obtain ⟨n,s,M⟩:=v
 match M,h3 with
 | [x],h3=>exact ⟨x,rfl,h3⟩
theorem last_in {K V:List Vl'} (hl:K.length = V.length) {k x:Vl'} (hx:x ∈ K) (hk:sameK x k = true):lastP (K.zip V) k ∈ K.zip V ∧ sameK (lastP (K.zip V) k).1 k = true:=by
 unfold lastP
 obtain ⟨i,hi,rfl⟩:=List.mem_iff_getElem.1 hx
 have hz:(K[i],V[i]) ∈ K.zip V:=by
  rw [List.mem_iff_getElem]
  exact ⟨i,by rw [List.length_zip]; omega,List.getElem_zip⟩
 cases h:(K.zip V).reverse.find? fun p=>sameK p.1 k with
 | none =>
  rw [List.find?_eq_none] at h
  exact absurd hk (h _ (List.mem_reverse.2 hz))
 | some p =>
  have h1:=List.find?_some h
  have h2:=List.mem_of_find?_eq_some h
  exact ⟨List.mem_reverse.1 h2,h1⟩
theorem last_risen {K V:List Vl'} (hl:K.length = V.length) {k:Vl'} (hk:k ∈ risen K):lastP (K.zip V) k ∈ K.zip V ∧ sameK (lastP (K.zip V) k).1 k = true:=by
 obtain ⟨x,hx,rfl⟩:=mem_risen.1 hk
 exact last_in hl hx (by rw [same_iff]; exact ⟨rfl,rfl⟩)
theorem last_V {K V:List Vl'} (hl:K.length = V.length) {k:Vl'} (hk:k ∈ risen K):lastV (K.zip V) k ∈ V:=(List.of_mem_zip (last_risen hl hk).1).2
theorem last_apart {K V:List Vl'} (hl:K.length = V.length):(risen K).Pairwise fun a b=>lastP (K.zip V) a ≠ lastP (K.zip V) b:=by
 refine List.Pairwise.imp_of_mem (fun {a b} ha hb hab=>?_) (rise_risen K)
 intro e
 have h1:=(last_risen hl ha).2
 have h2:=(last_risen hl hb).2
 rw [e] at h1
 rw [same_iff] at h1 h2
 rw [lessV_same (h1.1.symm.trans h2.1) (h1.2.symm.trans h2.2)] at hab
 cases hab
theorem sm_inj {α β:Type} (g:α → Nat) (h:β → Nat) (r:α → β):∀ (l:List α) (m:List β),(∀ a ∈ l,r a ∈ m ∧ g a ≤ h (r a)) → l.Pairwise (fun a b=>r a ≠ r b) → sm (l.map g) ≤ sm (m.map h)
 | [],_,_,_=>Nat.zero_le _
 | a :: l,m,h1,h2=>by
  obtain ⟨p1,p2⟩:=List.pairwise_cons.1 h2
  obtain ⟨hm,hg⟩:=h1 a (by simp)
  obtain ⟨m1,m2,rfl⟩:=List.append_of_mem hm
  have ih:=sm_inj g h r l (m1 ++ m2) (fun b hb=>⟨by
   have h3:=(h1 b (by simp [hb])).1
   have h4:=p1 b hb
   rcases List.mem_append.1 h3 with h3 | h3
   ·exact List.mem_append.2 (.inl h3)
   ·rcases List.mem_cons.1 h3 with h3 | h3
    ·exact absurd h3.symm h4
    ·exact List.mem_append.2 (.inr h3),(h1 b (by simp [hb])).2⟩) p2
  rw [List.map_append,sm_append] at ih ⊢
  simp only [List.map_cons,sm]
  omega
theorem sm_zip {α β:Type} (f:α → Nat) (g:β → Nat):∀ (K:List α) (V:List β),K.length = V.length → sm ((K.zip V).map fun p=>f p.1 + g p.2) = sm (K.map f) + sm (V.map g)
 | [],[],_=>rfl
 | k :: K,v :: V,h=>by
  have:=sm_zip f g K V (by simpa using h)
  simp only [List.zip_cons_cons,List.map_cons,sm,this]
  omega
theorem meas_map {N:Int → Mg → Mg} {ref:Int} {K V:List Vl'} (hl:K.length = V.length) (μ:Vl' → Nat) (hb:∀ v,μ (bare v) ≤ μ v) (hn:∀ v ∈ V,μ (norV N ref v) ≤ μ v) :
  sm ((risen K).map μ) + sm (((risen K).map fun k=>norV N ref (lastV (K.zip V) k)).map μ) ≤ sm (K.map μ) + sm (V.map μ):=by
 rw [List.map_map,← sm_add,← sm_zip μ μ K V hl]
 refine sm_inj _ _ (lastP (K.zip V)) _ _ (fun k hk=>?_) (last_apart hl)
 obtain ⟨h1,h2⟩:=last_risen hl hk
 refine ⟨h1,?_⟩
 have h3:=hn _ (last_V hl hk)
 have h4:=hb (lastP (K.zip V) k).1
 rw [show bare (lastP (K.zip V) k).1 = k from (bare_same.2 (by rw [same_iff] at h2 ⊢; exact h2)).trans (bare_risen hk)] at h4
 show μ k + μ (norV N ref (lastP (K.zip V) k).2) ≤ _
 unfold lastV at h3
 omega
end Go.Proofs.YtckcojkpghiclaaGreatDoor.T9
namespace Go.Proofs.YtckcojkpghiclaaGreatDoor.T9
set_option maxRecDepth 100000
open Go.RowKit
end Go.Proofs.YtckcojkpghiclaaGreatDoor.T9
namespace Go.Proofs.YtckcojkpghiclaaGreatDoor
set_option maxRecDepth 100000
def vlong (n:Nat):Nat:=if n < 128 then 1 else vlong (n / 128) + 1
termination_by n
decreasing_by omega
theorem vlong_small {n:Nat} (h:n < 128):vlong n = 1:=by rw [vlong,if_pos h]
theorem vlong_big {n:Nat} (h:¬ n < 128):vlong n = vlong (n/128) + 1:=by rw [vlong,if_neg h]
theorem vlong_pos (n:Nat):1 ≤ vlong n:=by
 by_cases h:n < 128
 ·rw [vlong_small h]; omega
 ·rw [vlong_big h]; omega
theorem vlong_le:∀ (k:Nat) {n:Nat},n < 128 ^ (k+1) → vlong n ≤ k + 1:=by
 intro k
 induction k with
 | zero=>intro n h; rw [vlong_small (by simpa using h)]; omega
 | succ k ih =>
  intro n h
  by_cases hn:n < 128
  ·rw [vlong_small hn]; omega
  ·rw [vlong_big hn]
   have:=@ih (n/128) (by rw [Nat.pow_succ] at h; omega)
   omega
theorem vlong_le10 {n:Nat} (h:n < 18446744073709551616):vlong n ≤ 10:=vlong_le 9 (by omega)
def vput (n:Nat):List UInt8:=if n < 128 then [UInt8.ofNat n] else UInt8.ofNat (n % 128 + 128) :: vput (n / 128)
termination_by n
decreasing_by omega
theorem vput_small {n:Nat} (h:n < 128):vput n = [UInt8.ofNat n]:=by rw [vput,if_pos h]
theorem vput_big {n:Nat} (h:¬ n < 128):vput n = UInt8.ofNat (n % 128 + 128) :: vput (n / 128):=by rw [vput,if_neg h]
theorem vput_length:∀ n,(vput n).length = vlong n:=by
 intro n
 induction n using Nat.strongRecOn with
 | _ n ih =>
  by_cases h:n < 128
  ·rw [vput_small h,vlong_small h]; rfl
  ·rw [vput_big h,vlong_big h,List.length_cons,ih (n/128) (by omega)]
theorem ofNat_toNat {n:Nat} (h:n < 256):(UInt8.ofNat n).toNat = n:=by simp [UInt8.toNat_ofNat']; omega
def fixb (n:Nat):Nat → List UInt8
 | 0=>[]
 | k + 1=>UInt8.ofNat (n % 256) :: fixb (n / 256) k
theorem fixb_length:∀ (k n:Nat),(fixb n k).length = k
 | 0,_=>rfl
 | k + 1,n=>by simp [fixb,fixb_length k]
theorem fixb_snoc:∀ (k n:Nat),fixb n (k + 1) = fixb n k ++ [UInt8.ofNat (n / 256 ^ k % 256)]
 | 0,n=>by simp [fixb]
 | k + 1,n=>by
  show UInt8.ofNat (n % 256) :: fixb (n / 256) (k + 1) = (UInt8.ofNat (n % 256) :: fixb (n / 256) k) ++ _
  rw [fixb_snoc k (n / 256),List.cons_append,Nat.div_div_eq_div_mul,← Nat.pow_succ']
def fixn:List UInt8 → Nat
 | []=>0
 | b :: l=>b.toNat + 256 * fixn l
theorem fixn_lt:∀ l:List UInt8,fixn l < 256 ^ l.length
 | []=>by simp [fixn]
 | b :: l=>by
  have:=fixn_lt l
  have hb:=b.toNat_lt
  simp only [fixn,List.length_cons,Nat.pow_succ]
  omega
theorem fixn_snoc:∀ (l:List UInt8) (b:UInt8),fixn (l ++ [b]) = fixn l + 256 ^ l.length * b.toNat
 | [],b=>by simp [fixn]
 | x :: l,b=>by
  simp only [List.cons_append,fixn,fixn_snoc l b,List.length_cons,Nat.pow_succ]
  rw [Nat.mul_add,Nat.mul_comm (256 ^ l.length) 256,Nat.mul_assoc]; omega
theorem fixn_fixb:∀ (k n:Nat),fixn (fixb n k) = n % 256 ^ k
 | 0,n=>by simp [fixb,fixn,Nat.mod_one]
 | k + 1,n=>by
  rw [fixb,fixn,fixn_fixb k,ofNat_toNat (by omega),Nat.pow_succ',Nat.mod_mul]
def lead:List UInt8 → Nat
 | []=>0
 | b :: l=>if b.toNat < 128 then 0 else lead l + 1
def vnum:List UInt8 → Nat
 | []=>0
 | b :: l=>b.toNat % 128 + 128 * vnum l
def vget (l:List UInt8):Nat × Nat × Nat :=
 if lead (l.take 10) = 10 then (0,0,7)
 else if lead (l.take 10) = l.length then (0,0,6)
 else (vnum (l.take (lead (l.take 10) + 1)) % 18446744073709551616,lead (l.take 10) + 1,0)
theorem lead_le:∀ l:List UInt8,lead l ≤ l.length
 | []=>by simp [lead]
 | b :: l=>by
  have:=lead_le l
  unfold lead
  split <;> simp <;> omega
theorem vnum_lt:∀ l:List UInt8,vnum l < 128 ^ l.length
 | []=>by simp [vnum]
 | b :: l=>by
  have:=vnum_lt l
  simp only [vnum,List.length_cons,Nat.pow_succ]
  omega
theorem vnum_snoc:∀ (l:List UInt8) (b:UInt8),vnum (l ++ [b]) = vnum l + 128 ^ l.length * (b.toNat % 128)
 | [],b=>by simp [vnum]
 | x :: l,b=>by
  simp only [List.cons_append,vnum,vnum_snoc l b,List.length_cons,Nat.pow_succ]
  rw [Nat.mul_add,Nat.mul_comm (128 ^ l.length) 128,Nat.mul_assoc]; omega
theorem lead_at:∀ (l:List UInt8) (k:Nat) (b:UInt8),(∀ j,j < k → ∃ c,l[j]? = some c ∧ 128 ≤ c.toNat) → l[k]? = some b → b.toNat < 128 → lead l = k
 | [],k,b,_,hb,_=>by simp at hb
 | x :: l,0,b,_,hb,hlt=>by
  simp at hb
  subst hb
  simp [lead,hlt]
 | x :: l,k + 1,b,h,hb,hlt=>by
  obtain ⟨c,hc,hge⟩:=h 0 (by omega)
  simp at hc
  subst hc
  have:=lead_at l k b (fun j hj=>by
   obtain ⟨c,hc,hge⟩:=h (j + 1) (by omega)
   exact ⟨c,by simpa using hc,hge⟩) (by simpa using hb) hlt
  simp only [lead]
  rw [if_neg (by omega),this]
theorem lead_all:∀ (l:List UInt8),(∀ j,j < l.length → ∃ c,l[j]? = some c ∧ 128 ≤ c.toNat) → lead l = l.length
 | [],_=>rfl
 | x :: l,h=>by
  obtain ⟨c,hc,hge⟩:=h 0 (by simp)
  simp at hc
  subst hc
  have:=lead_all l (fun j hj=>by
   obtain ⟨c,hc,hge⟩:=h (j + 1) (by simp; omega)
   exact ⟨c,by simpa using hc,hge⟩)
  simp only [lead,List.length_cons]
  rw [if_neg (by omega),this]
theorem take_get {l:List UInt8} {n k:Nat} (h:k < n):(l.take n)[k]? = l[k]?:=by rw [List.getElem?_take,if_pos h]
theorem vget_ok {l:List UInt8} {k:Nat} {b:UInt8} (hk:k < 10) (h:∀ j,j < k → ∃ c,l[j]? = some c ∧ 128 ≤ c.toNat) (hb:l[k]? = some b) (hlt:b.toNat < 128) :
  vget l = (vnum (l.take (k + 1)) % 18446744073709551616,k + 1,0):=by
 have hl:lead (l.take 10) = k:=lead_at _ k b (fun j hj=>by rw [take_get (by omega)]; exact h j hj) (by rw [take_get hk]; exact hb) hlt
 have hkl:k < l.length:=(List.getElem?_eq_some_iff.1 hb).1
 unfold vget
 rw [hl,if_neg (by omega),if_neg (by omega)]
theorem vget_long {l:List UInt8} (hl:10 ≤ l.length) (h:∀ j,j < 10 → ∃ c,l[j]? = some c ∧ 128 ≤ c.toNat):vget l = (0,0,7):=by
 have hk:lead (l.take 10) = (l.take 10).length:=lead_all _ (fun j hj=>by
  have:j < 10:=by simp at hj; omega
  rw [take_get this]; exact h j this)
 unfold vget
 rw [hk,List.length_take,if_pos (by omega)]
theorem vget_cut {l:List UInt8} (hl:l.length < 10) (h:∀ j,j < l.length → ∃ c,l[j]? = some c ∧ 128 ≤ c.toNat):vget l = (0,0,6):=by
 have hk:lead (l.take 10) = l.length:=by rw [List.take_of_length_le (by omega)]; exact lead_all _ h
 unfold vget
 rw [hk,if_neg (by omega),if_pos rfl]
theorem vget_lt (l:List UInt8):(vget l).1 < 18446744073709551616:=by
 unfold vget
 split
 ·decide
 ·split
  ·decide
  ·exact Nat.mod_lt _ (by decide)
def getS (l:List UInt8) (a u:Nat):Nat × Nat × Nat :=
 ((vget ((l.drop a).take (u - a))).1,(if (vget ((l.drop a).take (u - a))).2.2 = 0 then a + (vget ((l.drop a).take (u - a))).2.1 else 0),(vget ((l.drop a).take (u - a))).2.2)
theorem or_shift (x j b:Nat) (hx:x < 2 ^ j) (hj:j ≤ 64):(x ||| (b * 2 ^ j) % 2 ^ 64) = (x + b * 2 ^ j) % 2 ^ 64:=by
 have h1:(b * 2 ^ j) % 2 ^ 64 = (b % 2 ^ (64 - j)) * 2 ^ j:=by
  rw [show (2:Nat) ^ 64 = 2 ^ (64 - j) * 2 ^ j by rw [← Nat.pow_add]; congr 1; omega,Nat.mul_mod_mul_right]
 have h2:(b % 2 ^ (64 - j)) * 2 ^ j + x = (b % 2 ^ (64 - j)) <<< j ||| x:=by
  rw [← Nat.shiftLeft_add_eq_or_of_lt hx,Nat.shiftLeft_eq]
 have h3:(b % 2 ^ (64 - j)) * 2 ^ j + x < 2 ^ 64:=by
  have ha:b % 2 ^ (64 - j) < 2 ^ (64 - j):=Nat.mod_lt _ (Nat.pow_pos (by decide))
  have hb:(b % 2 ^ (64 - j) + 1) * 2 ^ j ≤ 2 ^ (64 - j) * 2 ^ j:=Nat.mul_le_mul_right _ ha
  rw [← Nat.pow_add,show 64 - j + j = 64 by omega,Nat.add_mul,Nat.one_mul] at hb
  omega
 have h4:(x + b * 2 ^ j) % 2 ^ 64 = ((b * 2 ^ j) % 2 ^ 64 + x) % 2 ^ 64:=by rw [Nat.add_comm,Nat.mod_add_mod]
 rw [h4,h1,Nat.mod_eq_of_lt h3,Nat.or_comm,h2,Nat.shiftLeft_eq]
theorem vput_cont:∀ (n j:Nat),j + 1 < (vput n).length → ∃ c,(vput n)[j]? = some c ∧ 128 ≤ c.toNat:=by
 intro n
 induction n using Nat.strongRecOn with
 | _ n ih =>
  intro j hj
  by_cases h:n < 128
  ·rw [vput_small h] at hj; simp at hj
  ·rw [vput_big h] at hj ⊢
   rcases j with _ | j
   ·exact ⟨_,rfl,by rw [ofNat_toNat (by omega)]; omega⟩
   ·obtain ⟨c,hc,hge⟩:=ih (n / 128) (by omega) j (by simpa using hj)
    exact ⟨c,by simpa using hc,hge⟩
theorem vput_last:∀ (n:Nat),∃ c,(vput n)[(vput n).length - 1]? = some c ∧ c.toNat < 128:=by
 intro n
 induction n using Nat.strongRecOn with
 | _ n ih =>
  by_cases h:n < 128
  ·rw [vput_small h]; exact ⟨_,rfl,by rw [ofNat_toNat (by omega)]; exact h⟩
  ·rw [vput_big h]
   obtain ⟨c,hc,hlt⟩:=ih (n / 128) (by omega)
   have hp:1 ≤ (vput (n / 128)).length:=by rw [vput_length]; exact vlong_pos _
   refine ⟨c,?_,hlt⟩
   rw [List.length_cons,show (vput (n / 128)).length + 1 - 1 = ((vput (n / 128)).length - 1) + 1 by omega]
   simpa using hc
theorem vnum_vput:∀ (n:Nat),vnum (vput n) = n:=by
 intro n
 induction n using Nat.strongRecOn with
 | _ n ih =>
  by_cases h:n < 128
  ·rw [vput_small h]; simp only [vnum]; rw [ofNat_toNat (by omega)]; omega
  ·rw [vput_big h]; simp only [vnum]; rw [ih (n / 128) (by omega),ofNat_toNat (by omega)]; omega
theorem vput_pos (n:Nat):1 ≤ (vput n).length:=by rw [vput_length]; exact vlong_pos _
theorem vget_vput {n:Nat} (hn:n < 18446744073709551616) (t:List UInt8):vget (vput n ++ t) = (n,(vput n).length,0):=by
 have hp:=vput_pos n
 have h10:(vput n).length ≤ 10:=by rw [vput_length]; exact vlong_le10 hn
 obtain ⟨c,hc,hlt⟩:=vput_last n
 rw [vget_ok (l:=vput n ++ t) (k:=(vput n).length - 1) (b:=c) (by omega) (fun j hj=>by
  obtain ⟨c,hc,hge⟩:=vput_cont n j (by omega)
  exact ⟨c,by rw [List.getElem?_append_left (by omega)]; exact hc,hge⟩) (by rw [List.getElem?_append_left (by omega)]; exact hc) hlt]
 rw [show (vput n).length - 1 + 1 = (vput n).length by omega,List.take_left,vnum_vput,Nat.mod_eq_of_lt hn]
end Go.Proofs.YtckcojkpghiclaaGreatDoor
namespace Go.Proofs.YtckcojkpghiclaaGreatDoor
set_option maxRecDepth 100000
open Go.RowKit
set_option maxRecDepth 1000000 in
theorem long_any (n:Nat) (hn:n < 18446744073709551616) (w:World) :
  Calls Tryz.prog 70 #[.int .u64 n] w fun e w'=>e = .returned (.int .i64 (vlong n)) ∧ w = w':=by
 have hv:=vlong_le10 hn
 go_enter Tryz.func70,Tryz.ntmps70
 go_wp2
 refine wp_scope_loop 0 (fun a' w'=>w = w' ∧ ∃ (m k:Nat) (u4 u5 u6 u7 u8 u9 u10:Value),a' = { tmps:=#[.int .u64 m,undef,.int .i64 0,.int .i64 k,u4,u5,u6,u7,u8,u9,u10],defers:=[] } ∧ k + vlong m = 1 + vlong n ∧ m < 18446744073709551616) (fun a' _=>(intOf (a'.tmps.getD 0 undef)).toNat) rfl ?_ ?_
 ·go_wp2
  exact ⟨trivial,n,1,_,_,_,_,_,_,_,rfl,rfl,hn⟩
 ·rintro a' w' ⟨rfl,m,k,u4,u5,u6,u7,u8,u9,u10,rfl,hs,hm⟩
  have h1:=vlong_pos m
  have hk:k ≤ 10:=by omega
  have HS:=Lib.hid hs
  clear hs
  go_wp2
  ·have h:m < 128:=by omega
   simp only [Exit.jump]
   go_ret
   have:=HS.out
   rw [vlong_small h] at this
   exact ⟨by simp; omega,rfl⟩
  ·have h:¬ m < 128:=by omega
   have hs:=HS.out
   have:=vlong_big h
   go_step3
   refine ⟨rfl,⟨rfl,m / 128,k + 1,_,_,_,_,_,_,_,rfl,by omega,by omega⟩,?_⟩
   simp [intOf]; omega
theorem or128_all:∀ x:Fin 256,bits BinOp.or IntKind.u8 ((x.val:Nat):Int) 128 = ((x.val % 128 + 128:Nat):Int):=by decide +kernel
theorem or128 (m:Nat):bits BinOp.or IntKind.u8 ((m:Int) % 256) 128 = ((m % 128 + 128:Nat):Int):=by
 have h:=or128_all ⟨m % 256,by omega⟩
 simp only at h
 rw [show ((m:Int) % 256) = ((m % 256:Nat):Int) by omega,h]
 congr 1; omega
def PutRel (w:World) (n:Nat) (a':Act) (w':World):Prop :=
 ∃ (m:Nat) (v:Value) (xs:List UInt8) (u2 u4 u5 u6 u7 u8 u9 u10 u11 u12 u13 u14 u15 u16 u17 u18 u19 u20 u21:Value),a' = { tmps:=#[.int .u64 m,undef,u2,v,u4,u5,u6,u7,u8,u9,u10,u11,u12,u13,u14,u15,u16,u17,u18,u19,u20,u21],defers:=[] } ∧
  w'.ownsRow w.heap.size 5 1 v xs.length (bs xs) ∧ Below w.heap.size w w' ∧ xs ++ vput m = vput n ∧ m < 18446744073709551616
set_option maxRecDepth 1000000 in
theorem put_any (n:Nat) (hn:n < 18446744073709551616) (w:World) :
  Calls Tryz.prog 41 #[.int .u64 n] w fun e w'=>∃ v,e = .returned v ∧ w'.ownsRow w.heap.size 5 1 v (vput n).length (bs (vput n)) ∧ Below w.heap.size w w':=by
 have hv:=vlong_le10 hn
 obtain ⟨i0,hi,hz0,hz1,hz2⟩:=info_parts info_u8
 go_enter Tryz.func41,Tryz.ntmps41
 go_wp2
 refine wp_scope_loop 0 (PutRel w n) (fun a' _=>(intOf (a'.tmps.getD 0 undef)).toNat) rfl ?_ ?_
 ·go_wp2_with (first
   | (go_at_call 70; refine (long_any _ hn _).mono ?_; rintro e w' ⟨rfl,rfl⟩)
   | (at_make; refine wpList_make_own _ rfl _ _ 26 rfl w.heap.size 5 i0 (.int .u8 0) 1 Tryz.underlying26 hi hz0 hz1 .i64 .i64 _ (vlong n) rfl rfl rfl (by rw [hz2]; omega) (by unfold maxLen; omega) (Nat.le_refl _) ?_; intro w0 hown0 hgrow0))
  exact ⟨n,_,[],_,_,_,_,_,_,_,_,_,_,_,_,_,_,_,_,_,_,_,rfl,hown0,(Below.refl _ _).grown hgrow0 (Nat.le_refl _) (by simp),rfl,hn⟩
 ·rintro a' w1 ⟨m,v,xs,u2,u4,u5,u6,u7,u8,u9,u10,u11,u12,u13,u14,u15,u16,u17,u18,u19,u20,u21,rfl,hown,hb,hx,hm⟩
  have HX:=Lib.hid hx
  clear hx
  have hz:=hb.size
  have hlen:xs.length ≤ 10:=by
   have h1:=congrArg List.length HX.out
   rw [List.length_append,vput_length n] at h1
   omega
  go_wp2_with (at_builtin; refine wpList_app1 rfl _ _ 26 rfl w.heap.size 5 i0 (.int .u8 0) 1 Tryz.underlying26 hi hz0 hz1 hz2 rfl v xs.length (bs xs) rfl (hown.alloc _) w1.heap.size 1 _ rfl (World.cell?_alloc_at _ _ _ _ rfl) rfl (by unfold maxLen; omega) (by omega) (by simp; omega) ?_; intro v2 w2 hown2 hg2)
  ·have h:m < 128:=by omega
   have hx:=HX.out
   rw [vput_small h] at hx
   have he:bs xs ++ [#[Value.int IntKind.u8 (m:Int)][0]] = bs (vput n):=by rw [← hx,bs_append]; simp [bs,BV,ofNat_toNat (show m < 256 by omega)]
   have hl:xs.length + 1 = (vput n).length:=by rw [← hx]; simp
   simp only [Exit.jump]
   go_ret
   rw [he,hl] at hown2
   exact ⟨_,rfl,hown2,(hb.alloc hz _).grown hg2 (by simp; omega) (own_ge hown)⟩
  ·have h:¬ m < 128:=by omega
   have hx:=HX.out
   have he:bs xs ++ [#[Value.int IntKind.u8 (bits BinOp.or IntKind.u8 ((m:Int) % 256) 128)][0]] = bs (xs ++ [UInt8.ofNat (m % 128 + 128)]):=by
    rw [bs_append,or128]; simp [bs,BV]; omega
   have hl:xs.length + 1 = (xs ++ [UInt8.ofNat (m % 128 + 128)]).length:=by simp
   rw [he,hl] at hown2
   have hx2:(xs ++ [UInt8.ofNat (m % 128 + 128)]) ++ vput (m / 128) = vput n:=by rw [← hx,vput_big h]; simp
   go_step3
   exact ⟨rfl,⟨m / 128,v2,_,_,_,_,_,_,_,_,_,_,_,_,_,_,_,_,_,_,_,_,rfl,hown2,(hb.alloc hz _).grown hg2 (by simp; omega) (own_ge hown),hx2,by omega⟩,by simp [intOf]; omega⟩
def mayB (at' upto:Int) (n:Nat):Bool:=decide (0 ≤ at' ∧ at' ≤ upto ∧ upto ≤ n)
theorem mayB_true {a u:Int} {n:Nat}:mayB a u n = true ↔ 0 ≤ a ∧ a ≤ u ∧ u ≤ n:=by simp [mayB]
def sizeB (s:Int):Bool:=decide (s = 4 ∨ s = 8)
theorem mayBe_any (A:Option Addr) (n c:Nat) (a u:Int) (w:World) (hn:n ≤ 9223372036854775807) :
  Calls Tryz.prog 154 #[.slice A n c,.int .i64 a,.int .i64 u] w fun e w'=>e = .returned (.bool (mayB a u n)) ∧ w = w':=by
 by_cases h0:0 ≤ a
 ·by_cases h1:a ≤ u
  ·by_cases h2:u ≤ n
   all_goals
    have HF:Hid (mayB a u n = decide (u ≤ n)):=Lib.hid (by simp [mayB,h0,h1])
    go_enter Tryz.func154,Tryz.ntmps154
    go_wp2
    go_ret
    exact ⟨by rw [HF.out]; simp [h0,h1,h2],rfl⟩
  ·have HF:Hid (mayB a u n = false):=Lib.hid (by simp [mayB,h0,h1])
   go_enter Tryz.func154,Tryz.ntmps154
   go_wp2
   go_ret
   exact ⟨by rw [HF.out]; simp [h0,h1],rfl⟩
 ·have HF:Hid (mayB a u n = false):=Lib.hid (by simp [mayB,h0])
  go_enter Tryz.func154,Tryz.ntmps154
  go_wp2
  go_ret
  exact ⟨by rw [HF.out]; simp [h0],rfl⟩
end Go.Proofs.YtckcojkpghiclaaGreatDoor
