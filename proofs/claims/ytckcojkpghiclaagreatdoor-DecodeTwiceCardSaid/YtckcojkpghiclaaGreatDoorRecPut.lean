/-
 What is told of the bytes ahead of a field: the contract of the function that gets it,and of the document's own.
-/
import Derived.Test.YtckcojkpghiclaaGreatDoorVarBack
import Derived.BigQuiet
import Derived.Test.YtckcojkpghiclaaGreatDoorVarPut
import Derived.Test.YtckcojkpghiclaaGreatDoorConvRules
import Derived.Deep.QuietTactic
import Derived.Great.BuildSlice
import Derived.Deep.WholeRow
import Derived.Laws.CopyOwn
namespace Go.Proofs.YtckcojkpghiclaaGreatDoor
set_option maxRecDepth 100000
open Go.RowKit
def tgetR (l:List UInt8) (a u:Int):Nat × Nat × Nat × Nat :=
 if (getR l a u).2.2 = 0 then (if (tellsN (getR l a u).1).2.2 = 0 then ((tellsN (getR l a u).1).1,(tellsN (getR l a u).1).2.1,(getR l a u).2.1,0) else (0,0,0,(tellsN (getR l a u).1).2.2)) else (0,0,0,(getR l a u).2.2)
def V4 (r:Nat × Nat × Nat × Nat):Value:=.tuple #[.int .i64 r.1,.int .i64 r.2.1,.int .i64 r.2.2.1,.int .i64 r.2.2.2]
theorem results_tmp4 {fn:Func} {t u v x:Tmp} (h:fn.results = #[.tmp t,.tmp u,.tmp v,.tmp x]) (tmps:Array Value) (P:Program) (w:World) :
  (results fn tmps).run P w = .ok (.tuple #[tmps.getD t undef,tmps.getD u undef,tmps.getD v undef,tmps.getD x undef]) w:=by
 simp [results,h]
set_option maxRecDepth 1000000 in
theorem tget_any (A:Option Addr) (c:Nat) (l:List UInt8) (a u:Int) (hl:l.length ≤ 1000000000) (w:World) (h1:SlB w A c l) (T:Wires w) :
  Calls Tryz.prog 146 #[.slice A l.length c,.int .i64 a,.int .i64 u] w fun e w'=>e = .returned (V4 (tgetR l a u)) ∧ Below w.heap.size w w':=by
 obtain ⟨n,p,x,hg,hn⟩:∃ n p x,getR l a u = (n,p,x) ∧ n < 18446744073709551616:=⟨_,_,_,rfl,get_lt l a u⟩
 have hR:tgetR l a u = if x = 0 then (if (tellsN n).2.2 = 0 then ((tellsN n).1,(tellsN n).2.1,p,0) else (0,0,0,(tellsN n).2.2)) else (0,0,0,x):=by unfold tgetR; rw [hg]
 by_cases hx:x = 0
 ·rw [if_pos hx] at hR
  subst hx
  obtain ⟨q,r,y,ht⟩:∃ q r y,tellsN n = (q,r,y):=⟨_,_,_,rfl⟩
  rw [ht] at hR
  simp only at hR
  by_cases hy:y = 0
  ·rw [if_pos hy] at hR
   subst hy
   rw [hR]
   go_enter Tryz.func146,Tryz.ntmps146
   go_wp2_with fail
   refine (get_any A c l a u hl w h1).mono ?_
   rintro e w1 ⟨rfl,rfl⟩
   rw [hg]
   unfold V3
   go_wp2_with fail
   refine (tells_any n hn w T).mono ?_
   rintro e w1 ⟨rfl,hb⟩
   rw [ht]
   unfold TV
   go_wp2
   go_quiet (fail)
   go_wp2
   refine bodyPost_ret (results_tmp4 rfl _ _ _) rfl ?_
   exact ⟨rfl,below_draws (below_lit hb _) _⟩
  ·rw [if_neg hy] at hR
   rw [hR]
   have b1:((y:Int) != 0) = true:=by simp; omega
   go_enter Tryz.func146,Tryz.ntmps146
   go_wp2_with fail
   refine (get_any A c l a u hl w h1).mono ?_
   rintro e w1 ⟨rfl,rfl⟩
   rw [hg]
   unfold V3
   go_wp2_with fail
   refine (tells_any n hn w T).mono ?_
   rintro e w1 ⟨rfl,hb⟩
   rw [ht]
   unfold TV
   go_wp2
   go_quiet (fail)
   go_wp2
   refine bodyPost_ret (results_tmp4 rfl _ _ _) rfl ?_
   exact ⟨rfl,below_draws (below_lit hb _) _⟩
 ·rw [if_neg hx] at hR
  rw [hR]
  have b1:((x:Int) != 0) = true:=by simp; omega
  go_enter Tryz.func146,Tryz.ntmps146
  go_wp2_with fail
  refine (get_any A c l a u hl w h1).mono ?_
  rintro e w1 ⟨rfl,rfl⟩
  rw [hg]
  unfold V3
  go_wp2
  refine bodyPost_ret (results_tmp4 rfl _ _ _) rfl ?_
  exact ⟨rfl,Below.refl _ _⟩
structure Rc where
 no:Nat
 wire:Nat
 num:Nat
 frm:Nat
 upto:Nat
 deriving DecidableEq
def Rc.zero:Rc:=⟨0,0,0,0,0⟩
def RV (r:Rc):Value:=.agg #[.int .i64 r.no,.int .i64 r.wire,.int .u64 r.num,.int .i64 r.frm,.int .i64 r.upto]
def numR (l:List UInt8) (a u:Int) (wire:Nat):Nat × Nat × Nat :=
 if wire = 1 then unfixR l a u 8 else if wire = 5 then unfixR l a u 4 else getR l a u
def runR (no wire f n p:Nat) (u:Int):Rc × Nat × Nat :=
 if wire = 2 then (if (n:Int) ≤ u - p then (⟨no,wire,n,p,p + n⟩,p + n,0) else (Rc.zero,0,6)) else (⟨no,wire,n,f,p⟩,p,0)
def restR (no wire f:Nat) (u:Int) (x:Nat × Nat × Nat):Rc × Nat × Nat :=
 if x.2.2 = 0 then runR no wire f x.1 x.2.1 u else (Rc.zero,0,x.2.2)
def nextR (l:List UInt8) (a u:Int):Rc × Nat × Nat :=
 if (tgetR l a u).2.2.2 = 0 then restR (tgetR l a u).1 (tgetR l a u).2.1 (tgetR l a u).2.2.1 u (numR l (tgetR l a u).2.2.1 u (tgetR l a u).2.1)
 else (Rc.zero,0,(tgetR l a u).2.2.2)
def NV (x:Rc × Nat × Nat):Value:=.tuple #[RV x.1,.int .i64 x.2.1,.int .i64 x.2.2]
theorem lead_lt {l:List UInt8} (h:¬ lead (l.take 10) = 10) (h2:¬ lead (l.take 10) = l.length):lead (l.take 10) + 1 ≤ l.length:=by
 have:=lead_le (l.take 10)
 rw [List.length_take] at this
 omega
theorem get_ok {l:List UInt8} {a u:Int} {n p:Nat} (h:getR l a u = (n,p,0)):0 ≤ a ∧ a < p ∧ (p:Int) ≤ u ∧ u ≤ l.length ∧ n < 18446744073709551616 ∧ (p:Int) ≤ a + 10:=by
 have hn:=get_lt l a u
 rw [h] at hn
 unfold getR at h
 split at h
 ·rename_i hm
  have hm:=mayB_true.1 hm
  obtain ⟨an,rfl⟩:=Int.eq_ofNat_of_zero_le hm.1
  obtain ⟨un,rfl⟩:=Int.eq_ofNat_of_zero_le (show 0 ≤ u by omega)
  unfold getS at h
  simp only [Int.toNat_natCast] at h
  have hL:((l.drop an).take (un - an)).length = un - an:=by simp; omega
  generalize (l.drop an).take (un - an) = d at *
  have h2:=congrArg (·.2.1) h
  have h3:=congrArg (·.2.2) h
  simp only at h2 h3
  rw [if_pos h3] at h2
  unfold vget at h3 h2
  by_cases c1:lead (d.take 10) = 10
  ·rw [if_pos c1] at h3; simp at h3
  ·rw [if_neg c1] at h3 h2
   by_cases c2:lead (d.take 10) = d.length
   ·rw [if_pos c2] at h3; simp at h3
   ·rw [if_neg c2] at h2
    simp only at h2
    have:=lead_lt c1 c2
    have h10:=lead_le (d.take 10)
    rw [List.length_take] at h10
    simp only at hn
    omega
 ·simp at h
theorem unfix_ok {l:List UInt8} {a u s:Int} {n p:Nat} (h:unfixR l a u s = (n,p,0)):0 ≤ a ∧ (p:Int) = a + s ∧ (s = 4 ∨ s = 8) ∧ (p:Int) ≤ u ∧ u ≤ l.length ∧ n < 18446744073709551616:=by
 unfold unfixR at h
 split at h
 ·rename_i hm
  rw [Bool.and_eq_true] at hm
  have hs:s = 4 ∨ s = 8:=by simpa [sizeB] using hm.2
  have hm:=mayB_true.1 hm.1
  obtain ⟨an,rfl⟩:=Int.eq_ofNat_of_zero_le hm.1
  obtain ⟨un,rfl⟩:=Int.eq_ofNat_of_zero_le (show 0 ≤ u by omega)
  obtain ⟨sn,rfl⟩:=Int.eq_ofNat_of_zero_le (show 0 ≤ s by omega)
  simp only [Int.toNat_natCast] at h
  unfold unfixS at h
  split at h
  ·simp at h
  ·simp only [Prod.mk.injEq] at h
   have:=fix_lt l an sn (by omega)
   omega
 ·simp at h
theorem num_ok {l:List UInt8} {a u:Int} {w n p:Nat} (h:numR l a u w = (n,p,0)):0 ≤ a ∧ a < p ∧ (p:Int) ≤ u ∧ u ≤ l.length ∧ n < 18446744073709551616:=by
 unfold numR at h
 split at h
 ·have:=unfix_ok h; omega
 ·split at h
  ·have:=unfix_ok h; omega
  ·have:=get_ok h; omega
theorem infoRec:(Tryz.prog.info? 41).map (·.size) = some 5:=by kernel_rfl
theorem results_row_tmp25 {P:Program} {fn:Func} {p u v:Tmp} {ty:TypeId} (h:fn.results = #[.cell p ty,.tmp u,.tmp v]) (tmps:Array Value) (w:World) (g:Nat) (t:TypeId) (cs:Array Value) (fr:Nat × Nat) (d:TypeDesc)
  (hp:tmps.getD p undef = .pointer (some ⟨g,0,none⟩)) (hg:w.heap[g]? = some (.cells cs t fr))
  (hu:P.underlying ty = some d) (hd:(match d with | .struct _ | .array _ _=>true | _=>false) = true) (hi:(P.info? ty).map (·.size) = some cs.size) :
  (results fn tmps).run P w = .ok (.tuple #[.agg cs,tmps.getD u undef,tmps.getD v undef]) w:=by
 have hp':tmps[p]?.getD undef = .pointer (some ⟨g,0,none⟩):=by simpa using hp
 simp [results,h,hp',asAddr,run_loadVar_row w g t ty cs fr d hg hu hd hi]
theorem wpList_store_rec {ops:Array Oper} {rest:List Oper} {o:Oper} {a:Act} {w:World} {Q:Exit → Act → World → Prop} (hgd:o.guard = none) (x y:Operand) (ho:o.op = .store 41 x y)
  (hd:o.dst = none) (g:Nat) (n1 n2 n3 n4 n5 o1 o2 o3 o4 o5:Int) (hx:a.eval x = .pointer (some ⟨g,0,none⟩)) (hy:a.eval y = .agg #[.int .i64 n1,.int .i64 n2,.int .u64 n3,.int .i64 n4,.int .i64 n5])
  (t:TypeId) (hg:w.heap[g]? = some (.cells #[.int .i64 o1,.int .i64 o2,.int .u64 o3,.int .i64 o4,.int .i64 o5] t (0,0)))
  (h:wpList Tryz.prog ops Q rest a (w.setRow g #[.int .i64 n1,.int .i64 n2,.int .u64 n3,.int .i64 n4,.int .i64 n5])):wpList Tryz.prog ops Q (o :: rest) a w :=
 wpList_store_rowTo hgd 41 x y ho hd g _ hx hy t _ hg infoRec rfl (by simp [Value.oneCell']) h
theorem results_rec {fn:Func} {p u v:Tmp} (h:fn.results = #[.cell p 41,.tmp u,.tmp v]) (tmps:Array Value) (w:World) (g:Nat) (t:TypeId) (n1 n2 n3 n4 n5:Int) (fr:Nat × Nat)
  (hp:tmps.getD p undef = .pointer (some ⟨g,0,none⟩)) (hg:w.heap[g]? = some (.cells #[.int .i64 n1,.int .i64 n2,.int .u64 n3,.int .i64 n4,.int .i64 n5] t fr)) :
  (results fn tmps).run Tryz.prog w = .ok (.tuple #[.agg #[.int .i64 n1,.int .i64 n2,.int .u64 n3,.int .i64 n4,.int .i64 n5],tmps.getD u undef,tmps.getD v undef]) w :=
 results_row_tmp25 h tmps w g t _ fr _ hp hg Tryz.underlying41 rfl infoRec
theorem number_any (A:Option Addr) (c:Nat) (l:List UInt8) (a u:Int) (wire:Nat) (hl:l.length ≤ 1000000000) (w:World) (h1:SlB w A c l) :
  Calls Tryz.prog 147 #[.slice A l.length c,.int .i64 a,.int .i64 u,.int .i64 wire] w fun e w'=>e = .returned (V3 (numR l a u wire)) ∧ w = w':=by
 by_cases h8:wire = 1
 ·have hn:numR l a u wire = unfixR l a u 8:=by unfold numR; rw [if_pos h8]
  obtain ⟨x,y,z,hx⟩:∃ x y z,unfixR l a u 8 = (x,y,z):=⟨_,_,_,rfl⟩
  rw [hn,hx]
  subst h8
  go_enter Tryz.func147,Tryz.ntmps147
  go_wp2_with fail
  refine (unfix_any A c l a u 8 hl w h1).mono ?_
  rintro e w1 ⟨rfl,rfl⟩
  rw [hx]
  unfold V3
  go_wp2
  go_ret3
  exact ⟨rfl,rfl⟩
 ·have b8:((wire:Int) == 1) = false:=by simp; omega
  by_cases h4:wire = 5
  ·have hn:numR l a u wire = unfixR l a u 4:=by unfold numR; rw [if_neg h8,if_pos h4]
   obtain ⟨x,y,z,hx⟩:∃ x y z,unfixR l a u 4 = (x,y,z):=⟨_,_,_,rfl⟩
   rw [hn,hx]
   subst h4
   go_enter Tryz.func147,Tryz.ntmps147
   go_wp2_with fail
   refine (unfix_any A c l a u 4 hl w h1).mono ?_
   rintro e w1 ⟨rfl,rfl⟩
   rw [hx]
   unfold V3
   go_wp2
   go_ret3
   exact ⟨rfl,rfl⟩
  ·have b4:((wire:Int) == 5) = false:=by simp; omega
   have hn:numR l a u wire = getR l a u:=by unfold numR; rw [if_neg h8,if_neg h4]
   obtain ⟨x,y,z,hx⟩:∃ x y z,getR l a u = (x,y,z):=⟨_,_,_,rfl⟩
   rw [hn,hx]
   clear h8 h4
   go_enter Tryz.func147,Tryz.ntmps147
   go_wp2_with fail
   refine (get_any A c l a u hl w h1).mono ?_
   rintro e w1 ⟨rfl,rfl⟩
   rw [hx]
   unfold V3
   go_wp2
   go_ret3
   exact ⟨rfl,rfl⟩
set_option maxRecDepth 1000000 in
theorem next_any (A:Option Addr) (c:Nat) (l:List UInt8) (a u:Int) (hl:l.length ≤ 1000000000) (w:World) (h1:SlB w A c l) (T:Wires w) :
  Calls Tryz.prog 104 #[.slice A l.length c,.int .i64 a,.int .i64 u] w fun e w'=>e = .returned (NV (nextR l a u)) ∧ Below w.heap.size w w':=by
 obtain ⟨no,wire,f,x,ht⟩:∃ no wire f x,tgetR l a u = (no,wire,f,x):=⟨_,_,_,_,rfl⟩
 have hN:nextR l a u = if x = 0 then restR no wire f u (numR l f u wire) else (Rc.zero,0,x):=by unfold nextR; rw [ht]
 rw [hN]
 by_cases hx:x = 0
 ·rw [if_pos hx]
  subst hx
  obtain ⟨n,p,y,hn⟩:∃ n p y,numR l f u wire = (n,p,y):=⟨_,_,_,rfl⟩
  have hR:restR no wire f u (numR l f u wire) = if y = 0 then runR no wire f n p u else (Rc.zero,0,y):=by unfold restR; rw [hn]
  rw [hR]
  by_cases hy:y = 0
  ·rw [if_pos hy]
   subst hy
   have hk:=num_ok hn
   by_cases hw:wire = 2
   ·have hr:runR no wire f n p u = if (n:Int) ≤ u - p then (⟨no,wire,n,p,p + n⟩,p + n,0) else (Rc.zero,0,6):=by unfold runR; rw [if_pos hw]
    rw [hr]
    have bw:((wire:Int) == 2) = true:=by simp [hw]
    have ec:IntKind.u64.wrap (IntKind.i64.wrap (u - p)) = u - p:=by simp [IntKind.wrap,IntKind.signed,IntKind.bits]; omega
    have e1:IntKind.i64.wrap (u - p) = u - p:=by simp [IntKind.wrap,IntKind.signed,IntKind.bits]; split <;> omega
    have e1':IntKind.u64.wrap (u - p) = u - p:=by simp [IntKind.wrap,IntKind.signed,IntKind.bits]; omega
    by_cases hc:(n:Int) ≤ u - p
    ·rw [if_pos hc]
     have bc:decide (u - p < (n:Int)) = false:=by simp; omega
     have e2:IntKind.i64.wrap (n:Int) = n:=by simp [IntKind.wrap,IntKind.signed,IntKind.bits]; split <;> omega
     have e3:IntKind.i64.wrap ((p:Int) + n) = ((p + n:Nat):Int):=by simp [IntKind.wrap,IntKind.signed,IntKind.bits]; split <;> omega
     generalize hq:p + n = q at *
     clear hk hq hc hr hR hN hw
     go_enter Tryz.func104,Tryz.ntmps104
     go_wp2_with fail
     refine (tget_any A c l a u hl _ (h1.lit _) (T.on (below_new _ _))).mono ?_
     rintro e w1 ⟨rfl,hb1⟩
     rw [ht]
     unfold V4
     have hg1:=hb1.block w.heap.size (by simp)
     rw [heap_alloc_new] at hg1
     go_wp2_with fail
     refine (number_any A c l f u wire hl _ ((h1.lit _).on hb1)).mono ?_
     rintro e w2 ⟨rfl,rfl⟩
     rw [hn]
     unfold V3
     go_wp2_with (refine wpList_store_rec rfl _ _ rfl rfl w.heap.size _ _ _ _ _ _ _ _ _ _ rfl rfl _ hg1 ?_)
     refine bodyPost_ret (results_rec rfl _ _ w.heap.size _ _ _ _ _ _ (0,0) rfl (setRow_heap _ _ _ _ _ _ hg1)) rfl ?_
     exact ⟨rfl,below_setRow (below_then (below_new _ _) hb1) (Nat.le_refl _) _⟩
    ·rw [if_neg hc]
     have bc:decide (u - p < (n:Int)) = true:=by simp; omega
     clear hk hc hr hR hN hw
     go_enter Tryz.func104,Tryz.ntmps104
     go_wp2_with fail
     refine (tget_any A c l a u hl _ (h1.lit _) (T.on (below_new _ _))).mono ?_
     rintro e w1 ⟨rfl,hb1⟩
     rw [ht]
     unfold V4
     have hg1:=hb1.block w.heap.size (by simp)
     rw [heap_alloc_new] at hg1
     go_wp2_with fail
     refine (number_any A c l f u wire hl _ ((h1.lit _).on hb1)).mono ?_
     rintro e w2 ⟨rfl,rfl⟩
     rw [hn]
     unfold V3
     go_wp2_with (refine wpList_store_rec rfl _ _ rfl rfl w.heap.size _ _ _ _ _ _ _ _ _ _ rfl rfl _ hg1 ?_)
     refine bodyPost_ret (results_rec rfl _ _ w.heap.size _ _ _ _ _ _ (0,0) rfl (setRow_heap _ _ _ _ _ _ hg1)) rfl ?_
     exact ⟨rfl,below_setRow (below_then (below_new _ _) hb1) (Nat.le_refl _) _⟩
   ·have hr:runR no wire f n p u = (⟨no,wire,n,f,p⟩,p,0):=by unfold runR; rw [if_neg hw]
    rw [hr]
    have bw:((wire:Int) == 2) = false:=by simp; omega
    clear hk hr hR hN hw
    go_enter Tryz.func104,Tryz.ntmps104
    go_wp2_with fail
    refine (tget_any A c l a u hl _ (h1.lit _) (T.on (below_new _ _))).mono ?_
    rintro e w1 ⟨rfl,hb1⟩
    rw [ht]
    unfold V4
    have hg1:=hb1.block w.heap.size (by simp)
    rw [heap_alloc_new] at hg1
    go_wp2_with fail
    refine (number_any A c l f u wire hl _ ((h1.lit _).on hb1)).mono ?_
    rintro e w2 ⟨rfl,rfl⟩
    rw [hn]
    unfold V3
    go_wp2_with (refine wpList_store_rec rfl _ _ rfl rfl w.heap.size _ _ _ _ _ _ _ _ _ _ rfl rfl _ hg1 ?_)
    refine bodyPost_ret (results_rec rfl _ _ w.heap.size _ _ _ _ _ _ (0,0) rfl (setRow_heap _ _ _ _ _ _ hg1)) rfl ?_
    exact ⟨rfl,below_setRow (below_then (below_new _ _) hb1) (Nat.le_refl _) _⟩
  ·rw [if_neg hy]
   have by':((y:Int) != 0) = true:=by simp; omega
   clear hR hN
   go_enter Tryz.func104,Tryz.ntmps104
   go_wp2_with fail
   refine (tget_any A c l a u hl _ (h1.lit _) (T.on (below_new _ _))).mono ?_
   rintro e w1 ⟨rfl,hb1⟩
   rw [ht]
   unfold V4
   have hg1:=hb1.block w.heap.size (by simp)
   rw [heap_alloc_new] at hg1
   go_wp2_with fail
   refine (number_any A c l f u wire hl _ ((h1.lit _).on hb1)).mono ?_
   rintro e w2 ⟨rfl,rfl⟩
   rw [hn]
   unfold V3
   go_wp2_with (refine wpList_store_rec rfl _ _ rfl rfl w.heap.size _ _ _ _ _ _ _ _ _ _ rfl rfl _ hg1 ?_)
   refine bodyPost_ret (results_rec rfl _ _ w.heap.size _ _ _ _ _ _ (0,0) rfl (setRow_heap _ _ _ _ _ _ hg1)) rfl ?_
   exact ⟨rfl,below_setRow (below_then (below_new _ _) hb1) (Nat.le_refl _) _⟩
 ·rw [if_neg hx]
  have bx:((x:Int) != 0) = true:=by simp; omega
  clear hN
  go_enter Tryz.func104,Tryz.ntmps104
  go_wp2_with fail
  refine (tget_any A c l a u hl _ (h1.lit _) (T.on (below_new _ _))).mono ?_
  rintro e w1 ⟨rfl,hb1⟩
  rw [ht]
  unfold V4
  have hg1:=hb1.block w.heap.size (by simp)
  rw [heap_alloc_new] at hg1
  go_wp2_with (refine wpList_store_rec rfl _ _ rfl rfl w.heap.size _ _ _ _ _ _ _ _ _ _ rfl rfl _ hg1 ?_)
  refine bodyPost_ret (results_rec rfl _ _ w.heap.size _ _ _ _ _ _ (0,0) rfl (setRow_heap _ _ _ _ _ _ hg1)) rfl ?_
  exact ⟨rfl,below_setRow (below_then (below_new _ _) hb1) (Nat.le_refl _) _⟩
theorem heap_cells {w:World} {g:Nat} {n1 n2 n3 n4 n5:Int} {t:TypeId} {fr:Nat × Nat} (hg:w.heap[g]? = some (.cells #[.int .i64 n1,.int .i64 n2,.int .u64 n3,.int .i64 n4,.int .i64 n5] t fr)) :
  w.cell? ⟨g,0,none⟩ = some (.int .i64 n1) ∧ w.cell? ⟨g,1,none⟩ = some (.int .i64 n2) ∧ w.cell? ⟨g,2,none⟩ = some (.int .u64 n3) ∧ w.cell? ⟨g,3,none⟩ = some (.int .i64 n4) ∧ w.cell? ⟨g,4,none⟩ = some (.int .i64 n5):=by
 refine ⟨?_,?_,?_,?_,?_⟩ <;> simp [World.cell?,hg]
end Go.Proofs.YtckcojkpghiclaaGreatDoor
