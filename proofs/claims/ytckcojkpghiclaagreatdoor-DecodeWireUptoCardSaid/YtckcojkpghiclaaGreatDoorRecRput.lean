/-
 The contracts of the document's own way to put a number into bytes of seven bits.
-/
import Derived.Test.YtckcojkpghiclaaGreatDoorVarMay
import Derived.Test.YtckcojkpghiclaaGreatDoorTagGet
import Derived.Test.YtckcojkpghiclaaGreatDoorConvSmall
import Derived.Deep.QuietTactic
import Derived.BigQuiet
import Derived.Great.BuildSlice
import Derived.Deep.WholeRow
import Derived.Laws.CopyOwn
namespace Go.Proofs.YtckcojkpghiclaaGreatDoor
set_option maxRecDepth 100000
open Go.RowKit
theorem put_reads (n:Nat) (hn:n < 18446744073709551616) (w:World) :
  Calls Tryz.prog 41 #[.int .u64 n] w fun e w'=>∃ A c,e = .returned (.slice A (vput n).length c) ∧ SlB w' A c (vput n) ∧ Below w.heap.size w w':=by
 refine (put_any n hn w).mono ?_
 rintro e w' ⟨v,rfl,hown,hb⟩
 obtain ⟨A,c,rfl,hr⟩:=SlB.of_own hown
 exact ⟨A,c,rfl,hr,hb⟩
theorem vput_len10 {n:Nat} (hn:n < 18446744073709551616):(vput n).length ≤ 10:=by rw [vput_length]; exact vlong_le10 hn
theorem own_mono5 {w:World} {base base':Nat} {e:TypeId} {size:Nat} {v:Value} {n:Nat} {xs:List Value} (h:w.ownsRow base e size v n xs) (hb:base' ≤ base):w.ownsRow base' e size v n xs:=by
 rcases h with ⟨hl,⟨rfl,rfl⟩ | ⟨g,cap,cur,rfl,h1,h2⟩⟩
 ·exact ⟨hl,.inl ⟨rfl,rfl⟩⟩
 ·exact ⟨hl,.inr ⟨g,cap,cur,rfl,Nat.le_trans hb h1,h2⟩⟩
def putB (no wire:Int):Bool:=decide (1 ≤ no ∧ no ≤ 536870911) && knownB wire
def putN (no wire:Int):Nat:=(8 * no + wire).toNat
def putL (no wire:Int):List UInt8:=if putB no wire then vput (putN no wire) else []
theorem putB_iff {no wire:Int}:putB no wire = true ↔ (1 ≤ no ∧ no ≤ 536870911) ∧ (wire = 0 ∨ wire = 1 ∨ wire = 2 ∨ wire = 5):=by simp [putB,knownB]
theorem putL_yes {no wire:Int} (h:putB no wire = true):putL no wire = vput (putN no wire):=by unfold putL; rw [if_pos h]
theorem putL_no {no wire:Int} (h:putB no wire = false):putL no wire = []:=by unfold putL; rw [if_neg (by simp [h])]
theorem putN_lt {no wire:Int} (h:putB no wire = true):putN no wire < 4294967296:=by
 have:=putB_iff.1 h
 unfold putN
 omega
theorem wrap_nat (x:Int):∃ k:Nat,IntKind.u64.wrap x = (k:Int) ∧ k < 18446744073709551616 ∧ (k:Int) = x % 18446744073709551616:=by
 have hw:IntKind.u64.wrap x = x % 18446744073709551616:=by simp [IntKind.wrap,IntKind.signed,IntKind.bits]
 exact ⟨(x % 18446744073709551616).toNat,by omega,by omega,by omega⟩
theorem tellsN_yes {no wire:Int} (h:putB no wire = true):(((tellsN (putN no wire)).1:Nat):Int) = no ∧ (((tellsN (putN no wire)).2.1:Nat):Int) = wire ∧ (tellsN (putN no wire)).2.2 = 0:=by
 have hp:=putB_iff.1 h
 have h1:¬ (putN no wire / 8 = 0 ∨ 536870911 < putN no wire / 8):=by unfold putN; omega
 have hr:((putN no wire % 8:Nat):Int) = wire:=by unfold putN; omega
 have h2:knownB ((putN no wire % 8:Nat):Int) = true:=by rw [hr]; simpa [knownB] using hp.2
 unfold tellsN
 rw [if_neg h1,if_pos h2]
 refine ⟨?_,hr,rfl⟩
 unfold putN; simp only; omega
theorem tellsN_no {no wire:Int} (h:putB no wire = false) (n:Nat) (h1:(((tellsN n).1:Nat):Int) = no) (h2:(((tellsN n).2.1:Nat):Int) = wire):(tellsN n).2.2 ≠ 0:=by
 intro h3
 rw [← Bool.not_eq_true,putB_iff] at h
 apply h
 clear h
 unfold tellsN at h1 h2 h3
 split at h1
 ·rename_i hc
  rw [if_pos hc] at h3
  simp at h3
 ·rename_i hc
  rw [if_neg hc] at h2 h3
  split at h1
  ·rename_i hk
   rw [if_pos hk] at h2
   simp only at h1 h2
   rw [h2] at hk
   exact ⟨by omega,by simpa [knownB] using hk⟩
  ·rename_i hk
   rw [if_neg hk] at h3
   simp at h3
set_option maxRecDepth 1000000 in
theorem tput_own (no wire:Int) (hn1:-9223372036854775808 ≤ no) (hn2:no ≤ 9223372036854775807) (hw1:-9223372036854775808 ≤ wire) (hw2:wire ≤ 9223372036854775807) (w:World) (T:Wires w) :
  Calls Tryz.prog 40 #[.int .i64 no,.int .i64 wire] w fun e w'=>∃ v,e = .returned (.tuple #[v,.bool (putB no wire)]) ∧ w'.ownsRow w.heap.size 5 1 v (putL no wire).length (bs (putL no wire)) ∧ Below w.heap.size w w':=by
 obtain ⟨k,hk,bk,ek⟩:=wrap_nat (IntKind.u64.wrap (8 * IntKind.u64.wrap no) + IntKind.u64.wrap wire)
 have ek2:(k:Int) = (8 * no + wire) % 18446744073709551616:=by
  obtain ⟨a,ha,_,ea⟩:=wrap_nat no
  obtain ⟨b,hb,_,eb⟩:=wrap_nat wire
  rw [ha,hb] at ek
  obtain ⟨m,hm,_,em⟩:=wrap_nat (8 * (a:Int))
  rw [hm] at ek
  omega
 clear ek
 by_cases hB:putB no wire = true
 ·have hkn:k = putN no wire:=by have:=putN_lt hB; have:=putB_iff.1 hB; unfold putN at *; omega
  obtain ⟨t1,t2,t3⟩:=tellsN_yes hB
  rw [← hkn] at t1 t2 t3
  have hT:TV (tellsN k) = .agg #[.int .i64 no,.int .i64 wire,.int .i64 0]:=by unfold TV; rw [t1,t2,t3]; rfl
  rw [putL_yes hB,hB,← hkn]
  clear t1 t2 t3 hkn ek2
  go_enter Tryz.func40,Tryz.ntmps40
  go_wp2_with fail
  refine (tells_any k bk w T).mono ?_
  rintro e w1 ⟨rfl,hb⟩
  rw [hT]
  go_wp2_with fail
  refine (put_any k bk _).mono ?_
  rintro e w2 ⟨v,rfl,hown,hb2⟩
  go_wp2
  go_ret2
  exact ⟨v,rfl,own_mono5 hown hb.size,below_then hb hb2⟩
 ·have hB:putB no wire = false:=by simpa using hB
  have hT:=tellsN_no hB k
  rw [putL_no hB,hB]
  have hG:∃ x y z:Int,TV (tellsN k) = .agg #[.int .i64 x,.int .i64 y,.int .i64 z] ∧ (x = no → y = wire → z ≠ 0):=⟨_,_,_,rfl,fun h1 h2 h3=>hT h1 h2 (by omega)⟩
  obtain ⟨x,y,z,hx,hne⟩:=hG
  clear hT ek2
  go_enter Tryz.func40,Tryz.ntmps40
  go_wp2_with fail
  refine (tells_any k bk w T).mono ?_
  rintro e w1 ⟨rfl,hb⟩
  rw [hx]
  go_wp2
  all_goals go_ret2
  all_goals exact ⟨_,rfl,World.ownsRow_nil _ _ _ _,hb⟩
theorem own_below5 {w w':World} {base:Nat} {e:TypeId} {size:Nat} {v:Value} {n:Nat} {xs:List Value} (h:w.ownsRow base e size v n xs) (hb:Below w.heap.size w w'):w'.ownsRow base e size v n xs:=by
 rcases h with ⟨hl,⟨rfl,rfl⟩ | ⟨g,cap,cur,rfl,h1,h2,h3⟩⟩
 ·exact ⟨hl,.inl ⟨rfl,rfl⟩⟩
 ·exact ⟨hl,.inr ⟨g,cap,cur,rfl,h1,(hb.block g (Array.getElem?_eq_some_iff.1 h2).1).trans h2,h3⟩⟩
structure Rc where
 no:Nat
 wire:Nat
 num:Nat
 frm:Nat
 upto:Nat
 deriving DecidableEq
def Rc.zero:Rc:=⟨0,0,0,0,0⟩
def RV (r:Rc):Value:=.agg #[.int .i64 r.no,.int .i64 r.wire,.int .u64 r.num,.int .i64 r.frm,.int .i64 r.upto]
def numR (l:List UInt8) (a u:Int) (wire:Nat):Nat × Nat × Nat :=
 if wire = 1 then unfixR l a u 8 else if wire = 5 then unfixR l a u 4 else getR l a u
def runR (no wire f n p:Nat) (u:Int):Rc × Nat × Nat :=
 if wire = 2 then (if (n:Int) ≤ u - p then (⟨no,wire,n,p,p + n⟩,p + n,0) else (Rc.zero,0,6)) else (⟨no,wire,n,f,p⟩,p,0)
def restR (no wire f:Nat) (u:Int) (x:Nat × Nat × Nat):Rc × Nat × Nat :=
 if x.2.2 = 0 then runR no wire f x.1 x.2.1 u else (Rc.zero,0,x.2.2)
def nextR (l:List UInt8) (a u:Int):Rc × Nat × Nat :=
 if (tgetR l a u).2.2.2 = 0 then restR (tgetR l a u).1 (tgetR l a u).2.1 (tgetR l a u).2.2.1 u (numR l (tgetR l a u).2.2.1 u (tgetR l a u).2.1)
 else (Rc.zero,0,(tgetR l a u).2.2.2)
def NV (x:Rc × Nat × Nat):Value:=.tuple #[RV x.1,.int .i64 x.2.1,.int .i64 x.2.2]
theorem lead_lt {l:List UInt8} (h:¬ lead (l.take 10) = 10) (h2:¬ lead (l.take 10) = l.length):lead (l.take 10) + 1 ≤ l.length:=by
 have:=lead_le (l.take 10)
 rw [List.length_take] at this
 omega
theorem get_ok {l:List UInt8} {a u:Int} {n p:Nat} (h:getR l a u = (n,p,0)):0 ≤ a ∧ a < p ∧ (p:Int) ≤ u ∧ u ≤ l.length ∧ n < 18446744073709551616 ∧ (p:Int) ≤ a + 10:=by
 have hn:=get_lt l a u
 rw [h] at hn
 unfold getR at h
 split at h
 ·rename_i hm
  have hm:=mayB_true.1 hm
  obtain ⟨an,rfl⟩:=Int.eq_ofNat_of_zero_le hm.1
  obtain ⟨un,rfl⟩:=Int.eq_ofNat_of_zero_le (show 0 ≤ u by omega)
  unfold getS at h
  simp only [Int.toNat_natCast] at h
  have hL:((l.drop an).take (un - an)).length = un - an:=by simp; omega
  generalize (l.drop an).take (un - an) = d at *
  have h2:=congrArg (·.2.1) h
  have h3:=congrArg (·.2.2) h
  simp only at h2 h3
  rw [if_pos h3] at h2
  unfold vget at h3 h2
  by_cases c1:lead (d.take 10) = 10
  ·rw [if_pos c1] at h3; simp at h3
  ·rw [if_neg c1] at h3 h2
   by_cases c2:lead (d.take 10) = d.length
   ·rw [if_pos c2] at h3; simp at h3
   ·rw [if_neg c2] at h2
    simp only at h2
    have:=lead_lt c1 c2
    have h10:=lead_le (d.take 10)
    rw [List.length_take] at h10
    simp only at hn
    omega
 ·simp at h
theorem unfix_ok {l:List UInt8} {a u s:Int} {n p:Nat} (h:unfixR l a u s = (n,p,0)):0 ≤ a ∧ (p:Int) = a + s ∧ (s = 4 ∨ s = 8) ∧ (p:Int) ≤ u ∧ u ≤ l.length ∧ n < 18446744073709551616:=by
 unfold unfixR at h
 split at h
 ·rename_i hm
  rw [Bool.and_eq_true] at hm
  have hs:s = 4 ∨ s = 8:=by simpa [sizeB] using hm.2
  have hm:=mayB_true.1 hm.1
  obtain ⟨an,rfl⟩:=Int.eq_ofNat_of_zero_le hm.1
  obtain ⟨un,rfl⟩:=Int.eq_ofNat_of_zero_le (show 0 ≤ u by omega)
  obtain ⟨sn,rfl⟩:=Int.eq_ofNat_of_zero_le (show 0 ≤ s by omega)
  simp only [Int.toNat_natCast] at h
  unfold unfixS at h
  split at h
  ·simp at h
  ·simp only [Prod.mk.injEq] at h
   have:=fix_lt l an sn (by omega)
   omega
 ·simp at h
theorem num_ok {l:List UInt8} {a u:Int} {w n p:Nat} (h:numR l a u w = (n,p,0)):0 ≤ a ∧ a < p ∧ (p:Int) ≤ u ∧ u ≤ l.length ∧ n < 18446744073709551616:=by
 unfold numR at h
 split at h
 ·have:=unfix_ok h; omega
 ·split at h
  ·have:=unfix_ok h; omega
  ·have:=get_ok h; omega
theorem infoRec:(Tryz.prog.info? 41).map (·.size) = some 5:=by kernel_rfl
theorem results_row_tmp25 {P:Program} {fn:Func} {p u v:Tmp} {ty:TypeId} (h:fn.results = #[.cell p ty,.tmp u,.tmp v]) (tmps:Array Value) (w:World) (g:Nat) (t:TypeId) (cs:Array Value) (fr:Nat × Nat) (d:TypeDesc)
  (hp:tmps.getD p undef = .pointer (some ⟨g,0,none⟩)) (hg:w.heap[g]? = some (.cells cs t fr))
  (hu:P.underlying ty = some d) (hd:(match d with | .struct _ | .array _ _=>true | _=>false) = true) (hi:(P.info? ty).map (·.size) = some cs.size) :
  (results fn tmps).run P w = .ok (.tuple #[.agg cs,tmps.getD u undef,tmps.getD v undef]) w:=by
 have hp':tmps[p]?.getD undef = .pointer (some ⟨g,0,none⟩):=by simpa using hp
 simp [results,h,hp',asAddr,run_loadVar_row w g t ty cs fr d hg hu hd hi]
theorem wpList_store_rec {ops:Array Oper} {rest:List Oper} {o:Oper} {a:Act} {w:World} {Q:Exit → Act → World → Prop} (hgd:o.guard = none) (x y:Operand) (ho:o.op = .store 41 x y)
  (hd:o.dst = none) (g:Nat) (n1 n2 n3 n4 n5 o1 o2 o3 o4 o5:Int) (hx:a.eval x = .pointer (some ⟨g,0,none⟩)) (hy:a.eval y = .agg #[.int .i64 n1,.int .i64 n2,.int .u64 n3,.int .i64 n4,.int .i64 n5])
  (t:TypeId) (hg:w.heap[g]? = some (.cells #[.int .i64 o1,.int .i64 o2,.int .u64 o3,.int .i64 o4,.int .i64 o5] t (0,0)))
  (h:wpList Tryz.prog ops Q rest a (w.setRow g #[.int .i64 n1,.int .i64 n2,.int .u64 n3,.int .i64 n4,.int .i64 n5])):wpList Tryz.prog ops Q (o :: rest) a w :=
 wpList_store_rowTo hgd 41 x y ho hd g _ hx hy t _ hg infoRec rfl (by simp [Value.oneCell']) h
theorem results_rec {fn:Func} {p u v:Tmp} (h:fn.results = #[.cell p 41,.tmp u,.tmp v]) (tmps:Array Value) (w:World) (g:Nat) (t:TypeId) (n1 n2 n3 n4 n5:Int) (fr:Nat × Nat)
  (hp:tmps.getD p undef = .pointer (some ⟨g,0,none⟩)) (hg:w.heap[g]? = some (.cells #[.int .i64 n1,.int .i64 n2,.int .u64 n3,.int .i64 n4,.int .i64 n5] t fr)) :
  (results fn tmps).run Tryz.prog w = .ok (.tuple #[.agg #[.int .i64 n1,.int .i64 n2,.int .u64 n3,.int .i64 n4,.int .i64 n5],tmps.getD u undef,tmps.getD v undef]) w :=
 results_row_tmp25 h tmps w g t _ fr _ hp hg Tryz.underlying41 rfl infoRec
theorem number_any (A:Option Addr) (c:Nat) (l:List UInt8) (a u:Int) (wire:Nat) (hl:l.length ≤ 1000000000) (w:World) (h1:SlB w A c l) :
  Calls Tryz.prog 147 #[.slice A l.length c,.int .i64 a,.int .i64 u,.int .i64 wire] w fun e w'=>e = .returned (V3 (numR l a u wire)) ∧ w = w':=by
 by_cases h8:wire = 1
 ·have hn:numR l a u wire = unfixR l a u 8:=by unfold numR; rw [if_pos h8]
  obtain ⟨x,y,z,hx⟩:∃ x y z,unfixR l a u 8 = (x,y,z):=⟨_,_,_,rfl⟩
  rw [hn,hx]
  subst h8
  go_enter Tryz.func147,Tryz.ntmps147
  go_wp2_with fail
  refine (unfix_any A c l a u 8 hl w h1).mono ?_
  rintro e w1 ⟨rfl,rfl⟩
  rw [hx]
  unfold V3
  go_wp2
  go_ret3
  exact ⟨rfl,rfl⟩
 ·have b8:((wire:Int) == 1) = false:=by simp; omega
  by_cases h4:wire = 5
  ·have hn:numR l a u wire = unfixR l a u 4:=by unfold numR; rw [if_neg h8,if_pos h4]
   obtain ⟨x,y,z,hx⟩:∃ x y z,unfixR l a u 4 = (x,y,z):=⟨_,_,_,rfl⟩
   rw [hn,hx]
   subst h4
   go_enter Tryz.func147,Tryz.ntmps147
   go_wp2_with fail
   refine (unfix_any A c l a u 4 hl w h1).mono ?_
   rintro e w1 ⟨rfl,rfl⟩
   rw [hx]
   unfold V3
   go_wp2
   go_ret3
   exact ⟨rfl,rfl⟩
  ·have b4:((wire:Int) == 5) = false:=by simp; omega
   have hn:numR l a u wire = getR l a u:=by unfold numR; rw [if_neg h8,if_neg h4]
   obtain ⟨x,y,z,hx⟩:∃ x y z,getR l a u = (x,y,z):=⟨_,_,_,rfl⟩
   rw [hn,hx]
   clear h8 h4
   go_enter Tryz.func147,Tryz.ntmps147
   go_wp2_with fail
   refine (get_any A c l a u hl w h1).mono ?_
   rintro e w1 ⟨rfl,rfl⟩
   rw [hx]
   unfold V3
   go_wp2
   go_ret3
   exact ⟨rfl,rfl⟩
set_option maxRecDepth 1000000 in
theorem next_any (A:Option Addr) (c:Nat) (l:List UInt8) (a u:Int) (hl:l.length ≤ 1000000000) (w:World) (h1:SlB w A c l) (T:Wires w) :
  Calls Tryz.prog 104 #[.slice A l.length c,.int .i64 a,.int .i64 u] w fun e w'=>e = .returned (NV (nextR l a u)) ∧ Below w.heap.size w w':=by
 obtain ⟨no,wire,f,x,ht⟩:∃ no wire f x,tgetR l a u = (no,wire,f,x):=⟨_,_,_,_,rfl⟩
 have hN:nextR l a u = if x = 0 then restR no wire f u (numR l f u wire) else (Rc.zero,0,x):=by unfold nextR; rw [ht]
 rw [hN]
 by_cases hx:x = 0
 ·rw [if_pos hx]
  subst hx
  obtain ⟨n,p,y,hn⟩:∃ n p y,numR l f u wire = (n,p,y):=⟨_,_,_,rfl⟩
  have hR:restR no wire f u (numR l f u wire) = if y = 0 then runR no wire f n p u else (Rc.zero,0,y):=by unfold restR; rw [hn]
  rw [hR]
  by_cases hy:y = 0
  ·rw [if_pos hy]
   subst hy
   have hk:=num_ok hn
   by_cases hw:wire = 2
   ·have hr:runR no wire f n p u = if (n:Int) ≤ u - p then (⟨no,wire,n,p,p + n⟩,p + n,0) else (Rc.zero,0,6):=by unfold runR; rw [if_pos hw]
    rw [hr]
    have bw:((wire:Int) == 2) = true:=by simp [hw]
    have ec:IntKind.u64.wrap (IntKind.i64.wrap (u - p)) = u - p:=by simp [IntKind.wrap,IntKind.signed,IntKind.bits]; omega
    have e1:IntKind.i64.wrap (u - p) = u - p:=by simp [IntKind.wrap,IntKind.signed,IntKind.bits]; split <;> omega
    have e1':IntKind.u64.wrap (u - p) = u - p:=by simp [IntKind.wrap,IntKind.signed,IntKind.bits]; omega
    by_cases hc:(n:Int) ≤ u - p
    ·rw [if_pos hc]
     have bc:decide (u - p < (n:Int)) = false:=by simp; omega
     have e2:IntKind.i64.wrap (n:Int) = n:=by simp [IntKind.wrap,IntKind.signed,IntKind.bits]; split <;> omega
     have e3:IntKind.i64.wrap ((p:Int) + n) = ((p + n:Nat):Int):=by simp [IntKind.wrap,IntKind.signed,IntKind.bits]; split <;> omega
     generalize hq:p + n = q at *
     clear hk hq hc hr hR hN hw
     go_enter Tryz.func104,Tryz.ntmps104
     go_wp2_with fail
     refine (tget_any A c l a u hl _ (h1.lit _) (T.on (below_new _ _))).mono ?_
     rintro e w1 ⟨rfl,hb1⟩
     rw [ht]
     unfold V4
     have hg1:=hb1.block w.heap.size (by simp)
     rw [heap_alloc_new] at hg1
     go_wp2_with fail
     refine (number_any A c l f u wire hl _ ((h1.lit _).on hb1)).mono ?_
     rintro e w2 ⟨rfl,rfl⟩
     rw [hn]
     unfold V3
     go_wp2_with (refine wpList_store_rec rfl _ _ rfl rfl w.heap.size _ _ _ _ _ _ _ _ _ _ rfl rfl _ hg1 ?_)
     refine bodyPost_ret (results_rec rfl _ _ w.heap.size _ _ _ _ _ _ (0,0) rfl (setRow_heap _ _ _ _ _ _ hg1)) rfl ?_
     exact ⟨rfl,below_setRow (below_then (below_new _ _) hb1) (Nat.le_refl _) _⟩
    ·rw [if_neg hc]
     have bc:decide (u - p < (n:Int)) = true:=by simp; omega
     clear hk hc hr hR hN hw
     go_enter Tryz.func104,Tryz.ntmps104
     go_wp2_with fail
     refine (tget_any A c l a u hl _ (h1.lit _) (T.on (below_new _ _))).mono ?_
     rintro e w1 ⟨rfl,hb1⟩
     rw [ht]
     unfold V4
     have hg1:=hb1.block w.heap.size (by simp)
     rw [heap_alloc_new] at hg1
     go_wp2_with fail
     refine (number_any A c l f u wire hl _ ((h1.lit _).on hb1)).mono ?_
     rintro e w2 ⟨rfl,rfl⟩
     rw [hn]
     unfold V3
     go_wp2_with (refine wpList_store_rec rfl _ _ rfl rfl w.heap.size _ _ _ _ _ _ _ _ _ _ rfl rfl _ hg1 ?_)
     refine bodyPost_ret (results_rec rfl _ _ w.heap.size _ _ _ _ _ _ (0,0) rfl (setRow_heap _ _ _ _ _ _ hg1)) rfl ?_
     exact ⟨rfl,below_setRow (below_then (below_new _ _) hb1) (Nat.le_refl _) _⟩
   ·have hr:runR no wire f n p u = (⟨no,wire,n,f,p⟩,p,0):=by unfold runR; rw [if_neg hw]
    rw [hr]
    have bw:((wire:Int) == 2) = false:=by simp; omega
    clear hk hr hR hN hw
    go_enter Tryz.func104,Tryz.ntmps104
    go_wp2_with fail
    refine (tget_any A c l a u hl _ (h1.lit _) (T.on (below_new _ _))).mono ?_
    rintro e w1 ⟨rfl,hb1⟩
    rw [ht]
    unfold V4
    have hg1:=hb1.block w.heap.size (by simp)
    rw [heap_alloc_new] at hg1
    go_wp2_with fail
    refine (number_any A c l f u wire hl _ ((h1.lit _).on hb1)).mono ?_
    rintro e w2 ⟨rfl,rfl⟩
    rw [hn]
    unfold V3
    go_wp2_with (refine wpList_store_rec rfl _ _ rfl rfl w.heap.size _ _ _ _ _ _ _ _ _ _ rfl rfl _ hg1 ?_)
    refine bodyPost_ret (results_rec rfl _ _ w.heap.size _ _ _ _ _ _ (0,0) rfl (setRow_heap _ _ _ _ _ _ hg1)) rfl ?_
    exact ⟨rfl,below_setRow (below_then (below_new _ _) hb1) (Nat.le_refl _) _⟩
  ·rw [if_neg hy]
   have by':((y:Int) != 0) = true:=by simp; omega
   clear hR hN
   go_enter Tryz.func104,Tryz.ntmps104
   go_wp2_with fail
   refine (tget_any A c l a u hl _ (h1.lit _) (T.on (below_new _ _))).mono ?_
   rintro e w1 ⟨rfl,hb1⟩
   rw [ht]
   unfold V4
   have hg1:=hb1.block w.heap.size (by simp)
   rw [heap_alloc_new] at hg1
   go_wp2_with fail
   refine (number_any A c l f u wire hl _ ((h1.lit _).on hb1)).mono ?_
   rintro e w2 ⟨rfl,rfl⟩
   rw [hn]
   unfold V3
   go_wp2_with (refine wpList_store_rec rfl _ _ rfl rfl w.heap.size _ _ _ _ _ _ _ _ _ _ rfl rfl _ hg1 ?_)
   refine bodyPost_ret (results_rec rfl _ _ w.heap.size _ _ _ _ _ _ (0,0) rfl (setRow_heap _ _ _ _ _ _ hg1)) rfl ?_
   exact ⟨rfl,below_setRow (below_then (below_new _ _) hb1) (Nat.le_refl _) _⟩
 ·rw [if_neg hx]
  have bx:((x:Int) != 0) = true:=by simp; omega
  clear hN
  go_enter Tryz.func104,Tryz.ntmps104
  go_wp2_with fail
  refine (tget_any A c l a u hl _ (h1.lit _) (T.on (below_new _ _))).mono ?_
  rintro e w1 ⟨rfl,hb1⟩
  rw [ht]
  unfold V4
  have hg1:=hb1.block w.heap.size (by simp)
  rw [heap_alloc_new] at hg1
  go_wp2_with (refine wpList_store_rec rfl _ _ rfl rfl w.heap.size _ _ _ _ _ _ _ _ _ _ rfl rfl _ hg1 ?_)
  refine bodyPost_ret (results_rec rfl _ _ w.heap.size _ _ _ _ _ _ (0,0) rfl (setRow_heap _ _ _ _ _ _ hg1)) rfl ?_
  exact ⟨rfl,below_setRow (below_then (below_new _ _) hb1) (Nat.le_refl _) _⟩
def restL (wire:Int) (num:Nat) (run:List UInt8):List UInt8 :=
 if wire = 2 then vput run.length ++ run else if wire = 1 then fixb num 8 else if wire = 5 then fixb num 4 else vput num
def recL (no wire:Int) (num:Nat) (run:List UInt8):List UInt8:=if putB no wire then putL no wire ++ restL wire num run else []
def ZV (no wire:Int) (num:Nat) (f u:Int):Value:=.agg #[.int .i64 no,.int .i64 wire,.int .u64 num,.int .i64 f,.int .i64 u]
theorem recL_yes {no wire:Int} {num:Nat} {run:List UInt8} (h:putB no wire = true):recL no wire num run = putL no wire ++ restL wire num run:=by unfold recL; rw [if_pos h]
theorem recL_no {no wire:Int} {num:Nat} {run:List UInt8} (h:putB no wire = false):recL no wire num run = []:=by unfold recL; rw [if_neg (by simp [h])]
theorem putL_le5 {no wire:Int}:(putL no wire).length ≤ 5:=by
 by_cases h:putB no wire = true
 ·have hl:=putN_lt h
  rw [putL_yes h,vput_length]
  exact vlong_le 4 (by omega)
 ·rw [putL_no (by simpa using h)]; simp
theorem fixed_at (n S:Nat) (hS:S = 4 ∨ S = 8) (hn:n < 18446744073709551616) (x:List UInt8) (hx:fixb n S = x) (w:World) :
  Calls Tryz.prog 42 #[.int .u64 n,.int .i64 S] w fun e w'=>∃ A c,e = .returned (.slice A S c) ∧ SlB w' A c x ∧ Below w.heap.size w w':=by
 have hl:x.length = S:=by rw [← hx]; exact fixb_length _ _
 go_enter Tryz.func42,Tryz.ntmps42
 go_wp2_with fail
 refine (fix_yes n S hS hn _).mono ?_
 rintro e w1 ⟨v,rfl,hown,hb⟩
 rw [hx] at hown
 clear hS hx
 subst hl
 obtain ⟨A,c,rfl,hr⟩:=SlB.of_own hown
 go_wp2
 go_ret
 exact ⟨A,c,rfl,hr,hb⟩
theorem fixed_any (n S:Nat) (hS:S = 4 ∨ S = 8) (hn:n < 18446744073709551616) (w:World) :
  Calls Tryz.prog 42 #[.int .u64 n,.int .i64 S] w fun e w'=>∃ A c,e = .returned (.slice A S c) ∧ SlB w' A c (fixb n S) ∧ Below w.heap.size w w':=fixed_at n S hS hn _ rfl w
theorem heap_cells {w:World} {g:Nat} {n1 n2 n3 n4 n5:Int} {t:TypeId} {fr:Nat × Nat} (hg:w.heap[g]? = some (.cells #[.int .i64 n1,.int .i64 n2,.int .u64 n3,.int .i64 n4,.int .i64 n5] t fr)) :
  w.cell? ⟨g,0,none⟩ = some (.int .i64 n1) ∧ w.cell? ⟨g,1,none⟩ = some (.int .i64 n2) ∧ w.cell? ⟨g,2,none⟩ = some (.int .u64 n3) ∧ w.cell? ⟨g,3,none⟩ = some (.int .i64 n4) ∧ w.cell? ⟨g,4,none⟩ = some (.int .i64 n5):=by
 refine ⟨?_,?_,?_,?_,?_⟩ <;> simp [World.cell?,hg]
end Go.Proofs.YtckcojkpghiclaaGreatDoor
