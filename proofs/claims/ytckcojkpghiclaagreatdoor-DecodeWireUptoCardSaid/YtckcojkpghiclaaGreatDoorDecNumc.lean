/-
 What a law that reads package-level variables needs beyond the rest: the given ties,and the condition on what is laid.
-/
import Derived.Test.YtckcojkpghiclaaGreatDoorCards
import Derived.Test.YtckcojkpghiclaaGreatDoorTie
import Derived.Test.YtckcojkpghiclaaGreatDoorTrSet
import Derived.Deep.DeepHandedRow
import Derived.Lib.LaidTab
import Derived.Lay
import Derived.MakeChecks
import Derived.Test.YtckcojkpghiclaaGreatDoorTabFld
import Derived.Stop.LaidErr
import Derived.Deep.Strs
import Derived.Test.YtckcojkpghiclaaGreatDoorEncAw
import Derived.Test.YtckcojkpghiclaaGreatDoorTokSmall
import Derived.Test.YtckcojkpghiclaaGreatDoorTabCode
import Derived.Defers
import Derived.Recover
import Derived.Laws.Pointers
import Derived.Test.YtckcojkpghiclaaGreatDoorTagGet
import Derived.Test.YtckcojkpghiclaaGreatDoorVarMay
import Derived.WalkSmall
import Derived.OwnWalk
import Derived.Deep.AppendLies
namespace Go.Proofs.YtckcojkpghiclaaGreatDoor
set_option maxRecDepth 100000
end Go.Proofs.YtckcojkpghiclaaGreatDoor
namespace Go.Proofs.YtckcojkpghiclaaGreatDoor
set_option maxRecDepth 100000
open Go.RowKit
theorem arr_inv {H:Type} {enc:TypeId × Value → H} {P:Program} {w:World} {base:Nat} {sp:Nat → Bool} {held:Bool} {fuel:Nat} {t e:TypeId} {n:Nat} {cs:List Value} {ds:List (DataW H)} {p:List MemPlace}
  (ht:P.underlying t = some (.array n e)) (h:DataW.trod enc P w base sp held fuel t cs = some (.agg ds,p)):cs.length = P.cellsOf t ∧ ∃ f,∀ i d,i < n → ds[i]? = some d → ∃ q,DataW.trod enc P w base sp held f e ((cs.drop (i * P.cellsOf e)).take (P.cellsOf e)) = some (d,q):=by
 cases fuel with
 | zero=>simp [DataW.trod] at h
 | succ fuel =>
  simp only [DataW.trod,ht] at h
  split at h
  ·rename_i hl
   obtain ⟨xs,hm,hx⟩:=Option.map_eq_some_iff.1 h
   have hxs:xs.map (·.1) = ds:=by
    have:=congrArg Prod.fst hx
    simpa using this
   refine ⟨by simpa using hl,fuel,fun i d hi hd=>?_⟩
   obtain ⟨b,hb,hf⟩:=Lib.mapM_at hm i i (by simp [hi])
   rw [← hxs,List.getElem?_map,hb] at hd
   simp only [Option.map_some,Option.some.injEq] at hd
   subst hd
   exact ⟨b.2,hf⟩
  ·cases h
section
variable {enc:TypeId × Value → Unit} {W:World} {n:Nat} {q:List MemPlace}
theorem elem_plain {cs:List Value} {x:List UInt8} {k:Int} (h:DataW.trod enc Tryz.prog W 0 (fun _=>true) false n 194 cs = some (.agg [.lit (.string x),.lit (.int .i64 k)],q)):cs = [.string (txt x),.int .i64 k]:=by
 obtain ⟨y0,y1,m,hx,hl,h0,h1⟩:=ChangeShapes.trod_struct2 Tryz.underlying194 h
 have k0:Tryz.prog.cellsOf 194 = 2:=by kernel_rfl
 rw [k0] at hl
 obtain ⟨c0,c1,rfl⟩:∃ a b,cs = [a,b]:=match cs,hl with | [a,b],_=>⟨a,b,rfl⟩
 obtain ⟨s,e0,f0,-⟩:=DataW.trod_string Tryz.underlying9 h0
 obtain ⟨z,e1,f1,-⟩:=DataW.trod_int Tryz.underlying3 h1
 have k1:Tryz.prog.cellsOf 9 = 1:=by kernel_rfl
 have k2:Tryz.prog.cellsOf 3 = 1:=by kernel_rfl
 simp only [k1,k2] at e0 e1
 simp at e0 e1
 subst e0 e1 f0 f1
 simp only [Prod.mk.injEq,DataW.agg.injEq,List.cons.injEq,DataW.lit.injEq,Lit.string.injEq,Lit.int.injEq,and_true,true_and] at hx
 obtain ⟨⟨rfl,rfl⟩,-⟩:=hx
 rfl
theorem elem_stance {cs:List Value} {a b c:Bool} (h:DataW.trod enc Tryz.prog W 0 (fun _=>true) false n 248 cs = some (.agg [.lit (.bool a),.lit (.bool b),.lit (.bool c)],q)):cs = [.bool a,.bool b,.bool c]:=by
 obtain ⟨hl,m,hg⟩:=arr_inv Tryz.underlying248 h
 have k0:Tryz.prog.cellsOf 248 = 3:=by kernel_rfl
 have k1:Tryz.prog.cellsOf 4 = 1:=by kernel_rfl
 rw [k0] at hl
 rw [k1] at hg
 obtain ⟨c0,c1,c2,rfl⟩:∃ a b c,cs = [a,b,c]:=match cs,hl with | [a,b,c],_=>⟨a,b,c,rfl⟩
 obtain ⟨_,h0⟩:=hg 0 _ (by omega) rfl
 obtain ⟨_,h1⟩:=hg 1 _ (by omega) rfl
 obtain ⟨_,h2⟩:=hg 2 _ (by omega) rfl
 obtain ⟨s0,e0,f0⟩:=DataW.trod_bool Tryz.underlying4 h0
 obtain ⟨s1,e1,f1⟩:=DataW.trod_bool Tryz.underlying4 h1
 obtain ⟨s2,e2,f2⟩:=DataW.trod_bool Tryz.underlying4 h2
 simp at e0 e1 e2 f0 f1 f2
 obtain ⟨rfl,-⟩:=f0
 obtain ⟨rfl,-⟩:=f1
 obtain ⟨rfl,-⟩:=f2
 rw [e0,e1,e2]
end
theorem plains_of {W:World} {rest:List (String × DataW Unit)} (h:laidMet Tryz.prog (("truffle/table.plains",Rows.laid_truffle_table_plains) :: rest) W):TabAt W 0 plainsC:=by
 obtain ⟨ps,⟨g',t',cs,fuel,p,q,hg',ht',hvar,hd,_,_⟩,_⟩:=h
 have hg:Tryz.prog.globalNamed "truffle/table.plains" = some 0:=by kernel_rfl
 have hty:(Tryz.prog.globals[0]?).map (·.type) = some 195:=by kernel_rfl
 obtain rfl:=Option.some.inj (hg.symm.trans hg')
 obtain rfl:=Option.some.inj (hty.symm.trans ht')
 refine TabAt.of_var hg ?_
 rw [hvar]
 obtain ⟨hl,m,hh⟩:=arr_inv (ds:=[.agg [.lit (.string tInt64),.lit (.int .i64 0)],.agg [.lit (.string tSint64),.lit (.int .i64 1)],.agg [.lit (.string tUint32),.lit (.int .i64 2)],.agg [.lit (.string tBool),.lit (.int .i64 3)],.agg [.lit (.string tFixed32),.lit (.int .i64 4)],.agg [.lit (.string tSfixed64),.lit (.int .i64 5)],.agg [.lit (.string tString),.lit (.int .i64 7)],.agg [.lit (.string tBytes),.lit (.int .i64 8)]]) Tryz.underlying195 hd
 have k0:Tryz.prog.cellsOf 195 = 16:=by kernel_rfl
 have k1:Tryz.prog.cellsOf 194 = 2:=by kernel_rfl
 rw [k0] at hl
 rw [k1] at hh
 obtain ⟨cs⟩:=cs
 simp only at hl hh
 obtain ⟨c0,c1,c2,c3,c4,c5,c6,c7,c8,c9,c10,c11,c12,c13,c14,c15,rfl⟩:∃ a0 a1 a2 a3 a4 a5 a6 a7 a8 a9 a10 a11 a12 a13 a14 a15,cs = [a0,a1,a2,a3,a4,a5,a6,a7,a8,a9,a10,a11,a12,a13,a14,a15]:=match cs,hl with | [a0,a1,a2,a3,a4,a5,a6,a7,a8,a9,a10,a11,a12,a13,a14,a15],_=>⟨a0,a1,a2,a3,a4,a5,a6,a7,a8,a9,a10,a11,a12,a13,a14,a15,rfl⟩
 obtain ⟨_,h0⟩:=hh 0 _ (by omega) rfl
 obtain ⟨_,h1⟩:=hh 1 _ (by omega) rfl
 obtain ⟨_,h2⟩:=hh 2 _ (by omega) rfl
 obtain ⟨_,h3⟩:=hh 3 _ (by omega) rfl
 obtain ⟨_,h4⟩:=hh 4 _ (by omega) rfl
 obtain ⟨_,h5⟩:=hh 5 _ (by omega) rfl
 obtain ⟨_,h6⟩:=hh 6 _ (by omega) rfl
 obtain ⟨_,h7⟩:=hh 7 _ (by omega) rfl
 have e0:=elem_plain h0
 have e1:=elem_plain h1
 have e2:=elem_plain h2
 have e3:=elem_plain h3
 have e4:=elem_plain h4
 have e5:=elem_plain h5
 have e6:=elem_plain h6
 have e7:=elem_plain h7
 simp only [Nat.zero_mul,Nat.one_mul,Nat.reduceMul,List.drop_zero,List.drop_succ_cons,List.take_succ_cons,List.take_zero,List.cons.injEq,and_true] at e0 e1 e2 e3 e4 e5 e6 e7
 obtain ⟨rfl,rfl⟩:=e0
 obtain ⟨rfl,rfl⟩:=e1
 obtain ⟨rfl,rfl⟩:=e2
 obtain ⟨rfl,rfl⟩:=e3
 obtain ⟨rfl,rfl⟩:=e4
 obtain ⟨rfl,rfl⟩:=e5
 obtain ⟨rfl,rfl⟩:=e6
 obtain ⟨rfl,rfl⟩:=e7
 rfl
theorem stances_of {W:World} {rest:List (String × DataW Unit)} (h:laidMet Tryz.prog (("truffle/table.stances",Rows.laid_truffle_table_stances) :: rest) W):TabAt W 2 stancesC:=by
 obtain ⟨ps,⟨g',t',cs,fuel,p,q,hg',ht',hvar,hd,_,_⟩,_⟩:=h
 have hg:Tryz.prog.globalNamed "truffle/table.stances" = some 2:=by kernel_rfl
 have hty:(Tryz.prog.globals[2]?).map (·.type) = some 249:=by kernel_rfl
 obtain rfl:=Option.some.inj (hg.symm.trans hg')
 obtain rfl:=Option.some.inj (hty.symm.trans ht')
 refine TabAt.of_var hg ?_
 rw [hvar]
 obtain ⟨hl,m,hh⟩:=arr_inv (ds:=[.agg [.lit (.bool false),.lit (.bool false),.lit (.bool false)],.agg [.lit (.bool true),.lit (.bool false),.lit (.bool false)],.agg [.lit (.bool false),.lit (.bool true),.lit (.bool false)],.agg [.lit (.bool false),.lit (.bool false),.lit (.bool true)]]) Tryz.underlying249 hd
 have k0:Tryz.prog.cellsOf 249 = 12:=by kernel_rfl
 have k1:Tryz.prog.cellsOf 248 = 3:=by kernel_rfl
 rw [k0] at hl
 rw [k1] at hh
 obtain ⟨cs⟩:=cs
 simp only at hl hh
 obtain ⟨c0,c1,c2,c3,c4,c5,c6,c7,c8,c9,c10,c11,rfl⟩:∃ a0 a1 a2 a3 a4 a5 a6 a7 a8 a9 a10 a11,cs = [a0,a1,a2,a3,a4,a5,a6,a7,a8,a9,a10,a11]:=match cs,hl with | [a0,a1,a2,a3,a4,a5,a6,a7,a8,a9,a10,a11],_=>⟨a0,a1,a2,a3,a4,a5,a6,a7,a8,a9,a10,a11,rfl⟩
 obtain ⟨_,h0⟩:=hh 0 _ (by omega) rfl
 obtain ⟨_,h1⟩:=hh 1 _ (by omega) rfl
 obtain ⟨_,h2⟩:=hh 2 _ (by omega) rfl
 obtain ⟨_,h3⟩:=hh 3 _ (by omega) rfl
 have e0:=elem_stance h0
 have e1:=elem_stance h1
 have e2:=elem_stance h2
 have e3:=elem_stance h3
 simp only [Nat.zero_mul,Nat.one_mul,Nat.reduceMul,List.drop_zero,List.drop_succ_cons,List.take_succ_cons,List.take_zero,List.cons.injEq,and_true] at e0 e1 e2 e3
 obtain ⟨rfl,rfl,rfl⟩:=e0
 obtain ⟨rfl,rfl,rfl⟩:=e1
 obtain ⟨rfl,rfl,rfl⟩:=e2
 obtain ⟨rfl,rfl,rfl⟩:=e3
 rfl
end Go.Proofs.YtckcojkpghiclaaGreatDoor
namespace Go.Proofs.YtckcojkpghiclaaGreatDoor.T12
set_option maxRecDepth 100000
open Go.RowKit
open Go.Proofs.YtckcojkpghiclaaGreatDoor.T9
theorem laid12 {W:World} (h:laidMetH Tryz.prog [("truffle/tag.wires",Rows.laid_truffle_tag_wires),("truffle/table.plains",Rows.laid_truffle_table_plains),("truffle/table.stances",Rows.laid_truffle_table_stances)] W):Tabs W ∧ Wires W:=by
 rw [MakeChecks.laidMetH_plain _ _ _ (by kernel_rfl)] at h
 have g:Tryz.prog.globalNamed "truffle/tag.wires" = some 1:=by kernel_rfl
 have ht:(Tryz.prog.globals[1]?).map (·.type) = some 207:=by kernel_rfl
 have c1:Tryz.prog.cellsOf 207 = 4:=by kernel_rfl
 have c2:Tryz.prog.cellsOf 3 = 1:=by kernel_rfl
 have hT:Lib.TabIs Tryz.prog W "truffle/tag.wires" .i64 [0,1,2,5]:=Lib.tabIs_of_head (rest:=_) g ht Tryz.underlying207 Tryz.underlying3 c2 c1 h
 exact ⟨⟨plains_of h.tail,stances_of h.tail.tail⟩,TabAt.of_var g hT⟩
end Go.Proofs.YtckcojkpghiclaaGreatDoor.T12
namespace Go.Proofs.YtckcojkpghiclaaGreatDoor
set_option maxRecDepth 100000
open Go.RowKit
def wfix (d:List UInt8) (S:Nat):Nat × Nat × Nat:=if d.length < S then (0,0,6) else (fixn (d.take S),S,0)
def wnum (wire:Nat) (d:List UInt8):Nat × Nat × Nat:=if wire = 1 then wfix d 8 else if wire = 5 then wfix d 4 else vget d
def wrun (no wire k n q:Nat) (len:Nat):Rc × Nat × Nat :=
 if wire = 2 then (if n ≤ len - (k + q) then (⟨no,wire,n,k + q,k + q + n⟩,k + q + n,0) else (Rc.zero,0,6)) else (⟨no,wire,n,k,k + q⟩,k + q,0)
def wrest (no wire k:Nat) (len:Nat) (x:Nat × Nat × Nat):Rc × Nat × Nat:=if x.2.2 = 0 then wrun no wire k x.1 x.2.1 len else (Rc.zero,0,x.2.2)
def wtell (t:Nat × Nat × Nat) (k:Nat) (d:List UInt8):Rc × Nat × Nat:=if t.2.2 = 0 then wrest t.1 t.2.1 k d.length (wnum t.2.1 (d.drop k)) else (Rc.zero,0,t.2.2)
def wnext (d:List UInt8):Rc × Nat × Nat:=if (vget d).2.2 = 0 then wtell (tellsN (vget d).1) (vget d).2.1 d else (Rc.zero,0,(vget d).2.2)
def shR (a:Nat) (x:Rc × Nat × Nat):Rc × Nat × Nat:=if x.2.2 = 0 then (⟨x.1.no,x.1.wire,x.1.num,a + x.1.frm,a + x.1.upto⟩,a + x.2.1,0) else (Rc.zero,0,x.2.2)
theorem getS_win (l:List UInt8) (a u:Nat):getS l a u = ((vget ((l.drop a).take (u - a))).1,(if (vget ((l.drop a).take (u - a))).2.2 = 0 then a + (vget ((l.drop a).take (u - a))).2.1 else 0),(vget ((l.drop a).take (u - a))).2.2):=rfl
theorem win_drop (l:List UInt8) (a u k:Nat):(l.drop (a + k)).take (u - (a + k)) = ((l.drop a).take (u - a)).drop k:=by
 rw [List.drop_take,List.drop_drop,Nat.sub_sub]
theorem num_win (l:List UInt8) (a u wire:Nat) (hau:a ≤ u) (hu:u ≤ l.length) :
  numR l a u wire = ((wnum wire ((l.drop a).take (u - a))).1,(if (wnum wire ((l.drop a).take (u - a))).2.2 = 0 then a + (wnum wire ((l.drop a).take (u - a))).2.1 else 0),(wnum wire ((l.drop a).take (u - a))).2.2):=by
 have hm:mayB a u l.length = true:=by rw [mayB_true]; omega
 have hl:((l.drop a).take (u - a)).length = u - a:=by simp; omega
 have hf:∀ S:Nat,S = 4 ∨ S = 8 → unfixR l a u S = ((wfix ((l.drop a).take (u - a)) S).1,(if (wfix ((l.drop a).take (u - a)) S).2.2 = 0 then a + (wfix ((l.drop a).take (u - a)) S).2.1 else 0),(wfix ((l.drop a).take (u - a)) S).2.2):=by
  intro S hS
  have hs:sizeB S = true:=by rcases hS with rfl | rfl <;> rfl
  unfold unfixR unfixS wfix
  rw [hm,hs,hl]
  simp only [Bool.and_self,if_true,Int.toNat_natCast]
  split
  ·rfl
  ·simp only [if_true]
   rw [List.take_take,Nat.min_eq_left (by omega)]
 unfold numR wnum
 split
 ·exact hf 8 (Or.inr rfl)
 ·split
  ·exact hf 4 (Or.inl rfl)
  ·unfold getR
   rw [if_pos hm]
   simp only [Int.toNat_natCast]
   rfl
theorem vget_le {d:List UInt8}:(vget d).2.1 ≤ d.length:=vget_bound d
theorem wfix_le {d:List UInt8} {S:Nat}:(wfix d S).2.1 ≤ d.length:=by
 unfold wfix
 split
 ·simp
 ·simp only; omega
theorem wnum_le {wire:Nat} {d:List UInt8}:(wnum wire d).2.1 ≤ d.length:=by
 unfold wnum
 split
 ·exact wfix_le
 ·split
  ·exact wfix_le
  ·exact vget_le
theorem sh_err {a e:Nat} (h:e ≠ 0):shR a (Rc.zero,0,e) = (Rc.zero,0,e):=by unfold shR; rw [if_neg h]
theorem next_win (l:List UInt8) (a u:Nat) (hau:a ≤ u) (hu:u ≤ l.length):nextR l a u = shR a (wnext ((l.drop a).take (u - a))):=by
 have hm:mayB a u l.length = true:=by rw [mayB_true]; omega
 have hl:((l.drop a).take (u - a)).length = u - a:=by simp; omega
 have hg:getR l a u = getS l a u:=by unfold getR; rw [if_pos hm]; simp only [Int.toNat_natCast]
 have hk:=vget_le (d:=(l.drop a).take (u - a))
 unfold nextR tgetR
 rw [hg,getS_win]
 unfold wnext
 by_cases h0:(vget ((l.drop a).take (u - a))).2.2 = 0
 ·simp only [h0,if_true]
  unfold wtell
  by_cases h1:(tellsN (vget ((l.drop a).take (u - a))).1).2.2 = 0
  ·simp only [h1,if_true]
   rw [hl] at hk
   rw [num_win l _ u _ (by omega) hu,win_drop]
   unfold restR wrest
   by_cases h2:(wnum (tellsN (vget ((l.drop a).take (u - a))).1).2.1 (((l.drop a).take (u - a)).drop (vget ((l.drop a).take (u - a))).2.1)).2.2 = 0
   ·simp only [h2,if_true]
    unfold runR wrun shR
    rw [hl]
    by_cases h3:(tellsN (vget ((l.drop a).take (u - a))).1).2.1 = 2
    ·simp only [h3,if_true]
     have hq:=wnum_le (wire:=2) (d:=((l.drop a).take (u - a)).drop (vget ((l.drop a).take (u - a))).2.1)
     rw [List.length_drop,hl] at hq
     generalize (wnum 2 (((l.drop a).take (u - a)).drop (vget ((l.drop a).take (u - a))).2.1)) = x at hq ⊢
     generalize (vget ((l.drop a).take (u - a))).2.1 = k at *
     obtain ⟨n,q,e⟩:=x
     simp only
     by_cases h4:(n:Int) ≤ (u:Int) - ((a + k + q:Nat):Int)
     ·rw [if_pos h4,if_pos (show n ≤ u - a - (k + q) by omega)]
      simp only [if_true,Prod.mk.injEq,Rc.mk.injEq,true_and,and_true]
      omega
     ·rw [if_neg h4,if_neg (show ¬ n ≤ u - a - (k + q) by have hq':q ≤ u - a - k:=hq; omega)]
      exact (sh_err (by omega)).symm
    ·simp only [h3,if_false,if_true]
     simp only [Prod.mk.injEq,Rc.mk.injEq,true_and,and_true]
     omega
   ·simp only [h2,if_false]
    exact (sh_err h2).symm
  ·simp only [h1,if_false]
   exact (sh_err h1).symm
 ·simp only [h0,if_false]
  unfold shR
  simp [h0]
theorem lead_spec:∀ (l:List UInt8),(∀ j,j < lead l → ∃ c,l[j]? = some c ∧ 128 ≤ c.toNat) ∧ (lead l < l.length → ∃ c,l[lead l]? = some c ∧ c.toNat < 128)
 | []=>by simp [lead]
 | b :: l=>by
  obtain ⟨h1,h2⟩:=lead_spec l
  unfold lead
  split
  ·rename_i h
   exact ⟨fun j hj=>by omega,fun _=>⟨b,by simp,h⟩⟩
  ·rename_i h
   refine ⟨fun j hj=>?_,fun hl=>?_⟩
   ·cases j with
    | zero=>exact ⟨b,by simp,by omega⟩
    | succ j=>simpa using h1 j (by omega)
   ·simpa using h2 (by simpa using hl)
theorem vget_parts {d:List UInt8} {n k:Nat} (h:vget d = (n,k,0)):1 ≤ k ∧ k ≤ 10 ∧ k ≤ d.length ∧ (∀ j,j < k - 1 → ∃ c,d[j]? = some c ∧ 128 ≤ c.toNat) ∧ (∃ c,d[k - 1]? = some c ∧ c.toNat < 128) ∧ n = vnum (d.take k) % 18446744073709551616:=by
 unfold vget at h
 by_cases c1:lead (d.take 10) = 10
 ·rw [if_pos c1] at h; simp at h
 ·rw [if_neg c1] at h
  by_cases c2:lead (d.take 10) = d.length
  ·rw [if_pos c2] at h; simp at h
  ·rw [if_neg c2] at h
   simp only [Prod.mk.injEq,and_true] at h
   obtain ⟨h1,rfl⟩:=h
   have hlt:=lead_lt c1 c2
   have hle:=lead_le (d.take 10)
   rw [List.length_take] at hle
   obtain ⟨s1,s2⟩:=lead_spec (d.take 10)
   refine ⟨by omega,by omega,hlt,fun j hj=>?_,?_,h1.symm⟩
   ·obtain ⟨c,hc,hge⟩:=s1 j (by omega)
    exact ⟨c,by rw [← hc,take_get (by omega)],hge⟩
   ·obtain ⟨c,hc,hl⟩:=s2 (by rw [List.length_take]; omega)
    exact ⟨c,by rw [Nat.add_sub_cancel,← hc,take_get (by omega)],hl⟩
theorem vget_local {d:List UInt8} {n k:Nat} (h:vget d = (n,k,0)) (t:List UInt8):vget (d.take k ++ t) = (n,k,0):=by
 obtain ⟨h1,h2,h3,h4,⟨c,h5,h5'⟩,h6⟩:=vget_parts h
 have hl:(d.take k).length = k:=by rw [List.length_take]; omega
 rw [vget_ok (l:=d.take k ++ t) (k:=k - 1) (b:=c) (by omega) (fun j hj=>by
  obtain ⟨c,hc,hge⟩:=h4 j hj
  exact ⟨c,by rw [List.getElem?_append_left (by omega),take_get (by omega)]; exact hc,hge⟩) (by rw [List.getElem?_append_left (by omega),take_get (by omega)]; exact h5) h5']
 rw [show k - 1 + 1 = k by omega,List.take_left' hl,h6]
theorem wfix_local {d:List UInt8} {S n k:Nat} (h:wfix d S = (n,k,0)) (t:List UInt8):wfix (d.take k ++ t) S = (n,k,0):=by
 unfold wfix at h ⊢
 split at h
 ·simp at h
 ·simp only [Prod.mk.injEq,and_true] at h
  obtain ⟨h1,rfl⟩:=h
  have hl:(d.take S).length = S:=by rw [List.length_take]; omega
  rw [if_neg (by rw [List.length_append]; omega),List.take_left' hl,h1]
theorem wnum_local {wire:Nat} {d:List UInt8} {n k:Nat} (h:wnum wire d = (n,k,0)) (t:List UInt8):wnum wire (d.take k ++ t) = (n,k,0):=by
 unfold wnum at h ⊢
 split
 ·rename_i c
  rw [if_pos c] at h
  exact wfix_local h t
 ·rename_i c
  rw [if_neg c] at h
  split
  ·rename_i c
   rw [if_pos c] at h
   exact wfix_local h t
  ·rename_i c
   rw [if_neg c] at h
   exact vget_local h t
theorem wnext_parts {d:List UInt8} {r:Rc} {p:Nat} (h:wnext d = (r,p,0)) :
  ∃ m k n q,vget d = (m,k,0) ∧ tellsN m = (r.no,r.wire,0) ∧ wnum r.wire (d.drop k) = (n,q,0) ∧ r.num = n ∧ r.upto = p ∧
   ((r.wire = 2 ∧ r.frm = k + q ∧ p = k + q + n ∧ n ≤ d.length - (k + q)) ∨ (r.wire ≠ 2 ∧ r.frm = k ∧ p = k + q)):=by
 unfold wnext at h
 split at h
 ·rename_i h0
  obtain ⟨m,k,hv⟩:∃ m k,vget d = (m,k,0):=⟨_,_,by rw [← h0]⟩
  rw [hv] at h
  unfold wtell at h
  simp only at h
  split at h
  ·rename_i h1
   obtain ⟨no,wire,ht⟩:∃ no wire,tellsN m = (no,wire,0):=⟨_,_,by rw [← h1]⟩
   rw [ht] at h
   simp only at h
   unfold wrest at h
   split at h
   ·rename_i h2
    obtain ⟨n,q,hn⟩:∃ n q,wnum wire (d.drop k) = (n,q,0):=⟨_,_,by rw [← h2]⟩
    rw [hn] at h
    unfold wrun at h
    simp only at h
    split at h
    ·rename_i h3
     split at h
     ·rename_i h4
      simp only [Prod.mk.injEq,and_true] at h
      obtain ⟨rfl,rfl⟩:=h
      exact ⟨m,k,n,q,hv,ht,hn,rfl,rfl,Or.inl ⟨h3,rfl,rfl,h4⟩⟩
     ·simp at h
    ·rename_i h3
     simp only [Prod.mk.injEq,and_true] at h
     obtain ⟨rfl,rfl⟩:=h
     exact ⟨m,k,n,q,hv,ht,hn,rfl,rfl,Or.inr ⟨h3,rfl,rfl⟩⟩
   ·simp only [Prod.mk.injEq] at h; omega
  ·simp only [Prod.mk.injEq] at h; omega
 ·simp only [Prod.mk.injEq] at h; omega
theorem wnext_of {d:List UInt8} {m k n q no wire:Nat} (hv:vget d = (m,k,0)) (ht:tellsN m = (no,wire,0)) (hn:wnum wire (d.drop k) = (n,q,0)):wnext d = wrun no wire k n q d.length:=by
 unfold wnext
 rw [hv]
 simp only [if_true]
 unfold wtell
 rw [ht]
 simp only [if_true]
 unfold wrest
 rw [hn]
 simp
theorem wnext_le {d:List UInt8} {r:Rc} {p:Nat} (h:wnext d = (r,p,0)):2 ≤ p ∧ p ≤ d.length ∧ r.upto = p ∧ 1 ≤ r.frm ∧ r.frm ≤ p:=by
 obtain ⟨m,k,n,q,h1,h2,h3,h4,h5,h6⟩:=wnext_parts h
 obtain ⟨b1,_,b2,_⟩:=vget_parts h1
 have b3:=wnum_le (wire:=r.wire) (d:=d.drop k)
 rw [h3,List.length_drop] at b3
 have b4:1 ≤ q:=by
  unfold wnum at h3
  split at h3
  ·unfold wfix at h3
   split at h3
   ·simp at h3
   ·simp only [Prod.mk.injEq] at h3; omega
  ·split at h3
   ·unfold wfix at h3
    split at h3
    ·simp at h3
    ·simp only [Prod.mk.injEq] at h3; omega
   ·exact (vget_parts h3).1
 simp only at b3
 rcases h6 with ⟨_,h7,h8,h9⟩ | ⟨_,h7,h8⟩ <;> omega
theorem wnext_local {d:List UInt8} {r:Rc} {p:Nat} (h:wnext d = (r,p,0)) (t:List UInt8):wnext (d.take p ++ t) = (r,p,0):=by
 have hp:=wnext_le h
 obtain ⟨m,k,n,q,h1,h2,h3,h4,h5,h6⟩:=wnext_parts h
 obtain ⟨b1,_,b2,_⟩:=vget_parts h1
 have b3:=wnum_le (wire:=r.wire) (d:=d.drop k)
 rw [h3,List.length_drop] at b3
 simp only at b3
 have hkp:k + q ≤ p:=by rcases h6 with ⟨_,h7,h8,h9⟩ | ⟨_,h7,h8⟩ <;> omega
 have e1:d.take p ++ t = d.take k ++ ((d.drop k).take (p - k) ++ t):=by
  rw [← List.append_assoc,show p = k + (p - k) by omega,List.take_add,show k + (p - k) - k = p - k by omega]
 have e2:(d.take p ++ t).drop k = (d.drop k).take q ++ (((d.drop k).drop q).take (p - k - q) ++ t):=by
  rw [e1,List.drop_left' (by rw [List.length_take]; omega),← List.append_assoc,show p - k = q + (p - k - q) by omega,List.take_add,show q + (p - k - q) - q = p - k - q by omega]
 have v1:vget (d.take p ++ t) = (m,k,0):=by rw [e1]; exact vget_local h1 _
 have v3:wnum r.wire ((d.take p ++ t).drop k) = (n,q,0):=by rw [e2]; exact wnum_local h3 _
 rw [wnext_of v1 h2 v3]
 have hlen:p ≤ (d.take p ++ t).length:=by rw [List.length_append,List.length_take]; omega
 unfold wrun
 obtain ⟨no,wire,num,frm,upto⟩:=r
 simp only at h4 h5 h6 ⊢
 rcases h6 with ⟨h7,h8,h9,_⟩ | ⟨h7,h8,h9⟩
 ·rw [if_pos h7,if_pos (by omega)]
  simp only [Prod.mk.injEq,Rc.mk.injEq,true_and,and_true]
  omega
 ·rw [if_neg h7]
  simp only [Prod.mk.injEq,Rc.mk.injEq,true_and,and_true]
  omega
end Go.Proofs.YtckcojkpghiclaaGreatDoor
namespace Go.Proofs.YtckcojkpghiclaaGreatDoor.T11
set_option maxRecDepth 100000
open Go.RowKit
def numsW (wire:Nat) (k:Int):Nat → List UInt8 → List Int × Nat
 | 0,_=>([],0)
 | n + 1,d=>if d = [] then ([],0) else if (wnum wire d).2.2 = 0 then (if (numsW wire k n (d.drop (wnum wire d).2.1)).2 = 0 then (ofI k (wnum wire d).1 :: (numsW wire k n (d.drop (wnum wire d).2.1)).1,0) else ([],(numsW wire k n (d.drop (wnum wire d).2.1)).2)) else ([],(wnum wire d).2.2)
def numsL (wire:Nat) (k:Int) (d:List UInt8):List Int × Nat:=numsW wire k d.length d
theorem wnum_pos {wire:Nat} {d:List UInt8} {n k:Nat} (h:wnum wire d = (n,k,0)):1 ≤ k ∧ k ≤ d.length:=by
 refine ⟨?_,by have:=wnum_le (wire:=wire) (d:=d); rw [h] at this; exact this⟩
 have hf:∀ S,1 ≤ S → wfix d S = (n,k,0) → 1 ≤ k:=by
  intro S hS h
  unfold wfix at h
  split at h
  ·simp at h
  ·simp only [Prod.mk.injEq,and_true] at h
   omega
 unfold wnum at h
 split at h
 ·exact hf 8 (by omega) h
 ·split at h
  ·exact hf 4 (by omega) h
  ·exact (vget_parts h).1
theorem triple {α β γ:Type} (x:α × β × γ) {c:γ} (h:x.2.2 = c):x = (x.1,x.2.1,c):=by rw [← h]
theorem nums_fuel {wire:Nat} {k:Int}:∀ (n m:Nat) (d:List UInt8),d.length ≤ n → d.length ≤ m → numsW wire k n d = numsW wire k m d
 | 0,0,_,_,_=>rfl
 | 0,m + 1,d,h,_=>by
  obtain rfl:d = []:=List.eq_nil_of_length_eq_zero (by omega)
  simp [numsW]
 | n + 1,0,d,_,h=>by
  obtain rfl:d = []:=List.eq_nil_of_length_eq_zero (by omega)
  simp [numsW]
 | n + 1,m + 1,d,h1,h2=>by
  unfold numsW
  by_cases hd:d = []
  ·rw [if_pos hd,if_pos hd]
  ·rw [if_neg hd,if_neg hd]
   by_cases h0:(wnum wire d).2.2 = 0
   ·obtain ⟨p1,p2⟩:=wnum_pos (triple _ h0)
    rw [if_pos h0,if_pos h0,nums_fuel n m (d.drop (wnum wire d).2.1) (by rw [List.length_drop]; omega) (by rw [List.length_drop]; omega)]
   ·rw [if_neg h0,if_neg h0]
theorem nums_nil (wire:Nat) (k:Int):numsL wire k [] = ([],0):=rfl
theorem nums_ok {wire:Nat} {k:Int} {d:List UInt8} {n p:Nat} (h:wnum wire d = (n,p,0)):numsL wire k d = (if (numsL wire k (d.drop p)).2 = 0 then (ofI k n :: (numsL wire k (d.drop p)).1,0) else ([],(numsL wire k (d.drop p)).2)):=by
 obtain ⟨p1,p2⟩:=wnum_pos h
 have hd:d ≠ []:=by rintro rfl; simp at p2; omega
 obtain ⟨m,hm⟩:∃ m,d.length = m + 1:=⟨d.length - 1,by omega⟩
 unfold numsL
 rw [hm]
 conv=>lhs; unfold numsW
 rw [if_neg hd,h]
 simp only [if_true]
 rw [nums_fuel m (d.drop p).length (d.drop p) (by rw [List.length_drop]; omega) (Nat.le_refl _)]
theorem nums_err {wire:Nat} {k:Int} {d:List UInt8} (hd:d ≠ []) (h:(wnum wire d).2.2 ≠ 0):numsL wire k d = ([],(wnum wire d).2.2):=by
 obtain ⟨m,hm⟩:∃ m,d.length = m + 1:=⟨d.length - 1,by have:=List.length_pos_iff.2 hd; omega⟩
 unfold numsL
 rw [hm]
 conv=>lhs; unfold numsW
 rw [if_neg hd,if_neg h]
theorem nums_empty {wire:Nat} {k:Int}:∀ {d:List UInt8},(numsL wire k d).2 ≠ 0 → (numsL wire k d).1 = []:=by
 intro d h
 by_cases hd:d = []
 ·subst hd; rfl
 ·by_cases h0:(wnum wire d).2.2 = 0
  ·have e:=nums_ok (k:=k) (triple _ h0)
   rw [e] at h ⊢
   split
   ·rename_i h2; rw [if_pos h2] at h; exact absurd rfl h
   ·rfl
  ·rw [nums_err hd h0]
theorem nums_append {wire:Nat} {k:Int} (b:List UInt8):∀ (n:Nat) (a:List UInt8),a.length ≤ n → (numsL wire k a).2 = 0 →
  numsL wire k (a ++ b) = (if (numsL wire k b).2 = 0 then ((numsL wire k a).1 ++ (numsL wire k b).1,0) else ([],(numsL wire k b).2)):=by
 intro n
 induction n with
 | zero =>
  intro a ha h
  obtain rfl:a = []:=List.eq_nil_of_length_eq_zero (by omega)
  rw [nums_nil,List.nil_append]
  split
  ·rename_i h0
   rw [List.nil_append]
   exact Prod.ext rfl h0
  ·rename_i h0
   exact Prod.ext (nums_empty h0) rfl
 | succ n ih =>
  intro a ha h
  by_cases hd:a = []
  ·subst hd
   exact ih [] (by simp) h
  ·by_cases h0:(wnum wire a).2.2 = 0
   ·have h1:=triple _ h0
    obtain ⟨p1,p2⟩:=wnum_pos h1
    have e1:=nums_ok (k:=k) h1
    have h2:wnum wire (a ++ b) = ((wnum wire a).1,(wnum wire a).2.1,0):=by
     have:=wnum_local h1 (a.drop (wnum wire a).2.1 ++ b)
     rwa [← List.append_assoc,List.take_append_drop] at this
    have e2:=nums_ok (k:=k) h2
    rw [List.drop_append_of_le_length p2] at e2
    have hr:(numsL wire k (a.drop (wnum wire a).2.1)).2 = 0:=by
     rw [e1] at h
     split at h
     ·assumption
     ·assumption
    rw [ih (a.drop (wnum wire a).2.1) (by rw [List.length_drop]; omega) hr] at e2
    rw [e2,e1,if_pos hr]
    by_cases hb:(numsL wire k b).2 = 0
    ·simp [hb]
    ·simp [hb]
   ·rw [nums_err hd h0] at h
    exact absurd h h0
theorem wnum_bad {wire:Nat} {d:List UInt8} (b:List UInt8) (h:(wnum wire d).2.2 ≠ 0):(wnum wire d).2.2 = 6 ∨ ((wnum wire d).2.2 = 7 ∧ (wnum wire (d ++ b)).2.2 = 7):=by
 have hf:∀ S,(wfix d S).2.2 ≠ 0 → (wfix d S).2.2 = 6:=by
  intro S h
  unfold wfix at h ⊢
  split
  ·rfl
  ·rename_i c; rw [if_neg c] at h; exact absurd rfl h
 unfold wnum at h ⊢
 split
 ·rename_i c; rw [if_pos c] at h; exact .inl (hf 8 h)
 ·rename_i c
  rw [if_neg c] at h
  split
  ·rename_i c2; rw [if_pos c2] at h; exact .inl (hf 4 h)
  ·rename_i c2
   rw [if_neg c2] at h
   unfold vget at h ⊢
   by_cases c3:lead (d.take 10) = 10
   ·right
    have hl:=lead_le (d.take 10)
    rw [List.length_take] at hl
    have e:(d ++ b).take 10 = d.take 10:=by rw [List.take_append_of_le_length (by omega)]
    rw [e,if_pos c3,if_pos c3]
    exact ⟨rfl,rfl⟩
   ·rw [if_neg c3] at h ⊢
    by_cases c4:lead (d.take 10) = d.length
    ·rw [if_pos c4]; exact .inl rfl
    ·rw [if_neg c4] at h; exact absurd rfl h
theorem nums_bad {wire:Nat} {k:Int} (b:List UInt8):∀ (n:Nat) (a:List UInt8),a.length ≤ n → (numsL wire k a).2 ≠ 0 → (numsL wire k a).2 = 6 ∨ ((numsL wire k (a ++ b)).2 = (numsL wire k a).2):=by
 intro n
 induction n with
 | zero =>
  intro a ha h
  obtain rfl:a = []:=List.eq_nil_of_length_eq_zero (by omega)
  exact absurd rfl h
 | succ n ih =>
  intro a ha h
  by_cases hd:a = []
  ·subst hd; exact absurd rfl h
  ·by_cases h0:(wnum wire a).2.2 = 0
   ·have h1:=triple _ h0
    obtain ⟨p1,p2⟩:=wnum_pos h1
    have e1:=nums_ok (k:=k) h1
    have h2:wnum wire (a ++ b) = ((wnum wire a).1,(wnum wire a).2.1,0):=by
     have:=wnum_local h1 (a.drop (wnum wire a).2.1 ++ b)
     rwa [← List.append_assoc,List.take_append_drop] at this
    have e2:=nums_ok (k:=k) h2
    rw [List.drop_append_of_le_length p2] at e2
    have hr:(numsL wire k (a.drop (wnum wire a).2.1)).2 ≠ 0:=by
     intro h3
     rw [e1,if_pos h3] at h
     exact absurd rfl h
    rw [e1,if_neg hr]
    rcases ih (a.drop (wnum wire a).2.1) (by rw [List.length_drop]; omega) hr with h3 | h3
    ·exact .inl h3
    ·right
     rw [e2,if_neg (by rw [h3]; exact hr)]
     exact h3
   ·rw [nums_err hd h0]
    rcases wnum_bad b h0 with h3 | ⟨h3,h4⟩
    ·exact .inl h3
    ·right
     have hd2:a ++ b ≠ []:=by simp [hd]
     rw [nums_err hd2 (by rw [h4]; omega)]
     simp only
     rw [h3,h4]
theorem nums_len {wire:Nat} {k:Int}:∀ (n:Nat) (a:List UInt8),a.length ≤ n → (numsL wire k a).1.length ≤ a.length:=by
 intro n
 induction n with
 | zero =>
  intro a ha
  obtain rfl:a = []:=List.eq_nil_of_length_eq_zero (by omega)
  simp [nums_nil]
 | succ n ih =>
  intro a ha
  by_cases hd:a = []
  ·subst hd; simp [nums_nil]
  ·by_cases h0:(wnum wire a).2.2 = 0
   ·have h1:=triple _ h0
    obtain ⟨p1,p2⟩:=wnum_pos h1
    rw [nums_ok (k:=k) h1]
    split
    ·have:=ih (a.drop (wnum wire a).2.1) (by rw [List.length_drop]; omega)
     rw [List.length_drop] at this
     simp only [List.length_cons]
     omega
    ·simp
   ·rw [nums_err hd h0]; simp
theorem own_less2 {w:World} {b b':Nat} {e:TypeId} {size:Nat} {v:Value} {n:Nat} {xs:List Value} (h:w.ownsRow b e size v n xs) (hb:b' ≤ b):w.ownsRow b' e size v n xs:=by
 rcases h with ⟨hl,⟨rfl,rfl⟩ | ⟨g,cap,cur,rfl,h1,h2,h3⟩⟩
 ·exact ⟨hl,.inl ⟨rfl,rfl⟩⟩
 ·exact ⟨hl,.inr ⟨g,cap,cur,rfl,by omega,h2,h3⟩⟩
def errP (e:Int):Value:=.iface 32 (.int .i64 e)
theorem assert_err (e:Int) (w:World):(Instr.typeAssert (errP e) 20 32 true).run Tryz.prog w = .ok (.tuple #[.int .i64 e,.bool true]) w:=by
 unfold errP
 kernel_rfl
theorem isCounting_any (k:Int) (w:World):Calls Tryz.prog 78 #[.int .i64 k] w fun e w'=>e = .returned (.bool (cnt k)) ∧ Below w.heap.size w w':=by
 have HO:=Lib.hid (fun wx=>of_any k 0 (by omega) (by omega) wx)
 obtain ⟨b,hb⟩:∃ b,cnt k = b:=⟨_,rfl⟩
 rw [hb] at HO ⊢
 clear hb
 go_enter Tryz.func78,Tryz.ntmps78
 go_wp2_with fail
 refine (HO.out _).mono ?_
 rintro e w1 ⟨rfl,hb1⟩
 go_wp2
 go_ret
 exact ⟨rfl,hb1⟩
theorem must_yes (e:Int) (w:World):Calls Tryz.prog 62 #[.bool true,.int .i64 e] w fun r w'=>r = .returned (.tuple #[]) ∧ w' = w:=by
 go_enter Tryz.func62,Tryz.ntmps62
 go_wp2
 go_end0
 exact ⟨rfl,rfl⟩
theorem must_no (e:Int) (w:World):Calls Tryz.prog 62 #[.bool false,.int .i64 e] w fun r w'=>r = .panicked [{ v:=errP e,recovered:=false }] ∧ w' = w:=by
 go_enter Tryz.func62,Tryz.ntmps62
 go_wp2
 exact ⟨rfl,rfl,rfl⟩
theorem fine_yes (w:World):Calls Tryz.prog 81 #[.int .i64 0] w fun r w'=>r = .returned (.tuple #[]) ∧ w' = w:=by
 go_enter Tryz.func81,Tryz.ntmps81
 go_wp2_with fail
 refine (must_yes 0 w).mono ?_
 rintro e w1 ⟨rfl,rfl⟩
 go_wp2
 go_end0
 exact ⟨rfl,rfl⟩
theorem fine_no (e:Nat) (he:e ≠ 0) (w:World):Calls Tryz.prog 81 #[.int .i64 e] w fun r w'=>r = .panicked [{ v:=errP e,recovered:=false }] ∧ w' = w:=by
 have h1:((e:Int) == 0) = false:=by rw [beq_eq_false_iff_ne]; omega
 have h2:(e == 0) = false:=by rw [beq_eq_false_iff_ne]; exact he
 have HM:=Lib.hid (must_no e w)
 go_enter Tryz.func81,Tryz.ntmps81
 go_wp2_with fail
 refine HM.out.mono ?_
 rintro r w1 ⟨rfl,rfl⟩
 go_wp2
 exact ⟨rfl,rfl,rfl⟩
set_option maxRecDepth 1000000 in
theorem dnumber_any (A:Option Addr) (c:Nat) (l:List UInt8) (a u:Int) (wire:Nat) (hl:l.length ≤ 1000000000) (w:World) (h1:SlB w A c l) :
  Calls Tryz.prog 79 #[.int .i64 wire,.slice A l.length c,.int .i64 a,.int .i64 u] w fun e w'=>e = .returned (V3 (numR l a u wire)) ∧ w = w':=by
 by_cases h8:wire = 1
 ·have hn:numR l a u wire = unfixR l a u 8:=by unfold numR; rw [if_pos h8]
  obtain ⟨x,y,z,hx⟩:∃ x y z,unfixR l a u 8 = (x,y,z):=⟨_,_,_,rfl⟩
  rw [hn,hx]
  subst h8
  go_enter Tryz.func79,Tryz.ntmps79
  go_wp2_with fail
  refine (unfix_any A c l a u 8 hl w h1).mono ?_
  rintro e w1 ⟨rfl,rfl⟩
  rw [hx]
  unfold V3
  go_wp2
  go_ret3
  exact ⟨rfl,rfl⟩
 ·have b8:((wire:Int) == 1) = false:=by simp; omega
  by_cases h4:wire = 5
  ·have hn:numR l a u wire = unfixR l a u 4:=by unfold numR; rw [if_neg h8,if_pos h4]
   obtain ⟨x,y,z,hx⟩:∃ x y z,unfixR l a u 4 = (x,y,z):=⟨_,_,_,rfl⟩
   rw [hn,hx]
   subst h4
   go_enter Tryz.func79,Tryz.ntmps79
   go_wp2_with fail
   refine (unfix_any A c l a u 4 hl w h1).mono ?_
   rintro e w1 ⟨rfl,rfl⟩
   rw [hx]
   unfold V3
   go_wp2
   go_ret3
   exact ⟨rfl,rfl⟩
  ·have b4:((wire:Int) == 5) = false:=by simp; omega
   have hn:numR l a u wire = getR l a u:=by unfold numR; rw [if_neg h8,if_neg h4]
   obtain ⟨x,y,z,hx⟩:∃ x y z,getR l a u = (x,y,z):=⟨_,_,_,rfl⟩
   rw [hn,hx]
   clear h8 h4
   go_enter Tryz.func79,Tryz.ntmps79
   go_wp2_with fail
   refine (get_any A c l a u hl w h1).mono ?_
   rintro e w1 ⟨rfl,rfl⟩
   rw [hx]
   unfold V3
   go_wp2
   go_ret3
   exact ⟨rfl,rfl⟩
theorem own_dec {w w':World} {base:Nat} {e:TypeId} {size:Nat} {v:Value} {n:Nat} {xs:List Value} (h:w.ownsRow base e size v n xs) (hb:Below w.heap.size w w'):w'.ownsRow base e size v n xs :=
 h.kept (row:=none) ⟨hb.os,hb.tape,hb.output,hb.size,fun k hk _=>hb.block k hk⟩ (by cases hv:v.ownBlock <;> simp)
def ints (l:List Int):List Value:=l.map (Value.int .i64)
def wireN (k:Int):Nat:=(wireI k).toNat
theorem wire_nat {k:Int} (h:cnt k = true):((wireN k:Nat):Int) = wireI k:=by
 have hk:0 ≤ k ∧ k < 7:=by simpa [cnt] using h
 unfold wireN
 rcases seven hk with rfl | rfl | rfl | rfl | rfl | rfl | rfl <;> decide
theorem wfix_lt {d:List UInt8} {S n k:Nat} (h:wfix d S = (n,k,0)):n < 256 ^ S:=by
 unfold wfix at h
 split at h
 ·simp at h
 ·simp only [Prod.mk.injEq,and_true] at h
  have hl:=fixn_lt (d.take S)
  rw [List.length_take,Nat.min_eq_left (by omega),h.1] at hl
  exact hl
theorem wnum_lt {wire:Nat} {d:List UInt8} {n k:Nat} (h:wnum wire d = (n,k,0)):n < 18446744073709551616:=by
 unfold wnum at h
 split at h
 ·have:=wfix_lt h; omega
 ·split at h
  ·have:=wfix_lt h; omega
  ·have:=vget_lt d; rw [h] at this; exact this
theorem info_int64:(Tryz.prog.info? 2).map (fun i=>(i.zero,i.size,i.bytes)) = some (some (.int .i64 0),1,8):=by kernel_rfl
set_option maxRecDepth 1000000 in
set_option maxHeartbeats 8000000 in
theorem numbers_any (kind:Int) (hk:cnt kind = true) (A:Option Addr) (c:Nat) (l:List UInt8) (a u:Nat) (hau:a ≤ u) (hu:u ≤ l.length) (hl:l.length ≤ 1000000000) (w:World) (h1:SlB w A c l) :
  Calls Tryz.prog 52 #[.int .i64 kind,.slice A l.length c,.int .i64 a,.int .i64 u] w fun e w' =>
   ((numsL (wireN kind) kind ((l.drop a).take (u - a))).2 = 0 ∧ (∃ v,e = .returned v ∧ w'.ownsRow w.heap.size 2 1 v (numsL (wireN kind) kind ((l.drop a).take (u - a))).1.length (ints (numsL (wireN kind) kind ((l.drop a).take (u - a))).1)) ∨
    (numsL (wireN kind) kind ((l.drop a).take (u - a))).2 ≠ 0 ∧ e = .panicked [{ v:=errP ((numsL (wireN kind) kind ((l.drop a).take (u - a))).2:Nat),recovered:=false }]) ∧ Below w.heap.size w w':=by
 obtain ⟨i0,hi,hz0,hz1,hz2⟩:=info_parts info_int64
 obtain ⟨d,hd⟩:∃ d,(l.drop a).take (u - a) = d:=⟨_,rfl⟩
 have hdl:d.length = u - a:=by rw [← hd,List.length_take,List.length_drop]; omega
 obtain ⟨R,hR⟩:∃ R,numsL (wireN kind) kind d = R:=⟨_,rfl⟩
 rw [hd,hR]
 have HIC:=Lib.hid (fun wx=>isCounting_any kind wx)
 rw [hk] at HIC
 have HW:=Lib.hid (fun wx=>wire_any kind wx)
 rw [← wire_nat hk] at HW
 have HD:=Lib.hid hd
 have HR:=Lib.hid hR
 have HS:=Lib.hid h1
 have b1:decide ((0:Int) ≤ (a:Int)) = true:=decide_eq_true (by omega)
 have b2:decide ((a:Int) ≤ (u:Int)) = true:=decide_eq_true (by omega)
 have b3:decide ((u:Int) ≤ (l.length:Int)) = true:=decide_eq_true (by omega)
 have b4:decide (a ≤ u) = true:=decide_eq_true hau
 have b5:decide (u ≤ l.length) = true:=decide_eq_true hu
 clear h1 hd hR
 go_enter Tryz.func52,Tryz.ntmps52
 go_wp2_with fail
 refine (HIC.out _).mono ?_
 rintro e w1 ⟨rfl,hb1⟩
 go_wp2_with fail
 refine (must_yes 1 w1).mono ?_
 rintro e w1' ⟨rfl,rfl⟩
 clear b1 b2 b3 b4 b5
 have LB:=Lib.hid hb1
 clear hb1
 go_wp2
 go_loopw [2,9] (fun i o wr=>∃ (p:Nat) (xs:List Int),i = .int .i64 ((a + p:Nat):Int) ∧ p ≤ d.length ∧ wr.ownsRow w.heap.size 2 1 o xs.length (ints xs) ∧ xs.length ≤ p ∧ (numsL (wireN kind) kind d = if (numsL (wireN kind) kind (d.drop p)).2 = 0 then (xs ++ (numsL (wireN kind) kind (d.drop p)).1,0) else ([],(numsL (wireN kind) kind (d.drop p)).2)) ∧ Below w.heap.size w wr) (fun i _ _=>u - (intOf i).toNat)
 case atStart =>
  refine ⟨0,[],by simp,by omega,World.ownsRow_nil _ _ _ _,by simp,?_,LB.out⟩
  rw [List.drop_zero,List.nil_append]
  split
  ·rename_i h; exact Prod.ext rfl h
  ·rename_i h; exact Prod.ext (nums_empty h) rfl
 case round =>
  obtain ⟨p,xs,rfl,hp,hown,hxl,hnum,hbw⟩:=hrel
  have HNUM:=Lib.hid hnum
  have HBW:=Lib.hid hbw
  by_cases hlt:p < d.length
  ·have hc1:decide (((a + p:Nat):Int) < (u:Int)) = true:=decide_eq_true (by omega)
   have hc2:decide (a + p < u) = true:=decide_eq_true (by omega)
   have hc3:decide ((a:Int) + (p:Int) < (u:Int)) = true:=decide_eq_true (by omega)
   have hwin:(l.drop (a + p)).take (u - (a + p)) = d.drop p:=by rw [win_drop,HD.out]
   have hnw:=num_win l (a + p) u (wireN kind) (by omega) (by omega)
   rw [hwin] at hnw
   have HN:=Lib.hid (fun wx (hx:Below w.heap.size w wx)=>dnumber_any A c l ((a + p:Nat):Int) (u:Int) (wireN kind) hl wx (SlB.on HS.out hx))
   rw [hnw] at HN
   have hne:d.drop p ≠ []:=by
    intro e
    have:=congrArg List.length e
    rw [List.length_drop,List.length_nil] at this
    omega
   obtain ⟨n,hn⟩:∃ n,(wnum (wireN kind) (d.drop p)).1 = n:=⟨_,rfl⟩
   obtain ⟨q,hq⟩:∃ q,(wnum (wireN kind) (d.drop p)).2.1 = q:=⟨_,rfl⟩
   obtain ⟨er,her⟩:∃ er,(wnum (wireN kind) (d.drop p)).2.2 = er:=⟨_,rfl⟩
   rw [hn,hq,her] at HN
   unfold V3 at HN
   by_cases h0:er = 0
   ·subst h0
    have hw3:wnum (wireN kind) (d.drop p) = (n,q,0):=by rw [← hn,← hq,← her]
    obtain ⟨q1,q2⟩:=wnum_pos hw3
    rw [List.length_drop] at q2
    have hn64:=wnum_lt hw3
    have hok:=nums_ok (k:=kind) hw3
    rw [List.drop_drop] at hok
    have HOK:=Lib.hid hok
    have HOF:=Lib.hid (fun wx=>of_any kind (n:Int) (by omega) (by omega) wx)
    rw [hk] at HOF
    simp only [if_true] at HN
    clear hnum hbw hnw hwin hne hw3 hok hn hq her hlt
    go_wp2_with fail
    refine (HW.out _).mono ?_
    rintro e w2 ⟨rfl,hb2⟩
    have B2:=below_then HBW.out hb2
    go_wp2_with fail
    refine (HN.out _ B2).mono ?_
    rintro e w3 ⟨rfl,rfl⟩
    go_wp2_with fail
    refine (fine_yes _).mono ?_
    rintro e w3 ⟨rfl,rfl⟩
    go_wp2_with fail
    refine (HOF.out _).mono ?_
    rintro e w4 ⟨rfl,hb4⟩
    have B4:=below_then B2 hb4
    have hown4:w4.ownsRow w.heap.size 2 1 u9 xs.length (ints xs):=own_dec hown (hb2.trans (hb4.mono hb2.size))
    have hz4:=B4.size
    clear hown
    go_wp2_with (at_builtin; refine wpList_app1 rfl _ _ 53 rfl w.heap.size 2 i0 (.int .i64 0) 8 Tryz.underlying53 hi hz0 hz1 hz2 rfl u9 xs.length (ints xs) rfl (hown4.alloc _) w4.heap.size 1 _ rfl (World.cell?_alloc_at _ _ _ _ rfl) rfl (by unfold maxLen; omega) (by omega) (by simp; omega) ?_; intro v2 w5 hown5 hg5)
    have hr:numsL (wireN kind) kind d = if (numsL (wireN kind) kind (d.drop (p + q))).2 = 0 then ((xs ++ [ofI kind (n:Int)]) ++ (numsL (wireN kind) kind (d.drop (p + q))).1,0) else ([],(numsL (wireN kind) kind (d.drop (p + q))).2):=by
     rw [HNUM.out,HOK.out]
     by_cases h:(numsL (wireN kind) kind (d.drop (p + q))).2 = 0
     ·simp [h]
     ·simp [h]
    have he:ints xs ++ [Value.int .i64 (ofI kind (n:Int))] = ints (xs ++ [ofI kind (n:Int)]):=by simp [ints]
    have hle:xs.length + 1 = (xs ++ [ofI kind (n:Int)]).length:=by simp
    refine ⟨⟨p + q,xs ++ [ofI kind (n:Int)],by congr 1; omega,by omega,?_,by simp; omega,hr,(B4.alloc hz4 _).grown hg5 (by simp; omega) (own_ge hown4)⟩,by simp only [intOf]; omega⟩
    rw [← he,← hle]
    exact hown5
   ·rw [if_neg h0] at HN
    have hbad:=nums_err (k:=kind) hne (by rw [her]; exact h0)
    rw [her] at hbad
    rw [hbad,if_neg h0] at hnum
    have HNB:=Lib.hid hnum
    have HF:=Lib.hid (fun wx=>fine_no er h0 wx)
    clear hnum hbw hnw hwin hne hn hq her hlt hbad HNUM
    go_wp2_with fail
    refine (HW.out _).mono ?_
    rintro e w2 ⟨rfl,hb2⟩
    have B2:=below_then HBW.out hb2
    go_wp2_with fail
    refine (HN.out _ B2).mono ?_
    rintro e w3 ⟨rfl,rfl⟩
    go_wp2_with fail
    refine (HF.out _).mono ?_
    rintro e w3 ⟨rfl,rfl⟩
    go_wp2
    have e1:=HR.out.symm.trans HNB.out
    refine ⟨rfl,.inr ⟨?_,?_⟩,B2⟩
    ·rw [e1]; exact h0
    ·rw [e1]
  ·have hp2:p = d.length:=by omega
   have hc1:decide (((a + p:Nat):Int) < (u:Int)) = false:=decide_eq_false (by omega)
   have hc2:decide (a + p < u) = false:=decide_eq_false (by omega)
   have hc3:decide ((a:Int) + (p:Int) < (u:Int)) = false:=decide_eq_false (by omega)
   have hc4:¬ (a:Int) + (p:Int) < (u:Int):=by omega
   have he:numsL (wireN kind) kind d = (xs,0):=by
    rw [hnum,List.drop_eq_nil_of_le (by omega),nums_nil,if_pos rfl,List.append_nil]
   have HE:=Lib.hid (HR.out.symm.trans he)
   clear hnum hbw he HNUM hp2 hlt
   go_wp2
   go_ret
   have e1:=HE.out
   subst e1
   exact ⟨.inl ⟨rfl,_,rfl,hown⟩,HBW.out⟩
def numsK (k:Int) (d:List UInt8):List Int × Nat:=if cnt k then numsL (wireN k) k d else ([],1)
set_option maxRecDepth 1000000 in
theorem numbers_bad (kind:Int) (hk:cnt kind = false) (A:Option Addr) (n c a u:Nat) (w:World) :
  Calls Tryz.prog 52 #[.int .i64 kind,.slice A n c,.int .i64 a,.int .i64 u] w fun e w'=>e = .panicked [{ v:=errP (1:Nat),recovered:=false }] ∧ Below w.heap.size w w':=by
 have HIC:=Lib.hid (fun wx=>isCounting_any kind wx)
 rw [hk] at HIC
 have HM:=Lib.hid (fun wx=>must_no (1:Nat) wx)
 go_enter Tryz.func52,Tryz.ntmps52
 go_wp2_with fail
 refine (HIC.out _).mono ?_
 rintro e w1 ⟨rfl,hb1⟩
 go_wp2_with fail
 refine (HM.out w1).mono ?_
 rintro e w2 ⟨rfl,rfl⟩
 go_wp2
 exact ⟨rfl,rfl,hb1⟩
theorem numbers_all (kind:Int) (A:Option Addr) (c:Nat) (l:List UInt8) (a u:Nat) (hau:a ≤ u) (hu:u ≤ l.length) (hl:l.length ≤ 1000000000) (w:World) (h1:SlB w A c l) :
  Calls Tryz.prog 52 #[.int .i64 kind,.slice A l.length c,.int .i64 a,.int .i64 u] w fun e w' =>
   ((numsK kind ((l.drop a).take (u - a))).2 = 0 ∧ (∃ v,e = .returned v ∧ w'.ownsRow w.heap.size 2 1 v (numsK kind ((l.drop a).take (u - a))).1.length (ints (numsK kind ((l.drop a).take (u - a))).1)) ∨
    (numsK kind ((l.drop a).take (u - a))).2 ≠ 0 ∧ e = .panicked [{ v:=errP ((numsK kind ((l.drop a).take (u - a))).2:Nat),recovered:=false }]) ∧ Below w.heap.size w w':=by
 unfold numsK
 by_cases hk:cnt kind = true
 ·simp only [if_pos hk]
  exact numbers_any kind hk A c l a u hau hu hl w h1
 ·have hk2:cnt kind = false:=by simpa using hk
  simp only [if_neg hk]
  refine (numbers_bad kind hk2 A l.length c a u w).mono ?_
  rintro e w' ⟨rfl,hb⟩
  exact ⟨.inr ⟨by simp,rfl⟩,hb⟩
theorem push_old (w:World) (o:Obj) (k:Nat) (x:Obj) (h:w.heap[k]? = some x):(w.alloc o).heap[k]? = some x :=
 ((below_new w o).block k (Array.getElem?_eq_some_iff.1 h).1).trans h
theorem four_new {w wf:World} {o0 o1 o2 o3:Obj} (h:(((w.alloc o0).alloc o1).alloc o2).alloc o3 = wf) :
  wf.heap[w.heap.size]? = some o0 ∧ wf.heap[w.heap.size + 1]? = some o1 ∧ wf.heap[w.heap.size + 1 + 1]? = some o2 ∧ wf.heap[w.heap.size + 1 + 1 + 1]? = some o3 ∧ Below w.heap.size w wf ∧ wf.heap.size = w.heap.size + 1 + 1 + 1 + 1:=by
 subst h
 have hs:∀ (x:World) (o:Obj),(x.alloc o).heap.size = x.heap.size + 1:=fun x o=>by simp
 refine ⟨push_old _ _ _ _ (push_old _ _ _ _ (push_old _ _ _ _ (heap_alloc_new w o0))),?_,?_,?_,?_,?_⟩
 ·have:=heap_alloc_new (w.alloc o0) o1
  rw [hs] at this
  exact push_old _ _ _ _ (push_old _ _ _ _ this)
 ·have:=heap_alloc_new ((w.alloc o0).alloc o1) o2
  rw [hs,hs] at this
  exact push_old _ _ _ _ this
 ·have:=heap_alloc_new (((w.alloc o0).alloc o1).alloc o2) o3
  rw [hs,hs,hs] at this
  exact this
 ·exact (((below_new w _).alloc (by rw [hs]; omega) _).alloc (by rw [hs,hs]; omega) _).alloc (by rw [hs,hs,hs]; omega) _
 ·rw [hs,hs,hs,hs]
end Go.Proofs.YtckcojkpghiclaaGreatDoor.T11
