/-
 The contracts of the small tests: places that may be,sizes that there are.
-/
import Derived.Test.YtckcojkpghiclaaGreatDoorConvRules
import Derived.Deep.QuietTactic
import Derived.BigQuiet
import Derived.Test.YtckcojkpghiclaaGreatDoorVarPut
import Derived.Test.YtckcojkpghiclaaGreatDoorTrSet
import Derived.Lib.LaidTab
import Derived.Deep.WholeRow
namespace Go.Proofs.YtckcojkpghiclaaGreatDoor
set_option maxRecDepth 100000
open Go.RowKit
def mayB (at' upto:Int) (n:Nat):Bool:=decide (0 ≤ at' ∧ at' ≤ upto ∧ upto ≤ n)
theorem mayB_true {a u:Int} {n:Nat}:mayB a u n = true ↔ 0 ≤ a ∧ a ≤ u ∧ u ≤ n:=by simp [mayB]
def sizeB (s:Int):Bool:=decide (s = 4 ∨ s = 8)
theorem mayBe_any (A:Option Addr) (n c:Nat) (a u:Int) (w:World) (hn:n ≤ 9223372036854775807) :
  Calls Tryz.prog 154 #[.slice A n c,.int .i64 a,.int .i64 u] w fun e w'=>e = .returned (.bool (mayB a u n)) ∧ w = w':=by
 by_cases h0:0 ≤ a
 ·by_cases h1:a ≤ u
  ·by_cases h2:u ≤ n
   all_goals
    have HF:Hid (mayB a u n = decide (u ≤ n)):=Lib.hid (by simp [mayB,h0,h1])
    go_enter Tryz.func154,Tryz.ntmps154
    go_wp2
    go_ret
    exact ⟨by rw [HF.out]; simp [h0,h1,h2],rfl⟩
  ·have HF:Hid (mayB a u n = false):=Lib.hid (by simp [mayB,h0,h1])
   go_enter Tryz.func154,Tryz.ntmps154
   go_wp2
   go_ret
   exact ⟨by rw [HF.out]; simp [h0,h1],rfl⟩
 ·have HF:Hid (mayB a u n = false):=Lib.hid (by simp [mayB,h0])
  go_enter Tryz.func154,Tryz.ntmps154
  go_wp2
  go_ret
  exact ⟨by rw [HF.out]; simp [h0],rfl⟩
theorem ofNat_pow2 (b j:Nat):(b:Int) * 2 ^ j = ((b * 2 ^ j:Nat):Int):=by push_cast; rfl
theorem or_wrap (x j b:Nat) (hx:x < 2 ^ j) (hj:j ≤ 64) (hx64:x < 18446744073709551616) :
  bits .or .u64 (x:Int) (IntKind.u64.wrap ((b:Int) * 2 ^ j)) = (((x + b * 2 ^ j) % 18446744073709551616:Nat):Int):=by
 have e:IntKind.u64.wrap ((b:Int) * 2 ^ j) = (((b * 2 ^ j) % 18446744073709551616:Nat):Int):=by
  rw [IntKind.wrap_u64,ofNat_pow2]; exact (Int.natCast_emod _ _).symm
 rw [e,u64_or_nat _ _ hx64 (Nat.mod_lt _ (by decide))]
 congr 1
 exact or_shift x j b hx hj
def GetRel (l:List UInt8) (a u:Nat) (n i:Value):Prop :=
 ∃ k:Nat,i = .int .i64 k ∧ k ≤ u - a ∧ k ≤ 10 ∧ n = .int .u64 ((vnum (((l.drop a).take (u - a)).take k) % 18446744073709551616:Nat):Int) ∧
  (∀ j,j < k → ∃ c,((l.drop a).take (u - a))[j]? = some c ∧ 128 ≤ c.toNat)
set_option maxRecDepth 1000000 in
theorem get_yes (A:Option Addr) (c:Nat) (l:List UInt8) (a u:Nat) (hau:a ≤ u) (hu:u ≤ l.length) (hl:l.length ≤ 1000000000) (w:World) (h1:SlB w A c l) :
  Calls Tryz.prog 113 #[.slice A l.length c,.int .i64 a,.int .i64 u] w fun e w' =>
   e = .returned (.tuple #[.int .u64 (getS l a u).1,.int .i64 (getS l a u).2.1,.int .i64 (getS l a u).2.2]) ∧ w = w':=by
 have hmay:mayB a u l.length = true:=by rw [mayB_true]; omega
 have hmin:((u:Int) - (a:Int)) = ((u - a:Nat):Int):=by omega
 by_cases h10:10 < u - a
 all_goals
  go_enter Tryz.func113,Tryz.ntmps113
  go_wp2_with (go_at_call 154; refine (mayBe_any _ _ _ _ _ _ (by omega)).mono ?_; rintro e w' ⟨rfl,rfl⟩)
  have HM:=Lib.hid hmin
  clear hmin
  go_loop [9,21] (fun n i=>GetRel l a u n i) (fun _ i=>10 - (intOf i).toNat)
  case atStart=>exact ⟨0,rfl,by omega,by omega,rfl,by omega⟩
  case round =>
   obtain ⟨k,rfl,hk,hk10,rfl,hall⟩:=hrel
   have HA:=Lib.hid hall
   clear hall
   by_cases hlt:k < min (u - a) 10
   ·have hlt1:k < u - a:=by omega
    have hlt2:k < 10:=by omega
    obtain ⟨ad,b,rfl,_,hb,hc⟩:=h1.at_ (k:=a + k) (by omega)
    have hb':((l.drop a).take (u - a))[k]? = some b:=by rw [List.getElem?_take,if_pos hlt1,List.getElem?_drop]; exact hb
    have hsn:((l.drop a).take (u - a)).take (k + 1) = ((l.drop a).take (u - a)).take k ++ [b]:=by rw [List.take_add_one,hb']; rfl
    have hvl:=vnum_lt (((l.drop a).take (u - a)).take k)
    have hlen:(((l.drop a).take (u - a)).take k).length = k:=by simp; omega
    have hvn:=vnum_snoc (((l.drop a).take (u - a)).take k) b
    rw [← hsn,hlen] at hvn
    rw [hlen] at hvl
    have hk9:(128:Nat) ^ k ≤ 128 ^ 9:=Nat.pow_le_pow_right (by omega) (by omega)
    rw [Nat.mod_eq_of_lt (show vnum (((l.drop a).take (u - a)).take k) < 18446744073709551616 by omega)]
    have hor:=or_wrap (vnum (((l.drop a).take (u - a)).take k)) (7 * k) (b.toNat % 128) (by rw [Nat.pow_mul]; exact hvl) (by omega) (by omega)
    rw [show vnum (((l.drop a).take (u - a)).take k) + b.toNat % 128 * 2 ^ (7 * k) = vnum (((l.drop a).take (u - a)).take (k + 1)) by rw [hvn,Nat.pow_mul,Nat.mul_comm]] at hor
    rw [show ((b.toNat % 128:Nat):Int) = (b.toNat:Int) % 128 by omega] at hor
    have HO:=Lib.hid hor
    have HB:=Lib.hid hb'
    have hbl:=b.toNat_lt
    clear hor hb' hvn hvl hlen hsn hb hk9 h1
    generalize vnum (((l.drop a).take (u - a)).take k) = X at *
    by_cases hb128:b.toNat < 128
    ·have HV:=Lib.hid (vget_ok hlt2 HA.out HB.out hb128)
     go_wp2
     go_ret3
     refine ⟨?_,rfl⟩
     have hv:=HV.out
     have ho:=HO.out
     unfold getS
     rw [hv]
     exact ret3_int ho (by simp only [if_pos]; omega) rfl
    ·go_wp2
     refine ⟨⟨k + 1,by go_num,by omega,by omega,?_,?_⟩,by simp [intOf]; omega⟩
     ·have ho:=HO.out
      rw [← ho]
     ·intro j hj
      by_cases hjk:j = k
      ·subst hjk
       exact ⟨b,HB.out,by omega⟩
      ·exact HA.out j (by omega)
   ·have hs:((l.drop a).take (u - a)).length = u - a:=by simp; omega
    by_cases hf:u - a < 10
    ·have HV:=Lib.hid (vget_cut (l:=(l.drop a).take (u - a)) (by omega) (by rw [hs]; intro j hj; exact HA.out j (by omega)))
     clear h1 hs
     have hd:decide (((u - a:Nat):Int) < 10) = true:=by simp; omega
     have hm:=HM.out
     try (exfalso; omega)
     all_goals go_wp2
     all_goals go_ret3
     all_goals exact ⟨by unfold getS; rw [HV.out]; rfl,rfl⟩
    ·have HV:=Lib.hid (vget_long (l:=(l.drop a).take (u - a)) (by omega) (by intro j hj; exact HA.out j (by omega)))
     clear h1 hs
     have hm:=HM.out
     have hd:decide (((u - a:Nat):Int) < 10) = false:=by simp; omega
     go_wp2
     go_ret3
     exact ⟨by unfold getS; rw [HV.out]; rfl,rfl⟩
def getR (l:List UInt8) (a u:Int):Nat × Nat × Nat:=if mayB a u l.length then getS l a.toNat u.toNat else (0,0,1)
def V3 (r:Nat × Nat × Nat):Value:=.tuple #[.int .u64 r.1,.int .i64 r.2.1,.int .i64 r.2.2]
theorem get_any (A:Option Addr) (c:Nat) (l:List UInt8) (a u:Int) (hl:l.length ≤ 1000000000) (w:World) (h1:SlB w A c l) :
  Calls Tryz.prog 113 #[.slice A l.length c,.int .i64 a,.int .i64 u] w fun e w'=>e = .returned (V3 (getR l a u)) ∧ w = w':=by
 by_cases h:mayB a u l.length = true
 ·have h':=mayB_true.1 h
  obtain ⟨an,rfl⟩:=Int.eq_ofNat_of_zero_le h'.1
  obtain ⟨un,rfl⟩:=Int.eq_ofNat_of_zero_le (show 0 ≤ u by omega)
  refine (get_yes A c l an un (by omega) (by omega) hl w h1).mono ?_
  rintro e w' ⟨rfl,rfl⟩
  exact ⟨by unfold getR; rw [if_pos h]; rfl,rfl⟩
 ·have hf:mayB a u l.length = false:=by simpa using h
  have HF:Hid (getR l a u = (0,0,1)):=Lib.hid (by unfold getR; rw [if_neg h])
  clear h
  go_enter Tryz.func113,Tryz.ntmps113
  go_wp2_with (go_at_call 154; refine (mayBe_any _ _ _ _ _ _ (by omega)).mono ?_; rintro e w' ⟨rfl,rfl⟩)
  go_ret3
  exact ⟨by rw [HF.out]; rfl,rfl⟩
theorem isSize_any (s:Int) (w:World) :
  Calls Tryz.prog 110 #[.int .i64 s] w fun e w'=>e = .returned (.bool (sizeB s)) ∧ w = w':=by
 by_cases h4:s = 4
 ·have h:((s:Int) == 4) = true:=by simp [h4]
  have HF:Hid (sizeB s = true):=Lib.hid (by simp [sizeB,h4])
  clear h4
  go_enter Tryz.func110,Tryz.ntmps110
  go_wp2
  go_ret
  exact ⟨by rw [HF.out]; rfl,rfl⟩
 ·have h:((s:Int) == 4) = false:=by simp [h4]
  by_cases h8:s = 8
  ·have h':((s:Int) == 8) = true:=by simp [h8]
   have HF:Hid (sizeB s = true):=Lib.hid (by simp [sizeB,h8])
   clear h4 h8
   go_enter Tryz.func110,Tryz.ntmps110
   go_wp2
   go_ret
   exact ⟨by rw [HF.out]; rfl,rfl⟩
  ·have h':((s:Int) == 8) = false:=by simp [h8]
   have HF:Hid (sizeB s = false):=Lib.hid (by simp [sizeB,h4,h8])
   clear h4 h8
   go_enter Tryz.func110,Tryz.ntmps110
   go_wp2
   go_ret
   exact ⟨by rw [HF.out]; rfl,rfl⟩
def unfixS (l:List UInt8) (a u S:Nat):Nat × Nat × Nat:=if u - a < S then (0,0,6) else (fixn ((l.drop a).take S),a + S,0)
def unfixR (l:List UInt8) (a u s:Int):Nat × Nat × Nat:=if mayB a u l.length && sizeB s then unfixS l a.toNat u.toNat s.toNat else (0,0,1)
def UnfixRel (l:List UInt8) (a:Nat) (S:Nat) (n i:Value):Prop :=
 ∃ k:Nat,i = .int .i64 k ∧ k ≤ S ∧ n = .int .u64 ((fixn ((l.drop a).take k) % 18446744073709551616:Nat):Int)
theorem fix_lt (l:List UInt8) (a k:Nat) (hk:k ≤ 8):fixn ((l.drop a).take k) < 18446744073709551616:=by
 have h:=fixn_lt ((l.drop a).take k)
 have h2:(256:Nat) ^ ((l.drop a).take k).length ≤ 256 ^ 8:=Nat.pow_le_pow_right (by omega) (by simp; omega)
 omega
set_option maxRecDepth 1000000 in
theorem unfix_yes (A:Option Addr) (c:Nat) (l:List UInt8) (a u S:Nat) (hS:S = 4 ∨ S = 8) (hau:a ≤ u) (hu:u ≤ l.length) (hl:l.length ≤ 1000000000) (w:World) (h1:SlB w A c l) :
  Calls Tryz.prog 112 #[.slice A l.length c,.int .i64 a,.int .i64 u,.int .i64 S] w fun e w'=>e = .returned (V3 (unfixS l a u S)) ∧ w = w':=by
 have hmay:mayB a u l.length = true:=by rw [mayB_true]; omega
 have hsz:sizeB S = true:=by rcases hS with rfl | rfl <;> rfl
 have hS8:S ≤ 8:=by omega
 by_cases hcut:u - a < S
 ·have HF:Hid (unfixS l a u S = (0,0,6)):=Lib.hid (by unfold unfixS; rw [if_pos hcut])
  have hd:(u:Int) - a < S:=by omega
  clear hcut
  go_enter Tryz.func112,Tryz.ntmps112
  go_wp2_with (first
   | (go_at_call 154; refine (mayBe_any _ _ _ _ _ _ (by omega)).mono ?_; rintro e w' ⟨rfl,rfl⟩)
   | (go_at_call 110; refine (isSize_any _ _).mono ?_; rintro e w' ⟨rfl,rfl⟩))
  go_ret3
  exact ⟨by rw [HF.out]; rfl,rfl⟩
 ·have HF:Hid (unfixS l a u S = (fixn ((l.drop a).take S),a + S,0)):=Lib.hid (by unfold unfixS; rw [if_neg hcut])
  have hd:¬ (u:Int) - a < S:=by omega
  have haS:a + S ≤ u:=by omega
  clear hcut
  go_enter Tryz.func112,Tryz.ntmps112
  go_wp2_with (first
   | (go_at_call 154; refine (mayBe_any _ _ _ _ _ _ (by omega)).mono ?_; rintro e w' ⟨rfl,rfl⟩)
   | (go_at_call 110; refine (isSize_any _ _).mono ?_; rintro e w' ⟨rfl,rfl⟩))
  go_loop [11,29] (fun n i=>UnfixRel l a S n i) (fun _ i=>S - (intOf i).toNat)
  case atStart=>exact ⟨0,rfl,by omega,rfl⟩
  case round =>
   obtain ⟨k,rfl,hk,rfl⟩:=hrel
   by_cases hlt:k < S
   ·obtain ⟨ad,b,rfl,_,hb,hc⟩:=h1.at_ (k:=a + k) (by omega)
    have hsn:(l.drop a).take (k + 1) = (l.drop a).take k ++ [b]:=by rw [List.take_add_one,List.getElem?_drop,hb]; rfl
    have hlen:((l.drop a).take k).length = k:=by simp; omega
    have hvl:=fixn_lt ((l.drop a).take k)
    have hvn:=fixn_snoc ((l.drop a).take k) b
    rw [← hsn,hlen] at hvn
    rw [hlen,Nat.pow_mul 2 8 k |>.symm] at hvl
    have h64:=fix_lt l a k (by omega)
    rw [Nat.mod_eq_of_lt h64]
    have hor:=or_wrap (fixn ((l.drop a).take k)) (8 * k) b.toNat hvl (by omega) h64
    rw [show fixn ((l.drop a).take k) + b.toNat * 2 ^ (8 * k) = fixn ((l.drop a).take (k + 1)) by rw [hvn,Nat.pow_mul,Nat.mul_comm]] at hor
    have HO:=Lib.hid hor
    have hbl:=b.toNat_lt
    clear hor hvn hvl hlen hsn hb h1
    generalize fixn ((l.drop a).take k) = X at *
    go_wp2
    exact ⟨⟨k + 1,by go_num,by omega,by rw [← HO.out]⟩,by simp [intOf]; omega⟩
   ·obtain rfl:k = S:=by omega
    rw [Nat.mod_eq_of_lt (fix_lt l a k hS8)]
    clear h1
    go_wp2
    go_ret3
    exact ⟨by rw [HF.out]; rfl,rfl⟩
theorem unfix_any (A:Option Addr) (c:Nat) (l:List UInt8) (a u s:Int) (hl:l.length ≤ 1000000000) (w:World) (h1:SlB w A c l) :
  Calls Tryz.prog 112 #[.slice A l.length c,.int .i64 a,.int .i64 u,.int .i64 s] w fun e w'=>e = .returned (V3 (unfixR l a u s)) ∧ w = w':=by
 by_cases h:mayB a u l.length = true
 ·by_cases hz:sizeB s = true
  ·have h':=mayB_true.1 h
   have hs:s = 4 ∨ s = 8:=by simpa [sizeB] using hz
   obtain ⟨an,rfl⟩:=Int.eq_ofNat_of_zero_le h'.1
   obtain ⟨un,rfl⟩:=Int.eq_ofNat_of_zero_le (show 0 ≤ u by omega)
   obtain ⟨sn,rfl⟩:=Int.eq_ofNat_of_zero_le (show 0 ≤ s by omega)
   refine (unfix_yes A c l an un sn (by omega) (by omega) (by omega) hl w h1).mono ?_
   rintro e w' ⟨rfl,rfl⟩
   exact ⟨by unfold unfixR; rw [h,hz]; rfl,rfl⟩
  ·have hf:sizeB s = false:=by simpa using hz
   have HF:Hid (unfixR l a u s = (0,0,1)):=Lib.hid (by unfold unfixR; rw [h,hf]; rfl)
   clear hz
   go_enter Tryz.func112,Tryz.ntmps112
   go_wp2_with (first
    | (go_at_call 154; refine (mayBe_any _ _ _ _ _ _ (by omega)).mono ?_; rintro e w' ⟨rfl,rfl⟩)
    | (go_at_call 110; refine (isSize_any _ _).mono ?_; rintro e w' ⟨rfl,rfl⟩))
   go_ret3
   exact ⟨by rw [HF.out]; rfl,rfl⟩
 ·have hf:mayB a u l.length = false:=by simpa using h
  have HF:Hid (unfixR l a u s = (0,0,1)):=Lib.hid (by unfold unfixR; rw [hf]; rfl)
  clear h
  go_enter Tryz.func112,Tryz.ntmps112
  go_wp2_with (go_at_call 154; refine (mayBe_any _ _ _ _ _ _ (by omega)).mono ?_; rintro e w' ⟨rfl,rfl⟩)
  go_ret3
  exact ⟨by rw [HF.out]; rfl,rfl⟩
def TabAt (w:World) (g:Nat) (cs:Array Value):Prop:=∃ t fr,w.heap[g]? = some (.cells cs t fr)
theorem TabAt.on {w w':World} {g:Nat} {cs:Array Value} (h:TabAt w g cs) (hb:Below w.heap.size w w'):TabAt w' g cs:=by
 obtain ⟨t,fr,h⟩:=h
 exact ⟨t,fr,(hb.block g (Array.getElem?_eq_some_iff.1 h).1).trans h⟩
theorem TabAt.of_var {P:Program} {w:World} {n:String} {g:Nat} {cs:Array Value} (hg:P.globalNamed n = some g) (h:w.var? P n = some cs):TabAt w g cs:=by
 simp only [World.var?,hg,Option.bind_some] at h
 split at h
 ·rename_i c t fr hb
  cases h
  exact ⟨t,fr,hb⟩
 ·cases h
def wiresC:Array Value:=#[.int .i64 0,.int .i64 1,.int .i64 2,.int .i64 5]
def Wires (w:World):Prop:=TabAt w 1 wiresC
theorem Wires.on {w w':World} (h:Wires w) (hb:Below w.heap.size w w'):Wires w':=TabAt.on h hb
def knownB (i:Int):Bool:=decide (i = 0 ∨ i = 1 ∨ i = 2 ∨ i = 5)
def KnownRel (i:Int) (v:Value):Prop:=∃ k:Nat,v = .int .i64 k ∧ k ≤ 4 ∧ (0 < k → i ≠ 0) ∧ (1 < k → i ≠ 1) ∧ (2 < k → i ≠ 2) ∧ (3 < k → i ≠ 5)
set_option maxRecDepth 1000000 in
theorem known_any (i:Int) (w:World) (T:Wires w) :
  Calls Tryz.prog 109 #[.int .i64 i] w fun e w'=>e = .returned (.bool (knownB i)) ∧ w = w':=by
 obtain ⟨tt,fr,hT⟩:=T
 go_enter Tryz.func109,Tryz.ntmps109
 go_wp2_with (refine wpList_load_row rfl 207 _ rfl 1 rfl tt _ fr _ hT Tryz.underlying207 rfl (by kernel_rfl) ?_)
 go_loop [6] (fun v=>KnownRel i v) (fun v=>4 - (intOf v).toNat)
 case atStart=>exact ⟨0,rfl,by omega,by omega,by omega,by omega,by omega⟩
 case round =>
  obtain ⟨k,rfl,hk,h0,h1,h2,h3⟩:=hrel
  have hc:k = 0 ∨ k = 1 ∨ k = 2 ∨ k = 3 ∨ k = 4:=by omega
  have e0:(Instr.index 207 (.agg wiresC) (.int .i64 0)).run Tryz.prog w = .ok (.int .i64 0) w:=by kernel_rfl
  have e1:(Instr.index 207 (.agg wiresC) (.int .i64 1)).run Tryz.prog w = .ok (.int .i64 1) w:=by kernel_rfl
  have e2:(Instr.index 207 (.agg wiresC) (.int .i64 2)).run Tryz.prog w = .ok (.int .i64 2) w:=by kernel_rfl
  have e3:(Instr.index 207 (.agg wiresC) (.int .i64 3)).run Tryz.prog w = .ok (.int .i64 5) w:=by kernel_rfl
  rcases hc with rfl | rfl | rfl | rfl | rfl
  ·by_cases h:i = 0
   ·have hB:((0:Int) == i) = true:=by simp [h]
    go_wp2
    go_ret
    exact ⟨ret_bool (by simp [knownB,h]),rfl⟩
   ·have hB:((0:Int) == i) = false:=by simp; omega
    go_wp2
    exact ⟨⟨1,rfl,by omega,by omega,by omega,by omega,by omega⟩,by simp [intOf]⟩
  ·by_cases h:i = 1
   ·have hB:((1:Int) == i) = true:=by simp [h]
    go_wp2
    go_ret
    exact ⟨ret_bool (by simp [knownB,h]),rfl⟩
   ·have hB:((1:Int) == i) = false:=by simp; omega
    go_wp2
    exact ⟨⟨2,rfl,by omega,by omega,by omega,by omega,by omega⟩,by simp [intOf]⟩
  ·by_cases h:i = 2
   ·have hB:((2:Int) == i) = true:=by simp [h]
    go_wp2
    go_ret
    exact ⟨ret_bool (by simp [knownB,h]),rfl⟩
   ·have hB:((2:Int) == i) = false:=by simp; omega
    go_wp2
    exact ⟨⟨3,rfl,by omega,by omega,by omega,by omega,by omega⟩,by simp [intOf]⟩
  ·by_cases h:i = 5
   ·have hB:((5:Int) == i) = true:=by simp [h]
    go_wp2
    go_ret
    exact ⟨ret_bool (by simp [knownB,h]),rfl⟩
   ·have hB:((5:Int) == i) = false:=by simp; omega
    go_wp2
    exact ⟨⟨4,rfl,by omega,by omega,by omega,by omega,by omega⟩,by simp [intOf]⟩
  ·go_wp2
   go_ret
   refine ⟨ret_bool ?_,rfl⟩
   have:¬ (i = 0 ∨ i = 1 ∨ i = 2 ∨ i = 5):=by omega
   simp [knownB,this]
def tellsN (n:Nat):Nat × Nat × Nat:=if n / 8 = 0 ∨ 536870911 < n / 8 then (0,0,9) else if knownB ((n % 8:Nat):Int) then (n / 8,n % 8,0) else (0,0,8)
def TV (r:Nat × Nat × Nat):Value:=.agg #[.int .i64 r.1,.int .i64 r.2.1,.int .i64 r.2.2]
set_option maxRecDepth 1000000 in
theorem tells_any (n:Nat) (hn:n < 18446744073709551616) (w:World) (T:Wires w) :
  Calls Tryz.prog 69 #[.int .u64 n] w fun e w'=>e = .returned (TV (tellsN n)) ∧ Below w.heap.size w w':=by
 have hq:∃ q r:Nat,q = n / 8 ∧ r = n % 8 ∧ q < 2305843009213693952 ∧ r < 8:=⟨_,_,rfl,rfl,by omega,by omega⟩
 obtain ⟨q,r,hq,hr,hq1,hr1⟩:=hq
 have hqi:(n:Int) / 8 = (q:Int):=by omega
 have hri:(n:Int) % 8 = (r:Int):=by omega
 have hdef:tellsN n = if q = 0 ∨ 536870911 < q then (0,0,9) else if knownB ((r:Nat):Int) then (q,r,0) else (0,0,8):=by rw [hq,hr]; rfl
 clear hq hr
 by_cases h0:q = 0 ∨ 536870911 < q
 ·rw [if_pos h0] at hdef
  rw [hdef]
  rcases h0 with h0 | h0
  ·have b0:((q:Int) == 0) = true:=by simp [h0]
   go_enter Tryz.func69,Tryz.ntmps69
   go_wp2
   refine bodyPost_ret (results_cell_row rfl _ _ w.heap.size 121 _ (0,0) _ rfl (heap_alloc_last w _) Tryz.underlying121 rfl (by kernel_rfl)) rfl ?_
   exact ⟨rfl,below_new _ _⟩
  ·have b0:((q:Int) == 0) = false:=by simp; omega
   have b1:decide ((536870911:Int) < (q:Int)) = true:=by simp; omega
   go_enter Tryz.func69,Tryz.ntmps69
   go_wp2
   refine bodyPost_ret (results_cell_row rfl _ _ w.heap.size 121 _ (0,0) _ rfl (heap_alloc_last w _) Tryz.underlying121 rfl (by kernel_rfl)) rfl ?_
   exact ⟨rfl,below_new _ _⟩
 ·rw [if_neg h0] at hdef
  have b0:((q:Int) == 0) = false:=by simp; omega
  have b1:decide ((536870911:Int) < (q:Int)) = false:=by simp; omega
  by_cases hk:knownB ((r:Nat):Int) = true
  ·rw [if_pos hk] at hdef
   rw [hdef]
   go_enter Tryz.func69,Tryz.ntmps69
   go_wp2_with fail
   refine (known_any _ _ (T.on (below_new _ _))).mono ?_
   rintro e w1 ⟨rfl,rfl⟩
   rw [hk]
   go_wp2
   refine bodyPost_ret (results_cell_row rfl _ _ w.heap.size 121 _ (0,0) _ rfl (heap_alloc_last w _) Tryz.underlying121 rfl (by kernel_rfl)) rfl ?_
   exact ⟨rfl,below_new _ _⟩
  ·rw [if_neg hk] at hdef
   have hk:knownB ((r:Nat):Int) = false:=by simpa using hk
   rw [hdef]
   go_enter Tryz.func69,Tryz.ntmps69
   go_wp2_with fail
   refine (known_any _ _ (T.on (below_new _ _))).mono ?_
   rintro e w1 ⟨rfl,rfl⟩
   rw [hk]
   go_wp2
   refine bodyPost_ret (results_cell_row rfl _ _ w.heap.size 121 _ (0,0) _ rfl (heap_alloc_last w _) Tryz.underlying121 rfl (by kernel_rfl)) rfl ?_
   exact ⟨rfl,below_new _ _⟩
theorem vget_bound (l:List UInt8):(vget l).2.1 ≤ l.length:=by
 have h:=lead_le (l.take 10)
 rw [List.length_take] at h
 unfold vget
 split
 ·simp
 ·split
  ·simp
  ·simp only
   omega
theorem get_lt (l:List UInt8) (a u:Int):(getR l a u).1 < 18446744073709551616:=by
 unfold getR getS
 split
 ·exact vget_lt _
 ·simp
end Go.Proofs.YtckcojkpghiclaaGreatDoor
