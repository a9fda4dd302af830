/-
 Parts put one behind the other: slices.Grow of nothing,slices.Concat,and encode's put,run and together.
-/
import Derived.Test.YtckcojkpghiclaaGreatDoorEncPut
import Derived.Lib.AppendZeros
import Derived.Test.YtckcojkpghiclaaGreatDoorUtfFine
import Derived.Lib.ItoaNum
import Derived.Lib.ParseIntBTie
import Derived.Lib.AtoiAllCases
import Derived.Maps.OwnSet
import Derived.Test.YtckcojkpghiclaaGreatDoorProg
import Derived.Shelf.SlSortCmp.WholeK
import Derived.Shelf.SlSortCmp.NoneTotal
import Derived.Shelf.Lays
import Derived.Shelf.LaysM
import Derived.Shelf.Small.Strs
import Derived.Lib.OthersKept
import Derived.Lib.Strings
import Derived.Lib.Index
import Derived.Sort.Grow
import Derived.Test.YtckcojkpghiclaaGreatDoorVarBack
namespace Go.Proofs.YtckcojkpghiclaaGreatDoor.T12
set_option maxRecDepth 100000
open Go.RowKit
open Go.Proofs.YtckcojkpghiclaaGreatDoor.T9
theorem BL.on {r:Option Nat} {w w':World} (hb:Below w.heap.size w w') (l:List UInt8) (cs:List Value) (h:BL r w l cs):BL r w' l cs:=by
 obtain ⟨A,c,e,h1,h2⟩:=h
 exact ⟨A,c,e,h1.on hb,h2⟩
theorem BL.any {r:Option Nat} {w:World} (l:List UInt8) (cs:List Value) (h:BL r w l cs):BL none w l cs:=by
 obtain ⟨A,c,e,h1,h2⟩:=h
 exact ⟨A,c,e,h1,fun a ha hn e=>by cases e⟩
set_option maxRecDepth 1000000 in
set_option maxHeartbeats 4000000 in
theorem grow_nil (n:Nat) (hn:n≤140737488351232) (w:World) :
  Calls Tryz.prog 173 #[.slice none 0 0,.int .i64 n] w fun e w'=>∃ v,e = .returned v∧w'.ownsRow w.heap.size 5 1 v 0 []∧Below w.heap.size w w':=by
 obtain ⟨i0,hi,hz0,hz1,hz2⟩:=info_parts info_u8
 by_cases h0:n = 0
 ·subst h0
  go_enter Tryz.func173,Tryz.ntmps173
  go_wp2
  go_ret
  exact ⟨_,rfl,World.ownsRow_nil _ _ _ _,Below.refl _ _⟩
 ·have h1:¬ ((n:Int) < 0):=by omega
  have h2:(0:Int) < (n:Int):=by omega
  have hrz:∀ ty,(Builtin.append_ #[26,3] ty #[.slice none 0 0,.int .i64 n]).run Tryz.prog w = .ok (.slice (some ⟨w.heap.size,0,none⟩) n (grownCap w n 0 5)) (w.drew.alloc (.cells (Builtin.zeroCells (Value.int .u8 0).cells n++Builtin.zeroCells (Value.int .u8 0).cells (grownCap w n 0 5 - n)) 5)):=fun ty =>
   Lib.run_append_nil_zeros w 26 3 ty 5 i0 (.int .u8 0) .i64 .i64 Tryz.underlying26 Tryz.underlying3 hi hz0 n (by omega) (by omega) (by omega) (by rw [hz2];omega)
  have hG1:n≤grownCap w n 0 5:=grownCap_ge w _ _ _
  have hG2:grownCap w n 0 5≤maxLen:=grownCap_le_maxLen w n 0 5 (by unfold maxLen;omega)
  obtain ⟨G,hG⟩:∃ G,G = grownCap w n 0 5:=⟨_,rfl⟩
  rw [← hG] at hrz hG1 hG2
  have hsz:∀ k,(Builtin.zeroCells (Value.int .u8 0).cells k).size = k:=fun k=>by simp [Builtin.zeroCells,Value.cells]
  obtain ⟨cs,hcs⟩:∃ cs,cs = Builtin.zeroCells (Value.int .u8 0).cells n++Builtin.zeroCells (Value.int .u8 0).cells (G - n):=⟨_,rfl⟩
  have hcl:cs.size = G:=by rw [hcs,Array.size_append,hsz,hsz];omega
  rw [← hcs] at hrz
  have hG63:G≤9223372036854775807:=by unfold maxLen at hG2;omega
  clear hG hcs hsz
  go_enter Tryz.func173,Tryz.ntmps173
  go_wp2_with (at_builtin;refine Lib.wpList_append_run _ rfl _ _ 26 3 rfl _ _ rfl rfl _ _ (hrz _) ?_)
  go_ret
  refine ⟨_,rfl,⟨by simp,.inr ⟨w.heap.size,G,cs,rfl,Nat.le_refl _,heap_alloc_new w.drew _,Nat.zero_le _,hG2,by rw [hcl];omega,by simp⟩⟩,((Below.refl _ _).drew).trans (below_new w.drew _)⟩
set_option maxRecDepth 1000000 in
set_option maxHeartbeats 4000000 in
theorem concat_any (A:Option Addr) (c:Nat) (ls:List (List UInt8)) (zs:List Value) (F:List UInt8) (hF:ls.flatten = F) (w:World) (hs:Sl w A ls.length c 1 zs) (hr:T9.Rows (BL none w) ls zs) (hsum:F.length≤140737488351232) :
  Calls Tryz.prog 127 #[.slice A ls.length c] w fun e w'=>∃ v,e = .returned v∧w'.ownsRow w.heap.size 5 1 v F.length (bs F)∧Below w.heap.size w w':=by
 obtain ⟨i0,hi,hz0,hz1,hz2⟩:=info_parts info_u8
 have hle:=hs.le
 have hcap:=hs.cap
 unfold maxLen at hcap
 have HS:=Lib.hid hs
 have HR:=Lib.hid hr
 obtain ⟨pre,p0,pn,ps,pl⟩:∃ pre:Nat→List UInt8,pre 0 = []∧pre ls.length = F∧(∀ k l,ls[k]? = some l→pre (k+1) = pre k++l)∧(∀ k,(pre k).length≤F.length):=by
  refine ⟨fun k=>(ls.take k).flatten,rfl,by rw [← hF];simp,fun k l h=>?_,fun k=>?_⟩
  ·show (ls.take (k+1)).flatten = (ls.take k).flatten++l
   rw [List.take_add_one,h];simp
  ·have e:(ls.take k).flatten++(ls.drop k).flatten = F:=by rw [← List.flatten_append,List.take_append_drop,hF]
   show (ls.take k).flatten.length≤F.length
   rw [← e,List.length_append]
   omega
 have HT:=Lib.hid ps
 have HL:=Lib.hid pl
 have HP:=Lib.hid (And.intro p0 pn)
 have l0:(pre 0).length = 0:=by rw [p0];rfl
 clear hs hr ps pl p0 pn hF
 go_enter Tryz.func127,Tryz.ntmps127
 go_wp2
 go_loopw [3,11] (fun z i wr=>∃ k:Nat,i = .int .i64 k∧k≤ls.length∧z = .int .i64 (((pre k).length:Nat):Int)∧Below w.heap.size w wr) (fun _ i _=>ls.length - (intOf i).toNat)
 case atStart=>exact ⟨0,rfl,by omega,by rw [l0];rfl,Below.refl _ _⟩
 case round =>
  obtain ⟨k,rfl,hk,rfl,hbw⟩:=hrel
  by_cases hlt:k < ls.length
  ·obtain ⟨l,hl⟩:∃ l,ls[k]? = some l:=⟨_,List.getElem?_eq_getElem hlt⟩
   obtain ⟨ad,u,rfl,hga,hcc,c0⟩:=row1 (BL.len none wr) (HS.out.on hbw) (HR.out.imp (BL.on hbw)) hl
   obtain ⟨A1,c1,hu,h1,-⟩:=hcc
   simp only [List.cons.injEq,and_true] at hu
   subst hu
   have h2:=HL.out (k+1)
   have h3:=HT.out k l hl
   rw [h3,List.length_append] at h2
   obtain ⟨N,hN⟩:∃ N,N = (pre k).length:=⟨_,rfl⟩
   have HN:Hid ((pre (k+1)).length = N+l.length):=Lib.hid (by rw [h3,List.length_append,hN])
   rw [← hN] at h2 ⊢
   have h4:¬ ((N:Int)+(l.length:Int) < 0):=by omega
   clear hN h3 hl h1 l0
   go_wp2
   refine ⟨⟨k+1,by go_num,by omega,by rw [HN.out];go_num,hbw⟩,by simp [intOf];omega⟩
  ·obtain rfl:k = ls.length:=by omega
   rw [HP.out.2]
   have HG:=Lib.hid (fun wx=>grow_nil F.length hsum wx)
   clear l0
   go_wp2_with fail
   refine (HG.out _).mono ?_
   rintro e w1 ⟨v1,rfl,ho1,hb1⟩
   have hb1':=below_then hbw hb1
   have ho1':=own_less ho1 hbw.size
   clear HG ho1
   go_wp2
   go_loopw [6,27] (fun v i wr=>∃ k:Nat,i = .int .i64 k∧k≤ls.length∧wr.ownsRow w.heap.size 5 1 v (pre k).length (bs (pre k))∧Below w.heap.size w wr) (fun _ i _=>ls.length - (intOf i).toNat)
   case atStart=>exact ⟨0,rfl,by omega,by rw [HP.out.1];exact ho1',hb1'⟩
   case round =>
    obtain ⟨k,rfl,hk,ho2,hb2⟩:=hrel
    by_cases hlt2:k < ls.length
    ·obtain ⟨l,hl⟩:∃ l,ls[k]? = some l:=⟨_,List.getElem?_eq_getElem hlt2⟩
     obtain ⟨ad,u,rfl,hga,hcc,c0⟩:=row1 (BL.len none wr) (HS.out.on hb2) (HR.out.imp (BL.on hb2)) hl
     obtain ⟨A1,c1,hu,h1,-⟩:=hcc
     simp only [List.cons.injEq,and_true] at hu
     subst hu
     have h2:=HL.out (k+1)
     have h3:=HT.out k l hl
     obtain ⟨X,hX⟩:∃ X,X = pre k:=⟨_,rfl⟩
     rw [← hX] at h3 ho2
     rw [h3] at h2
     rw [List.length_append] at h2
     have HX:Hid (pre (k+1) = X++l):=Lib.hid h3
     clear hX h3 hl
     go_wp2_with (at_builtin;refine wpList_app_sl rfl _ _ 26 rfl w.heap.size 5 i0 (.int .u8 0) 1 1 Tryz.underlying26 hi hz0 hz1 hz2 rfl (by omega) _ X.length (bs X) rfl ho2 A1 l.length c1 (bs l) rfl h1 (bs_one l) (by unfold maxLen;omega) (by omega) hb2.size ?_;intro v3 w3 hown3 hg3)
     have hb3:Below w.heap.size w w3:=hb2.grown hg3 hb2.size (own_ge ho2)
     refine ⟨⟨k+1,by go_num,by omega,?_,hb3⟩,by simp [intOf];omega⟩
     rw [HX.out,List.length_append,bs_append]
     exact hown3
    ·obtain rfl:k = ls.length:=by omega
     rw [HP.out.2] at ho2
     go_wp2
     go_ret
     exact ⟨_,rfl,ho2,hb2⟩
set_option maxRecDepth 1000000 in
set_option maxHeartbeats 4000000 in
theorem together_any (A:Option Addr) (c:Nat) (ls:List (List UInt8)) (zs:List Value) (F:List UInt8) (hF:ls.flatten = F) (w:World) (hs:Sl w A ls.length c 1 zs) (hr:T9.Rows (BL none w) ls zs) (hsum:F.length≤140737488351232) :
  Calls Tryz.prog 88 #[.slice A ls.length c] w fun e w'=>∃ v,e = .returned v∧By w.heap.size w' F v∧Below w.heap.size w w':=by
 have HC:=Lib.hid (fun wx (h:Below w.heap.size w wx)=>concat_any A c ls zs F hF wx (hs.on h) (hr.imp (BL.on h)) hsum)
 clear hs hr hF
 go_enter Tryz.func88,Tryz.ntmps88
 go_wp2_with fail
 refine (HC.out w (Below.refl _ _)).mono ?_
 rintro e w1 ⟨v,rfl,ho,hb⟩
 have HY:=Lib.hid (By.own ho)
 clear ho
 go_wp2
 go_ret
 exact ⟨v,rfl,HY.out,hb⟩
set_option maxRecDepth 1000000 in
set_option maxHeartbeats 4000000 in
theorem put_any (no wire:Int) (num:Nat) (f u:Int) (A:Option Addr) (c:Nat) (run:List UInt8) (hn1:inI no) (hw1:inI wire) (hnum:num < 18446744073709551616) (hl:run.length≤140737488351232) (w:World) (h1:SlB w A c run) (T:Wires w) :
  Calls Tryz.prog 168 #[ZV no wire num f u,.slice A run.length c] w fun e w'=>∃ v,e = .returned v∧By w.heap.size w' (recL no wire num run) v∧Below w.heap.size w w':=by
 have X1:=heap_alloc_new w (.cells #[.int .i64 no,.int .i64 wire,.int .u64 num,.int .i64 f,.int .i64 u] 41)
 have LBD:=below_new w (.cells #[.int .i64 no,.int .i64 wire,.int .u64 num,.int .i64 f,.int .i64 u] 41)
 have HP:=Lib.hid (fun wx (h:Below w.heap.size w wx)=>rcputB_any no wire num f u A c run hn1.1 hn1.2 hw1.1 hw1.2 hnum hl wx (h1.on h) (T.on h))
 obtain ⟨q0,q1,q2,q3,q4⟩:=heap_cells X1
 clear h1
 unfold ZV at HP ⊢
 go_enter Tryz.func168,Tryz.ntmps168
 go_wp2_with fail
 refine (HP.out _ LBD).mono ?_
 rintro e w1 ⟨A',c',rfl,hr,hge,hb⟩
 have HY:Hid (By w.heap.size w1 (recL no wire num run) (.slice A' (recL no wire num run).length c')):=Lib.hid ⟨A',c',rfl,hr,fun a ha hn=>Nat.le_trans LBD.size (hge a ha hn)⟩
 clear hr hge
 go_wp2
 go_ret
 exact ⟨_,rfl,HY.out,below_then LBD hb⟩
set_option maxRecDepth 1000000 in
set_option maxHeartbeats 4000000 in
theorem run_any (no:Int) (A:Option Addr) (c:Nat) (ls:List (List UInt8)) (zs:List Value) (F:List UInt8) (hF:ls.flatten = F) (w:World) (hn1:inI no) (hs:Sl w A ls.length c 1 zs) (hr:T9.Rows (BL none w) ls zs) (hsum:F.length≤140737488351232) (T:Wires w) :
  Calls Tryz.prog 123 #[.int .i64 no,.slice A ls.length c] w fun e w'=>∃ v,e = .returned v∧By w.heap.size w' (runL no F) v∧Below w.heap.size w w':=by
 have HC:=Lib.hid (together_any A c ls zs F hF w hs hr hsum)
 have HP:Hid (∀ A' c' wx,Below w.heap.size w wx→SlB wx A' c' F→Calls Tryz.prog 168 #[.agg #[.int .i64 no,.int .i64 2,.int .u64 0,.int .i64 0,.int .i64 0],.slice A' F.length c'] wx fun e w'=>∃ v,e = .returned v∧By wx.heap.size w' (runL no F) v∧Below wx.heap.size wx w') :=
  Lib.hid fun A' c' wx h h1=>put_any no 2 0 0 0 A' c' F hn1 ⟨by decide,by decide⟩ (by decide) hsum wx h1 (T.on h)
 clear hs hr hF
 go_enter Tryz.func123,Tryz.ntmps123
 go_wp2_with fail
 refine HC.out.mono ?_
 rintro e w1 ⟨v,rfl,⟨A',c',rfl,h1,-⟩,hb⟩
 have HP1:=Lib.hid (HP.out A' c' w1 hb h1)
 clear h1
 go_wp2_with fail
 refine HP1.out.mono ?_
 rintro e w2 ⟨v,rfl,hy,hb2⟩
 have HY:=Lib.hid (By.less hy hb.size)
 clear hy
 go_wp2
 go_ret
 exact ⟨v,rfl,HY.out,below_then hb hb2⟩
theorem isCounting_any (k:Int) (w:World):Calls Tryz.prog 122 #[.int .i64 k] w fun e w'=>e = .returned (.bool (cnt k))∧Below w.heap.size w w':=by
 have HO:=Lib.hid (fun wx=>of_any k 0 (by omega) (by omega) wx)
 obtain ⟨b,hb⟩:∃ b,cnt k = b:=⟨_,rfl⟩
 rw [hb] at HO ⊢
 clear hb
 go_enter Tryz.func122,Tryz.ntmps122
 go_wp2_with fail
 refine (HO.out _).mono ?_
 rintro e w1 ⟨rfl,hb1⟩
 go_wp2
 go_ret
 exact ⟨rfl,hb1⟩
end Go.Proofs.YtckcojkpghiclaaGreatDoor.T12
namespace Go.Proofs.YtckcojkpghiclaaGreatDoor
set_option maxRecDepth 100000
def plainsL:List (List UInt8 × Nat):=[(tInt64,0),(tSint64,1),(tUint32,2),(tBool,3),(tFixed32,4),(tSfixed64,5),(tString,7),(tBytes,8)]
theorem typeK_find (x:List UInt8):(plainsL.find? fun q=>q.1 == x).map (·.2) = typeK x:=by
 unfold typeK plainsL
 simp only [List.find?_cons,List.find?_nil]
 by_cases h0:x = tInt64
 ·subst h0;rfl
 by_cases h1:x = tSint64
 ·subst h1;rfl
 by_cases h2:x = tUint32
 ·subst h2;rfl
 by_cases h3:x = tBool
 ·subst h3;rfl
 by_cases h4:x = tFixed32
 ·subst h4;rfl
 by_cases h5:x = tSfixed64
 ·subst h5;rfl
 by_cases h6:x = tString
 ·subst h6;rfl
 by_cases h7:x = tBytes
 ·subst h7;rfl
 have e:∀ y:List UInt8,x≠y→(y == x) = false:=fun y hy=>beq_eq_false_iff_ne.2 (Ne.symm hy)
 simp only [h0,h1,h2,h3,h4,h5,h6,h7,if_false,e _ h0,e _ h1,e _ h2,e _ h3,e _ h4,e _ h5,e _ h6,e _ h7,Option.map_none]
theorem typeK_none (x:List UInt8):(typeK x).isNone = !(plainsL.map (·.1)).contains x:=by
 rw [← typeK_find]
 rw [Option.isNone_map]
 cases h:plainsL.find? fun q=>q.1 == x with
 | none =>
  rw [List.find?_eq_none] at h
  simp only [Option.isNone_none]
  symm
  rw [Bool.not_eq_true',List.contains_eq_mem,decide_eq_false_iff_not]
  intro hm
  obtain ⟨q,hq,rfl⟩:=List.mem_map.1 hm
  exact absurd (h q hq) (by simp)
 | some q =>
  have h1:=List.find?_some h
  have h2:=List.mem_of_find?_eq_some h
  simp only [Option.isNone_some]
  symm
  rw [Bool.not_eq_false',List.contains_eq_mem,decide_eq_true_eq]
  exact List.mem_map.2 ⟨q,h2,by simpa using h1⟩
def still {α:Type} [BEq α] (l bar:List α) (k:Nat) (x:α):Bool:=l.contains x && !bar.contains x && !(l.take k).contains x
theorem still_start {α:Type} [BEq α] [LawfulBEq α] (l bar:List α):still l bar 0 = fun x=>l.contains x && !bar.contains x:=by funext x;simp [still]
theorem still_next {α:Type} [BEq α] [LawfulBEq α] [DecidableEq α] {l bar:List α} {k:Nat} {y:α} (h:l[k]? = some y):(fun x=>still l bar k x && decide (x≠y)) = still l bar (k+1):=by
 funext x
 unfold still
 rw [List.take_add_one,h]
 by_cases hx:x = y
 ·subst hx;simp
 ·simp [hx]
theorem still_self {α:Type} [BEq α] [LawfulBEq α] {l bar:List α} {k:Nat} {y:α} (h:l[k]? = some y):still l bar k y = (!bar.contains y && !(l.take k).contains y):=by
 have:l.contains y = true:=by rw [List.contains_eq_mem,decide_eq_true_eq];exact List.mem_of_getElem? h
 simp only [still,this,Bool.true_and]
def standB (ones one:Int) (rep pairs:Bool):Bool:=decide (0≤one) && decide (one≤ones) && !(rep && pairs) && !(decide (one≠0) && (rep || pairs))
theorem take_map_contains {α β:Type} [BEq β] [LawfulBEq β] (g:α→β) (l:List α) (k:Nat) (y:β):((l.map g).take k).contains y = (l.take k).any fun x=>g x == y:=by
 rw [← List.map_take,List.contains_eq_any_beq,List.any_map]
 congr 1
 funext x
 simp only [Function.comp]
 exact BEq.comm
def stillT (l:List (List UInt8)) (k:Nat) (x:List UInt8):Bool:=still l (plainsL.map (·.1)) k x
theorem stillT_self {l:List (List UInt8)} {k:Nat} {y:List UInt8} (h:l[k]? = some y):stillT l k y = !((typeK y).isSome || (l.take k).contains y):=by
 unfold stillT
 rw [still_self h,← typeK_none]
 cases typeK y <;> simp
def wrongB (V:List (List UInt8)) (N:List Int) (k:Nat) (x:List UInt8) (n:Int):Bool :=
 (V.take k).contains x || (N.take k).contains n || !(decide (-2147483648≤n) && decide (n≤2147483647)) || (k == 0 && n != 0)
def referB (s:Sc) (kind ref:Int):Bool:=decide (0≤kind) && decide (kind < 10) && decide (0≤ref) && decide (ref < if kind = 9 then (s.M.length:Int) else if kind = 6 then (s.E.length:Int) else 1)
def fdMayB (s:Sc) (d:Df):Bool:=!(decide (d.key≠-1) && !keyedB d.key) && referB s d.kind d.ref && standB 30 d.one d.rep (decide (d.key≠-1))
theorem dfMay_iff (s:Sc) (d:Df):DfMay s d↔numberB d.no = true∧fdMayB s d = true:=by
 unfold fdMayB referB standB
 constructor
 ·intro h
  refine ⟨h.num,?_⟩
  have h9:=h.k9
  have hr:=h.ref
  have e0:decide (d.ref < if d.kind = 9 then (s.M.length:Int) else if d.kind = 6 then (s.E.length:Int) else 1) = true:=by
   rw [decide_eq_true_eq]
   split at hr
   ·rename_i h1;rw [if_pos h1];omega
   ·rename_i h1
    rw [if_neg h1]
    split at hr
    ·rename_i h2;rw [if_pos h2];omega
    ·rename_i h2;rw [if_neg h2];omega
  rw [decide_eq_true h.k0,decide_eq_true (show d.kind < 10 by omega),decide_eq_true h.r0,e0,decide_eq_true h.o0,decide_eq_true h.o30]
  rcases h.key with hk | ⟨hk,hrep⟩
  ·rcases h.alone with ho | ⟨ho,-⟩
   ·simp [hk,ho]
   ·simp [hk,ho]
  ·rcases h.alone with ho | ⟨ho,hk2⟩
   ·simp [hk,ho,hrep]
   ·simp [hk2,hrep]
 ·rintro ⟨hn,h⟩
  simp only [Bool.and_eq_true,decide_eq_true_eq,Bool.not_eq_true',Bool.and_eq_false_iff,Bool.or_eq_false_iff,decide_eq_false_iff_not,Bool.not_eq_false',Classical.not_not] at h
  obtain ⟨⟨a1,⟨⟨a2,a3⟩,a4⟩,a5⟩,⟨⟨a6,a7⟩,a8⟩,a9⟩:=h
  refine ⟨hn,a2,by omega,a6,a7,a4,?_,?_,?_⟩
  ·split
   ·rename_i h1;rw [if_pos h1] at a5;omega
   ·rename_i h1
    rw [if_neg h1] at a5
    split
    ·rename_i h2;rw [if_pos h2] at a5;omega
    ·rename_i h2;rw [if_neg h2] at a5;omega
  ·by_cases hk:d.key = -1
   ·exact .inl hk
   ·refine .inr ⟨?_,?_⟩
    ·rcases a1 with a1 | a1
     ·exact absurd a1 hk
     ·exact a1
    ·rcases a8 with a8 | a8
     ·exact a8
     ·exact absurd a8 hk
  ·rcases a9 with a9 | a9
   ·exact .inl a9
   ·exact .inr a9
def lastNo (l:List Df) (k:Nat):Int:=if k = 0 then 0 else (l[k - 1]?.map (·.no)).getD 0
def mdNames (m:Md):List (List UInt8):=m.F.map (·.name)
def mdAtB (s:Sc) (m:Md) (k:Nat) (d:Df):Bool:=!decide (d.no≤lastNo m.F k) && numberB d.no && still (mdNames m) [] k d.name && fdMayB s d
theorem mdMay_iff (s:Sc) (m:Md):MdMay s m↔m.F.length≤30∧∀ k d,m.F[k]? = some d→mdAtB s m k d = true:=by
 constructor
 ·intro h
  refine ⟨h.few,fun k d hd=>?_⟩
  have hmem:=List.mem_of_getElem? hd
  obtain ⟨a1,a2⟩:=(dfMay_iff s d).1 (h.each d hmem)
  unfold mdAtB
  rw [a1,a2,still_self (by simp [mdNames,hd]),mdNames,take_map_contains]
  have e1:decide (d.no≤lastNo m.F k) = false:=by
   rw [decide_eq_false_iff_not]
   unfold lastNo
   split
   ·have:=a1
    unfold numberB at this
    simp only [Bool.and_eq_true,decide_eq_true_eq] at this
    omega
   ·rename_i hk
    obtain ⟨hlt,rfl⟩:=List.getElem?_eq_some_iff.1 hd
    have:=(List.pairwise_iff_getElem.1 h.rise) (k - 1) k (by omega) hlt (by omega)
    rw [List.getElem?_eq_getElem (by omega)]
    simp only [Option.map_some,Option.getD_some]
    omega
  have e2:((m.F.take k).any fun x=>x.name == d.name) = false:=by
   have h2:(m.F.Pairwise fun a b=>(a.name == b.name) = false):=h.names.imp fun {a b} hab=>by simpa using hab
   exact (pair_take (R:=fun a b:Df=>a.name == b.name)).2 h2 k d hd
  rw [e1,e2]
  rfl
 ·rintro ⟨hf,h⟩
  have hp:∀ k d,m.F[k]? = some d→d.no > lastNo m.F k∧numberB d.no = true∧((m.F.take k).any fun x=>x.name == d.name) = false∧fdMayB s d = true:=by
   intro k d hd
   have:=h k d hd
   unfold mdAtB at this
   rw [still_self (by simp [mdNames,hd]),mdNames,take_map_contains] at this
   simp only [Bool.and_eq_true,Bool.not_eq_true',decide_eq_false_iff_not,List.contains_nil,Bool.not_false,Bool.true_and] at this
   obtain ⟨⟨⟨b1,b2⟩,b3⟩,b4⟩:=this
   exact ⟨by omega,b2,by simpa using b3,b4⟩
  refine ⟨hf,?_,?_,fun d hd=>?_⟩
  ·rw [List.pairwise_iff_getElem]
   intro i j
   induction j with
   | zero=>intro _ _ h0;omega
   | succ j ih =>
    intro hi hj hij
    have h1:=(hp (j+1) _ (List.getElem?_eq_getElem hj)).1
    unfold lastNo at h1
    rw [if_neg (by omega),Nat.add_sub_cancel,List.getElem?_eq_getElem (by omega)] at h1
    simp only [Option.map_some,Option.getD_some] at h1
    by_cases he:i = j
    ·subst he;omega
    ·have:=ih hi (by omega) (by omega)
     omega
  ·have h2:(m.F.Pairwise fun a b=>(a.name == b.name) = false):=pair_take.1 fun k x hx=>(hp k x hx).2.2.1
   exact h2.imp fun {a b} hab=>by simpa using hab
  ·obtain ⟨k,hk⟩:=List.mem_iff_getElem?.1 hd
   have:=hp k d hk
   exact (dfMay_iff s d).2 ⟨this.2.1,this.2.2.2⟩
theorem contains_pair {α:Type} [BEq α] [LawfulBEq α] {l:List α}:(∀ k x,l[k]? = some x→(l.take k).contains x = false)↔l.Pairwise (·≠·):=by
 have h2:(l.Pairwise fun a b=>(a == b) = false)↔l.Pairwise (·≠·):=by
  constructor <;> intro hp <;> exact hp.imp fun {a b} hab=>by simpa using hab
 rw [← h2,← pair_take]
 have e:∀ k x,(l.take k).contains x = (l.take k).any (· == x):=fun k x=>by
  rw [List.contains_eq_any_beq]
  congr 1
  funext y
  exact BEq.comm
 simp only [e]
theorem edMay_iff (e:Ed):EdMay e↔1≤e.V.length∧e.V.length≤30∧e.V.length = e.N.length∧∀ k x n,e.V[k]? = some x→e.N[k]? = some n→wrongB e.V e.N k x n = false:=by
 constructor
 ·intro h
  refine ⟨h.some_,h.few,h.same.symm,fun k x n hx hn=>?_⟩
  unfold wrongB
  have hr:=h.each n (List.mem_of_getElem? hn)
  rw [contains_pair.2 h.names k x hx,contains_pair.2 h.nums k n hn,decide_eq_true hr.1,decide_eq_true hr.2]
  by_cases hk:k = 0
  ·subst hk
   have:=h.zero
   rw [hn] at this
   obtain rfl:=Option.some.inj this
   rfl
  ·simp [hk]
 ·rintro ⟨h1,h2,h3,h4⟩
  have key:∀ k (hk:k < e.V.length),(e.V.take k).contains e.V[k] = false∧(e.N.take k).contains (e.N[k]'(by omega)) = false∧(-2147483648≤(e.N[k]'(by omega))∧(e.N[k]'(by omega))≤2147483647)∧(k = 0→(e.N[k]'(by omega)) = 0):=by
   intro k hk
   have:=h4 k _ _ (List.getElem?_eq_getElem hk) (List.getElem?_eq_getElem (by omega))
   unfold wrongB at this
   simp only [Bool.or_eq_false_iff,Bool.not_eq_false',Bool.and_eq_true,decide_eq_true_eq,Bool.and_eq_false_iff,beq_eq_false_iff_ne,bne_eq_false_iff_eq] at this
   obtain ⟨⟨⟨b1,b2⟩,b3⟩,b4⟩:=this
   exact ⟨b1,b2,b3,fun h0=>by rcases b4 with b4 | b4;exact absurd h0 b4;exact b4⟩
  refine ⟨h1,h2,h3.symm,?_,?_,?_,fun n hn=>?_⟩
  ·rw [List.getElem?_eq_getElem (by omega),(key 0 (by omega)).2.2.2 rfl]
  ·refine contains_pair.1 fun k x hx=>?_
   obtain ⟨hk,rfl⟩:=List.getElem?_eq_some_iff.1 hx
   exact (key k hk).1
  ·refine contains_pair.1 fun k x hx=>?_
   obtain ⟨hk,rfl⟩:=List.getElem?_eq_some_iff.1 hx
   exact (key k (by omega)).2.1
  ·obtain ⟨k,hk⟩:=List.mem_iff_getElem?.1 hn
   obtain ⟨hk,rfl⟩:=List.getElem?_eq_some_iff.1 hk
   exact (key k (by omega)).2.2.1
theorem scMay_iff (s:Sc):ScMay s↔1≤s.M.length∧s.M.length≤20∧s.E.length≤20∧(∀ k x,(namesS s)[k]? = some x→stillT (namesS s) k x = true)∧(∀ m∈s.M,MdMay s m)∧∀ e∈s.E,EdMay e:=by
 have key:(∀ k x,(namesS s)[k]? = some x→stillT (namesS s) k x = true)↔(namesS s).Pairwise (·≠·)∧∀ x∈namesS s,typeK x = none:=by
  rw [← contains_pair]
  constructor
  ·intro h
   have h':∀ k x,(namesS s)[k]? = some x→typeK x = none∧((namesS s).take k).contains x = false:=fun k x hx=>by
    have:=h k x hx
    rw [stillT_self hx] at this
    cases ht:typeK x <;> cases hc:((namesS s).take k).contains x <;> simp_all
   exact ⟨fun k x hx=>(h' k x hx).2,fun x hx=>by obtain ⟨k,hk⟩:=List.mem_iff_getElem?.1 hx;exact (h' k x hk).1⟩
  ·rintro ⟨h1,h2⟩ k x hx
   rw [stillT_self hx,h1 k x hx,h2 x (List.mem_of_getElem? hx)]
   rfl
 constructor
 ·intro h
  exact ⟨h.some_,h.fewM,h.fewE,key.2 ⟨h.names,h.plain⟩,h.M,h.E⟩
 ·rintro ⟨h1,h2,h3,h4,h5,h6⟩
  obtain ⟨k1,k2⟩:=key.1 h4
  exact ⟨h1,h2,h3,k1,k2,h5,h6⟩
def inr (n:Int):Prop:=-9223372036854775808≤n∧n≤9223372036854775807
end Go.Proofs.YtckcojkpghiclaaGreatDoor
namespace Go.Proofs.YtckcojkpghiclaaGreatDoor
set_option maxRecDepth 100000
open Go.RowKit Go.WideMaps Go.Maps
section
variable {α:Type} {K:TypeId} {ky:α→Lit}
def Free (K:TypeId) (ky:α→Lit) (w:World) (b n:Nat) (p:α→Bool):Prop:=∃ D:DataW Unit,w.ownsMap Tryz.prog K unitElem b n D∧∀ x,has D (ky x) = p x
theorem Free.made (w:World):Free K ky (w.alloc (.map #[] 0)) w.heap.size 0 (fun _=>false):=⟨.map [],World.ownsMap_made w _ _ _,fun _=>rfl⟩
theorem Free.mono {w:World} {b n n':Nat} {p:α→Bool} (h:Free K ky w b n p) (hn:n≤n'):Free K ky w b n' p:=by
 obtain ⟨D,h1,h2⟩:=h
 exact ⟨D,h1.mono hn,h2⟩
theorem Free.lt {w:World} {b n:Nat} {p:α→Bool} (h:Free K ky w b n p):b < w.heap.size:=by
 obtain ⟨D,h1,_⟩:=h
 exact h1.lt
theorem Free.block {w w':World} {b n:Nat} {p:α→Bool} (h:Free K ky w b n p) (hb:w'.heap[b]? = w.heap[b]?):Free K ky w' b n p:=by
 obtain ⟨D,⟨es,clock,h1,h2⟩,h3⟩:=h
 exact ⟨D,⟨es,clock,hb.trans h1,h2⟩,h3⟩
theorem Free.on {w w':World} {b n:Nat} {p:α→Bool} (h:Free K ky w b n p) (hb:Below w.heap.size w w'):Free K ky w' b n p:=h.block (hb.block b h.lt)
theorem Free.alloc {w:World} {b n:Nat} {p:α→Bool} (h:Free K ky w b n p) (o:Obj):Free K ky (w.alloc o) b n p:=h.on (below_new w o)
theorem Free.kept {w w':World} {b n:Nat} {p:α→Bool} {row:Option Nat} (h:Free K ky w b n p) (hg:w.grownBy w' row) (hne:some b≠row):Free K ky w' b n p:=h.block (hg.block b h.lt hne)
theorem Free.eq {w:World} {b n:Nat} {p q:α→Bool} (h:Free K ky w b n p) (e:p = q):Free K ky w b n q:=e ▸ h
variable {w:World} {ops:Array Oper} {rest:List Oper} {o:Oper} {a:Act} {Q:Exit→Act→World→Prop}
theorem wpList_free_put [DecidableEq α] (hg:o.guard = none) (m x v:Operand) (T E:TypeId) (hop:o.op = Op.mapUpdate T m x v) (KK:Keyed Tryz.prog K) (ht:Tryz.prog.underlying T = some (.map K E)) (inj:∀ x y,ky x = ky y→x = y) (lit:∀ x,WideAt.IsKeyLit (ky x))
  (b n:Nat) (p:α→Bool) (hm:a.eval m = .map (some b)) (hown:Free K ky w b n p) (hn:n < 1000000000) (key:Value) (y:α) (hx:a.eval x = key) (hv:a.eval v = .agg #[]) (hkey:keyOf Tryz.prog K key = some (ky y))
  (hK:∀ w',Free K ky w' b (n+1) (fun z=>p z || decide (z = y))→w.grownBy w' (some b)→wpList Tryz.prog ops Q rest (a.put o.dst undef) w'):wpList Tryz.prog ops Q (o :: rest) a w:=by
 obtain ⟨D,h1,h2⟩:=hown
 refine wpList_mapUpdate_own w hg m x v T hop K E KK ht unitElem b n D hm h1 (by unfold maxLen;omega) _ _ (ky y) hx hv hkey _ [] unitElem_mk ?_
 intro w' r1 r2
 refine hK w' ⟨_,r1,fun z=>?_⟩ r2
 by_cases hz:z = y
 ·subst hz
  rw [has_put_same h1.isMap (lit z)]
  simp
 ·rw [has_put_other (fun e=>hz (inj _ _ e)),h2 z]
  simp [hz]
theorem wpList_free_del [DecidableEq α] (hg:o.guard = none) (m x:Operand) (T E:TypeId) (hop:o.op = Op.call { callee:=Callee.builtin Builtin.delete,args:=#[m,x],argTypes:=#[T,K] }) (KK:Keyed Tryz.prog K) (ht:Tryz.prog.underlying T = some (.map K E)) (inj:∀ x y,ky x = ky y→x = y)
  (b n:Nat) (p:α→Bool) (hm:a.eval m = .map (some b)) (hown:Free K ky w b n p) (key:Value) (y:α) (hx:a.eval x = key) (hkey:keyOf Tryz.prog K key = some (ky y))
  (hK:∀ w',Free K ky w' b n (fun z=>p z && decide (z≠y))→w.grownBy w' (some b)→wpList Tryz.prog ops Q rest (a.put o.dst (.tuple #[])) w'):wpList Tryz.prog ops Q (o :: rest) a w:=by
 obtain ⟨D,h1,h2⟩:=hown
 refine wpList_delete_own w hg m x T K hop E KK ht unitElem b n D hm h1 _ (ky y) hx hkey ?_
 intro w' r1 r2
 refine hK w' ⟨_,r1,fun z=>?_⟩ r2.grown
 by_cases hz:z = y
 ·subst hz
  rw [has_del_same]
  simp
 ·rw [has_del_other (fun e=>hz (inj _ _ e)),h2 z]
  simp [hz]
theorem wpList_free_look (hg:o.guard = none) (m x:Operand) (T E:TypeId) (hop:o.op = Op.lookup T m x true) (KK:Keyed Tryz.prog K) (ht:Tryz.prog.underlying T = some (.map K E)) (hz:(zeroValue E).run Tryz.prog w = .ok (.agg #[]) w)
  (b n:Nat) (p:α→Bool) (hm:a.eval m = .map (some b)) (hown:Free K ky w b n p) (key:Value) (y:α) (hx:a.eval x = key) (hkey:keyOf Tryz.prog K key = some (ky y))
  (hK:wpList Tryz.prog ops Q rest (a.put o.dst (.tuple #[.agg #[],.bool (p y)])) w):wpList Tryz.prog ops Q (o :: rest) a w:=by
 obtain ⟨D,h1,h2⟩:=hown
 refine wpList_lookup_own_unit w hg m x T hop K E KK ht hz b n D hm h1 _ (ky y) hx hkey ?_
 rw [h2 y]
 exact hK
end
def kS (x:List UInt8):Lit:=.string x
def kI (n:Int):Lit:=.int .i64 n
theorem kS_inj (x y:List UInt8) (h:kS x = kS y):x = y:=by injection h
theorem kI_inj (x y:Int) (h:kI x = kI y):x = y:=by injection h
theorem kS_lit (x:List UInt8):WideAt.IsKeyLit (kS x):=trivial
theorem kI_lit (x:Int):WideAt.IsKeyLit (kI x):=trivial
theorem kS_law:Keyed Tryz.prog 9:=string_keyed Tryz.underlying9
theorem kI_law:Keyed Tryz.prog 2:=int_keyed Tryz.underlying2
theorem kS_key {x:List UInt8} (h:x.length≤maxLen):keyOf Tryz.prog 9 (.string (txt x)) = some (kS x):=by
 have hs:(txt x).size≤maxLen:=by simpa [txt,ByteArray.size] using h
 rw [keyOf_string_mk Tryz.underlying9 hs]
 rfl
theorem kI_key {n:Int} (h:inr n):keyOf Tryz.prog 2 (.int .i64 n) = some (kI n):=by
 refine keyOf_int_mk Tryz.underlying2 ?_
 simp only [Lit.wf,Bool.and_eq_true,decide_eq_true_eq]
 exact ⟨by show (-9223372036854775808:Int)≤_;unfold inr at h;omega,by show _≤(9223372036854775807:Int);unfold inr at h;omega⟩
end Go.Proofs.YtckcojkpghiclaaGreatDoor
namespace Go.Proofs
open Go.Shelf
def Tryz.laysSlF06_f92_ren:Go.Shelf.Ren:=⟨fun | 6=>92 | 15=>137 | 14=>136 | 28=>188 | 29=>189 | 20=>180 | 21=>181 | 22=>182 | 23=>183 | 24=>184 | 25=>185 | 26=>186 | 27=>187 | 46=>210 | 47=>211 | 48=>212 | 49=>213 | 50=>214 | 57=>226 | n=>n,fun | 22=>29 | 24=>67 | 25=>147 | 3=>3 | 39=>124 | 0=>0 | 53=>229 | 55=>39 | 4=>4 | 46=>223 | 45=>222 | 50=>99 | 5=>5 | 9=>9 | 66=>241 | 70=>245 | 76=>257 | 77=>258 | n=>n,fun | n=>n⟩
theorem Tryz.laysSlF06_f92:Go.Proofs.SlLaysF0.n6 Tryz.prog Tryz.laysSlF06_f92_ren:={
 mixed:=by kernel_rfl
 f6:=⟨Tryz.f92.name,by decide,Tryz.func92.trans (congrArg some (by kernel_rfl))⟩
 f14:=⟨Tryz.f136.name,by decide,Tryz.func136.trans (congrArg some (by kernel_rfl))⟩
 f15:=Tryz.func137.trans (congrArg some (by kernel_rfl))
 f20:=⟨Tryz.f180.name,by decide,Tryz.func180.trans (congrArg some (by kernel_rfl))⟩
 f21:=⟨Tryz.f181.name,by decide,Tryz.func181.trans (congrArg some (by kernel_rfl))⟩
 f22:=⟨Tryz.f182.name,by decide,Tryz.func182.trans (congrArg some (by kernel_rfl))⟩
 f23:=⟨Tryz.f183.name,by decide,Tryz.func183.trans (congrArg some (by kernel_rfl))⟩
 f24:=⟨Tryz.f184.name,by decide,Tryz.func184.trans (congrArg some (by kernel_rfl))⟩
 f25:=⟨Tryz.f185.name,by decide,Tryz.func185.trans (congrArg some (by kernel_rfl))⟩
 f26:=⟨Tryz.f186.name,by decide,Tryz.func186.trans (congrArg some (by kernel_rfl))⟩
 f27:=⟨Tryz.f187.name,by decide,Tryz.func187.trans (congrArg some (by kernel_rfl))⟩
 f28:=Tryz.func188.trans (congrArg some (by kernel_rfl))
 f29:=Tryz.func189.trans (congrArg some (by kernel_rfl))
 f46:=⟨Tryz.f210.name,by decide,Tryz.func210.trans (congrArg some (by kernel_rfl))⟩
 f47:=Tryz.func211.trans (congrArg some (by kernel_rfl))
 f48:=Tryz.func212.trans (congrArg some (by kernel_rfl))
 f49:=⟨Tryz.f213.name,by decide,Tryz.func213.trans (congrArg some (by kernel_rfl))⟩
 f50:=⟨Tryz.f214.name,by decide,Tryz.func214.trans (congrArg some (by kernel_rfl))⟩
 f57:=⟨Tryz.f226.name,by decide,Tryz.func226.trans (congrArg some (by kernel_rfl))⟩
 t0:=Tryz.underlying0
 a0:=Tryz.isAgg0
 z0:=Tryz.sizeOf0
 v0:=Tryz.zeroValue0
 t3:=Tryz.underlying3
 a3:=Tryz.isAgg3
 z3:=Tryz.sizeOf3
 v3:=Tryz.zeroValue3
 t4:=Tryz.underlying4
 a4:=Tryz.isAgg4
 z4:=Tryz.sizeOf4
 v4:=Tryz.zeroValue4
 t5:=Tryz.underlying5
 a5:=Tryz.isAgg5
 z5:=Tryz.sizeOf5
 v5:=Tryz.zeroValue5
 t9:=Tryz.underlying9
 a9:=Tryz.isAgg9
 z9:=Tryz.sizeOf9
 v9:=Tryz.zeroValue9
 t22:=Tryz.underlying29
 a22:=Tryz.isAgg29
 z22:=Tryz.sizeOf29
 v22:=Tryz.zeroValue29
 t25:=Tryz.underlying147
 a25:=Tryz.isAgg147
 z25:=Tryz.sizeOf147
 v25:=Tryz.zeroValue147
 t39:=Tryz.underlying124
 a39:=Tryz.isAgg124
 z39:=Tryz.sizeOf124
 v39:=Tryz.zeroValue124
 t45:=Tryz.underlying222
 a45:=Tryz.isAgg222
 z45:=Tryz.sizeOf222
 v45:=Tryz.zeroValue222
 t46:=Tryz.underlying223
 a46:=Tryz.isAgg223
 z46:=Tryz.sizeOf223
 v46:=Tryz.zeroValue223
 t50:=Tryz.underlying99
 a50:=Tryz.isAgg99
 z50:=Tryz.sizeOf99
 v50:=Tryz.zeroValue99
 t53:=Tryz.underlying229
 a53:=Tryz.isAgg229
 z53:=Tryz.sizeOf229
 v53:=Tryz.zeroValue229
 t55:=Tryz.underlying39
 a55:=Tryz.isAgg39
 z55:=Tryz.sizeOf39
 v55:=Tryz.zeroValue39
 t66:=Tryz.underlying241
 a66:=Tryz.isAgg241
 z66:=Tryz.sizeOf241
 v66:=Tryz.zeroValue241
 t70:=Tryz.underlying245
 a70:=Tryz.isAgg245
 z70:=Tryz.sizeOf245
 v70:=Tryz.zeroValue245
 t76:=Tryz.underlying257
 a76:=Tryz.isAgg257
 z76:=Tryz.sizeOf257
 v76:=Tryz.zeroValue257
 t77:=Tryz.underlying258
 a77:=Tryz.isAgg258
 z77:=Tryz.sizeOf258
 v77:=Tryz.zeroValue258 }
def Tryz.laysSlF06_f178_ren:Go.Shelf.Ren:=⟨fun | 6=>178 | 15=>137 | 14=>208 | 28=>188 | 29=>189 | 20=>218 | 21=>219 | 22=>220 | 23=>221 | 24=>222 | 25=>223 | 26=>224 | 27=>225 | 46=>229 | 47=>211 | 48=>212 | 49=>230 | 50=>231 | 57=>233 | n=>n,fun | 22=>65 | 24=>81 | 25=>220 | 3=>3 | 39=>124 | 0=>0 | 53=>229 | 55=>39 | 4=>4 | 46=>223 | 45=>222 | 50=>99 | 5=>5 | 9=>9 | 66=>241 | 70=>245 | 76=>257 | 77=>258 | n=>n,fun | n=>n⟩
theorem Tryz.laysSlF06_f178:Go.Proofs.SlLaysF0.n6 Tryz.prog Tryz.laysSlF06_f178_ren:={
 mixed:=by kernel_rfl
 f6:=⟨Tryz.f178.name,by decide,Tryz.func178.trans (congrArg some (by kernel_rfl))⟩
 f14:=⟨Tryz.f208.name,by decide,Tryz.func208.trans (congrArg some (by kernel_rfl))⟩
 f15:=Tryz.func137.trans (congrArg some (by kernel_rfl))
 f20:=⟨Tryz.f218.name,by decide,Tryz.func218.trans (congrArg some (by kernel_rfl))⟩
 f21:=⟨Tryz.f219.name,by decide,Tryz.func219.trans (congrArg some (by kernel_rfl))⟩
 f22:=⟨Tryz.f220.name,by decide,Tryz.func220.trans (congrArg some (by kernel_rfl))⟩
 f23:=⟨Tryz.f221.name,by decide,Tryz.func221.trans (congrArg some (by kernel_rfl))⟩
 f24:=⟨Tryz.f222.name,by decide,Tryz.func222.trans (congrArg some (by kernel_rfl))⟩
 f25:=⟨Tryz.f223.name,by decide,Tryz.func223.trans (congrArg some (by kernel_rfl))⟩
 f26:=⟨Tryz.f224.name,by decide,Tryz.func224.trans (congrArg some (by kernel_rfl))⟩
 f27:=⟨Tryz.f225.name,by decide,Tryz.func225.trans (congrArg some (by kernel_rfl))⟩
 f28:=Tryz.func188.trans (congrArg some (by kernel_rfl))
 f29:=Tryz.func189.trans (congrArg some (by kernel_rfl))
 f46:=⟨Tryz.f229.name,by decide,Tryz.func229.trans (congrArg some (by kernel_rfl))⟩
 f47:=Tryz.func211.trans (congrArg some (by kernel_rfl))
 f48:=Tryz.func212.trans (congrArg some (by kernel_rfl))
 f49:=⟨Tryz.f230.name,by decide,Tryz.func230.trans (congrArg some (by kernel_rfl))⟩
 f50:=⟨Tryz.f231.name,by decide,Tryz.func231.trans (congrArg some (by kernel_rfl))⟩
 f57:=⟨Tryz.f233.name,by decide,Tryz.func233.trans (congrArg some (by kernel_rfl))⟩
 t0:=Tryz.underlying0
 a0:=Tryz.isAgg0
 z0:=Tryz.sizeOf0
 v0:=Tryz.zeroValue0
 t3:=Tryz.underlying3
 a3:=Tryz.isAgg3
 z3:=Tryz.sizeOf3
 v3:=Tryz.zeroValue3
 t4:=Tryz.underlying4
 a4:=Tryz.isAgg4
 z4:=Tryz.sizeOf4
 v4:=Tryz.zeroValue4
 t5:=Tryz.underlying5
 a5:=Tryz.isAgg5
 z5:=Tryz.sizeOf5
 v5:=Tryz.zeroValue5
 t9:=Tryz.underlying9
 a9:=Tryz.isAgg9
 z9:=Tryz.sizeOf9
 v9:=Tryz.zeroValue9
 t22:=Tryz.underlying65
 a22:=Tryz.isAgg65
 z22:=Tryz.sizeOf65
 v22:=Tryz.zeroValue65
 t25:=Tryz.underlying220
 a25:=Tryz.isAgg220
 z25:=Tryz.sizeOf220
 v25:=Tryz.zeroValue220
 t39:=Tryz.underlying124
 a39:=Tryz.isAgg124
 z39:=Tryz.sizeOf124
 v39:=Tryz.zeroValue124
 t45:=Tryz.underlying222
 a45:=Tryz.isAgg222
 z45:=Tryz.sizeOf222
 v45:=Tryz.zeroValue222
 t46:=Tryz.underlying223
 a46:=Tryz.isAgg223
 z46:=Tryz.sizeOf223
 v46:=Tryz.zeroValue223
 t50:=Tryz.underlying99
 a50:=Tryz.isAgg99
 z50:=Tryz.sizeOf99
 v50:=Tryz.zeroValue99
 t53:=Tryz.underlying229
 a53:=Tryz.isAgg229
 z53:=Tryz.sizeOf229
 v53:=Tryz.zeroValue229
 t55:=Tryz.underlying39
 a55:=Tryz.isAgg39
 z55:=Tryz.sizeOf39
 v55:=Tryz.zeroValue39
 t66:=Tryz.underlying241
 a66:=Tryz.isAgg241
 z66:=Tryz.sizeOf241
 v66:=Tryz.zeroValue241
 t70:=Tryz.underlying245
 a70:=Tryz.isAgg245
 z70:=Tryz.sizeOf245
 v70:=Tryz.zeroValue245
 t76:=Tryz.underlying257
 a76:=Tryz.isAgg257
 z76:=Tryz.sizeOf257
 v76:=Tryz.zeroValue257
 t77:=Tryz.underlying258
 a77:=Tryz.isAgg258
 z77:=Tryz.sizeOf258
 v77:=Tryz.zeroValue258 }
open Go.RowKit Go.Lib Go.Sort in
theorem Tryz.slices_SortFunc_f92 {α:Type} [Inhabited α] (k:Nat) (aE:∀ w,(isAgg 67).run Tryz.prog w = .ok true w) (zE:∀ w,(Go.sizeOf 67).run Tryz.prog w = .ok k w) (enc:α→List Value) (hk:∀ x,(enc x).length = k) (h1:∀ x,∀ v∈enc x,v.oneCell' = true) (cf:α→α→Int) (hO:SWO (ltOf cf)) (g:Nat) (cb:Array Value) (blk off cap:Nat) (d:Array α) (w:World) (eg:∀ args w,(callFunc g args).run Tryz.prog w = .ok (.enter g args) w) (hcmp:CmpLays Tryz.prog g cb enc k cf blk off d.size w) (hH:HoldsK enc k w blk off d) (hblk:blk < w.heap.size) (hsz:d.size < 4611686018427387904) :
  Calls Tryz.prog 92 #[.slice (some ⟨blk,off,none⟩) d.size cap,.func (.func g) #[] cb] w fun e w' =>
   e = .returned (.tuple #[])∧∃ d' n os,PermIn 0 d.size d d'∧SortedIn (ltOf cf) 0 d.size d'∧w' = sortWorldK enc k w blk off n d' os:=AnyQ.slices_SortFunc Tryz.laysSlF06_f92 k aE zE enc hk h1 cf hO g cb blk off cap d w eg hcmp hH hblk hsz
open Go.RowKit Go.Lib Go.Sort in
theorem Tryz.slices_SortFunc_f178 {α:Type} [Inhabited α] (k:Nat) (aE:∀ w,(isAgg 81).run Tryz.prog w = .ok true w) (zE:∀ w,(Go.sizeOf 81).run Tryz.prog w = .ok k w) (enc:α→List Value) (hk:∀ x,(enc x).length = k) (h1:∀ x,∀ v∈enc x,v.oneCell' = true) (cf:α→α→Int) (hO:SWO (ltOf cf)) (g:Nat) (cb:Array Value) (blk off cap:Nat) (d:Array α) (w:World) (eg:∀ args w,(callFunc g args).run Tryz.prog w = .ok (.enter g args) w) (hcmp:CmpLays Tryz.prog g cb enc k cf blk off d.size w) (hH:HoldsK enc k w blk off d) (hblk:blk < w.heap.size) (hsz:d.size < 4611686018427387904) :
  Calls Tryz.prog 178 #[.slice (some ⟨blk,off,none⟩) d.size cap,.func (.func g) #[] cb] w fun e w' =>
   e = .returned (.tuple #[])∧∃ d' n os,PermIn 0 d.size d d'∧SortedIn (ltOf cf) 0 d.size d'∧w' = sortWorldK enc k w blk off n d' os:=AnyQ.slices_SortFunc Tryz.laysSlF06_f178 k aE zE enc hk h1 cf hO g cb blk off cap d w eg hcmp hH hblk hsz
open Go.RowKit Go.Lib Go.Sort in
theorem Tryz.slices_SortFunc_none_f92 {α:Type} [Inhabited α] (p:Option Addr) (cap:Nat) (fv:Value) (w:World) :
  Calls Tryz.prog 92 #[.slice p 0 cap,fv] w fun e w'=>e = .returned (.tuple #[])∧w' = w:=AnyF.slices_SortFunc_none Tryz.laysSlF06_f92 p cap fv w
open Go.RowKit Go.Lib Go.Sort in
theorem Tryz.slices_SortFunc_none_f178 {α:Type} [Inhabited α] (p:Option Addr) (cap:Nat) (fv:Value) (w:World) :
  Calls Tryz.prog 178 #[.slice p 0 cap,fv] w fun e w'=>e = .returned (.tuple #[])∧w' = w:=AnyF.slices_SortFunc_none Tryz.laysSlF06_f178 p cap fv w
end Go.Proofs

namespace Go.Proofs.YtckcojkpghiclaaGreatDoor
set_option maxRecDepth 100000
open Go.RowKit
end Go.Proofs.YtckcojkpghiclaaGreatDoor
