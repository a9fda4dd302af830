/-
 The two tables of package table,and the contracts of its small functions.
-/
import Derived.Test.YtckcojkpghiclaaGreatDoorTokVars
import Derived.BigQuiet
import Derived.Deep.QuietTactic
import Derived.Great.BuildSlice
import Derived.Deep.WholeRow
import Derived.Laws.CopyOwn
import Derived.Test.YtckcojkpghiclaaGreatDoorUtfFine
namespace Go.Proofs.YtckcojkpghiclaaGreatDoor
set_option maxRecDepth 100000
open Go.RowKit
def plainsC:Array Value:=#[.string (txt tInt64),.int .i64 0,.string (txt tSint64),.int .i64 1,.string (txt tUint32),.int .i64 2,.string (txt tBool),.int .i64 3,.string (txt tFixed32),.int .i64 4,.string (txt tSfixed64),.int .i64 5,.string (txt tString),.int .i64 7,.string (txt tBytes),.int .i64 8]
def stancesC:Array Value:=#[.bool false,.bool false,.bool false,.bool true,.bool false,.bool false,.bool false,.bool true,.bool false,.bool false,.bool false,.bool true]
structure Tabs (w:World):Prop where
 plains:TabAt w 0 plainsC
 stances:TabAt w 2 stancesC
theorem Tabs.on {w w':World} (h:Tabs w) (hb:Below w.heap.size w w'):Tabs w':=⟨h.plains.on hb,h.stances.on hb⟩
theorem index_plain (w:World) {k:Nat} {p:List UInt8 × Nat} (h:plainsL[k]? = some p):(Instr.index 195 (.agg plainsC) (.int .i64 k)).run Tryz.prog w = .ok (.agg #[.string (txt p.1),.int .i64 p.2]) w:=by
 obtain ⟨hk,rfl⟩:=List.getElem?_eq_some_iff.1 h
 have hc:k = 0∨k = 1∨k = 2∨k = 3∨k = 4∨k = 5∨k = 6∨k = 7:=by simp [plainsL] at hk;omega
 clear h
 rcases hc with rfl | rfl | rfl | rfl | rfl | rfl | rfl | rfl <;> (change _ = _;kernel_rfl)
def stanceL:List (Bool × Bool × Bool):=[(false,false,false),(true,false,false),(false,true,false),(false,false,true)]
theorem index_stance (w:World) {k:Nat} {p:Bool × Bool × Bool} (h:stanceL[k]? = some p):(Instr.index 249 (.agg stancesC) (.int .i64 k)).run Tryz.prog w = .ok (.agg #[.bool p.1,.bool p.2.1,.bool p.2.2]) w:=by
 obtain ⟨hk,rfl⟩:=List.getElem?_eq_some_iff.1 h
 have hc:k = 0∨k = 1∨k = 2∨k = 3:=by simp [stanceL] at hk;omega
 clear h
 rcases hc with rfl | rfl | rfl | rfl <;> (change _ = _;kernel_rfl)
theorem isKey_any (k:Int) (w:World):Calls Tryz.prog 190 #[.int .i64 k] w fun e w'=>e = .returned (.bool (keyedB k))∧w = w':=by
 have H:Hid (keyedB k = (k == 0 || k == 1 || k == 2 || k == 3 || k == 4 || k == 5 || k == 7)):=Lib.hid rfl
 go_enter Tryz.func190,Tryz.ntmps190
 go_wp2
 all_goals (go_ret;refine ⟨ret_bool ?_,rfl⟩;rw [H.out];first | (simp_all;done) | (rw [Bool.eq_iff_iff];simp_all [or_assoc]))
theorem isNumber_any (n:Int) (w:World):Calls Tryz.prog 142 #[.int .i64 n] w fun e w'=>e = .returned (.bool (numberB n))∧w = w':=by
 have H:Hid (numberB n = (decide (1≤n) && decide (n≤536870911) && (decide (n < 19000) || decide (19999 < n)))):=Lib.hid (by
  unfold numberB
  congr 1
  rw [Bool.eq_iff_iff]
  simp only [Bool.not_eq_true',Bool.and_eq_false_iff,decide_eq_false_iff_not,Bool.or_eq_true,decide_eq_true_eq]
  omega)
 go_enter Tryz.func142,Tryz.ntmps142
 go_wp2
 all_goals (go_ret;refine ⟨ret_bool ?_,rfl⟩;rw [H.out];first | (simp_all;done) | (rw [Bool.eq_iff_iff];simp only [Bool.and_eq_true,Bool.or_eq_true,decide_eq_true_eq,Bool.false_eq_true,true_iff,false_iff];omega))
theorem isEnums_any (n:Int) (w:World):Calls Tryz.prog 195 #[.int .i64 n] w fun e w'=>e = .returned (.bool (decide (-2147483648≤n) && decide (n≤2147483647)))∧w = w':=by
 go_enter Tryz.func195,Tryz.ntmps195
 go_wp2
 all_goals (go_ret;refine ⟨ret_bool ?_,rfl⟩;first | (simp_all;done) | (rw [Bool.eq_iff_iff];simp only [Bool.and_eq_true,Bool.or_eq_true,decide_eq_true_eq,Bool.false_eq_true,true_iff,false_iff];omega))
theorem mayName_any (n:Int) (w:World):Calls Tryz.prog 144 #[.int .i64 n] w fun e w'=>e = .returned (.bool (decide (1≤n) && decide (n≤30)))∧w = w':=by
 go_enter Tryz.func144,Tryz.ntmps144
 go_wp2
 all_goals (go_ret;refine ⟨ret_bool ?_,rfl⟩;first | (simp_all;done) | (rw [Bool.eq_iff_iff];simp only [Bool.and_eq_true,Bool.or_eq_true,decide_eq_true_eq,Bool.false_eq_true,true_iff,false_iff];omega))
theorem mayHold_any (n m:Int) (w:World):Calls Tryz.prog 95 #[.int .i64 n,.int .i64 m] w fun e w'=>e = .returned (.bool (decide (1≤n) && decide (n≤20) && decide (m≤20)))∧w = w':=by
 go_enter Tryz.func95,Tryz.ntmps95
 go_wp2
 all_goals (go_ret;refine ⟨ret_bool ?_,rfl⟩;first | (simp_all;done) | (rw [Bool.eq_iff_iff];simp only [Bool.and_eq_true,Bool.or_eq_true,decide_eq_true_eq,Bool.false_eq_true,true_iff,false_iff];omega))
theorem eql_stance (a b c a' b' c':Bool) (w:World):Sem.run Tryz.prog (binOp .eql 248 (.agg #[.bool a,.bool b,.bool c]) (.agg #[.bool a',.bool b',.bool c'])) w = .ok (.bool (decide ((a,b,c) = (a',b',c')))) w:=by
 cases a <;> cases b <;> cases c <;> cases a' <;> cases b' <;> cases c' <;> kernel_rfl
theorem stand_list (ones one:Int) (rep pairs:Bool) (h0:0≤one) (h1:one≤ones):standB ones one rep pairs = stanceL.contains (rep,pairs,decide (one≠0)):=by
 unfold standB
 rw [decide_eq_true h0,decide_eq_true h1]
 cases rep <;> cases pairs <;> cases decide (one≠0) <;> rfl
set_option maxRecDepth 1000000 in
set_option maxHeartbeats 1000000 in
theorem mayStand_any (ones one:Int) (rep pairs:Bool) (w:World) (T:Tabs w) :
  Calls Tryz.prog 192 #[.int .i64 ones,.int .i64 one,.bool rep,.bool pairs] w fun e w'=>e = .returned (.bool (standB ones one rep pairs))∧Below w.heap.size w w':=by
 obtain ⟨tt,fr,hT⟩:=T.stances
 clear T
 by_cases h0:one < 0
 ·have H:Hid (standB ones one rep pairs = false):=Lib.hid (by unfold standB;rw [decide_eq_false (by omega)];simp)
  have hd:decide (one < 0) = true:=decide_eq_true h0
  go_enter Tryz.func192,Tryz.ntmps192
  go_wp2
  go_ret
  exact ⟨by rw [H.out];rfl,Below.refl _ _⟩
 ·have hd:decide (one < 0) = false:=decide_eq_false h0
  by_cases h1:ones < one
  ·have H:Hid (standB ones one rep pairs = false):=Lib.hid (by unfold standB;rw [decide_eq_false (show ¬ one≤ones by omega)];simp)
   have hd2:decide (one > ones) = true:=decide_eq_true h1
   have hd3:decide (ones < one) = true:=decide_eq_true h1
   go_enter Tryz.func192,Tryz.ntmps192
   go_wp2
   go_ret
   exact ⟨by rw [H.out];rfl,Below.refl _ _⟩
  ·have H:=Lib.hid (stand_list ones one rep pairs (by omega) (by omega))
   have hd2:decide (one > ones) = false:=decide_eq_false h1
   have hd3:decide (ones < one) = false:=decide_eq_false h1
   obtain ⟨o,ho⟩:∃ o,(one != 0) = o:=⟨_,rfl⟩
   have HO:Hid (decide (one≠0) = o):=Lib.hid (by rw [← ho];by_cases h:one = 0 <;> simp [h])
   go_enter Tryz.func192,Tryz.ntmps192
   go_wp2_with (refine wpList_load_row rfl 249 _ rfl 2 rfl tt _ fr _ hT Tryz.underlying249 rfl (by kernel_rfl) ?_)
   go_loopw [19] (fun i wr=>∃ k:Nat,i = .int .i64 k∧k≤4∧(stanceL.take k).contains (rep,pairs,o) = false∧Below w.heap.size w wr) (fun i _=>4 - (intOf i).toNat)
   case atStart=>exact ⟨0,rfl,by omega,rfl,Below.refl _ _⟩
   case round =>
    obtain ⟨k,rfl,hk,hf,hb⟩:=hrel
    by_cases hlt:k < 4
    ·obtain ⟨p,hp⟩:∃ p,stanceL[k]? = some p:=⟨_,List.getElem?_eq_getElem hlt⟩
     have hi:=index_stance wr hp
     have hq:=fun w=>eql_stance p.1 p.2.1 p.2.2 rep pairs o w
     have HF:=Lib.hid hf
     have HP:=Lib.hid hp
     clear hf hp
     obtain ⟨d,hd⟩:∃ d,decide ((p.1,p.2.1,p.2.2) = (rep,pairs,o)) = d:=⟨_,rfl⟩
     have HD:=Lib.hid hd
     rw [hd] at hq
     clear hd
     cases d with
     | true =>
      go_wp2
      go_ret
      refine ⟨?_,hb.trans (below_new _ _ |>.mono hb.size)⟩
      rw [H.out,HO.out,← of_decide_eq_true HD.out]
      have:stanceL.contains (p.1,p.2.1,p.2.2) = true:=by rw [List.contains_eq_mem,decide_eq_true_eq];exact List.mem_of_getElem? HP.out
      rw [this];rfl
     | false =>
      go_wp2
      refine ⟨⟨k+1,by go_num,by omega,?_,hb.trans (below_new _ _ |>.mono hb.size)⟩,by simp [intOf];omega⟩
      rw [List.take_add_one,HP.out]
      have h1:=HF.out
      have h2:=of_decide_eq_false HD.out
      rw [List.contains_eq_mem,decide_eq_false_iff_not] at h1 ⊢
      intro hm
      rcases List.mem_append.1 hm with hm | hm
      ·exact h1 hm
      ·have:(rep,pairs,o) = p:=by simpa using hm
       exact h2 this.symm
    ·obtain rfl:k = 4:=by omega
     go_wp2
     go_ret
     refine ⟨?_,hb⟩
     rw [H.out,HO.out]
     rw [show stanceL.take 4 = stanceL from rfl] at hf
     rw [hf];rfl
theorem results_row_tmp2 {P:Program} {fn:Func} {p u v:Tmp} {ty:TypeId} (h:fn.results = #[.cell p ty,.tmp u,.tmp v]) (tmps:Array Value) (w:World) (g:Nat) (t:TypeId) (cs:Array Value) (fr:Nat × Nat) (d:TypeDesc)
  (hp:tmps.getD p undef = .pointer (some ⟨g,0,none⟩)) (hg:w.heap[g]? = some (.cells cs t fr))
  (hu:P.underlying ty = some d) (hd:(match d with | .struct _ | .array _ _=>true | _=>false) = true) (hi:(P.info? ty).map (·.size) = some cs.size) :
  (results fn tmps).run P w = .ok (.tuple #[.agg cs,tmps.getD u undef,tmps.getD v undef]) w:=by
 have hp':tmps[p]?.getD undef = .pointer (some ⟨g,0,none⟩):=by simpa using hp
 simp [results,h,hp',asAddr,run_loadVar_row w g t ty cs fr d hg hu hd hi]
theorem results_row_tmp1 {P:Program} {fn:Func} {p u:Tmp} {ty:TypeId} (h:fn.results = #[.cell p ty,.tmp u]) (tmps:Array Value) (w:World) (g:Nat) (t:TypeId) (cs:Array Value) (fr:Nat × Nat) (d:TypeDesc)
  (hp:tmps.getD p undef = .pointer (some ⟨g,0,none⟩)) (hg:w.heap[g]? = some (.cells cs t fr))
  (hu:P.underlying ty = some d) (hd:(match d with | .struct _ | .array _ _=>true | _=>false) = true) (hi:(P.info? ty).map (·.size) = some cs.size) :
  (results fn tmps).run P w = .ok (.tuple #[.agg cs,tmps.getD u undef]) w:=by
 have hp':tmps[p]?.getD undef = .pointer (some ⟨g,0,none⟩):=by simpa using hp
 simp [results,h,hp',asAddr,run_loadVar_row w g t ty cs fr d hg hu hd hi]
theorem own_below {w w':World} {base:Nat} {e:TypeId} {size:Nat} {v:Value} {n:Nat} {xs:List Value} (h:w.ownsRow base e size v n xs) (hb:Below w.heap.size w w'):w'.ownsRow base e size v n xs:=by
 rcases h with ⟨hl,⟨rfl,rfl⟩ | ⟨g,cap,cur,rfl,h1,h2,h3⟩⟩
 ·exact ⟨hl,.inl ⟨rfl,rfl⟩⟩
 ·exact ⟨hl,.inr ⟨g,cap,cur,rfl,h1,(hb.block g (Array.getElem?_eq_some_iff.1 h2).1).trans h2,h3⟩⟩
theorem heap_cell {w:World} {g:Nat} {cs:Array Value} {t:TypeId} {fr:Nat × Nat} (h:w.heap[g]? = some (.cells cs t fr)) (j:Nat):w.cell? ⟨g,j,none⟩ = cs[j]?:=by simp [World.cell?,h]
theorem heap_free {w:World} {g:Nat} {cs:Array Value} {t:TypeId} (h:w.heap[g]? = some (.cells cs t (0,0))) (j:Nat):w.frozen? ⟨g,j,none⟩ = false:=by simp [World.frozen?,h]
theorem heap_setCell_same {w:World} {g j:Nat} {cs:Array Value} {t:TypeId} {fr:Nat × Nat} (h:w.heap[g]? = some (.cells cs t fr)) (v:Value):(w.setCell ⟨g,j,none⟩ v).heap[g]? = some (.cells (cs.setIfInBounds j v) t fr):=by
 rw [setCell_eq_setRow w g j cs t fr v h]
 exact setRow_heap w g cs _ t fr h
end Go.Proofs.YtckcojkpghiclaaGreatDoor
