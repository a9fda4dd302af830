/-
 A message's fields are sorted by their numbers: the contract.
-/
import Derived.Test.YtckcojkpghiclaaGreatDoorTabFld
import Derived.StillTailTactics
import Derived.Test.YtckcojkpghiclaaGreatDoorVarMay
import Derived.DeepKeys5
import Derived.BigQuiet
namespace Go.Proofs.YtckcojkpghiclaaGreatDoor
set_option maxRecDepth 100000
open Go.RowKit Go.Lib Go.Sort
end Go.Proofs.YtckcojkpghiclaaGreatDoor
namespace Go.Proofs.YtckcojkpghiclaaGreatDoor
set_option maxRecDepth 100000
open Go.RowKit Go.Maps
theorem free1S (v:Value) (l:List (List UInt8)) (w:World) (hr:Rb w.heap.size w v l.length 1 (strv l)) (hl:l.length ≤ 100000) (hx:∀ x ∈ l,x.length ≤ maxLen) :
  Calls Tryz.prog 139 #[.slice (some ⟨w.heap.size,0,none⟩) 1 1] (w.alloc (.cells #[v] 82)) fun e w'=>e = .returned (.map (some (w.heap.size + 1))) ∧ FreeS w' (w.heap.size + 1) l.length (fun y=>l.contains y) ∧ Below w.heap.size w w':=by
 obtain ⟨A,c,rfl,hs,hA⟩:=hr
 have hbw:=below_new w (.cells #[.slice A l.length c] 82)
 have h:=freeOfS_any (some ⟨w.heap.size,0,none⟩) 1 [l] [.slice A l.length c] (w.alloc (.cells #[.slice A l.length c] 82)) (Sl.new w [.slice A l.length c] _ (by unfold maxLen; simp)) (by
  intro k l' hk
  match k,hk with
  | 0,hk =>
   obtain rfl:l = l':=by simpa using hk
   exact ⟨A,c,rfl,hs.on hbw,fun ad ha hp=>Nat.lt_of_lt_of_le (hA ad ha hp) hbw.size⟩
  | k + 1,hk=>simp at hk) (by simpa using hl) (by
  intro l' hl' x hxl
  obtain rfl:l' = l:=by simpa using hl'
  exact hx x hxl) (by simp)
 refine h.mono ?_
 rintro e w' ⟨rfl,hm,hb⟩
 have e1:(w.alloc (.cells #[.slice A l.length c] 82)).heap.size = w.heap.size + 1:=by simp
 rw [e1] at hm
 have e2:[l].flatten = l:=by simp
 rw [e2] at hm
 exact ⟨by rw [e1],hm,below_then hbw hb⟩
theorem free1I (v:Value) (l:List Int) (w:World) (hr:Rb w.heap.size w v l.length 1 (intv l)) (hl:l.length ≤ 100000) (hx:∀ x ∈ l,inr x) :
  Calls Tryz.prog 193 #[.slice (some ⟨w.heap.size,0,none⟩) 1 1] (w.alloc (.cells #[v] 53)) fun e w'=>e = .returned (.map (some (w.heap.size + 1))) ∧ FreeI w' (w.heap.size + 1) l.length (fun y=>l.contains y) ∧ Below w.heap.size w w':=by
 obtain ⟨A,c,rfl,hs,hA⟩:=hr
 have hbw:=below_new w (.cells #[.slice A l.length c] 53)
 have h:=freeOfI_any (some ⟨w.heap.size,0,none⟩) 1 [l] [.slice A l.length c] (w.alloc (.cells #[.slice A l.length c] 53)) (Sl.new w [.slice A l.length c] _ (by unfold maxLen; simp)) (by
  intro k l' hk
  match k,hk with
  | 0,hk =>
   obtain rfl:l = l':=by simpa using hk
   exact ⟨A,c,rfl,hs.on hbw,fun ad ha hp=>Nat.lt_of_lt_of_le (hA ad ha hp) hbw.size⟩
  | k + 1,hk=>simp at hk) (by simpa using hl) (by
  intro l' hl' x hxl
  obtain rfl:l' = l:=by simpa using hl'
  exact hx x hxl) (by simp)
 refine h.mono ?_
 rintro e w' ⟨rfl,hm,hb⟩
 have e1:(w.alloc (.cells #[.slice A l.length c] 53)).heap.size = w.heap.size + 1:=by simp
 rw [e1] at hm
 have e2:[l].flatten = l:=by simp
 rw [e2] at hm
 exact ⟨by rw [e1],hm,below_then hbw hb⟩
theorem wrongB_code {V:List (List UInt8)} {N:List Int} {k:Nat} {x:List UInt8} {n:Int} (hx:V[k]? = some x) (hn:N[k]? = some n) :
  wrongB V N k x n = (!still V [] k x || !still N [] k n || !(decide (-2147483648 ≤ n) && decide (n ≤ 2147483647)) || (k == 0 && n != 0)):=by
 rw [still_self hx,still_self hn]
 unfold wrongB
 simp
theorem still_none {α:Type} [BEq α] [LawfulBEq α] (l:List α):(fun y=>l.contains y) = still l [] 0:=by funext y; simp [still]
set_option maxRecDepth 1000000 in
set_option maxHeartbeats 4000000 in
theorem wrong_any (B:Nat) (vN vI:Value) (V:List (List UInt8)) (N:List Int) (w:World) (hB:B ≤ w.heap.size) (hN:Rb B w vN V.length 1 (strv V)) (hI:Rb B w vI N.length 1 (intv N)) (hlen:V.length = N.length) (hl:N.length ≤ 100000) (hV:∀ x ∈ V,x.length ≤ maxLen) (hNi:∀ n ∈ N,inr n) :
  Calls Tryz.prog 145 #[vN,vI] w fun e w'=>∃ r:Nat,e = .returned (.int .i64 r) ∧ r ≤ N.length ∧ (∀ (k:Nat) x n,k < r → V[k]? = some x → N[k]? = some n → wrongB V N k x n = false) ∧ (∀ x n,V[r]? = some x → N[r]? = some n → wrongB V N r x n = true) ∧ Below w.heap.size w w':=by
 have HF1:=Lib.hid (free1S vN V w (hN.mono hB) (by omega) hV)
 have HF2:=Lib.hid (fun wx (hx:Below w.heap.size w wx)=>free1I vI N wx ((hI.low (Low.below hx hB)).mono (Nat.le_trans hB hx.size)) (by omega) hNi)
 obtain ⟨A1,c1,rfl,s1,a1⟩:=hN
 obtain ⟨A2,c2,rfl,s2,a2⟩:=hI
 have HS1:=Lib.hid s1
 have HS2:=Lib.hid s2
 have HV:=Lib.hid hV
 have HN:=Lib.hid hNi
 have HL:=Lib.hid hlen
 clear s1 s2 hV hNi hlen
 go_enter Tryz.func145,Tryz.ntmps145
 go_wp2_with (first
  | (go_at_call 139; refine HF1.out.mono ?_; rintro e w2 ⟨rfl,hm2,hb2⟩; replace hm2:=hm2.eq (still_none V); have hz2:=hm2.lt)
  | (go_at_call 193; refine (HF2.out _ hb2).mono ?_; rintro e w3 ⟨rfl,hm3,hb3⟩; replace hm3:=hm3.eq (still_none N); have hn3:=hm2.on hb3; have hz3:=hm3.lt; have hbw3:=below_then hb2 hb3))
 obtain ⟨b1,hb1e⟩:∃ b1,w.heap.size + 1 = b1:=⟨_,rfl⟩
 obtain ⟨b2,hb2e⟩:∃ b2,w2.heap.size + 1 = b2:=⟨_,rfl⟩
 simp only [hb1e,hb2e] at hn3 hm3 hz2 hz3 ⊢
 have l1:w.heap.size < b1:=by omega
 have l2:b1 < b2:=by omega
 clear hm2 hb2 hb3 HF1 HF2
 go_loopw [17] (fun i wr=>∃ k:Nat,i = .int .i64 k ∧ k ≤ N.length ∧ (∀ (j:Nat) x n,j < k → V[j]? = some x → N[j]? = some n → wrongB V N j x n = false) ∧ FreeS wr b1 V.length (still V [] k) ∧ FreeI wr b2 N.length (still N [] k) ∧ Below w.heap.size w wr) (fun i _=>N.length - (intOf i).toNat)
 case atStart=>exact ⟨0,rfl,by omega,fun j x n hj=>by omega,hn3,hm3,hbw3⟩
 case round =>
  obtain ⟨k,rfl,hk,herr,hmS,hmI,hb⟩:=hrel
  have HER:=Lib.hid herr
  clear herr
  by_cases hlt:k < N.length
  ·have hlt2:k < V.length:=by rw [HL.out]; exact hlt
   obtain ⟨n,hn0⟩:∃ n,N[k]? = some n:=⟨_,List.getElem?_eq_getElem hlt⟩
   obtain ⟨x,hx0⟩:∃ x,V[k]? = some x:=⟨_,List.getElem?_eq_getElem hlt2⟩
   obtain ⟨ad,rfl,hg,c0⟩:=intr_at (HS2.out.low a2 (Low.below hb hB)) hn0
   obtain ⟨ad',rfl,hg',c0'⟩:=strr_at (HS1.out.low a1 (Low.below hb hB)) hx0
   have hxl:=HV.out x (List.mem_of_getElem? hx0)
   have hnl:=HN.out n (List.mem_of_getElem? hn0)
   obtain ⟨p1,hp1⟩:∃ p,still V [] k x = p:=⟨_,rfl⟩
   obtain ⟨p2,hp2⟩:∃ p,still N [] k n = p:=⟨_,rfl⟩
   obtain ⟨p3,hp3⟩:∃ p,(decide (-2147483648 ≤ n) && decide (n ≤ 2147483647)) = p:=⟨_,rfl⟩
   have HW:=Lib.hid (wrongB_code hx0 hn0)
   have HT1:=fun wx hx=>takeS_any b1 V.length (still V [] k) x hxl wx hx
   have HT2:=fun wx hx=>takeI_any b2 N.length (still N [] k) n hnl wx hx
   have HT3:=fun wx=>isEnums_any n wx
   simp only [hp1] at HT1
   simp only [hp2] at HT2
   simp only [hp3] at HT3
   rw [hp1,hp2,hp3] at HW
   have HQ1:=Lib.hid HT1
   have HQ2:=Lib.hid HT2
   have HQ3:=Lib.hid HT3
   have HX0:=Lib.hid hx0
   have HN0:=Lib.hid hn0
   have HB:=Lib.hid hb
   have fin:∀ (w':World),wrongB V N k x n = true → Below w.heap.size w w' → ∃ r:Nat,Ending.returned (.int .i64 ((k:Nat):Int)) = .returned (.int .i64 r) ∧ r ≤ N.length ∧ (∀ (k:Nat) x n,k < r → V[k]? = some x → N[k]? = some n → wrongB V N k x n = false) ∧ (∀ x n,V[r]? = some x → N[r]? = some n → wrongB V N r x n = true) ∧ Below w.heap.size w w':=by
    intro w' hwr hbw
    refine ⟨k,rfl,by omega,HER.out,fun y q hy hq=>?_,hbw⟩
    rw [HX0.out] at hy
    rw [HN0.out] at hq
    obtain rfl:=Option.some.inj hy
    obtain rfl:=Option.some.inj hq
    exact hwr
   have FIN:=Lib.hid fin
   clear hx0 hn0 hp1 hp2 hp3 HT1 HT2 HT3 hg hg' fin hxl hnl
   cases p1 with
   | false =>
    go_wp2_with (go_at_call 101; refine (HQ1.out _ hmS).mono ?_; rintro e w8 ⟨rfl,hm8,hg8⟩)
    go_ret
    exact FIN.out _ (by rw [HW.out]; rfl) (HB.out.grown hg8 HB.out.size (fun j hj=>by injection hj with hj; omega))
   | true =>
    cases p2 with
    | false =>
     go_wp2_with (first
      | (go_at_call 101; refine (HQ1.out _ hmS).mono ?_; rintro e w8 ⟨rfl,hm8,hg8⟩; have hbw8:=HB.out.grown hg8 HB.out.size (fun j hj=>by injection hj with hj; omega))
      | (go_at_call 194; refine (HQ2.out _ (hmI.kept hg8 (by simp; omega))).mono ?_; rintro e w9 ⟨rfl,hm9,hg9⟩))
     go_ret
     exact FIN.out _ (by rw [HW.out]; rfl) (hbw8.grown hg9 hbw8.size (fun j hj=>by injection hj with hj; omega))
    | true =>
     cases p3 with
     | false =>
      go_wp2_with (first
       | (go_at_call 101; refine (HQ1.out _ hmS).mono ?_; rintro e w8 ⟨rfl,hm8,hg8⟩; have hbw8:=HB.out.grown hg8 HB.out.size (fun j hj=>by injection hj with hj; omega))
       | (go_at_call 194; refine (HQ2.out _ (hmI.kept hg8 (by simp; omega))).mono ?_; rintro e w9 ⟨rfl,hm9,hg9⟩)
       | (go_at_call 195; refine (HQ3.out _).mono ?_; rintro e w9' ⟨rfl,rfl⟩))
      go_ret
      exact FIN.out _ (by rw [HW.out]; rfl) (hbw8.grown hg9 hbw8.size (fun j hj=>by injection hj with hj; omega))
     | true =>
      by_cases hz:k = 0 ∧ n ≠ 0
      ·have hk0:((k:Int) == 0) = true:=by simp [hz.1]
       have hn1:(n != 0) = true:=by simp [hz.2]
       have HWW:Hid (wrongB V N k x n = true):=Lib.hid (by rw [HW.out]; simp [hz.1,hz.2])
       clear hz
       go_wp2_with (first
        | (go_at_call 101; refine (HQ1.out _ hmS).mono ?_; rintro e w8 ⟨rfl,hm8,hg8⟩; have hbw8:=HB.out.grown hg8 HB.out.size (fun j hj=>by injection hj with hj; omega))
        | (go_at_call 194; refine (HQ2.out _ (hmI.kept hg8 (by simp; omega))).mono ?_; rintro e w9 ⟨rfl,hm9,hg9⟩)
        | (go_at_call 195; refine (HQ3.out _).mono ?_; rintro e w9' ⟨rfl,rfl⟩))
       go_ret
       exact FIN.out _ HWW.out (hbw8.grown hg9 hbw8.size (fun j hj=>by injection hj with hj; omega))
      ·have HWW:Hid (wrongB V N k x n = false):=Lib.hid (by
        rw [HW.out]
        by_cases h1:k = 0
        ·have:n = 0:=Classical.byContradiction fun h2=>hz ⟨h1,h2⟩
         simp [this]
        ·simp [h1])
       obtain ⟨a1',ha1⟩:∃ a,((k:Int) == 0) = a:=⟨_,rfl⟩
       obtain ⟨a2',ha2⟩:∃ a,(n != 0) = a:=⟨_,rfl⟩
       have HZ:Hid ((a1' && a2') = false):=Lib.hid (by
        rw [← ha1,← ha2]
        by_cases h1:k = 0
        ·have:n = 0:=Classical.byContradiction fun h2=>hz ⟨h1,h2⟩
         simp [this]
        ·have:((k:Int) == 0) = false:=by simp; omega
         simp [this])
       clear hz
       have next:∀ w8 w9,FreeS w8 b1 V.length (fun y=>still V [] k y && decide (y ≠ x)) → wr.grownBy w8 (some b1) → FreeI w9 b2 N.length (fun y=>still N [] k y && decide (y ≠ n)) → w8.grownBy w9 (some b2) →
         (∀ (j:Nat) x n,j < k + 1 → V[j]? = some x → N[j]? = some n → wrongB V N j x n = false) ∧ FreeS w9 b1 V.length (still V [] (k + 1)) ∧ FreeI w9 b2 N.length (still N [] (k + 1)) ∧ Below w.heap.size w w9:=by
        intro w8 w9 hm8 hg8 hm9 hg9
        have hbw8:=HB.out.grown hg8 HB.out.size (fun j hj=>by injection hj with hj; omega)
        refine ⟨fun j y q hj hy hq=>?_,(hm8.kept hg9 (by simp; omega)).eq (still_next HX0.out),hm9.eq (still_next HN0.out),hbw8.grown hg9 hbw8.size (fun j hj=>by injection hj with hj; omega)⟩
        by_cases hj2:j < k
        ·exact HER.out j y q hj2 hy hq
        ·obtain rfl:j = k:=by omega
         rw [HX0.out] at hy
         rw [HN0.out] at hq
         obtain rfl:=Option.some.inj hy
         obtain rfl:=Option.some.inj hq
         exact HWW.out
       have NX:=Lib.hid next
       clear next
       cases a1' <;> cases a2'
       case true.true=>exact absurd HZ.out (by simp)
       all_goals
        go_wp2_with (first
         | (go_at_call 101; refine (HQ1.out _ hmS).mono ?_; rintro e w8 ⟨rfl,hm8,hg8⟩)
         | (go_at_call 194; refine (HQ2.out _ (hmI.kept hg8 (by simp; omega))).mono ?_; rintro e w9 ⟨rfl,hm9,hg9⟩)
         | (go_at_call 195; refine (HQ3.out _).mono ?_; rintro e w9' ⟨rfl,rfl⟩))
        obtain ⟨r1,r2,r3,r4⟩:=NX.out w8 w9 hm8 hg8 hm9 hg9
        exact ⟨⟨k + 1,by go_num,by omega,r1,r2,r3,r4⟩,by simp [intOf]; omega⟩
  ·obtain rfl:k = N.length:=by omega
   go_wp2
   go_ret
   refine ⟨N.length,rfl,Nat.le_refl _,HER.out,fun x n _ hn=>?_,hb⟩
   rw [List.getElem?_eq_none (Nat.le_refl _)] at hn
   cases hn
set_option maxHeartbeats 2000000 in
theorem mayRefer_any (A1 A2:Option Addr) (q1 q2:Nat) (s:Sc) (kind ref:Int) (w:World) :
  Calls Tryz.prog 191 #[.agg #[.slice A1 s.M.length q1,.slice A2 s.E.length q2],.int .i64 kind,.int .i64 ref] w fun e w'=>e = .returned (.bool (referB s kind ref)) ∧ Below w.heap.size w w':=by
 have H:Hid (referB s kind ref = (decide (0 ≤ kind) && decide (kind < 10) && decide (0 ≤ ref) && decide (ref < if kind = 9 then (s.M.length:Int) else if kind = 6 then (s.E.length:Int) else 1))):=Lib.hid rfl
 by_cases h9:kind = 9
 ·subst h9
  rw [if_pos rfl] at H
  go_enter Tryz.func191,Tryz.ntmps191
  go_wp2
  all_goals (go_ret; refine ⟨ret_bool ?_,below_new _ _⟩; rw [H.out]; first | (simp_all; done) | (rw [Bool.eq_iff_iff]; simp only [Bool.and_eq_true,decide_eq_true_eq,Bool.false_eq_true,true_iff,false_iff]; omega))
 ·rw [if_neg h9] at H
  have n9:(kind == 9) = false:=beq_eq_false_iff_ne.2 h9
  by_cases h6:kind = 6
  ·subst h6
   rw [if_pos rfl] at H
   clear h9
   go_enter Tryz.func191,Tryz.ntmps191
   go_wp2
   all_goals (go_ret; refine ⟨ret_bool ?_,below_new _ _⟩; rw [H.out]; first | (simp_all; done) | (rw [Bool.eq_iff_iff]; simp only [Bool.and_eq_true,decide_eq_true_eq,Bool.false_eq_true,true_iff,false_iff]; omega))
  ·rw [if_neg h6] at H
   have n6:(kind == 6) = false:=beq_eq_false_iff_ne.2 h6
   go_enter Tryz.func191,Tryz.ntmps191
   go_wp2
   all_goals (go_ret; refine ⟨ret_bool ?_,below_new _ _⟩; rw [H.out]; first | (simp_all; done) | (rw [Bool.eq_iff_iff]; simp only [Bool.and_eq_true,decide_eq_true_eq,Bool.false_eq_true,true_iff,false_iff]; omega))
set_option maxHeartbeats 4000000 in
theorem mayField_any (A1 A2:Option Addr) (q1 q2:Nat) (s:Sc) (d:Df) (w:World) (T:Tabs w) :
  Calls Tryz.prog 143 #[.agg #[.slice A1 s.M.length q1,.slice A2 s.E.length q2],.agg #[.int .i64 d.no,.string (txt d.name),.int .i64 d.kind,.int .i64 d.ref,.bool d.rep,.int .i64 d.key,.int .i64 d.one]] w fun e w'=>e = .returned (.bool (fdMayB s d)) ∧ Below w.heap.size w w':=by
 obtain ⟨kb,hkb⟩:∃ b,decide (d.key ≠ -1) = b:=⟨_,rfl⟩
 obtain ⟨p1,hp1⟩:∃ b,keyedB d.key = b:=⟨_,rfl⟩
 obtain ⟨p2,hp2⟩:∃ b,referB s d.kind d.ref = b:=⟨_,rfl⟩
 obtain ⟨p3,hp3⟩:∃ b,standB 30 d.one d.rep kb = b:=⟨_,rfl⟩
 have H:Hid (fdMayB s d = (!(kb && !p1) && p2 && p3)):=Lib.hid (by unfold fdMayB; rw [hkb,hp1,hp2,hp3])
 have hk2:(d.key != -1) = kb:=by rw [← hkb]; by_cases h:d.key = -1 <;> simp [h]
 have H1:=fun wx=>isKey_any d.key wx
 have H2:=fun wx=>mayRefer_any A1 A2 q1 q2 s d.kind d.ref wx
 have H3:=fun wx (hT:Tabs wx)=>mayStand_any 30 d.one d.rep kb wx hT
 simp only [hp1] at H1
 simp only [hp2] at H2
 simp only [hp3] at H3
 have Q1:=Lib.hid H1
 have Q2:=Lib.hid H2
 have Q3:=Lib.hid H3
 have hb0:Below w.heap.size w ((w.alloc (.cells #[.slice A1 s.M.length q1,.slice A2 s.E.length q2] 25)).alloc (.cells #[.int .i64 d.no,.string (txt d.name),.int .i64 d.kind,.int .i64 d.ref,.bool d.rep,.int .i64 d.key,.int .i64 d.one] 45)):=below_lit (below_new _ _) _
 have hx0:=heap_second w (.cells #[.slice A1 s.M.length q1,.slice A2 s.E.length q2] 25) (.cells #[.int .i64 d.no,.string (txt d.name),.int .i64 d.kind,.int .i64 d.ref,.bool d.rep,.int .i64 d.key,.int .i64 d.one] 45)
 have HT:=Lib.hid T
 clear H1 H2 H3 hkb hp1 hp2 hp3 T
 have hs0:((w.alloc (.cells #[.slice A1 s.M.length q1,.slice A2 s.E.length q2] 25)).alloc (.cells #[.int .i64 d.no,.string (txt d.name),.int .i64 d.kind,.int .i64 d.ref,.bool d.rep,.int .i64 d.key,.int .i64 d.one] 45)).heap.size = w.heap.size + 2:=by simp
 cases kb with
 | true =>
  cases p1 with
  | false =>
   go_enter Tryz.func143,Tryz.ntmps143
   go_wp2_with (go_at_call 190; refine (Q1.out _).mono ?_; rintro e w1 ⟨rfl,rfl⟩)
   go_ret
   exact ⟨by rw [H.out]; rfl,hb0⟩
  | true =>
   cases p2 with
   | false =>
    go_enter Tryz.func143,Tryz.ntmps143
    go_wp2_with (first
     | (go_at_call 190; refine (Q1.out _).mono ?_; rintro e w1 ⟨rfl,rfl⟩)
     | (go_at_call 191; refine (Q2.out _).mono ?_; rintro e w1 ⟨rfl,hb1⟩))
    go_ret
    exact ⟨by rw [H.out]; rfl,below_then hb0 hb1⟩
   | true =>
    go_enter Tryz.func143,Tryz.ntmps143
    go_wp2_with (first
     | (go_at_call 190; refine (Q1.out _).mono ?_; rintro e w1 ⟨rfl,rfl⟩)
     | (go_at_call 191; refine (Q2.out _).mono ?_; rintro e w1 ⟨rfl,hb1⟩; have hx1:=(hb1.block _ (by rw [hs0]; omega)).trans hx0; have c4:=heap_cell hx1 4; have c6:=heap_cell hx1 6; simp at c4 c6)
     | (go_at_call 192; refine (Q3.out _ (HT.out.on (below_then hb0 hb1))).mono ?_; rintro e w2 ⟨rfl,hb2⟩))
    go_ret
    exact ⟨by rw [H.out]; cases p3 <;> rfl,below_then (below_then hb0 hb1) hb2⟩
 | false =>
  cases p2 with
  | false =>
   go_enter Tryz.func143,Tryz.ntmps143
   go_wp2_with (go_at_call 191; refine (Q2.out _).mono ?_; rintro e w1 ⟨rfl,hb1⟩)
   go_ret
   exact ⟨by rw [H.out]; cases p1 <;> rfl,below_then hb0 hb1⟩
  | true =>
   go_enter Tryz.func143,Tryz.ntmps143
   go_wp2_with (first
    | (go_at_call 191; refine (Q2.out _).mono ?_; rintro e w1 ⟨rfl,hb1⟩; have hx1:=(hb1.block _ (by rw [hs0]; omega)).trans hx0; have c4:=heap_cell hx1 4; have c6:=heap_cell hx1 6; simp at c4 c6)
    | (go_at_call 192; refine (Q3.out _ (HT.out.on (below_then hb0 hb1))).mono ?_; rintro e w2 ⟨rfl,hb2⟩))
   go_ret
   exact ⟨by rw [H.out]; cases p1 <;> cases p3 <;> rfl,below_then (below_then hb0 hb1) hb2⟩
set_option maxRecDepth 1000000 in
set_option maxHeartbeats 4000000 in
theorem mayMessage_any (B:Nat) (A1 A2:Option Addr) (q1 q2:Nat) (s:Sc) (m:Md) (vF:Value) (w:World) (hB:B ≤ w.heap.size) (hr:Rb B w vF m.F.length 7 (dfv m.F)) (hin:MdIn m) (T:Tabs w) :
  Calls Tryz.prog 102 #[.agg #[.slice A1 s.M.length q1,.slice A2 s.E.length q2],.agg #[.string (txt m.name),vF]] w fun e w'=>∃ b,e = .returned (.bool b) ∧ (b = true ↔ MdMay s m) ∧ Below w.heap.size w w':=by
 have HEA:=Lib.hid (fun wx (hx:Below w.heap.size w wx) (hl:m.F.length ≤ 30)=>eachDf_any B vF m.F (by omega) wx (Nat.le_trans hB hx.size) (hr.low (Low.below hx hB)))
 obtain ⟨AF,cF,rfl,sF,aF⟩:=hr
 have HSF:=Lib.hid sF
 have HIN:=Lib.hid hin
 have HT:=Lib.hid T
 have HI:=Lib.hid (mdMay_iff s m)
 have hb0:Below w.heap.size w ((w.alloc (.cells #[.slice A1 s.M.length q1,.slice A2 s.E.length q2] 25)).alloc (.cells #[.string (txt m.name),.slice AF m.F.length cF] 56)):=below_lit (below_new _ _) _
 have hx0:((w.alloc (.cells #[.slice A1 s.M.length q1,.slice A2 s.E.length q2] 25)).alloc (.cells #[.string (txt m.name),.slice AF m.F.length cF] 56)).heap[w.heap.size]? = some (.cells #[.slice A1 s.M.length q1,.slice A2 s.E.length q2] 25 (0,0)):=((below_new _ _).block _ (by simp)).trans (heap_alloc_new w _)
 have hr0:=heap_second w (.cells #[.slice A1 s.M.length q1,.slice A2 s.E.length q2] 25) (.cells #[.string (txt m.name),.slice AF m.F.length cF] 56)
 have hs0:((w.alloc (.cells #[.slice A1 s.M.length q1,.slice A2 s.E.length q2] 25)).alloc (.cells #[.string (txt m.name),.slice AF m.F.length cF] 56)).heap.size = w.heap.size + 2:=by simp
 have hnx:∀ x ∈ mdNames m,x.length ≤ maxLen:=by
  intro x hx
  obtain ⟨d,hd,rfl⟩:=List.mem_map.1 hx
  exact (hin.F d hd).name
 have hnl:(mdNames m).length = m.F.length:=by simp [mdNames]
 clear sF hin T
 by_cases h30:m.F.length ≤ 30
 ·have hd:decide ((30:Int) < (m.F.length:Int)) = false:=by rw [decide_eq_false_iff_not]; omega
  have HE1:=Lib.hid (HEA.out _ hb0 h30)
  clear HEA
  go_enter Tryz.func102,Tryz.ntmps102
  go_wp2_with (first
   | (go_at_call 140; refine HE1.out.mono ?_; rintro e w1 ⟨uN,rfl,ho1,hb1⟩; obtain ⟨AN,cN,rfl,-⟩:=Sl.of_own ho1; have hz1:=hb1.size; rw [hs0] at hz1; have HF1:=Lib.hid (free1S _ (mdNames m) w1 (by rw [hnl]; exact Rb.of_own ho1) (by omega) hnx))
   | (go_at_call 139; refine HF1.out.mono ?_; rintro e w2 ⟨rfl,hm2,hb2⟩; replace hm2:=hm2.eq (still_none (mdNames m)); rw [hnl] at hm2; have hbw2:=below_then (below_then hb0 hb1) hb2; have hx2:=(hb2.block _ (by omega)).trans ((hb1.block _ (by rw [hs0]; omega)).trans hx0); have hr2:=(hb2.block _ (by omega)).trans ((hb1.block _ (by rw [hs0]; omega)).trans hr0); have c2:=heap_cell hr2 1; simp at c2; have hz2:=hm2.lt))
  obtain ⟨b1,hb1e⟩:∃ b1,w1.heap.size + 1 = b1:=⟨_,rfl⟩
  simp only [hb1e] at hm2 hz2 ⊢
  have l1:w.heap.size + 2 ≤ b1:=by omega
  have HX2:=Lib.hid hx2
  have HB2:=Lib.hid hbw2
  clear hx0 hr0 hx2 hr2 hb0 hb1 hb2 hbw2 c2 HF1 HE1 hnx ho1
  go_loopw [6,21] (fun o i wr=>∃ k:Nat,i = .int .i64 k ∧ o = .int .i64 (lastNo m.F k) ∧ k ≤ m.F.length ∧ (∀ j d,j < k → m.F[j]? = some d → mdAtB s m j d = true) ∧ FreeS wr b1 m.F.length (still (mdNames m) [] k) ∧ Below (w.heap.size + 1) w2 wr) (fun _ i _=>m.F.length - (intOf i).toNat)
  case atStart=>exact ⟨0,rfl,rfl,by omega,fun j d hj=>by omega,hm2,Below.refl _ _⟩
  case round =>
   obtain ⟨k,rfl,rfl,hk,herr,hmS,hb⟩:=hrel
   have hxr:=(hb.block w.heap.size (by omega)).trans HX2.out
   have hbw:=HB2.out.trans (hb.mono (by omega))
   have hzr:=hb.size
   have HQ:=Lib.hid herr
   clear herr
   by_cases hlt:k < m.F.length
   ·obtain ⟨d,hd0⟩:∃ d,m.F[k]? = some d:=⟨_,List.getElem?_eq_getElem hlt⟩
    obtain ⟨ad,rfl,hg,c0,c1,c2,c3,c4,c5,c6⟩:=dfr_at (HSF.out.low aF (Low.below hbw hB)) hd0
    have hdl:=(HIN.out.F d (List.mem_of_getElem? hd0)).name
    obtain ⟨ln,hln⟩:∃ l,lastNo m.F k = l:=⟨_,rfl⟩
    obtain ⟨p0,hp0⟩:∃ b,decide (d.no ≤ ln) = b:=⟨_,rfl⟩
    obtain ⟨p1,hp1⟩:∃ b,numberB d.no = b:=⟨_,rfl⟩
    obtain ⟨p2,hp2⟩:∃ b,still (mdNames m) [] k d.name = b:=⟨_,rfl⟩
    obtain ⟨p3,hp3⟩:∃ b,fdMayB s d = b:=⟨_,rfl⟩
    have HA:Hid (mdAtB s m k d = (!p0 && p1 && p2 && p3)):=Lib.hid (by unfold mdAtB; rw [hln,hp0,hp1,hp2,hp3])
    have T1:=fun wx=>isNumber_any d.no wx
    have T2:=fun wx hx=>takeS_any b1 m.F.length (still (mdNames m) [] k) d.name hdl wx hx
    have T3:=fun wx (hT:Tabs wx)=>mayField_any A1 A2 q1 q2 s d wx hT
    simp only [hp1] at T1
    simp only [hp2] at T2
    simp only [hp3] at T3
    have Q1:=Lib.hid T1
    have Q2:=Lib.hid T2
    have Q3:=Lib.hid T3
    have HD0:=Lib.hid hd0
    have HBW:=Lib.hid hbw
    have HXR:=Lib.hid hxr
    have bad:∀ w',mdAtB s m k d = false → Below w.heap.size w w' → ∃ b,Ending.returned (.bool false) = .returned (.bool b) ∧ (b = true ↔ MdMay s m) ∧ Below w.heap.size w w':=fun w' hf hb'=>⟨false,rfl,⟨fun h=>(by cases h),fun h=>(by have:=(HI.out.1 h).2 k d HD0.out; rw [hf] at this; cases this)⟩,hb'⟩
    have HBAD:=Lib.hid bad
    have hne:wr.heap.size ≠ b1:=by have:=hmS.lt; omega
    clear hd0 hp1 hp2 hp3 T1 T2 T3 hg bad hbw hxr
    rw [hln]
    cases p0 with
    | true =>
     go_wp2
     go_ret
     exact HBAD.out _ (by rw [HA.out]; rfl) (below_lit HBW.out _)
    | false =>
     cases p1 with
     | false =>
      go_wp2_with (go_at_call 142; refine (Q1.out _).mono ?_; rintro e w7 ⟨rfl,rfl⟩)
      go_ret
      exact HBAD.out _ (by rw [HA.out]; rfl) (below_lit HBW.out _)
     | true =>
      cases p2 with
      | false =>
       go_wp2_with (first
        | (go_at_call 142; refine (Q1.out _).mono ?_; rintro e w7 ⟨rfl,rfl⟩)
        | (go_at_call 101; refine (Q2.out _ (hmS.alloc _)).mono ?_; rintro e w8 ⟨rfl,hm8,hg8⟩))
       go_ret
       exact HBAD.out _ (by rw [HA.out]; rfl) ((below_lit HBW.out _).grown hg8 (by have:=HBW.out.size; simp; omega) (fun j hj=>by injection hj with hj; omega))
      | true =>
       have hyr:=((below_new wr (.cells #[.int .i64 d.no,.string (txt d.name),.int .i64 d.kind,.int .i64 d.ref,.bool d.rep,.int .i64 d.key,.int .i64 d.one] 45)).block _ (Array.getElem?_eq_some_iff.1 HXR.out).1).trans HXR.out
       cases p3 with
       | false =>
        go_wp2_with (first
         | (go_at_call 142; refine (Q1.out _).mono ?_; rintro e w7 ⟨rfl,rfl⟩)
         | (go_at_call 101; refine (Q2.out _ (hmS.alloc _)).mono ?_; rintro e w8 ⟨rfl,hm8,hg8⟩; have hbw8:=(below_lit HBW.out _).grown hg8 (by have:=HBW.out.size; simp; omega) (fun j hj=>by injection hj with hj; omega); have hx8:=box_kept (heap_alloc_new wr _) hg8 hne; have hy8:=box_kept hyr hg8 (by omega); have e0:=heap_cell hx8 0; have e1:=heap_cell hx8 1; have e2:=heap_cell hx8 2; have e3:=heap_cell hx8 3; have e4:=heap_cell hx8 4; have e5:=heap_cell hx8 5; have e6:=heap_cell hx8 6; have y0:=heap_cell hy8 0; have y1:=heap_cell hy8 1; simp at e0 e1 e2 e3 e4 e5 e6 y0 y1)
         | (go_at_call 143; refine (Q3.out _ (HT.out.on hbw8)).mono ?_; rintro e w9 ⟨rfl,hb9⟩))
        go_ret
        exact HBAD.out _ (by rw [HA.out]; rfl) (below_then hbw8 hb9)
       | true =>
        go_wp2_with (first
         | (go_at_call 142; refine (Q1.out _).mono ?_; rintro e w7 ⟨rfl,rfl⟩)
         | (go_at_call 101; refine (Q2.out _ (hmS.alloc _)).mono ?_; rintro e w8 ⟨rfl,hm8,hg8⟩; have hbw8:=(below_lit HBW.out _).grown hg8 (by have:=HBW.out.size; simp; omega) (fun j hj=>by injection hj with hj; omega); have hx8:=box_kept (heap_alloc_new wr _) hg8 hne; have hy8:=box_kept hyr hg8 (by omega); have e0:=heap_cell hx8 0; have e1:=heap_cell hx8 1; have e2:=heap_cell hx8 2; have e3:=heap_cell hx8 3; have e4:=heap_cell hx8 4; have e5:=heap_cell hx8 5; have e6:=heap_cell hx8 6; have y0:=heap_cell hy8 0; have y1:=heap_cell hy8 1; simp at e0 e1 e2 e3 e4 e5 e6 y0 y1)
         | (go_at_call 143; refine (Q3.out _ (HT.out.on hbw8)).mono ?_; rintro e w9 ⟨rfl,hb9⟩; have hx9:=(hb9.block _ (Array.getElem?_eq_some_iff.1 hx8).1).trans hx8; have g0:=heap_cell hx9 0; simp at g0))
        have z8:=hg8.size
        rw [World.size_alloc] at z8
        refine ⟨⟨k + 1,by go_num,?_,by omega,fun j y hj hy=>?_,(hm8.on hb9).eq (still_next (by simp [mdNames,HD0.out])),?_⟩,by simp [intOf]; omega⟩
        ·have:lastNo m.F (k + 1) = d.no:=by unfold lastNo; rw [if_neg (by omega),Nat.add_sub_cancel,HD0.out]; rfl
         rw [this]
        ·by_cases hj2:j < k
         ·exact HQ.out j y hj2 hy
         ·obtain rfl:j = k:=by omega
          rw [HD0.out] at hy
          obtain rfl:=Option.some.inj hy
          rw [HA.out]; rfl
        ·exact ((hb.alloc (by omega) _).grown hg8 (by simp; omega) (fun j hj=>by injection hj with hj; omega)).trans (hb9.mono (by omega))
   ·obtain rfl:k = m.F.length:=by omega
    go_wp2
    go_ret
    exact ⟨true,rfl,⟨fun _=>HI.out.2 ⟨h30,fun j d hd=>HQ.out j d (List.getElem?_eq_some_iff.1 hd).1 hd⟩,fun _=>rfl⟩,hbw⟩
 ·have hd:decide ((30:Int) < (m.F.length:Int)) = true:=by rw [decide_eq_true_eq]; omega
  have HN:Hid (¬ MdMay s m):=Lib.hid (fun h=>h30 (HI.out.1 h).1)
  clear h30 HEA hnx
  go_enter Tryz.func102,Tryz.ntmps102
  go_wp2
  go_ret
  exact ⟨false,rfl,⟨fun h=>(by cases h),fun h=>absurd h HN.out⟩,hb0⟩
end Go.Proofs.YtckcojkpghiclaaGreatDoor
namespace Go.Proofs.YtckcojkpghiclaaGreatDoor.T9
set_option maxRecDepth 100000
open Go.RowKit Go.Maps
abbrev Cl:={p:Int × Int // inr p.1 ∧ inr p.2}
def cVal (p:Int × Int):Value:=.agg #[.int .i64 p.1,.int .i64 p.2]
theorem cl_wf {n:Int} (h:inr n):(Lit.int .i64 n).wf = true:=by
 simp only [Lit.wf,Bool.and_eq_true,decide_eq_true_eq]
 exact ⟨by show (-9223372036854775808:Int) ≤ _; unfold inr at h; omega,by show _ ≤ (9223372036854775807:Int); unfold inr at h; omega⟩
theorem cl_law:Keyed Tryz.prog 215:=Keyed.of_law (deep_law_laid Tryz.laidOut (m:=2) (by omega) (by decide +kernel) (by kernel_rfl) (by kernel_rfl))
theorem ck_int:Tryz.prog.cellsOf 3 = 1:=by kernel_rfl
theorem ck_claim:Tryz.prog.cellsOf 215 = 2:=by kernel_rfl
theorem ck_key:Tryz.prog.keyType 215 = true:=by kernel_rfl
theorem ck_size:∃ n,Tryz.prog.types.size + 1 = n + 1 + 1:=by
 have:0 < Tryz.prog.types.size:=by decide +kernel
 exact ⟨Tryz.prog.types.size - 1,by omega⟩
theorem lits_int {n:Int} (d:Nat) (h:(Lit.int .i64 n).wf = true):Tryz.prog.keyLits (d + 1) 3 [.int .i64 n] = some [.int .i64 n]:=by
 simp [Program.keyLits,Tryz.underlying3,h]
theorem cl_some (p:Cl):∃ l,keyOf Tryz.prog 215 (cVal p.1) = some l:=by
 have h1:=cl_wf p.2.1
 have h2:=cl_wf p.2.2
 obtain ⟨n,hn⟩:=ck_size
 have hf:(cVal p.1).formed Tryz.prog 215 = true:=by
  unfold Value.formed cVal
  simp [Tryz.underlying215,ck_claim]
 unfold keyOf
 rw [Tryz.underlying215]
 simp only [ck_key,hf,Bool.and_self,if_true]
 rw [hn]
 unfold Program.keyLits
 rw [Tryz.underlying215]
 simp [cVal,Value.cells,ck_claim,ck_int,lits_int n h1,lits_int n h2]
noncomputable def kC (p:Cl):Lit:=(keyOf Tryz.prog 215 (cVal p.1)).getD (.bool false)
theorem kC_key (p:Cl):keyOf Tryz.prog 215 (cVal p.1) = some (kC p):=by
 obtain ⟨l,hl⟩:=cl_some p
 unfold kC
 rw [hl]; rfl
theorem kC_inj (x y:Cl) (h:kC x = kC y):x = y:=by
 have h1:=kC_key x
 rw [h] at h1
 have h2:=cl_law.inj h1 (kC_key y)
 unfold cVal at h2
 simp only [Value.agg.injEq,Array.mk.injEq,List.cons.injEq,Value.int.injEq,true_and,and_true] at h2
 exact Subtype.ext (Prod.ext h2.1 h2.2)
theorem kC_lit (x:Cl):WideAt.IsKeyLit (kC x):=cl_law.key (kC_key x)
abbrev FreeC:=Free 215 kC
def Claims (w:World) (b n:Nat) (cl:List (Int × Int)):Prop:=FreeC w b n fun p=>cl.contains p.1
theorem Claims.made (w:World):Claims (w.alloc (.map #[] 0)) w.heap.size 0 []:=Free.made w
set_option maxRecDepth 1000000 in
set_option maxHeartbeats 2000000 in
theorem take_any (b n:Nat) (cl:List (Int × Int)) (x y:Int) (hx:inr x) (hy:inr y) (w:World) (h:Claims w b n cl) (hn:n < 1000000000) :
  Calls Tryz.prog 174 #[.map (some b),.agg #[.int .i64 x,.int .i64 y]] w fun e w'=>e = .returned (.bool (!cl.contains (x,y))) ∧ Claims w' b (n + 1) ((x,y) :: cl) ∧ w.grownBy w' (some b):=by
 obtain ⟨kl,hkl⟩:∃ p:Cl,p.1 = (x,y):=⟨⟨(x,y),hx,hy⟩,rfl⟩
 have hkey:=kC_key kl
 rw [hkl] at hkey
 have X1:=heap_alloc_new w (.cells #[.int .i64 x,.int .i64 y] 215)
 have H1:=Lib.hid (Free.alloc h (.cells #[.int .i64 x,.int .i64 y] 215))
 have H2:=Lib.hid (H1.out.alloc (.cells #[] 196))
 have c0:=heap_cell X1 0
 have c1:=heap_cell X1 1
 simp at c0 c1
 go_enter Tryz.func174,Tryz.ntmps174
 go_wp2_with (first
  | (at_lookup; refine wpList_free_look rfl _ _ 179 196 rfl cl_law Tryz.underlying179 (zero_unit _) b n _ rfl H1.out _ kl rfl hkey ?_)
  | (at_mapUpdate; refine wpList_free_put rfl _ _ _ 179 196 rfl cl_law Tryz.underlying179 kC_inj kC_lit b n _ rfl H2.out (by omega) _ kl rfl rfl hkey ?_; intro w1 h1 hg1)
  | fail)
 go_ret
 refine ⟨by simp,h1.eq ?_,((World.grownBy_alloc w _ _).trans (World.grownBy_alloc _ _ _)).trans hg1⟩
 funext z
 rw [Bool.eq_iff_iff]
 simp only [Bool.or_eq_true,decide_eq_true_eq,List.contains_cons,beq_iff_eq]
 constructor
 ·rintro (h | h)
  ·exact .inr h
  ·exact .inl (by rw [h,hkl])
 ·rintro (h | h)
  ·exact .inr (Subtype.ext (h.trans hkl.symm))
  ·exact .inl h
abbrev dC (f:Df):Obj:=.cells #[.int .i64 f.no,.string (txt f.name),.int .i64 f.kind,.int .i64 f.ref,.bool f.rep,.int .i64 f.key,.int .i64 f.one] 45
set_option maxRecDepth 1000000 in
set_option maxHeartbeats 2000000 in
theorem claims_any (b n:Nat) (cl:List (Int × Int)) (f:Df) (hf:DfIn f) (w:World) (h:Claims w b n cl) (hn:n < 900000000) :
  Calls Tryz.prog 128 #[.map (some b),.agg #[.int .i64 f.no,.string (txt f.name),.int .i64 f.kind,.int .i64 f.ref,.bool f.rep,.int .i64 f.key,.int .i64 f.one]] w fun e w'=>e = .returned (.bool (claimB cl f)) ∧ (claimB cl f = true → Claims w' b (n + 2) (claimsOf f ++ cl)) ∧ w.grownBy w' (some b):=by
 have i0:inr 0:=by unfold inr; omega
 have X1:=heap_alloc_new w (dC f)
 have LBD:=World.grownBy_alloc w (dC f) (some b)
 have hlt:=Free.lt h
 have H1:=take_any b n cl f.no 0 hf.no i0 (w.alloc (dC f)) (Free.alloc h _) (by omega)
 have HB:Hid (claimB cl f = (!cl.contains (f.no,0) && (f.one == 0 || !((f.no,0) :: cl).contains (0,f.one)))):=Lib.hid rfl
 have hne:w.heap.size ≠ b:=by omega
 obtain ⟨d,hd⟩:∃ d,(!cl.contains (f.no,0)) = d:=⟨_,rfl⟩
 rw [hd] at H1 HB
 have HH1:=Lib.hid H1
 clear hd H1
 cases d with
 | false =>
  go_enter Tryz.func128,Tryz.ntmps128
  go_wp2_with (go_at_call 174; refine HH1.out.mono ?_; rintro e w1 ⟨rfl,hc1,hg1⟩)
  go_ret
  rw [HB.out]
  exact ⟨rfl,fun h=>by simp at h,LBD.trans hg1⟩
 | true =>
  by_cases h0:f.one = 0
  ·have hb0:(f.one == 0) = true:=by simp [h0]
   have HO:=Lib.hid h0
   clear h0
   go_enter Tryz.func128,Tryz.ntmps128
   go_wp2_with (go_at_call 174; refine HH1.out.mono ?_; rintro e w1 ⟨rfl,hc1,hg1⟩; have X2:=box_kept X1 hg1 hne; have d6:=heap_cell X2 6; simp at d6)
   go_ret
   rw [HB.out]
   refine ⟨by simp [hb0],fun _=>?_,LBD.trans hg1⟩
   unfold claimsOf
   rw [if_pos HO.out]
   exact Free.mono hc1 (by omega)
  ·have hb0:(f.one == 0) = false:=by simp [h0]
   have HO:=Lib.hid h0
   obtain ⟨d2,hd2⟩:∃ d,(!((f.no,0) :: cl).contains (0,f.one)) = d:=⟨_,rfl⟩
   rw [hd2] at HB
   have HH2:=Lib.hid (fun wx (hx:Claims wx b (n + 1) ((f.no,0) :: cl))=>hd2 ▸ take_any b (n + 1) ((f.no,0) :: cl) 0 f.one i0 hf.one wx hx (by omega))
   clear h0 hd2
   go_enter Tryz.func128,Tryz.ntmps128
   go_wp2_with fail
   refine HH1.out.mono ?_
   rintro e w1 ⟨rfl,hc1,hg1⟩
   have X2:=box_kept X1 hg1 hne
   have d6:=heap_cell X2 6
   simp at d6
   go_wp2_with fail
   refine (HH2.out _ hc1).mono ?_
   rintro e w2 ⟨rfl,hc2,hg2⟩
   go_wp2
   go_ret
   rw [HB.out]
   refine ⟨by simp [hb0],fun _=>?_,(LBD.trans hg1).trans hg2⟩
   unfold claimsOf
   rw [if_neg HO.out]
   exact hc2
end Go.Proofs.YtckcojkpghiclaaGreatDoor.T9
namespace Go.Proofs.YtckcojkpghiclaaGreatDoor
set_option maxRecDepth 100000
open Go.RowKit Go.Maps
theorem box3c {w:World} {g:Nat} {a b c:Value} {t:TypeId} (h:w.heap[g]? = some (.cells #[a,b,c] t (0,0))):w.heap[g]? = some (.cells #[a,b,c] t (0,0)) ∧ w.cell? ⟨g,0,none⟩ = some a ∧ w.cell? ⟨g,1,none⟩ = some b ∧ w.cell? ⟨g,2,none⟩ = some c :=
 ⟨h,by rw [heap_cell h 0]; rfl,by rw [heap_cell h 1]; rfl,by rw [heap_cell h 2]; rfl⟩
theorem box3c_below {w w':World} {g:Nat} {a b c:Value} {t:TypeId} (hb:Below w.heap.size w w') (h:w.heap[g]? = some (.cells #[a,b,c] t (0,0)) ∧ w.cell? ⟨g,0,none⟩ = some a ∧ w.cell? ⟨g,1,none⟩ = some b ∧ w.cell? ⟨g,2,none⟩ = some c):w'.heap[g]? = some (.cells #[a,b,c] t (0,0)) ∧ w'.cell? ⟨g,0,none⟩ = some a ∧ w'.cell? ⟨g,1,none⟩ = some b ∧ w'.cell? ⟨g,2,none⟩ = some c :=
 box3c ((hb.block g (Array.getElem?_eq_some_iff.1 h.1).1).trans h.1)
set_option maxRecDepth 1000000 in
set_option maxHeartbeats 8000000 in
theorem mayEnum_any (B:Nat) (e:Ed) (vV vN:Value) (w:World) (hB:B ≤ w.heap.size) (hV:Rb B w vV e.V.length 1 (strv e.V)) (hN:Rb B w vN e.N.length 1 (intv e.N)) (hin:EdIn e) :
  Calls Tryz.prog 103 #[.agg #[.string (txt e.name),vV,vN]] w fun ee w'=>∃ b,ee = .returned (.bool b) ∧ (b = true ↔ EdMay e) ∧ Below w.heap.size w w':=by
 have HWR:=Lib.hid (fun wx (hx:Below w.heap.size w wx) (hlen:e.V.length = e.N.length) (hl:e.N.length ≤ 100000)=>wrong_any B vV vN e.V e.N wx (Nat.le_trans hB hx.size) (hV.low (Low.below hx hB)) (hN.low (Low.below hx hB)) hlen hl hin.V hin.N)
 obtain ⟨A1,q1,rfl,-,-⟩:=hV
 obtain ⟨A2,q2,rfl,-,-⟩:=hN
 have HI:=Lib.hid (edMay_iff e)
 have HMN:=Lib.hid (fun wx=>mayName_any (e.V.length:Int) wx)
 have hb0:Below w.heap.size w ((w.alloc (.cells #[.string (txt e.name),.slice A1 e.V.length q1,.slice A2 e.N.length q2] 84)).drew):=(below_new _ _).trans (Below.refl _ _).drew
 have h0:=box3c (w:=(w.alloc (.cells #[.string (txt e.name),.slice A1 e.V.length q1,.slice A2 e.N.length q2] 84)).drew) (heap_alloc_new w (.cells #[.string (txt e.name),.slice A1 e.V.length q1,.slice A2 e.N.length q2] 84))
 clear hin
 by_cases ha:1 ≤ e.V.length ∧ e.V.length ≤ 30
 ·have h1:(decide (1 ≤ (e.V.length:Int)) && decide ((e.V.length:Int) ≤ 30)) = true:=by
   simp only [Bool.and_eq_true,decide_eq_true_eq]; omega
  rw [h1] at HMN
  by_cases hl:e.V.length = e.N.length
  ·have HW2:=Lib.hid (HWR.out _ hb0 hl (by omega))
   have he:((e.V.length:Int) == (e.N.length:Int)) = true:=by rw [beq_iff_eq]; omega
   have HHL:=Lib.hid hl
   have HHA:=Lib.hid ha
   clear h1 ha hl HWR
   go_enter Tryz.func103,Tryz.ntmps103
   go_wp2_with fail
   go_region_held3 (fun w'=>w'.heap[w.heap.size]? = some (.cells #[.string (txt e.name),.slice A1 e.V.length q1,.slice A2 e.N.length q2] 84 (0,0)) ∧ w'.cell? ⟨w.heap.size,0,none⟩ = some (.string (txt e.name)) ∧ w'.cell? ⟨w.heap.size,1,none⟩ = some (.slice A1 e.V.length q1) ∧ w'.cell? ⟨w.heap.size,2,none⟩ = some (.slice A2 e.N.length q2))
    (first | exact h0 | exact box3c_below hb6 ‹_› | go_keep)
    ((first
     | (go_at_call 144; refine (HMN.out _).mono ?_; rintro ee w1 ⟨rfl,rfl⟩)
     | (go_at_call 145; refine HW2.out.mono ?_; rintro ee w6 ⟨r,rfl,hr1,hr2,hr3,hb6⟩)))
   go_wp2
   go_ret
   refine ⟨_,rfl,?_,below_then hb0 hb6⟩
   rw [HI.out]
   show ((r:Int) == (e.V.length:Int)) = true ↔ _
   rw [beq_iff_eq]
   constructor
   ·intro hr
    refine ⟨HHA.out.1,HHA.out.2,HHL.out,fun k x n hx hn=>hr2 k x n ?_ hx hn⟩
    have:=(List.getElem?_eq_some_iff.1 hx).1
    omega
   ·rintro ⟨-,-,-,h4⟩
    by_cases hlt:r < e.V.length
    ·have hlt2:r < e.N.length:=by have:=HHL.out; omega
     have h5:=h4 r _ _ (List.getElem?_eq_getElem hlt) (List.getElem?_eq_getElem hlt2)
     rw [hr3 _ _ (List.getElem?_eq_getElem hlt) (List.getElem?_eq_getElem hlt2)] at h5
     cases h5
    ·have:=HHL.out
     omega
  ·have he:((e.V.length:Int) == (e.N.length:Int)) = false:=by rw [beq_eq_false_iff_ne]; omega
   have HNO:Hid (¬ EdMay e):=Lib.hid (fun h=>hl (HI.out.1 h).2.2.1)
   have hl2:¬ ((e.V.length:Int) = (e.N.length:Int)):=by omega
   clear h1 ha HWR
   go_enter Tryz.func103,Tryz.ntmps103
   go_wp2_with fail
   go_quiet (first | (go_at_call_of 144 (Value.int IntKind.i64 (e.V.length:Int)); refine Calls.quiet_of_same ((HMN.out _).mono fun _ _ h=>⟨h.1,h.2.symm⟩)))
   go_wp2
   go_ret
   exact ⟨false,rfl,⟨fun h=>(by cases h),fun h=>absurd h HNO.out⟩,below_draws (below_new _ _) _⟩
 ·have h1:(decide (1 ≤ (e.V.length:Int)) && decide ((e.V.length:Int) ≤ 30)) = false:=by
   simp only [Bool.and_eq_false_iff,decide_eq_false_iff_not]; omega
  rw [h1] at HMN
  have HNO:Hid (¬ EdMay e):=Lib.hid (fun h=>ha ⟨(HI.out.1 h).1,(HI.out.1 h).2.1⟩)
  clear h1 ha HWR
  go_enter Tryz.func103,Tryz.ntmps103
  go_wp2_with fail
  go_quiet (first | (go_at_call_of 144 (Value.int IntKind.i64 (e.V.length:Int)); refine Calls.quiet_of_same ((HMN.out _).mono fun _ _ h=>⟨h.1,h.2.symm⟩)))
  go_wp2
  go_ret
  exact ⟨false,rfl,⟨fun h=>(by cases h),fun h=>absurd h HNO.out⟩,below_draws (below_new _ _) _⟩
theorem sn_m {s:Sc} {k:Nat} {m:Md} (hm:s.M[k]? = some m):(namesS s)[k]? = some m.name:=by
 have hlt:=(List.getElem?_eq_some_iff.1 hm).1
 unfold namesS
 rw [List.getElem?_append_left (by simpa using hlt),List.getElem?_map,hm]; rfl
theorem sn_e {s:Sc} {k:Nat} {e:Ed} (he:s.E[k]? = some e):(namesS s)[s.M.length + k]? = some e.name:=by
 unfold namesS
 rw [List.getElem?_append_right (by simp),List.length_map,show s.M.length + k - s.M.length = k by omega,List.getElem?_map,he]; rfl
theorem sn_len (s:Sc):(namesS s).length = s.M.length + s.E.length:=by simp [namesS]
theorem snames_in {s:Sc} (h:ScIn s):∀ x ∈ s.M.map (·.name) ++ s.E.map (·.name),x.length ≤ maxLen:=by
 intro x hx
 rcases List.mem_append.1 hx with hx | hx
 ·obtain ⟨m,hm,rfl⟩:=List.mem_map.1 hx
  exact (h.M m hm).name
 ·obtain ⟨e,he,rfl⟩:=List.mem_map.1 hx
  exact (h.E e he).name
set_option maxRecDepth 1000000 in
set_option maxHeartbeats 8000000 in
theorem may_any (B:Nat) (s:Sc) (vM vE:Value) (w:World) (hB:B ≤ w.heap.size) (hs:SAt B w s vM vE) (hin:ScIn s) (T:Tabs w) :
  Calls Tryz.prog 63 #[.agg #[vM,vE]] w fun e w'=>∃ b,e = .returned (.bool b) ∧ (b = true ↔ ScMay s) ∧ Below w.heap.size w w':=by
 obtain ⟨xs,ys,h1,h2,h3,h4⟩:=hs
 have H1:=Lib.hid (fun wx (hx:Below w.heap.size w wx) (hl:s.M.length ≤ 100000)=>eachMd_any B vM xs s.M hl wx (Nat.le_trans hB hx.size) (h1.low (Low.below hx hB)) (h2.low (Low.below hx hB)))
 have H2:=Lib.hid (fun wx (hx:Below w.heap.size w wx) (hl:s.E.length ≤ 100000)=>eachEd_any B vE ys s.E hl wx (Nat.le_trans hB hx.size) (h3.low (Low.below hx hB)) (h4.low (Low.below hx hB)))
 have H3:=Lib.hid (fun u1 u2 wx (hT:Tabs wx) r1 r2 (hl:s.M.length + s.E.length ≤ 100000)=>typeNames_any u1 u2 (s.M.map (·.name)) (s.E.map (·.name)) wx hT (by simpa using r1) (by simpa using r2) (by simpa using hl) (snames_in hin))
 have HI:=Lib.hid (scMay_iff s)
 have HH:=Lib.hid (fun wx=>mayHold_any (s.M.length:Int) (s.E.length:Int) wx)
 obtain ⟨A1,q1,rfl,s1,b1⟩:=h1
 obtain ⟨A2,q2,rfl,s2,b2⟩:=h3
 have HM:=Lib.hid s1
 have HE:=Lib.hid s2
 have HMA:=Lib.hid h2
 have HEA:=Lib.hid h4
 have HIN:=Lib.hid hin
 have HTB:=Lib.hid T
 clear s1 s2 h2 h4 hin T
 have hb0:=below_new w (.cells #[.slice A1 s.M.length q1,.slice A2 s.E.length q2] 25)
 by_cases hsz:1 ≤ s.M.length ∧ s.M.length ≤ 20 ∧ s.E.length ≤ 20
 ·have hh:(decide (1 ≤ (s.M.length:Int)) && decide ((s.M.length:Int) ≤ 20) && decide ((s.E.length:Int) ≤ 20)) = true:=by
   simp only [Bool.and_eq_true,decide_eq_true_eq]; omega
  rw [hh] at HH
  obtain ⟨hn0,hn1,hn2⟩:=hsz
  have h0:=box2 (w:=(w.alloc (.cells #[.slice A1 s.M.length q1,.slice A2 s.E.length q2] 25)).drew) (heap_alloc_new w (.cells #[.slice A1 s.M.length q1,.slice A2 s.E.length q2] 25))
  have LBD:Below w.heap.size w ((w.alloc (.cells #[.slice A1 s.M.length q1,.slice A2 s.E.length q2] 25)).drew):=hb0.trans (Below.refl _ _).drew
  have hmm:s.M.length ≤ 100000:=by omega
  have hee:s.E.length ≤ 100000:=by omega
  have hme:s.M.length + s.E.length ≤ 100000:=by omega
  clear hb0 hh
  go_enter Tryz.func63,Tryz.ntmps63
  go_wp2_with (go_at_call 95; refine (HH.out _).mono ?_; rintro e w0 ⟨rfl,rfl⟩)
  go_region_held3 (fun w'=>w'.heap[w.heap.size]? = some (.cells #[.slice A1 s.M.length q1,.slice A2 s.E.length q2] 25 (0,0)) ∧ w'.cell? ⟨w.heap.size,0,none⟩ = some (.slice A1 s.M.length q1) ∧ w'.cell? ⟨w.heap.size,1,none⟩ = some (.slice A2 s.E.length q2))
   (first | exact h0 | exact box2_below hbM ‹_› | exact box2_below hbE ‹_› | exact box2_below hb4 ‹_› | go_keep)
   ((first
    | (go_at_call 97; refine (H1.out _ (by first | exact LBD | exact below_then LBD hbE) hmm).mono ?_; rintro e wM ⟨uM,rfl,hoM,hbM⟩)
    | (go_at_call 99; refine (H2.out _ (by first | exact LBD | exact below_then LBD hbM) hee).mono ?_; rintro e wE ⟨uE,rfl,hoE,hbE⟩)
    | (go_at_call 96; refine (H3.out uM uE _ (by first | exact ((HTB.out.on LBD).on hbM).on hbE | exact ((HTB.out.on LBD).on hbE).on hbM) (by first | exact Rb.of_own hoM | exact Rb.of_own (own_below hoM hbE)) (by first | exact Rb.of_own hoE | exact Rb.of_own (own_below hoE hbM)) hme).mono ?_; rintro e w4 ⟨b,rfl,hbl,hm4,hb4⟩)))
  all_goals
   have hbB:Below w.heap.size w w4:=by first | exact below_then (below_then (below_then LBD hbM) hbE) hb4 | exact below_then (below_then (below_then LBD hbE) hbM) hb4
   have hx4:w4.heap[w.heap.size]? = some (.cells #[.slice A1 s.M.length q1,.slice A2 s.E.length q2] 25 (0,0)):=by first | exact (box2_below hb4 (box2_below hbE (box2_below hbM h0))).1 | exact (box2_below hb4 (box2_below hbM (box2_below hbE h0))).1
   have hbs:w.heap.size + 1 ≤ b:=by
    have h1:=hbM.size
    have h2:=hbE.size
    simp at h1 h2
    omega
   have e0:=heap_cell hx4 0
   have e1:=heap_cell hx4 1
   simp at e0 e1
   simp only [List.length_map] at hm4
   replace hm4:FreeS w4 b (s.M.length + s.E.length) (stillT (namesS s) 0):=hm4
   have HX4:=Lib.hid hx4
   have HBB:=Lib.hid hbB
   clear hx4 hb4 hbM hbE hoM hoE hbl h0 LBD hbB H1 H2 H3
   go_wp2
   go_loopw [26] (fun i wr=>∃ k:Nat,i = .int .i64 k ∧ k ≤ s.M.length ∧ (∀ j m,j < k → s.M[j]? = some m → stillT (namesS s) j m.name = true ∧ MdMay s m) ∧ FreeS wr b (s.M.length + s.E.length) (stillT (namesS s) k) ∧ Below (w.heap.size + 1) w4 wr) (fun i _=>s.M.length - (intOf i).toNat)
   case atStart=>exact ⟨0,rfl,by omega,fun j m hj=>by omega,hm4,Below.refl _ _⟩
   case round =>
    obtain ⟨k,rfl,hk,herr,hm,hb⟩:=hrel
    have hbw:=HBB.out.trans (hb.mono (Nat.le_succ _))
    have hxr:=(hb.block w.heap.size (by omega)).trans HX4.out
    have HBW:=Lib.hid hbw
    have HER:=Lib.hid herr
    clear herr
    by_cases hlt:k < s.M.length
    ·obtain ⟨m,hm0⟩:∃ m,s.M[k]? = some m:=⟨_,List.getElem?_eq_getElem hlt⟩
     obtain ⟨ad,vF,rfl,hg,hmr,c0,c1⟩:=mdr_at (HM.out.low b1 (Low.below hbw hB)) (HMA.out.low (Low.below hbw hB)) hm0
     obtain ⟨AF,cF,hvF,-,-⟩:=id hmr
     subst hvF
     have hx:=sn_m hm0
     have hmi:=HIN.out.M m (List.mem_of_getElem? hm0)
     have HNX:=Lib.hid (stillT_next hx)
     obtain ⟨d,hd⟩:∃ d,stillT (namesS s) k m.name = d:=⟨_,rfl⟩
     have HT:=fun wx hx=>takeS_any b (s.M.length + s.E.length) (stillT (namesS s) k) m.name hmi.name wx hx
     simp only [hd] at HT
     have HTT:=Lib.hid HT
     have HMM:=Lib.hid (fun wx (hx:Below w.heap.size w wx) (hr:Rb B wx (.slice AF m.F.length cF) m.F.length 7 (dfv m.F))=>mayMessage_any B (some ad) A2 q1 q2 s m (.slice AF m.F.length cF) wx (Nat.le_trans hB hx.size) hr hmi (HTB.out.on hx))
     have HRB:=Lib.hid hmr
     have hne:wr.heap.size ≠ b:=by have:=hm.lt; omega
     have HD:=Lib.hid hd
     have HM0:=Lib.hid hm0
     have HXN:=Lib.hid hx
     have hyr:=((below_new wr (.cells #[.string (txt m.name),.slice AF m.F.length cF] 56)).block _ (Array.getElem?_eq_some_iff.1 hxr).1).trans hxr
     clear hm0 hmr hx hd HT hmi hbw hxr
     cases d with
     | false =>
      have HNO:Hid (¬ ScMay s):=Lib.hid (fun h=>by have:=(HI.out.1 h).2.2.2.1 k m.name HXN.out; rw [HD.out] at this; cases this)
      go_wp2_with (go_at_call 101; refine (HTT.out _ (hm.alloc _)).mono ?_; rintro e w5 ⟨rfl,hm5,hg5⟩)
      go_ret
      exact ⟨false,rfl,⟨fun h=>(by cases h),fun h=>absurd h HNO.out⟩,(below_lit HBW.out _).grown hg5 (by have:=HBW.out.size; simp; omega) (fun j hj=>by injection hj with hj; omega)⟩
     | true =>
      go_wp2_with fail
      refine (HTT.out _ (hm.alloc _)).mono ?_
      rintro e w5 ⟨rfl,hm5,hg5⟩
      have hbw5:=(below_lit HBW.out (.cells #[.string (txt m.name),.slice AF m.F.length cF] 56)).grown hg5 (by have:=HBW.out.size; simp; omega) (fun j hj=>by injection hj with hj; omega)
      have hx5:=box_kept (heap_alloc_new wr _) hg5 hne
      have hy5:=box_kept hyr hg5 (by omega)
      have d0:=heap_cell hx5 0
      have d1:=heap_cell hx5 1
      have y0:=heap_cell hy5 0
      have y1:=heap_cell hy5 1
      simp at d0 d1 y0 y1
      go_wp2_with fail
      refine (HMM.out _ hbw5 (HRB.out.low ((Low.alloc wr _ (Nat.le_trans hB HBW.out.size)).trans ⟨hg5.size,fun j hj=>hg5.block j (by have:=HBW.out.size; simp; omega) (fun e=>by injection e with e; omega)⟩))).mono ?_
      rintro e w6 ⟨bb,rfl,hbb,hb6⟩
      cases bb with
      | false =>
       have HNO:Hid (¬ ScMay s):=Lib.hid (fun h=>by have:=hbb.2 ((HI.out.1 h).2.2.2.2.1 m (List.mem_of_getElem? HM0.out)); cases this)
       go_wp2
       go_ret
       exact ⟨false,rfl,⟨fun h=>(by cases h),fun h=>absurd h HNO.out⟩,below_then hbw5 hb6⟩
      | true =>
       have HMB:=Lib.hid (hbb.1 rfl)
       have z5:=hg5.size
       rw [World.size_alloc] at z5
       have hlm:=hm.lt
       go_wp2
       refine ⟨⟨k + 1,by go_num,by omega,fun j y hj hy=>?_,(hm5.on hb6).eq HNX.out,((hb.alloc (by omega) _).grown hg5 (by simp; omega) (fun j hj=>by injection hj with hj; omega)).trans (hb6.mono (by omega))⟩,by simp [intOf]; omega⟩
       by_cases hj2:j < k
       ·exact HER.out j y hj2 hy
       ·obtain rfl:j = k:=by omega
        rw [HM0.out] at hy
        obtain rfl:=Option.some.inj hy
        exact ⟨HD.out,HMB.out⟩
    ·obtain rfl:k = s.M.length:=by omega
     have e6:=heap_cell hxr 1
     simp at e6
     clear hxr
     go_wp2
     go_loopw [45] (fun i wr=>∃ k:Nat,i = .int .i64 k ∧ k ≤ s.E.length ∧ (∀ j m,j < k → s.E[j]? = some m → stillT (namesS s) (s.M.length + j) m.name = true ∧ EdMay m) ∧ FreeS wr b (s.M.length + s.E.length) (stillT (namesS s) (s.M.length + k)) ∧ Below (w.heap.size + 1) w4 wr) (fun i _=>s.E.length - (intOf i).toNat)
     case atStart=>exact ⟨0,rfl,by omega,fun j m hj=>by omega,hm,hb⟩
     case round =>
      obtain ⟨k,rfl,hk,herr,hm,hb⟩:=hrel
      have hbw:=HBB.out.trans (hb.mono (Nat.le_succ _))
      have HBW:=Lib.hid hbw
      have HQ:=Lib.hid herr
      clear herr
      by_cases hlt:k < s.E.length
      ·obtain ⟨m,hm0⟩:∃ m,s.E[k]? = some m:=⟨_,List.getElem?_eq_getElem hlt⟩
       obtain ⟨ad,vV,vN,rfl,hg,hmr,hms,c0,c1,c2⟩:=edr_at (HE.out.low b2 (Low.below hbw hB)) (HEA.out.low (Low.below hbw hB)) hm0
       obtain ⟨AV,cV,hvV,-,-⟩:=id hmr
       obtain ⟨AN,cN,hvN,-,-⟩:=id hms
       subst hvV hvN
       have hx:=sn_e hm0
       have hmi:=HIN.out.E m (List.mem_of_getElem? hm0)
       have HNX:=Lib.hid (stillT_next hx)
       obtain ⟨d,hd⟩:∃ d,stillT (namesS s) (s.M.length + k) m.name = d:=⟨_,rfl⟩
       have HT:=fun wx hx=>takeS_any b (s.M.length + s.E.length) (stillT (namesS s) (s.M.length + k)) m.name hmi.name wx hx
       simp only [hd] at HT
       have HTT:=Lib.hid HT
       have HMM:=Lib.hid (fun wx (hx:Below w.heap.size w wx) (hr:Rb B wx (.slice AV m.V.length cV) m.V.length 1 (strv m.V)) (hr2:Rb B wx (.slice AN m.N.length cN) m.N.length 1 (intv m.N))=>mayEnum_any B m (.slice AV m.V.length cV) (.slice AN m.N.length cN) wx (Nat.le_trans hB hx.size) hr hr2 hmi)
       have HRB:=Lib.hid hmr
       have HRC:=Lib.hid hms
       have hne:=Nat.ne_of_gt hm.lt
       have HD:=Lib.hid hd
       have HM0:=Lib.hid hm0
       have HXN:=Lib.hid hx
       have hlow:=Low.alloc _ (.cells #[.string (txt m.name),.slice AV m.V.length cV,.slice AN m.N.length cN] 84) (Nat.le_trans hB HBW.out.size)
       clear hm0 hmr hms hx hd HT hmi hbw
       cases d with
       | false =>
        have HNO:Hid (¬ ScMay s):=Lib.hid (fun h=>by have:=(HI.out.1 h).2.2.2.1 (s.M.length + k) m.name HXN.out; rw [HD.out] at this; cases this)
        go_wp2_with (go_at_call 101; refine (HTT.out _ (hm.alloc _)).mono ?_; rintro e w5 ⟨rfl,hm5,hg5⟩)
        go_ret
        exact ⟨false,rfl,⟨fun h=>(by cases h),fun h=>absurd h HNO.out⟩,(below_lit HBW.out _).grown hg5 (by have:=HBW.out.size; simp; omega) (fun j hj=>by injection hj with hj; omega)⟩
       | true =>
        go_wp2_with fail
        refine (HTT.out _ (hm.alloc _)).mono ?_
        rintro e w5 ⟨rfl,hm5,hg5⟩
        have hbw5:=(below_lit HBW.out (.cells #[.string (txt m.name),.slice AV m.V.length cV,.slice AN m.N.length cN] 84)).grown hg5 (by have:=HBW.out.size; simp; omega) (fun j hj=>by injection hj with hj; omega)
        have hx5:=box_kept (heap_alloc_new _ _) hg5 hne
        have d0:=heap_cell hx5 0
        have d1:=heap_cell hx5 1
        have d2:=heap_cell hx5 2
        simp at d0 d1 d2
        have hlow5:=hlow.trans ⟨hg5.size,fun j hj=>hg5.block j (by have:=HBW.out.size; simp; omega) (fun e=>by injection e with e; omega)⟩
        go_wp2_with fail
        refine (HMM.out _ hbw5 (HRB.out.low hlow5) (HRC.out.low hlow5)).mono ?_
        rintro e w6 ⟨bb,rfl,hbb,hb6⟩
        cases bb with
        | false =>
         have HNO:Hid (¬ ScMay s):=Lib.hid (fun h=>by have:=hbb.2 ((HI.out.1 h).2.2.2.2.2 m (List.mem_of_getElem? HM0.out)); cases this)
         go_wp2
         go_ret
         exact ⟨false,rfl,⟨fun h=>(by cases h),fun h=>absurd h HNO.out⟩,below_then hbw5 hb6⟩
        | true =>
         have HMB:=Lib.hid (hbb.1 rfl)
         have z5:=hg5.size
         rw [World.size_alloc] at z5
         have hlm:=hm.lt
         go_wp2
         refine ⟨⟨k + 1,by go_num,by omega,fun j y hj hy=>?_,(hm5.on hb6).eq HNX.out,((hb.alloc (by omega) _).grown hg5 (by simp; omega) (fun j hj=>by injection hj with hj; omega)).trans (hb6.mono (by omega))⟩,by simp [intOf]; omega⟩
         by_cases hj2:j < k
         ·exact HQ.out j y hj2 hy
         ·obtain rfl:j = k:=by omega
          rw [HM0.out] at hy
          obtain rfl:=Option.some.inj hy
          exact ⟨HD.out,HMB.out⟩
      ·obtain rfl:k = s.E.length:=by omega
       go_wp2
       go_ret
       refine ⟨true,rfl,⟨fun _=>HI.out.2 ⟨hn0,hn1,hn2,?_,?_,?_⟩,fun _=>rfl⟩,HBW.out⟩
       ·intro j x hx
        have hjl:=(List.getElem?_eq_some_iff.1 hx).1
        rw [sn_len] at hjl
        by_cases hj:j < s.M.length
        ·obtain ⟨m,hm0⟩:∃ m,s.M[j]? = some m:=⟨_,List.getElem?_eq_getElem hj⟩
         have h1:=sn_m hm0
         rw [hx] at h1
         obtain rfl:=Option.some.inj h1
         exact (HER.out j m hj hm0).1
        ·obtain ⟨m,hm0⟩:∃ m,s.E[j - s.M.length]? = some m:=⟨_,List.getElem?_eq_getElem (by omega)⟩
         have h1:=sn_e hm0
         rw [show s.M.length + (j - s.M.length) = j by omega,hx] at h1
         obtain rfl:=Option.some.inj h1
         have h2:=(HQ.out (j - s.M.length) m (by omega) hm0).1
         rw [show s.M.length + (j - s.M.length) = j by omega] at h2
         exact h2
       ·intro m hm0
        obtain ⟨j,hj⟩:=List.mem_iff_getElem?.1 hm0
        exact (HER.out j m (List.getElem?_eq_some_iff.1 hj).1 hj).2
       ·intro m hm0
        obtain ⟨j,hj⟩:=List.mem_iff_getElem?.1 hm0
        exact (HQ.out j m (List.getElem?_eq_some_iff.1 hj).1 hj).2
 ·have hh:(decide (1 ≤ (s.M.length:Int)) && decide ((s.M.length:Int) ≤ 20) && decide ((s.E.length:Int) ≤ 20)) = false:=by
   simp only [Bool.and_eq_false_iff,decide_eq_false_iff_not]; omega
  rw [hh] at HH
  have HNO:Hid (¬ ScMay s):=Lib.hid (fun h=>hsz ⟨(HI.out.1 h).1,(HI.out.1 h).2.1,(HI.out.1 h).2.2.1⟩)
  clear hsz hh H1 H2 H3
  go_enter Tryz.func63,Tryz.ntmps63
  go_wp2_with (go_at_call 95; refine (HH.out _).mono ?_; rintro e w0 ⟨rfl,rfl⟩)
  go_ret
  exact ⟨false,rfl,⟨fun h=>(by cases h),fun h=>absurd h HNO.out⟩,hb0⟩
end Go.Proofs.YtckcojkpghiclaaGreatDoor
