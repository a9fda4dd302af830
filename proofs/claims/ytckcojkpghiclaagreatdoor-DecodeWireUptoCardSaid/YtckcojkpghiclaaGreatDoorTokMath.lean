/-
 A slot that is got; a value that is less: value's Get and Less.
-/
import Derived.Test.YtckcojkpghiclaaGreatDoorTrSet
import Derived.Deep.AppendLies
import Derived.Deep.RegionLaw
import Derived.Deep.RegionHeldLaw
namespace Go.Proofs.YtckcojkpghiclaaGreatDoor.T9
set_option maxRecDepth 100000
open Go.RowKit
theorem results_pair {P:Program} {fn:Func} {p u:Tmp} {ty:TypeId} (h:fn.results = #[.cell p ty,.tmp u]) (tmps:Array Value) (w:World) (g:Nat) (t:TypeId) (cs:Array Value) (fr:Nat × Nat) (d:TypeDesc)
  (hp:tmps.getD p undef = .pointer (some ⟨g,0,none⟩)) (hg:w.heap[g]? = some (.cells cs t fr))
  (hu:P.underlying ty = some d) (hd:(match d with | .struct _ | .array _ _=>true | _=>false) = true) (hi:(P.info? ty).map (·.size) = some cs.size) :
  (results fn tmps).run P w = .ok (.tuple #[.agg cs,tmps.getD u undef]) w:=by
 have hp':tmps[p]?.getD undef = .pointer (some ⟨g,0,none⟩):=by simpa using hp
 simp [results,h,hp',asAddr,run_loadVar_row w g t ty cs fr d hg hu hd hi]
def lessV (a b:Vl'):Bool:=if a.n = b.n then Op.bytesLess a.s b.s else decide (a.n < b.n)
theorem below_app {w w':World} {B:Nat} {e:TypeId} {size:Nat} {v:Value} {n:Nat} {xs:List Value} (h:w.ownsRow B e size v n xs) (hg:w.grownBy w' v.ownBlock) (hs:B ≤ w.heap.size):Below B w w':=below_rows h hg hs
theorem lit_row {w:World} {g B n size:Nat} {xs:List Value} {t:TypeId} {fr:Nat × Nat} (h:w.heap[g]? = some (.cells xs.toArray t fr)) (hl:xs.length = n * size) (hn:n ≤ 1000000) (hB:g < B) (e:TypeId):Rd B w e size (.slice (some ⟨g,0,none⟩) n n) n xs:=by
 refine ⟨⟨some ⟨g,0,none⟩,n,rfl,⟨hl,Nat.le_refl _,by unfold maxLen; omega,by simp,fun ad ha _=>?_,fun ad ha k u hu=>?_⟩,fun ad ha _=>?_⟩,by omega⟩
 ·obtain rfl:=Option.some.inj ha
  exact box_lt h
 ·obtain rfl:=Option.some.inj ha
  rw [Addr.add_lit,Nat.zero_add,box_cell h]
  simpa using hu
 ·obtain rfl:=Option.some.inj ha
  exact hB
theorem msg_shape {b D:Nat} {w:World} {m:Mg} {x:Value} (h:MAt (Ow b w) D m [x]):∃ A c,x = .slice A m.F.length c:=by
 cases D with
 | zero=>exact h.elim
 | succ D =>
  obtain ⟨u,hu,xs,⟨hown,-⟩,-⟩:=h
  obtain rfl:x = u:=by simpa using hu
  obtain ⟨A,c,rfl,-⟩:=Sl.of_own hown
  exact ⟨A,c,rfl⟩
theorem rd_shape {B D:Nat} {w:World} {m:Mg} {x:Value} (h:MRd B w D m x):∃ A c,x = .slice A m.F.length c:=by
 cases D with
 | zero=>exact h.elim
 | succ D =>
  obtain ⟨u,hu,hl⟩:=h
  obtain rfl:x = u:=by simpa using hu
  obtain ⟨A,c,xs,rfl,-⟩:=hl.open_
  exact ⟨A,c,rfl⟩
theorem slot_shape {B D:Nat} {w:World} {s:So} {x y z:Value} (h:SAt' (Rd B w) D s [x,y,z]):∃ A1 c1 A2 c2,x = .int .i64 s.no ∧ y = .slice A1 s.K.length c1 ∧ z = .slice A2 s.V.length c2:=by
 obtain ⟨u1,u2,hu,hk,hv⟩:=h
 simp only [List.cons.injEq,and_true] at hu
 obtain ⟨rfl,rfl,rfl⟩:=hu
 obtain ⟨A1,c1,_,rfl,-⟩:=hk.open_
 obtain ⟨A2,c2,_,rfl,-⟩:=hv.open_
 exact ⟨A1,c1,A2,c2,rfl,rfl,rfl⟩
theorem own_rd {b D:Nat} {w:World} {m:Mg} {x:Value} (h:MAt (Ow b w) D m [x]):MRd w.heap.size w D m x:=MAt.imp (fun e size v n xs h=>Rd.of_own e size v n xs h) D _ _ h
def Ap (b:Nat) (r:Option Nat) (w:World):RP:=fun e size v n xs=>w.ownsRow b e size v n xs ∧ (∀ k,v.ownBlock = some k → r ≠ some k) ∧ n ≤ 10000000000000
theorem own_kept {w w':World} {b:Nat} {e:TypeId} {size:Nat} {v:Value} {n:Nat} {xs:List Value} (h:w.ownsRow b e size v n xs) (hk:∀ k,v.ownBlock = some k → k < w.heap.size → w'.heap[k]? = w.heap[k]?):w'.ownsRow b e size v n xs:=by
 rcases h with ⟨hl,⟨rfl,rfl⟩ | ⟨g,cap,cur,rfl,h1,h2,h3⟩⟩
 ·exact ⟨hl,.inl ⟨rfl,rfl⟩⟩
 ·exact ⟨hl,.inr ⟨g,cap,cur,rfl,h1,(hk g rfl (box_lt h2)).trans h2,h3⟩⟩
theorem own_blk {w:World} {b:Nat} {e:TypeId} {size:Nat} {v:Value} {n:Nat} {xs:List Value} (h:w.ownsRow b e size v n xs) (k:Nat) (hk:v.ownBlock = some k):b ≤ k ∧ k < w.heap.size:=by
 rcases h with ⟨hl,⟨rfl,rfl⟩ | ⟨g,cap,cur,rfl,h1,h2,h3⟩⟩
 ·simp [Value.ownBlock] at hk
 ·simp only [Value.ownBlock,Option.some.injEq] at hk
  subst hk
  exact ⟨h1,box_lt h2⟩
theorem Ap.ow {b:Nat} {r:Option Nat} {w:World} (e:TypeId) (size:Nat) (v:Value) (n:Nat) (xs:List Value) (h:Ap b r w e size v n xs):Ow b w e size v n xs:=⟨h.1,h.2.2⟩
theorem Ap.of {b b':Nat} {r:Option Nat} {w:World} (hb:b ≤ b') (hr:∀ k,r = some k → k < b') (e:TypeId) (size:Nat) (v:Value) (n:Nat) (xs:List Value) (h:Ow b' w e size v n xs):Ap b r w e size v n xs :=
 ⟨own_less h.1 hb,fun k hk e=>by have:=(own_blk h.1 k hk).1; have:=hr k e; omega,h.2⟩
theorem Ap.on {b:Nat} {r:Option Nat} {w w':World} (hb:Below w.heap.size w w') (e:TypeId) (size:Nat) (v:Value) (n:Nat) (xs:List Value) (h:Ap b r w e size v n xs):Ap b r w' e size v n xs :=
 ⟨own_kept h.1 fun k _ hk=>hb.block k hk,h.2⟩
theorem Ap.grown {b g:Nat} {r:Option Nat} {w w':World} (hg:w.grownBy w' r) (hn:r = some g ∨ w.heap.size ≤ g) (e:TypeId) (size:Nat) (v:Value) (n:Nat) (xs:List Value) (h:Ap b r w e size v n xs):Ap b (some g) w' e size v n xs:=by
 refine ⟨own_kept h.1 fun k hk hlt=>hg.block k hlt fun e=>h.2.1 k hk e.symm,fun k hk e=>?_,h.2.2⟩
 obtain rfl:=Option.some.inj e
 rcases hn with hn | hn
 ·exact h.2.1 g hk hn
 ·have:=(own_blk h.1 g hk).2
  omega
theorem Ap.box {b g:Nat} {r:Option Nat} {w w':World} (hg:w.grownBy w' (some g)) (hgb:g < b) (e:TypeId) (size:Nat) (v:Value) (n:Nat) (xs:List Value) (h:Ap b r w e size v n xs):Ap b r w' e size v n xs :=
 ⟨own_kept h.1 fun k hk hlt=>hg.block k hlt fun e=>by have:=(own_blk h.1 k hk).1; injection e with e; omega,h.2⟩
abbrev EC (α:Type):=RP → α → List Value → Prop
def Mono {α:Type} (C:EC α):Prop:=∀ {R R':RP},(∀ e size v n xs,R e size v n xs → R' e size v n xs) → ∀ a cs,C R a cs → C R' a cs
theorem mono_m (d:Nat):Mono fun R=>MAt R d:=fun h a cs=>MAt.imp h d a cs
theorem mono_v (d:Nat):Mono fun R=>VAt R d:=fun h a cs=>vAt.imp h (fun m cs=>MAt.imp h d m cs) a cs
theorem mono_s (d:Nat):Mono fun R=>SAt' R d:=fun h a cs=>sAt.imp h (fun m cs=>MAt.imp h d m cs) a cs
structure Grow {α:Type} (C:EC α) (e:TypeId) (size b:Nat) (w:World) (v:Value) (l:List α) (xs:List Value):Prop where
 own:w.ownsRow b e size v l.length xs
 rows:Rows (C (Ap b v.ownBlock w)) l xs
section
variable {α:Type} {C:EC α} {e:TypeId} {size b:Nat} {w w':World} {v:Value} {l:List α} {xs:List Value}
theorem Grow.nil (C:EC α) (e:TypeId) (size b:Nat) (w:World):Grow C e size b w (.slice none 0 0) [] []:=⟨World.ownsRow_nil _ _ _ _,rfl⟩
theorem Grow.on (hC:Mono C) (h:Grow C e size b w v l xs) (hb:Below w.heap.size w w'):Grow C e size b w' v l xs :=
 ⟨own_hi h.own (hi_below b hb),h.rows.imp (hC (Ap.on hb))⟩
theorem Grow.box (hC:Mono C) (h:Grow C e size b w v l xs) {g:Nat} (hg:w.grownBy w' (some g)) (hgb:g < b):Grow C e size b w' v l xs :=
 ⟨own_hi h.own (hi_grown hg hgb),h.rows.imp (hC (Ap.box hg hgb))⟩
theorem Grow.less (hC:Mono C) (h:Grow C e size b w v l xs) {b':Nat} (hb:b' ≤ b):Grow C e size b' w v l xs :=
 ⟨own_less h.own hb,h.rows.imp (hC fun e size v n xs h=>⟨own_less h.1 hb,h.2⟩)⟩
theorem Grow.lt (h:Grow C e size b w v l xs) (k:Nat) (hk:v.ownBlock = some k):k < w.heap.size:=(own_blk h.own k hk).2
theorem Grow.app (hC:Mono C) (h:Grow C e size b w v l xs) {a:α} {cs:List Value} {b':Nat} (hbb:b ≤ b') (hv:∀ k,v.ownBlock = some k → k < b') (ha:C (Ow b' w) a cs) {g cap:Nat}
  (hrow:w'.ownsRow b e size (.slice (some ⟨g,0,none⟩) (l.length + 1) cap) (l.length + 1) (xs ++ cs)) (hg:w.grownBy w' v.ownBlock) (hat:v.ownBlock = some g ∨ w.heap.size ≤ g):Grow C e size b w' (.slice (some ⟨g,0,none⟩) (l.length + 1) cap) (l ++ [a]) (xs ++ cs) :=
 ⟨by rw [List.length_append]; exact hrow,(h.rows.imp (hC (Ap.grown hg hat))).append (Rows.single (hC (Ap.grown hg hat) _ _ (hC (Ap.of hbb hv) _ _ ha)))⟩
theorem Grow.ow (hC:Mono C) (h:Grow C e size b w v l xs) (hl:l.length ≤ 10000000000000):LsAt (Ow b w) e size (C (Ow b w)) l v:=⟨xs,⟨h.own,hl⟩,h.rows.imp (hC Ap.ow)⟩
end
theorem one_msg_ow {b:Nat} {w:World} {d:Nat} {m:Mg} {x:Value} (h:MAt (Ow b w) d m [x]):∀ u ∈ [x],u.oneCell' = true:=MAt.oneO m [x] h
theorem cell3 {w:World} {g:Nat} {a b c:Value} {t:TypeId} (h:w.heap[g]? = some (.cells #[a,b,c] t (0,0))) (x:Value) :
  (w.setCell ⟨g,2,none⟩ x).heap[g]? = some (.cells #[a,b,x] t (0,0)) ∧ w.grownBy (w.setCell ⟨g,2,none⟩ x) (some g) :=
 ⟨heap_setCell_same w g 2 #[a,b,c] t x h,rfl,rfl,rfl,by simp,fun k _ hk=>heap_setCell_other _ ⟨g,2,none⟩ k _ (fun e=>hk (by simp [e]))⟩
theorem box_far {w w':World} {g:Nat} {t:TypeId} {cs:Array Value} {fr:Nat × Nat} {v:Value} {b e size n:Nat} {xs:List Value} (X:w.heap[g]? = some (.cells cs t fr)) (hg:w.grownBy w' v.ownBlock) (hown:w.ownsRow b e size v n xs) (hlt:g < b):w'.heap[g]? = some (.cells cs t fr) :=
 (hg.block g (box_lt X) fun e=>by have:=(own_blk hown g e.symm).1; omega).trans X
theorem below_row {w w':World} {v:Value} {b e size n B:Nat} {xs:List Value} (hg:w.grownBy w' v.ownBlock) (hown:w.ownsRow b e size v n xs) (hB:B ≤ b) (hs:B ≤ w.heap.size):Below B w w' :=
 ⟨hg.os,hg.tape,hg.output,hg.size,fun k hk=>hg.block k (by omega) fun e=>by have:=(own_blk hown k e.symm).1; omega⟩
theorem take_snoc {α:Type} {l:List α} {k:Nat} {a:α} (h:l[k]? = some a):l.take k ++ [a] = l.take (k + 1):=by rw [List.take_add_one,h]; rfl
theorem cell1 {w:World} {g:Nat} {a:Value} {t:TypeId} (h:w.heap[g]? = some (.cells #[a] t (0,0))) (x:Value) :
  (w.setCell ⟨g,0,none⟩ x).heap[g]? = some (.cells #[x] t (0,0)) ∧ w.grownBy (w.setCell ⟨g,0,none⟩ x) (some g) :=
 ⟨heap_setCell_same w g 0 #[a] t x h,rfl,rfl,rfl,by simp,fun k _ hk=>heap_setCell_other _ ⟨g,0,none⟩ k _ (fun e=>hk (by simp [e]))⟩
end Go.Proofs.YtckcojkpghiclaaGreatDoor.T9
namespace Go.Proofs.YtckcojkpghiclaaGreatDoor
set_option maxRecDepth 100000
end Go.Proofs.YtckcojkpghiclaaGreatDoor
