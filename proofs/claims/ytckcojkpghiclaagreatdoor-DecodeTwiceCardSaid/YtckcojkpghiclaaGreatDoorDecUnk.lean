/-
 Decode,where nothing goes wrong,as it is told what message does.
-/
import Derived.Test.YtckcojkpghiclaaGreatDoorEncVal
import Derived.Test.YtckcojkpghiclaaGreatDoorDecNumc
import Derived.Test.YtckcojkpghiclaaGreatDoorEncAw
import Derived.Deep.AppendLies
import Derived.Deep.RegionHeldLaw
import Derived.Test.YtckcojkpghiclaaGreatDoorVarPut
import Derived.Test.YtckcojkpghiclaaGreatDoorTrSet
import Derived.Test.YtckcojkpghiclaaGreatDoorConvRules
import Derived.Test.YtckcojkpghiclaaGreatDoorTokPlaces
namespace Go.Proofs.YtckcojkpghiclaaGreatDoor.T11
set_option maxRecDepth 100000
open Go.RowKit
open Go.Proofs.YtckcojkpghiclaaGreatDoor.T9
set_option maxHeartbeats 4000000 in
set_option maxRecDepth 1000000 in
theorem decode1_ok (P1 P2 P3:Nat) (vM vE:Value) (m:Int) (A:Option Addr) (n c:Nat) (Q:Value → World → Prop) (w:World) (hQ:∀ v wa wb,Q v wa → wa.grownBy wb (some w.heap.size) → Q v wb)
  (h1:w.heap[P1]? = some (.cells #[vM,vE] 25 (0,0))) (h2:w.heap[P2]? = some (.cells #[.int .i64 m] 3 (0,0))) (h3:w.heap[P3]? = some (.cells #[.slice A n c] 26 (0,0)))
  (HF:∀ wx,Below w.heap.size w wx → w.heap.size + 1 ≤ wx.heap.size → Calls Tryz.prog 36 #[.agg #[vM,vE],.int .i64 m,.slice A n c] wx fun e w'=>(∃ A n c,e = .returned (.agg #[.slice A n c]) ∧ Q (.slice A n c) w') ∧ Below wx.heap.size wx w') :
  Calls Tryz.prog 35 #[.pointer (some ⟨P1,0,none⟩),.pointer (some ⟨P2,0,none⟩),.pointer (some ⟨P3,0,none⟩)] w fun e w'=>(∃ A n c,e = .returned (.agg #[.slice A n c]) ∧ Q (.slice A n c) w') ∧ Below w.heap.size w w':=by
 have LBD:=below_new w (.cells #[.slice none 0 0] 31)
 have X1:=heap_alloc_new w (.cells #[.slice none 0 0] 31)
 have y1:=box2' (box_on h1 LBD)
 have y2:=bx1 (box_on h2 LBD)
 have y3:=bx1 (box_on h3 LBD)
 have HC:=Lib.hid (HF _ LBD (by simp))
 have HQ:=Lib.hid hQ
 have HX:=Lib.hid X1
 clear h1 h2 h3 HF hQ X1
 go_enter Tryz.func35,Tryz.ntmps35
 go_wp2_with fail
 refine HC.out.mono ?_
 rintro e w1 ⟨⟨A',n',c',rfl,hq⟩,hb1⟩
 have Y1:=box_on HX.out hb1
 have hb01:=below_then LBD hb1
 have c0:=bx1 Y1
 have f0:w1.frozen? ⟨w.heap.size,0,none⟩ = false:=by simp [World.frozen?,Y1]
 obtain ⟨Z1,G1⟩:=cell1 Y1 (.slice A' n' c')
 have hq2:=HQ.out _ _ _ hq G1
 have hbz:=hb01.trans (below_own G1 (Nat.le_refl _) hb01.size)
 clear hq HQ HC HX y1 y2 y3
 go_wp2
 refine bodyPost_ret (results_cell_row rfl _ _ w.heap.size _ _ (0,0) _ rfl Z1 Tryz.underlying31 rfl sz_msg) rfl ?_
 exact ⟨⟨A',n',c',rfl,hq2⟩,hbz⟩
set_option maxHeartbeats 4000000 in
set_option maxRecDepth 1000000 in
theorem decode_ok (vM vE:Value) (m:Int) (A:Option Addr) (n c:Nat) (Q:Nat → Value → World → Prop) (w:World) (hQ:∀ B v wa wb k,k < B → Q B v wa → wa.grownBy wb (some k) → Q B v wb)
  (HF:∀ wx,Below w.heap.size w wx → w.heap.size + 7 ≤ wx.heap.size → Calls Tryz.prog 36 #[.agg #[vM,vE],.int .i64 m,.slice A n c] wx fun e w'=>(∃ A n c,e = .returned (.agg #[.slice A n c]) ∧ Q wx.heap.size (.slice A n c) w') ∧ Below wx.heap.size wx w') :
  Calls Tryz.prog 14 #[.agg #[vM,vE],.int .i64 m,.slice A n c] w fun e w'=>(∃ A n c,e = .returned (.tuple #[.agg #[.slice A n c],.int .i64 0]) ∧ ∃ B,w.heap.size + 7 ≤ B ∧ Q B (.slice A n c) w') ∧ Below w.heap.size w w':=by
 have hmf:∀ (fn:Fn) (first cap:Array Value) (w:World),(Instr.makeFunc fn first cap).run Tryz.prog w = .ok (.func fn first cap) w:=fun _ _ _ _=>rfl
 obtain ⟨X1,X2,X3,X4,LBD,hsz⟩:=four_new (rfl:(((w.alloc (.cells #[vM,vE] 25)).alloc (.cells #[.int .i64 m] 3)).alloc (.cells #[.slice A n c] 26)).alloc (.cells #[.slice none 0 0] 31) = _)
 have HC:∀ wx,Below (w.heap.size + 4) ((((w.alloc (.cells #[vM,vE] 25)).alloc (.cells #[.int .i64 m] 3)).alloc (.cells #[.slice A n c] 26)).alloc (.cells #[.slice none 0 0] 31)) wx → w.heap.size + 4 + 2 ≤ wx.heap.size → Calls Tryz.prog 35 #[.pointer (some ⟨w.heap.size,0,none⟩),.pointer (some ⟨w.heap.size + 1,0,none⟩),.pointer (some ⟨w.heap.size + 1 + 1,0,none⟩)] wx fun e w'=>(∃ A n c,e = .returned (.agg #[.slice A n c]) ∧ (fun v w'=>∃ B,w.heap.size + 7 ≤ B ∧ Q B v w') (.slice A n c) w') ∧ Below wx.heap.size wx w':=fun wx hx hs=>by
  refine (decode1_ok w.heap.size (w.heap.size + 1) (w.heap.size + 1 + 1) vM vE m A n c (fun v w'=>∃ B,wx.heap.size + 1 ≤ B ∧ Q B v w') wx (fun v wa wb ⟨B,hB,hq⟩ hg=>⟨B,hB,hQ B v wa wb _ (by omega) hq hg⟩) ((hx.block _ (by omega)).trans X1) ((hx.block _ (by omega)).trans X2) ((hx.block _ (by omega)).trans X3) (fun wy hy hsy=>(HF wy (LBD.trans ((hx.mono (by omega)).trans (hy.mono (by omega)))) (by omega)).mono ?_)).mono ?_
  ·rintro e w' ⟨⟨A',n',c',rfl,hq⟩,hb⟩
   exact ⟨⟨A',n',c',rfl,_,hsy,hq⟩,hb⟩
  ·rintro e w' ⟨⟨A',n',c',rfl,B,hB,hq⟩,hb⟩
   exact ⟨⟨A',n',c',rfl,B,by omega,hq⟩,hb⟩
 have HC:=Lib.hid HC
 have HX:=Lib.hid X4
 have HL:=Lib.hid LBD
 have HQ:=Lib.hid hQ
 have HZ:=Lib.hid hsz
 clear HF X1 X2 X3 X4 LBD hQ hsz
 go_enter Tryz.func14,Tryz.ntmps14
 go_wp2_with fail
 refine (caughtM_ok _ (fun v w'=>∃ B,w.heap.size + 7 ≤ B ∧ Q B v w') _ (fun v wa wb k _ hk ⟨B,hB,hq⟩ hg=>⟨B,hB,HQ.out B v wa wb k (by rw [HZ.out] at hk; omega) hq hg⟩) (fun wx hx hs=>HC.out wx (by rw [HZ.out] at hx; exact hx) (by rw [HZ.out] at hs; exact hs))).mono ?_
 rintro e w1 ⟨⟨A',n',c',rfl,B,hB,hq⟩,hb1⟩
 rw [HZ.out] at hb1
 have Y1:=(hb1.block _ (show w.heap.size + 1 + 1 + 1 < w.heap.size + 4 by omega)).trans HX.out
 have hs1:w.heap.size + 4 ≤ w1.heap.size:=by have:=hb1.size; rw [HZ.out] at this; exact this
 have hb01:=HL.out.trans (hb1.mono (by omega))
 have c0:=bx1 Y1
 have f0:w1.frozen? ⟨w.heap.size + 1 + 1 + 1,0,none⟩ = false:=by simp [World.frozen?,Y1]
 obtain ⟨Z1,G1⟩:=cell1 Y1 (.slice A' n' c')
 have hq2:=HQ.out B _ _ _ _ (by omega) hq G1
 have hbz:=hb01.trans (below_own G1 (by omega) (by omega))
 have z0:=bx1 Z1
 clear HC HQ HX HL hq hb1 HZ
 go_wp2
 refine bodyPost_ret (results_row_tmp1 rfl _ _ (w.heap.size + 1 + 1 + 1) _ _ (0,0) _ rfl Z1 Tryz.underlying31 rfl sz_msg) rfl ?_
 exact ⟨⟨A',n',c',rfl,B,hB,hq2⟩,hbz⟩
theorem own_froz {w:World} {b e size n g cap:Nat} {xs:List Value} (h:w.ownsRow b e size (.slice (some ⟨g,0,none⟩) n cap) n xs) (j:Nat):w.frozen? ⟨g,j,none⟩ = false:=by
 obtain ⟨g',cap',cur,e1,-,h2,-⟩:=h.2.resolve_left (fun h=>by cases h.1)
 injection e1 with e11 e12 e13
 injection e11 with e11
 injection e11 with e11
 subst e11
 simp [World.frozen?,h2]
theorem s_on {w wx:World} {a:Nat} {vM vE vB:Value} {f:Df} {no' wire:Int} {num:Nat} {frm upto:Int} (h:(w.cell? ⟨a,0,none⟩ = some vM ∧ w.cell? ⟨a,1,none⟩ = some vE ∧ w.cell? ⟨a,2,none⟩ = some vB) ∧ (w.cell? ⟨a + 1,0,none⟩ = some (.int .i64 f.no) ∧ w.cell? ⟨a + 1,1,none⟩ = some (.string (txt f.name)) ∧ w.cell? ⟨a + 1,2,none⟩ = some (.int .i64 f.kind) ∧ w.cell? ⟨a + 1,3,none⟩ = some (.int .i64 f.ref) ∧ w.cell? ⟨a + 1,4,none⟩ = some (.bool f.rep) ∧ w.cell? ⟨a + 1,5,none⟩ = some (.int .i64 f.key) ∧ w.cell? ⟨a + 1,6,none⟩ = some (.int .i64 f.one)) ∧ (w.cell? ⟨a + 2,0,none⟩ = some (.int .i64 no') ∧ w.cell? ⟨a + 2,1,none⟩ = some (.int .i64 wire) ∧ w.cell? ⟨a + 2,2,none⟩ = some (.int .u64 num) ∧ w.cell? ⟨a + 2,3,none⟩ = some (.int .i64 frm) ∧ w.cell? ⟨a + 2,4,none⟩ = some (.int .i64 upto))) (hb:Below w.heap.size w wx):(wx.cell? ⟨a,0,none⟩ = some vM ∧ wx.cell? ⟨a,1,none⟩ = some vE ∧ wx.cell? ⟨a,2,none⟩ = some vB) ∧ (wx.cell? ⟨a + 1,0,none⟩ = some (.int .i64 f.no) ∧ wx.cell? ⟨a + 1,1,none⟩ = some (.string (txt f.name)) ∧ wx.cell? ⟨a + 1,2,none⟩ = some (.int .i64 f.kind) ∧ wx.cell? ⟨a + 1,3,none⟩ = some (.int .i64 f.ref) ∧ wx.cell? ⟨a + 1,4,none⟩ = some (.bool f.rep) ∧ wx.cell? ⟨a + 1,5,none⟩ = some (.int .i64 f.key) ∧ wx.cell? ⟨a + 1,6,none⟩ = some (.int .i64 f.one)) ∧ (wx.cell? ⟨a + 2,0,none⟩ = some (.int .i64 no') ∧ wx.cell? ⟨a + 2,1,none⟩ = some (.int .i64 wire) ∧ wx.cell? ⟨a + 2,2,none⟩ = some (.int .u64 num) ∧ wx.cell? ⟨a + 2,3,none⟩ = some (.int .i64 frm) ∧ wx.cell? ⟨a + 2,4,none⟩ = some (.int .i64 upto)):=by
 obtain ⟨⟨a1,a2,a3⟩,⟨b1,b2,b3,b4,b5,b6,b7⟩,c1,c2,c3,c4,c5⟩:=h
 exact ⟨⟨cell_on hb a1,cell_on hb a2,cell_on hb a3⟩,⟨cell_on hb b1,cell_on hb b2,cell_on hb b3,cell_on hb b4,cell_on hb b5,cell_on hb b6,cell_on hb b7⟩,cell_on hb c1,cell_on hb c2,cell_on hb c3,cell_on hb c4,cell_on hb c5⟩
structure VL (α:Type):Type where
 n:Int
 s:List UInt8
 g:Value
 M:List α
structure SLo (α:Type):Type where
 no:Int
 gK:Value
 K:List (VL α)
 gV:Value
 V:List (VL α)
inductive LM:Type where
 | mk (v:Value) (F:List (SLo LM)):LM
def LM.v:LM → Value | .mk v _=>v
def LM.F:LM → List (SLo LM) | .mk _ F=>F
structure Rw where
 e:TypeId
 size:Nat
 v:Value
 n:Nat
 xs:List Value
def cV' (x:VL LM):List Value:=[.int .i64 x.n,.string (tx x.s),x.g]
def cS' (t:SLo LM):List Value:=[.int .i64 t.no,t.gK,t.gV]
def rwV (x:VL LM):Rw:=⟨31,1,x.g,x.M.length,x.M.map LM.v⟩
def rwS (g:Value) (l:List (VL LM)):Rw:=⟨81,3,g,l.length,l.flatMap cV'⟩
def rwM (x:LM):Rw:=⟨67,3,x.v,x.F.length,x.F.flatMap cS'⟩
theorem LM.sz {x:LM} {t:SLo LM} {v:VL LM} {y:LM} (ht:t ∈ x.F) (hv:v ∈ t.K ∨ v ∈ t.V) (hy:y ∈ v.M):SizeOf.sizeOf y < SizeOf.sizeOf x:=by
 cases x with
 | mk u F =>
  have h1:=List.sizeOf_lt_of_mem (show t ∈ F from ht)
  cases t with
  | mk no gK K gV V =>
   cases v with
   | mk n s g M =>
    have h3:=List.sizeOf_lt_of_mem (show y ∈ M from hy)
    rcases hv with hv | hv
    ·have h2:=List.sizeOf_lt_of_mem (show VL.mk n s g M ∈ K from hv)
     simp at h1 h2 h3 ⊢; omega
    ·have h2:=List.sizeOf_lt_of_mem (show VL.mk n s g M ∈ V from hv)
     simp at h1 h2 h3 ⊢; omega
def LM.rows (x:LM):List Rw :=
 rwM x :: (x.F.attach.map fun ⟨t,ht⟩=>rwS t.gK t.K :: rwS t.gV t.V :: ((t.K.attach.map fun ⟨v,hv⟩=>rwV v :: (v.M.attach.map fun ⟨y,hy⟩=>LM.rows y).flatten).flatten ++ (t.V.attach.map fun ⟨v,hv⟩=>rwV v :: (v.M.attach.map fun ⟨y,hy⟩=>LM.rows y).flatten).flatten)).flatten
termination_by SizeOf.sizeOf x
decreasing_by
 ·exact LM.sz ht (.inl hv) hy
 ·exact LM.sz ht (.inr hv) hy
def rowsV (x:VL LM):List Rw:=rwV x :: (x.M.map LM.rows).flatten
def rowsS (t:SLo LM):List Rw:=rwS t.gK t.K :: rwS t.gV t.V :: ((t.K.map rowsV).flatten ++ (t.V.map rowsV).flatten)
theorem att_map {α β:Type} (l:List α) (f:α → β):(l.attach.map fun x=>f x.1) = l.map f:=by simp
theorem attF {α β:Type} (l:List α) (f:α → List β) (g:{x // x ∈ l} → List β) (h:∀ x,g x = f x.1):(l.attach.map g).flatten = (l.map f).flatten:=by
 have:l.attach.map g = l.map f:=by
  rw [show g = fun x=>f x.1 from funext h]
  exact att_map l f
 rw [this]
theorem LM.rows_eq (x:LM):x.rows = rwM x :: (x.F.map rowsS).flatten:=by
 rw [LM.rows]
 congr 1
 refine attF x.F rowsS _ ?_
 rintro ⟨t,ht⟩
 show _ :: _ :: _ = rowsS t
 unfold rowsS
 rw [attF t.K rowsV,attF t.V rowsV]
 ·rintro ⟨v,hv⟩
  show _ :: _ = rowsV v
  unfold rowsV
  rw [attF v.M LM.rows]
  intro y; rfl
 ·rintro ⟨v,hv⟩
  show _ :: _ = rowsV v
  unfold rowsV
  rw [attF v.M LM.rows]
  intro y; rfl
def blocks (l:List Rw):List Nat:=l.filterMap fun r=>r.v.ownBlock
structure Lies (b K:Nat) (w:World) (l:List Rw):Prop where
 own:∀ r ∈ l,w.ownsRow b r.e r.size r.v r.n r.xs ∧ r.n ≤ K
 apart:(blocks l).Nodup
theorem mem_blocks {l:List Rw} {r:Rw} {k:Nat} (h:r ∈ l) (hk:r.v.ownBlock = some k):k ∈ blocks l:=List.mem_filterMap.2 ⟨r,h,hk⟩
theorem Lies.old {b K:Nat} {w:World} {l:List Rw} (h:Lies b K w l) {k:Nat} (hk:k ∈ blocks l):b ≤ k ∧ k < w.heap.size:=by
 obtain ⟨r,hr,hrk⟩:=List.mem_filterMap.1 hk
 exact own_blk (h.own r hr).1 k hrk
theorem Lies.kept {b K:Nat} {w w':World} {l:List Rw} (h:Lies b K w l) (hk:∀ k ∈ blocks l,w'.heap[k]? = w.heap[k]?):Lies b K w' l :=
 ⟨fun r hr=>⟨T9.own_kept (h.own r hr).1 fun k hk' _=>hk k (mem_blocks hr hk'),(h.own r hr).2⟩,h.apart⟩
theorem Lies.on {b K:Nat} {w w':World} {l:List Rw} (h:Lies b K w l) (hb:Below w.heap.size w w'):Lies b K w' l:=h.kept fun k hk=>hb.block k (h.old hk).2
theorem blocks_append (l m:List Rw):blocks (l ++ m) = blocks l ++ blocks m:=List.filterMap_append
theorem Lies.app {b K:Nat} {w:World} {l m:List Rw} (h:Lies b K w l) (k:Lies b K w m) (hd:∀ i ∈ blocks l,i ∉ blocks m):Lies b K w (l ++ m) :=
 ⟨fun r hr=>(List.mem_append.1 hr).elim (h.own r) (k.own r),by rw [blocks_append]; exact List.nodup_append.2 ⟨h.apart,k.apart,fun i hi j hj e=>hd i hi (e ▸ hj)⟩⟩
theorem Lies.left {b K:Nat} {w:World} {l m:List Rw} (h:Lies b K w (l ++ m)):Lies b K w l :=
 ⟨fun r hr=>h.own r (List.mem_append_left _ hr),by have:=h.apart; rw [blocks_append] at this; exact (List.nodup_append.1 this).1⟩
theorem Lies.right {b K:Nat} {w:World} {l m:List Rw} (h:Lies b K w (l ++ m)):Lies b K w m :=
 ⟨fun r hr=>h.own r (List.mem_append_right _ hr),by have:=h.apart; rw [blocks_append] at this; exact (List.nodup_append.1 this).2.1⟩
theorem Lies.far {b K:Nat} {w:World} {l m:List Rw} (h:Lies b K w (l ++ m)) {i:Nat} (hi:i ∈ blocks l):i ∉ blocks m:=by
 have:=h.apart
 rw [blocks_append] at this
 exact fun hm=>(List.nodup_append.1 this).2.2 i hi i hm rfl
theorem Lies.more {b K K':Nat} {w:World} {l:List Rw} (h:Lies b K w l) (hK:K ≤ K'):Lies b K' w l:=⟨fun r hr=>⟨(h.own r hr).1,Nat.le_trans (h.own r hr).2 hK⟩,h.apart⟩
def LM.bare (x:LM):Mg:=.mk (x.F.attach.map fun ⟨t,ht⟩=>⟨t.no,t.K.attach.map fun ⟨v,hv⟩=>⟨v.n,v.s,v.M.attach.map fun ⟨y,hy⟩=>LM.bare y⟩,t.V.attach.map fun ⟨v,hv⟩=>⟨v.n,v.s,v.M.attach.map fun ⟨y,hy⟩=>LM.bare y⟩⟩)
termination_by SizeOf.sizeOf x
decreasing_by
 ·exact LM.sz ht (.inl hv) hy
 ·exact LM.sz ht (.inr hv) hy
def bareV (v:VL LM):Vl':=⟨v.n,v.s,v.M.map LM.bare⟩
def bareS (t:SLo LM):So:=⟨t.no,t.K.map bareV,t.V.map bareV⟩
theorem attM {α β:Type} (l:List α) (f:α → β) (g:{x // x ∈ l} → β) (h:∀ x,g x = f x.1):l.attach.map g = l.map f:=by
 rw [show g = fun x=>f x.1 from funext h]
 exact att_map l f
theorem LM.bare_eq (x:LM):x.bare = .mk (x.F.map bareS):=by
 rw [LM.bare]
 congr 1
 refine attM x.F bareS _ ?_
 rintro ⟨t,ht⟩
 show (⟨t.no,_,_⟩:So) = bareS t
 unfold bareS
 rw [attM t.K bareV,attM t.V bareV]
 ·rintro ⟨v,hv⟩
  show (⟨v.n,v.s,_⟩:Vl') = bareV v
  unfold bareV
  rw [attM v.M LM.bare]
  intro y; rfl
 ·rintro ⟨v,hv⟩
  show (⟨v.n,v.s,_⟩:Vl') = bareV v
  unfold bareV
  rw [attM v.M LM.bare]
  intro y; rfl
structure Upd (p:Addr) (v:Value) (ids:List Nat) (w w':World):Prop where
 os:w'.os = w.os
 tape:w'.tape = w.tape
 output:w'.output = w.output
 size:w.heap.size ≤ w'.heap.size
 block:∀ k,k < w.heap.size → k ∉ ids → w'.heap[k]? = (w.setCell p v).heap[k]?
theorem setCell_at (w:World) (p:Addr) (v:Value) (k:Nat):(w.setCell p v).heap[k]? = (w.heap[k]?).map fun o=>if p.block = k then (match o with | .cells c elem frozen=>.cells (if p.spot.isSome then c else c.setIfInBounds p.off v) elem frozen | o=>o) else o:=by
 simp only [World.setCell,Array.getElem?_modify]
 split
 ·rfl
 ·cases w.heap[k]? <;> rfl
theorem setCell_of {w w1:World} {p:Addr} {u:Value} {k:Nat} (h:w1.heap[k]? = (w.setCell p u).heap[k]?) (v:Value):(w1.setCell p v).heap[k]? = (w.setCell p v).heap[k]?:=by
 rw [setCell_at,h,setCell_at,setCell_at]
 cases w.heap[k]? with
 | none=>rfl
 | some o =>
  by_cases hk:p.block = k
  ·simp only [Option.map_some,if_pos hk]
   cases o <;> try rfl
   cases p.spot <;> simp
  ·simp only [Option.map_some,if_neg hk]
theorem setCell_same {w w1:World} {k:Nat} (h:w1.heap[k]? = w.heap[k]?) (p:Addr) (v:Value):(w1.setCell p v).heap[k]? = (w.setCell p v).heap[k]?:=by
 rw [setCell_at,h,setCell_at]
theorem Upd.trans {p:Addr} {u v:Value} {ids ids1:List Nat} {w w1 w2:World} (h:Upd p u ids w w1) (k:Upd p v ids1 w1 w2) (hi:∀ i ∈ ids1,i < w.heap.size → i ∈ ids):Upd p v ids w w2 :=
 ⟨k.os.trans h.os,k.tape.trans h.tape,k.output.trans h.output,Nat.le_trans h.size k.size,fun i hw hn=>(k.block i (Nat.lt_of_lt_of_le hw h.size) (fun hm=>hn (hi i hm hw))).trans (setCell_of (h.block i hw hn) v)⟩
theorem Upd.after {p:Addr} {v:Value} {ids ids1:List Nat} {w w1 w2:World} (h:Below w.heap.size w w1) (k:Upd p v ids1 w1 w2) (hi:∀ i ∈ ids1,i < w.heap.size → i ∈ ids):Upd p v ids w w2 :=
 ⟨k.os.trans h.os,k.tape.trans h.tape,k.output.trans h.output,Nat.le_trans h.size k.size,fun i hw hn=>(k.block i (Nat.lt_of_lt_of_le hw h.size) (fun hm=>hn (hi i hm hw))).trans (setCell_same (h.block i hw) p v)⟩
theorem Upd.then_below {p:Addr} {v:Value} {ids:List Nat} {w w1 w2:World} (h:Upd p v ids w w1) (k:Below w1.heap.size w1 w2):Upd p v ids w w2 :=
 ⟨k.os.trans h.os,k.tape.trans h.tape,k.output.trans h.output,Nat.le_trans h.size k.size,fun i hw hn=>(k.block i (Nat.lt_of_lt_of_le hw h.size)).trans (h.block i hw hn)⟩
theorem Upd.refl {p:Addr} {v:Value} (ids:List Nat) {w:World} (h:w.cell? p = some v) (hs:p.spot = none):Upd p v ids w w:=by
 refine ⟨rfl,rfl,rfl,Nat.le_refl _,fun k hk hn=>?_⟩
 rw [setCell_at]
 cases ho:w.heap[k]? with
 | none=>rfl
 | some o =>
  by_cases hp:p.block = k
  ·simp only [Option.map_some,if_pos hp]
   cases o <;> try rfl
   rename_i c e fr
   have hc:c[p.off]? = some v:=by
    unfold World.cell? at h
    rw [hp,ho] at h
    simpa [hs] using h
   have:c.setIfInBounds p.off v = c:=by
    apply Array.ext
    ·simp
    ·intro i h1 h2
     rw [Array.getElem_setIfInBounds]
     split
     ·rename_i e; subst e; rw [Array.getElem?_eq_some_iff] at hc; obtain ⟨_,hc⟩:=hc; exact hc.symm
     ·rfl
   rw [hs]; simp [this]
  ·simp only [Option.map_some,if_neg hp]
theorem Upd.row {b:Nat} {w w':World} {g o:Nat} {v u:Value} {ids:List Nat} (h:Upd ⟨g,o,none⟩ v ids w w') {e:TypeId} {size n cap:Nat} {xs:List Value} (hr:w.ownsRow b e size (.slice (some ⟨g,0,none⟩) n cap) n xs) (hn:g ∉ ids):w'.ownsRow b e size (.slice (some ⟨g,0,none⟩) n cap) n (xs.set o v):=by
 obtain ⟨h1,h2⟩:=hr.stored o v
 refine T9.own_kept h1 fun k hk hlt=>?_
 obtain rfl:g = k:=by simpa [Value.ownBlock] using hk
 exact h.block g (own_blk hr g rfl).2 hn
end Go.Proofs.YtckcojkpghiclaaGreatDoor.T11
namespace Go.Proofs.YtckcojkpghiclaaGreatDoor.T11
set_option maxRecDepth 100000
open Go.RowKit
open Go.Proofs.YtckcojkpghiclaaGreatDoor.T9 Go.Proofs.YtckcojkpghiclaaGreatDoor.T4
theorem conv_part {w:World} {A:Option Addr} {c:Nat} {l:List UInt8} (h:SlB w A c l) {i j:Nat} (hij:i ≤ j) (hj:j ≤ l.length):(Go.convert 26 9 (.slice (if i = c then A else A.map (·.add i)) (j - i) (c - i))).run Tryz.prog w = .ok (.string (txt ((l.drop i).take (j - i)))) w:=by
 have hlen:((l.drop i).take (j - i)).length = j - i:=by rw [List.length_take,List.length_drop]; omega
 have hp:=Sl.part h hij hj
 rw [bs_part] at hp
 have hp:SlB w (if i = c then A else A.map (·.add i)) (c - i) ((l.drop i).take (j - i)):=by unfold SlB; rw [hlen]; exact hp
 have:=run_str_of_bytes (P:=Tryz.prog) w 26 9 5 Tryz.underlying26 Tryz.underlying5 Tryz.underlying9 _ _ _ hp
 rw [hlen] at this
 exact this
set_option maxRecDepth 1000000 in
set_option maxHeartbeats 4000000 in
theorem take_raw (vM vE:Value) (A:Option Addr) (c:Nat) (l:List UInt8) (g o:Nat) (ref no wire num:Int) (i j:Nat) (deep:Int) (hij:i ≤ j) (hj:j ≤ l.length) (hw:wire = wireI 8) (w:World) (hr:SlB w A c l) (old:Value) (hp:g < w.heap.size) (hc:w.cell? ⟨g,o + 1,none⟩ = some old) (hz:w.frozen? ⟨g,o + 1,none⟩ = false) :
  Calls Tryz.prog 198 #[.agg #[vM,vE,.slice A l.length c],.pointer (some ⟨g,o,none⟩),.int .i64 8,.int .i64 ref,.agg #[.int .i64 no,.int .i64 wire,.int .u64 num,.int .i64 i,.int .i64 j],.int .i64 deep] w fun e w'=>e = .returned (.tuple #[]) ∧ ∃ w2,Below w.heap.size w w2 ∧ w' = w2.setCell ⟨g,o + 1,none⟩ (.string (txt ((l.drop i).take (j - i)))):=by
 have HW:=Lib.hid (fun wx=>wire_any 8 wx)
 have HY:=Lib.hid (fun wx=>must_yes 8 wx)
 rw [← hw] at HW
 have hjc:j ≤ c:=by have:=hr.le; omega
 have d0:decide ((i:Int) < 0) = false:=by simp
 have d1:decide (j < i) = false:=by simp; omega
 have d2:decide (l.length < j) = false:=by simp; omega
 obtain ⟨T1,T2,LBD⟩:=two_boxes w (.cells #[vM,vE,.slice A l.length c] 113) (.cells #[.int .i64 no,.int .i64 wire,.int .u64 num,.int .i64 i,.int .i64 j] 41)
 obtain ⟨wf,hwf⟩:∃ wf,(w.alloc (.cells #[vM,vE,.slice A l.length c] 113)).alloc (.cells #[.int .i64 no,.int .i64 wire,.int .u64 num,.int .i64 i,.int .i64 j] 41) = wf:=⟨_,rfl⟩
 rw [hwf] at T1 T2 LBD
 have HSX:Hid (∀ wx,Below wf.heap.size wf wx → (wx.cell? ⟨w.heap.size,0,none⟩ = some vM ∧ wx.cell? ⟨w.heap.size,1,none⟩ = some vE ∧ wx.cell? ⟨w.heap.size,2,none⟩ = some (.slice A l.length c)) ∧ (wx.cell? ⟨w.heap.size + 1,0,none⟩ = some (.int .i64 no) ∧ wx.cell? ⟨w.heap.size + 1,1,none⟩ = some (.int .i64 wire) ∧ wx.cell? ⟨w.heap.size + 1,2,none⟩ = some (.int .u64 num) ∧ wx.cell? ⟨w.heap.size + 1,3,none⟩ = some (.int .i64 i) ∧ wx.cell? ⟨w.heap.size + 1,4,none⟩ = some (.int .i64 j)) ∧ wx.cell? ⟨g,o + 1,none⟩ = some old ∧ wx.frozen? ⟨g,o + 1,none⟩ = false):=Lib.hid (fun wx hx=>by
  have hb:=below_then LBD hx
  exact ⟨bx3 (box_on T1 hx),heap_cells (box_on T2 hx),(hb.cell hp).trans hc,(hb.frozen hp).trans hz⟩)
 have HCV:=Lib.hid (fun wx (h:Below wf.heap.size wf wx)=>conv_part (SlB.on hr (below_then LBD h)) hij hj)
 have LD:Below wf.heap.size wf wf.drew:=(Below.refl _ _).drew
 have hww:(wire == wire) = true:=by simp
 have HB0:=Lib.hid LBD
 generalize hm:(l.drop i).take (j - i) = m at *
 clear hm T1 T2 LBD hc hz hr hw
 go_enter Tryz.func198,Tryz.ntmps198
 go_wp2_with fail
 try rw [hwf]
 clear hwf
 go_region_held3 (fun wx=>(wx.cell? ⟨w.heap.size,0,none⟩ = some vM ∧ wx.cell? ⟨w.heap.size,1,none⟩ = some vE ∧ wx.cell? ⟨w.heap.size,2,none⟩ = some (.slice A l.length c)) ∧ (wx.cell? ⟨w.heap.size + 1,0,none⟩ = some (.int .i64 no) ∧ wx.cell? ⟨w.heap.size + 1,1,none⟩ = some (.int .i64 wire) ∧ wx.cell? ⟨w.heap.size + 1,2,none⟩ = some (.int .u64 num) ∧ wx.cell? ⟨w.heap.size + 1,3,none⟩ = some (.int .i64 i) ∧ wx.cell? ⟨w.heap.size + 1,4,none⟩ = some (.int .i64 j)) ∧ wx.cell? ⟨g,o + 1,none⟩ = some old ∧ wx.frozen? ⟨g,o + 1,none⟩ = false)
  (first | exact HSX.out _ LD | exact HSX.out _ L6 | go_keep)
  ((first
   | (go_at_call 80; refine (HW.out _).mono ?_; rintro e w6 ⟨rfl,hb6⟩; have L6:=LD.trans hb6)
   | (go_at_call 62; refine (HY.out _).mono ?_; rintro e w7 ⟨rfl,rfl⟩)
   | fail))
 all_goals
  obtain ⟨⟨q0,q1,q2⟩,⟨q3,q4,q5,q6,q7⟩,P1,P2⟩:=HSX.out _ L6
  have hcv:=HCV.out _ L6
  have HB6:=Lib.hid (below_then HB0.out L6)
  go_wp2_with fail
  ·rename_i h
   rw [if_pos h.symm,show c - i = 0 by omega] at hcv
   rw [hcv]
   clear hcv h
   go_wp2
   go_end0
   exact ⟨rfl,_,HB6.out,rfl⟩
  ·rename_i h
   rw [if_neg (fun e=>h e.symm)] at hcv
   rw [hcv]
   clear hcv h
   go_wp2
   go_end0
   exact ⟨rfl,_,HB6.out,rfl⟩
def nums3 (l:List Int):List Value:=l.flatMap fun n=>[.int .i64 n,.string ⟨#[]⟩,.slice none 0 0]
theorem nums3_snoc {l:List Int} {k:Nat} {x:Int} (h:l[k]? = some x):nums3 (l.take (k + 1)) = nums3 (l.take k) ++ [.int .i64 x,.string ⟨#[]⟩,.slice none 0 0]:=by
 obtain ⟨hk,rfl⟩:=List.getElem?_eq_some_iff.1 h
 rw [List.take_succ_eq_append_getElem hk,nums3,List.flatMap_append]
 rfl
structure AtV (b g o:Nat) (W:World) (ids:List Nat) (n:Nat) (xs:List Value) (w:World):Prop where
 row:∃ v,w.cell? ⟨g,o + 2,none⟩ = some v ∧ w.ownsRow b 81 3 v n xs ∧ Upd ⟨g,o + 2,none⟩ v ids W w ∧ (∀ k,v.ownBlock = some k → k ≠ g ∧ (k < W.heap.size → k ∈ ids))
 froz:w.frozen? ⟨g,o + 2,none⟩ = false
theorem froz_put (w:World) (g o:Nat) (v:Value) (x:Addr):(w.setCell ⟨g,o,none⟩ v).frozen? x = w.frozen? x:=World.frozen?_setCells g [v] o w x
theorem grown_block {w w':World} {v:Value} (h:w.grownBy w' v.ownBlock) {k:Nat} (hk:k < w.heap.size) (hn:v.ownBlock ≠ some k):w'.heap[k]? = w.heap[k]?:=h.block k hk (fun e=>hn e.symm)
theorem froz_of {w w':World} {a:Addr} (h:w'.heap[a.block]? = w.heap[a.block]?):w'.frozen? a = w.frozen? a:=by unfold World.frozen?; rw [h]
theorem AtV.push {b g o:Nat} {W:World} {ids:List Nat} {n:Nat} {xs new:List Value} {wr wa w8:World} {v:Value} {g8 cap8:Nat} (hgW:g < W.heap.size) (hc:wr.cell? ⟨g,o + 2,none⟩ = some v) (hU:Upd ⟨g,o + 2,none⟩ v ids W wr) (hk:∀ k,v.ownBlock = some k → k ≠ g ∧ (k < W.heap.size → k ∈ ids)) (hz:wr.frozen? ⟨g,o + 2,none⟩ = false)
  (hwa:Below wr.heap.size wr wa) (hown8:w8.ownsRow b 81 3 (.slice (some ⟨g8,0,none⟩) (n + 1) cap8) (n + 1) (xs ++ new)) (hg8:wa.grownBy w8 v.ownBlock) (hat8:v.ownBlock = some g8 ∨ g8 = wa.heap.size) :
  AtV b g o W ids (n + 1) (xs ++ new) (w8.setCell ⟨g,o + 2,none⟩ (.slice (some ⟨g8,0,none⟩) (n + 1) cap8)):=by
 have hgr:g < wr.heap.size:=Nat.lt_of_lt_of_le hgW hU.size
 have hga:g < wa.heap.size:=Nat.lt_of_lt_of_le hgr hwa.size
 have hne:g8 ≠ g:=by
  rcases hat8 with h | h
  ·exact (hk _ h).1
  ·omega
 have hvg:v.ownBlock ≠ some g:=fun e=>(hk g e).1 rfl
 have e8:w8.heap[g]? = wr.heap[g]?:=(grown_block hg8 hga hvg).trans (hwa.block g hgr)
 have c8:w8.cell? ⟨g,o + 2,none⟩ = some v:=(World.cell?_of_block e8).trans hc
 have z8:w8.frozen? ⟨g,o + 2,none⟩ = false:=(froz_of e8).trans hz
 have hsz:(w8.setCell ⟨g,o + 2,none⟩ (.slice (some ⟨g8,0,none⟩) (n + 1) cap8)).heap.size = w8.heap.size:=by simp [World.setCell]
 have hs8:W.heap.size ≤ w8.heap.size:=Nat.le_trans hU.size (Nat.le_trans hwa.size hg8.size)
 refine ⟨⟨.slice (some ⟨g8,0,none⟩) (n + 1) cap8,World.cell?_setCell_same _ _ _ c8,?_,⟨hg8.os.trans (hwa.os.trans hU.os),hg8.tape.trans (hwa.tape.trans hU.tape),hg8.output.trans (hwa.output.trans hU.output),by rw [hsz]; exact hs8,?_⟩,?_⟩,(froz_put _ _ _ _ _).trans z8⟩
 ·refine T9.own_kept hown8 fun k hk' _=>?_
  obtain rfl:g8 = k:=by simpa [Value.ownBlock] using hk'
  rw [setCell_at]
  cases w8.heap[g8]? with
  | none=>rfl
  | some x=>simp only [Option.map_some]; rw [if_neg (fun e=>hne e.symm)]
 ·intro k hkw hkn
  have hkr:k < wr.heap.size:=Nat.lt_of_lt_of_le hkw hU.size
  have hvk:v.ownBlock ≠ some k:=fun e=>hkn ((hk k e).2 hkw)
  have h1:w8.heap[k]? = wr.heap[k]?:=(grown_block hg8 (Nat.lt_of_lt_of_le hkr hwa.size) hvk).trans (hwa.block k hkr)
  exact (setCell_same h1 _ _).trans (setCell_of (hU.block k hkw hkn) _)
 ·intro k hk'
  obtain rfl:g8 = k:=by simpa [Value.ownBlock] using hk'
  refine ⟨hne,fun hlt=>?_⟩
  rcases hat8 with h | h
  ·exact (hk _ h).2 hlt
  ·have h1:=hU.size; have h2:=hwa.size; omega
set_option maxRecDepth 1000000 in
set_option maxHeartbeats 8000000 in
theorem packed_any (vM vE:Value) (A:Option Addr) (c:Nat) (l:List UInt8) (g o b:Nat) (f:Df) (no wire num:Int) (i j:Nat) (hij:i ≤ j) (hj:j ≤ l.length) (hl:l.length ≤ 1000000000) (w:World) (hr:SlB w A c l) (ids:List Nat) (n:Nat) (xs:List Value) (hb:b ≤ w.heap.size) (hg:g < w.heap.size) (hn:n ≤ 1000000000) (hA:AtV b g o w ids n xs w) :
  Calls Tryz.prog 150 #[.agg #[vM,vE,.slice A l.length c],.pointer (some ⟨g,o,none⟩),.agg #[.int .i64 f.no,.string (txt f.name),.int .i64 f.kind,.int .i64 f.ref,.bool f.rep,.int .i64 f.key,.int .i64 f.one],.agg #[.int .i64 no,.int .i64 wire,.int .u64 num,.int .i64 i,.int .i64 j]] w fun e w' =>
   ((numsK f.kind ((l.drop i).take (j - i))).2 = 0 ∧ e = .returned (.tuple #[]) ∧ AtV b g o w ids (n + (numsK f.kind ((l.drop i).take (j - i))).1.length) (xs ++ nums3 (numsK f.kind ((l.drop i).take (j - i))).1) w') ∨
   ((numsK f.kind ((l.drop i).take (j - i))).2 ≠ 0 ∧ e = .panicked [{ v:=errP ((numsK f.kind ((l.drop i).take (j - i))).2:Nat),recovered:=false }] ∧ Below w.heap.size w w'):=by
 obtain ⟨i0,hi,hz0,hz1,hz2⟩:=info_parts info_val
 obtain ⟨T1,T2,T3,LBD⟩:=three_boxes w (.cells #[vM,vE,.slice A l.length c] 113) (dC f) (.cells #[.int .i64 no,.int .i64 wire,.int .u64 num,.int .i64 i,.int .i64 j] 41)
 obtain ⟨g0,g1,g2,g3,g4,g5,g6⟩:=dc_cells T2
 obtain ⟨s0,s1,s2⟩:=bx3 T1
 obtain ⟨r0,r1,r2,r3,r4⟩:=heap_cells T3
 obtain ⟨W3,hW3⟩:∃ W,W = (((w.alloc (.cells #[vM,vE,.slice A l.length c] 113)).alloc (dC f)).alloc (.cells #[.int .i64 no,.int .i64 wire,.int .u64 num,.int .i64 i,.int .i64 j] 41)):=⟨_,rfl⟩
 have HN:=numbers_all f.kind A c l i j hij hj hl W3 (SlB.on hr (hW3 ▸ LBD))
 have hNl:=numsK_len f.kind ((l.drop i).take (j - i))
 obtain ⟨N,hN⟩:∃ N,numsK f.kind ((l.drop i).take (j - i)) = N:=⟨_,rfl⟩
 rw [hN] at HN hNl ⊢
 clear hN
 have HN:=Lib.hid HN
 have HB0:=Lib.hid (show Below w.heap.size w W3 from hW3 ▸ LBD)
 clear T1 T2 T3 LBD
 go_enter Tryz.func150,Tryz.ntmps150
 go_wp2_with fail
 rw [← hW3]
 refine HN.out.mono ?_
 rintro e w1 ⟨⟨h0,v,rfl,hown⟩ | ⟨h0,rfl⟩,hb1⟩
 ·obtain ⟨A',c',rfl,hs⟩:=Sl.of_own hown
  obtain ⟨X,e1⟩:=N
  simp only at h0 hNl hs hown
  subst h0
  have hw1:=below_then HB0.out hb1
  have HOW:=Lib.hid hown
  have HSS:=Lib.hid hs
  obtain ⟨⟨v,hc,hv,hU,hk⟩,hz⟩:=hA
  have HS0:Hid (AtV b g o w ids (n + 0) (xs ++ nums3 (X.take 0)) w1):=Lib.hid (by
   rw [List.take_zero]
   show AtV b g o w ids n (xs ++ []) w1
   rw [List.append_nil]
   exact ⟨⟨v,cell_on hw1 hc,own_hi hv (hi_below b hw1),hU.then_below hw1,hk⟩,(hw1.frozen hg).trans hz⟩)
  have HNL:=Lib.hid hNl
  have HB1:=Lib.hid hw1
  have hfar:∀ ad,A' = some ad → 0 < X.length → w.heap.size ≤ ad.block:=fun ad h hp=>by
   subst h
   rcases hown with ⟨_,⟨h1,_⟩ | ⟨gg,cc,cur,h1,h2,_⟩⟩
   ·cases h1
   ·injection h1 with h1 _ _
    obtain rfl:=Option.some.inj h1
    exact Nat.le_trans HB0.out.size h2
  have HFA:=Lib.hid hfar
  have HAD:Hid (∀ ad,A' = some ad → 0 < X.length → ∀ v,w1.cell? ⟨g,o + 2,none⟩ = some v → v.ownBlock ≠ some ad.block):=Lib.hid (fun ad h hp u hu e=>by
   obtain rfl:v = u:=Option.some.inj ((cell_on hw1 hc).symm.trans hu)
   have h1:=(own_blk hv _ e).2
   have h2:=hfar ad h hp
   omega)
  clear hW3 g0 g1 g2 g3 g4 g5 g6 s0 s1 s2 r0 r1 r2 r3 r4 hown hs hc hv hU hk hz hNl hw1 hb1 hfar
  go_wp2
  go_loopw [20] (fun ix wr=>∃ k:Nat,ix = .int .i64 k ∧ k ≤ X.length ∧ AtV b g o w ids (n + k) (xs ++ nums3 (X.take k)) wr ∧ Sl wr A' X.length c' 1 (ints X) ∧ w1.heap.size ≤ wr.heap.size ∧ (∀ ad,A' = some ad → 0 < X.length → ∀ v,wr.cell? ⟨g,o + 2,none⟩ = some v → v.ownBlock ≠ some ad.block)) (fun ix _=>X.length - (intOf ix).toNat)
  case atStart=>exact ⟨0,rfl,Nat.zero_le _,HS0.out,HSS.out,Nat.le_refl _,HAD.out⟩
  case round =>
   obtain ⟨k,rfl,hkl,hat,hsl,hsz,had⟩:=hrel
   by_cases hlt:k < X.length
   ·have d1:decide ((k:Int) < (X.length:Int)) = true:=decide_eq_true (by omega)
    have d2:decide (k < X.length) = true:=decide_eq_true hlt
    obtain ⟨ad,x,rfl,hx,hcx⟩:=ints_at hsl hlt
    obtain ⟨⟨v,hc,hv,hU,hk⟩,hz⟩:=hat
    have N1:=below_new wr (.cells #[.int .i64 x,.string ⟨#[]⟩,.slice none 0 0] 81)
    have hva:=own_hi hv (hi_below b N1)
    have hwr:w.heap.size ≤ wr.heap.size:=hU.size
    have HV:=Lib.hid (And.intro hc (And.intro hU (And.intro hk (And.intro hz (And.intro hsl had)))))
    have hvg:v.ownBlock ≠ some g:=fun e=>(hk g e).1 rfl
    have ca:(wr.alloc (.cells #[.int .i64 x,.string ⟨#[]⟩,.slice none 0 0] 81)).cell? ⟨g,o + 2,none⟩ = some v:=cell_on N1 hc
    have HN1:=Lib.hid N1
    have hNL2:=HNL.out
    rw [List.length_take,List.length_drop] at hNL2
    clear hU hk hsl had N1
    go_wp2_with (at_builtin; refine wpList_append_lies _ rfl _ _ 65 rfl b 81 i0 _ 3 48 Tryz.underlying65 hi hz0 hz1 hz2 rfl (by decide) v (n + k) (xs ++ nums3 (X.take k)) rfl hva ⟨wr.heap.size,0,none⟩ 1 1 [.int .i64 x,.string ⟨#[]⟩,.slice none 0 0] rfl rfl (World.news_of_block (heap_alloc_new _ _)) (by simp [Value.oneCell']) (by decide) (by unfold maxLen; omega) (by omega) (by simp; omega) wr.heap.size.succ (by simp) ?_; intro g8 cap8 w8 hown8 hg8 hat8 hlt8; have e8:=grown_block hg8 (show g < (wr.alloc (.cells #[.int .i64 x,.string ⟨#[]⟩,.slice none 0 0] 81)).heap.size by simp; omega) hvg; have c8:=(World.cell?_of_block (a:=⟨g,o + 2,none⟩) e8).trans ca; have z8:w8.frozen? ⟨g,o + 2,none⟩ = false:=(froz_of (a:=⟨g,o + 2,none⟩) e8).trans ((HN1.out.frozen (show (⟨g,o + 2,none⟩:Addr).block < wr.heap.size from Nat.lt_of_lt_of_le hg hwr)).trans HV.out.2.2.2.1))
    have hpush:=AtV.push (W:=w) hg HV.out.1 HV.out.2.1 HV.out.2.2.1 HV.out.2.2.2.1 HN1.out hown8 hg8 (hat8.imp id fun h=>by rw [h]; simp)
    rw [List.append_assoc,← nums3_snoc hx] at hpush
    obtain ⟨hc,hU,hk,hz,hsl,had⟩:=HV.out
    have hA8:ad.block < wr.heap.size ∧ v.ownBlock ≠ some ad.block ∧ ad.block ≠ g:=⟨hsl.old ad rfl (by omega),had ad rfl (by omega) v hc,by have:=HFA.out ad rfl (by omega); omega⟩
    have e9:(w8.setCell ⟨g,o + 2,none⟩ (.slice (some ⟨g8,0,none⟩) (n + k + 1) cap8)).heap[ad.block]? = wr.heap[ad.block]?:=by
     refine (show _ = w8.heap[ad.block]? from ?_).trans ((grown_block hg8 (Nat.lt_of_lt_of_le hA8.1 HN1.out.size) hA8.2.1).trans (HN1.out.block _ hA8.1))
     rw [setCell_at]
     cases w8.heap[ad.block]? with
     | none=>rfl
     | some x=>simp only [Option.map_some]; rw [if_neg (fun e=>hA8.2.2 e.symm)]
    have hs8:w1.heap.size ≤ w8.heap.size:=Nat.le_trans hsz (Nat.le_trans HN1.out.size hg8.size)
    refine ⟨⟨k + 1,by go_num,by omega,hpush,?_,by simpa [World.setCell] using hs8,?_⟩,by simp only [intOf]; omega⟩
    ·refine ⟨hsl.len,hsl.le,hsl.cap,hsl.nil,fun ad' ha hn=>?_,fun ad' ha q u hu=>?_⟩
     ·obtain rfl:=Option.some.inj ha
      exact Nat.lt_of_lt_of_le hA8.1 (by have h1:=HN1.out.size; have h2:=hg8.size; simp only [World.setCell,Array.size_modify]; omega)
     ·obtain rfl:=Option.some.inj ha
      exact (World.cell?_of_block (by rw [add_same_block]; exact e9)).trans (hsl.cell ad rfl q u hu)
    ·rintro ad' e hp u hu
     obtain rfl:=Option.some.inj e
     obtain rfl:Value.slice (some ⟨g8,0,none⟩) (n + k + 1) cap8 = u:=by
      have:=World.cell?_setCell_same w8 ⟨g,o + 2,none⟩ (.slice (some ⟨g8,0,none⟩) (n + k + 1) cap8) c8
      exact Option.some.inj (this.symm.trans hu)
     intro e2
     have e3:g8 = ad.block:=by simpa [Value.ownBlock] using e2
     rcases hat8 with h | h
     ·exact hA8.2.1 (e3 ▸ h)
     ·have:=hA8.1; omega
   ·obtain rfl:k = X.length:=by omega
    rw [List.take_length] at hat
    have d1:decide ((X.length:Int) < (X.length:Int)) = false:=by simp
    have HAT:=Lib.hid hat
    clear hat hsl had
    go_wp2
    go_end0
    exact ⟨rfl,HAT.out⟩
 ·clear hW3 g0 g1 g2 g3 g4 g5 g6 s0 s1 s2 r0 r1 r2 r3 r4
  go_wp2_with fail
  exact ⟨rfl,.inr ⟨h0,rfl,below_then HB0.out hb1⟩⟩
set_option maxRecDepth 1000000 in
set_option maxHeartbeats 8000000 in
theorem take_deep (vM vE vB:Value) (g o gm cap:Nat) (ref no wire num frm upto deep:Int) (hw:wire = wireI 9) (w:World) (hg:g < w.heap.size) (hc:w.cell? ⟨g,o + 2,none⟩ = some (.slice (some ⟨gm,0,none⟩) 1 cap)) (hd:64 ≤ deep) :
  Calls Tryz.prog 198 #[.agg #[vM,vE,vB],.pointer (some ⟨g,o,none⟩),.int .i64 9,.int .i64 ref,.agg #[.int .i64 no,.int .i64 wire,.int .u64 num,.int .i64 frm,.int .i64 upto],.int .i64 deep] w fun e w'=>e = .panicked [{ v:=errP (11:Nat),recovered:=false }] ∧ Below w.heap.size w w':=by
 have HW:=Lib.hid (fun wx=>wire_any 9 wx)
 have HY:=Lib.hid (fun wx=>must_yes 8 wx)
 rw [← hw] at HW
 obtain ⟨T1,T2,LBD⟩:=two_boxes w (.cells #[vM,vE,vB] 113) (.cells #[.int .i64 no,.int .i64 wire,.int .u64 num,.int .i64 frm,.int .i64 upto] 41)
 obtain ⟨wf,hwf⟩:∃ wf,(w.alloc (.cells #[vM,vE,vB] 113)).alloc (.cells #[.int .i64 no,.int .i64 wire,.int .u64 num,.int .i64 frm,.int .i64 upto] 41) = wf:=⟨_,rfl⟩
 rw [hwf] at T1 T2 LBD
 have HSX:Hid (∀ wx,Below wf.heap.size wf wx → (wx.cell? ⟨w.heap.size,0,none⟩ = some vM ∧ wx.cell? ⟨w.heap.size,1,none⟩ = some vE ∧ wx.cell? ⟨w.heap.size,2,none⟩ = some vB) ∧ (wx.cell? ⟨w.heap.size + 1,0,none⟩ = some (.int .i64 no) ∧ wx.cell? ⟨w.heap.size + 1,1,none⟩ = some (.int .i64 wire) ∧ wx.cell? ⟨w.heap.size + 1,2,none⟩ = some (.int .u64 num) ∧ wx.cell? ⟨w.heap.size + 1,3,none⟩ = some (.int .i64 frm) ∧ wx.cell? ⟨w.heap.size + 1,4,none⟩ = some (.int .i64 upto)) ∧ wx.cell? ⟨g,o + 2,none⟩ = some (.slice (some ⟨gm,0,none⟩) 1 cap)):=Lib.hid (fun wx hx=>⟨bx3 (box_on T1 hx),heap_cells (box_on T2 hx),((below_then LBD hx).cell hg).trans hc⟩)
 have LD:Below wf.heap.size wf wf.drew:=(Below.refl _ _).drew
 have hww:(wire == wire) = true:=by simp
 have HB0:=Lib.hid LBD
 have hsf:wf.heap.size = w.heap.size + 2:=by rw [← hwf]; simp
 have HZ:=Lib.hid hsf
 have HDP:=Lib.hid (fun wx=>deeper_no deep hd wx)
 clear T1 T2 LBD hc hw hsf
 go_enter Tryz.func198,Tryz.ntmps198
 go_wp2_with fail
 try rw [hwf]
 clear hwf
 go_region_held3 (fun wx=>(wx.cell? ⟨w.heap.size,0,none⟩ = some vM ∧ wx.cell? ⟨w.heap.size,1,none⟩ = some vE ∧ wx.cell? ⟨w.heap.size,2,none⟩ = some vB) ∧ (wx.cell? ⟨w.heap.size + 1,0,none⟩ = some (.int .i64 no) ∧ wx.cell? ⟨w.heap.size + 1,1,none⟩ = some (.int .i64 wire) ∧ wx.cell? ⟨w.heap.size + 1,2,none⟩ = some (.int .u64 num) ∧ wx.cell? ⟨w.heap.size + 1,3,none⟩ = some (.int .i64 frm) ∧ wx.cell? ⟨w.heap.size + 1,4,none⟩ = some (.int .i64 upto)) ∧ wx.cell? ⟨g,o + 2,none⟩ = some (.slice (some ⟨gm,0,none⟩) 1 cap))
  (first | exact HSX.out _ LD | exact HSX.out _ L6 | go_keep)
  ((first
   | (go_at_call 80; refine (HW.out _).mono ?_; rintro e w6 ⟨rfl,hb6⟩; have L6:=LD.trans hb6)
   | (go_at_call 62; refine (HY.out _).mono ?_; rintro e w7 ⟨rfl,rfl⟩)
   | fail))
 have L7:=L6.drew
 go_wp2_with fail
 refine wp_region_held_drew (S:=(fun wx=>(wx.cell? ⟨w.heap.size,0,none⟩ = some vM ∧ wx.cell? ⟨w.heap.size,1,none⟩ = some vE ∧ wx.cell? ⟨w.heap.size,2,none⟩ = some vB) ∧ (wx.cell? ⟨w.heap.size + 1,0,none⟩ = some (.int .i64 no) ∧ wx.cell? ⟨w.heap.size + 1,1,none⟩ = some (.int .i64 wire) ∧ wx.cell? ⟨w.heap.size + 1,2,none⟩ = some (.int .u64 num) ∧ wx.cell? ⟨w.heap.size + 1,3,none⟩ = some (.int .i64 frm) ∧ wx.cell? ⟨w.heap.size + 1,4,none⟩ = some (.int .i64 upto)) ∧ wx.cell? ⟨g,o + 2,none⟩ = some (.slice (some ⟨gm,0,none⟩) 1 cap))) (by kernel_rfl) (HSX.out _ L7) (fun hHeld=>?_)
 refine tk 0 ?_
 refine tk 1 ?_
 refine tk 2 ?_
 refine tk 3 ?_
 refine tk 4 ?_
 refine tk 5 ?_
 refine tk 6 ?_
 refine tk 7 ?_
 refine tk 8 ?_
 refine tk 9 ?_
 refine tk 10 ?_
 refine tk 11 ?_
 refine wpAnyH_ready (rs:=[12]) (by kernel_rfl) (by simp) ?_
 refine AllReadyH.cons rfl (fun K hK=>?_) AllReadyH.nil
 go_simp
 (go_at_call 196; refine (HDP.out _).mono ?_; rintro e w8 ⟨rfl,rfl⟩)
 go_wp2_with fail
 exact ⟨rfl,rfl,below_then HB0.out L7⟩
set_option maxRecDepth 1000000 in
set_option maxHeartbeats 8000000 in
theorem take_sub (vM vE vB:Value) (g o gm cap:Nat) (ref no wire num frm upto deep:Int) (hw:wire = wireI 9) (w:World) (hg:g < w.heap.size) (hc:w.cell? ⟨g,o + 2,none⟩ = some (.slice (some ⟨gm,0,none⟩) 1 cap)) (hd0:0 ≤ deep) (hd:deep < 64) (Q1:World → World → Prop) (Q2:Int → World → World → Prop)
  (HM0:∀ wx,Below w.heap.size w wx → Calls Tryz.prog 64 #[.agg #[vM,vE,vB],.pointer (some ⟨gm,0,none⟩),.int .i64 ref,.int .i64 frm,.int .i64 upto,.int .i64 (deep + 1)] wx fun e w'=>(e = .returned (.tuple #[]) ∧ Q1 wx w') ∨ (∃ er:Int,e = .panicked [{ v:=errP er,recovered:=false }] ∧ Q2 er wx w'))
  (HF0:∀ wx w',Below w.heap.size w wx → w.heap.size + 2 ≤ wx.heap.size → Q1 wx w' → ∀ k,(k = w.heap.size ∨ k = w.heap.size + 1 ∨ k = g) → w'.heap[k]? = wx.heap[k]?) :
  Calls Tryz.prog 198 #[.agg #[vM,vE,vB],.pointer (some ⟨g,o,none⟩),.int .i64 9,.int .i64 ref,.agg #[.int .i64 no,.int .i64 wire,.int .u64 num,.int .i64 frm,.int .i64 upto],.int .i64 deep] w fun e w'=>(e = .returned (.tuple #[]) ∧ ∃ wx,Below w.heap.size w wx ∧ Q1 wx w') ∨ (∃ er:Int,e = .panicked [{ v:=errP er,recovered:=false }] ∧ ∃ wx,Below w.heap.size w wx ∧ Q2 er wx w'):=by
 have HW:=Lib.hid (fun wx=>wire_any 9 wx)
 have HY:=Lib.hid (fun wx=>must_yes 8 wx)
 rw [← hw] at HW
 obtain ⟨T1,T2,LBD⟩:=two_boxes w (.cells #[vM,vE,vB] 113) (.cells #[.int .i64 no,.int .i64 wire,.int .u64 num,.int .i64 frm,.int .i64 upto] 41)
 obtain ⟨wf,hwf⟩:∃ wf,(w.alloc (.cells #[vM,vE,vB] 113)).alloc (.cells #[.int .i64 no,.int .i64 wire,.int .u64 num,.int .i64 frm,.int .i64 upto] 41) = wf:=⟨_,rfl⟩
 rw [hwf] at T1 T2 LBD
 have HSX:Hid (∀ wx,Below wf.heap.size wf wx → (wx.cell? ⟨w.heap.size,0,none⟩ = some vM ∧ wx.cell? ⟨w.heap.size,1,none⟩ = some vE ∧ wx.cell? ⟨w.heap.size,2,none⟩ = some vB) ∧ (wx.cell? ⟨w.heap.size + 1,0,none⟩ = some (.int .i64 no) ∧ wx.cell? ⟨w.heap.size + 1,1,none⟩ = some (.int .i64 wire) ∧ wx.cell? ⟨w.heap.size + 1,2,none⟩ = some (.int .u64 num) ∧ wx.cell? ⟨w.heap.size + 1,3,none⟩ = some (.int .i64 frm) ∧ wx.cell? ⟨w.heap.size + 1,4,none⟩ = some (.int .i64 upto)) ∧ wx.cell? ⟨g,o + 2,none⟩ = some (.slice (some ⟨gm,0,none⟩) 1 cap)):=Lib.hid (fun wx hx=>⟨bx3 (box_on T1 hx),heap_cells (box_on T2 hx),((below_then LBD hx).cell hg).trans hc⟩)
 have LD:Below wf.heap.size wf wf.drew:=(Below.refl _ _).drew
 have hww:(wire == wire) = true:=by simp
 have HB0:=Lib.hid LBD
 have hsf:wf.heap.size = w.heap.size + 2:=by rw [← hwf]; simp
 have HZ:=Lib.hid hsf
 have HDP:=Lib.hid (fun wx=>deeper_yes deep hd0 hd wx)
 have HM:=Lib.hid (fun wx (h:Below wf.heap.size wf wx)=>HM0 wx (below_then LBD h))
 have HFR:=Lib.hid (fun wx w' (h:Below wf.heap.size wf wx) (hq:Q1 wx w')=>HF0 wx w' (below_then LBD h) (by have:=h.size; omega) hq)
 clear HM0 HF0
 clear T1 T2 LBD hc hw hsf
 go_enter Tryz.func198,Tryz.ntmps198
 go_wp2_with fail
 try rw [hwf]
 clear hwf
 go_region_held3 (fun wx=>(wx.cell? ⟨w.heap.size,0,none⟩ = some vM ∧ wx.cell? ⟨w.heap.size,1,none⟩ = some vE ∧ wx.cell? ⟨w.heap.size,2,none⟩ = some vB) ∧ (wx.cell? ⟨w.heap.size + 1,0,none⟩ = some (.int .i64 no) ∧ wx.cell? ⟨w.heap.size + 1,1,none⟩ = some (.int .i64 wire) ∧ wx.cell? ⟨w.heap.size + 1,2,none⟩ = some (.int .u64 num) ∧ wx.cell? ⟨w.heap.size + 1,3,none⟩ = some (.int .i64 frm) ∧ wx.cell? ⟨w.heap.size + 1,4,none⟩ = some (.int .i64 upto)) ∧ wx.cell? ⟨g,o + 2,none⟩ = some (.slice (some ⟨gm,0,none⟩) 1 cap))
  (first | exact HSX.out _ LD | exact HSX.out _ L6 | go_keep)
  ((first
   | (go_at_call 80; refine (HW.out _).mono ?_; rintro e w6 ⟨rfl,hb6⟩; have L6:=LD.trans hb6)
   | (go_at_call 62; refine (HY.out _).mono ?_; rintro e w7 ⟨rfl,rfl⟩)
   | fail))
 have L7:=L6.drew
 go_wp2_with fail
 refine wp_region_held_drew (S:=(fun wx=>(wx.cell? ⟨w.heap.size,0,none⟩ = some vM ∧ wx.cell? ⟨w.heap.size,1,none⟩ = some vE ∧ wx.cell? ⟨w.heap.size,2,none⟩ = some vB) ∧ (wx.cell? ⟨w.heap.size + 1,0,none⟩ = some (.int .i64 no) ∧ wx.cell? ⟨w.heap.size + 1,1,none⟩ = some (.int .i64 wire) ∧ wx.cell? ⟨w.heap.size + 1,2,none⟩ = some (.int .u64 num) ∧ wx.cell? ⟨w.heap.size + 1,3,none⟩ = some (.int .i64 frm) ∧ wx.cell? ⟨w.heap.size + 1,4,none⟩ = some (.int .i64 upto)) ∧ wx.cell? ⟨g,o + 2,none⟩ = some (.slice (some ⟨gm,0,none⟩) 1 cap))) (by kernel_rfl) (HSX.out _ L7) (fun hHeld=>?_)
 refine tk 0 ?_
 refine tk 1 ?_
 refine tk 2 ?_
 refine tk 3 ?_
 refine tk 4 ?_
 refine tk 5 ?_
 refine tk 6 ?_
 refine tk 7 ?_
 refine tk 8 ?_
 refine tk 9 ?_
 refine tk 10 ?_
 refine tk 11 ?_
 refine wpAnyH_ready (rs:=[12]) (by kernel_rfl) (by simp) ?_
 refine AllReadyH.cons rfl (fun K hK=>?_) AllReadyH.nil
 go_simp
 (go_at_call 196; refine (HDP.out _).mono ?_; rintro e w8 ⟨rfl,rfl⟩)
 go_wp2_with fail
 refine hK.out _ _ (HSX.out _ L7) (fun hHeld=>?_)
 clear hK K
 refine wpAnyH_ready (rs:=[13]) (by kernel_rfl) (by simp) ?_
 refine AllReadyH.cons rfl (fun K hK=>?_) AllReadyH.nil
 go_simp
 (go_at_call 64; refine (HM.out _ L7).mono ?_; rintro e w9 (⟨rfl,hq⟩ | ⟨er,rfl,hq⟩))
 ·have hk9:=HFR.out _ _ L7 hq
  have HS9:(w9.cell? ⟨w.heap.size,0,none⟩ = some vM ∧ w9.cell? ⟨w.heap.size,1,none⟩ = some vE ∧ w9.cell? ⟨w.heap.size,2,none⟩ = some vB) ∧ (w9.cell? ⟨w.heap.size + 1,0,none⟩ = some (.int .i64 no) ∧ w9.cell? ⟨w.heap.size + 1,1,none⟩ = some (.int .i64 wire) ∧ w9.cell? ⟨w.heap.size + 1,2,none⟩ = some (.int .u64 num) ∧ w9.cell? ⟨w.heap.size + 1,3,none⟩ = some (.int .i64 frm) ∧ w9.cell? ⟨w.heap.size + 1,4,none⟩ = some (.int .i64 upto)) ∧ w9.cell? ⟨g,o + 2,none⟩ = some (.slice (some ⟨gm,0,none⟩) 1 cap):=by
   have h:=HSX.out _ L7
   simp only [World.cell?,hk9 _ (Or.inl rfl),hk9 _ (Or.inr (Or.inl rfl)),hk9 _ (Or.inr (Or.inr rfl))] at h ⊢
   exact h
  have HQ9:=Lib.hid hq
  clear hq
  go_wp2_with fail
  refine hK.out _ _ HS9 (fun hHeld=>?_)
  clear hK K HS9
  refine wpAnyH_done (by kernel_rfl) ?_ _
  go_wp2
  go_end0
  exact Or.inl ⟨rfl,_,below_then HB0.out L7,HQ9.out⟩
 ·go_wp2_with fail
  exact ⟨rfl,Or.inr ⟨er,rfl,_,below_then HB0.out L7,hq⟩⟩
set_option maxRecDepth 1000000 in
set_option maxHeartbeats 4000000 in
theorem take_text (vM vE:Value) (A:Option Addr) (c:Nat) (l:List UInt8) (g o:Nat) (ref no wire num:Int) (i j:Nat) (deep:Int) (hl:l.length ≤ 1000000000) (hf:first ((l.drop i).take (j - i)) = j - i) (hij:i ≤ j) (hj:j ≤ l.length) (hw:wire = wireI 7) (w:World) (hr:SlB w A c l) (old:Value) (hp:g < w.heap.size) (hc:w.cell? ⟨g,o + 1,none⟩ = some old) (hz:w.frozen? ⟨g,o + 1,none⟩ = false) :
  Calls Tryz.prog 198 #[.agg #[vM,vE,.slice A l.length c],.pointer (some ⟨g,o,none⟩),.int .i64 7,.int .i64 ref,.agg #[.int .i64 no,.int .i64 wire,.int .u64 num,.int .i64 i,.int .i64 j],.int .i64 deep] w fun e w'=>e = .returned (.tuple #[]) ∧ ∃ w2,Below w.heap.size w w2 ∧ w' = w2.setCell ⟨g,o + 1,none⟩ (.string (txt ((l.drop i).take (j - i)))):=by
 have HW:=Lib.hid (fun wx=>wire_any 7 wx)
 have HY:=Lib.hid (fun wx=>must_yes 8 wx)
 rw [← hw] at HW
 have hjc:j ≤ c:=by have:=hr.le; omega
 have d0:decide ((i:Int) < 0) = false:=by simp
 have d1:decide (j < i) = false:=by simp; omega
 have d2:decide (l.length < j) = false:=by simp; omega
 obtain ⟨T1,T2,LBD⟩:=two_boxes w (.cells #[vM,vE,.slice A l.length c] 113) (.cells #[.int .i64 no,.int .i64 wire,.int .u64 num,.int .i64 i,.int .i64 j] 41)
 obtain ⟨wf,hwf⟩:∃ wf,(w.alloc (.cells #[vM,vE,.slice A l.length c] 113)).alloc (.cells #[.int .i64 no,.int .i64 wire,.int .u64 num,.int .i64 i,.int .i64 j] 41) = wf:=⟨_,rfl⟩
 rw [hwf] at T1 T2 LBD
 have HSX:Hid (∀ wx,Below wf.heap.size wf wx → (wx.cell? ⟨w.heap.size,0,none⟩ = some vM ∧ wx.cell? ⟨w.heap.size,1,none⟩ = some vE ∧ wx.cell? ⟨w.heap.size,2,none⟩ = some (.slice A l.length c)) ∧ (wx.cell? ⟨w.heap.size + 1,0,none⟩ = some (.int .i64 no) ∧ wx.cell? ⟨w.heap.size + 1,1,none⟩ = some (.int .i64 wire) ∧ wx.cell? ⟨w.heap.size + 1,2,none⟩ = some (.int .u64 num) ∧ wx.cell? ⟨w.heap.size + 1,3,none⟩ = some (.int .i64 i) ∧ wx.cell? ⟨w.heap.size + 1,4,none⟩ = some (.int .i64 j)) ∧ wx.cell? ⟨g,o + 1,none⟩ = some old ∧ wx.frozen? ⟨g,o + 1,none⟩ = false):=Lib.hid (fun wx hx=>by
  have hb:=below_then LBD hx
  exact ⟨bx3 (box_on T1 hx),heap_cells (box_on T2 hx),(hb.cell hp).trans hc,(hb.frozen hp).trans hz⟩)
 have HFI:=Lib.hid (fun wx (h:Below wf.heap.size wf wx)=>(fine_any A c l (by omega) i j wx (SlB.on hr (below_then LBD h))).mono (show ∀ e w',_ → e = .returned (.bool true) ∧ Below wx.heap.size wx w' from fun e w' h=>⟨h.1.trans (by rw [fine_eq l i j hij hj,hf]; congr 2; simp; omega),h.2⟩))
 have HY2:=Lib.hid (fun wx=>must_yes 10 wx)
 clear hf
 have HCV:=Lib.hid (fun wx (h:Below wf.heap.size wf wx)=>conv_part (SlB.on hr (below_then LBD h)) hij hj)
 have LD:Below wf.heap.size wf wf.drew:=(Below.refl _ _).drew
 have hww:(wire == wire) = true:=by simp
 have HB0:=Lib.hid LBD
 generalize hm:(l.drop i).take (j - i) = m at *
 clear hm T1 T2 LBD hc hz hr hw
 go_enter Tryz.func198,Tryz.ntmps198
 go_wp2_with fail
 try rw [hwf]
 clear hwf
 go_region_held3 (fun wx=>(wx.cell? ⟨w.heap.size,0,none⟩ = some vM ∧ wx.cell? ⟨w.heap.size,1,none⟩ = some vE ∧ wx.cell? ⟨w.heap.size,2,none⟩ = some (.slice A l.length c)) ∧ (wx.cell? ⟨w.heap.size + 1,0,none⟩ = some (.int .i64 no) ∧ wx.cell? ⟨w.heap.size + 1,1,none⟩ = some (.int .i64 wire) ∧ wx.cell? ⟨w.heap.size + 1,2,none⟩ = some (.int .u64 num) ∧ wx.cell? ⟨w.heap.size + 1,3,none⟩ = some (.int .i64 i) ∧ wx.cell? ⟨w.heap.size + 1,4,none⟩ = some (.int .i64 j)) ∧ wx.cell? ⟨g,o + 1,none⟩ = some old ∧ wx.frozen? ⟨g,o + 1,none⟩ = false)
  (first | exact HSX.out _ LD | exact HSX.out _ L6 | go_keep)
  ((first
   | (go_at_call 80; refine (HW.out _).mono ?_; rintro e w6 ⟨rfl,hb6⟩; have L6:=LD.trans hb6)
   | (go_at_call 62; refine (HY.out _).mono ?_; rintro e w7 ⟨rfl,rfl⟩)
   | fail))
 all_goals
  obtain ⟨⟨q0,q1,q2⟩,⟨q3,q4,q5,q6,q7⟩,P1,P2⟩:=HSX.out _ L6
  have HQ:=Lib.hid (HSX.out _ L6)
  have HFW:=Lib.hid (HFI.out _ L6)
  go_wp2_with fail
  refine HFW.out.mono ?_
  rintro e w8 ⟨rfl,hb8⟩
  have L8:=below_then L6 hb8
  clear q0 q1 q2 q3 q4 q5 q6 q7 P1 P2
  go_wp2_with fail
  refine (HY2.out _).mono ?_
  rintro e w9 ⟨rfl,rfl⟩
  obtain ⟨⟨q0,q1,q2⟩,⟨q3,q4,q5,q6,q7⟩,P1,P2⟩:=HSX.out _ L8
  have hcv:=HCV.out _ L8
  have HB6:=Lib.hid (below_then HB0.out L8)
  go_wp2_with fail
  ·rename_i h
   rw [if_pos h.symm,show c - i = 0 by omega] at hcv
   rw [hcv]
   clear hcv h
   go_wp2
   go_end0
   exact ⟨rfl,_,HB6.out,rfl⟩
  ·rename_i h
   rw [if_neg (fun e=>h e.symm)] at hcv
   rw [hcv]
   clear hcv h
   go_wp2
   go_end0
   exact ⟨rfl,_,HB6.out,rfl⟩
set_option maxRecDepth 1000000 in
set_option maxHeartbeats 4000000 in
theorem take_noText (vM vE:Value) (A:Option Addr) (c:Nat) (l:List UInt8) (g o:Nat) (ref no wire num:Int) (i j:Nat) (deep:Int) (hl:l.length ≤ 1000000000) (hf:first ((l.drop i).take (j - i)) ≠ j - i) (hij:i ≤ j) (hj:j ≤ l.length) (hw:wire = wireI 7) (w:World) (hr:SlB w A c l) (old:Value) (hp:g < w.heap.size) (hc:w.cell? ⟨g,o + 1,none⟩ = some old) (hz:w.frozen? ⟨g,o + 1,none⟩ = false) :
  Calls Tryz.prog 198 #[.agg #[vM,vE,.slice A l.length c],.pointer (some ⟨g,o,none⟩),.int .i64 7,.int .i64 ref,.agg #[.int .i64 no,.int .i64 wire,.int .u64 num,.int .i64 i,.int .i64 j],.int .i64 deep] w fun e w'=>e = .panicked [{ v:=errP 10,recovered:=false }] ∧ Below w.heap.size w w':=by
 have HW:=Lib.hid (fun wx=>wire_any 7 wx)
 have HY:=Lib.hid (fun wx=>must_yes 8 wx)
 rw [← hw] at HW
 have hjc:j ≤ c:=by have:=hr.le; omega
 have d0:decide ((i:Int) < 0) = false:=by simp
 have d1:decide (j < i) = false:=by simp; omega
 have d2:decide (l.length < j) = false:=by simp; omega
 obtain ⟨T1,T2,LBD⟩:=two_boxes w (.cells #[vM,vE,.slice A l.length c] 113) (.cells #[.int .i64 no,.int .i64 wire,.int .u64 num,.int .i64 i,.int .i64 j] 41)
 obtain ⟨wf,hwf⟩:∃ wf,(w.alloc (.cells #[vM,vE,.slice A l.length c] 113)).alloc (.cells #[.int .i64 no,.int .i64 wire,.int .u64 num,.int .i64 i,.int .i64 j] 41) = wf:=⟨_,rfl⟩
 rw [hwf] at T1 T2 LBD
 have HSX:Hid (∀ wx,Below wf.heap.size wf wx → (wx.cell? ⟨w.heap.size,0,none⟩ = some vM ∧ wx.cell? ⟨w.heap.size,1,none⟩ = some vE ∧ wx.cell? ⟨w.heap.size,2,none⟩ = some (.slice A l.length c)) ∧ (wx.cell? ⟨w.heap.size + 1,0,none⟩ = some (.int .i64 no) ∧ wx.cell? ⟨w.heap.size + 1,1,none⟩ = some (.int .i64 wire) ∧ wx.cell? ⟨w.heap.size + 1,2,none⟩ = some (.int .u64 num) ∧ wx.cell? ⟨w.heap.size + 1,3,none⟩ = some (.int .i64 i) ∧ wx.cell? ⟨w.heap.size + 1,4,none⟩ = some (.int .i64 j)) ∧ wx.cell? ⟨g,o + 1,none⟩ = some old ∧ wx.frozen? ⟨g,o + 1,none⟩ = false):=Lib.hid (fun wx hx=>by
  have hb:=below_then LBD hx
  exact ⟨bx3 (box_on T1 hx),heap_cells (box_on T2 hx),(hb.cell hp).trans hc,(hb.frozen hp).trans hz⟩)
 have HFI:=Lib.hid (fun wx (h:Below wf.heap.size wf wx)=>(fine_any A c l (by omega) i j wx (SlB.on hr (below_then LBD h))).mono (show ∀ e w',_ → e = .returned (.bool false) ∧ Below wx.heap.size wx w' from fun e w' h=>⟨h.1.trans (by rw [fine_eq l i j hij hj]; congr 2; rw [beq_eq_false_iff_ne]; omega),h.2⟩))
 have HY2:=Lib.hid (fun wx=>must_no 10 wx)
 clear hf
 have HCV:=Lib.hid (fun wx (h:Below wf.heap.size wf wx)=>conv_part (SlB.on hr (below_then LBD h)) hij hj)
 have LD:Below wf.heap.size wf wf.drew:=(Below.refl _ _).drew
 have hww:(wire == wire) = true:=by simp
 have HB0:=Lib.hid LBD
 generalize hm:(l.drop i).take (j - i) = m at *
 clear hm T1 T2 LBD hc hz hr hw
 go_enter Tryz.func198,Tryz.ntmps198
 go_wp2_with fail
 try rw [hwf]
 clear hwf
 go_region_held3 (fun wx=>(wx.cell? ⟨w.heap.size,0,none⟩ = some vM ∧ wx.cell? ⟨w.heap.size,1,none⟩ = some vE ∧ wx.cell? ⟨w.heap.size,2,none⟩ = some (.slice A l.length c)) ∧ (wx.cell? ⟨w.heap.size + 1,0,none⟩ = some (.int .i64 no) ∧ wx.cell? ⟨w.heap.size + 1,1,none⟩ = some (.int .i64 wire) ∧ wx.cell? ⟨w.heap.size + 1,2,none⟩ = some (.int .u64 num) ∧ wx.cell? ⟨w.heap.size + 1,3,none⟩ = some (.int .i64 i) ∧ wx.cell? ⟨w.heap.size + 1,4,none⟩ = some (.int .i64 j)) ∧ wx.cell? ⟨g,o + 1,none⟩ = some old ∧ wx.frozen? ⟨g,o + 1,none⟩ = false)
  (first | exact HSX.out _ LD | exact HSX.out _ L6 | go_keep)
  ((first
   | (go_at_call 80; refine (HW.out _).mono ?_; rintro e w6 ⟨rfl,hb6⟩; have L6:=LD.trans hb6)
   | (go_at_call 62; refine (HY.out _).mono ?_; rintro e w7 ⟨rfl,rfl⟩)
   | fail))
 all_goals
  obtain ⟨⟨q0,q1,q2⟩,⟨q3,q4,q5,q6,q7⟩,P1,P2⟩:=HSX.out _ L6
  have HQ:=Lib.hid (HSX.out _ L6)
  have HFW:=Lib.hid (HFI.out _ L6)
  go_wp2_with fail
  refine HFW.out.mono ?_
  rintro e w8 ⟨rfl,hb8⟩
  have L8:=below_then L6 hb8
  clear q0 q1 q2 q3 q4 q5 q6 q7 P1 P2
  go_wp2_with fail
  refine (HY2.out _).mono ?_
  rintro e w9 ⟨rfl,rfl⟩
  go_wp2
  exact ⟨rfl,rfl,below_then HB0.out L8⟩
theorem make_msg (w:World):(Instr.makeSlice 79 (.int .i64 1) (.int .i64 1)).run Tryz.prog w = .ok (.slice (some ⟨w.heap.size,0,none⟩) 1 1) (w.alloc (.cells #[.slice none 0 0] 31)):=by
 obtain ⟨i0,hi,hz0,hz1,hz2⟩:=info_parts info_msg
 have h:=run_make (P:=Tryz.prog) w 79 31 i0 _ Tryz.underlying79 hi hz0 .i64 .i64 1 1 (by omega) (by omega) (by rw [hz2]; omega) (by omega)
 rw [hz1] at h
 have e:madeCells (Value.agg #[Value.slice none 0 0]).cells (Int.toNat 1 * 1) = #[Value.slice none 0 0]:=by kernel_rfl
 rw [e] at h
 exact h
set_option maxRecDepth 1000000 in
set_option maxHeartbeats 4000000 in
theorem blank_sub (w:World):Calls Tryz.prog 197 #[.int .i64 9] w fun e w'=>∃ g,e = .returned (.agg #[.int .i64 0,.string { data:=#[] },.slice (some ⟨g,0,none⟩) 1 1]) ∧ w'.ownsRow w.heap.size 31 1 (.slice (some ⟨g,0,none⟩) 1 1) 1 [.slice none 0 0] ∧ Below w.heap.size w w':=by
 have hmk:=make_msg (w.alloc (.cells #[.int .i64 0,.string ⟨#[]⟩,.slice none 0 0] 81))
 have hsz:(w.alloc (.cells #[.int .i64 0,.string ⟨#[]⟩,.slice none 0 0] 81)).heap.size = w.heap.size + 1:=by simp
 rw [hsz] at hmk
 obtain ⟨X1,X2,LBD⟩:=two_boxes w (.cells #[.int .i64 0,.string ⟨#[]⟩,.slice none 0 0] 81) (.cells #[.slice none 0 0] 31)
 have hlt:=box_lt X1
 obtain ⟨y0,y1,y2⟩:=bx3 X1
 obtain ⟨Z1,Z2,L2⟩:=two_boxes w (.cells #[.int .i64 0,.string ⟨#[]⟩,.slice (some ⟨w.heap.size + 1,0,none⟩) 1 1] 81) (.cells #[.slice none 0 0] 31)
 have HZ:=Lib.hid (And.intro Z2 L2)
 clear Z2 L2
 go_enter Tryz.func197,Tryz.ntmps197
 go_wp2
 refine bodyPost_ret (results_cell_row rfl _ _ w.heap.size _ _ (0,0) _ rfl Z1 Tryz.underlying81 rfl sz_val) rfl ?_
 exact ⟨_,rfl,⟨rfl,.inr ⟨w.heap.size + 1,1,#[.slice none 0 0],rfl,by omega,HZ.out.1,by simp; unfold maxLen; omega⟩⟩,HZ.out.2⟩
end Go.Proofs.YtckcojkpghiclaaGreatDoor.T11
namespace Go.Proofs.YtckcojkpghiclaaGreatDoor.T11
set_option maxRecDepth 100000
open Go.Proofs.YtckcojkpghiclaaGreatDoor.T9 Go.Proofs.YtckcojkpghiclaaGreatDoor.T4
theorem takeV_local (sub:Int → List UInt8 → Mg → Except Nat Mg) (kind ref:Int) (d d':List UInt8) (r:Rc) (v:Vl') (h:winR d r = winR d' r):takeV sub kind ref d r v = takeV sub kind ref d' r v:=by
 unfold takeV; rw [h]
theorem slotD_local (n:Nat) (sub:Int → List UInt8 → Mg → Except Nat Mg) (f:Df) (d d':List UInt8) (r:Rc) (h:winR d r = winR d' r):slotD n sub f d r = slotD n sub f d' r:=by
 have h1:entryS n sub f d r = entryS n sub f d' r:=by funext t; unfold entryS; rw [h]
 have h2:packedS f d r = packedS f d' r:=by funext t; unfold packedS; rw [h]
 have h3:repS sub f d r = repS sub f d' r:=by funext t; unfold repS; rw [takeV_local sub f.kind f.ref d d' r _ h]
 have h4:onlyS sub f d r = onlyS sub f d' r:=by funext t; unfold onlyS; rw [takeV_local sub f.kind f.ref d d' r _ h]
 unfold slotD
 rw [h1,h2,h3,h4]
theorem fieldD_local (fd:Int → Option Df) (n:Nat) (sub:Int → List UInt8 → Mg → Except Nat Mg):Local (fieldD fd n sub):=by
 intro d d' r x h
 unfold fieldD
 cases fd r.no with
 | none=>rfl
 | some f =>
  show onSlot f.no (slotD n sub f d r) _ = onSlot f.no (slotD n sub f d' r) _
  rw [slotD_local n sub f d d' r h]
theorem wnum_zero (d:List UInt8):wnum 0 d = vget d:=by unfold wnum; rw [if_neg (by decide),if_neg (by decide)]
theorem vget_bad {d:List UInt8} (b:List UInt8) (h:(vget d).2.2 ≠ 0):(vget d).2.2 = 6 ∨ (vget (d ++ b)).2.2 = (vget d).2.2:=by
 rw [← wnum_zero,← wnum_zero] at *
 rcases wnum_bad b h with h1 | ⟨h1,h2⟩
 ·exact .inl h1
 ·exact .inr (h2.trans h1.symm)
theorem wnext_bad {d:List UInt8} (b:List UInt8) (h:(wnext d).2.2 ≠ 0):(wnext d).2.2 = 6 ∨ (wnext (d ++ b)).2.2 = (wnext d).2.2:=by
 by_cases hv:(vget d).2.2 = 0
 ·have h1:=triple _ hv
  obtain ⟨n,hn⟩:∃ n,(vget d).1 = n:=⟨_,rfl⟩
  obtain ⟨k,hk⟩:∃ k,(vget d).2.1 = k:=⟨_,rfl⟩
  rw [hn,hk] at h1
  have hkl:k ≤ d.length:=(vget_parts h1).2.2.1
  have h2:vget (d ++ b) = (n,k,0):=by
   have:=vget_local h1 (d.drop k ++ b)
   rwa [← List.append_assoc,List.take_append_drop] at this
  unfold wnext at h ⊢
  rw [h1] at h ⊢
  rw [h2]
  simp only [if_true] at h ⊢
  unfold wtell at h ⊢
  by_cases ht:(tellsN n).2.2 = 0
  ·rw [if_pos ht] at h ⊢
   rw [if_pos ht]
   by_cases hw:(wnum (tellsN n).2.1 (d.drop k)).2.2 = 0
   ·left
    unfold wrest at h ⊢
    rw [if_pos hw] at h ⊢
    unfold wrun at h ⊢
    by_cases c1:(tellsN n).2.1 = 2
    ·rw [if_pos c1] at h ⊢
     split
     ·rename_i c2; rw [if_pos c2] at h; exact absurd rfl h
     ·rfl
    ·rw [if_neg c1] at h; exact absurd rfl h
   ·rw [List.drop_append_of_le_length hkl]
    unfold wrest at h ⊢
    rw [if_neg hw] at h ⊢
    rcases wnum_bad b hw with e1 | ⟨e1,e2⟩
    ·exact .inl e1
    ·right
     rw [if_neg (by rw [e2]; decide)]
     exact e2.trans e1.symm
  ·rw [if_neg ht]; right; rw [if_neg ht]
 ·have h1:=vget_bad b hv
  unfold wnext at h ⊢
  rw [if_neg hv] at h ⊢
  rcases h1 with h1 | h1
  ·exact .inl h1
  ·right
   rw [if_neg (by rw [h1]; exact hv)]
   exact h1
theorem decR_bad {α:Type} {g:List UInt8 → Rc → α → Except Nat α} (hg:Local g) (b:List UInt8):∀ (n:Nat) (a:List UInt8) (x:α) (e:Nat),a.length ≤ n → decR g a x = .error e → e = 6 ∨ decR g (a ++ b) x = .error e:=by
 intro n
 induction n with
 | zero =>
  intro a x e hn h
  obtain rfl:a = []:=List.eq_nil_of_length_eq_zero (by omega)
  rw [decR_nil] at h; cases h
 | succ n ih =>
  intro a x e hn h
  by_cases ha:a = []
  ·subst ha; rw [decR_nil] at h; cases h
  ·by_cases he:(wnext a).2.2 = 0
   ·have hw:wnext a = ((wnext a).1,(wnext a).2.1,0):=by rw [← he]
    obtain ⟨p1,p2⟩:=wnext_pos he
    obtain ⟨r,hr⟩:∃ r,(wnext a).1 = r:=⟨_,rfl⟩
    obtain ⟨p,hp⟩:∃ p,(wnext a).2.1 = p:=⟨_,rfl⟩
    rw [hr,hp] at hw
    rw [hp] at p1 p2
    have hab:a ++ b = a.take p ++ (a.drop p ++ b):=by rw [← List.append_assoc,List.take_append_drop]
    have hw2:wnext (a ++ b) = (r,p,0):=by rw [hab]; exact wnext_local hw _
    rw [decR_cons g x hw] at h
    rw [decR_cons g x hw2,hg (a ++ b) a r x (by rw [hab]; exact winR_local hw _),List.drop_append_of_le_length p2]
    cases hgx:g a r x with
    | error e'=>rw [hgx] at h; right; exact h
    | ok z =>
     rw [hgx] at h
     exact ih (a.drop p) z e (by rw [List.length_drop]; omega) h
   ·rw [decR_err g x ha he] at h
    injection h with h
    rcases wnext_bad b he with h1 | h1
    ·left; rw [← h]; exact h1
    ·right
     rw [decR_err g x (by simp [ha]) (by rw [h1]; exact he),h1,h]
def er {α:Type}:Except Nat α → Option Nat
 | .ok _=>none
 | .error e=>some e
theorem decR_er {α:Type} {g:List UInt8 → Rc → α → Except Nat α} (hg:∀ d r x y,er (g d r x) = er (g d r y)):∀ (n:Nat) (d:List UInt8) (x y:α),er (foldR g n d x) = er (foldR g n d y):=by
 intro n
 induction n with
 | zero=>intro d x y; rfl
 | succ n ih =>
  intro d x y
  rw [foldR_step,foldR_step]
  by_cases hd:d = []
  ·rw [if_pos hd,if_pos hd]; rfl
  ·rw [if_neg hd,if_neg hd]
   by_cases he:(wnext d).2.2 = 0
   ·rw [if_pos he,if_pos he]
    have h:=hg d (wnext d).1 x y
    cases hx:g d (wnext d).1 x with
    | error e =>
     rw [hx] at h
     cases hy:g d (wnext d).1 y with
     | error e'=>rw [hy] at h; exact h
     | ok v=>rw [hy] at h; cases h
    | ok u =>
     rw [hx] at h
     cases hy:g d (wnext d).1 y with
     | error e'=>rw [hy] at h; cases h
     | ok v=>exact ih _ u v
   ·rw [if_neg he,if_neg he]
theorem er_map {α β:Type} {a b:Except Nat α} (f f':α → β) (h:er a = er b):er (mapE f a) = er (mapE f' b):=by
 cases a <;> cases b <;> first | rfl | exact h | cases h
theorem er_same {α β:Type} (f:α → β) (a:Except Nat α):er (mapE f a) = er a:=by cases a <;> rfl
theorem takeV_er {sub:Int → List UInt8 → Mg → Except Nat Mg} (hs:∀ m d x y,er (sub m d x) = er (sub m d y)) (kind ref:Int) (d:List UInt8) (r:Rc) (v u:Vl'):er (takeV sub kind ref d r v) = er (takeV sub kind ref d r u):=by
 unfold takeV
 split
 ·rfl
 ·split
  ·exact er_map _ _ (hs _ _ _ _)
  ·split
   ·split <;> rfl
   ·split <;> rfl
theorem onSlot_er {g:So → Except Nat So} (no:Int) (hg:∀ t u,er (g t) = er (g u)) (t0:So):∀ l,er (onSlot no g l) = er (g t0):=by
 intro l
 induction l with
 | nil=>exact (er_same _ _).trans (hg _ _)
 | cons t l ih =>
  unfold onSlot
  split
  ·exact (er_same _ _).trans (hg _ _)
  ·exact (er_same _ _).trans ih
theorem slotD_er (n:Nat) {sub:Int → List UInt8 → Mg → Except Nat Mg} (hs:∀ m d x y,er (sub m d x) = er (sub m d y)) (f:Df) (d:List UInt8) (r:Rc) (t u:So):er (slotD n sub f d r t) = er (slotD n sub f d r u):=by
 unfold slotD
 split
 ·unfold entryS
  split
  ·rfl
  ·split
   ·rfl
   ·exact er_map _ _ rfl
 ·split
  ·unfold packedS
   split <;> rfl
  ·split
   ·exact er_map _ _ rfl
   ·exact er_map _ _ (takeV_er hs _ _ _ _ _ _)
theorem fieldD_er (fd:Int → Option Df) (n:Nat) {sub:Int → List UInt8 → Mg → Except Nat Mg} (hs:∀ m d x y,er (sub m d x) = er (sub m d y)) (d:List UInt8) (r:Rc) (x y:List So):er (fieldD fd n sub d r x) = er (fieldD fd n sub d r y):=by
 unfold fieldD
 cases fd r.no with
 | none=>rfl
 | some f=>exact (onSlot_er f.no (slotD_er n hs f d r) ⟨0,[],[]⟩ _).trans (onSlot_er f.no (slotD_er n hs f d r) ⟨0,[],[]⟩ _).symm
theorem decM_er (s:Sc):∀ (n:Nat) (m:Int) (d:List UInt8) (x y:Mg),er (decM s n m d x) = er (decM s n m d y)
 | 0,_,_,_,_=>rfl
 | n + 1,m,d,x,y=>er_map _ _ (decR_er (fun d r x y=>fieldD_er (byS s m) n (decM_er s n) d r x y) d.length d x.F y.F)
theorem decM_append (s:Sc) (n:Nat) (m:Int) (a b:List UInt8) (x y:Mg) (h:decM s n m a x = .ok y):decM s n m (a ++ b) x = decM s n m b y:=by
 cases n with
 | zero=>cases h
 | succ n =>
  unfold decM at h ⊢
  cases hx:decR (fieldD (byS s m) n (decM s n)) a x.F with
  | error e=>rw [hx] at h; cases h
  | ok l =>
   rw [hx] at h
   obtain rfl:=Except.ok.inj h
   show mapE _ (decR _ (a ++ b) x.F) = mapE _ (decR _ b l)
   rw [decR_append (fieldD_local _ _ _) b _ a x.F l (Nat.le_refl _) hx]
theorem decM_bad (s:Sc) (n:Nat) (m:Int) (a b:List UInt8) (x:Mg) (e:Nat) (h:decM s n m a x = .error e):e = 6 ∨ decM s n m (a ++ b) x = .error e:=by
 cases n with
 | zero=>right; exact h
 | succ n =>
  unfold decM at h ⊢
  cases hx:decR (fieldD (byS s m) n (decM s n)) a x.F with
  | ok l=>rw [hx] at h; cases h
  | error e' =>
   rw [hx] at h
   obtain rfl:=Except.error.inj h
   rcases decR_bad (fieldD_local _ _ _) b _ a x.F _ (Nat.le_refl _) hx with h1 | h1
   ·exact .inl h1
   ·right
    show mapE _ (decR _ (a ++ b) x.F) = _
    rw [h1]; rfl
end Go.Proofs.YtckcojkpghiclaaGreatDoor.T11
