/-
 What decode's message is to do,of any bytes and any message of one's own: the contract that is to be shown,and what a value's is.
-/
import Derived.Test.YtckcojkpghiclaaGreatDoorDecUnk
import Derived.Test.YtckcojkpghiclaaGreatDoorEncVal
import Derived.Test.YtckcojkpghiclaaGreatDoorDecNumc
import Derived.Test.YtckcojkpghiclaaGreatDoorVarMay
namespace Go.Proofs.YtckcojkpghiclaaGreatDoor.T11
set_option maxRecDepth 100000
open Go.RowKit
open Go.Proofs.YtckcojkpghiclaaGreatDoor.T9 Go.Proofs.YtckcojkpghiclaaGreatDoor.T4
def Full (s:Sc):Nat → Int → LM → Prop
 | 0,_,_=>True
 | n + 1,m,x=>∀ t ∈ x.F,∀ f,byS s m t.no = some f → f.kind = 9 → ∀ v ∈ t.V,∃ y,v.M = [y] ∧ Full s n f.ref y
def MsgH (wo:World) (s:Sc) (vM vE:Value) (A:Option Addr) (c:Nat) (l:List UInt8) (K n:Nat):Prop :=
 ∀ (m:Int) (x:LM) (p:Addr) (i j:Nat) (deep:Int) (k:Nat) (w:World),Below wo.heap.size wo w → wo.heap.size ≤ p.block → p.block < w.heap.size → p.spot = none → w.cell? p = some x.v → w.frozen? p = false →
  Lies wo.heap.size k w x.rows → p.block ∉ blocks x.rows → Full s n m x → i ≤ j → j ≤ l.length → k + (j - i) ≤ K → 1 ≤ n → deep + n = 65 →
  Calls Tryz.prog 64 #[.agg #[vM,vE,.slice A l.length c],.pointer (some p),.int .i64 m,.int .i64 i,.int .i64 j,.int .i64 deep] w fun e w' =>
   (∃ er,decM s n m ((l.drop i).take (j - i)) x.bare = .error er ∧ e = .panicked [{ v:=errP (er:Nat),recovered:=false }] ∧ Below wo.heap.size w w') ∨
   (∃ x',decM s n m ((l.drop i).take (j - i)) x.bare = .ok x'.bare ∧ e = .returned (.tuple #[]) ∧ Upd p x'.v (blocks x.rows) w w' ∧ Lies wo.heap.size (k + (j - i)) w' x'.rows ∧ p.block ∉ blocks x'.rows ∧ (∀ q ∈ blocks x'.rows,q < w.heap.size → q ∈ blocks x.rows) ∧ Full s n m x')
theorem winR_at (l:List UInt8) (a u:Nat) (r:Rc) (h:r.upto ≤ u - a) (hf:r.frm ≤ r.upto):winR ((l.drop a).take (u - a)) r = (l.drop (a + r.frm)).take (a + r.upto - (a + r.frm)):=by
 unfold winR
 rw [List.drop_take,List.take_take,List.drop_drop]
 congr 1
 omega
structure AtVal (g o:Nat) (x:VL LM) (w:World):Prop where
 c0:w.cell? ⟨g,o,none⟩ = some (.int .i64 x.n)
 c1:w.cell? ⟨g,o + 1,none⟩ = some (.string (tx x.s))
 c2:w.cell? ⟨g,o + 2,none⟩ = some x.g
 froz:∀ k,w.frozen? ⟨g,k,none⟩ = false
structure UpdV (g o:Nat) (x:VL LM) (ids:List Nat) (w w':World):Prop where
 os:w'.os = w.os
 tape:w'.tape = w.tape
 output:w'.output = w.output
 size:w.heap.size ≤ w'.heap.size
 block:∀ k,k < w.heap.size → k ∉ ids → w'.heap[k]? = (((w.setCell ⟨g,o,none⟩ (.int .i64 x.n)).setCell ⟨g,o + 1,none⟩ (.string (tx x.s))).setCell ⟨g,o + 2,none⟩ x.g).heap[k]?
def TakeH (wo:World) (s:Sc) (vM vE:Value) (A:Option Addr) (c:Nat) (l:List UInt8) (K n:Nat):Prop :=
 ∀ (kind ref:Int) (r:Rc) (x:VL LM) (g o:Nat) (deep:Int) (k:Nat) (w:World),0 ≤ kind → kind ≤ 9 → Below wo.heap.size wo w → wo.heap.size ≤ g → g < w.heap.size → AtVal g o x w → Lies wo.heap.size k w (rowsV x) → g ∉ blocks (rowsV x) →
  (kind = 9 → ∃ y,x.M = [y] ∧ Full s n ref y) → r.frm ≤ r.upto → r.upto ≤ l.length → r.num < 18446744073709551616 → k + (r.upto - r.frm) ≤ K → deep + n = 64 → 0 ≤ deep →
  Calls Tryz.prog 198 #[.agg #[vM,vE,.slice A l.length c],.pointer (some ⟨g,o,none⟩),.int .i64 kind,.int .i64 ref,RV r,.int .i64 deep] w fun e w' =>
   (∃ er,takeV (decM s n) kind ref l r (bareV x) = .error er ∧ e = .panicked [{ v:=errP (er:Nat),recovered:=false }] ∧ Below wo.heap.size w w') ∨
   (∃ x',takeV (decM s n) kind ref l r (bareV x) = .ok (bareV x') ∧ e = .returned (.tuple #[]) ∧ UpdV g o x' (blocks (rowsV x)) w w' ∧ Lies wo.heap.size (k + (r.upto - r.frm)) w' (rowsV x') ∧ g ∉ blocks (rowsV x') ∧ (∀ q ∈ blocks (rowsV x'),q < w.heap.size → q ∈ blocks (rowsV x)) ∧ (kind = 9 → ∃ y,x'.M = [y] ∧ Full s n ref y))
set_option maxRecDepth 1000000 in
set_option maxHeartbeats 4000000 in
theorem take_wire (vM vE vB:Value) (p:Addr) (kind ref no wire num frm upto deep:Int) (hw:wire ≠ wireI kind) (w:World) :
  Calls Tryz.prog 198 #[.agg #[vM,vE,vB],.pointer (some p),.int .i64 kind,.int .i64 ref,.agg #[.int .i64 no,.int .i64 wire,.int .u64 num,.int .i64 frm,.int .i64 upto],.int .i64 deep] w fun e w'=>e = .panicked [{ v:=errP 8,recovered:=false }] ∧ Below w.heap.size w w':=by
 have HW:=Lib.hid (fun wx=>wire_any kind wx)
 have HY:=Lib.hid (fun wx=>must_no 8 wx)
 obtain ⟨T1,T2,LBD⟩:=two_boxes w (.cells #[vM,vE,vB] 113) (.cells #[.int .i64 no,.int .i64 wire,.int .u64 num,.int .i64 frm,.int .i64 upto] 41)
 obtain ⟨wf,hwf⟩:∃ wf,(w.alloc (.cells #[vM,vE,vB] 113)).alloc (.cells #[.int .i64 no,.int .i64 wire,.int .u64 num,.int .i64 frm,.int .i64 upto] 41) = wf:=⟨_,rfl⟩
 rw [hwf] at T1 T2 LBD
 have HSX:Hid (∀ wx,Below wf.heap.size wf wx → (wx.cell? ⟨w.heap.size + 1,0,none⟩ = some (.int .i64 no) ∧ wx.cell? ⟨w.heap.size + 1,1,none⟩ = some (.int .i64 wire) ∧ wx.cell? ⟨w.heap.size + 1,2,none⟩ = some (.int .u64 num) ∧ wx.cell? ⟨w.heap.size + 1,3,none⟩ = some (.int .i64 frm) ∧ wx.cell? ⟨w.heap.size + 1,4,none⟩ = some (.int .i64 upto))):=Lib.hid (fun wx hx=>heap_cells (box_on T2 hx))
 have LD:Below wf.heap.size wf wf.drew:=(Below.refl _ _).drew
 have hww:(wire == wireI kind) = false:=by rw [beq_eq_false_iff_ne]; exact hw
 have HB0:=Lib.hid LBD
 clear T1 T2 LBD hw
 go_enter Tryz.func198,Tryz.ntmps198
 go_wp2_with fail
 try rw [hwf]
 clear hwf
 refine wp_region_held_drew (S:=(fun wx=>wx.cell? ⟨w.heap.size + 1,0,none⟩ = some (.int .i64 no) ∧ wx.cell? ⟨w.heap.size + 1,1,none⟩ = some (.int .i64 wire) ∧ wx.cell? ⟨w.heap.size + 1,2,none⟩ = some (.int .u64 num) ∧ wx.cell? ⟨w.heap.size + 1,3,none⟩ = some (.int .i64 frm) ∧ wx.cell? ⟨w.heap.size + 1,4,none⟩ = some (.int .i64 upto))) (by kernel_rfl) (HSX.out _ LD) (fun hHeld=>?_)
 refine tk 0 ?_
 refine tk 1 ?_
 refine tk 2 ?_
 refine wpAnyH_ready (rs:=[3]) (by kernel_rfl) (by simp) ?_
 refine AllReadyH.cons rfl (fun K hK=>?_) AllReadyH.nil
 go_simp
 (go_at_call 80; refine (HW.out _).mono ?_; rintro e w6 ⟨rfl,hb6⟩)
 have L6:=LD.trans hb6
 go_wp2_with fail
 refine hK.out _ _ (HSX.out _ L6) (fun hHeld=>?_)
 clear hK K
 refine tk 4 ?_
 refine wpAnyH_ready (rs:=[5]) (by kernel_rfl) (by simp) ?_
 refine AllReadyH.cons rfl (fun K hK=>?_) AllReadyH.nil
 go_simp
 (go_at_call 62; refine (HY.out _).mono ?_; rintro e w7 ⟨rfl,rfl⟩)
 go_wp2_with fail
 exact ⟨rfl,rfl,below_then HB0.out L6⟩
theorem cell_apart (w:World) (g a b:Nat) (v:Value) (h:a ≠ b):(w.setCell ⟨g,a,none⟩ v).cell? ⟨g,b,none⟩ = w.cell? ⟨g,b,none⟩ :=
 World.cell?_setCells_out g [v] a w ⟨g,b,none⟩ (fun _ _=>by simp only [List.length_cons,List.length_nil]; omega)
theorem set_idle {w:World} {g a:Nat} {v:Value} (h:w.cell? ⟨g,a,none⟩ = some v) (k:Nat) (hk:k < w.heap.size):(w.setCell ⟨g,a,none⟩ v).heap[k]? = w.heap[k]? :=
 ((Upd.refl [] h rfl).block k hk (by simp)).symm
theorem set_size (w:World) (p:Addr) (v:Value):(w.setCell p v).heap.size = w.heap.size:=by simp [World.setCell]
theorem UpdV.of_n {g o:Nat} {x:VL LM} {w w2:World} (n':Int) (ids:List Nat) (hb:Below w.heap.size w w2) (h:AtVal g o x w):UpdV g o ⟨n',x.s,x.g,x.M⟩ ids w (w2.setCell ⟨g,o,none⟩ (.int .i64 n')):=by
 refine ⟨hb.os,hb.tape,hb.output,by rw [set_size]; exact hb.size,fun k hk _=>?_⟩
 have c1:(w.setCell ⟨g,o,none⟩ (.int .i64 n')).cell? ⟨g,o + 1,none⟩ = some (.string (tx x.s)):=(cell_apart _ _ _ _ _ (by omega)).trans h.c1
 have c2:(w.setCell ⟨g,o,none⟩ (.int .i64 n')).cell? ⟨g,o + 2,none⟩ = some x.g:=(cell_apart _ _ _ _ _ (by omega)).trans h.c2
 have c3:((w.setCell ⟨g,o,none⟩ (.int .i64 n')).setCell ⟨g,o + 1,none⟩ (.string (tx x.s))).cell? ⟨g,o + 2,none⟩ = some x.g:=(cell_apart _ _ _ _ _ (by omega)).trans c2
 exact (setCell_same (hb.block k hk) _ _).trans ((set_idle c1 k (by rw [set_size]; exact hk)).symm.trans (set_idle c3 k (by rw [set_size,set_size]; exact hk)).symm)
theorem UpdV.of_s {g o:Nat} {x:VL LM} {w w2:World} (s':List UInt8) (ids:List Nat) (hb:Below w.heap.size w w2) (h:AtVal g o x w):UpdV g o ⟨x.n,s',x.g,x.M⟩ ids w (w2.setCell ⟨g,o + 1,none⟩ (.string (tx s'))):=by
 refine ⟨hb.os,hb.tape,hb.output,by rw [set_size]; exact hb.size,fun k hk _=>?_⟩
 have e0:=set_idle h.c0 k hk
 have c2:((w.setCell ⟨g,o,none⟩ (.int .i64 x.n)).setCell ⟨g,o + 1,none⟩ (.string (tx s'))).cell? ⟨g,o + 2,none⟩ = some x.g:=(cell_apart _ _ _ _ _ (by omega)).trans ((cell_apart _ _ _ _ _ (by omega)).trans h.c2)
 exact (setCell_same ((hb.block k hk).trans e0.symm) _ _).trans (set_idle c2 k (by rw [set_size,set_size]; exact hk)).symm
theorem lies_put {b K g a:Nat} {w w2:World} {l:List Rw} (hl:Lies b K w l) (hb:Below w.heap.size w w2) (hg:g ∉ blocks l) (v:Value):Lies b K (w2.setCell ⟨g,a,none⟩ v) l:=by
 refine hl.kept fun k hk=>?_
 rw [setCell_at]
 have h1:=hb.block k (hl.old hk).2
 rw [h1]
 cases w.heap[k]? with
 | none=>rfl
 | some o =>
  have:g ≠ k:=fun e=>hg (e ▸ hk)
  simp only [Option.map_some]
  rw [if_neg this]
theorem rowsV_one {x:VL LM} {y:LM} (h:x.M = [y]):rowsV x = rwV x :: y.rows:=by
 unfold rowsV
 rw [h]
 simp
theorem blocks_cons {r:Rw} {l:List Rw} {k:Nat} (h:r.v.ownBlock = some k):blocks (r :: l) = k :: blocks l:=by
 unfold blocks
 rw [List.filterMap_cons,h]
set_option maxHeartbeats 4000000 in
theorem takeM {wo:World} {s:Sc} {vM vE:Value} {A:Option Addr} {c:Nat} {l:List UInt8} {K n:Nat} (hr0:SlB wo A c l) (hl:l.length ≤ 1000000000) (HM:1 ≤ n → MsgH wo s vM vE A c l K n)
  (ref:Int) (r:Rc) (x:VL LM) (g o:Nat) (deep:Int) (k:Nat) (w:World) (hbo:Below wo.heap.size wo w) (hgo:wo.heap.size ≤ g) (hgw:g < w.heap.size) (hA:AtVal g o x w) (hL:Lies wo.heap.size k w (rowsV x)) (hgn:g ∉ blocks (rowsV x))
  (hful:∃ y,x.M = [y] ∧ Full s n ref y) (hf1:r.frm ≤ r.upto) (hf2:r.upto ≤ l.length) (hK:k + (r.upto - r.frm) ≤ K) (hdeep:deep + n = 64) (hd0:0 ≤ deep) (hw:(r.wire:Int) = wireI 9) :
  Calls Tryz.prog 198 #[.agg #[vM,vE,.slice A l.length c],.pointer (some ⟨g,o,none⟩),.int .i64 9,.int .i64 ref,RV r,.int .i64 deep] w fun e w' =>
   (∃ er,takeV (decM s n) 9 ref l r (bareV x) = .error er ∧ e = .panicked [{ v:=errP (er:Nat),recovered:=false }] ∧ Below wo.heap.size w w') ∨
   (∃ x',takeV (decM s n) 9 ref l r (bareV x) = .ok (bareV x') ∧ e = .returned (.tuple #[]) ∧ UpdV g o x' (blocks (rowsV x)) w w' ∧ Lies wo.heap.size (k + (r.upto - r.frm)) w' (rowsV x') ∧ g ∉ blocks (rowsV x') ∧ (∀ q ∈ blocks (rowsV x'),q < w.heap.size → q ∈ blocks (rowsV x)) ∧ ((9:Int) = 9 → ∃ y,x'.M = [y] ∧ Full s n ref y)):=by
 obtain ⟨y,hy,hfu⟩:=hful
 have hrows:=rowsV_one hy
 obtain ⟨hrow,hrn⟩:=hL.own (rwV x) (by rw [hrows]; exact List.mem_cons_self ..)
 have hrow1:w.ownsRow wo.heap.size 31 1 x.g 1 [y.v]:=by
  have:rwV x = ⟨31,1,x.g,1,[y.v]⟩:=by unfold rwV; rw [hy]; rfl
  rw [this] at hrow
  exact hrow
 obtain ⟨gm,cap,hxg⟩:∃ gm cap,x.g = .slice (some ⟨gm,0,none⟩) 1 cap:=by
  rcases hrow1 with ⟨_,⟨_,h⟩ | ⟨gg,cc,cur,h1,_⟩⟩
  ·exact absurd h (by decide)
  ·exact ⟨gg,cc,h1⟩
 rw [hxg] at hrow1
 have hown:(rwV x).v.ownBlock = some gm:=by show x.g.ownBlock = some gm; rw [hxg]; rfl
 have hbl:blocks (rowsV x) = gm :: blocks y.rows:=by rw [hrows]; exact blocks_cons hown
 have hgm:=own_blk hrow1 gm rfl
 have hap:=hL.apart
 rw [hbl] at hap hgn
 rw [hrows] at hL
 have hgmy:gm ∉ blocks y.rows:=(List.nodup_cons.1 hap).1
 have hLy:Lies wo.heap.size k w y.rows:=⟨fun q hq=>hL.own q (List.mem_cons_of_mem _ hq),(List.nodup_cons.1 hap).2⟩
 have hggm:g ≠ gm:=fun e=>hgn (e ▸ List.mem_cons_self ..)
 have hgy:g ∉ blocks y.rows:=fun h=>hgn (List.mem_cons_of_mem _ h)
 have htake:∀ D:Except Nat Mg,decM s n ref (winR l r) y.bare = D → takeV (decM s n) 9 ref l r (bareV x) = mapE (fun z=>⟨x.n,x.s,[z]⟩) D:=fun D hD=>by
  unfold takeV
  rw [if_neg (by simpa using hw),if_pos rfl]
  have:bareV x = ⟨x.n,x.s,[y.bare]⟩:=by unfold bareV; rw [hy]; rfl
  rw [this,← hD]
  rfl
 by_cases hn:1 ≤ n
 ·have HM1:=HM hn
  refine (take_sub vM vE (.slice A l.length c) g o gm cap ref r.no r.wire r.num r.frm r.upto deep hw w hgw (by rw [← hxg]; exact hA.c2) hd0 (by omega)
   (fun wx w'=>∃ y',decM s n ref (winR l r) y.bare = .ok y'.bare ∧ Upd ⟨gm,0,none⟩ y'.v (blocks y.rows) wx w' ∧ Lies wo.heap.size (k + (r.upto - r.frm)) w' y'.rows ∧ gm ∉ blocks y'.rows ∧ (∀ q ∈ blocks y'.rows,q < wx.heap.size → q ∈ blocks y.rows) ∧ Full s n ref y')
   (fun er wx w'=>∃ er':Nat,er = (er':Int) ∧ decM s n ref (winR l r) y.bare = .error er' ∧ Below wo.heap.size wx w') ?_ ?_).mono ?_
  ·intro wx hx
   have hrx:=own_hi hrow1 (hi_below _ hx)
   refine (HM1 ref y ⟨gm,0,none⟩ r.frm r.upto (deep + 1) k wx (below_then hbo hx) hgm.1 (Nat.lt_of_lt_of_le hgm.2 hx.size) rfl (hrx.cells (g:=gm) rfl 0 _ rfl) (own_froz hrx 0) (hLy.on hx) hgmy hfu hf1 hf2 hK hn (by omega)).mono ?_
   rintro e w' (⟨er,h1,rfl,h2⟩ | ⟨y',h1,rfl,h2,h3,h4,h5,h6⟩)
   ·exact .inr ⟨er,rfl,er,rfl,h1,h2⟩
   ·exact .inl ⟨rfl,y',h1,h2,h3,h4,h5,h6⟩
  ·rintro wx w' hx hsz ⟨y',h1,h2,h3,h4,h5,h6⟩ q hq
   have hqlt:q < wx.heap.size:=by omega
   have hqn:q ∉ blocks y.rows:=by
    rcases hq with rfl | rfl | rfl
    ·intro h; have:=(hLy.old h).2; omega
    ·intro h; have:=(hLy.old h).2; omega
    ·exact hgy
   have hqm:gm ≠ q:=by
    rcases hq with rfl | rfl | rfl
    ·have:=hgm.2; omega
    ·have:=hgm.2; omega
    ·exact fun e=>hggm e.symm
   rw [h2.block q hqlt hqn,setCell_at]
   cases wx.heap[q]? with
   | none=>rfl
   | some z=>simp only [Option.map_some]; rw [if_neg hqm]
  ·rintro e w' (⟨rfl,wx,hx,y',h1,h2,h3,h4,h5,h6⟩ | ⟨er,rfl,wx,hx,er',rfl,h1,h2⟩)
   ·have hrx:=own_hi hrow1 (hi_below _ hx)
    have hrow2:=h2.row (u:=y'.v) hrx hgmy
    have hx1:rowsV (⟨x.n,x.s,x.g,[y']⟩:VL LM) = rwV ⟨x.n,x.s,x.g,[y']⟩ :: y'.rows:=rowsV_one rfl
    have hbl':blocks (rowsV (⟨x.n,x.s,x.g,[y']⟩:VL LM)) = gm :: blocks y'.rows:=by rw [hx1]; exact blocks_cons (by show x.g.ownBlock = some gm; rw [hxg]; rfl)
    refine .inr ⟨⟨x.n,x.s,x.g,[y']⟩,(htake _ h1).trans rfl,rfl,⟨h2.os.trans hx.os,h2.tape.trans hx.tape,h2.output.trans hx.output,Nat.le_trans hx.size h2.size,fun q hq hqn=>?_⟩,⟨fun q hq=>?_,?_⟩,?_,?_,fun _=>⟨y',rfl,h6⟩⟩
    ·rw [hbl] at hqn
     have hqy:q ∉ blocks y.rows:=fun h=>hqn (List.mem_cons_of_mem _ h)
     have hqm:gm ≠ q:=fun e=>hqn (e ▸ List.mem_cons_self ..)
     have e1:w'.heap[q]? = w.heap[q]?:=by
      rw [h2.block q (Nat.lt_of_lt_of_le hq hx.size) hqy,setCell_at,hx.block q hq]
      cases w.heap[q]? with
      | none=>rfl
      | some z=>simp only [Option.map_some]; rw [if_neg hqm]
     have c1:(w.setCell ⟨g,o,none⟩ (.int .i64 x.n)).cell? ⟨g,o + 1,none⟩ = some (.string (tx x.s)):=(cell_apart _ _ _ _ _ (by omega)).trans hA.c1
     have c2:((w.setCell ⟨g,o,none⟩ (.int .i64 x.n)).setCell ⟨g,o + 1,none⟩ (.string (tx x.s))).cell? ⟨g,o + 2,none⟩ = some x.g:=(cell_apart _ _ _ _ _ (by omega)).trans ((cell_apart _ _ _ _ _ (by omega)).trans hA.c2)
     rw [e1]
     exact (set_idle hA.c0 q hq).symm.trans ((set_idle c1 q (by rw [set_size]; exact hq)).symm.trans (set_idle c2 q (by rw [set_size,set_size]; exact hq)).symm)
    ·rw [hx1] at hq
     rcases List.mem_cons.1 hq with rfl | hq
     ·refine ⟨?_,?_⟩
      ·show w'.ownsRow wo.heap.size 31 1 x.g 1 [y'.v]
       rw [hxg]
       exact hrow2
      ·have h:=hrn
       have e:(rwV x).n = 1:=by unfold rwV; rw [hy]; rfl
       rw [e] at h
       show 1 ≤ _
       omega
     ·exact h3.own q hq
    ·rw [hbl']
     exact List.nodup_cons.2 ⟨h4,h3.apart⟩
    ·rw [hbl']
     intro h
     rcases List.mem_cons.1 h with h | h
     ·exact hggm h
     ·exact hgy (h5 g h (Nat.lt_of_lt_of_le hgw hx.size))
    ·rw [hbl',hbl]
     intro q hq hlt
     rcases List.mem_cons.1 hq with rfl | hq
     ·exact List.mem_cons_self ..
     ·exact List.mem_cons_of_mem _ (h5 q hq (Nat.lt_of_lt_of_le hlt hx.size))
   ·exact .inl ⟨er',(htake _ h1).trans rfl,rfl,(hx.mono hbo.size).trans h2⟩
 ·obtain rfl:n = 0:=by omega
  refine (take_deep vM vE (.slice A l.length c) g o gm cap ref r.no r.wire r.num r.frm r.upto deep hw w hgw (by rw [← hxg]; exact hA.c2) (by omega)).mono ?_
  rintro e w' ⟨rfl,hb⟩
  exact .inl ⟨11,(htake _ rfl).trans rfl,rfl,hb.mono hbo.size⟩
set_option maxHeartbeats 2000000 in
theorem takeH {wo:World} {s:Sc} {vM vE:Value} {A:Option Addr} {c:Nat} {l:List UInt8} {K n:Nat} (hr0:SlB wo A c l) (hl:l.length ≤ 1000000000) (HM:1 ≤ n → MsgH wo s vM vE A c l K n):TakeH wo s vM vE A c l K n:=by
 intro kind ref r x g o deep k w hk0 hk9 hbo hgo hgw hA hL hgn hful hf1 hf2 hnum hK hdeep hd0
 have hr:=hr0.on hbo
 have hp0:w.frozen? ⟨g,o,none⟩ = false:=hA.froz o
 by_cases hw:(r.wire:Int) = wireI kind
 ·by_cases h9:kind = 9
  ·subst h9
   exact takeM hr0 hl HM ref r x g o deep k w hbo hgo hgw hA hL hgn (hful rfl) hf1 hf2 hK hdeep hd0 hw
  ·by_cases h7:kind = 7
   ·subst h7
    by_cases hfi:first (winR l r) = (winR l r).length
    ·have hlen:(winR l r).length = r.upto - r.frm:=by unfold winR; rw [List.length_take,List.length_drop]; omega
     refine (take_text vM vE A c l g o ref r.no r.wire r.num r.frm r.upto deep hl (hfi.trans hlen) hf1 hf2 hw w hr _ hgw hA.c1 (hA.froz _)).mono ?_
     rintro e w' ⟨rfl,w2,hb,rfl⟩
     refine .inr ⟨⟨x.n,winR l r,x.g,x.M⟩,?_,rfl,UpdV.of_s _ _ hb hA,(lies_put hL hb hgn _).more (by omega),hgn,fun q hq _=>hq,fun h=>absurd h (by decide)⟩
     unfold takeV
     rw [if_neg (by simpa using hw),if_neg (by decide),if_pos rfl,if_pos hfi]
     rfl
    ·have hlen:(winR l r).length = r.upto - r.frm:=by unfold winR; rw [List.length_take,List.length_drop]; omega
     refine (take_noText vM vE A c l g o ref r.no r.wire r.num r.frm r.upto deep hl (fun h=>hfi (h.trans hlen.symm)) hf1 hf2 hw w hr _ hgw hA.c1 (hA.froz _)).mono ?_
     rintro e w' ⟨rfl,hb⟩
     refine .inl ⟨10,?_,rfl,hb.mono hbo.size⟩
     unfold takeV
     rw [if_neg (by simpa using hw),if_neg (by decide),if_pos rfl,if_neg hfi]
   ·by_cases h8:kind = 8
    ·subst h8
     refine (take_raw vM vE A c l g o ref r.no r.wire r.num r.frm r.upto deep hf1 hf2 hw w hr _ hgw hA.c1 (hA.froz _)).mono ?_
     rintro e w' ⟨rfl,w2,hb,rfl⟩
     refine .inr ⟨⟨x.n,winR l r,x.g,x.M⟩,?_,rfl,UpdV.of_s _ _ hb hA,(lies_put hL hb hgn _).more (by omega),hgn,fun q hq _=>hq,fun h=>absurd h (by decide)⟩
     unfold takeV
     rw [if_neg (by simpa using hw),if_neg (by decide),if_neg (by decide),if_pos rfl]
     rfl
    ·have hk:cnt kind = true:=by simp [cnt]; omega
     refine (take_num vM vE (.slice A l.length c) ⟨g,o,none⟩ kind ref r.no r.wire r.num r.frm r.upto deep hk hw hnum w _ hgw hA.c0 (hA.froz _)).mono ?_
     rintro e w' ⟨rfl,w2,hb,rfl⟩
     refine .inr ⟨⟨ofI kind r.num,x.s,x.g,x.M⟩,?_,rfl,UpdV.of_n _ _ hb hA,(lies_put hL hb hgn _).more (by omega),hgn,fun q hq _=>hq,fun h=>absurd h h9⟩
     unfold takeV
     rw [if_neg (by simpa using hw),if_neg h9,if_neg h7,if_neg h8]
     rfl
 ·refine (take_wire vM vE (.slice A l.length c) ⟨g,o,none⟩ kind ref r.no r.wire r.num r.frm r.upto deep hw w).mono ?_
  rintro e w' ⟨rfl,hb⟩
  refine .inl ⟨8,?_,rfl,hb.mono hbo.size⟩
  unfold takeV
  rw [if_pos hw]
theorem full_empty (s:Sc) (v:Value):∀ (n:Nat) (m:Int),Full s n m (.mk v [])
 | 0,_=>trivial
 | _ + 1,_=>fun t ht=>absurd ht (by simp [LM.F])
theorem rows_empty (v:Value):(LM.mk v []).rows = [⟨67,3,v,0,[]⟩]:=by
 rw [LM.rows_eq]
 rfl
theorem bare_empty (v:Value):(LM.mk v []).bare = .mk []:=by
 rw [LM.bare_eq]
 rfl
theorem blank_any (kind:Int) (w:World):Calls Tryz.prog 197 #[.int .i64 kind] w fun e w'=>∃ x:VL LM,e = .returned (.agg #[.int .i64 x.n,.string (tx x.s),x.g]) ∧ bareV x = blankV kind ∧ Lies w.heap.size 1 w' (rowsV x) ∧ (kind = 9 → ∃ v,x.M = [.mk v []]) ∧ Below w.heap.size w w':=by
 by_cases h9:kind = 9
 ·subst h9
  refine (blank_sub w).mono ?_
  rintro e w' ⟨g,rfl,hown,hb⟩
  have hr:rowsV (⟨0,[],.slice (some ⟨g,0,none⟩) 1 1,[.mk (.slice none 0 0) []]⟩:VL LM) = [⟨31,1,.slice (some ⟨g,0,none⟩) 1 1,1,[.slice none 0 0]⟩,⟨67,3,.slice none 0 0,0,[]⟩]:=by
   rw [rowsV_one rfl,rows_empty]; rfl
  refine ⟨⟨0,[],.slice (some ⟨g,0,none⟩) 1 1,[.mk (.slice none 0 0) []]⟩,rfl,?_,?_,fun _=>⟨_,rfl⟩,hb⟩
  ·unfold bareV blankV
   rw [if_pos rfl]
   simp [bare_empty]
  ·rw [hr]
   refine ⟨fun q hq=>?_,?_⟩
   ·rcases List.mem_cons.1 hq with rfl | hq
    ·exact ⟨hown,Nat.le_refl _⟩
    ·obtain rfl:=List.mem_singleton.1 hq
     exact ⟨World.ownsRow_nil _ _ _ _,Nat.zero_le _⟩
   ·simp [blocks,Value.ownBlock]
 ·refine (blank_num kind h9 w).mono ?_
  rintro e w' ⟨rfl,hb⟩
  refine ⟨⟨0,[],.slice none 0 0,[]⟩,rfl,?_,⟨fun q hq=>?_,?_⟩,fun h=>absurd h h9,hb⟩
  ·unfold bareV blankV
   rw [if_neg h9]
   rfl
  ·obtain rfl:q = ⟨31,1,.slice none 0 0,0,[]⟩:=by simpa [rowsV,rwV] using hq
   exact ⟨World.ownsRow_nil _ _ _ _,Nat.zero_le _⟩
  ·simp [rowsV,rwV,blocks,Value.ownBlock]
set_option maxRecDepth 1000000 in
set_option maxHeartbeats 8000000 in
theorem value_any {wo:World} {s:Sc} {vM vE:Value} {A:Option Addr} {c:Nat} {l:List UInt8} {K n:Nat} (HT:TakeH wo s vM vE A c l K n) (f:Df) (r:Rc) (deep:Int) (w:World) (hk0:0 ≤ f.kind) (hk9:f.kind ≤ 9) (hbo:Below wo.heap.size wo w) (hf1:r.frm ≤ r.upto) (hf2:r.upto ≤ l.length) (hnum:r.num < 18446744073709551616) (hK:1 + (r.upto - r.frm) ≤ K) (hdeep:deep + n = 64) (hd0:0 ≤ deep) :
  Calls Tryz.prog 151 #[.agg #[vM,vE,.slice A l.length c],.agg #[.int .i64 f.no,.string (txt f.name),.int .i64 f.kind,.int .i64 f.ref,.bool f.rep,.int .i64 f.key,.int .i64 f.one],RV r,.int .i64 deep] w fun e w' =>
   (∃ er,takeV (decM s n) f.kind f.ref l r (blankV f.kind) = .error er ∧ e = .panicked [{ v:=errP (er:Nat),recovered:=false }] ∧ Below wo.heap.size w w') ∨
   (∃ x',takeV (decM s n) f.kind f.ref l r (blankV f.kind) = .ok (bareV x') ∧ e = .returned (.agg #[.int .i64 x'.n,.string (tx x'.s),x'.g]) ∧ Below w.heap.size w w' ∧ Lies wo.heap.size (1 + (r.upto - r.frm)) w' (rowsV x') ∧ (∀ q ∈ blocks (rowsV x'),w.heap.size ≤ q) ∧ (f.kind = 9 → ∃ y,x'.M = [y] ∧ Full s n f.ref y)):=by
 obtain ⟨T1,T2,T3,T4,LBD⟩:=T9.four_new w (.cells #[vM,vE,.slice A l.length c] 113) (dC f) (.cells #[.int .i64 r.no,.int .i64 r.wire,.int .u64 r.num,.int .i64 r.frm,.int .i64 r.upto] 41) (.cells #[.int .i64 0,.string ⟨#[]⟩,.slice none 0 0] 81)
 have hRV:RV r = .agg #[.int .i64 r.no,.int .i64 r.wire,.int .u64 r.num,.int .i64 r.frm,.int .i64 r.upto]:=rfl
 rw [hRV]
 obtain ⟨W4,hW4⟩:∃ W,W = ((((w.alloc (.cells #[vM,vE,.slice A l.length c] 113)).alloc (dC f)).alloc (.cells #[.int .i64 r.no,.int .i64 r.wire,.int .u64 r.num,.int .i64 r.frm,.int .i64 r.upto] 41)).alloc (.cells #[.int .i64 0,.string ⟨#[]⟩,.slice none 0 0] 81)):=⟨_,rfl⟩
 obtain ⟨g0,g1,g2,g3,g4,g5,g6⟩:=dc_cells T2
 have HB4:=Lib.hid (blank_any f.kind W4)
 rw [hW4] at HB4
 have HX:=Lib.hid (And.intro T1 (And.intro T2 (And.intro T3 (And.intro T4 LBD))))
 clear T1 T2 T3 T4 LBD hW4
 go_enter Tryz.func151,Tryz.ntmps151
 go_wp2_with fail
 refine HB4.out.mono ?_
 rintro e w1 ⟨⟨xn,xs,xg,xM⟩,rfl,hbare,hL,hM,hb1⟩
 obtain ⟨Ag,cg,hxg,-⟩:=Sl.of_own (hL.own (rwV ⟨xn,xs,xg,xM⟩) (by unfold rowsV; exact List.mem_cons_self ..)).1
 obtain ⟨ng,hng⟩:∃ ng,(rwV (⟨xn,xs,xg,xM⟩:VL LM)).n = ng:=⟨_,rfl⟩
 rw [hng] at hxg
 obtain rfl:xg = .slice Ag ng cg:=hxg
 clear hng
 obtain ⟨T1,T2,T3,T4,LBD⟩:=HX.out
 have N2:=below_new w1 (.cells #[.int .i64 xn,.string (tx xs),.slice Ag ng cg] 81)
 have Z2:=heap_alloc_new w1 (.cells #[.int .i64 xn,.string (tx xs),.slice Ag ng cg] 81)
 have hb2:=below_then hb1 N2
 obtain ⟨s0,s1,s2⟩:=bx3 (box_on T1 hb2)
 obtain ⟨g0,g1,g2,g3,g4,g5,g6⟩:=dc_cells (box_on T2 hb2)
 obtain ⟨r0,r1,r2,r3,r4⟩:=heap_cells (box_on T3 hb2)
 have hb05:=below_then LBD hb2
 have hw1:=below_then LBD hb1
 have hw1s:w.heap.size + 4 ≤ w1.heap.size:=by
  have h1:=hb1.size
  have h2:((((w.alloc (.cells #[vM,vE,.slice A l.length c] 113)).alloc (dC f)).alloc (.cells #[.int .i64 r.no,.int .i64 r.wire,.int .u64 r.num,.int .i64 r.frm,.int .i64 r.upto] 41)).alloc (.cells #[.int .i64 0,.string ⟨#[]⟩,.slice none 0 0] 81)).heap.size = w.heap.size + 4:=by simp
  exact h2 ▸ h1
 obtain ⟨z0,z1,z2⟩:=bx3 Z2
 have hwo:=hbo.size
 have hold:∀ q ∈ blocks (rowsV (⟨xn,xs,.slice Ag ng cg,xM⟩:VL LM)),w.heap.size + 4 ≤ q ∧ q < w1.heap.size:=fun q hq=>by
  have h:=hL.old hq
  have h2:((((w.alloc (.cells #[vM,vE,.slice A l.length c] 113)).alloc (dC f)).alloc (.cells #[.int .i64 r.no,.int .i64 r.wire,.int .u64 r.num,.int .i64 r.frm,.int .i64 r.upto] 41)).alloc (.cells #[.int .i64 0,.string ⟨#[]⟩,.slice none 0 0] 81)).heap.size = w.heap.size + 4:=by simp
  exact ⟨h2 ▸ h.1,h.2⟩
 have hLo:Lies wo.heap.size 1 w1 (rowsV (⟨xn,xs,.slice Ag ng cg,xM⟩:VL LM)):=⟨fun q hq=>⟨own_less2 (hL.own q hq).1 (Nat.le_trans hwo LBD.size),(hL.own q hq).2⟩,hL.apart⟩
 have HTK:=Lib.hid (HT f.kind f.ref r ⟨xn,xs,.slice Ag ng cg,xM⟩ w1.heap.size 0 deep 1 _ hk0 hk9 (below_then hbo hb05) (by omega) (by simp) ⟨z0,z1,z2,fun k=>by unfold World.frozen?; rw [Z2]; simp⟩ (hLo.on N2) (fun h=>Nat.lt_irrefl _ (hold _ h).2) (fun h=>by obtain ⟨v,hv⟩:=hM h; exact ⟨_,hv,full_empty s v n f.ref⟩) hf1 hf2 hnum hK hdeep hd0)
 have HR:=Lib.hid (And.intro T4 (And.intro hb05 (And.intro hb2 (And.intro hold (And.intro Z2 hw1s)))))
 have HBA:=Lib.hid hbare
 clear T1 T2 T3 T4 LBD N2 Z2 hb2 hb05 hw1 hold hLo hL hM hbare z0 z1 z2 HX
 go_wp2_with fail
 refine HTK.out.mono ?_
 rintro e w3 (⟨er,h1,rfl,h2⟩ | ⟨x',h1,rfl,hU,hL',hg',hq',hful⟩)
 ·go_wp2_with fail
  rw [HBA.out] at h1
  exact ⟨rfl,.inl ⟨er,h1,rfl,(HR.out.2.1.mono hwo).trans h2⟩⟩
 ·obtain ⟨T4,hb05,hb2,hold,Z2,hw1s⟩:=HR.out
  obtain ⟨xn',xs',xg',xM'⟩:=x'
  obtain ⟨Ag',cg',hxg,-⟩:=Sl.of_own (hL'.own (rwV ⟨xn',xs',xg',xM'⟩) (by unfold rowsV; exact List.mem_cons_self ..)).1
  obtain ⟨ng',hng⟩:∃ ng,(rwV (⟨xn',xs',xg',xM'⟩:VL LM)).n = ng:=⟨_,rfl⟩
  rw [hng] at hxg
  obtain rfl:xg' = .slice Ag' ng' cg':=hxg
  clear hng
  have hg3:w3.heap[w1.heap.size]? = some (.cells #[.int .i64 xn',.string (tx xs'),.slice Ag' ng' cg'] 81 (0,0)):=by
   rw [hU.block w1.heap.size (by simp) (fun h=>absurd (hold _ h).2 (Nat.lt_irrefl _)),setCell_at,setCell_at,setCell_at,Z2]
   simp
  have far:∀ q,q < w1.heap.size → (∀ h:w.heap.size + 4 ≤ q,False) → w3.heap[q]? = (w1.alloc (.cells #[.int .i64 xn,.string (tx xs),.slice Ag ng cg] 81)).heap[q]?:=fun q hq hn=>by
   rw [hU.block q (by simp; omega) (fun h=>hn (hold _ h).1),setCell_at,setCell_at,setCell_at]
   have hne:¬ w1.heap.size = q:=by omega
   cases (w1.alloc (.cells #[.int .i64 xn,.string (tx xs),.slice Ag ng cg] 81)).heap[q]? with
   | none=>rfl
   | some z=>simp [hne]
  have ht8:w3.heap[w.heap.size + 1 + 1 + 1]? = some (.cells #[.int .i64 0,.string ⟨#[]⟩,.slice none 0 0] 81 (0,0)):=(far _ (by omega) (by omega)).trans (box_on T4 hb2)
  obtain ⟨y0,y1,y2⟩:=bx3 hg3
  obtain ⟨v0,v1,v2⟩:=bx3 ht8
  have f8:∀ k,w3.frozen? ⟨w.heap.size + 1 + 1 + 1,k,none⟩ = false:=fun k=>by simp [World.frozen?,ht8]
  have HZ:=Lib.hid (And.intro ht8 (And.intro far (And.intro hb05 (And.intro hold hw1s))))
  have HQ:=Lib.hid (And.intro h1 (And.intro hU (And.intro hL' (And.intro hq' hful))))
  clear hg3 far ht8 T4 hb05 hb2 hold Z2 hw1s h1 hU hL' hq' hful hg' HTK HB4
  go_wp2
  obtain ⟨ht8,far,hb05,hold,hw1s⟩:=HZ.out
  obtain ⟨h1,hU,hL',hq',hful⟩:=HQ.out
  have Zf:(((w3.setCell ⟨w.heap.size + 1 + 1 + 1,0,none⟩ (.int .i64 xn')).setCell ⟨w.heap.size + 1 + 1 + 1,1,none⟩ (.string (tx xs'))).setCell ⟨w.heap.size + 1 + 1 + 1,2,none⟩ (.slice Ag' ng' cg')).heap[w.heap.size + 1 + 1 + 1]? = some (.cells #[.int .i64 xn',.string (tx xs'),.slice Ag' ng' cg'] 81 (0,0)):=by
   rw [setCell_at,setCell_at,setCell_at,ht8]
   simp
  have hff:∀ q,q ≠ w.heap.size + 1 + 1 + 1 → (((w3.setCell ⟨w.heap.size + 1 + 1 + 1,0,none⟩ (.int .i64 xn')).setCell ⟨w.heap.size + 1 + 1 + 1,1,none⟩ (.string (tx xs'))).setCell ⟨w.heap.size + 1 + 1 + 1,2,none⟩ (.slice Ag' ng' cg')).heap[q]? = w3.heap[q]?:=fun q hq=>by
   rw [setCell_at,setCell_at,setCell_at]
   have hne:¬ w.heap.size + 1 + 1 + 1 = q:=fun e=>hq e.symm
   cases w3.heap[q]? with
   | none=>rfl
   | some z=>simp [hne]
  have hnew:∀ q ∈ blocks (rowsV (⟨xn',xs',.slice Ag' ng' cg',xM'⟩:VL LM)),w.heap.size + 4 ≤ q:=fun q hq=>by
   by_cases hlt:q < (w1.alloc (.cells #[.int .i64 xn,.string (tx xs),.slice Ag ng cg] 81)).heap.size
   ·exact (hold q (hq' q hq hlt)).1
   ·simp at hlt; omega
  refine bodyPost_ret (results_cell_row rfl _ _ (w.heap.size + 1 + 1 + 1) _ _ (0,0) _ rfl Zf Tryz.underlying81 rfl sz_val) rfl ?_
  refine .inr ⟨⟨xn',xs',.slice Ag' ng' cg',xM'⟩,by rw [← HBA.out]; exact h1,rfl,⟨hU.os.trans hb05.os,hU.tape.trans hb05.tape,hU.output.trans hb05.output,by rw [set_size,set_size,set_size]; exact Nat.le_trans hb05.size hU.size,fun q hq=>(hff q (by omega)).trans ((far q (by omega) (by omega)).trans (hb05.block q hq))⟩,hL'.kept fun q hq=>hff q (by have:=hnew q hq; omega),fun q hq=>by have:=hnew q hq; omega,hful⟩
theorem slots_no (l:List (SLo LM)):∀ (k:Nat) (x:Int),(l.map (·.no))[k]? = some x → (l.flatMap cS')[k * 3]? = some (.int .i64 x):=by
 induction l with
 | nil=>intro k x h; simp at h
 | cons t l ih =>
  intro k x h
  cases k with
  | zero =>
       obtain rfl:t.no = x:=by simpa using h
       rfl
  | succ k =>
   have h2:(l.map (·.no))[k]? = some x:=by simpa using h
   have:=ih k x h2
   rw [List.flatMap_cons,List.getElem?_append_right (by show 3 ≤ _; omega)]
   rw [show (k + 1) * 3 - (cS' t).length = k * 3 by show (k + 1) * 3 - 3 = _; omega]
   exact this
theorem slotL_old {b K:Nat} {w:World} {x:LM} {p:Addr} {no:Int} (hL:Lies b K w x.rows) (hc:w.cell? p = some x.v) (hK:K ≤ 1000000000) {i:Nat} {t:SLo LM} (ht:x.F[i]? = some t) (hno:t.no = no) (hf:∀ (k:Nat) (u:SLo LM),k < i → x.F[k]? = some u → u.no ≠ no) :
  Calls Tryz.prog 149 #[.pointer (some p),.int .i64 no] w fun e w'=>(∃ g c,x.v = .slice (some ⟨g,0,none⟩) x.F.length c ∧ e = .returned (.pointer (some ⟨g,i * 3,none⟩))) ∧ w' = w:=by
 obtain ⟨hrow,hrn⟩:=hL.own (rwM x) (by rw [LM.rows_eq]; exact List.mem_cons_self ..)
 obtain ⟨A,c,hv,hs⟩:=Sl.of_own hrow
 have hv:x.v = .slice A x.F.length c:=hv
 have hi:=(List.getElem?_eq_some_iff.1 ht).1
 have hlen:(x.F.map (·.no)).length = x.F.length:=List.length_map ..
 have hx:=slotOf_old p no A c (x.F.flatMap cS') (x.F.map (·.no)) i w (by rw [hlen,← hv]; exact hc) (by rw [hlen]; exact hs) (by rw [hlen]; exact Nat.le_trans hrn hK) (slots_no x.F) (by rw [List.getElem?_map,ht,← hno]; rfl) (fun k hk h=>by
  rw [List.getElem?_map] at h
  cases hu:x.F[k]? with
  | none=>rw [hu] at h; cases h
  | some u=>rw [hu] at h; exact hf k u hk hu (Option.some.inj h))
 refine hx.mono ?_
 rintro e w' ⟨⟨ad,rfl,rfl⟩,rfl⟩
 obtain ⟨g,c',hg⟩:∃ g c',x.v = .slice (some ⟨g,0,none⟩) x.F.length c':=by
  rcases hrow with ⟨_,⟨h1,h2⟩ | ⟨gg,cc,cur,h1,_⟩⟩
  ·have h2:x.F.length = 0:=h2
   omega
  ·exact ⟨gg,cc,h1⟩
 obtain rfl:ad = ⟨g,0,none⟩:=by
  rw [hg] at hv
  injection hv with h1 _ _
  exact (Option.some.inj h1).symm
 exact ⟨⟨g,c',hg,by rw [Addr.add_lit,Nat.zero_add]⟩,rfl⟩
def rowsF (l:List (SLo LM)):List Rw:=(l.map rowsS).flatten
def newS (no:Int):SLo LM:=⟨no,.slice none 0 0,[],.slice none 0 0,[]⟩
theorem rowsF_snoc (l:List (SLo LM)) (no:Int):rowsF (l ++ [newS no]) = rowsF l ++ [⟨81,3,.slice none 0 0,0,[]⟩,⟨81,3,.slice none 0 0,0,[]⟩]:=by
 unfold rowsF
 rw [List.map_append,List.flatten_append]
 rfl
theorem blocks_snoc (l:List (SLo LM)) (no:Int):blocks (rowsF (l ++ [newS no])) = blocks (rowsF l):=by
 rw [rowsF_snoc,blocks_append]
 simp [blocks,Value.ownBlock]
theorem slotL_new {b K:Nat} {w:World} {x:LM} {p:Addr} {no:Int} (hb:b ≤ w.heap.size) (hL:Lies b K w x.rows) (hc:w.cell? p = some x.v) (hz:w.frozen? p = false) (hp:p.block < w.heap.size) (hpn:p.block ∉ blocks x.rows) (hK:K ≤ 1000000000) (hf:∀ u ∈ x.F,u.no ≠ no) :
  Calls Tryz.prog 149 #[.pointer (some p),.int .i64 no] w fun e w'=>∃ g c,e = .returned (.pointer (some ⟨g,x.F.length * 3,none⟩)) ∧ Upd p (.slice (some ⟨g,0,none⟩) (x.F.length + 1) c) (blocks x.rows) w w' ∧
   Lies b (K + 1) w' (LM.mk (.slice (some ⟨g,0,none⟩) (x.F.length + 1) c) (x.F ++ [newS no])).rows ∧ p.block ∉ blocks (LM.mk (.slice (some ⟨g,0,none⟩) (x.F.length + 1) c) (x.F ++ [newS no])).rows ∧ (∀ q ∈ blocks (LM.mk (.slice (some ⟨g,0,none⟩) (x.F.length + 1) c) (x.F ++ [newS no])).rows,q < w.heap.size → q ∈ blocks x.rows):=by
 have hxr:x.rows = rwM x :: rowsF x.F:=LM.rows_eq x
 obtain ⟨hrow,hrn⟩:=hL.own (rwM x) (by rw [hxr]; exact List.mem_cons_self ..)
 have hlen:(x.F.map (·.no)).length = x.F.length:=List.length_map ..
 have hvp:∀ k,x.v.ownBlock = some k → k ≠ p.block:=fun k hk e=>hpn (by rw [hxr]; exact mem_blocks (List.mem_cons_self ..) (e ▸ hk))
 have H:=slotOf_fresh p no b x.v (x.F.flatMap cS') (x.F.map (·.no)) w hb hc hz hp hvp (by rw [hlen]; exact hrow) (by rw [hlen]; exact Nat.le_trans hrn hK) (slots_no x.F) (fun h=>by
  obtain ⟨u,hu,he⟩:=List.mem_map.1 h
  exact hf u hu he)
 simp only [hlen] at H
 refine H.mono ?_
 rintro e w' ⟨g,c,w2,d,rfl,rfl,hown,hg,hat⟩
 have hgF:g ∉ blocks (rowsF x.F):=by
  rcases hat with h | h
  ·have hap:=hL.apart
   rw [hxr,blocks_cons (show (rwM x).v.ownBlock = some g from h)] at hap
   exact (List.nodup_cons.1 hap).1
  ·intro hm
   have:=(hL.old (k:=g) (by rw [hxr]; unfold blocks at hm ⊢; rw [List.filterMap_cons]; split <;> first | exact hm | exact List.mem_cons_of_mem _ hm)).2
   omega
 have hsub:∀ q ∈ blocks (rowsF x.F),q ∈ blocks x.rows:=fun q hm=>by
  rw [hxr]; unfold blocks at hm ⊢; rw [List.filterMap_cons]; split <;> first | exact hm | exact List.mem_cons_of_mem _ hm
 have hrows:(LM.mk (.slice (some ⟨g,0,none⟩) (x.F.length + 1) c) (x.F ++ [newS no])).rows = rwM (LM.mk (.slice (some ⟨g,0,none⟩) (x.F.length + 1) c) (x.F ++ [newS no])) :: rowsF (x.F ++ [newS no]):=LM.rows_eq _
 have hblk:blocks (LM.mk (.slice (some ⟨g,0,none⟩) (x.F.length + 1) c) (x.F ++ [newS no])).rows = g :: blocks (rowsF x.F):=by
  rw [hrows,blocks_cons (show (rwM (LM.mk (.slice (some ⟨g,0,none⟩) (x.F.length + 1) c) (x.F ++ [newS no]))).v.ownBlock = some g from rfl),blocks_snoc]
 have hgp:g ≠ p.block:=by
  rcases hat with h | h
  ·exact hvp g h
  ·omega
 have hw2:∀ k,k < w.heap.size → x.v.ownBlock ≠ some k → w2.heap[k]? = w.heap[k]?:=fun k hk hn=>grown_block hg hk hn
 have hvb:∀ k,x.v.ownBlock = some k → k ∈ blocks x.rows:=fun k hk=>by rw [hxr]; exact mem_blocks (List.mem_cons_self ..) hk
 have hfin:∀ k,p.block ≠ k → ((w2.setCell p (.slice (some ⟨g,0,none⟩) (x.F.length + 1) c)).drewN d).heap[k]? = w2.heap[k]?:=fun k hk=>by
  show (w2.setCell p (.slice (some ⟨g,0,none⟩) (x.F.length + 1) c)).heap[k]? = _
  rw [setCell_at]
  cases w2.heap[k]? with
  | none=>rfl
  | some z=>simp only [Option.map_some]; rw [if_neg hk]
 refine ⟨g,c,by rw [Addr.add_lit,Nat.zero_add],⟨hg.os,hg.tape,hg.output,?_,fun k hk hn=>?_⟩,⟨fun r hr=>?_,?_⟩,?_,?_⟩
 ·show w.heap.size ≤ (w2.setCell p _).heap.size
  rw [set_size]; exact hg.size
 ·exact setCell_same (hw2 k hk (fun e=>hn (hvb k e))) p _
 ·rw [hrows] at hr
  rcases List.mem_cons.1 hr with rfl | hr
  ·refine ⟨T9.own_kept (show w2.ownsRow b 67 3 (.slice (some ⟨g,0,none⟩) (x.F.length + 1) c) (x.F ++ [newS no]).length ((x.F ++ [newS no]).flatMap cS') from by
     rw [List.length_append,List.flatMap_append]; exact hown) fun k hk _=>?_,?_⟩
   ·obtain rfl:g = k:=by simpa [rwM,LM.v,Value.ownBlock] using hk
    exact hfin g (fun e=>hgp e.symm)
   ·show (x.F ++ [newS no]).length ≤ K + 1
    have:x.F.length ≤ K:=hrn
    rw [List.length_append]
    simp; omega
  ·rw [rowsF_snoc] at hr
   rcases List.mem_append.1 hr with hr | hr
   ·have hrx:r ∈ x.rows:=by rw [hxr]; exact List.mem_cons_of_mem _ hr
    obtain ⟨h1,h2⟩:=hL.own r hrx
    refine ⟨T9.own_kept h1 fun k hk hlt=>(hfin k (fun e=>hpn (e ▸ mem_blocks hrx hk))).trans (hw2 k hlt fun e=>?_),by omega⟩
    have hap:=hL.apart
    rw [hxr,blocks_cons (show (rwM x).v.ownBlock = some k from e)] at hap
    exact (List.nodup_cons.1 hap).1 (mem_blocks hr hk)
   ·obtain rfl:r = ⟨81,3,.slice none 0 0,0,[]⟩:=by simpa using hr
    exact ⟨World.ownsRow_nil _ _ _ _,Nat.zero_le _⟩
 ·rw [hblk]
  refine List.nodup_cons.2 ⟨hgF,?_⟩
  have hap:=hL.apart
  rw [hxr] at hap
  unfold blocks at hap ⊢
  rw [List.filterMap_cons] at hap
  split at hap
  ·exact hap
  ·exact (List.nodup_cons.1 hap).2
 ·rw [hblk]
  intro h
  rcases List.mem_cons.1 h with h | h
  ·exact hgp h.symm
  ·exact hpn (hsub _ h)
 ·rw [hblk]
  intro q hq hlt
  rcases List.mem_cons.1 hq with rfl | hq
  ·rcases hat with h | h
   ·exact hvb _ h
   ·omega
  ·exact hsub q hq
structure AtSlo (g o:Nat) (t:SLo LM) (w:World):Prop where
 c0:w.cell? ⟨g,o,none⟩ = some (.int .i64 t.no)
 c1:w.cell? ⟨g,o + 1,none⟩ = some t.gK
 c2:w.cell? ⟨g,o + 2,none⟩ = some t.gV
 froz:∀ k,w.frozen? ⟨g,k,none⟩ = false
structure UpdS (g o:Nat) (t:SLo LM) (ids:List Nat) (w w':World):Prop where
 os:w'.os = w.os
 tape:w'.tape = w.tape
 output:w'.output = w.output
 size:w.heap.size ≤ w'.heap.size
 block:∀ k,k < w.heap.size → k ∉ ids → w'.heap[k]? = ((w.setCell ⟨g,o + 1,none⟩ t.gK).setCell ⟨g,o + 2,none⟩ t.gV).heap[k]?
theorem set_far {w:World} {g o k:Nat} {v:Value} (h:g ≠ k):(w.setCell ⟨g,o,none⟩ v).heap[k]? = w.heap[k]?:=by
 rw [setCell_at]
 cases w.heap[k]? with
 | none=>rfl
 | some z=>simp only [Option.map_some]; rw [if_neg h]
theorem UpdS.far {g o:Nat} {t:SLo LM} {ids:List Nat} {w w':World} (h:UpdS g o t ids w w') {k:Nat} (hk:k < w.heap.size) (hn:k ∉ ids) (hg:g ≠ k):w'.heap[k]? = w.heap[k]?:=by
 rw [h.block k hk hn,set_far hg,set_far hg]
theorem blocks_cons_le {r:Rw} {l:List Rw} {q:Nat} (h:q ∈ blocks l):q ∈ blocks (r :: l):=by
 unfold blocks at h ⊢
 rw [List.filterMap_cons]
 split
 ·exact h
 ·exact List.mem_cons_of_mem _ h
theorem Lies.perm {b K:Nat} {w:World} {l l':List Rw} (h:Lies b K w l) (hp:l.Perm l'):Lies b K w l' :=
 ⟨fun r hr=>h.own r (hp.mem_iff.2 hr),(hp.filterMap _).nodup_iff.1 h.apart⟩
theorem blocks_perm {l l':List Rw} (hp:l.Perm l') {q:Nat}:q ∈ blocks l ↔ q ∈ blocks l':=(hp.filterMap _).mem_iff
theorem Lies.swap {b K K':Nat} {w w':World} {l1 T T' l2:List Rw} (h:Lies b K w (l1 ++ (T ++ l2))) (h':Lies b K' w' T') (hK:K ≤ K') (hkeep:∀ k,k ∈ blocks l1 ∨ k ∈ blocks l2 → w'.heap[k]? = w.heap[k]?) (hold:∀ q ∈ blocks T',q < w.heap.size → q ∈ blocks T):Lies b K' w' (l1 ++ (T' ++ l2)):=by
 have h1:=h.left
 have h2:=h.right.right
 have k1:Lies b K' w' l1:=(h1.kept fun k hk=>hkeep k (.inl hk)).more hK
 have k2:Lies b K' w' l2:=(h2.kept fun k hk=>hkeep k (.inr hk)).more hK
 refine k1.app (h'.app k2 fun i hi hm=>?_) fun i hi hm=>?_
 ·exact h.right.far (hold i hi (h2.old hm).2) hm
 ·rw [blocks_append] at hm
  rcases List.mem_append.1 hm with hm | hm
  ·exact h.far hi (by rw [blocks_append]; exact List.mem_append_left _ (hold i hm (h1.old hi).2))
  ·exact h.far hi (by rw [blocks_append]; exact List.mem_append_right _ hm)
theorem mem_three {l1 T l2:List Rw} {q:Nat}:q ∈ blocks (l1 ++ (T ++ l2)) ↔ q ∈ blocks l1 ∨ q ∈ blocks T ∨ q ∈ blocks l2:=by
 rw [blocks_append,blocks_append,List.mem_append,List.mem_append]
theorem Lies.cons {b K:Nat} {w:World} {r:Rw} {l:List Rw} (h:Lies b K w l) (ho:w.ownsRow b r.e r.size r.v r.n r.xs) (hn:r.n ≤ K) (hb:∀ k,r.v.ownBlock = some k → k ∉ blocks l):Lies b K w (r :: l):=by
 refine ⟨fun q hq=>?_,?_⟩
 ·rcases List.mem_cons.1 hq with rfl | hq
  ·exact ⟨ho,hn⟩
  ·exact h.own q hq
 ·cases hk:r.v.ownBlock with
  | none=>unfold blocks; rw [List.filterMap_cons,hk]; exact h.apart
  | some k=>rw [blocks_cons hk]; exact List.nodup_cons.2 ⟨hb k hk,h.apart⟩
theorem Lies.head {b K:Nat} {w:World} {r:Rw} {l:List Rw} (h:Lies b K w (r :: l)):(∀ k,r.v.ownBlock = some k → k ∉ blocks l) ∧ Lies b K w l:=by
 have hap:=h.apart
 refine ⟨fun k hk=>?_,⟨fun q hq=>h.own q (List.mem_cons_of_mem _ hq),?_⟩⟩
 ·rw [blocks_cons hk] at hap
  exact (List.nodup_cons.1 hap).1
 ·cases hk:r.v.ownBlock with
  | none=>unfold blocks at hap ⊢; rw [List.filterMap_cons,hk] at hap; exact hap
  | some k=>rw [blocks_cons hk] at hap; exact (List.nodup_cons.1 hap).2
theorem Lies.push {b K K':Nat} {w w8:World} {l1 l2:List Rw} {r:Rw} {n' g8 c8:Nat} {xs':List Value} (h:Lies b K w (l1 ++ r :: l2)) (hg:w.grownBy w8 r.v.ownBlock) (ho:w8.ownsRow b r.e r.size (.slice (some ⟨g8,0,none⟩) n' c8) n' xs') (hat:r.v.ownBlock = some g8 ∨ w.heap.size ≤ g8) (hn:n' ≤ K') (hK:K ≤ K'):Lies b K' w8 (l1 ++ ⟨r.e,r.size,.slice (some ⟨g8,0,none⟩) n' c8,n',xs'⟩ :: l2):=by
 have h1:l1 ++ r :: l2 = l1 ++ ([r] ++ l2):=rfl
 rw [h1] at h
 refine Lies.swap (T':=[⟨r.e,r.size,.slice (some ⟨g8,0,none⟩) n' c8,n',xs'⟩]) h ⟨fun q hq=>?_,by simp [blocks,Value.ownBlock]⟩ hK (fun k hk=>?_) (fun q hq hlt=>?_)
 ·obtain rfl:=List.mem_singleton.1 hq
  exact ⟨ho,hn⟩
 ·have hkw:k < w.heap.size:=by
   rcases hk with hk | hk
   ·exact (h.left.old hk).2
   ·exact (h.right.right.old hk).2
  refine hg.block k hkw (fun e=>?_)
  have hr:k ∈ blocks [r]:=by unfold blocks; rw [List.filterMap_cons,← e]; exact List.mem_cons_self ..
  rcases hk with hk | hk
  ·exact h.far hk (by rw [blocks_append]; exact List.mem_append_left _ hr)
  ·exact h.right.far hr hk
 ·obtain rfl:g8 = q:=by
   have:q ∈ [g8]:=hq
   exact (List.mem_singleton.1 this).symm
  rcases hat with e | e
  ·unfold blocks; rw [List.filterMap_cons,e]; exact List.mem_cons_self ..
  ·omega
theorem rowsF_append (l m:List (SLo LM)):rowsF (l ++ m) = rowsF l ++ rowsF m:=by
 unfold rowsF
 rw [List.map_append,List.flatten_append]
theorem rowsF_cons (t:SLo LM) (m:List (SLo LM)):rowsF (t :: m) = rowsS t ++ rowsF m:=rfl
theorem rows_of (v:Value) (l:List (SLo LM)):(LM.mk v l).rows = rwM (.mk v l) :: rowsF l:=LM.rows_eq _
theorem LM.eta (x:LM):x = .mk x.v x.F:=by cases x; rfl
theorem cells_put {b:Nat} {w w':World} {g c i:Nat} {l1 l2:List (SLo LM)} {t t':SLo LM} {ids:List Nat} (hl:l1.length = i) (hno:t'.no = t.no) (ho:w.ownsRow b 67 3 (.slice (some ⟨g,0,none⟩) (l1 ++ t :: l2).length c) (l1 ++ t :: l2).length ((l1 ++ t :: l2).flatMap cS')) (hU:UpdS g (i * 3) t' ids w w') (hg:g ∉ ids) :
  w'.ownsRow b 67 3 (.slice (some ⟨g,0,none⟩) (l1 ++ t' :: l2).length c) (l1 ++ t' :: l2).length ((l1 ++ t' :: l2).flatMap cS'):=by
 obtain ⟨h1,h2⟩:=ho.stored (i * 3 + 1) t'.gK
 obtain ⟨h3,h4⟩:=h1.stored (i * 3 + 2) t'.gV
 have hxs:(((l1 ++ t :: l2).flatMap cS').set (i * 3 + 1) t'.gK).set (i * 3 + 2) t'.gV = (l1 ++ t' :: l2).flatMap cS':=by
  have hl3:(l1.flatMap cS').length = i * 3:=by
   rw [← hl]
   clear h1 h2 h3 h4 hU ho hl
   induction l1 with
   | nil=>rfl
   | cons a l ih=>rw [List.flatMap_cons,List.length_append,ih,List.length_cons]; show 3 + _ = _; omega
  rw [List.flatMap_append,List.flatMap_append,List.flatMap_cons,List.flatMap_cons]
  rw [List.set_append_right _ _ (by omega),List.set_append_right _ _ (by omega),hl3,show i * 3 + 1 - i * 3 = 1 by omega,show i * 3 + 2 - i * 3 = 2 by omega]
  congr 1
  show _ = [Value.int .i64 t'.no,t'.gK,t'.gV] ++ _
  rw [hno]
  rfl
 have hlen:(l1 ++ t' :: l2).length = (l1 ++ t :: l2).length:=by simp
 rw [hxs] at h3
 rw [hlen]
 refine T9.own_kept h3 fun k hk hlt=>?_
 obtain rfl:g = k:=by simpa [Value.ownBlock] using hk
 exact hU.block g (own_blk ho g rfl).2 hg
theorem slot_lift {b K K':Nat} {w w':World} {x:LM} {p:Addr} {g c i:Nat} {t t':SLo LM} {l1 l2:List (SLo LM)} (hL:Lies b K w x.rows) (hv:x.v = .slice (some ⟨g,0,none⟩) x.F.length c) (hF:x.F = l1 ++ t :: l2) (hi:l1.length = i) (hno:t'.no = t.no) (hU:UpdS g (i * 3) t' (blocks (rowsS t)) w w') (hL':Lies b K' w' (rowsS t')) (hg:g ∉ blocks (rowsS t')) (hq:∀ q ∈ blocks (rowsS t'),q < w.heap.size → q ∈ blocks (rowsS t)) (hK:K ≤ K') (hp:p.block < w.heap.size) (hpn:p.block ∉ blocks x.rows) (hc:w.cell? p = some x.v) (hs:p.spot = none) :
  Upd p x.v (blocks x.rows) w w' ∧ Lies b K' w' (LM.mk x.v (l1 ++ t' :: l2)).rows ∧ p.block ∉ blocks (LM.mk x.v (l1 ++ t' :: l2)).rows ∧ (∀ q ∈ blocks (LM.mk x.v (l1 ++ t' :: l2)).rows,q < w.heap.size → q ∈ blocks x.rows):=by
 have hx:x.rows = rwM x :: (rowsF l1 ++ (rowsS t ++ rowsF l2)):=by
  rw [LM.rows_eq,show (x.F.map rowsS).flatten = rowsF x.F from rfl,hF,rowsF_append,rowsF_cons]
 have hob:(rwM x).v.ownBlock = some g:=by show x.v.ownBlock = _; rw [hv]; rfl
 have hx':(LM.mk x.v (l1 ++ t' :: l2)).rows = rwM (.mk x.v (l1 ++ t' :: l2)) :: (rowsF l1 ++ (rowsS t' ++ rowsF l2)):=by rw [rows_of,rowsF_append,rowsF_cons]
 obtain ⟨hrow,hrn⟩:=hL.own (rwM x) (by rw [hx]; exact List.mem_cons_self ..)
 rw [hx] at hL
 obtain ⟨hgl,hLl⟩:=hL.head
 have hgl:=hgl g hob
 have hgT:g ∉ blocks (rowsS t):=fun h=>hgl (mem_three.2 (.inr (.inl h)))
 have hfar:∀ k,k ∈ blocks (rowsF l1) ∨ k ∈ blocks (rowsF l2) → k < w.heap.size ∧ k ∉ blocks (rowsS t) ∧ g ≠ k:=fun k hk=>by
  rcases hk with hk | hk
  ·exact ⟨(hLl.left.old hk).2,fun h=>hLl.far hk (by rw [blocks_append]; exact List.mem_append_left _ h),fun e=>hgl (mem_three.2 (.inl (e ▸ hk)))⟩
  ·exact ⟨(hLl.right.right.old hk).2,fun h=>hLl.right.far h hk,fun e=>hgl (mem_three.2 (.inr (.inr (e ▸ hk))))⟩
 have hgw:g < w.heap.size:=(own_blk hrow g hob).2
 have hin:Lies b K' w' (rowsF l1 ++ (rowsS t' ++ rowsF l2)):=Lies.swap hLl hL' hK (fun k hk=>hU.far (hfar k hk).1 (hfar k hk).2.1 (hfar k hk).2.2) hq
 have hgin:g ∉ blocks (rowsF l1 ++ (rowsS t' ++ rowsF l2)):=fun h=>by
  rcases mem_three.1 h with h | h | h
  ·exact hgl (mem_three.2 (.inl h))
  ·exact hg h
  ·exact hgl (mem_three.2 (.inr (.inr h)))
 have hob':(rwM (.mk x.v (l1 ++ t' :: l2))).v.ownBlock = some g:=hob
 have hrow2:w'.ownsRow b 67 3 (.slice (some ⟨g,0,none⟩) (l1 ++ t' :: l2).length c) (l1 ++ t' :: l2).length ((l1 ++ t' :: l2).flatMap cS'):=by
  refine cells_put (t:=t) hi hno ?_ hU hgT
  have h:=hrow
  show w.ownsRow b 67 3 (.slice (some ⟨g,0,none⟩) (l1 ++ t :: l2).length c) (l1 ++ t :: l2).length ((l1 ++ t :: l2).flatMap cS')
  rw [← hF,← hv]
  exact h
 have hlen:(l1 ++ t' :: l2).length = x.F.length:=by rw [hF]; simp
 have hsub:∀ q ∈ blocks (LM.mk x.v (l1 ++ t' :: l2)).rows,q < w.heap.size → q ∈ blocks x.rows:=fun q hqm hlt=>by
  rw [hx',blocks_cons hob'] at hqm
  rw [hx,blocks_cons hob]
  rcases List.mem_cons.1 hqm with rfl | h
  ·exact List.mem_cons_self ..
  ·refine List.mem_cons_of_mem _ (mem_three.2 ?_)
   rcases mem_three.1 h with h | h | h
   ·exact .inl h
   ·exact .inr (.inl (hq q h hlt))
   ·exact .inr (.inr h)
 refine ⟨⟨hU.os,hU.tape,hU.output,hU.size,fun k hk hn=>?_⟩,?_,fun h=>hpn (hsub _ h hp),hsub⟩
 ·rw [hx,blocks_cons hob] at hn
  have h1:g ≠ k:=fun e=>hn (e ▸ List.mem_cons_self ..)
  have h2:k ∉ blocks (rowsS t):=fun h=>hn (List.mem_cons_of_mem _ (mem_three.2 (.inr (.inl h))))
  rw [hU.far hk h2 h1]
  exact (Upd.refl [] hc hs).block k hk (by simp)
 ·rw [hx']
  refine hin.cons ?_ ?_ (fun k hk=>?_)
  ·show w'.ownsRow b 67 3 x.v (l1 ++ t' :: l2).length ((l1 ++ t' :: l2).flatMap cS')
   rw [hv,← hlen]
   exact hrow2
  ·show (l1 ++ t' :: l2).length ≤ K'
   rw [hlen]
   exact Nat.le_trans hrn hK
  ·obtain rfl:g = k:=Option.some.inj (hob'.symm.trans hk)
   exact hgin
theorem two_over {w w1:World} {g a b k:Nat} {u1 v1 u2 v2:Value} (h:w1.heap[k]? = ((w.setCell ⟨g,a,none⟩ u1).setCell ⟨g,b,none⟩ v1).heap[k]?) (hab:a ≠ b):((w1.setCell ⟨g,a,none⟩ u2).setCell ⟨g,b,none⟩ v2).heap[k]? = ((w.setCell ⟨g,a,none⟩ u2).setCell ⟨g,b,none⟩ v2).heap[k]?:=by
 rw [setCell_at,setCell_at,h,setCell_at,setCell_at,setCell_at,setCell_at]
 cases w.heap[k]? with
 | none=>rfl
 | some o =>
  by_cases hk:g = k
  ·simp only [Option.map_some,if_pos hk]
   cases o <;> try rfl
   rename_i c e fr
   simp only [Option.isSome_none,Bool.false_eq_true,if_false]
   congr 2
   apply Array.ext_getElem?
   intro i
   simp only [Array.getElem?_setIfInBounds,Array.size_setIfInBounds]
   by_cases h1:b = i
   ·subst h1
    by_cases h2:b < c.size <;> simp [h2,hab]
   ·by_cases h2:a = i
    ·subst h2
     by_cases h3:a < c.size <;> simp [h3,h1]
    ·simp [h1,h2]
  ·simp only [Option.map_some,if_neg hk]
theorem UpdS.trans {g o:Nat} {t1 t2:SLo LM} {ids ids1:List Nat} {w w1 w2:World} (h:UpdS g o t1 ids w w1) (k:UpdS g o t2 ids1 w1 w2) (hi:∀ i ∈ ids1,i < w.heap.size → i ∈ ids):UpdS g o t2 ids w w2 :=
 ⟨k.os.trans h.os,k.tape.trans h.tape,k.output.trans h.output,Nat.le_trans h.size k.size,fun i hw hn=>(k.block i (Nat.lt_of_lt_of_le hw h.size) (fun hm=>hn (hi i hm hw))).trans (two_over (h.block i hw hn) (by omega))⟩
theorem UpdS.then_below {g o:Nat} {t1:SLo LM} {ids:List Nat} {w w1 w2:World} (h:UpdS g o t1 ids w w1) (k:Below w1.heap.size w1 w2):UpdS g o t1 ids w w2 :=
 ⟨k.os.trans h.os,k.tape.trans h.tape,k.output.trans h.output,Nat.le_trans h.size k.size,fun i hw hn=>(k.block i (Nat.lt_of_lt_of_le hw h.size)).trans (h.block i hw hn)⟩
theorem AtSlo.idle {g o:Nat} {t:SLo LM} {w:World} (h:AtSlo g o t w) {k:Nat} (hk:k < w.heap.size):((w.setCell ⟨g,o + 1,none⟩ t.gK).setCell ⟨g,o + 2,none⟩ t.gV).heap[k]? = w.heap[k]?:=by
 have c2:(w.setCell ⟨g,o + 1,none⟩ t.gK).cell? ⟨g,o + 2,none⟩ = some t.gV:=(cell_apart _ _ _ _ _ (by omega)).trans h.c2
 rw [set_idle c2 k (by rw [set_size]; exact hk)]
 exact set_idle h.c1 k hk
theorem AtSlo.of_block {g o:Nat} {t:SLo LM} {w w':World} (h:AtSlo g o t w) (hb:w'.heap[g]? = w.heap[g]?):AtSlo g o t w' :=
 ⟨(World.cell?_of_block hb).trans h.c0,(World.cell?_of_block hb).trans h.c1,(World.cell?_of_block hb).trans h.c2,fun k=>(froz_of (a:=⟨g,k,none⟩) hb).trans (h.froz k)⟩
theorem AtSlo.on {g o:Nat} {t:SLo LM} {w w':World} (h:AtSlo g o t w) (hb:Below w.heap.size w w') (hg:g < w.heap.size):AtSlo g o t w':=h.of_block (hb.block g hg)
theorem UpdS.idle {g o:Nat} {t:SLo LM} {w w':World} (ids:List Nat) (h:AtSlo g o t w) (hb:Below w.heap.size w w'):UpdS g o t ids w w' :=
 ⟨hb.os,hb.tape,hb.output,hb.size,fun k hk _=>(hb.block k hk).trans (h.idle hk).symm⟩
theorem UpdS.at {g o:Nat} {t t':SLo LM} {ids:List Nat} {w w':World} (h:UpdS g o t' ids w w') (ha:AtSlo g o t w) (hno:t'.no = t.no) (hg:g < w.heap.size) (hn:g ∉ ids):AtSlo g o t' w':=by
 have hb:=h.block g hg hn
 have c1:(w.setCell ⟨g,o + 1,none⟩ t'.gK).cell? ⟨g,o + 1,none⟩ = some t'.gK:=World.cell?_setCell_same _ _ _ ha.c1
 have c2:(w.setCell ⟨g,o + 1,none⟩ t'.gK).cell? ⟨g,o + 2,none⟩ = some t.gV:=(cell_apart _ _ _ _ _ (by omega)).trans ha.c2
 have c0:(w.setCell ⟨g,o + 1,none⟩ t'.gK).cell? ⟨g,o,none⟩ = some (.int .i64 t.no):=(cell_apart _ _ _ _ _ (by omega)).trans ha.c0
 refine ⟨(World.cell?_of_block hb).trans (((cell_apart _ _ _ _ _ (by omega)).trans c0).trans (by rw [hno])),(World.cell?_of_block hb).trans ((cell_apart _ _ _ _ _ (by omega)).trans c1),(World.cell?_of_block hb).trans (World.cell?_setCell_same _ _ _ c2),fun k=>(froz_of (a:=⟨g,k,none⟩) hb).trans ?_⟩
 rw [froz_put,froz_put]
 exact ha.froz k
theorem rowsS_eq (t:SLo LM):rowsS t = rwS t.gK t.K :: rwS t.gV t.V :: ((t.K.map rowsV).flatten ++ (t.V.map rowsV).flatten):=rfl
theorem slot_push {b K K' g o g8 c8:Nat} {W wa w8:World} {t:SLo LM} {x:VL LM} (hgW:g < W.heap.size) (hA:AtSlo g o t W) (hL:Lies b K W (rowsS t)) (hgn:g ∉ blocks (rowsS t)) (hwa:Below W.heap.size W wa) (hx:Lies b K' wa (rowsV x)) (hxn:∀ q ∈ blocks (rowsV x),W.heap.size ≤ q)
  (hg8:wa.grownBy w8 t.gV.ownBlock) (ho:w8.ownsRow b 81 3 (.slice (some ⟨g8,0,none⟩) (t.V.length + 1) c8) (t.V.length + 1) (t.V.flatMap cV' ++ cV' x)) (hat:t.gV.ownBlock = some g8 ∨ wa.heap.size ≤ g8) (hK:K ≤ K') (hn:t.V.length + 1 ≤ K') :
  UpdS g o ⟨t.no,t.gK,t.K,.slice (some ⟨g8,0,none⟩) (t.V.length + 1) c8,t.V ++ [x]⟩ (blocks (rowsS t)) W (w8.setCell ⟨g,o + 2,none⟩ (.slice (some ⟨g8,0,none⟩) (t.V.length + 1) c8)) ∧
  Lies b K' (w8.setCell ⟨g,o + 2,none⟩ (.slice (some ⟨g8,0,none⟩) (t.V.length + 1) c8)) (rowsS ⟨t.no,t.gK,t.K,.slice (some ⟨g8,0,none⟩) (t.V.length + 1) c8,t.V ++ [x]⟩) ∧
  g ∉ blocks (rowsS ⟨t.no,t.gK,t.K,.slice (some ⟨g8,0,none⟩) (t.V.length + 1) c8,t.V ++ [x]⟩) ∧
  (∀ q ∈ blocks (rowsS ⟨t.no,t.gK,t.K,.slice (some ⟨g8,0,none⟩) (t.V.length + 1) c8,t.V ++ [x]⟩),q < W.heap.size → q ∈ blocks (rowsS t)):=by
 have hLa:=(hL.on hwa).more hK
 have hbx:∀ i ∈ blocks (rowsS t),i ∉ blocks (rowsV x):=fun i hi hm=>by have h1:=(hL.old hi).2; have h2:=hxn i hm; omega
 have hall:=hLa.app hx hbx
 have hsplit:rowsS t ++ rowsV x = [rwS t.gK t.K] ++ rwS t.gV t.V :: (((t.K.map rowsV).flatten ++ (t.V.map rowsV).flatten) ++ rowsV x):=rfl
 rw [hsplit] at hall
 have hown:(rwS t.gV t.V).v = t.gV:=rfl
 have hp:=Lies.push (n':=t.V.length + 1) (xs':=(t.V ++ [x]).flatMap cV') hall hg8 (show w8.ownsRow b (rwS t.gV t.V).e (rwS t.gV t.V).size _ _ _ by rw [List.flatMap_append]; simpa [rwS] using ho) hat hn (Nat.le_refl _)
 have hrows:rowsS (⟨t.no,t.gK,t.K,.slice (some ⟨g8,0,none⟩) (t.V.length + 1) c8,t.V ++ [x]⟩:SLo LM) = [rwS t.gK t.K] ++ ⟨(rwS t.gV t.V).e,(rwS t.gV t.V).size,.slice (some ⟨g8,0,none⟩) (t.V.length + 1) c8,t.V.length + 1,(t.V ++ [x]).flatMap cV'⟩ :: (((t.K.map rowsV).flatten ++ (t.V.map rowsV).flatten) ++ rowsV x):=by
  show _ :: _ :: _ = _
  rw [List.map_append,List.flatten_append,← List.append_assoc]
  simp [rwS]
 rw [← hrows] at hp
 have hold:∀ q ∈ blocks (rowsS (⟨t.no,t.gK,t.K,.slice (some ⟨g8,0,none⟩) (t.V.length + 1) c8,t.V ++ [x]⟩:SLo LM)),q < W.heap.size → q ∈ blocks (rowsS t):=fun q hq hlt=>by
  rw [hrows] at hq
  have hq2:q ∈ blocks [rwS t.gK t.K] ∨ q = g8 ∨ q ∈ blocks (((t.K.map rowsV).flatten ++ (t.V.map rowsV).flatten) ++ rowsV x):=by
   rw [blocks_append] at hq
   rcases List.mem_append.1 hq with h | h
   ·exact .inl h
   ·rw [blocks_cons (k:=g8) rfl] at h
    exact .inr (List.mem_cons.1 h)
  have hS:rowsS t = [rwS t.gK t.K] ++ ([rwS t.gV t.V] ++ ((t.K.map rowsV).flatten ++ (t.V.map rowsV).flatten)):=rfl
  rw [hS]
  rcases hq2 with h | rfl | h
  ·exact mem_three.2 (.inl h)
  ·rcases hat with e | e
   ·refine mem_three.2 (.inr (.inl ?_))
    unfold blocks; rw [List.filterMap_cons,hown,e]; exact List.mem_cons_self ..
   ·have:=hwa.size; omega
  ·rw [blocks_append] at h
   rcases List.mem_append.1 h with h | h
   ·exact mem_three.2 (.inr (.inr h))
   ·have:=hxn q h; omega
 have hgo:g ∉ blocks (rowsS (⟨t.no,t.gK,t.K,.slice (some ⟨g8,0,none⟩) (t.V.length + 1) c8,t.V ++ [x]⟩:SLo LM)):=fun h=>hgn (hold g h hgW)
 have hkeep:∀ k,k < W.heap.size → k ∉ blocks (rowsS t) → w8.heap[k]? = W.heap[k]?:=fun k hk hn=>by
  refine (hg8.block k (Nat.lt_of_lt_of_le hk hwa.size) (fun e=>hn ?_)).trans (hwa.block k hk)
  have hS:rowsS t = [rwS t.gK t.K] ++ ([rwS t.gV t.V] ++ ((t.K.map rowsV).flatten ++ (t.V.map rowsV).flatten)):=rfl
  rw [hS]
  refine mem_three.2 (.inr (.inl ?_))
  unfold blocks; rw [List.filterMap_cons,hown,← e]; exact List.mem_cons_self ..
 refine ⟨⟨hg8.os.trans hwa.os,hg8.tape.trans hwa.tape,hg8.output.trans hwa.output,by rw [set_size]; exact Nat.le_trans hwa.size hg8.size,fun k hk hn=>?_⟩,?_,hgo,hold⟩
 ·refine setCell_same ((hkeep k hk hn).trans ?_) _ _
  exact (set_idle hA.c1 k hk).symm
 ·exact hp.kept fun k hk=>set_far (fun e=>hgo (e ▸ hk))
theorem val_lift {b K K' g o gv cv:Nat} {w w':World} {t:SLo LM} {v v':VL LM} {rest:List (VL LM)} (hgw:g < w.heap.size) (hA:AtSlo g o t w) (hL:Lies b K w (rowsS t)) (hgn:g ∉ blocks (rowsS t)) (hV:t.gV = .slice (some ⟨gv,0,none⟩) t.V.length cv) (hVl:t.V = v :: rest)
  (hU:UpdV gv 0 v' (blocks (rowsV v)) w w') (hL':Lies b K' w' (rowsV v')) (hg':gv ∉ blocks (rowsV v')) (hq:∀ q ∈ blocks (rowsV v'),q < w.heap.size → q ∈ blocks (rowsV v)) (hK:K ≤ K') :
  UpdS g o ⟨t.no,t.gK,t.K,t.gV,v' :: rest⟩ (blocks (rowsS t)) w w' ∧ Lies b K' w' (rowsS ⟨t.no,t.gK,t.K,t.gV,v' :: rest⟩) ∧ g ∉ blocks (rowsS ⟨t.no,t.gK,t.K,t.gV,v' :: rest⟩) ∧ (∀ q ∈ blocks (rowsS ⟨t.no,t.gK,t.K,t.gV,v' :: rest⟩),q < w.heap.size → q ∈ blocks (rowsS t)):=by
 have hob:(rwS t.gV t.V).v.ownBlock = some gv:=by show t.gV.ownBlock = _; rw [hV]; rfl
 have hob':(rwS t.gV (v' :: rest)).v.ownBlock = some gv:=hob
 have hperm:∀ u:VL LM,(rwS t.gK t.K :: rwS t.gV (u :: rest) :: ((t.K.map rowsV).flatten ++ (rowsV u ++ (rest.map rowsV).flatten))).Perm (rwS t.gV (u :: rest) :: ((rwS t.gK t.K :: (t.K.map rowsV).flatten) ++ (rowsV u ++ (rest.map rowsV).flatten))):=fun u=>by
  refine (List.Perm.swap _ _ _).trans ?_
  exact List.Perm.refl _
 have hS:rowsS t = rwS t.gK t.K :: rwS t.gV (v :: rest) :: ((t.K.map rowsV).flatten ++ (rowsV v ++ (rest.map rowsV).flatten)):=by rw [rowsS_eq,hVl]; rfl
 have hS':rowsS (⟨t.no,t.gK,t.K,t.gV,v' :: rest⟩:SLo LM) = rwS t.gK t.K :: rwS t.gV (v' :: rest) :: ((t.K.map rowsV).flatten ++ (rowsV v' ++ (rest.map rowsV).flatten)):=rfl
 rw [hVl] at hob
 obtain ⟨hrow,hrn⟩:=hL.own (rwS t.gV (v :: rest)) (by rw [hS]; exact List.mem_cons_of_mem _ (List.mem_cons_self ..))
 have hLp:=hL
 rw [hS] at hLp
 have hLp:=hLp.perm (hperm v)
 obtain ⟨hgl,hLl⟩:=hLp.head
 have hgl:=hgl gv hob
 have hgT:gv ∉ blocks (rowsV v):=fun h=>hgl (mem_three.2 (.inr (.inl h)))
 have hgvw:gv < w.heap.size:=(own_blk hrow gv hob).2
 have hfar1:∀ k,k < w.heap.size → k ∉ blocks (rowsV v) → gv ≠ k → w'.heap[k]? = w.heap[k]?:=fun k hk hn hne=>by
  rw [hU.block k hk hn,set_far hne,set_far hne,set_far hne]
 have hin:Lies b K' w' ((rwS t.gK t.K :: (t.K.map rowsV).flatten) ++ (rowsV v' ++ (rest.map rowsV).flatten)):=Lies.swap hLl hL' hK (fun k hk=>by
  rcases hk with hk | hk
  ·exact hfar1 k (hLl.left.old hk).2 (fun h=>hLl.far hk (by rw [blocks_append]; exact List.mem_append_left _ h)) (fun e=>hgl (mem_three.2 (.inl (e ▸ hk))))
  ·exact hfar1 k (hLl.right.right.old hk).2 (fun h=>hLl.right.far h hk) (fun e=>hgl (mem_three.2 (.inr (.inr (e ▸ hk)))))) hq
 have hgin:gv ∉ blocks ((rwS t.gK t.K :: (t.K.map rowsV).flatten) ++ (rowsV v' ++ (rest.map rowsV).flatten)):=fun h=>by
  rcases mem_three.1 h with h | h | h
  ·exact hgl (mem_three.2 (.inl h))
  ·exact hg' h
  ·exact hgl (mem_three.2 (.inr (.inr h)))
 have hold:∀ q ∈ blocks (rowsS (⟨t.no,t.gK,t.K,t.gV,v' :: rest⟩:SLo LM)),q < w.heap.size → q ∈ blocks (rowsS t):=fun q hqm hlt=>by
  rw [hS',blocks_perm (hperm v'),blocks_cons hob'] at hqm
  rw [hS,blocks_perm (hperm v),blocks_cons hob]
  rcases List.mem_cons.1 hqm with rfl | h
  ·exact List.mem_cons_self ..
  ·refine List.mem_cons_of_mem _ (mem_three.2 ?_)
   rcases mem_three.1 h with h | h | h
   ·exact .inl h
   ·exact .inr (.inl (hq q h hlt))
   ·exact .inr (.inr h)
 have hblk:∀ q,q ∈ blocks (rowsS t) ↔ q = gv ∨ q ∈ blocks ((rwS t.gK t.K :: (t.K.map rowsV).flatten) ++ (rowsV v ++ (rest.map rowsV).flatten)):=fun q=>by
  rw [hS,blocks_perm (hperm v),blocks_cons hob,List.mem_cons]
 refine ⟨⟨hU.os,hU.tape,hU.output,hU.size,fun k hk hn=>?_⟩,?_,fun h=>hgn (hold g h hgw),hold⟩
 ·have h1:gv ≠ k:=fun e=>hn ((hblk k).2 (.inl e.symm))
  have h2:k ∉ blocks (rowsV v):=fun h=>hn ((hblk k).2 (.inr (mem_three.2 (.inr (.inl h)))))
  rw [hfar1 k hk h2 h1]
  exact (hA.idle hk).symm
 ·rw [hS']
  refine Lies.perm ?_ (hperm v').symm
  refine hin.cons ?_ ?_ (fun k hk=>?_)
  ·have h0:w.ownsRow b 81 3 (.slice (some ⟨gv,0,none⟩) t.V.length cv) t.V.length (t.V.flatMap cV'):=by rw [← hV]; rw [hVl]; exact hrow
   obtain ⟨s1,-⟩:=h0.stored 0 (.int .i64 v'.n)
   obtain ⟨s2,-⟩:=s1.stored 1 (.string (tx v'.s))
   obtain ⟨s3,-⟩:=s2.stored 2 v'.g
   show w'.ownsRow b 81 3 t.gV (v' :: rest).length ((v' :: rest).flatMap cV')
   have hlen:(v' :: rest).length = t.V.length:=by rw [hVl]; rfl
   have hxs:(((t.V.flatMap cV').set 0 (.int .i64 v'.n)).set 1 (.string (tx v'.s))).set 2 v'.g = (v' :: rest).flatMap cV':=by rw [hVl]; rfl
   rw [hxs] at s3
   rw [hlen,hV]
   refine T9.own_kept s3 fun k hk _=>?_
   obtain rfl:gv = k:=by simpa [Value.ownBlock] using hk
   exact hU.block gv hgvw hgT
  ·show (v' :: rest).length ≤ K'
   have:(v :: rest).length ≤ K:=hrn
   exact Nat.le_trans this hK
  ·obtain rfl:gv = k:=Option.some.inj (hob'.symm.trans hk)
   exact hgin
end Go.Proofs.YtckcojkpghiclaaGreatDoor.T11
namespace Go.Proofs.YtckcojkpghiclaaGreatDoor.T11
set_option maxRecDepth 100000
open Go.Proofs.YtckcojkpghiclaaGreatDoor.T9 Go.Proofs.YtckcojkpghiclaaGreatDoor.T4
inductive StrL (L:Nat):Mg → Prop
 | mk {m:Mg} (h2:∀ s ∈ m.F,∀ v,v ∈ s.K ∨ v ∈ s.V → inI v.n ∧ v.s.length ≤ L) (h3:∀ s ∈ m.F,∀ v,v ∈ s.K ∨ v ∈ s.V → ∀ x ∈ v.M,StrL L x):StrL L m
def StV (L:Nat) (v:Vl'):Prop:=(inI v.n ∧ v.s.length ≤ L) ∧ ∀ x ∈ v.M,StrL L x
def StS (L:Nat) (t:So):Prop:=∀ v,v ∈ t.K ∨ v ∈ t.V → StV L v
theorem StrL.slot {L:Nat} {m:Mg} (h:StrL L m) {t:So} (ht:t ∈ m.F):StS L t:=by
 cases h with
 | mk h2 h3=>exact fun v hv=>⟨h2 t ht v hv,h3 t ht v hv⟩
theorem StrL.of {L:Nat} {m:Mg} (h:∀ t ∈ m.F,StS L t):StrL L m:=.mk (fun t ht v hv=>(h t ht v hv).1) (fun t ht v hv=>(h t ht v hv).2)
theorem StrL.none (L:Nat):StrL L (.mk []):=.of fun t ht=>by cases ht
theorem wnext_num {d:List UInt8} {r:Rc} {p:Nat} (h:wnext d = (r,p,0)):r.num < 18446744073709551616:=by
 obtain ⟨m,k,n,q,h1,h2,h3,h4,h5,h6⟩:=wnext_parts h
 rw [h4]
 exact wnum_lt h3
theorem foldR_inv {α:Type} {g:List UInt8 → Rc → α → Except Nat α} (L:Nat) (I:Nat → α → Prop) (hs:∀ d r p x y k,d.length ≤ L → wnext d = (r,p,0) → I k x → g d r x = .ok y → I (k + p) y):∀ (n:Nat) (d:List UInt8) (x y:α) (k:Nat),d.length ≤ n → d.length ≤ L → I k x → foldR g n d x = .ok y → I (k + d.length) y
 | 0,d,x,y,k,hn,_,hi,h=>by
  obtain rfl:d = []:=List.eq_nil_of_length_eq_zero (by omega)
  obtain rfl:x = y:=Except.ok.inj h
  exact hi
 | n + 1,d,x,y,k,hn,hL,hi,h=>by
  rw [foldR_step] at h
  split at h
  ·rename_i hd
   subst hd
   obtain rfl:x = y:=Except.ok.inj h
   exact hi
  ·split at h
   ·rename_i he
    have hw:wnext d = ((wnext d).1,(wnext d).2.1,0):=by rw [← he]
    have hle:=wnext_le hw
    cases hg:g d (wnext d).1 x with
    | error e=>rw [hg] at h; cases h
    | ok z =>
     rw [hg] at h
     have:=foldR_inv L I hs n (d.drop (wnext d).2.1) z y (k + (wnext d).2.1) (by rw [List.length_drop]; omega) (by rw [List.length_drop]; omega) (hs d _ _ x z k hL hw hi hg) h
     rw [List.length_drop] at this
     rwa [show k + (wnext d).2.1 + (d.length - (wnext d).2.1) = k + d.length by omega] at this
   ·cases h
theorem decR_inv {α:Type} {g:List UInt8 → Rc → α → Except Nat α} (L:Nat) (I:Nat → α → Prop) (hs:∀ d r p x y k,d.length ≤ L → wnext d = (r,p,0) → I k x → g d r x = .ok y → I (k + p) y) {d:List UInt8} {x y:α} {k:Nat} (hL:d.length ≤ L) (hi:I k x) (h:decR g d x = .ok y):I (k + d.length) y:=foldR_inv L I hs d.length d x y k (Nat.le_refl _) hL hi h
theorem mapE_ok {α β:Type} {f:α → β} {a:Except Nat α} {y:β} (h:mapE f a = .ok y):∃ x,a = .ok x ∧ f x = y:=by
 cases a with
 | ok x=>exact ⟨x,rfl,Except.ok.inj h⟩
 | error e=>cases h
theorem winR_le (d:List UInt8) (r:Rc):(winR d r).length ≤ r.upto - r.frm:=by unfold winR; rw [List.length_take]; omega
theorem winR_len (d:List UInt8) (r:Rc):(winR d r).length ≤ d.length:=by unfold winR; rw [List.length_take,List.length_drop]; omega
theorem fine_all' (l:List UInt8):utfB l = (first l == l.length):=by
 unfold utfB fineB
 have h:(decide ((0:Int) ≤ 0 ∧ (0:Int) ≤ (l.length:Int) ∧ (l.length:Int) ≤ (l.length:Int))) = true:=by simp
 rw [h]
 simp
theorem ofI_in {k r:Int} (h0:0 ≤ r) (h1:r < 18446744073709551616):inI (ofI k r):=ofI_bound k h0 h1
theorem nums_in {wire:Nat} {k:Int}:∀ (n:Nat) (d:List UInt8),∀ x ∈ (numsW wire k n d).1,inI x
 | 0,_,x,h=>by cases h
 | n + 1,d,x,h=>by
  unfold numsW at h
  split at h
  ·cases h
  ·split at h
   ·rename_i he
    split at h
    ·rcases List.mem_cons.1 h with rfl | h
     ·exact ofI_in (by omega) (by have:=wnum_lt (triple _ he); omega)
     ·exact nums_in n _ x h
    ·cases h
   ·cases h
theorem numsK_in {k:Int} {d:List UInt8} {x:Int} (h:x ∈ (numsK k d).1):inI x:=by
 unfold numsK at h
 split at h
 ·exact nums_in _ _ x h
 ·cases h
theorem nums_fits {wire:Nat} {k:Int} (hk:cnt k = true):∀ (n:Nat) (d:List UInt8),∀ x ∈ (numsW wire k n d).1,fitsB k x = true
 | 0,_,x,h=>by cases h
 | n + 1,d,x,h=>by
  unfold numsW at h
  split at h
  ·cases h
  ·split at h
   ·rename_i he
    split at h
    ·rcases List.mem_cons.1 h with rfl | h
     ·exact fits_of (by omega) (by have:=wnum_lt (triple _ he); omega) hk
     ·exact nums_fits hk n _ x h
    ·cases h
   ·cases h
theorem numsK_fits {k:Int} {d:List UInt8} (hk:cnt k = true) {x:Int} (h:x ∈ (numsK k d).1):fitsB k x = true:=by
 unfold numsK at h
 rw [if_pos hk] at h
 exact nums_fits hk _ _ x h
theorem by_may {s:Sc} (h:ScMay s) {m no:Int} {f:Df} (hf:byS s m no = some f):DfMay s f ∧ f.no = no:=by
 unfold byS msgAt at hf
 split at hf
 ·simp at hf
 ·cases hm:s.M[m.toNat]? with
  | none=>rw [hm] at hf; simp at hf
  | some d =>
   rw [hm] at hf
   simp only [Option.bind_some] at hf
   exact ⟨(h.M d (List.mem_of_getElem? hm)).each f (List.mem_of_find?_eq_some hf),by simpa using List.find?_some hf⟩
theorem may_ref {s:Sc} {f:Df} (h:DfMay s f) (h9:f.kind = 9):0 ≤ f.ref ∧ f.ref < s.M.length:=by
 have h1:=h.ref
 rw [if_pos h9] at h1
 exact ⟨h.r0,by omega⟩
theorem may_key {s:Sc} {f:Df} (h:DfMay s f) (hk:f.key ≠ -1):0 ≤ f.key ∧ f.key ≤ 9 ∧ f.key ≠ 9 ∧ f.rep = false ∧ f.one = 0:=by
 obtain ⟨h1,h2⟩:=h.key.resolve_left hk
 have h3:f.one = 0:=h.alone.resolve_right (fun h=>hk h.2)
 refine ⟨?_,?_,?_,h2,h3⟩ <;> · unfold keyedB at h1; simp at h1; omega
theorem is_none {s:Sc} {n:Nat} (hn:1 ≤ n) {m:Int} (h0:0 ≤ m) (h1:m < s.M.length):isB s n m (.mk []) = true:=by
 obtain ⟨k,rfl⟩:∃ k,n = k + 1:=⟨n - 1,by omega⟩
 show (decide (0 ≤ m ∧ m < s.M.length) && slotsG (byS s m) (fillG (isB s k)) [] []) = true
 simp [h0,h1,slotsG]
theorem ask_blank {s:Sc} {n:Nat} {kind ref:Int} (k0:0 ≤ kind) (k9:kind ≤ 9) (hr:kind = 9 → 0 ≤ ref ∧ ref < s.M.length) (hn:kind = 9 → 1 ≤ n):askG (isB s n) kind ref (blankV kind) = true:=by
 unfold askG blankV
 by_cases h9:kind = 9
 ·subst h9
  simp [oneB,is_none (hn rfl) (hr rfl).1 (hr rfl).2]
 ·by_cases h7:kind = 7
  ·subst h7
   have:utfB [] = true:=by rw [fine_all']; decide +kernel
   simp [this]
  ·by_cases h8:kind = 8
   ·subst h8; simp
   ·rw [if_neg h7,if_neg h8,if_neg h9,if_neg h9]
    have hc:cnt kind = true:=by simp [cnt]; omega
    have:=fits_of (k:=kind) (r:=0) (by omega) (by omega) hc
    have h0:ofI kind 0 = 0:=by
     have hk:kind = 0 ∨ kind = 1 ∨ kind = 2 ∨ kind = 3 ∨ kind = 4 ∨ kind = 5 ∨ kind = 6:=by omega
     rcases hk with rfl | rfl | rfl | rfl | rfl | rfl | rfl <;> decide +kernel
    rw [h0] at this
    simp [this]
theorem st_blank (L:Nat) (kind:Int):StV L (blankV kind):=by
 refine ⟨⟨⟨show (-9223372036854775808:Int) ≤ 0 by decide,show (0:Int) ≤ 9223372036854775807 by decide⟩,Nat.zero_le _⟩,fun x hx=>?_⟩
 unfold blankV at hx
 simp only at hx
 split at hx
 ·obtain rfl:=List.mem_singleton.1 hx
  exact StrL.none L
 ·cases hx
theorem cV_blank (kind:Int):cV (blankV kind) ≤ 2:=by
 unfold cV blankV
 simp only
 split
 ·simp [sm,Mg.cnt_eq,Mg.F]
 ·simp [sm]
def IsH (s:Sc) (L n:Nat):Prop:=∀ (m:Int) (d:List UInt8) (x y:Mg),0 ≤ m → m < s.M.length → d.length ≤ L → isB s n m x = true → StrL L x → decM s n m d x = .ok y → isB s n m y = true ∧ StrL L y ∧ y.cnt ≤ x.cnt + 4 * d.length
theorem takeV_is {s:Sc} {L n:Nat} (H:IsH s L n) {kind ref:Int} {d:List UInt8} {r:Rc} {v v':Vl'} (k0:0 ≤ kind) (k9:kind ≤ 9) (hr:kind = 9 → 0 ≤ ref ∧ ref < s.M.length) (hd:d.length ≤ L) (hnum:r.num < 18446744073709551616) (hv:(kind = 9 → 1 ≤ n) → askG (isB s n) kind ref v = true) (hst:StV L v) (h:takeV (decM s n) kind ref d r v = .ok v') :
  askG (isB s n) kind ref v' = true ∧ StV L v' ∧ cV v' ≤ cV v + 4 * (winR d r).length:=by
 have hwl:=Nat.le_trans (winR_len d r) hd
 unfold takeV at h
 split at h
 ·cases h
 ·split at h
  ·rename_i h9
   subst h9
   obtain ⟨y,hy,rfl⟩:=mapE_ok h
   have hn:1 ≤ n:=by
    cases n with
    | zero=>cases hy
    | succ n=>omega
   obtain ⟨hn0,hs0,x,hx,hG⟩:=ask_nine (hv fun _=>hn)
   rw [hx] at hy
   obtain ⟨h1,h2,h3⟩:=H ref (winR d r) x y (hr rfl).1 (hr rfl).2 hwl hG (hst.2 x (by rw [hx]; simp)) hy
   refine ⟨?_,⟨hst.1,fun z hz=>?_⟩,?_⟩
   ·unfold askG
    rw [if_neg (by decide),if_neg (by decide),if_pos rfl,hx]
    simp [hn0,hs0,oneB,h1]
   ·rw [hx] at hz
    obtain rfl:z = y:=by simpa using hz
    exact h2
   ·unfold cV
    rw [hx]
    simp [sm]
    omega
  ·rename_i h9
   have hv:=hv fun h=>absurd h h9
   have hM:=ask_of hv h9
   split at h
   ·rename_i h7
    subst h7
    split at h
    ·rename_i hf
     obtain rfl:=Except.ok.inj h
     refine ⟨?_,⟨⟨hst.1.1,hwl⟩,hst.2⟩,Nat.le_add_right _ _⟩
     unfold askG at hv ⊢
     rw [if_pos rfl] at hv ⊢
     rw [fine_all',hf]
     simp at hv ⊢
     exact ⟨hv.1,hv.2.2⟩
    ·cases h
   ·rename_i h7
    split at h
    ·rename_i h8
     subst h8
     obtain rfl:=Except.ok.inj h
     refine ⟨?_,⟨⟨hst.1.1,hwl⟩,hst.2⟩,Nat.le_add_right _ _⟩
     unfold askG at hv ⊢
     rw [if_neg (by decide),if_pos rfl] at hv ⊢
     exact hv
    ·rename_i h8
     obtain rfl:=Except.ok.inj h
     refine ⟨?_,⟨⟨ofI_in (by omega) (by omega),hst.1.2⟩,hst.2⟩,Nat.le_add_right _ _⟩
     unfold askG at hv ⊢
     rw [if_neg h7,if_neg h8,if_neg h9] at hv ⊢
     have hc:cnt kind = true:=by simp [cnt]; omega
     rw [fits_of (by omega) (by omega) hc]
     simp at hv ⊢
     exact hv.2
end Go.Proofs.YtckcojkpghiclaaGreatDoor.T11
