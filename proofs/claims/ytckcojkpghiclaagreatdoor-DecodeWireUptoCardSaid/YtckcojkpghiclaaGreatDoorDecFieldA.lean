/-
 entry,of any slot of one's own,whatever the record is.
-/
import Derived.Test.YtckcojkpghiclaaGreatDoorDecEntry
namespace Go.Proofs.YtckcojkpghiclaaGreatDoor.T11
set_option maxRecDepth 100000
open Go.RowKit
open Go.Proofs.YtckcojkpghiclaaGreatDoor.T9 Go.Proofs.YtckcojkpghiclaaGreatDoor.T4
theorem SPost.more {wo:World} {s:Sc} {n:Nat} {f:Df} {K K' g o:Nat} {t:SLo LM} {D:Except Nat So} {w w':World} {e:Ending} (h:SPost wo s n f K g o t D w e w') (hK:K ≤ K'):SPost wo s n f K' g o t D w e w':=by
 rcases h with h | ⟨t',h1,h2,h3,h4,h5,h6,h7,h8⟩
 ·exact .inl h
 ·exact .inr ⟨t',h1,h2,h3,h4,h5.more hK,h6,h7,h8⟩
theorem MPost.more {wo:World} {s:Sc} {n:Nat} {m:Int} {K K':Nat} {p:Addr} {x:LM} {D:Except Nat (List So)} {w w':World} {e:Ending} (h:MPost wo s n m K p x D w e w') (hK:K ≤ K'):MPost wo s n m K' p x D w e w':=by
 rcases h with h | ⟨x',h1,h2,h3,h4,h5,h6,h7⟩
 ·exact .inl h
 ·exact .inr ⟨x',h1,h2,h3,h4.more hK,h5,h6,h7⟩
set_option maxRecDepth 1000000 in
set_option maxHeartbeats 4000000 in
theorem entry_wire (vM vE vB:Value) (p:Addr) (f:Df) (r:Rc) (deep:Int) (hw:r.wire ≠ 2) (w:World) :
  Calls Tryz.prog 148 #[.agg #[vM,vE,vB],.pointer (some p),.agg #[.int .i64 f.no,.string (txt f.name),.int .i64 f.kind,.int .i64 f.ref,.bool f.rep,.int .i64 f.key,.int .i64 f.one],RV r,.int .i64 deep] w fun e w'=>e = .panicked [{ v:=errP (8:Nat),recovered:=false }] ∧ Below w.heap.size w w':=by
 have hRV:RV r = .agg #[.int .i64 r.no,.int .i64 r.wire,.int .u64 r.num,.int .i64 r.frm,.int .i64 r.upto]:=rfl
 rw [hRV]
 obtain ⟨T1,T2,T3,L3⟩:=three_boxes w (.cells #[vM,vE,vB] 113) (dC f) (.cells #[.int .i64 r.no,.int .i64 r.wire,.int .u64 r.num,.int .i64 r.frm,.int .i64 r.upto] 41)
 obtain ⟨r0,r1,r2,r3,r4⟩:=heap_cells T3
 have bw:(((r.wire:Nat):Int) == 2) = false:=beq_eq_false_iff_ne.2 (by omega)
 have HL:=Lib.hid L3
 clear T1 T2 T3 L3
 go_enter Tryz.func148,Tryz.ntmps148
 go_wp2_with fail
 refine (must_no 8 _).mono ?_
 rintro e w1 ⟨rfl,rfl⟩
 go_wp2_with fail
 exact ⟨rfl,rfl,HL.out⟩
set_option maxRecDepth 1000000 in
set_option maxHeartbeats 4000000 in
theorem entry_deep (vM vE vB:Value) (p:Addr) (f:Df) (r:Rc) (deep:Int) (hw:r.wire = 2) (h9:f.kind = 9) (hd:64 ≤ deep) (w:World) :
  Calls Tryz.prog 148 #[.agg #[vM,vE,vB],.pointer (some p),.agg #[.int .i64 f.no,.string (txt f.name),.int .i64 f.kind,.int .i64 f.ref,.bool f.rep,.int .i64 f.key,.int .i64 f.one],RV r,.int .i64 deep] w fun e w'=>e = .panicked [{ v:=errP (11:Nat),recovered:=false }] ∧ Below w.heap.size w w':=by
 have hRV:RV r = .agg #[.int .i64 r.no,.int .i64 r.wire,.int .u64 r.num,.int .i64 r.frm,.int .i64 r.upto]:=rfl
 rw [hRV]
 obtain ⟨T1,T2,T3,L3⟩:=three_boxes w (.cells #[vM,vE,vB] 113) (dC f) (.cells #[.int .i64 r.no,.int .i64 r.wire,.int .u64 r.num,.int .i64 r.frm,.int .i64 r.upto] 41)
 obtain ⟨W3,hW3⟩:∃ W,W = (((w.alloc (.cells #[vM,vE,vB] 113)).alloc (dC f)).alloc (.cells #[.int .i64 r.no,.int .i64 r.wire,.int .u64 r.num,.int .i64 r.frm,.int .i64 r.upto] 41)):=⟨_,rfl⟩
 obtain ⟨g0,g1,g2,g3,g4,g5,g6⟩:=dc_cells T2
 obtain ⟨r0,r1,r2,r3,r4⟩:=heap_cells T3
 rw [← hW3] at T1 T2 T3 L3
 have bw:(((r.wire:Nat):Int) == 2) = true:=by rw [hw]; rfl
 have b9:(f.kind == 9) = true:=by rw [h9]; rfl
 have HL:=Lib.hid (And.intro T2 L3)
 clear T1 T2 T3 L3 hw h9
 go_enter Tryz.func148,Tryz.ntmps148
 go_wp2_with fail
 rw [← hW3]
 clear hW3 g0 g1 g2 g3 g4 g5 g6 r0 r1 r2 r3 r4
 refine (must_yes _ _).mono ?_
 rintro e w1 ⟨rfl,hw1⟩
 subst w1
 obtain ⟨g0,g1,g2,g3,g4,g5,g6⟩:=dc_cells HL.out.1
 go_wp2_with fail
 refine (deeper_no deep hd _).mono ?_
 rintro e w1 ⟨rfl,hw1⟩
 subst w1
 go_wp2_with fail
 exact ⟨rfl,rfl,HL.out.2⟩
theorem entry_any {wo:World} {s:Sc} {vM vE:Value} {A:Option Addr} {c:Nat} {l:List UInt8} {K n:Nat} (HT:TakeH wo s vM vE A c l K n) (hr0:SlB wo A c l) (hl:l.length ≤ 1000000000) (TW:Wires wo) (f:Df) (r:Rc) (g o:Nat) (t:SLo LM) (k:Nat) (deep:Int) (w:World) (hy0:0 ≤ f.key) (hy9:f.key ≤ 9) (hyn:f.key ≠ 9) (hk0:0 ≤ f.kind) (hk9:f.kind ≤ 9) (hbo:Below wo.heap.size wo w) (hgo:wo.heap.size ≤ g) (hgw:g < w.heap.size) (ho9:o ≤ 3000000000) (hA:AtSlo g o t w) (hL:Lies wo.heap.size k w (rowsS t)) (hgn:g ∉ blocks (rowsS t)) (hful:f.kind = 9 → ∀ v ∈ t.V,∃ y,v.M = [y] ∧ Full s n f.ref y) (hf1:r.frm ≤ r.upto) (hf2:r.upto ≤ l.length) {K2:Nat} (hK:r.wire = 2 → k + 1 + (r.upto - r.frm) ≤ K2) (hK2:K2 ≤ K) (hKK:K ≤ 1000000000) (hdeep:deep + n = 64) (hd0:0 ≤ deep) :
  Calls Tryz.prog 148 #[.agg #[vM,vE,.slice A l.length c],.pointer (some ⟨g,o,none⟩),.agg #[.int .i64 f.no,.string (txt f.name),.int .i64 f.kind,.int .i64 f.ref,.bool f.rep,.int .i64 f.key,.int .i64 f.one],RV r,.int .i64 deep] w fun e w'=>SPost wo s n f K2 g o t (entryS n (decM s n) f l r (bareS t)) w e w':=by
 by_cases hw2:r.wire = 2
 ·by_cases h9:f.kind = 9
  ·by_cases hn:1 ≤ n
   ·exact (entryL HT hr0 hl TW f r g o t k deep w (.inr ⟨h9,hn⟩) hw2 hy0 hy9 hyn hk0 hk9 hbo hgo hgw ho9 hA hL hgn hful hf1 hf2 (Nat.le_trans (hK hw2) hK2) hKK hdeep hd0).mono fun e w' h=>h.more (hK hw2)
   ·refine (entry_deep vM vE _ _ f r deep hw2 h9 (by omega) w).mono ?_
    rintro e w' ⟨rfl,hb⟩
    refine .inl ⟨11,?_,rfl,hb.mono hbo.size⟩
    unfold entryS
    rw [if_neg (by rw [hw2]; decide),if_pos ⟨h9,by omega⟩]
  ·exact (entryL HT hr0 hl TW f r g o t k deep w (.inl h9) hw2 hy0 hy9 hyn hk0 hk9 hbo hgo hgw ho9 hA hL hgn hful hf1 hf2 (Nat.le_trans (hK hw2) hK2) hKK hdeep hd0).mono fun e w' h=>h.more (hK hw2)
 ·refine (entry_wire vM vE _ _ f r deep hw2 w).mono ?_
  rintro e w' ⟨rfl,hb⟩
  refine .inl ⟨8,?_,rfl,hb.mono hbo.size⟩
  unfold entryS
  rw [if_pos hw2]
set_option maxRecDepth 1000000 in
set_option maxHeartbeats 8000000 in
theorem field_rep1 {wo:World} {s:Sc} {vM vE:Value} {A:Option Addr} {c:Nat} {l:List UInt8} {Kb n:Nat} (HT:TakeH wo s vM vE A c l Kb n) (hr0:SlB wo A c l) (hl:l.length ≤ 1000000000) (TW:Wires wo) (hs:SAt wo.heap.size wo s vM vE) (m:Int) (f:Df) (r:Rc) (x:LM) (p:Addr) (k q:Nat) (deep:Int) (w:World) (hkey:f.key = -1) (hrep:f.rep = true) (hw2:r.wire ≠ 2) (hfm:DfMay s f) (hbo:Below wo.heap.size wo w) (hpo:wo.heap.size ≤ p.block) (hp:p.block < w.heap.size) (hsp:p.spot = none) (hc:w.cell? p = some x.v) (hz:w.frozen? p = false) (hL:Lies wo.heap.size k w x.rows) (hpn:p.block ∉ blocks x.rows) (hful:Full s (n + 1) m x) (hf:byS s m f.no = some f) (hf1:r.frm ≤ r.upto) (hf2:r.upto ≤ l.length) (hnum:r.num < 18446744073709551616) (hq:2 ≤ q) (hq1:1 + (r.upto - r.frm) ≤ q) (hq2:r.wire = 2 → 2 + (r.upto - r.frm) ≤ q) (hKb:k + q ≤ Kb) (hKK:Kb ≤ 1000000000) (hdeep:deep + n = 64) (hd0:0 ≤ deep) :
  Calls Tryz.prog 105 #[.agg #[vM,vE,.slice A l.length c],.pointer (some p),.int .i64 m,.agg #[.int .i64 f.no,.string (txt f.name),.int .i64 f.kind,.int .i64 f.ref,.bool f.rep,.int .i64 f.key,.int .i64 f.one],RV r,.int .i64 deep] w fun e w'=>MPost wo s (n + 1) m (k + q) p x (onSlot f.no (repS (decM s n) f l r) (x.F.map bareS)) w e w':=by
 have hRV:RV r = .agg #[.int .i64 r.no,.int .i64 r.wire,.int .u64 r.num,.int .i64 r.frm,.int .i64 r.upto]:=rfl
 rw [hRV]
 obtain ⟨T1,T2,T3,L3⟩:=three_boxes w (.cells #[vM,vE,.slice A l.length c] 113) (dC f) (.cells #[.int .i64 r.no,.int .i64 r.wire,.int .u64 r.num,.int .i64 r.frm,.int .i64 r.upto] 41)
 obtain ⟨g0,g1,g2,g3,g4,g5,g6⟩:=dc_cells T2
 obtain ⟨s0,s1,s2⟩:=bx3 T1
 obtain ⟨r0,r1,r2,r3,r4⟩:=heap_cells T3
 obtain ⟨W3,hW3⟩:∃ W,W = (((w.alloc (.cells #[vM,vE,.slice A l.length c] 113)).alloc (dC f)).alloc (.cells #[.int .i64 r.no,.int .i64 r.wire,.int .u64 r.num,.int .i64 r.frm,.int .i64 r.upto] 41)):=⟨_,rfl⟩
 have hs3:W3.heap.size = w.heap.size + 3:=by rw [hW3]; simp
 rw [← hW3] at T1 T2 T3 L3
 have hPW:=Lib.hid (show (W3.cell? ⟨w.heap.size,0,none⟩ = some vM ∧ W3.cell? ⟨w.heap.size,1,none⟩ = some vE ∧ W3.cell? ⟨w.heap.size,2,none⟩ = some (.slice A l.length c)) ∧ (W3.cell? ⟨w.heap.size + 1,0,none⟩ = some (.int .i64 f.no) ∧ W3.cell? ⟨w.heap.size + 1,1,none⟩ = some (.string (txt f.name)) ∧ W3.cell? ⟨w.heap.size + 1,2,none⟩ = some (.int .i64 f.kind) ∧ W3.cell? ⟨w.heap.size + 1,3,none⟩ = some (.int .i64 f.ref) ∧ W3.cell? ⟨w.heap.size + 1,4,none⟩ = some (.bool f.rep) ∧ W3.cell? ⟨w.heap.size + 1,5,none⟩ = some (.int .i64 f.key) ∧ W3.cell? ⟨w.heap.size + 1,6,none⟩ = some (.int .i64 f.one)) ∧ (W3.cell? ⟨w.heap.size + 2,0,none⟩ = some (.int .i64 r.no) ∧ W3.cell? ⟨w.heap.size + 2,1,none⟩ = some (.int .i64 r.wire) ∧ W3.cell? ⟨w.heap.size + 2,2,none⟩ = some (.int .u64 r.num) ∧ W3.cell? ⟨w.heap.size + 2,3,none⟩ = some (.int .i64 r.frm) ∧ W3.cell? ⟨w.heap.size + 2,4,none⟩ = some (.int .i64 r.upto)) from ⟨bx3 T1,dc_cells T2,heap_cells T3⟩)
 have hwo:=hbo.size
 have hbo3:=below_then hbo L3
 have hp3:p.block < W3.heap.size:=Nat.lt_of_lt_of_le hp L3.size
 have hids:∀ j ∈ blocks x.rows,wo.heap.size ≤ j:=fun j hj=>(hL.old hj).1
 have hxw:∀ j ∈ blocks x.rows,j < w.heap.size:=fun j hj=>(hL.old hj).2
 have HUWF:Hid (∀ wx,Below W3.heap.size W3 wx → Upd p x.v (blocks x.rows) w wx):=Lib.hid fun wx h=>Upd.after (ids1:=[]) (below_then L3 h) (Upd.refl _ ((h.cell hp3).trans ((L3.cell hp).trans hc)) hsp) (fun _ h=>by cases h)
 have HSLF:Hid (∀ wx,Below W3.heap.size W3 wx → Calls Tryz.prog 149 #[.pointer (some p),.int .i64 f.no] wx fun e w'=>∃ g c l1 t l2,e = .returned (.pointer (some ⟨g,l1.length * 3,none⟩)) ∧ Got1 wo.heap.size (k + 1) p f.no x wx g c l1 t l2 w'):=Lib.hid fun wx h=>slotOf_got (no:=f.no) (w:=wx) (Nat.le_trans hwo (Nat.le_trans L3.size h.size)) (hL.on (below_then L3 h)) ((h.cell hp3).trans ((L3.cell hp).trans hc)) ((h.frozen hp3).trans ((L3.frozen hp).trans hz)) hsp (Nat.lt_of_lt_of_le hp3 h.size) hpn (by omega)
 have HPX:Hid (∀ wx,Below W3.heap.size W3 wx → (wx.cell? ⟨w.heap.size,0,none⟩ = some vM ∧ wx.cell? ⟨w.heap.size,1,none⟩ = some vE ∧ wx.cell? ⟨w.heap.size,2,none⟩ = some (.slice A l.length c)) ∧ (wx.cell? ⟨w.heap.size + 1,0,none⟩ = some (.int .i64 f.no) ∧ wx.cell? ⟨w.heap.size + 1,1,none⟩ = some (.string (txt f.name)) ∧ wx.cell? ⟨w.heap.size + 1,2,none⟩ = some (.int .i64 f.kind) ∧ wx.cell? ⟨w.heap.size + 1,3,none⟩ = some (.int .i64 f.ref) ∧ wx.cell? ⟨w.heap.size + 1,4,none⟩ = some (.bool f.rep) ∧ wx.cell? ⟨w.heap.size + 1,5,none⟩ = some (.int .i64 f.key) ∧ wx.cell? ⟨w.heap.size + 1,6,none⟩ = some (.int .i64 f.one)) ∧ (wx.cell? ⟨w.heap.size + 2,0,none⟩ = some (.int .i64 r.no) ∧ wx.cell? ⟨w.heap.size + 2,1,none⟩ = some (.int .i64 r.wire) ∧ wx.cell? ⟨w.heap.size + 2,2,none⟩ = some (.int .u64 r.num) ∧ wx.cell? ⟨w.heap.size + 2,3,none⟩ = some (.int .i64 r.frm) ∧ wx.cell? ⟨w.heap.size + 2,4,none⟩ = some (.int .i64 r.upto))):=Lib.hid fun wx h=>s_on hPW.out h
 obtain ⟨j0,hj,hy0,hy1,hy2⟩:=info_parts T9.info_val
 have bk:(f.key != -1) = false:=by rw [hkey]; rfl
 have bw:(((r.wire:Nat):Int) == 2) = false:=beq_eq_false_iff_ne.2 (by omega)
 rw [hrep] at g4
 have HALL:=Lib.hid (And.intro hids (And.intro hxw (And.intro hful (And.intro hbo3 (And.intro hL (And.intro hpn (And.intro hfm (And.intro hf L3))))))))
 clear T1 T2 T3 hc hz hids hxw hful hL hpn hbo3 hfm hf hPW hkey hrep hw2
 go_enter Tryz.func105,Tryz.ntmps105
 go_wp2_with fail
 rw [← hW3]
 clear hW3 g0 g1 g2 g3 g4 g5 g6 s0 s1 s2 r0 r1 r2 r3 r4
 have hV1:=Below.refl W3.heap.size W3
 have HSL:=Lib.hid (HSLF.out _ hV1)
 have HV0:Hid (Below W3.heap.size W3 W3):=Lib.hid hV1
 clear hV1
 refine HSL.out.mono ?_
 rintro e V2 ⟨g,c',l1,t,l2,rfl,HG⟩
 obtain ⟨hids,hxw,hful,hbo3,hL,hpn,hfm,hf,L3⟩:=HALL.out
 have hV0b:=HV0.out
 have hV0s:=hV0b.size
 have hfull:=HG.full hf hful
 have HEND:Hid (∀ (e:Ending) (w':World),SPost wo s n f (k + q) g (l1.length * 3) t (repS (decM s n) f l r (bareS t)) V2 e w' → MPost wo s (n + 1) m (k + q) p x (onSlot f.no (repS (decM s n) f l r) (x.F.map bareS)) w e w'):=Lib.hid fun e w' h=>MPost.back (x1:=x) (HUWF.out _ hV0b) hwo hpo hids (fun j hj _=>hj) (Got1.post HG (Nat.le_trans hwo (Nat.le_trans L3.size hV0s)) hpo hsp (Nat.lt_of_lt_of_le hp3 hV0s) hids hf hful (by omega) h)
 have hfarB:∀ j,w.heap.size ≤ j → j < w.heap.size + 3 → V2.heap[j]? = W3.heap[j]? ∧ j ∉ blocks (LM.mk (.slice (some ⟨g,0,none⟩) (l1 ++ t :: l2).length c') (l1 ++ t :: l2)).rows:=fun j h1 h2=>by
  refine ⟨?_,fun h=>by have:=hxw j (HG.old j h (by omega)); omega⟩
  rw [HG.upd.block j (by omega) (fun h=>by have:=hxw j h; omega),setCell_at,hV0b.block j (by omega)]
  cases hj:W3.heap[j]? with
  | none=>rfl
  | some z=>simp only [Option.map_some]; rw [if_neg (by omega)]
 obtain ⟨hgw,hgo,hA2,hL2,hgn2,hFl⟩:=HG.at
 have hP2:(V2.cell? ⟨w.heap.size,0,none⟩ = some vM ∧ V2.cell? ⟨w.heap.size,1,none⟩ = some vE ∧ V2.cell? ⟨w.heap.size,2,none⟩ = some (.slice A l.length c)) ∧ (V2.cell? ⟨w.heap.size + 1,0,none⟩ = some (.int .i64 f.no) ∧ V2.cell? ⟨w.heap.size + 1,1,none⟩ = some (.string (txt f.name)) ∧ V2.cell? ⟨w.heap.size + 1,2,none⟩ = some (.int .i64 f.kind) ∧ V2.cell? ⟨w.heap.size + 1,3,none⟩ = some (.int .i64 f.ref) ∧ V2.cell? ⟨w.heap.size + 1,4,none⟩ = some (.bool f.rep) ∧ V2.cell? ⟨w.heap.size + 1,5,none⟩ = some (.int .i64 f.key) ∧ V2.cell? ⟨w.heap.size + 1,6,none⟩ = some (.int .i64 f.one)) ∧ (V2.cell? ⟨w.heap.size + 2,0,none⟩ = some (.int .i64 r.no) ∧ V2.cell? ⟨w.heap.size + 2,1,none⟩ = some (.int .i64 r.wire) ∧ V2.cell? ⟨w.heap.size + 2,2,none⟩ = some (.int .u64 r.num) ∧ V2.cell? ⟨w.heap.size + 2,3,none⟩ = some (.int .i64 r.frm) ∧ V2.cell? ⟨w.heap.size + 2,4,none⟩ = some (.int .i64 r.upto)):=s_blk (HPX.out _ (Below.refl _ _)) fun j h1 h2=>(hfarB j h1 h2).1
 have hfarS:∀ j,w.heap.size ≤ j → j < w.heap.size + 3 → j ∉ blocks (rowsS t) ∧ g ≠ j:=fun j h1 h2=>⟨fun h3=>(hfarB j h1 h2).2 (by
  rw [rows_of,rowsF_append,rowsF_cons]
  exact blocks_cons_le (mem_three.2 (.inr (.inl h3)))),fun h3=>(hfarB j h1 h2).2 (by
  rw [rows_of,blocks_of]
  exact .inl (by rw [← h3]; rfl))⟩
 have hWs:w.heap.size + 3 ≤ V2.heap.size:=by have h1:=HG.upd.size; omega
 have hboV:Below wo.heap.size wo V2:=hbo.trans ((upd_below (HUWF.out _ hV0b) hwo hpo hids).trans (upd_below HG.upd (Nat.le_trans hwo (Nat.le_trans L3.size hV0s)) hpo hids))
 have hom:l1.length ≤ Kb:=by rw [List.length_append] at hFl; omega
 obtain ⟨o,ho⟩:∃ o,l1.length * 3 = o:=⟨_,rfl⟩
 rw [ho] at hA2 HEND
 have ho9:o ≤ 3000000000:=by omega
 rw [ho]
 obtain ⟨A0,c0,hgV,-⟩:=Sl.of_own (hL2.own (rwS t.gV t.V) (List.mem_cons_of_mem _ (List.mem_cons_self ..))).1
 have hgV:t.gV = .slice A0 t.V.length c0:=hgV
 have hnV:t.V.length ≤ k + 1:=(hL2.own (rwS t.gV t.V) (List.mem_cons_of_mem _ (List.mem_cons_self ..))).2
 have HRV:Hid (V2.ownsRow wo.heap.size 81 3 (.slice A0 t.V.length c0) t.V.length (t.V.flatMap cV')):=Lib.hid (by rw [← hgV]; exact (hL2.own (rwS t.gV t.V) (List.mem_cons_of_mem _ (List.mem_cons_self ..))).1)
 have hsgv:∀ j,t.gV.ownBlock = some j → j ∈ blocks (rowsS t):=fun j hj=>blocks_cons_le (blocks_of.2 (.inl hj))
 have C2:Hid (V2.cell? ⟨g,o + 2,none⟩ = some (.slice A0 t.V.length c0)):=Lib.hid (by rw [← hgV]; exact hA2.c2)
 have c20:=C2.out
 have HGV:=Lib.hid hgV
 have HAS:=Lib.hid (And.intro hA2 (And.intro hL2 (And.intro hgn2 (And.intro hgo hfull))))
 have HFV:Hid (∀ j,w.heap.size ≤ j → j < w.heap.size + 3 → j < V2.heap.size ∧ (Value.slice A0 t.V.length c0).ownBlock ≠ some j):=Lib.hid fun j h1 h2=>⟨by omega,fun e=>(hfarS j h1 h2).1 (hsgv j (by rw [hgV]; exact e))⟩
 have HFG:Hid (∀ j,w.heap.size ≤ j → j < w.heap.size + 3 → g ≠ j):=Lib.hid fun j h1 h2=>(hfarS j h1 h2).2
 have HNE:Hid ((Value.slice A0 t.V.length c0).ownBlock ≠ some g):=Lib.hid fun e=>hgn2 (hsgv g (by rw [hgV]; exact e))
 have hgV2:=hgw
 have hDV:Below V2.heap.size V2 V2.drew:=(Below.refl _ _).drew
 have hwoV:wo.heap.size ≤ V2.heap.size:=hboV.size
 have HPV:Hid (∀ wx,Below V2.heap.size V2 wx → (wx.cell? ⟨w.heap.size,0,none⟩ = some vM ∧ wx.cell? ⟨w.heap.size,1,none⟩ = some vE ∧ wx.cell? ⟨w.heap.size,2,none⟩ = some (.slice A l.length c)) ∧ (wx.cell? ⟨w.heap.size + 1,0,none⟩ = some (.int .i64 f.no) ∧ wx.cell? ⟨w.heap.size + 1,1,none⟩ = some (.string (txt f.name)) ∧ wx.cell? ⟨w.heap.size + 1,2,none⟩ = some (.int .i64 f.kind) ∧ wx.cell? ⟨w.heap.size + 1,3,none⟩ = some (.int .i64 f.ref) ∧ wx.cell? ⟨w.heap.size + 1,4,none⟩ = some (.bool f.rep) ∧ wx.cell? ⟨w.heap.size + 1,5,none⟩ = some (.int .i64 f.key) ∧ wx.cell? ⟨w.heap.size + 1,6,none⟩ = some (.int .i64 f.one)) ∧ (wx.cell? ⟨w.heap.size + 2,0,none⟩ = some (.int .i64 r.no) ∧ wx.cell? ⟨w.heap.size + 2,1,none⟩ = some (.int .i64 r.wire) ∧ wx.cell? ⟨w.heap.size + 2,2,none⟩ = some (.int .u64 r.num) ∧ wx.cell? ⟨w.heap.size + 2,3,none⟩ = some (.int .i64 r.frm) ∧ wx.cell? ⟨w.heap.size + 2,4,none⟩ = some (.int .i64 r.upto))):=Lib.hid fun wx h=>s_on hP2 h
 have HP2:=Lib.hid hP2
 have HVA:=Lib.hid (value_any HT f r deep V2.drew hfm.k0 hfm.k9 (hboV.trans (hDV.mono hwoV)) hf1 hf2 hnum (by omega) hdeep hd0)
 rw [hRV] at HVA
 obtain ⟨⟨s0',s1',s2'⟩,⟨g0',g1',g2',g3',g4',g5',g6'⟩,r0',r1',r2',r3',r4'⟩:=hP2
 clear hids hxw hful hbo3 hL hpn hfm hf L3 hfull hfarB hgw hgo hA2 hL2 hgn2 hFl hfarS hWs hboV hom ho HG HSL hV0b hV0s hgV hsgv
 go_wp2_with fail
 apply once
 ·intro HGO
  refine wp_region_held_drew (S:=(fun wx=>(wx.cell? ⟨w.heap.size,0,none⟩ = some vM ∧ wx.cell? ⟨w.heap.size,1,none⟩ = some vE ∧ wx.cell? ⟨w.heap.size,2,none⟩ = some (.slice A l.length c)) ∧ (wx.cell? ⟨w.heap.size + 1,0,none⟩ = some (.int .i64 f.no) ∧ wx.cell? ⟨w.heap.size + 1,1,none⟩ = some (.string (txt f.name)) ∧ wx.cell? ⟨w.heap.size + 1,2,none⟩ = some (.int .i64 f.kind) ∧ wx.cell? ⟨w.heap.size + 1,3,none⟩ = some (.int .i64 f.ref) ∧ wx.cell? ⟨w.heap.size + 1,4,none⟩ = some (.bool f.rep) ∧ wx.cell? ⟨w.heap.size + 1,5,none⟩ = some (.int .i64 f.key) ∧ wx.cell? ⟨w.heap.size + 1,6,none⟩ = some (.int .i64 f.one)) ∧ (wx.cell? ⟨w.heap.size + 2,0,none⟩ = some (.int .i64 r.no) ∧ wx.cell? ⟨w.heap.size + 2,1,none⟩ = some (.int .i64 r.wire) ∧ wx.cell? ⟨w.heap.size + 2,2,none⟩ = some (.int .u64 r.num) ∧ wx.cell? ⟨w.heap.size + 2,3,none⟩ = some (.int .i64 r.frm) ∧ wx.cell? ⟨w.heap.size + 2,4,none⟩ = some (.int .i64 r.upto)))) (by kernel_rfl) (HPV.out _ (hDV)) (fun hHeld=>?_)
  refine tk 0 ?_
  refine tk 1 ?_
  refine tk 2 ?_
  refine tk 3 ?_
  refine tk 5 ?_
  refine tk 6 ?_
  refine tk 7 ?_
  refine tk 8 ?_
  refine wpAnyH_ready (rs:=[4,9]) (by kernel_rfl) (by simp) ?_
  refine AllReadyH.cons rfl (fun K hK=>?_) (AllReadyH.cons rfl (fun K hK=>?_) AllReadyH.nil)
  ·go_simp
   clear hHeld
   refine hK.out _ _ (HPV.out _ (hDV)) (fun hHeld=>?_)
   clear hK K
   refine wpAnyH_ready (rs:=[9]) (by kernel_rfl) (by simp) ?_
   refine AllReadyH.cons rfl (fun K hK=>?_) AllReadyH.nil
   go_simp
   (go_at_call 151; refine HVA.out.mono ?_; rintro e w7 (⟨er,h1,rfl,h3⟩ | ⟨⟨xn,xs,xg,xM⟩,h1,rfl,hb7,hL7,hn7,hf7⟩))
   ·go_wp2_with fail
    exact ⟨rfl,HEND.out _ _ (.inl ⟨er,by unfold repS; rw [h1]; rfl,rfl,(hDV.mono hwoV).trans h3⟩)⟩
   obtain ⟨Ab,cb,hbg,-⟩:=Sl.of_own (hL7.own (rwV ⟨xn,xs,xg,xM⟩) (List.mem_cons_self ..)).1
   obtain ⟨nb,hnb⟩:∃ nb,(rwV (⟨xn,xs,xg,xM⟩:VL LM)).n = nb:=⟨_,rfl⟩
   rw [hnb] at hbg
   obtain rfl:xg = .slice Ab nb cb:=hbg
   clear hnb
   have HBV:=Lib.hid (And.intro h1 (And.intro hL7 (And.intro hn7 hf7)))
   clear h1 hL7 hn7 hf7
   have hb7d:=Lib.hid (hDV.trans (hb7.mono hDV.size))
   have c7:=cell_on hb7d.out C2.out
   have hb8:=Lib.hid (below_then hb7d.out (below_new w7 (.cells #[.int .i64 xn,.string (tx xs),.slice Ab nb cb] 81)))
   have c7b:=cell_on hb8.out C2.out
   have hs7:V2.heap.size ≤ w7.heap.size:=hb7d.out.size
   go_wp2_with fail
   clear hHeld
   refine hK.out _ _ (HPV.out _ (hb7d.out)) (fun hHeld=>?_)
   clear hK K
   refine wpAnyH_ready (rs:=[10]) (by kernel_rfl) (by simp) ?_
   refine AllReadyH.cons rfl (fun K hK=>?_) AllReadyH.nil
   go_simp
   clear hHeld
   refine hK.out _ _ (HPV.out _ (hb8.out)) (fun hHeld=>?_)
   clear hK K
   clear hHeld
   revert hs7; revert c7b; revert hb8; revert c7; revert hb7d; revert HBV; revert hb7; revert xM; revert nb; revert cb; revert Ab; revert xs; revert xn; revert w7
   exact HGO.out
  ·go_simp
   (go_at_call 151; refine HVA.out.mono ?_; rintro e w7 (⟨er,h1,rfl,h3⟩ | ⟨⟨xn,xs,xg,xM⟩,h1,rfl,hb7,hL7,hn7,hf7⟩))
   ·go_wp2_with fail
    exact ⟨rfl,HEND.out _ _ (.inl ⟨er,by unfold repS; rw [h1]; rfl,rfl,(hDV.mono hwoV).trans h3⟩)⟩
   obtain ⟨Ab,cb,hbg,-⟩:=Sl.of_own (hL7.own (rwV ⟨xn,xs,xg,xM⟩) (List.mem_cons_self ..)).1
   obtain ⟨nb,hnb⟩:∃ nb,(rwV (⟨xn,xs,xg,xM⟩:VL LM)).n = nb:=⟨_,rfl⟩
   rw [hnb] at hbg
   obtain rfl:xg = .slice Ab nb cb:=hbg
   clear hnb
   have HBV:=Lib.hid (And.intro h1 (And.intro hL7 (And.intro hn7 hf7)))
   clear h1 hL7 hn7 hf7
   have hb7d:=Lib.hid (hDV.trans (hb7.mono hDV.size))
   have c7:=cell_on hb7d.out C2.out
   have hb8:=Lib.hid (below_then hb7d.out (below_new w7 (.cells #[.int .i64 xn,.string (tx xs),.slice Ab nb cb] 81)))
   have c7b:=cell_on hb8.out C2.out
   have hs7:V2.heap.size ≤ w7.heap.size:=hb7d.out.size
   go_wp2_with fail
   clear hHeld
   refine hK.out _ _ (HPV.out _ (hb7d.out)) (fun hHeld=>?_)
   clear hK K
   refine wpAnyH_ready (rs:=[4,10]) (by kernel_rfl) (by simp) ?_
   refine AllReadyH.cons rfl (fun K hK=>?_) (AllReadyH.cons rfl (fun K hK=>?_) AllReadyH.nil)
   ·go_simp
    clear hHeld
    refine hK.out _ _ (HPV.out _ (hb7d.out)) (fun hHeld=>?_)
    clear hK K
    refine wpAnyH_ready (rs:=[10]) (by kernel_rfl) (by simp) ?_
    refine AllReadyH.cons rfl (fun K hK=>?_) AllReadyH.nil
    go_simp
    clear hHeld
    refine hK.out _ _ (HPV.out _ (hb8.out)) (fun hHeld=>?_)
    clear hK K
    clear hHeld
    exact HGO.out w7 xn xs Ab cb nb xM hb7 HBV hb7d c7 hb8 c7b hs7
   ·go_simp
    clear hHeld
    refine hK.out _ _ (HPV.out _ (hb8.out)) (fun hHeld=>?_)
    clear hK K
    refine wpAnyH_ready (rs:=[4]) (by kernel_rfl) (by simp) ?_
    refine AllReadyH.cons rfl (fun K hK=>?_) AllReadyH.nil
    go_simp
    clear hHeld
    refine hK.out _ _ (HPV.out _ (hb8.out)) (fun hHeld=>?_)
    clear hK K
    clear hHeld
    exact HGO.out w7 xn xs Ab cb nb xM hb7 HBV hb7d c7 hb8 c7b hs7
 intro w7 xn xs Ab cb nb xM hb7 HBV hb7d c7 hb8 c7b hs7
 have hHeld:=HPV.out _ (hb8.out)
 refine wpAnyH_ready (rs:=[11]) (by kernel_rfl) (by simp) ?_
 refine AllReadyH.cons rfl (fun K hK=>?_) AllReadyH.nil
 (refine step_append_lies _ rfl _ _ 65 rfl wo.heap.size 81 j0 _ 3 48 Tryz.underlying65 hj hy0 hy1 hy2 rfl (by decide) (.slice A0 t.V.length c0) t.V.length (t.V.flatMap cV') (by simp [Act.eval,Act.put]) (own_hi HRV.out (hi_below wo.heap.size hb8.out)) ⟨w7.heap.size,0,none⟩ 1 1 [.int .i64 xn,.string (tx xs),.slice Ab nb cb] (by simp [Act.eval,Act.put]) rfl (World.news_of_block (heap_alloc_new _ _)) (by simp [Value.oneCell']) (by decide) (by unfold maxLen; omega) (by omega) (by simp; omega) w7.heap.size.succ (by simp) ?_; intro g8 c8 w8 hown8 hg8 hat8 hlt8; have hgne:(Value.slice A0 t.V.length c0).ownBlock ≠ some g:=HNE.out; have e8:=grown_block hg8 (Nat.lt_of_lt_of_le hgV2 hb8.out.size) hgne; have c8b:w8.cell? ⟨g,o + 2,none⟩ = some (.slice A0 t.V.length c0):=(World.cell?_of_block (a:=⟨g,o + 2,none⟩) e8).trans c7b; have f8:w8.frozen? ⟨g,o + 2,none⟩ = false:=(froz_of (a:=⟨g,o + 2,none⟩) e8).trans ((hb8.out.frozen hgV2).trans (HAS.out.1.froz _)); have HG8:=Lib.hid (And.intro hown8 (And.intro hg8 (And.intro hat8 hlt8))); clear hown8 hg8 hat8 hlt8 e8 hgne)
 clear hHeld
 refine hK.out _ _ (s_blk HP2.out (fun j h1 h2=>(HG8.out.2.1.block j (Nat.lt_of_lt_of_le (HFV.out j h1 h2).1 hb8.out.size) (fun e=>(HFV.out j h1 h2).2 e.symm)).trans (hb8.out.block j (HFV.out j h1 h2).1))) (fun hHeld=>?_)
 clear hK K
 refine tk 12 ?_
 refine tk 13 ?_
 refine wpAnyH_ready (rs:=[14]) (by kernel_rfl) (by simp) ?_
 refine AllReadyH.cons rfl (fun K hK=>?_) AllReadyH.nil
 go_simp
 clear hHeld
 refine hK.out _ _ (s_blk HP2.out (fun j h1 h2=>(set_far (HFG.out j h1 h2)).trans ((HG8.out.2.1.block j (Nat.lt_of_lt_of_le (HFV.out j h1 h2).1 hb8.out.size) (fun e=>(HFV.out j h1 h2).2 e.symm)).trans (hb8.out.block j (HFV.out j h1 h2).1)))) (fun hHeld=>?_)
 clear hK K
 refine wpAnyH_done (by kernel_rfl) ?_ _
 obtain ⟨h1,hL7,hn7,hf7⟩:=HBV.out
 obtain ⟨hown8,hg8,hat8,hlt8⟩:=HG8.out
 obtain ⟨hA2,hL2,hgn2,hgo,hfull⟩:=HAS.out
 have hpush:=slot_push (K':=k + q) (x:=(⟨xn,xs,.slice Ab nb cb,xM⟩:VL LM)) (wa:=w7.alloc (.cells #[.int .i64 xn,.string (tx xs),.slice Ab nb cb] 81)) hgV2 hA2 hL2 hgn2 hb8.out ((hL7.on (below_new w7 (.cells #[.int .i64 xn,.string (tx xs),.slice Ab nb cb] 81))).more (by omega)) (fun j hj=>hn7 j hj) (by rw [HGV.out]; exact hg8) hown8 (by rw [HGV.out]; exact hat8.imp id (fun h=>by rw [h]; simp)) (by omega) (by omega)
 obtain ⟨k1,k2,k3,k4⟩:=hpush
 have HQ9:=Lib.hid (HEND.out (.returned (.tuple #[])) _ (.inr ⟨(⟨t.no,t.gK,t.K,.slice (some ⟨g8,0,none⟩) (t.V.length + 1) c8,t.V ++ [(⟨xn,xs,.slice Ab nb cb,xM⟩:VL LM)]⟩:SLo LM),by unfold repS; rw [h1]; unfold bareS; simp only [List.map_append,List.map_cons,List.map_nil]; rfl,rfl,rfl,k1,k2,k3,k4,fun h9 v hv=>by
  rcases List.mem_append.1 hv with hv | hv
  ·exact hfull h9 v hv
  ·obtain rfl:=List.mem_singleton.1 hv
   exact hf7 h9⟩))
 clear h1 hL7 hn7 hf7 hown8 hg8 hat8 hlt8 hA2 hL2 hgn2 hgo hfull k1 k2 k3 k4
 go_wp2
 go_end0
 exact HQ9.out
set_option maxRecDepth 1000000 in
set_option maxHeartbeats 8000000 in
theorem field_rep2 {wo:World} {s:Sc} {vM vE:Value} {A:Option Addr} {c:Nat} {l:List UInt8} {Kb n:Nat} (HT:TakeH wo s vM vE A c l Kb n) (hr0:SlB wo A c l) (hl:l.length ≤ 1000000000) (TW:Wires wo) (hs:SAt wo.heap.size wo s vM vE) (m:Int) (f:Df) (r:Rc) (x:LM) (p:Addr) (k q:Nat) (deep:Int) (w:World) (hkey:f.key = -1) (hrep:f.rep = true) (hw2:r.wire = 2) (hcn:cnt f.kind = false) (hfm:DfMay s f) (hbo:Below wo.heap.size wo w) (hpo:wo.heap.size ≤ p.block) (hp:p.block < w.heap.size) (hsp:p.spot = none) (hc:w.cell? p = some x.v) (hz:w.frozen? p = false) (hL:Lies wo.heap.size k w x.rows) (hpn:p.block ∉ blocks x.rows) (hful:Full s (n + 1) m x) (hf:byS s m f.no = some f) (hf1:r.frm ≤ r.upto) (hf2:r.upto ≤ l.length) (hnum:r.num < 18446744073709551616) (hq:2 ≤ q) (hq1:1 + (r.upto - r.frm) ≤ q) (hq2:r.wire = 2 → 2 + (r.upto - r.frm) ≤ q) (hKb:k + q ≤ Kb) (hKK:Kb ≤ 1000000000) (hdeep:deep + n = 64) (hd0:0 ≤ deep) :
  Calls Tryz.prog 105 #[.agg #[vM,vE,.slice A l.length c],.pointer (some p),.int .i64 m,.agg #[.int .i64 f.no,.string (txt f.name),.int .i64 f.kind,.int .i64 f.ref,.bool f.rep,.int .i64 f.key,.int .i64 f.one],RV r,.int .i64 deep] w fun e w'=>MPost wo s (n + 1) m (k + q) p x (onSlot f.no (repS (decM s n) f l r) (x.F.map bareS)) w e w':=by
 have hRV:RV r = .agg #[.int .i64 r.no,.int .i64 r.wire,.int .u64 r.num,.int .i64 r.frm,.int .i64 r.upto]:=rfl
 rw [hRV]
 obtain ⟨T1,T2,T3,L3⟩:=three_boxes w (.cells #[vM,vE,.slice A l.length c] 113) (dC f) (.cells #[.int .i64 r.no,.int .i64 r.wire,.int .u64 r.num,.int .i64 r.frm,.int .i64 r.upto] 41)
 obtain ⟨g0,g1,g2,g3,g4,g5,g6⟩:=dc_cells T2
 obtain ⟨s0,s1,s2⟩:=bx3 T1
 obtain ⟨r0,r1,r2,r3,r4⟩:=heap_cells T3
 obtain ⟨W3,hW3⟩:∃ W,W = (((w.alloc (.cells #[vM,vE,.slice A l.length c] 113)).alloc (dC f)).alloc (.cells #[.int .i64 r.no,.int .i64 r.wire,.int .u64 r.num,.int .i64 r.frm,.int .i64 r.upto] 41)):=⟨_,rfl⟩
 have hs3:W3.heap.size = w.heap.size + 3:=by rw [hW3]; simp
 rw [← hW3] at T1 T2 T3 L3
 have hPW:=Lib.hid (show (W3.cell? ⟨w.heap.size,0,none⟩ = some vM ∧ W3.cell? ⟨w.heap.size,1,none⟩ = some vE ∧ W3.cell? ⟨w.heap.size,2,none⟩ = some (.slice A l.length c)) ∧ (W3.cell? ⟨w.heap.size + 1,0,none⟩ = some (.int .i64 f.no) ∧ W3.cell? ⟨w.heap.size + 1,1,none⟩ = some (.string (txt f.name)) ∧ W3.cell? ⟨w.heap.size + 1,2,none⟩ = some (.int .i64 f.kind) ∧ W3.cell? ⟨w.heap.size + 1,3,none⟩ = some (.int .i64 f.ref) ∧ W3.cell? ⟨w.heap.size + 1,4,none⟩ = some (.bool f.rep) ∧ W3.cell? ⟨w.heap.size + 1,5,none⟩ = some (.int .i64 f.key) ∧ W3.cell? ⟨w.heap.size + 1,6,none⟩ = some (.int .i64 f.one)) ∧ (W3.cell? ⟨w.heap.size + 2,0,none⟩ = some (.int .i64 r.no) ∧ W3.cell? ⟨w.heap.size + 2,1,none⟩ = some (.int .i64 r.wire) ∧ W3.cell? ⟨w.heap.size + 2,2,none⟩ = some (.int .u64 r.num) ∧ W3.cell? ⟨w.heap.size + 2,3,none⟩ = some (.int .i64 r.frm) ∧ W3.cell? ⟨w.heap.size + 2,4,none⟩ = some (.int .i64 r.upto)) from ⟨bx3 T1,dc_cells T2,heap_cells T3⟩)
 have hwo:=hbo.size
 have hbo3:=below_then hbo L3
 have hp3:p.block < W3.heap.size:=Nat.lt_of_lt_of_le hp L3.size
 have hids:∀ j ∈ blocks x.rows,wo.heap.size ≤ j:=fun j hj=>(hL.old hj).1
 have hxw:∀ j ∈ blocks x.rows,j < w.heap.size:=fun j hj=>(hL.old hj).2
 have HUWF:Hid (∀ wx,Below W3.heap.size W3 wx → Upd p x.v (blocks x.rows) w wx):=Lib.hid fun wx h=>Upd.after (ids1:=[]) (below_then L3 h) (Upd.refl _ ((h.cell hp3).trans ((L3.cell hp).trans hc)) hsp) (fun _ h=>by cases h)
 have HSLF:Hid (∀ wx,Below W3.heap.size W3 wx → Calls Tryz.prog 149 #[.pointer (some p),.int .i64 f.no] wx fun e w'=>∃ g c l1 t l2,e = .returned (.pointer (some ⟨g,l1.length * 3,none⟩)) ∧ Got1 wo.heap.size (k + 1) p f.no x wx g c l1 t l2 w'):=Lib.hid fun wx h=>slotOf_got (no:=f.no) (w:=wx) (Nat.le_trans hwo (Nat.le_trans L3.size h.size)) (hL.on (below_then L3 h)) ((h.cell hp3).trans ((L3.cell hp).trans hc)) ((h.frozen hp3).trans ((L3.frozen hp).trans hz)) hsp (Nat.lt_of_lt_of_le hp3 h.size) hpn (by omega)
 have HPX:Hid (∀ wx,Below W3.heap.size W3 wx → (wx.cell? ⟨w.heap.size,0,none⟩ = some vM ∧ wx.cell? ⟨w.heap.size,1,none⟩ = some vE ∧ wx.cell? ⟨w.heap.size,2,none⟩ = some (.slice A l.length c)) ∧ (wx.cell? ⟨w.heap.size + 1,0,none⟩ = some (.int .i64 f.no) ∧ wx.cell? ⟨w.heap.size + 1,1,none⟩ = some (.string (txt f.name)) ∧ wx.cell? ⟨w.heap.size + 1,2,none⟩ = some (.int .i64 f.kind) ∧ wx.cell? ⟨w.heap.size + 1,3,none⟩ = some (.int .i64 f.ref) ∧ wx.cell? ⟨w.heap.size + 1,4,none⟩ = some (.bool f.rep) ∧ wx.cell? ⟨w.heap.size + 1,5,none⟩ = some (.int .i64 f.key) ∧ wx.cell? ⟨w.heap.size + 1,6,none⟩ = some (.int .i64 f.one)) ∧ (wx.cell? ⟨w.heap.size + 2,0,none⟩ = some (.int .i64 r.no) ∧ wx.cell? ⟨w.heap.size + 2,1,none⟩ = some (.int .i64 r.wire) ∧ wx.cell? ⟨w.heap.size + 2,2,none⟩ = some (.int .u64 r.num) ∧ wx.cell? ⟨w.heap.size + 2,3,none⟩ = some (.int .i64 r.frm) ∧ wx.cell? ⟨w.heap.size + 2,4,none⟩ = some (.int .i64 r.upto))):=Lib.hid fun wx h=>s_on hPW.out h
 obtain ⟨j0,hj,hy0,hy1,hy2⟩:=info_parts T9.info_val
 have bk:(f.key != -1) = false:=by rw [hkey]; rfl
 have HRP:=Lib.hid (And.intro hkey (And.intro hrep (And.intro hw2 hcn)))
 have bw:(((r.wire:Nat):Int) == 2) = true:=by rw [hw2]; rfl
 have HIC:=Lib.hid (isCounting_any f.kind W3)
 rw [hrep] at g4
 have HALL:=Lib.hid (And.intro hids (And.intro hxw (And.intro hful (And.intro hbo3 (And.intro hL (And.intro hpn (And.intro hfm (And.intro hf L3))))))))
 clear T1 T2 T3 hc hz hids hxw hful hL hpn hbo3 hfm hf hPW hkey hrep hw2 hcn
 go_enter Tryz.func105,Tryz.ntmps105
 go_wp2_with fail
 rw [← hW3]
 refine HIC.out.mono ?_
 rintro e w1 ⟨rfl,hb1⟩
 rw [HRP.out.2.2.2]
 obtain ⟨⟨s0',s1',s2'⟩,⟨g0',g1',g2',g3',g4',g5',g6'⟩,r0',r1',r2',r3',r4'⟩:=HPX.out _ hb1
 rw [HRP.out.2.1] at g4'
 clear hW3 g0 g1 g2 g3 g4 g5 g6 s0 s1 s2 r0 r1 r2 r3 r4
 have hV1:=hb1
 clear hb1
 go_wp2_with fail
 clear s0' s1' s2' g0' g1' g2' g3' g4' g5' g6' r0' r1' r2' r3' r4'
 have HSL:=Lib.hid (HSLF.out _ hV1)
 have HV0:Hid (Below W3.heap.size W3 w1):=Lib.hid hV1
 clear hV1
 refine HSL.out.mono ?_
 rintro e V2 ⟨g,c',l1,t,l2,rfl,HG⟩
 obtain ⟨hids,hxw,hful,hbo3,hL,hpn,hfm,hf,L3⟩:=HALL.out
 have hV0b:=HV0.out
 have hV0s:=hV0b.size
 have hfull:=HG.full hf hful
 have HEND:Hid (∀ (e:Ending) (w':World),SPost wo s n f (k + q) g (l1.length * 3) t (repS (decM s n) f l r (bareS t)) V2 e w' → MPost wo s (n + 1) m (k + q) p x (onSlot f.no (repS (decM s n) f l r) (x.F.map bareS)) w e w'):=Lib.hid fun e w' h=>MPost.back (x1:=x) (HUWF.out _ hV0b) hwo hpo hids (fun j hj _=>hj) (Got1.post HG (Nat.le_trans hwo (Nat.le_trans L3.size hV0s)) hpo hsp (Nat.lt_of_lt_of_le hp3 hV0s) hids hf hful (by omega) h)
 have hfarB:∀ j,w.heap.size ≤ j → j < w.heap.size + 3 → V2.heap[j]? = W3.heap[j]? ∧ j ∉ blocks (LM.mk (.slice (some ⟨g,0,none⟩) (l1 ++ t :: l2).length c') (l1 ++ t :: l2)).rows:=fun j h1 h2=>by
  refine ⟨?_,fun h=>by have:=hxw j (HG.old j h (by omega)); omega⟩
  rw [HG.upd.block j (by omega) (fun h=>by have:=hxw j h; omega),setCell_at,hV0b.block j (by omega)]
  cases hj:W3.heap[j]? with
  | none=>rfl
  | some z=>simp only [Option.map_some]; rw [if_neg (by omega)]
 obtain ⟨hgw,hgo,hA2,hL2,hgn2,hFl⟩:=HG.at
 have hP2:(V2.cell? ⟨w.heap.size,0,none⟩ = some vM ∧ V2.cell? ⟨w.heap.size,1,none⟩ = some vE ∧ V2.cell? ⟨w.heap.size,2,none⟩ = some (.slice A l.length c)) ∧ (V2.cell? ⟨w.heap.size + 1,0,none⟩ = some (.int .i64 f.no) ∧ V2.cell? ⟨w.heap.size + 1,1,none⟩ = some (.string (txt f.name)) ∧ V2.cell? ⟨w.heap.size + 1,2,none⟩ = some (.int .i64 f.kind) ∧ V2.cell? ⟨w.heap.size + 1,3,none⟩ = some (.int .i64 f.ref) ∧ V2.cell? ⟨w.heap.size + 1,4,none⟩ = some (.bool f.rep) ∧ V2.cell? ⟨w.heap.size + 1,5,none⟩ = some (.int .i64 f.key) ∧ V2.cell? ⟨w.heap.size + 1,6,none⟩ = some (.int .i64 f.one)) ∧ (V2.cell? ⟨w.heap.size + 2,0,none⟩ = some (.int .i64 r.no) ∧ V2.cell? ⟨w.heap.size + 2,1,none⟩ = some (.int .i64 r.wire) ∧ V2.cell? ⟨w.heap.size + 2,2,none⟩ = some (.int .u64 r.num) ∧ V2.cell? ⟨w.heap.size + 2,3,none⟩ = some (.int .i64 r.frm) ∧ V2.cell? ⟨w.heap.size + 2,4,none⟩ = some (.int .i64 r.upto)):=s_blk (HPX.out _ (Below.refl _ _)) fun j h1 h2=>(hfarB j h1 h2).1
 have hfarS:∀ j,w.heap.size ≤ j → j < w.heap.size + 3 → j ∉ blocks (rowsS t) ∧ g ≠ j:=fun j h1 h2=>⟨fun h3=>(hfarB j h1 h2).2 (by
  rw [rows_of,rowsF_append,rowsF_cons]
  exact blocks_cons_le (mem_three.2 (.inr (.inl h3)))),fun h3=>(hfarB j h1 h2).2 (by
  rw [rows_of,blocks_of]
  exact .inl (by rw [← h3]; rfl))⟩
 have hWs:w.heap.size + 3 ≤ V2.heap.size:=by have h1:=HG.upd.size; omega
 have hboV:Below wo.heap.size wo V2:=hbo.trans ((upd_below (HUWF.out _ hV0b) hwo hpo hids).trans (upd_below HG.upd (Nat.le_trans hwo (Nat.le_trans L3.size hV0s)) hpo hids))
 have hom:l1.length ≤ Kb:=by rw [List.length_append] at hFl; omega
 obtain ⟨o,ho⟩:∃ o,l1.length * 3 = o:=⟨_,rfl⟩
 rw [ho] at hA2 HEND
 have ho9:o ≤ 3000000000:=by omega
 rw [ho]
 obtain ⟨A0,c0,hgV,-⟩:=Sl.of_own (hL2.own (rwS t.gV t.V) (List.mem_cons_of_mem _ (List.mem_cons_self ..))).1
 have hgV:t.gV = .slice A0 t.V.length c0:=hgV
 have hnV:t.V.length ≤ k + 1:=(hL2.own (rwS t.gV t.V) (List.mem_cons_of_mem _ (List.mem_cons_self ..))).2
 have HRV:Hid (V2.ownsRow wo.heap.size 81 3 (.slice A0 t.V.length c0) t.V.length (t.V.flatMap cV')):=Lib.hid (by rw [← hgV]; exact (hL2.own (rwS t.gV t.V) (List.mem_cons_of_mem _ (List.mem_cons_self ..))).1)
 have hsgv:∀ j,t.gV.ownBlock = some j → j ∈ blocks (rowsS t):=fun j hj=>blocks_cons_le (blocks_of.2 (.inl hj))
 have C2:Hid (V2.cell? ⟨g,o + 2,none⟩ = some (.slice A0 t.V.length c0)):=Lib.hid (by rw [← hgV]; exact hA2.c2)
 have c20:=C2.out
 have HGV:=Lib.hid hgV
 have HAS:=Lib.hid (And.intro hA2 (And.intro hL2 (And.intro hgn2 (And.intro hgo hfull))))
 have HFV:Hid (∀ j,w.heap.size ≤ j → j < w.heap.size + 3 → j < V2.heap.size ∧ (Value.slice A0 t.V.length c0).ownBlock ≠ some j):=Lib.hid fun j h1 h2=>⟨by omega,fun e=>(hfarS j h1 h2).1 (hsgv j (by rw [hgV]; exact e))⟩
 have HFG:Hid (∀ j,w.heap.size ≤ j → j < w.heap.size + 3 → g ≠ j):=Lib.hid fun j h1 h2=>(hfarS j h1 h2).2
 have HNE:Hid ((Value.slice A0 t.V.length c0).ownBlock ≠ some g):=Lib.hid fun e=>hgn2 (hsgv g (by rw [hgV]; exact e))
 have hgV2:=hgw
 have hDV:Below V2.heap.size V2 V2.drew:=(Below.refl _ _).drew
 have hwoV:wo.heap.size ≤ V2.heap.size:=hboV.size
 have HPV:Hid (∀ wx,Below V2.heap.size V2 wx → (wx.cell? ⟨w.heap.size,0,none⟩ = some vM ∧ wx.cell? ⟨w.heap.size,1,none⟩ = some vE ∧ wx.cell? ⟨w.heap.size,2,none⟩ = some (.slice A l.length c)) ∧ (wx.cell? ⟨w.heap.size + 1,0,none⟩ = some (.int .i64 f.no) ∧ wx.cell? ⟨w.heap.size + 1,1,none⟩ = some (.string (txt f.name)) ∧ wx.cell? ⟨w.heap.size + 1,2,none⟩ = some (.int .i64 f.kind) ∧ wx.cell? ⟨w.heap.size + 1,3,none⟩ = some (.int .i64 f.ref) ∧ wx.cell? ⟨w.heap.size + 1,4,none⟩ = some (.bool f.rep) ∧ wx.cell? ⟨w.heap.size + 1,5,none⟩ = some (.int .i64 f.key) ∧ wx.cell? ⟨w.heap.size + 1,6,none⟩ = some (.int .i64 f.one)) ∧ (wx.cell? ⟨w.heap.size + 2,0,none⟩ = some (.int .i64 r.no) ∧ wx.cell? ⟨w.heap.size + 2,1,none⟩ = some (.int .i64 r.wire) ∧ wx.cell? ⟨w.heap.size + 2,2,none⟩ = some (.int .u64 r.num) ∧ wx.cell? ⟨w.heap.size + 2,3,none⟩ = some (.int .i64 r.frm) ∧ wx.cell? ⟨w.heap.size + 2,4,none⟩ = some (.int .i64 r.upto))):=Lib.hid fun wx h=>s_on hP2 h
 have HP2:=Lib.hid hP2
 have HVA:=Lib.hid (value_any HT f r deep V2.drew hfm.k0 hfm.k9 (hboV.trans (hDV.mono hwoV)) hf1 hf2 hnum (by omega) hdeep hd0)
 rw [hRV] at HVA
 obtain ⟨⟨s0',s1',s2'⟩,⟨g0',g1',g2',g3',g4',g5',g6'⟩,r0',r1',r2',r3',r4'⟩:=hP2
 clear hids hxw hful hbo3 hL hpn hfm hf L3 hfull hfarB hgw hgo hA2 hL2 hgn2 hFl hfarS hWs hboV hom ho HG HSL hV0b hV0s hgV hsgv
 go_wp2_with fail
 apply once
 ·intro HGO
  refine wp_region_held_drew (S:=(fun wx=>(wx.cell? ⟨w.heap.size,0,none⟩ = some vM ∧ wx.cell? ⟨w.heap.size,1,none⟩ = some vE ∧ wx.cell? ⟨w.heap.size,2,none⟩ = some (.slice A l.length c)) ∧ (wx.cell? ⟨w.heap.size + 1,0,none⟩ = some (.int .i64 f.no) ∧ wx.cell? ⟨w.heap.size + 1,1,none⟩ = some (.string (txt f.name)) ∧ wx.cell? ⟨w.heap.size + 1,2,none⟩ = some (.int .i64 f.kind) ∧ wx.cell? ⟨w.heap.size + 1,3,none⟩ = some (.int .i64 f.ref) ∧ wx.cell? ⟨w.heap.size + 1,4,none⟩ = some (.bool f.rep) ∧ wx.cell? ⟨w.heap.size + 1,5,none⟩ = some (.int .i64 f.key) ∧ wx.cell? ⟨w.heap.size + 1,6,none⟩ = some (.int .i64 f.one)) ∧ (wx.cell? ⟨w.heap.size + 2,0,none⟩ = some (.int .i64 r.no) ∧ wx.cell? ⟨w.heap.size + 2,1,none⟩ = some (.int .i64 r.wire) ∧ wx.cell? ⟨w.heap.size + 2,2,none⟩ = some (.int .u64 r.num) ∧ wx.cell? ⟨w.heap.size + 2,3,none⟩ = some (.int .i64 r.frm) ∧ wx.cell? ⟨w.heap.size + 2,4,none⟩ = some (.int .i64 r.upto)))) (by kernel_rfl) (HPV.out _ (hDV)) (fun hHeld=>?_)
  refine tk 0 ?_
  refine tk 1 ?_
  refine tk 2 ?_
  refine tk 3 ?_
  refine tk 5 ?_
  refine tk 6 ?_
  refine tk 7 ?_
  refine tk 8 ?_
  refine wpAnyH_ready (rs:=[4,9]) (by kernel_rfl) (by simp) ?_
  refine AllReadyH.cons rfl (fun K hK=>?_) (AllReadyH.cons rfl (fun K hK=>?_) AllReadyH.nil)
  ·go_simp
   clear hHeld
   refine hK.out _ _ (HPV.out _ (hDV)) (fun hHeld=>?_)
   clear hK K
   refine wpAnyH_ready (rs:=[9]) (by kernel_rfl) (by simp) ?_
   refine AllReadyH.cons rfl (fun K hK=>?_) AllReadyH.nil
   go_simp
   (go_at_call 151; refine HVA.out.mono ?_; rintro e w7 (⟨er,h1,rfl,h3⟩ | ⟨⟨xn,xs,xg,xM⟩,h1,rfl,hb7,hL7,hn7,hf7⟩))
   ·go_wp2_with fail
    exact ⟨rfl,HEND.out _ _ (.inl ⟨er,by unfold repS; rw [h1]; rfl,rfl,(hDV.mono hwoV).trans h3⟩)⟩
   obtain ⟨Ab,cb,hbg,-⟩:=Sl.of_own (hL7.own (rwV ⟨xn,xs,xg,xM⟩) (List.mem_cons_self ..)).1
   obtain ⟨nb,hnb⟩:∃ nb,(rwV (⟨xn,xs,xg,xM⟩:VL LM)).n = nb:=⟨_,rfl⟩
   rw [hnb] at hbg
   obtain rfl:xg = .slice Ab nb cb:=hbg
   clear hnb
   have HBV:=Lib.hid (And.intro h1 (And.intro hL7 (And.intro hn7 hf7)))
   clear h1 hL7 hn7 hf7
   have hb7d:=Lib.hid (hDV.trans (hb7.mono hDV.size))
   have c7:=cell_on hb7d.out C2.out
   have hb8:=Lib.hid (below_then hb7d.out (below_new w7 (.cells #[.int .i64 xn,.string (tx xs),.slice Ab nb cb] 81)))
   have c7b:=cell_on hb8.out C2.out
   have hs7:V2.heap.size ≤ w7.heap.size:=hb7d.out.size
   go_wp2_with fail
   clear hHeld
   refine hK.out _ _ (HPV.out _ (hb7d.out)) (fun hHeld=>?_)
   clear hK K
   refine wpAnyH_ready (rs:=[10]) (by kernel_rfl) (by simp) ?_
   refine AllReadyH.cons rfl (fun K hK=>?_) AllReadyH.nil
   go_simp
   clear hHeld
   refine hK.out _ _ (HPV.out _ (hb8.out)) (fun hHeld=>?_)
   clear hK K
   clear hHeld
   revert hs7; revert c7b; revert hb8; revert c7; revert hb7d; revert HBV; revert hb7; revert xM; revert nb; revert cb; revert Ab; revert xs; revert xn; revert w7
   exact HGO.out
  ·go_simp
   (go_at_call 151; refine HVA.out.mono ?_; rintro e w7 (⟨er,h1,rfl,h3⟩ | ⟨⟨xn,xs,xg,xM⟩,h1,rfl,hb7,hL7,hn7,hf7⟩))
   ·go_wp2_with fail
    exact ⟨rfl,HEND.out _ _ (.inl ⟨er,by unfold repS; rw [h1]; rfl,rfl,(hDV.mono hwoV).trans h3⟩)⟩
   obtain ⟨Ab,cb,hbg,-⟩:=Sl.of_own (hL7.own (rwV ⟨xn,xs,xg,xM⟩) (List.mem_cons_self ..)).1
   obtain ⟨nb,hnb⟩:∃ nb,(rwV (⟨xn,xs,xg,xM⟩:VL LM)).n = nb:=⟨_,rfl⟩
   rw [hnb] at hbg
   obtain rfl:xg = .slice Ab nb cb:=hbg
   clear hnb
   have HBV:=Lib.hid (And.intro h1 (And.intro hL7 (And.intro hn7 hf7)))
   clear h1 hL7 hn7 hf7
   have hb7d:=Lib.hid (hDV.trans (hb7.mono hDV.size))
   have c7:=cell_on hb7d.out C2.out
   have hb8:=Lib.hid (below_then hb7d.out (below_new w7 (.cells #[.int .i64 xn,.string (tx xs),.slice Ab nb cb] 81)))
   have c7b:=cell_on hb8.out C2.out
   have hs7:V2.heap.size ≤ w7.heap.size:=hb7d.out.size
   go_wp2_with fail
   clear hHeld
   refine hK.out _ _ (HPV.out _ (hb7d.out)) (fun hHeld=>?_)
   clear hK K
   refine wpAnyH_ready (rs:=[4,10]) (by kernel_rfl) (by simp) ?_
   refine AllReadyH.cons rfl (fun K hK=>?_) (AllReadyH.cons rfl (fun K hK=>?_) AllReadyH.nil)
   ·go_simp
    clear hHeld
    refine hK.out _ _ (HPV.out _ (hb7d.out)) (fun hHeld=>?_)
    clear hK K
    refine wpAnyH_ready (rs:=[10]) (by kernel_rfl) (by simp) ?_
    refine AllReadyH.cons rfl (fun K hK=>?_) AllReadyH.nil
    go_simp
    clear hHeld
    refine hK.out _ _ (HPV.out _ (hb8.out)) (fun hHeld=>?_)
    clear hK K
    clear hHeld
    exact HGO.out w7 xn xs Ab cb nb xM hb7 HBV hb7d c7 hb8 c7b hs7
   ·go_simp
    clear hHeld
    refine hK.out _ _ (HPV.out _ (hb8.out)) (fun hHeld=>?_)
    clear hK K
    refine wpAnyH_ready (rs:=[4]) (by kernel_rfl) (by simp) ?_
    refine AllReadyH.cons rfl (fun K hK=>?_) AllReadyH.nil
    go_simp
    clear hHeld
    refine hK.out _ _ (HPV.out _ (hb8.out)) (fun hHeld=>?_)
    clear hK K
    clear hHeld
    exact HGO.out w7 xn xs Ab cb nb xM hb7 HBV hb7d c7 hb8 c7b hs7
 intro w7 xn xs Ab cb nb xM hb7 HBV hb7d c7 hb8 c7b hs7
 have hHeld:=HPV.out _ (hb8.out)
 refine wpAnyH_ready (rs:=[11]) (by kernel_rfl) (by simp) ?_
 refine AllReadyH.cons rfl (fun K hK=>?_) AllReadyH.nil
 (refine step_append_lies _ rfl _ _ 65 rfl wo.heap.size 81 j0 _ 3 48 Tryz.underlying65 hj hy0 hy1 hy2 rfl (by decide) (.slice A0 t.V.length c0) t.V.length (t.V.flatMap cV') (by simp [Act.eval,Act.put]) (own_hi HRV.out (hi_below wo.heap.size hb8.out)) ⟨w7.heap.size,0,none⟩ 1 1 [.int .i64 xn,.string (tx xs),.slice Ab nb cb] (by simp [Act.eval,Act.put]) rfl (World.news_of_block (heap_alloc_new _ _)) (by simp [Value.oneCell']) (by decide) (by unfold maxLen; omega) (by omega) (by simp; omega) w7.heap.size.succ (by simp) ?_; intro g8 c8 w8 hown8 hg8 hat8 hlt8; have hgne:(Value.slice A0 t.V.length c0).ownBlock ≠ some g:=HNE.out; have e8:=grown_block hg8 (Nat.lt_of_lt_of_le hgV2 hb8.out.size) hgne; have c8b:w8.cell? ⟨g,o + 2,none⟩ = some (.slice A0 t.V.length c0):=(World.cell?_of_block (a:=⟨g,o + 2,none⟩) e8).trans c7b; have f8:w8.frozen? ⟨g,o + 2,none⟩ = false:=(froz_of (a:=⟨g,o + 2,none⟩) e8).trans ((hb8.out.frozen hgV2).trans (HAS.out.1.froz _)); have HG8:=Lib.hid (And.intro hown8 (And.intro hg8 (And.intro hat8 hlt8))); clear hown8 hg8 hat8 hlt8 e8 hgne)
 clear hHeld
 refine hK.out _ _ (s_blk HP2.out (fun j h1 h2=>(HG8.out.2.1.block j (Nat.lt_of_lt_of_le (HFV.out j h1 h2).1 hb8.out.size) (fun e=>(HFV.out j h1 h2).2 e.symm)).trans (hb8.out.block j (HFV.out j h1 h2).1))) (fun hHeld=>?_)
 clear hK K
 refine tk 12 ?_
 refine tk 13 ?_
 refine wpAnyH_ready (rs:=[14]) (by kernel_rfl) (by simp) ?_
 refine AllReadyH.cons rfl (fun K hK=>?_) AllReadyH.nil
 go_simp
 clear hHeld
 refine hK.out _ _ (s_blk HP2.out (fun j h1 h2=>(set_far (HFG.out j h1 h2)).trans ((HG8.out.2.1.block j (Nat.lt_of_lt_of_le (HFV.out j h1 h2).1 hb8.out.size) (fun e=>(HFV.out j h1 h2).2 e.symm)).trans (hb8.out.block j (HFV.out j h1 h2).1)))) (fun hHeld=>?_)
 clear hK K
 refine wpAnyH_done (by kernel_rfl) ?_ _
 obtain ⟨h1,hL7,hn7,hf7⟩:=HBV.out
 obtain ⟨hown8,hg8,hat8,hlt8⟩:=HG8.out
 obtain ⟨hA2,hL2,hgn2,hgo,hfull⟩:=HAS.out
 have hpush:=slot_push (K':=k + q) (x:=(⟨xn,xs,.slice Ab nb cb,xM⟩:VL LM)) (wa:=w7.alloc (.cells #[.int .i64 xn,.string (tx xs),.slice Ab nb cb] 81)) hgV2 hA2 hL2 hgn2 hb8.out ((hL7.on (below_new w7 (.cells #[.int .i64 xn,.string (tx xs),.slice Ab nb cb] 81))).more (by omega)) (fun j hj=>hn7 j hj) (by rw [HGV.out]; exact hg8) hown8 (by rw [HGV.out]; exact hat8.imp id (fun h=>by rw [h]; simp)) (by omega) (by omega)
 obtain ⟨k1,k2,k3,k4⟩:=hpush
 have HQ9:=Lib.hid (HEND.out (.returned (.tuple #[])) _ (.inr ⟨(⟨t.no,t.gK,t.K,.slice (some ⟨g8,0,none⟩) (t.V.length + 1) c8,t.V ++ [(⟨xn,xs,.slice Ab nb cb,xM⟩:VL LM)]⟩:SLo LM),by unfold repS; rw [h1]; unfold bareS; simp only [List.map_append,List.map_cons,List.map_nil]; rfl,rfl,rfl,k1,k2,k3,k4,fun h9 v hv=>by
  rcases List.mem_append.1 hv with hv | hv
  ·exact hfull h9 v hv
  ·obtain rfl:=List.mem_singleton.1 hv
   exact hf7 h9⟩))
 clear h1 hL7 hn7 hf7 hown8 hg8 hat8 hlt8 hA2 hL2 hgn2 hgo hfull k1 k2 k3 k4
 go_wp2
 go_end0
 exact HQ9.out
set_option maxRecDepth 1000000 in
set_option maxHeartbeats 8000000 in
theorem field_map {wo:World} {s:Sc} {vM vE:Value} {A:Option Addr} {c:Nat} {l:List UInt8} {Kb n:Nat} (HT:TakeH wo s vM vE A c l Kb n) (hr0:SlB wo A c l) (hl:l.length ≤ 1000000000) (TW:Wires wo) (hs:SAt wo.heap.size wo s vM vE) (m:Int) (f:Df) (r:Rc) (x:LM) (p:Addr) (k q:Nat) (deep:Int) (w:World) (hkey:f.key ≠ -1) (hfm:DfMay s f) (hbo:Below wo.heap.size wo w) (hpo:wo.heap.size ≤ p.block) (hp:p.block < w.heap.size) (hsp:p.spot = none) (hc:w.cell? p = some x.v) (hz:w.frozen? p = false) (hL:Lies wo.heap.size k w x.rows) (hpn:p.block ∉ blocks x.rows) (hful:Full s (n + 1) m x) (hf:byS s m f.no = some f) (hf1:r.frm ≤ r.upto) (hf2:r.upto ≤ l.length) (hnum:r.num < 18446744073709551616) (hq:2 ≤ q) (hq1:1 + (r.upto - r.frm) ≤ q) (hq2:r.wire = 2 → 2 + (r.upto - r.frm) ≤ q) (hKb:k + q ≤ Kb) (hKK:Kb ≤ 1000000000) (hdeep:deep + n = 64) (hd0:0 ≤ deep) :
  Calls Tryz.prog 105 #[.agg #[vM,vE,.slice A l.length c],.pointer (some p),.int .i64 m,.agg #[.int .i64 f.no,.string (txt f.name),.int .i64 f.kind,.int .i64 f.ref,.bool f.rep,.int .i64 f.key,.int .i64 f.one],RV r,.int .i64 deep] w fun e w'=>MPost wo s (n + 1) m (k + q) p x (onSlot f.no (entryS n (decM s n) f l r) (x.F.map bareS)) w e w':=by
 have hRV:RV r = .agg #[.int .i64 r.no,.int .i64 r.wire,.int .u64 r.num,.int .i64 r.frm,.int .i64 r.upto]:=rfl
 rw [hRV]
 obtain ⟨T1,T2,T3,L3⟩:=three_boxes w (.cells #[vM,vE,.slice A l.length c] 113) (dC f) (.cells #[.int .i64 r.no,.int .i64 r.wire,.int .u64 r.num,.int .i64 r.frm,.int .i64 r.upto] 41)
 obtain ⟨g0,g1,g2,g3,g4,g5,g6⟩:=dc_cells T2
 obtain ⟨s0,s1,s2⟩:=bx3 T1
 obtain ⟨r0,r1,r2,r3,r4⟩:=heap_cells T3
 obtain ⟨W3,hW3⟩:∃ W,W = (((w.alloc (.cells #[vM,vE,.slice A l.length c] 113)).alloc (dC f)).alloc (.cells #[.int .i64 r.no,.int .i64 r.wire,.int .u64 r.num,.int .i64 r.frm,.int .i64 r.upto] 41)):=⟨_,rfl⟩
 have hs3:W3.heap.size = w.heap.size + 3:=by rw [hW3]; simp
 rw [← hW3] at T1 T2 T3 L3
 have hPW:=Lib.hid (show (W3.cell? ⟨w.heap.size,0,none⟩ = some vM ∧ W3.cell? ⟨w.heap.size,1,none⟩ = some vE ∧ W3.cell? ⟨w.heap.size,2,none⟩ = some (.slice A l.length c)) ∧ (W3.cell? ⟨w.heap.size + 1,0,none⟩ = some (.int .i64 f.no) ∧ W3.cell? ⟨w.heap.size + 1,1,none⟩ = some (.string (txt f.name)) ∧ W3.cell? ⟨w.heap.size + 1,2,none⟩ = some (.int .i64 f.kind) ∧ W3.cell? ⟨w.heap.size + 1,3,none⟩ = some (.int .i64 f.ref) ∧ W3.cell? ⟨w.heap.size + 1,4,none⟩ = some (.bool f.rep) ∧ W3.cell? ⟨w.heap.size + 1,5,none⟩ = some (.int .i64 f.key) ∧ W3.cell? ⟨w.heap.size + 1,6,none⟩ = some (.int .i64 f.one)) ∧ (W3.cell? ⟨w.heap.size + 2,0,none⟩ = some (.int .i64 r.no) ∧ W3.cell? ⟨w.heap.size + 2,1,none⟩ = some (.int .i64 r.wire) ∧ W3.cell? ⟨w.heap.size + 2,2,none⟩ = some (.int .u64 r.num) ∧ W3.cell? ⟨w.heap.size + 2,3,none⟩ = some (.int .i64 r.frm) ∧ W3.cell? ⟨w.heap.size + 2,4,none⟩ = some (.int .i64 r.upto)) from ⟨bx3 T1,dc_cells T2,heap_cells T3⟩)
 have hwo:=hbo.size
 have hbo3:=below_then hbo L3
 have hp3:p.block < W3.heap.size:=Nat.lt_of_lt_of_le hp L3.size
 have hids:∀ j ∈ blocks x.rows,wo.heap.size ≤ j:=fun j hj=>(hL.old hj).1
 have hxw:∀ j ∈ blocks x.rows,j < w.heap.size:=fun j hj=>(hL.old hj).2
 have HUWF:Hid (∀ wx,Below W3.heap.size W3 wx → Upd p x.v (blocks x.rows) w wx):=Lib.hid fun wx h=>Upd.after (ids1:=[]) (below_then L3 h) (Upd.refl _ ((h.cell hp3).trans ((L3.cell hp).trans hc)) hsp) (fun _ h=>by cases h)
 have HSLF:Hid (∀ wx,Below W3.heap.size W3 wx → Calls Tryz.prog 149 #[.pointer (some p),.int .i64 f.no] wx fun e w'=>∃ g c l1 t l2,e = .returned (.pointer (some ⟨g,l1.length * 3,none⟩)) ∧ Got1 wo.heap.size (k + 1) p f.no x wx g c l1 t l2 w'):=Lib.hid fun wx h=>slotOf_got (no:=f.no) (w:=wx) (Nat.le_trans hwo (Nat.le_trans L3.size h.size)) (hL.on (below_then L3 h)) ((h.cell hp3).trans ((L3.cell hp).trans hc)) ((h.frozen hp3).trans ((L3.frozen hp).trans hz)) hsp (Nat.lt_of_lt_of_le hp3 h.size) hpn (by omega)
 have HPX:Hid (∀ wx,Below W3.heap.size W3 wx → (wx.cell? ⟨w.heap.size,0,none⟩ = some vM ∧ wx.cell? ⟨w.heap.size,1,none⟩ = some vE ∧ wx.cell? ⟨w.heap.size,2,none⟩ = some (.slice A l.length c)) ∧ (wx.cell? ⟨w.heap.size + 1,0,none⟩ = some (.int .i64 f.no) ∧ wx.cell? ⟨w.heap.size + 1,1,none⟩ = some (.string (txt f.name)) ∧ wx.cell? ⟨w.heap.size + 1,2,none⟩ = some (.int .i64 f.kind) ∧ wx.cell? ⟨w.heap.size + 1,3,none⟩ = some (.int .i64 f.ref) ∧ wx.cell? ⟨w.heap.size + 1,4,none⟩ = some (.bool f.rep) ∧ wx.cell? ⟨w.heap.size + 1,5,none⟩ = some (.int .i64 f.key) ∧ wx.cell? ⟨w.heap.size + 1,6,none⟩ = some (.int .i64 f.one)) ∧ (wx.cell? ⟨w.heap.size + 2,0,none⟩ = some (.int .i64 r.no) ∧ wx.cell? ⟨w.heap.size + 2,1,none⟩ = some (.int .i64 r.wire) ∧ wx.cell? ⟨w.heap.size + 2,2,none⟩ = some (.int .u64 r.num) ∧ wx.cell? ⟨w.heap.size + 2,3,none⟩ = some (.int .i64 r.frm) ∧ wx.cell? ⟨w.heap.size + 2,4,none⟩ = some (.int .i64 r.upto))):=Lib.hid fun wx h=>s_on hPW.out h
 have bk:(f.key != -1) = true:=by simpa using hkey
 have HALL:=Lib.hid (And.intro hids (And.intro hxw (And.intro hful (And.intro hbo3 (And.intro hL (And.intro hpn (And.intro hfm (And.intro hf L3))))))))
 clear T1 T2 T3 hc hz hids hxw hful hL hpn hbo3 hfm hf hPW
 go_enter Tryz.func105,Tryz.ntmps105
 go_wp2_with fail
 rw [← hW3]
 clear hW3 g0 g1 g2 g3 g4 g5 g6 s0 s1 s2 r0 r1 r2 r3 r4
 have hV1:=Below.refl W3.heap.size W3
 refine wp_region_held_drew (S:=(fun wx=>(wx.cell? ⟨w.heap.size,0,none⟩ = some vM ∧ wx.cell? ⟨w.heap.size,1,none⟩ = some vE ∧ wx.cell? ⟨w.heap.size,2,none⟩ = some (.slice A l.length c)) ∧ (wx.cell? ⟨w.heap.size + 1,0,none⟩ = some (.int .i64 f.no) ∧ wx.cell? ⟨w.heap.size + 1,1,none⟩ = some (.string (txt f.name)) ∧ wx.cell? ⟨w.heap.size + 1,2,none⟩ = some (.int .i64 f.kind) ∧ wx.cell? ⟨w.heap.size + 1,3,none⟩ = some (.int .i64 f.ref) ∧ wx.cell? ⟨w.heap.size + 1,4,none⟩ = some (.bool f.rep) ∧ wx.cell? ⟨w.heap.size + 1,5,none⟩ = some (.int .i64 f.key) ∧ wx.cell? ⟨w.heap.size + 1,6,none⟩ = some (.int .i64 f.one)) ∧ (wx.cell? ⟨w.heap.size + 2,0,none⟩ = some (.int .i64 r.no) ∧ wx.cell? ⟨w.heap.size + 2,1,none⟩ = some (.int .i64 r.wire) ∧ wx.cell? ⟨w.heap.size + 2,2,none⟩ = some (.int .u64 r.num) ∧ wx.cell? ⟨w.heap.size + 2,3,none⟩ = some (.int .i64 r.frm) ∧ wx.cell? ⟨w.heap.size + 2,4,none⟩ = some (.int .i64 r.upto)))) (by kernel_rfl) (HPX.out _ hV1.drew) (fun hHeld=>?_)
 refine tk 0 ?_
 refine tk 1 ?_
 refine tk 2 ?_
 refine tk 3 ?_
 refine tk 5 ?_
 refine tk 6 ?_
 refine tk 7 ?_
 obtain ⟨V0,hV0⟩:∃ V,V = W3.drew:=⟨_,rfl⟩
 rw [← hV0]
 have HV0:Hid (Below W3.heap.size W3 V0):=Lib.hid (by rw [hV0]; exact hV1.drew)
 clear hV0 hV1
 have HSL:=Lib.hid (HSLF.out _ HV0.out)
 refine wpAnyH_ready (rs:=[4]) (by kernel_rfl) (by simp) ?_
 refine AllReadyH.cons rfl (fun K hK=>?_) AllReadyH.nil
 go_simp
 (go_at_call 149; refine HSL.out.mono ?_; rintro e V2 ⟨g,c',l1,t,l2,rfl,HG⟩)
 obtain ⟨hids,hxw,hful,hbo3,hL,hpn,hfm,hf,L3⟩:=HALL.out
 have hV0b:=HV0.out
 have hV0s:=hV0b.size
 have hfull:=HG.full hf hful
 have HEND:Hid (∀ (e:Ending) (w':World),SPost wo s n f (k + q) g (l1.length * 3) t (entryS n (decM s n) f l r (bareS t)) V2 e w' → MPost wo s (n + 1) m (k + q) p x (onSlot f.no (entryS n (decM s n) f l r) (x.F.map bareS)) w e w'):=Lib.hid fun e w' h=>MPost.back (x1:=x) (HUWF.out _ hV0b) hwo hpo hids (fun j hj _=>hj) (Got1.post HG (Nat.le_trans hwo (Nat.le_trans L3.size hV0s)) hpo hsp (Nat.lt_of_lt_of_le hp3 hV0s) hids hf hful (by omega) h)
 have hfarB:∀ j,w.heap.size ≤ j → j < w.heap.size + 3 → V2.heap[j]? = W3.heap[j]? ∧ j ∉ blocks (LM.mk (.slice (some ⟨g,0,none⟩) (l1 ++ t :: l2).length c') (l1 ++ t :: l2)).rows:=fun j h1 h2=>by
  refine ⟨?_,fun h=>by have:=hxw j (HG.old j h (by omega)); omega⟩
  rw [HG.upd.block j (by omega) (fun h=>by have:=hxw j h; omega),setCell_at,hV0b.block j (by omega)]
  cases hj:W3.heap[j]? with
  | none=>rfl
  | some z=>simp only [Option.map_some]; rw [if_neg (by omega)]
 obtain ⟨hgw,hgo,hA2,hL2,hgn2,hFl⟩:=HG.at
 have hP2:(V2.cell? ⟨w.heap.size,0,none⟩ = some vM ∧ V2.cell? ⟨w.heap.size,1,none⟩ = some vE ∧ V2.cell? ⟨w.heap.size,2,none⟩ = some (.slice A l.length c)) ∧ (V2.cell? ⟨w.heap.size + 1,0,none⟩ = some (.int .i64 f.no) ∧ V2.cell? ⟨w.heap.size + 1,1,none⟩ = some (.string (txt f.name)) ∧ V2.cell? ⟨w.heap.size + 1,2,none⟩ = some (.int .i64 f.kind) ∧ V2.cell? ⟨w.heap.size + 1,3,none⟩ = some (.int .i64 f.ref) ∧ V2.cell? ⟨w.heap.size + 1,4,none⟩ = some (.bool f.rep) ∧ V2.cell? ⟨w.heap.size + 1,5,none⟩ = some (.int .i64 f.key) ∧ V2.cell? ⟨w.heap.size + 1,6,none⟩ = some (.int .i64 f.one)) ∧ (V2.cell? ⟨w.heap.size + 2,0,none⟩ = some (.int .i64 r.no) ∧ V2.cell? ⟨w.heap.size + 2,1,none⟩ = some (.int .i64 r.wire) ∧ V2.cell? ⟨w.heap.size + 2,2,none⟩ = some (.int .u64 r.num) ∧ V2.cell? ⟨w.heap.size + 2,3,none⟩ = some (.int .i64 r.frm) ∧ V2.cell? ⟨w.heap.size + 2,4,none⟩ = some (.int .i64 r.upto)):=s_blk (HPX.out _ (Below.refl _ _)) fun j h1 h2=>(hfarB j h1 h2).1
 have hfarS:∀ j,w.heap.size ≤ j → j < w.heap.size + 3 → j ∉ blocks (rowsS t) ∧ g ≠ j:=fun j h1 h2=>⟨fun h3=>(hfarB j h1 h2).2 (by
  rw [rows_of,rowsF_append,rowsF_cons]
  exact blocks_cons_le (mem_three.2 (.inr (.inl h3)))),fun h3=>(hfarB j h1 h2).2 (by
  rw [rows_of,blocks_of]
  exact .inl (by rw [← h3]; rfl))⟩
 have hWs:w.heap.size + 3 ≤ V2.heap.size:=by have h1:=HG.upd.size; omega
 have hboV:Below wo.heap.size wo V2:=hbo.trans ((upd_below (HUWF.out _ hV0b) hwo hpo hids).trans (upd_below HG.upd (Nat.le_trans hwo (Nat.le_trans L3.size hV0s)) hpo hids))
 have hom:l1.length ≤ Kb:=by rw [List.length_append] at hFl; omega
 obtain ⟨o,ho⟩:∃ o,l1.length * 3 = o:=⟨_,rfl⟩
 rw [ho] at hA2 HEND
 have ho9:o ≤ 3000000000:=by omega
 rw [ho]
 have HCT:=Lib.hid ((entry_any HT hr0 hl TW f r g o t (k + 1) deep V2 (may_key hfm hkey).1 (may_key hfm hkey).2.1 (may_key hfm hkey).2.2.1 hfm.k0 hfm.k9 hboV hgo hgw ho9 hA2 hL2 hgn2 hfull hf1 hf2 (K2:=k + q) (fun h=>by have:=hq2 h; omega) hKb hKK hdeep hd0))
 have HS3:Hid (∀ (t':SLo LM) wt,UpdS g o t' (blocks (rowsS t)) V2 wt → (wt.cell? ⟨w.heap.size,0,none⟩ = some vM ∧ wt.cell? ⟨w.heap.size,1,none⟩ = some vE ∧ wt.cell? ⟨w.heap.size,2,none⟩ = some (.slice A l.length c)) ∧ (wt.cell? ⟨w.heap.size + 1,0,none⟩ = some (.int .i64 f.no) ∧ wt.cell? ⟨w.heap.size + 1,1,none⟩ = some (.string (txt f.name)) ∧ wt.cell? ⟨w.heap.size + 1,2,none⟩ = some (.int .i64 f.kind) ∧ wt.cell? ⟨w.heap.size + 1,3,none⟩ = some (.int .i64 f.ref) ∧ wt.cell? ⟨w.heap.size + 1,4,none⟩ = some (.bool f.rep) ∧ wt.cell? ⟨w.heap.size + 1,5,none⟩ = some (.int .i64 f.key) ∧ wt.cell? ⟨w.heap.size + 1,6,none⟩ = some (.int .i64 f.one)) ∧ (wt.cell? ⟨w.heap.size + 2,0,none⟩ = some (.int .i64 r.no) ∧ wt.cell? ⟨w.heap.size + 2,1,none⟩ = some (.int .i64 r.wire) ∧ wt.cell? ⟨w.heap.size + 2,2,none⟩ = some (.int .u64 r.num) ∧ wt.cell? ⟨w.heap.size + 2,3,none⟩ = some (.int .i64 r.frm) ∧ wt.cell? ⟨w.heap.size + 2,4,none⟩ = some (.int .i64 r.upto))):=Lib.hid fun t' wt hu=>s_blk hP2 fun j h1 h2=>hu.far (by omega) (hfarS j h1 h2).1 (hfarS j h1 h2).2
 have hP2h:=Lib.hid hP2
 clear hids hxw hful hbo3 hL hpn hfm hf L3 hfull hfarB hgw hgo hA2 hL2 hgn2 hFl hP2 hfarS hWs hboV hom ho HG HSL hV0b hV0s
 go_wp2_with fail
 refine hK.out _ _ hP2h.out (fun hHeld=>?_)
 clear hK K
 refine wpAnyH_ready (rs:=[8]) (by kernel_rfl) (by simp) ?_
 refine AllReadyH.cons rfl (fun K hK=>?_) AllReadyH.nil
 go_simp
 (go_at_call 148; refine HCT.out.mono ?_; rintro e wt hp)
 rcases hp with ⟨er,h1,rfl,h3⟩ | ⟨t',h1,h2,rfl,h3,h4,h5,h6,h7⟩
 ·go_wp2_with fail
  exact ⟨rfl,HEND.out _ _ (.inl ⟨er,h1,rfl,h3⟩)⟩
 ·have HT9:=HS3.out _ _ h3
  have HQ9:=Lib.hid (HEND.out (.returned (.tuple #[])) _ (.inr ⟨t',h1,h2,rfl,h3,h4.more (by omega),h5,h6,h7⟩))
  clear h1 h2 h3 h4 h5 h6 h7
  go_wp2_with fail
  refine hK.out _ _ HT9 (fun hHeld=>?_)
  clear hK K
  refine wpAnyH_done (by kernel_rfl) ?_ _
  go_wp2
  go_end0
  exact HQ9.out
set_option maxRecDepth 1000000 in
set_option maxHeartbeats 8000000 in
theorem field_packed {wo:World} {s:Sc} {vM vE:Value} {A:Option Addr} {c:Nat} {l:List UInt8} {Kb n:Nat} (HT:TakeH wo s vM vE A c l Kb n) (hr0:SlB wo A c l) (hl:l.length ≤ 1000000000) (TW:Wires wo) (hs:SAt wo.heap.size wo s vM vE) (m:Int) (f:Df) (r:Rc) (x:LM) (p:Addr) (k q:Nat) (deep:Int) (w:World) (hkey:f.key = -1) (hrep:f.rep = true) (hw2:r.wire = 2) (hcn:cnt f.kind = true) (hfm:DfMay s f) (hbo:Below wo.heap.size wo w) (hpo:wo.heap.size ≤ p.block) (hp:p.block < w.heap.size) (hsp:p.spot = none) (hc:w.cell? p = some x.v) (hz:w.frozen? p = false) (hL:Lies wo.heap.size k w x.rows) (hpn:p.block ∉ blocks x.rows) (hful:Full s (n + 1) m x) (hf:byS s m f.no = some f) (hf1:r.frm ≤ r.upto) (hf2:r.upto ≤ l.length) (hnum:r.num < 18446744073709551616) (hq:2 ≤ q) (hq1:1 + (r.upto - r.frm) ≤ q) (hq2:r.wire = 2 → 2 + (r.upto - r.frm) ≤ q) (hKb:k + q ≤ Kb) (hKK:Kb ≤ 1000000000) (hdeep:deep + n = 64) (hd0:0 ≤ deep) :
  Calls Tryz.prog 105 #[.agg #[vM,vE,.slice A l.length c],.pointer (some p),.int .i64 m,.agg #[.int .i64 f.no,.string (txt f.name),.int .i64 f.kind,.int .i64 f.ref,.bool f.rep,.int .i64 f.key,.int .i64 f.one],RV r,.int .i64 deep] w fun e w'=>MPost wo s (n + 1) m (k + q) p x (onSlot f.no (packedS f l r) (x.F.map bareS)) w e w':=by
 have hRV:RV r = .agg #[.int .i64 r.no,.int .i64 r.wire,.int .u64 r.num,.int .i64 r.frm,.int .i64 r.upto]:=rfl
 rw [hRV]
 obtain ⟨T1,T2,T3,L3⟩:=three_boxes w (.cells #[vM,vE,.slice A l.length c] 113) (dC f) (.cells #[.int .i64 r.no,.int .i64 r.wire,.int .u64 r.num,.int .i64 r.frm,.int .i64 r.upto] 41)
 obtain ⟨g0,g1,g2,g3,g4,g5,g6⟩:=dc_cells T2
 obtain ⟨s0,s1,s2⟩:=bx3 T1
 obtain ⟨r0,r1,r2,r3,r4⟩:=heap_cells T3
 obtain ⟨W3,hW3⟩:∃ W,W = (((w.alloc (.cells #[vM,vE,.slice A l.length c] 113)).alloc (dC f)).alloc (.cells #[.int .i64 r.no,.int .i64 r.wire,.int .u64 r.num,.int .i64 r.frm,.int .i64 r.upto] 41)):=⟨_,rfl⟩
 have hs3:W3.heap.size = w.heap.size + 3:=by rw [hW3]; simp
 rw [← hW3] at T1 T2 T3 L3
 have hPW:=Lib.hid (show (W3.cell? ⟨w.heap.size,0,none⟩ = some vM ∧ W3.cell? ⟨w.heap.size,1,none⟩ = some vE ∧ W3.cell? ⟨w.heap.size,2,none⟩ = some (.slice A l.length c)) ∧ (W3.cell? ⟨w.heap.size + 1,0,none⟩ = some (.int .i64 f.no) ∧ W3.cell? ⟨w.heap.size + 1,1,none⟩ = some (.string (txt f.name)) ∧ W3.cell? ⟨w.heap.size + 1,2,none⟩ = some (.int .i64 f.kind) ∧ W3.cell? ⟨w.heap.size + 1,3,none⟩ = some (.int .i64 f.ref) ∧ W3.cell? ⟨w.heap.size + 1,4,none⟩ = some (.bool f.rep) ∧ W3.cell? ⟨w.heap.size + 1,5,none⟩ = some (.int .i64 f.key) ∧ W3.cell? ⟨w.heap.size + 1,6,none⟩ = some (.int .i64 f.one)) ∧ (W3.cell? ⟨w.heap.size + 2,0,none⟩ = some (.int .i64 r.no) ∧ W3.cell? ⟨w.heap.size + 2,1,none⟩ = some (.int .i64 r.wire) ∧ W3.cell? ⟨w.heap.size + 2,2,none⟩ = some (.int .u64 r.num) ∧ W3.cell? ⟨w.heap.size + 2,3,none⟩ = some (.int .i64 r.frm) ∧ W3.cell? ⟨w.heap.size + 2,4,none⟩ = some (.int .i64 r.upto)) from ⟨bx3 T1,dc_cells T2,heap_cells T3⟩)
 have hwo:=hbo.size
 have hbo3:=below_then hbo L3
 have hp3:p.block < W3.heap.size:=Nat.lt_of_lt_of_le hp L3.size
 have hids:∀ j ∈ blocks x.rows,wo.heap.size ≤ j:=fun j hj=>(hL.old hj).1
 have hxw:∀ j ∈ blocks x.rows,j < w.heap.size:=fun j hj=>(hL.old hj).2
 have HUWF:Hid (∀ wx,Below W3.heap.size W3 wx → Upd p x.v (blocks x.rows) w wx):=Lib.hid fun wx h=>Upd.after (ids1:=[]) (below_then L3 h) (Upd.refl _ ((h.cell hp3).trans ((L3.cell hp).trans hc)) hsp) (fun _ h=>by cases h)
 have HSLF:Hid (∀ wx,Below W3.heap.size W3 wx → Calls Tryz.prog 149 #[.pointer (some p),.int .i64 f.no] wx fun e w'=>∃ g c l1 t l2,e = .returned (.pointer (some ⟨g,l1.length * 3,none⟩)) ∧ Got1 wo.heap.size (k + 1) p f.no x wx g c l1 t l2 w'):=Lib.hid fun wx h=>slotOf_got (no:=f.no) (w:=wx) (Nat.le_trans hwo (Nat.le_trans L3.size h.size)) (hL.on (below_then L3 h)) ((h.cell hp3).trans ((L3.cell hp).trans hc)) ((h.frozen hp3).trans ((L3.frozen hp).trans hz)) hsp (Nat.lt_of_lt_of_le hp3 h.size) hpn (by omega)
 have HPX:Hid (∀ wx,Below W3.heap.size W3 wx → (wx.cell? ⟨w.heap.size,0,none⟩ = some vM ∧ wx.cell? ⟨w.heap.size,1,none⟩ = some vE ∧ wx.cell? ⟨w.heap.size,2,none⟩ = some (.slice A l.length c)) ∧ (wx.cell? ⟨w.heap.size + 1,0,none⟩ = some (.int .i64 f.no) ∧ wx.cell? ⟨w.heap.size + 1,1,none⟩ = some (.string (txt f.name)) ∧ wx.cell? ⟨w.heap.size + 1,2,none⟩ = some (.int .i64 f.kind) ∧ wx.cell? ⟨w.heap.size + 1,3,none⟩ = some (.int .i64 f.ref) ∧ wx.cell? ⟨w.heap.size + 1,4,none⟩ = some (.bool f.rep) ∧ wx.cell? ⟨w.heap.size + 1,5,none⟩ = some (.int .i64 f.key) ∧ wx.cell? ⟨w.heap.size + 1,6,none⟩ = some (.int .i64 f.one)) ∧ (wx.cell? ⟨w.heap.size + 2,0,none⟩ = some (.int .i64 r.no) ∧ wx.cell? ⟨w.heap.size + 2,1,none⟩ = some (.int .i64 r.wire) ∧ wx.cell? ⟨w.heap.size + 2,2,none⟩ = some (.int .u64 r.num) ∧ wx.cell? ⟨w.heap.size + 2,3,none⟩ = some (.int .i64 r.frm) ∧ wx.cell? ⟨w.heap.size + 2,4,none⟩ = some (.int .i64 r.upto))):=Lib.hid fun wx h=>s_on hPW.out h
 have bk:(f.key != -1) = false:=by rw [hkey]; rfl
 have HRP:=Lib.hid (And.intro hkey (And.intro hrep (And.intro hw2 hcn)))
 have bw:(((r.wire:Nat):Int) == 2) = true:=by rw [hw2]; rfl
 have HIC:=Lib.hid (isCounting_any f.kind W3)
 have h9n:f.kind ≠ 9:=fun e=>by rw [e] at hcn; exact absurd hcn (by decide)
 rw [hrep] at g4
 have HALL:=Lib.hid (And.intro hids (And.intro hxw (And.intro hful (And.intro hbo3 (And.intro hL (And.intro hpn (And.intro hfm (And.intro hf L3))))))))
 clear T1 T2 T3 hc hz hids hxw hful hL hpn hbo3 hfm hf hPW hkey hrep hw2 hcn
 go_enter Tryz.func105,Tryz.ntmps105
 go_wp2_with fail
 rw [← hW3]
 refine HIC.out.mono ?_
 rintro e w1 ⟨rfl,hb1⟩
 rw [HRP.out.2.2.2]
 obtain ⟨⟨s0',s1',s2'⟩,⟨g0',g1',g2',g3',g4',g5',g6'⟩,r0',r1',r2',r3',r4'⟩:=HPX.out _ hb1
 clear hW3 g0 g1 g2 g3 g4 g5 g6 s0 s1 s2 r0 r1 r2 r3 r4
 have hV1:=hb1
 have HB1:=Lib.hid hb1
 clear hb1
 go_wp2_with fail
 refine wp_region_held_drew (S:=(fun wx=>(wx.cell? ⟨w.heap.size,0,none⟩ = some vM ∧ wx.cell? ⟨w.heap.size,1,none⟩ = some vE ∧ wx.cell? ⟨w.heap.size,2,none⟩ = some (.slice A l.length c)) ∧ (wx.cell? ⟨w.heap.size + 1,0,none⟩ = some (.int .i64 f.no) ∧ wx.cell? ⟨w.heap.size + 1,1,none⟩ = some (.string (txt f.name)) ∧ wx.cell? ⟨w.heap.size + 1,2,none⟩ = some (.int .i64 f.kind) ∧ wx.cell? ⟨w.heap.size + 1,3,none⟩ = some (.int .i64 f.ref) ∧ wx.cell? ⟨w.heap.size + 1,4,none⟩ = some (.bool f.rep) ∧ wx.cell? ⟨w.heap.size + 1,5,none⟩ = some (.int .i64 f.key) ∧ wx.cell? ⟨w.heap.size + 1,6,none⟩ = some (.int .i64 f.one)) ∧ (wx.cell? ⟨w.heap.size + 2,0,none⟩ = some (.int .i64 r.no) ∧ wx.cell? ⟨w.heap.size + 2,1,none⟩ = some (.int .i64 r.wire) ∧ wx.cell? ⟨w.heap.size + 2,2,none⟩ = some (.int .u64 r.num) ∧ wx.cell? ⟨w.heap.size + 2,3,none⟩ = some (.int .i64 r.frm) ∧ wx.cell? ⟨w.heap.size + 2,4,none⟩ = some (.int .i64 r.upto)))) (by kernel_rfl) (HPX.out _ hV1.drew) (fun hHeld=>?_)
 refine tk 0 ?_
 refine tk 1 ?_
 refine tk 2 ?_
 refine tk 3 ?_
 refine tk 5 ?_
 refine tk 6 ?_
 obtain ⟨V0,hV0⟩:∃ V,V = w1.drew:=⟨_,rfl⟩
 rw [← hV0]
 have HV0:Hid (Below W3.heap.size W3 V0):=Lib.hid (by rw [hV0]; exact hV1.drew)
 clear hV0 hV1
 have HSL:=Lib.hid (HSLF.out _ HV0.out)
 refine wpAnyH_ready (rs:=[4]) (by kernel_rfl) (by simp) ?_
 refine AllReadyH.cons rfl (fun K hK=>?_) AllReadyH.nil
 go_simp
 (go_at_call 149; refine HSL.out.mono ?_; rintro e V2 ⟨g,c',l1,t,l2,rfl,HG⟩)
 obtain ⟨hids,hxw,hful,hbo3,hL,hpn,hfm,hf,L3⟩:=HALL.out
 have hV0b:=HV0.out
 have hV0s:=hV0b.size
 have hfull:=HG.full hf hful
 have HEND:Hid (∀ (e:Ending) (w':World),SPost wo s n f (k + q) g (l1.length * 3) t (packedS f l r (bareS t)) V2 e w' → MPost wo s (n + 1) m (k + q) p x (onSlot f.no (packedS f l r) (x.F.map bareS)) w e w'):=Lib.hid fun e w' h=>MPost.back (x1:=x) (HUWF.out _ hV0b) hwo hpo hids (fun j hj _=>hj) (Got1.post HG (Nat.le_trans hwo (Nat.le_trans L3.size hV0s)) hpo hsp (Nat.lt_of_lt_of_le hp3 hV0s) hids hf hful (by omega) h)
 have hfarB:∀ j,w.heap.size ≤ j → j < w.heap.size + 3 → V2.heap[j]? = W3.heap[j]? ∧ j ∉ blocks (LM.mk (.slice (some ⟨g,0,none⟩) (l1 ++ t :: l2).length c') (l1 ++ t :: l2)).rows:=fun j h1 h2=>by
  refine ⟨?_,fun h=>by have:=hxw j (HG.old j h (by omega)); omega⟩
  rw [HG.upd.block j (by omega) (fun h=>by have:=hxw j h; omega),setCell_at,hV0b.block j (by omega)]
  cases hj:W3.heap[j]? with
  | none=>rfl
  | some z=>simp only [Option.map_some]; rw [if_neg (by omega)]
 obtain ⟨hgw,hgo,hA2,hL2,hgn2,hFl⟩:=HG.at
 have hP2:(V2.cell? ⟨w.heap.size,0,none⟩ = some vM ∧ V2.cell? ⟨w.heap.size,1,none⟩ = some vE ∧ V2.cell? ⟨w.heap.size,2,none⟩ = some (.slice A l.length c)) ∧ (V2.cell? ⟨w.heap.size + 1,0,none⟩ = some (.int .i64 f.no) ∧ V2.cell? ⟨w.heap.size + 1,1,none⟩ = some (.string (txt f.name)) ∧ V2.cell? ⟨w.heap.size + 1,2,none⟩ = some (.int .i64 f.kind) ∧ V2.cell? ⟨w.heap.size + 1,3,none⟩ = some (.int .i64 f.ref) ∧ V2.cell? ⟨w.heap.size + 1,4,none⟩ = some (.bool f.rep) ∧ V2.cell? ⟨w.heap.size + 1,5,none⟩ = some (.int .i64 f.key) ∧ V2.cell? ⟨w.heap.size + 1,6,none⟩ = some (.int .i64 f.one)) ∧ (V2.cell? ⟨w.heap.size + 2,0,none⟩ = some (.int .i64 r.no) ∧ V2.cell? ⟨w.heap.size + 2,1,none⟩ = some (.int .i64 r.wire) ∧ V2.cell? ⟨w.heap.size + 2,2,none⟩ = some (.int .u64 r.num) ∧ V2.cell? ⟨w.heap.size + 2,3,none⟩ = some (.int .i64 r.frm) ∧ V2.cell? ⟨w.heap.size + 2,4,none⟩ = some (.int .i64 r.upto)):=s_blk (HPX.out _ (Below.refl _ _)) fun j h1 h2=>(hfarB j h1 h2).1
 have hfarS:∀ j,w.heap.size ≤ j → j < w.heap.size + 3 → j ∉ blocks (rowsS t) ∧ g ≠ j:=fun j h1 h2=>⟨fun h3=>(hfarB j h1 h2).2 (by
  rw [rows_of,rowsF_append,rowsF_cons]
  exact blocks_cons_le (mem_three.2 (.inr (.inl h3)))),fun h3=>(hfarB j h1 h2).2 (by
  rw [rows_of,blocks_of]
  exact .inl (by rw [← h3]; rfl))⟩
 have hWs:w.heap.size + 3 ≤ V2.heap.size:=by have h1:=HG.upd.size; omega
 have hboV:Below wo.heap.size wo V2:=hbo.trans ((upd_below (HUWF.out _ hV0b) hwo hpo hids).trans (upd_below HG.upd (Nat.le_trans hwo (Nat.le_trans L3.size hV0s)) hpo hids))
 have hom:l1.length ≤ Kb:=by rw [List.length_append] at hFl; omega
 obtain ⟨o,ho⟩:∃ o,l1.length * 3 = o:=⟨_,rfl⟩
 rw [ho] at hA2 HEND
 have ho9:o ≤ 3000000000:=by omega
 rw [ho]
 have HCT:=Lib.hid (packedL (s:=s) (vM:=vM) (vE:=vE) n f r g o t (k + 1) V2 (hr0.on hboV) hl (by omega) hgw hA2 hL2 hgn2 hf1 hf2 (by omega) h9n)
 have HS3:Hid (∀ (t':SLo LM) wt,UpdS g o t' (blocks (rowsS t)) V2 wt → (wt.cell? ⟨w.heap.size,0,none⟩ = some vM ∧ wt.cell? ⟨w.heap.size,1,none⟩ = some vE ∧ wt.cell? ⟨w.heap.size,2,none⟩ = some (.slice A l.length c)) ∧ (wt.cell? ⟨w.heap.size + 1,0,none⟩ = some (.int .i64 f.no) ∧ wt.cell? ⟨w.heap.size + 1,1,none⟩ = some (.string (txt f.name)) ∧ wt.cell? ⟨w.heap.size + 1,2,none⟩ = some (.int .i64 f.kind) ∧ wt.cell? ⟨w.heap.size + 1,3,none⟩ = some (.int .i64 f.ref) ∧ wt.cell? ⟨w.heap.size + 1,4,none⟩ = some (.bool f.rep) ∧ wt.cell? ⟨w.heap.size + 1,5,none⟩ = some (.int .i64 f.key) ∧ wt.cell? ⟨w.heap.size + 1,6,none⟩ = some (.int .i64 f.one)) ∧ (wt.cell? ⟨w.heap.size + 2,0,none⟩ = some (.int .i64 r.no) ∧ wt.cell? ⟨w.heap.size + 2,1,none⟩ = some (.int .i64 r.wire) ∧ wt.cell? ⟨w.heap.size + 2,2,none⟩ = some (.int .u64 r.num) ∧ wt.cell? ⟨w.heap.size + 2,3,none⟩ = some (.int .i64 r.frm) ∧ wt.cell? ⟨w.heap.size + 2,4,none⟩ = some (.int .i64 r.upto))):=Lib.hid fun t' wt hu=>s_blk hP2 fun j h1 h2=>hu.far (by omega) (hfarS j h1 h2).1 (hfarS j h1 h2).2
 have hP2h:=Lib.hid hP2
 clear hids hxw hful hbo3 hL hpn hfm hf L3 hfull hfarB hgw hgo hA2 hL2 hgn2 hFl hP2 hfarS hWs hboV hom ho HG HSL hV0b hV0s
 go_wp2_with fail
 refine hK.out _ _ hP2h.out (fun hHeld=>?_)
 clear hK K
 refine wpAnyH_ready (rs:=[7]) (by kernel_rfl) (by simp) ?_
 refine AllReadyH.cons rfl (fun K hK=>?_) AllReadyH.nil
 go_simp
 (go_at_call 150; refine HCT.out.mono ?_; rintro e wt hp)
 rcases hp with ⟨er,h1,rfl,h3⟩ | ⟨t',h1,h2,rfl,h3,h4,h5,h6,h7⟩
 ·go_wp2_with fail
  exact ⟨rfl,HEND.out _ _ (.inl ⟨er,h1,rfl,h3⟩)⟩
 ·have HT9:=HS3.out _ _ h3
  have HQ9:=Lib.hid (HEND.out (.returned (.tuple #[])) _ (.inr ⟨t',h1,h2,rfl,h3,h4.more (by omega),h5,h6,h7⟩))
  clear h1 h2 h3 h4 h5 h6 h7
  go_wp2_with fail
  refine hK.out _ _ HT9 (fun hHeld=>?_)
  clear hK K
  refine wpAnyH_done (by kernel_rfl) ?_ _
  go_wp2
  go_end0
  exact HQ9.out
set_option maxRecDepth 1000000 in
set_option maxHeartbeats 8000000 in
theorem field_only1 {wo:World} {s:Sc} {vM vE:Value} {A:Option Addr} {c:Nat} {l:List UInt8} {Kb n:Nat} (HT:TakeH wo s vM vE A c l Kb n) (hr0:SlB wo A c l) (hl:l.length ≤ 1000000000) (TW:Wires wo) (hs:SAt wo.heap.size wo s vM vE) (m:Int) (f:Df) (r:Rc) (x:LM) (p:Addr) (k q:Nat) (deep:Int) (w:World) (hkey:f.key = -1) (hrep:f.rep = false) (hfm:DfMay s f) (hbo:Below wo.heap.size wo w) (hpo:wo.heap.size ≤ p.block) (hp:p.block < w.heap.size) (hsp:p.spot = none) (hc:w.cell? p = some x.v) (hz:w.frozen? p = false) (hL:Lies wo.heap.size k w x.rows) (hpn:p.block ∉ blocks x.rows) (hful:Full s (n + 1) m x) (hf:byS s m f.no = some f) (hf1:r.frm ≤ r.upto) (hf2:r.upto ≤ l.length) (hnum:r.num < 18446744073709551616) (hq:2 ≤ q) (hq1:1 + (r.upto - r.frm) ≤ q) (hq2:r.wire = 2 → 2 + (r.upto - r.frm) ≤ q) (hKb:k + q ≤ Kb) (hKK:Kb ≤ 1000000000) (hdeep:deep + n = 64) (hd0:0 ≤ deep) :
  Calls Tryz.prog 105 #[.agg #[vM,vE,.slice A l.length c],.pointer (some p),.int .i64 m,.agg #[.int .i64 f.no,.string (txt f.name),.int .i64 f.kind,.int .i64 f.ref,.bool f.rep,.int .i64 f.key,.int .i64 f.one],RV r,.int .i64 deep] w fun e w'=>MPost wo s (n + 1) m (k + q) p x (onSlot f.no (onlyS (decM s n) f l r) (leaveL (byS s m) f (x.F.map bareS))) w e w':=by
 have hRV:RV r = .agg #[.int .i64 r.no,.int .i64 r.wire,.int .u64 r.num,.int .i64 r.frm,.int .i64 r.upto]:=rfl
 rw [hRV]
 obtain ⟨T1,T2,T3,L3⟩:=three_boxes w (.cells #[vM,vE,.slice A l.length c] 113) (dC f) (.cells #[.int .i64 r.no,.int .i64 r.wire,.int .u64 r.num,.int .i64 r.frm,.int .i64 r.upto] 41)
 obtain ⟨g0,g1,g2,g3,g4,g5,g6⟩:=dc_cells T2
 obtain ⟨s0,s1,s2⟩:=bx3 T1
 obtain ⟨r0,r1,r2,r3,r4⟩:=heap_cells T3
 obtain ⟨W3,hW3⟩:∃ W,W = (((w.alloc (.cells #[vM,vE,.slice A l.length c] 113)).alloc (dC f)).alloc (.cells #[.int .i64 r.no,.int .i64 r.wire,.int .u64 r.num,.int .i64 r.frm,.int .i64 r.upto] 41)):=⟨_,rfl⟩
 have hs3:W3.heap.size = w.heap.size + 3:=by rw [hW3]; simp
 rw [← hW3] at T1 T2 T3 L3
 have hPW:=Lib.hid (show (W3.cell? ⟨w.heap.size,0,none⟩ = some vM ∧ W3.cell? ⟨w.heap.size,1,none⟩ = some vE ∧ W3.cell? ⟨w.heap.size,2,none⟩ = some (.slice A l.length c)) ∧ (W3.cell? ⟨w.heap.size + 1,0,none⟩ = some (.int .i64 f.no) ∧ W3.cell? ⟨w.heap.size + 1,1,none⟩ = some (.string (txt f.name)) ∧ W3.cell? ⟨w.heap.size + 1,2,none⟩ = some (.int .i64 f.kind) ∧ W3.cell? ⟨w.heap.size + 1,3,none⟩ = some (.int .i64 f.ref) ∧ W3.cell? ⟨w.heap.size + 1,4,none⟩ = some (.bool f.rep) ∧ W3.cell? ⟨w.heap.size + 1,5,none⟩ = some (.int .i64 f.key) ∧ W3.cell? ⟨w.heap.size + 1,6,none⟩ = some (.int .i64 f.one)) ∧ (W3.cell? ⟨w.heap.size + 2,0,none⟩ = some (.int .i64 r.no) ∧ W3.cell? ⟨w.heap.size + 2,1,none⟩ = some (.int .i64 r.wire) ∧ W3.cell? ⟨w.heap.size + 2,2,none⟩ = some (.int .u64 r.num) ∧ W3.cell? ⟨w.heap.size + 2,3,none⟩ = some (.int .i64 r.frm) ∧ W3.cell? ⟨w.heap.size + 2,4,none⟩ = some (.int .i64 r.upto)) from ⟨bx3 T1,dc_cells T2,heap_cells T3⟩)
 have hwo:=hbo.size
 have hbo3:=below_then hbo L3
 have hp3:p.block < W3.heap.size:=Nat.lt_of_lt_of_le hp L3.size
 have hids:∀ j ∈ blocks x.rows,wo.heap.size ≤ j:=fun j hj=>(hL.old hj).1
 have hxw:∀ j ∈ blocks x.rows,j < w.heap.size:=fun j hj=>(hL.old hj).2
 have HUWF:Hid (∀ wx,Below W3.heap.size W3 wx → Upd p x.v (blocks x.rows) w wx):=Lib.hid fun wx h=>Upd.after (ids1:=[]) (below_then L3 h) (Upd.refl _ ((h.cell hp3).trans ((L3.cell hp).trans hc)) hsp) (fun _ h=>by cases h)
 have HSLF:Hid (∀ wx,Below W3.heap.size W3 wx → Calls Tryz.prog 149 #[.pointer (some p),.int .i64 f.no] wx fun e w'=>∃ g c l1 t l2,e = .returned (.pointer (some ⟨g,l1.length * 3,none⟩)) ∧ Got1 wo.heap.size (k + 1) p f.no x wx g c l1 t l2 w'):=Lib.hid fun wx h=>slotOf_got (no:=f.no) (w:=wx) (Nat.le_trans hwo (Nat.le_trans L3.size h.size)) (hL.on (below_then L3 h)) ((h.cell hp3).trans ((L3.cell hp).trans hc)) ((h.frozen hp3).trans ((L3.frozen hp).trans hz)) hsp (Nat.lt_of_lt_of_le hp3 h.size) hpn (by omega)
 have HPX:Hid (∀ wx,Below W3.heap.size W3 wx → (wx.cell? ⟨w.heap.size,0,none⟩ = some vM ∧ wx.cell? ⟨w.heap.size,1,none⟩ = some vE ∧ wx.cell? ⟨w.heap.size,2,none⟩ = some (.slice A l.length c)) ∧ (wx.cell? ⟨w.heap.size + 1,0,none⟩ = some (.int .i64 f.no) ∧ wx.cell? ⟨w.heap.size + 1,1,none⟩ = some (.string (txt f.name)) ∧ wx.cell? ⟨w.heap.size + 1,2,none⟩ = some (.int .i64 f.kind) ∧ wx.cell? ⟨w.heap.size + 1,3,none⟩ = some (.int .i64 f.ref) ∧ wx.cell? ⟨w.heap.size + 1,4,none⟩ = some (.bool f.rep) ∧ wx.cell? ⟨w.heap.size + 1,5,none⟩ = some (.int .i64 f.key) ∧ wx.cell? ⟨w.heap.size + 1,6,none⟩ = some (.int .i64 f.one)) ∧ (wx.cell? ⟨w.heap.size + 2,0,none⟩ = some (.int .i64 r.no) ∧ wx.cell? ⟨w.heap.size + 2,1,none⟩ = some (.int .i64 r.wire) ∧ wx.cell? ⟨w.heap.size + 2,2,none⟩ = some (.int .u64 r.num) ∧ wx.cell? ⟨w.heap.size + 2,3,none⟩ = some (.int .i64 r.frm) ∧ wx.cell? ⟨w.heap.size + 2,4,none⟩ = some (.int .i64 r.upto))):=Lib.hid fun wx h=>s_on hPW.out h
 have bk:(f.key != -1) = false:=by rw [hkey]; rfl
 have hON:Calls Tryz.prog 152 #[.agg #[vM,vE,.slice A l.length c],.pointer (some p),.int .i64 m,.agg #[.int .i64 f.no,.string (txt f.name),.int .i64 f.kind,.int .i64 f.ref,.bool f.rep,.int .i64 f.key,.int .i64 f.one],RV r,.int .i64 deep] W3 fun e w'=>MPost wo s (n + 1) m (k + 1 + (r.upto - r.frm)) p x (onSlot f.no (onlyS (decM s n) f l r) (leaveL (byS s m) f (x.F.map bareS))) W3 e w':=by
  by_cases h1:f.one = 0
  ·exact onlyL0 HT hs m f r x p k deep W3 h1 hfm.k0 hfm.k9 hbo3 hpo hp3 hsp ((L3.cell hp).trans hc) ((L3.frozen hp).trans hz) (hL.on L3) hpn hful hf hf1 hf2 hnum (by omega) hKK hdeep hd0
  ·exact onlyL1 HT hs m f r x p k deep W3 h1 hfm.k0 hfm.k9 hbo3 hpo hp3 hsp ((L3.cell hp).trans hc) ((L3.frozen hp).trans hz) (hL.on L3) hpn hful hf hf1 hf2 hnum (by omega) hKK hdeep hd0
 have HON:=Lib.hid hON
 rw [hRV,hrep] at HON
 rw [hrep] at g4
 have HALL:=Lib.hid (And.intro hids (And.intro hxw (And.intro hful (And.intro hbo3 (And.intro hL (And.intro hpn (And.intro hfm (And.intro hf L3))))))))
 clear T1 T2 T3 hc hz hids hxw hful hL hpn hbo3 hfm hf hPW hkey hrep
 go_enter Tryz.func105,Tryz.ntmps105
 clear hON
 go_wp2_with fail
 rw [← hW3]
 refine HON.out.mono ?_
 intro e wt hp
 obtain ⟨hids,hxw,hful,hbo3,hL,hpn,hfm,hf,L3⟩:=HALL.out
 have hq9:MPost wo s (n + 1) m (k + q) p x (onSlot f.no (onlyS (decM s n) f l r) (leaveL (byS s m) f (x.F.map bareS))) w e wt:=MPost.back (HUWF.out _ (Below.refl _ _)) hwo hpo hids (fun j hj _=>hj) (hp.more (by omega))
 clear hids hxw hful hbo3 hL hpn hfm hf L3
 rcases hp with ⟨er,h1,rfl,h3⟩ | ⟨x',h1,rfl,h3,h4,h5,h6,h7⟩
 ·go_wp2_with fail
  exact ⟨rfl,hq9⟩
 ·have HQ9:=Lib.hid hq9
  clear h1 h3 h4 h5 h6 h7 hq9
  go_wp2
  go_end0
  exact HQ9.out
theorem field_any {wo:World} {s:Sc} {vM vE:Value} {A:Option Addr} {c:Nat} {l:List UInt8} {Kb n:Nat} (HT:TakeH wo s vM vE A c l Kb n) (hr0:SlB wo A c l) (hl:l.length ≤ 1000000000) (TW:Wires wo) (hs:SAt wo.heap.size wo s vM vE) (m:Int) (f:Df) (r:Rc) (x:LM) (p:Addr) (k q:Nat) (deep:Int) (w:World) (hfm:DfMay s f) (hbo:Below wo.heap.size wo w) (hpo:wo.heap.size ≤ p.block) (hp:p.block < w.heap.size) (hsp:p.spot = none) (hc:w.cell? p = some x.v) (hz:w.frozen? p = false) (hL:Lies wo.heap.size k w x.rows) (hpn:p.block ∉ blocks x.rows) (hful:Full s (n + 1) m x) (hf:byS s m f.no = some f) (hf1:r.frm ≤ r.upto) (hf2:r.upto ≤ l.length) (hnum:r.num < 18446744073709551616) (hq:2 ≤ q) (hq1:1 + (r.upto - r.frm) ≤ q) (hq2:r.wire = 2 → 2 + (r.upto - r.frm) ≤ q) (hKb:k + q ≤ Kb) (hKK:Kb ≤ 1000000000) (hdeep:deep + n = 64) (hd0:0 ≤ deep) :
  Calls Tryz.prog 105 #[.agg #[vM,vE,.slice A l.length c],.pointer (some p),.int .i64 m,.agg #[.int .i64 f.no,.string (txt f.name),.int .i64 f.kind,.int .i64 f.ref,.bool f.rep,.int .i64 f.key,.int .i64 f.one],RV r,.int .i64 deep] w fun e w'=>MPost wo s (n + 1) m (k + q) p x (onSlot f.no (slotD n (decM s n) f l r) (if f.key = -1 ∧ f.rep = false then leaveL (byS s m) f (x.F.map bareS) else x.F.map bareS)) w e w':=by
 have hD:slotD n (decM s n) f l r = if f.key ≠ -1 then entryS n (decM s n) f l r else if f.rep = true ∧ r.wire = 2 ∧ cnt f.kind = true then packedS f l r else if f.rep = true then repS (decM s n) f l r else onlyS (decM s n) f l r:=rfl
 rw [hD]
 by_cases hkey:f.key = -1
 ·rw [if_neg (by simpa using hkey)]
  by_cases hrep:f.rep = true
  ·rw [if_neg (show ¬ (f.key = -1 ∧ f.rep = false) by rw [hrep]; simp)]
   by_cases hw2:r.wire = 2
   ·by_cases hcn:cnt f.kind = true
    ·rw [if_pos ⟨hrep,hw2,hcn⟩]
     exact field_packed HT hr0 hl TW hs m f r x p k q deep w hkey hrep hw2 hcn hfm hbo hpo hp hsp hc hz hL hpn hful hf hf1 hf2 hnum hq hq1 hq2 hKb hKK hdeep hd0
    ·rw [if_neg (fun h=>hcn h.2.2),if_pos hrep]
     exact field_rep2 HT hr0 hl TW hs m f r x p k q deep w hkey hrep hw2 (by simpa using hcn) hfm hbo hpo hp hsp hc hz hL hpn hful hf hf1 hf2 hnum hq hq1 hq2 hKb hKK hdeep hd0
   ·rw [if_neg (fun h=>hw2 h.2.1),if_pos hrep]
    exact field_rep1 HT hr0 hl TW hs m f r x p k q deep w hkey hrep hw2 hfm hbo hpo hp hsp hc hz hL hpn hful hf hf1 hf2 hnum hq hq1 hq2 hKb hKK hdeep hd0
  ·have hrep:f.rep = false:=by simpa using hrep
   rw [if_neg (fun h=>by rw [hrep] at h; exact absurd h.1 (by decide)),if_neg (by rw [hrep]; decide),if_pos ⟨hkey,hrep⟩]
   exact field_only1 HT hr0 hl TW hs m f r x p k q deep w hkey hrep hfm hbo hpo hp hsp hc hz hL hpn hful hf hf1 hf2 hnum hq hq1 hq2 hKb hKK hdeep hd0
 ·rw [if_pos hkey,if_neg (fun h=>hkey h.1)]
  exact field_map HT hr0 hl TW hs m f r x p k q deep w hkey hfm hbo hpo hp hsp hc hz hL hpn hful hf hf1 hf2 hnum hq hq1 hq2 hKb hKK hdeep hd0
end Go.Proofs.YtckcojkpghiclaaGreatDoor.T11
