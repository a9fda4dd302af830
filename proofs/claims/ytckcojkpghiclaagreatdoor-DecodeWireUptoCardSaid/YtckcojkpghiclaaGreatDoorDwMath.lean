/-
 The document's answers for numbers of kinds.
-/
import Derived.Test.YtckcojkpghiclaaGreatDoorVarMay
import Derived.Test.YtckcojkpghiclaaGreatDoorConvSmall
import Derived.SizedLaws
import Derived.Test.YtckcojkpghiclaaGreatDoorRows
import Derived.Test.YtckcojkpghiclaaGreatDoorRecOpen
import Derived.Test.YtckcojkpghiclaaGreatDoorTabCode
import Derived.Test.YtckcojkpghiclaaGreatDoorDecNumc
import Derived.Test.YtckcojkpghiclaaGreatDoorEncVal
import Derived.Test.YtckcojkpghiclaaGreatDoorDecUnk
namespace Go.Proofs.YtckcojkpghiclaaGreatDoor
set_option maxRecDepth 100000
open Go.RowKit
theorem rsigned_any (r:Int) (h0:0 ≤ r) (h1:r < 18446744073709551616) (w:World):Calls Tryz.prog 45 #[.int .u64 r] w fun e w'=>e = .returned (.int .i64 (S64 r)) ∧ w = w':=by
 unfold S64
 by_cases h:r < 9223372036854775808
 ·rw [if_pos h]
  go_enter Tryz.func45,Tryz.ntmps45
  go_wp2
  go_ret
  refine ⟨ret_int ?_,rfl⟩
  omega
 ·rw [if_neg h]
  go_enter Tryz.func45,Tryz.ntmps45
  go_wp2
  go_ret
  refine ⟨ret_int ?_,rfl⟩
  omega
theorem rwire_any (k:Int) (w:World):Calls Tryz.prog 24 #[.int .i64 k] w fun e w'=>e = .returned (.int .i64 (wireI k)) ∧ w = w':=by
 go_enter Tryz.func24,Tryz.ntmps24
 go_wp2
 all_goals
  go_ret
  refine ⟨ret_int ?_,rfl⟩
  unfold wireI
  first | (simp_all; done) | (simp_all; omega)
theorem rof_any (k r:Int) (h0:0 ≤ r) (h1:r < 18446744073709551616) (w:World):Calls Tryz.prog 21 #[.int .i64 k,.int .u64 r] w fun e w'=>e = .returned (.tuple #[.int .i64 (ofI k r),.bool (cnt k)]) ∧ w = w':=by
 go_enter Tryz.func21,Tryz.ntmps21
 go_wp2_with (go_at_call 45; refine (rsigned_any r h0 h1 _).mono ?_; rintro e w' ⟨rfl,rfl⟩)
 all_goals
  go_ret2
  refine ⟨?_,rfl⟩
  unfold ofI cnt
  first | (simp_all; done) | (simp_all; omega) | (simp_all [unzigI,S32]; done) | (simp_all [unzigI,S32]; omega)
end Go.Proofs.YtckcojkpghiclaaGreatDoor
namespace Go.Proofs.YtckcojkpghiclaaGreatDoor
set_option maxRecDepth 100000
open Go.ChangeShapes Go.WideShapes Go.ChangeAt Go.RowKit
theorem bytes_u8:Tryz.prog.bytesOf 5 = 1:=by kernel_rfl
theorem open_bytes_sized {H:Type} {enc:TypeId × Value → H} {W:World} {base:Nat} {v:Value} {d:DataW H} {ps:List MemPlace}
  (hval:Value.okWide Tryz.prog W .any base 26 v) (h:DataW.Trod enc Tryz.prog W 0 (fun _=>true) true 26 v d ps)
  (hsz:∀ es sp,d = .slice es sp → (es.length + sp.length) * Tryz.prog.bytesOf 5 ≤ reachBytes) :
  ∃ (A:Option Addr) (c:Nat) (l:List UInt8),v = .slice A l.length c ∧ SlB W A c l ∧ l.length ≤ 140737488351232:=by
 obtain ⟨A,c,l,rfl,hr⟩:=open_bytes hval h
 refine ⟨A,c,l,rfl,hr,?_⟩
 obtain ⟨fuel,hf⟩:=h
 rcases open_ints Tryz.underlying26 Tryz.underlying5 cells_u8 hf with ⟨hcs,hx⟩ | ⟨a,len',cap',zs,hcs,_,hl,hm,hz,hx,hcell,hwz⟩
 ·simp [Value.cells] at hcs
  have:=hcs.2.1
  subst this
  simp
 ·simp [Value.cells] at hcs
  obtain ⟨_,h2,_⟩:=hcs
  simp only [Prod.mk.injEq] at hx
  have:=hsz _ _ hx.1
  rw [bytes_u8] at this
  simp only [lits,List.length_map,List.length_take,List.length_drop,reachBytes] at this
  simp only [if_true] at hz
  omega
theorem bulk_pos {H:Type}:∀ d:DataW H,1 ≤ Rows.uptoBulk d
 | .lit (.string _)=>by simp [Rows.uptoBulk]
 | .lit (.bool _)=>by simp [Rows.uptoBulk]
 | .lit (.int _ _)=>by simp [Rows.uptoBulk]
 | .lit (.float _ _)=>by simp [Rows.uptoBulk]
 | .lit .nil=>by simp [Rows.uptoBulk]
 | .nil=>by simp [Rows.uptoBulk]
 | .ptr _=>by simp [Rows.uptoBulk]
 | .slice _ _=>by simp [Rows.uptoBulk]
 | .agg _=>by simp [Rows.uptoBulk]
 | .iface _ _=>by simp [Rows.uptoBulk]
 | .map _=>by simp [Rows.uptoBulk]
 | .held _=>by simp [Rows.uptoBulk]
theorem bulk_len {H:Type}:∀ l:List (DataW H),l.length ≤ Rows.uptoBulkAll l
 | []=>Nat.zero_le _
 | d :: l=>by
  rw [Rows.uptoBulkAll,List.length_cons]
  have:=bulk_pos d
  have:=bulk_len l
  omega
theorem bulk_in {H:Type}:∀ {l:List (DataW H)} {d:DataW H},d ∈ l → Rows.uptoBulk d ≤ Rows.uptoBulkAll l
 | [],_,h=>by cases h
 | e :: l,d,h=>by
  rw [Rows.uptoBulkAll]
  rcases List.mem_cons.1 h with rfl | h
  ·omega
  ·have:=bulk_in h
   omega
theorem open_bytes_bulk {H:Type} {enc:TypeId × Value → H} {W:World} {base:Nat} {v:Value} {d:DataW H} {ps:List MemPlace}
  (hval:Value.okWide Tryz.prog W .any base 26 v) (h:DataW.Trod enc Tryz.prog W 0 (fun _=>true) true 26 v d ps) :
  ∃ (A:Option Addr) (c:Nat) (l:List UInt8),v = .slice A l.length c ∧ SlB W A c l ∧ l.length ≤ Rows.uptoBulk d:=by
 obtain ⟨A,c,l,rfl,hr⟩:=open_bytes hval h
 refine ⟨A,c,l,rfl,hr,?_⟩
 obtain ⟨fuel,hf⟩:=h
 rcases open_ints Tryz.underlying26 Tryz.underlying5 cells_u8 hf with ⟨hcs,hx⟩ | ⟨a,len',cap',zs,hcs,_,hl,hm,hz,hx,hcell,hwz⟩
 ·simp [Value.cells] at hcs
  have:=hcs.2.1
  subst this
  simp
 ·simp [Value.cells] at hcs
  obtain ⟨_,h2,_⟩:=hcs
  simp only [Prod.mk.injEq] at hx
  rw [hx.1,Rows.uptoBulk]
  have h3:=bulk_len (lits .u8 (zs.take len'):List (DataW H))
  simp only [lits,List.length_map,List.length_take] at h3
  simp only [if_true] at hz
  simp only [lits]
  omega
end Go.Proofs.YtckcojkpghiclaaGreatDoor
namespace Go.Proofs.YtckcojkpghiclaaGreatDoor.T11
set_option maxRecDepth 100000
open Go.RowKit
open Go.Proofs.YtckcojkpghiclaaGreatDoor.T9 Go.Proofs.YtckcojkpghiclaaGreatDoor.T4 Go.Proofs.YtckcojkpghiclaaGreatDoor.T12
theorem taken_big {s:Sc} {m:Int} {l:List UInt8} {x:Mg} (h:ScMay s ∧ 0 ≤ m ∧ m < s.M.length) (hl:l.length ≤ 100000000) (hcn:decM s 64 m l (.mk []) = .ok x → x.cnt ≤ 9000000) (hx:decM s 64 m l (.mk []) = .ok x):isB s 64 m x = true ∧ MIn x ∧ x.cnt ≤ 9000000 ∧ x.deep ≤ 64 ∧ mayT s m x = true:=by
 obtain ⟨h1,h2,h3⟩:=isH h.1 l.length 64 m l (.mk []) x h.2.1 h.2.2 (Nat.le_refl _) (is_none (by decide) h.2.1 h.2.2) (StrL.none _) hx
 refine ⟨h1,isB_in h.1 (by omega) 64 m x h1 h2,hcn hx,isB_deep h.1 64 m x h1,?_⟩
 unfold mayT
 rw [Bool.and_eq_true]
 exact ⟨(@decide_eq_true_iff _ (Classical.propDecidable _)).2 h.1,h1⟩
set_option maxRecDepth 1000000 in
set_option maxHeartbeats 8000000 in
theorem whole_big (B:Nat) {s:Sc} (vM vE:Value) (m:Int) (A:Option Addr) (c:Nat) (l:List UInt8) (w:World) (hv:ScMay s ∧ 0 ≤ m ∧ m < s.M.length) (hl:l.length ≤ 100000000) (hcn:∀ x,decM s 64 m l (.mk []) = .ok x → x.cnt ≤ 9000000) (hB:B ≤ w.heap.size) (hs:SAt B w s vM vE) (hin:ScIn s) (hr:SlB w A c l) (TW:Wires w) (TT:Tabs w) :
  Calls Tryz.prog 36 #[.agg #[vM,vE],.int .i64 m,.slice A l.length c] w fun e w'=>(∃ er:Nat,toldE s m l = .error er ∧ e = .panicked [{ v:=errP er,recovered:=false }] ∧ Below w.heap.size w w') ∨ (∃ X,toldE s m l = .ok X ∧ ∃ A n c,e = .returned (.agg #[.slice A n c]) ∧ T9.MAt (Ow w.heap.size w') 64 X [.slice A n c] ∧ Below w.heap.size w w'):=by
 obtain ⟨X1,X2,LBD⟩:=two_boxes w (.cells #[vM,vE] 25) (.cells #[.slice none 0 0] 31)
 have HMAY:=Lib.hid (may_any B s vM vE _ (Nat.le_trans hB LBD.size) (SAt.lo hs LBD hB) hin (TT.on LBD))
 have HST:=Lib.hid (fun wx (h:Below w.heap.size w wx)=>And.intro (SAt.lo hs h hB) (And.intro (hr.on h) (And.intro (TW.on h) (TT.on h))))
 obtain ⟨A1,q1,A2,q2,rfl,rfl⟩:=sat_shape hs
 obtain ⟨x1,x2⟩:=box2' X1
 have HX:=Lib.hid (And.intro X1 (And.intro X2 LBD))
 have d1:decide ((0:Int) ≤ m) = true:=decide_eq_true hv.2.1
 have d2:decide (m < (s.M.length:Int)) = true:=decide_eq_true hv.2.2
 have hT:=told_of (l:=l) hv
 have hTK:=fun x=>taken_big (x:=x) hv hl (hcn x)
 have HV:=Lib.hid (And.intro hv (And.intro hT hTK))
 clear hs hr TW TT X1 X2 LBD hv hT hTK
 go_enter Tryz.func36,Tryz.ntmps36
 go_wp2_with fail
 refine HMAY.out.mono ?_
 rintro e w1 ⟨b,rfl,hb,hb1⟩
 obtain rfl:=hb.2 HV.out.1.1
 clear hb
 have hw01:=below_then HX.out.2.2 hb1
 have hsz1:w.heap.size + 2 ≤ w1.heap.size:=by
  have h1:=hb1.size
  have h2:((w.alloc (.cells #[.slice A1 s.M.length q1,.slice A2 s.E.length q2] 25)).alloc (.cells #[.slice none 0 0] 31)).heap.size = w.heap.size + 2:=by simp
  exact h2 ▸ h1
 have X1':=box_on HX.out.1 hb1
 have X2':=box_on HX.out.2.1 hb1
 obtain ⟨x1,x2⟩:=box2' X1'
 have HW:=Lib.hid (And.intro hw01 (And.intro X1' (And.intro X2' hsz1)))
 clear HMAY X1' X2' hb1 hw01 hsz1
 go_wp2_with fail
 refine (must_yes _ _).mono ?_
 rintro e w1' ⟨rfl,rfl⟩
 obtain ⟨hw01,X1',X2',hsz1⟩:=HW.out
 have N2:=below_new w1' (.cells #[.slice none 0 0] 31)
 have Z2:=heap_alloc_new w1' (.cells #[.slice none 0 0] 31)
 obtain ⟨k1,k2,k3,k4⟩:=HST.out _ hw01
 have hrw:(LM.mk (.slice none 0 0) []).rows = [⟨67,3,.slice none 0 0,0,[]⟩]:=rows_empty _
 have hLr:∀ wx:World,Lies w1'.heap.size 0 wx (LM.mk (.slice none 0 0) []).rows:=fun wx=>by
  rw [hrw]
  exact ⟨fun q hq=>by obtain rfl:=List.mem_singleton.1 hq; exact ⟨World.ownsRow_nil _ _ _ _,Nat.le_refl _⟩,by simp [blocks,Value.ownBlock]⟩
 have hbr:blocks (LM.mk (.slice none 0 0) []).rows = []:=by rw [hrw]; simp [blocks,Value.ownBlock]
 have hfz:(w1'.alloc (.cells #[.slice none 0 0] 31)).frozen? ⟨w1'.heap.size,0,none⟩ = false:=by unfold World.frozen?; rw [Z2]; simp
 have hM:=msgH (wo:=w1') (K:=l.length) k2 (by omega) k3 (SAt.mono k1 (Nat.le_trans hB hw01.size)) HV.out.1.1 (by omega) 64 (Nat.le_refl _) m (LM.mk (.slice none 0 0) []) ⟨w1'.heap.size,0,none⟩ 0 l.length 1 0 (w1'.alloc (.cells #[.slice none 0 0] 31)) N2 (Nat.le_refl _) (by simp) rfl (bx1 Z2) hfz (hLr _) (by rw [hbr]; simp) (full_empty s _ 64 m) (Nat.zero_le _) (Nat.le_refl _) (by omega) (by decide) (by decide)
 rw [hbr,bare_empty,List.drop_zero,Nat.sub_zero,List.take_length] at hM
 have HM:=Lib.hid hM
 obtain ⟨y1,y2⟩:=box2' (box_on X1' N2)
 have HN:=Lib.hid (And.intro N2 Z2)
 clear x1 x2 k1 k2 k3 k4 Z2 N2 X1' X2' hw01 hsz1 hM hrw hLr hbr hfz
 go_wp2_with fail
 refine HM.out.mono ?_
 rintro e w2 (⟨er,h1,rfl,h3⟩ | ⟨x',h1,rfl,h3,h4,h5,h6,h7⟩)
 ·go_wp2_with fail
  obtain ⟨hw01,X1',X2',hsz1⟩:=HW.out
  refine ⟨rfl,.inl ⟨er,by rw [HV.out.2.1,h1],rfl,hw01.trans ((HN.out.1.mono hw01.size).trans (h3.mono hw01.size))⟩⟩
 ·obtain ⟨hw01,X1',X2',hsz1⟩:=HW.out
  obtain ⟨t1,t2,t3,t4,t5⟩:=HV.out.2.2 x'.bare h1
  have hub:Below w1'.heap.size (w1'.alloc (.cells #[.slice none 0 0] 31)) w2:=upd_below h3 (by simp) (Nat.le_refl _) (fun k hk=>by cases hk)
  have hb12:=HN.out.1.trans hub
  have hgx:w2.heap[w1'.heap.size]? = some (.cells #[x'.v] 31 (0,0)):=by
   rw [h3.block _ (by simp) (by simp),setCell_at,HN.out.2]
   simp
  have hmat:=LM.mat (b:=w1'.heap.size) (by omega) 64 x' t4 (fun r hr=>h4.own r hr)
  obtain ⟨As,cs,hxv⟩:=msg_shape hmat
  have hb02:=below_then hw01 hb12
  obtain ⟨k1,-,-,k4⟩:=HST.out _ hb02
  have HNO:=tnormal_ow hin w2.heap.size 64 _ _ m x'.bare _ w2 (Nat.le_refl _) (SAt.mono k1 (Nat.le_trans hB hb02.size)) (own_rd hmat) t2 (by omega) k4 t5
  rw [hxv] at HNO hgx
  have HNO:=Lib.hid HNO
  obtain ⟨y1,y2⟩:=box2' (box_on X1' hb12)
  have c3:=bx1 hgx
  have HW:=Lib.hid (And.intro hb02 (And.intro (box_on X2' hb12) (And.intro hsz1 (And.intro hb12 h1))))
  clear hb12 hb02 k1 k4 hgx hmat hw01 X1' X2' hsz1 HN HM h1 h3 h4 h5 h6 h7 hub t1 t2 t3 t4 t5 hxv
  go_wp2_with fail
  refine HNO.out.mono ?_
  rintro e w3 ⟨An,nn,cn,rfl,hm3,hb3⟩
  obtain ⟨hb02,X2',hsz1,hb12,h1⟩:=HW.out
  have N4:=below_new w3 (.cells #[.slice An nn cn] 31)
  have Z4:=heap_alloc_new w3 (.cells #[.slice An nn cn] 31)
  have z4:=bx1 Z4
  have Y2:=box_on (box_on X2' hb3) N4
  have c2:=bx1 Y2
  have f2:(w3.alloc (.cells #[.slice An nn cn] 31)).frozen? ⟨w.heap.size + 1,0,none⟩ = false:=by simp [World.frozen?,Y2]
  obtain ⟨Z1,G1⟩:=cell1 Y2 (.slice An nn cn)
  have hb04:=below_then (below_then hb02 hb3) N4
  have hsw:w.heap.size + 1 < w2.heap.size:=by have:=hb12.size; omega
  have hbz:=hb04.trans (below_own G1 (by omega) (by have:=hb3.size; have:=N4.size; omega))
  have hmz:=T9.MAt.imp (Ow.hi' (hi_grown G1 (b:=w2.heap.size + 3) (by omega)) (b':=w.heap.size) (by omega)) 64 _ _ (T9.MAt.imp (Ow.hi (hi_below _ N4)) 64 _ _ hm3)
  have HZ:=Lib.hid (And.intro hbz (And.intro hmz (show toldE s m l = .ok (norB s 64 m x'.bare) by rw [HV.out.2.1,h1])))
  clear hb02 X2' hsz1 hb12 N4 Z4 Y2 G1 hb04 hsw hbz hmz hm3 hb3 y1 y2 c3 HNO h1
  go_wp2
  refine bodyPost_ret (results_cell_row rfl _ _ (w.heap.size + 1) _ _ (0,0) _ rfl Z1 Tryz.underlying31 rfl sz_msg) rfl ?_
  exact .inr ⟨_,HZ.out.2.2,An,nn,cn,rfl,HZ.out.2.1,HZ.out.1⟩
theorem decode_big (B:Nat) {s:Sc} (vM vE:Value) (m:Int) (A:Option Addr) (c:Nat) (l:List UInt8) (w:World) (hl:l.length ≤ 100000000) (hcn:(ScMay s ∧ 0 ≤ m ∧ m < s.M.length) → ∀ x,decM s 64 m l (.mk []) = .ok x → x.cnt ≤ 9000000) (hB:B ≤ w.heap.size) (hs:SAt B w s vM vE) (hin:ScIn s) (hr:SlB w A c l) (TW:Wires w) (TT:Tabs w) :
  Calls Tryz.prog 14 #[.agg #[vM,vE],.int .i64 m,.slice A l.length c] w fun e w'=>((∃ er:Nat,toldE s m l = .error er ∧ e = .returned (.tuple #[.agg #[.slice none 0 0],.int .i64 (er:Nat)])) ∨ (∃ X,toldE s m l = .ok X ∧ ∃ A n c,e = .returned (.tuple #[.agg #[.slice A n c],.int .i64 0]) ∧ T9.MAt (Ow w.heap.size w') 64 X [.slice A n c])) ∧ Below w.heap.size w w':=by
 cases hD:toldE s m l with
 | error er =>
  refine (decode_err vM vE m A l.length c er w (fun wx hx=>?_)).mono ?_
  ·by_cases hv:ScMay s ∧ 0 ≤ m ∧ m < s.M.length
   ·refine (whole_big B vM vE m A c l wx hv hl (hcn hv) (Nat.le_trans hB hx.size) (SAt.lo hs hx hB) hin (hr.on hx) (TW.on hx) (TT.on hx)).mono ?_
    rintro e w' (⟨er',h1,rfl,h2⟩ | ⟨X,h1,-⟩)
    ·rw [hD] at h1
     obtain rfl:=Except.error.inj h1
     exact ⟨rfl,h2⟩
    ·rw [hD] at h1; cases h1
   ·have h1:=told_not (l:=l) hv
    rw [hD] at h1
    obtain rfl:=Except.error.inj h1
    exact whole_bad B vM vE m A l.length c wx hv (Nat.le_trans hB hx.size) (SAt.lo hs hx hB) hin (TT.on hx)
  ·rintro e w' ⟨rfl,hb⟩
   exact ⟨.inl ⟨er,rfl,rfl⟩,hb⟩
 | ok X =>
  have hv:ScMay s ∧ 0 ≤ m ∧ m < s.M.length:=Classical.byContradiction fun h=>by rw [told_not h] at hD; cases hD
  refine (decode_ok vM vE m A l.length c (fun b v wa=>T9.MAt (Ow b wa) 64 X [v]) w (fun b v wa wb k hk h hg=>T9.MAt.imp (Ow.hi (hi_grown hg hk)) 64 X _ h) (fun wx hx hsz=>?_)).mono ?_
  ·refine (whole_big B vM vE m A c l wx hv hl (hcn hv) (Nat.le_trans hB hx.size) (SAt.lo hs hx hB) hin (hr.on hx) (TW.on hx) (TT.on hx)).mono ?_
   rintro e w' (⟨er',h1,-⟩ | ⟨Y,h1,A',n',c',rfl,h2,h3⟩)
   ·rw [hD] at h1; cases h1
   ·rw [hD] at h1
    obtain rfl:=Except.ok.inj h1
    exact ⟨⟨A',n',c',rfl,h2⟩,h3⟩
  ·rintro e w' ⟨⟨A',n',c',rfl,b,hb,h2⟩,h3⟩
   exact ⟨.inr ⟨X,rfl,A',n',c',rfl,T9.MAt.imp (fun e size v n xs h=>⟨own_less2 h.1 (by omega),h.2⟩) 64 X _ h2⟩,h3⟩
end Go.Proofs.YtckcojkpghiclaaGreatDoor.T11
namespace Go.Proofs.YtckcojkpghiclaaGreatDoor.T12
set_option maxRecDepth 100000
open Go.Proofs.YtckcojkpghiclaaGreatDoor.T9 Go.Proofs.YtckcojkpghiclaaGreatDoor.T4
end Go.Proofs.YtckcojkpghiclaaGreatDoor.T12
namespace Go.Proofs.YtckcojkpghiclaaGreatDoor
set_option maxRecDepth 100000
open Go.RowKit
def numQ (wire:Nat) (num:Nat) (run:List UInt8):Nat:=if wire = 2 then run.length else if wire = 5 then num % 4294967296 else num
def headL (no wire:Int) (run:List UInt8):Nat:=(putL no wire).length + (if wire = 2 then (vput run.length).length else 0)
theorem tells_put {no wire:Nat} (h:putB no wire = true):tellsN (putN no wire) = (no,wire,0):=by
 obtain ⟨h1,h2,h3⟩:=tellsN_yes h
 generalize tellsN (putN no wire) = x at *
 obtain ⟨a,b,c⟩:=x
 simp only [Prod.mk.injEq]
 simp only at h1 h2 h3
 omega
theorem wire_nat {wire:Nat} {no:Nat} (h:putB no wire = true):wire = 0 ∨ wire = 1 ∨ wire = 2 ∨ wire = 5:=by
 have:=(putB_iff.1 h).2
 omega
theorem wnum_put {wire num:Nat} {run t:List UInt8} (hw:wire = 0 ∨ wire = 1 ∨ wire = 5) (hn:num < 18446744073709551616):wnum wire (restL wire num run ++ t) = (numQ wire num run,(restL wire num run).length,0):=by
 rcases hw with rfl | rfl | rfl
 ·have hr:restL ((0:Nat):Int) num run = vput num:=by simp [restL]
  rw [hr]
  unfold wnum numQ
  rw [if_neg (by decide),if_neg (by decide),if_neg (by decide),if_neg (by decide)]
  exact vget_vput hn t
 ·have hr:restL ((1:Nat):Int) num run = fixb num 8:=by simp [restL]
  rw [hr]
  unfold wnum numQ wfix
  rw [if_pos rfl,if_neg (show ¬ (fixb num 8 ++ t).length < 8 by rw [List.length_append,fixb_length]; omega),if_neg (by decide),if_neg (by decide),List.take_left' (fixb_length _ _),fixn_fixb,fixb_length]
  rw [Nat.mod_eq_of_lt (by omega)]
 ·have hr:restL ((5:Nat):Int) num run = fixb num 4:=by simp [restL]
  rw [hr]
  unfold wnum numQ wfix
  rw [if_neg (show ¬ 5 = 1 by decide),if_pos rfl,if_neg (show ¬ (fixb num 4 ++ t).length < 4 by rw [List.length_append,fixb_length]; omega),if_neg (show ¬ 5 = 2 by decide),if_pos rfl,List.take_left' (fixb_length _ _),fixn_fixb,fixb_length]
theorem wnext_put {no wire:Nat} (h:putB no wire = true) {num:Nat} (hn:num < 18446744073709551616) {run:List UInt8} (hr:run.length < 18446744073709551616) (t:List UInt8) :
  wnext (recL no wire num run ++ t) = (⟨no,wire,numQ wire num run,headL no wire run,(recL no wire num run).length⟩,(recL no wire num run).length,0):=by
 have hl:=putN_lt h
 have ht:=tells_put h
 rw [recL_yes h]
 have hp:putL no wire = vput (putN no wire):=putL_yes h
 have hv:vget (putL no wire ++ restL wire num run ++ t) = (putN no wire,(putL no wire).length,0):=by
  rw [hp,List.append_assoc]; exact vget_vput (by omega) _
 have hd:(putL no wire ++ restL wire num run ++ t).drop (putL no wire).length = restL wire num run ++ t:=by rw [List.append_assoc,List.drop_left]
 by_cases h2:wire = 2
 ·subst h2
  have hq:restL ((2:Nat):Int) num run = vput run.length ++ run:=by simp [restL]
  have hw:wnum 2 ((putL no (2:Nat) ++ restL (2:Nat) num run ++ t).drop (putL no (2:Nat)).length) = (run.length,(vput run.length).length,0):=by
   rw [hd,hq]
   unfold wnum
   rw [if_neg (by decide),if_neg (by decide),List.append_assoc]
   exact vget_vput hr _
  rw [wnext_of hv ht hw]
  have e1:numQ 2 num run = run.length:=by simp [numQ]
  have e2:headL no (2:Nat) run = (putL no (2:Nat)).length + (vput run.length).length:=by simp [headL]
  unfold wrun
  rw [e1,e2,if_pos rfl,hq,if_pos (by simp only [List.length_append]; omega)]
  simp only [Prod.mk.injEq,Rc.mk.injEq,true_and,and_true,List.length_append]
  omega
 ·have h3:wire = 0 ∨ wire = 1 ∨ wire = 5:=by have:=wire_nat h; omega
  have hw:wnum wire ((putL no wire ++ restL wire num run ++ t).drop (putL no wire).length) = (numQ wire num run,(restL wire num run).length,0):=by
   rw [hd]; exact wnum_put h3 hn
  rw [wnext_of hv ht hw]
  have e2:headL no wire run = (putL no wire).length:=by unfold headL; rw [if_neg (by omega)]; rfl
  unfold wrun
  rw [e2,if_neg h2]
  simp only [Prod.mk.injEq,Rc.mk.injEq,true_and,and_true,List.length_append]
end Go.Proofs.YtckcojkpghiclaaGreatDoor
namespace Go.Proofs.YtckcojkpghiclaaGreatDoor.T12
set_option maxRecDepth 100000
open Go.Proofs.YtckcojkpghiclaaGreatDoor.T9 Go.Proofs.YtckcojkpghiclaaGreatDoor.T4
end Go.Proofs.YtckcojkpghiclaaGreatDoor.T12
namespace Go.Proofs.YtckcojkpghiclaaGreatDoor.T11
set_option maxRecDepth 100000
open Go.Proofs.YtckcojkpghiclaaGreatDoor.T9 Go.Proofs.YtckcojkpghiclaaGreatDoor.T4 Go.Proofs.YtckcojkpghiclaaGreatDoor.T12
def hdR (no wire num:Nat) (run:List UInt8):Rc:=⟨no,wire,numQ wire num run,headL no wire run,(recL no wire num run).length⟩
end Go.Proofs.YtckcojkpghiclaaGreatDoor.T11
namespace Go.Proofs.YtckcojkpghiclaaGreatDoor.T11
set_option maxRecDepth 100000
open Go.RowKit
open Go.Proofs.YtckcojkpghiclaaGreatDoor.T9 Go.Proofs.YtckcojkpghiclaaGreatDoor.T4 Go.Proofs.YtckcojkpghiclaaGreatDoor.T12
theorem onSlot_bad {no:Int} {g:So → Except Nat So} {e:Nat} (hg:∀ t,g t = .error e):∀ l,onSlot no g l = .error e
 | []=>by unfold onSlot; rw [hg]; rfl
 | t :: l=>by
  unfold onSlot
  split
  ·rw [hg]; rfl
  ·rw [onSlot_bad hg l]; rfl
def wantI (f:Df):Int:=if f.key ≠ -1 then 2 else wireI f.kind
theorem slot_wire {n:Nat} {sub:Int → List UInt8 → Mg → Except Nat Mg} {f:Df} {d:List UInt8} {r:Rc} (hw:(r.wire:Int) ≠ wantI f) (hp:¬ (f.rep = true ∧ cnt f.kind = true ∧ r.wire = 2)) (t:So):slotD n sub f d r t = .error 8:=by
 unfold slotD
 unfold wantI at hw
 by_cases hk:f.key ≠ -1
 ·rw [if_pos hk] at hw ⊢
  unfold entryS
  rw [if_pos (show r.wire ≠ 2 by omega)]
 ·rw [if_neg hk] at hw ⊢
  rw [if_neg (fun h=>hp ⟨h.1,h.2.2,h.2.1⟩)]
  have ht:∀ v,takeV sub f.kind f.ref d r v = .error 8:=fun v=>by
   unfold takeV
   rw [if_pos hw]
  split
  ·unfold repS; rw [ht]; rfl
  ·unfold onlyS; rw [ht]; rfl
theorem wire_told {s:Sc} {m:Int} {l run:List UInt8} {no wire num:Nat} (hp:putB no wire = true) (hn:num < 18446744073709551616) (hr:run.length < 18446744073709551616) {f:Df} (hf:byS s m no = some f) (h0:codeE (toldE s m l) = 0)
  (hw:(wire:Int) ≠ wantI f) (hnp:¬ (f.rep = true ∧ cnt f.kind = true ∧ wire = 2)):codeE (toldE s m (l ++ recL no wire num run)) = 8:=by
 cases h:toldE s m l with
 | error e =>
  rw [h] at h0
  have h0:e = 0:=h0
  have:=told_cd h
  unfold Cd at this
  omega
 | ok X =>
  have hv:ScMay s ∧ 0 ≤ m ∧ m < s.M.length:=Classical.byContradiction fun g=>by rw [told_not g] at h; cases h
  rw [told_of hv] at h ⊢
  cases hx:decM s 64 m l (.mk []) with
  | error e=>rw [hx] at h; cases h
  | ok x =>
   rw [decM_append s 64 m l _ _ x hx]
   have hd:decM s 64 m (recL no wire num run) x = .error 8:=by
    show mapE _ (decR (fieldD (byS s m) 63 (decM s 63)) (recL no wire num run) x.F) = _
    have hwn:=wnext_put (run:=run) hp hn hr []
    rw [List.append_nil] at hwn
    rw [decR_cons _ x.F hwn]
    have hg:fieldD (byS s m) 63 (decM s 63) (recL no wire num run) (hdR no wire num run) x.F = .error 8:=by
     unfold fieldD
     show (match byS s m ((hdR no wire num run).no:Int) with | none=>_ | some f=>_) = _
     rw [show ((hdR no wire num run).no:Int) = no from rfl,hf]
     exact onSlot_bad (slot_wire hw hnp) _
    have hg2:fieldD (byS s m) 63 (decM s 63) (recL no wire num run) ⟨no,wire,numQ wire num run,headL no wire run,(recL no wire num run).length⟩ x.F = .error 8:=hg
    rw [hg2]
    rfl
   rw [hd]
   rfl
theorem dec_wide {s:Sc} (vM vE:Value) (m:Int) (A:Option Addr) (c n z:Nat) (l:List UInt8) (w:World) (hn:l.length = n) (hz:codeE (toldE s m l) = z) (hl:n ≤ 1100000) (hs:SAt w.heap.size w s vM vE) (hin:ScIn s) (hr:SlB w A c l) (TW:Wires w) (TT:Tabs w) :
  Calls Tryz.prog 14 #[.agg #[vM,vE],.int .i64 m,.slice A n c] w fun e w'=>(∃ A n c,e = .returned (.tuple #[.agg #[.slice A n c],.int .i64 z])) ∧ Below w.heap.size w w':=by
 subst hn
 refine (decode_big w.heap.size vM vE m A c l w (by omega) (fun hv x hx=>?_) (Nat.le_refl _) hs hin hr TW TT).mono ?_
 ·obtain ⟨-,-,h3⟩:=isH hv.1 1100000 64 m l (.mk []) x hv.2.1 hv.2.2 hl (is_none (by decide) hv.2.1 hv.2.2) (StrL.none _) hx
  have h5:(Mg.mk []).cnt = 0:=by simp [Mg.cnt_eq,Mg.F,sm]
  omega
 ·rintro e w' ⟨⟨er,h,rfl⟩ | ⟨X,h,A',n',c',rfl,-⟩,hb⟩
  ·rw [h] at hz
   obtain rfl:er = z:=hz
   exact ⟨⟨_,_,_,rfl⟩,hb⟩
  ·rw [h] at hz
   obtain rfl:0 = z:=hz
   exact ⟨⟨_,_,_,rfl⟩,hb⟩
end Go.Proofs.YtckcojkpghiclaaGreatDoor.T11
