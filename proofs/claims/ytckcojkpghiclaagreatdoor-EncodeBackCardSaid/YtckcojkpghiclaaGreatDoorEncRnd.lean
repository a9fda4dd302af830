/-
 No two normal messages of one message have the same bytes.
-/
import Derived.Test.YtckcojkpghiclaaGreatDoorRecOne
import Derived.Test.YtckcojkpghiclaaGreatDoorDecMath
import Derived.Test.YtckcojkpghiclaaGreatDoorEncVal
namespace Go.Proofs.YtckcojkpghiclaaGreatDoor.T12
set_option maxRecDepth 100000
open Go.Proofs.YtckcojkpghiclaaGreatDoor.T9 Go.Proofs.YtckcojkpghiclaaGreatDoor.T4
theorem run_inj {no:Int} (hno:1≤no∧no≤536870911) {x y:List UInt8} (hx:x.length < 18446744073709551616) (hy:y.length < 18446744073709551616) (e:runL no x = runL no y):x = y:=by
 obtain ⟨nn,rfl⟩:=Int.eq_ofNat_of_zero_le (show 0≤no by omega)
 have hp2:putB (nn:Int) ((2:Nat):Int) = true:=put_run hno
 have h:=(recL_iff (wire:=2) (wire':=2) hp2 hp2 (n:=0) (m:=0) (by omega) (by omega) hx hy).1 e
 unfold oneQ at h
 simpa using h.2.2
theorem wire_cases {k:Int} (h:cnt k = true):∃ wn:Nat,wireI k = wn∧(wn = 0∨wn = 1∨wn = 5)∧(wn = 5→k = 4):=by
 rcases seven_cnt h with rfl | rfl | rfl | rfl | rfl | rfl | rfl
 ·exact ⟨0,by decide,by omega,by omega⟩
 ·exact ⟨0,by decide,by omega,by omega⟩
 ·exact ⟨0,by decide,by omega,by omega⟩
 ·exact ⟨0,by decide,by omega,by omega⟩
 ·exact ⟨5,by decide,by omega,by omega⟩
 ·exact ⟨1,by decide,by omega,by omega⟩
 ·exact ⟨0,by decide,by omega,by omega⟩
theorem bits_low {n:Int} (h:fitsB 4 n = true):(bitsI 4 n).toNat < 4294967296:=by
 unfold bitsI
 rw [if_pos h]
 unfold fitsB at h
 simp at h
 unfold U64
 simp
 split <;> omega
theorem numQ_inj {kind n m:Int} (hn:inI n) (hm:inI m) (fn:fitsB kind n = true) (fm:fitsB kind m = true) {wn:Nat} (hw:wireI kind = wn) (h015:wn = 0∨wn = 1∨wn = 5) (h5:wn = 5→kind = 4) (e:numQ wn (bitsI kind n).toNat [] = numQ wn (bitsI kind m).toNat []):n = m:=by
 have e2:(bitsI kind n).toNat = (bitsI kind m).toNat:=by
  unfold numQ at e
  have h2:¬ wn = 2:=by omega
  simp only [if_neg h2] at e
  by_cases hw5:wn = 5
  ·obtain rfl:=h5 hw5
   have h1:=bits_low fn
   have h2:=bits_low fm
   simp only [if_pos hw5] at e
   omega
  ·simp only [if_neg hw5] at e
   exact e
 have b1:=bitsI_bound kind (n:=n) hn.1 hn.2
 have b2:=bitsI_bound kind (n:=m) hm.1 hm.2
 have e3:bitsI kind n = bitsI kind m:=by omega
 have h:=bits_one hn.1 hn.2 hm.1 hm.2 fn fm
 rw [e3] at h
 simpa using h.symm
theorem ask_fits {G:Int→Mg→Bool} {kind ref:Int} {v:Vl'} (h:askG G kind ref v = true) (hc:cnt kind = true):fitsB kind v.n = true∧v.s = []∧v.M = []:=by
 have:=seven_cnt hc
 unfold askG at h
 rw [if_neg (by omega),if_neg (by omega),if_neg (by omega)] at h
 simp only [Bool.and_eq_true,List.isEmpty_iff] at h
 exact ⟨h.1,h.2.1,h.2.2⟩
theorem vl_ext {v w:Vl'} (h1:v.n = w.n) (h2:v.s = w.s) (h3:v.M = w.M):v = w:=by
 cases v;cases w;simp_all
structure OkI (s:Sc) (d:Nat) (kind ref:Int) (v:Vl'):Prop where
 ask:askG (isB s d) kind ref v = true
 nor:norV (norB s d) ref v = v
 in_:VIn v
 few:40 * cV v+tV v≤35184372088832
def InjH (s:Sc) (d:Nat):Prop:=∀ m p q,isB s d m p = true→isB s d m q = true→norB s d m p = p→norB s d m q = q→MIn p→MIn q→40 * p.cnt+Mg.txt p≤35184372088832→40 * q.cnt+Mg.txt q≤35184372088832→encB s d m p = encB s d m q→p = q
theorem OkI.msg {s:Sc} {d:Nat} {ref:Int} {v:Vl'} (h:OkI s d 9 ref v):∃ x,v = ⟨0,[],[x]⟩∧isB s d ref x = true∧norB s d ref x = x∧MIn x∧40 * x.cnt+Mg.txt x≤35184372088832:=by
 obtain ⟨h1,h2,x,hx,hg⟩:=ask_nine h.ask
 have hn:=congrArg VV.M h.nor
 unfold norV at hn
 simp only [hx,List.map_cons,List.map_nil,List.cons.injEq,and_true] at hn
 have h3:=sm_mem (g:=Mg.txt) (show x∈v.M by rw [hx];simp)
 have h4:=cnt_le (v:=v) (x:=x) (by rw [hx];simp)
 have h5:tV v = v.s.length+sm (v.M.map Mg.txt):=rfl
 have h6:=h.few
 exact ⟨x,vl_ext h1 h2 hx,hg,hn,h.in_.2 x (by rw [hx];simp),by omega⟩
theorem val_inj {s:Sc} {d:Nat} (H:InjH s d) {kind ref no:Int} {v w:Vl'} (hv:OkI s d kind ref v) (hw:OkI s d kind ref w) (hno:1≤no∧no≤536870911) (e:valL (encB s d) kind ref no v = valL (encB s d) kind ref no w):v = w:=by
 unfold valL at e
 by_cases h9:kind = 9
 ·subst h9
  obtain ⟨x,rfl,g1,n1,i1,f1⟩:=hv.msg
  obtain ⟨y,rfl,g2,n2,i2,f2⟩:=hw.msg
  have l1:=enc_len s d ref x i1 (by omega)
  have l2:=enc_len s d ref y i2 (by omega)
  rw [if_pos rfl,if_pos rfl] at e
  have:=run_inj hno (show (encB s d ref x).length < _ by omega) (show (encB s d ref y).length < _ by omega) e
  rw [H ref x y g1 g2 n1 n2 i1 i2 f1 f2 this]
 ·rw [if_neg h9,if_neg h9] at e
  by_cases h78:kind = 7∨kind = 8
  ·rw [if_pos h78,if_pos h78] at e
   have b1:=hv.in_.1.2
   have b2:=hw.in_.1.2
   have es:=run_inj hno (by omega) (by omega) e
   have m1:=ask_of hv.ask h9
   have m2:=ask_of hw.ask h9
   have z:∀ {v:Vl'},askG (isB s d) kind ref v = true→v.n = 0:=fun {v} h=>by
    unfold askG at h
    rcases h78 with h7 | h8
    ·rw [if_pos h7] at h
     simp only [Bool.and_eq_true,beq_iff_eq] at h
     exact h.1
    ·rw [if_neg (by omega),if_pos h8] at h
     simp only [Bool.and_eq_true,beq_iff_eq] at h
     exact h.1
   exact vl_ext ((z hv.ask).trans (z hw.ask).symm) es (m1.trans m2.symm)
  ·rw [if_neg h78,if_neg h78] at e
   have hc:=ask_cnt hv.ask (fun e=>h78 (.inl e)) (fun e=>h78 (.inr e)) h9
   obtain ⟨f1,s1,m1⟩:=ask_fits hv.ask hc
   obtain ⟨f2,s2,m2⟩:=ask_fits hw.ask hc
   obtain ⟨wn,hwn,h015,h5⟩:=wire_cases hc
   obtain ⟨nn,rfl⟩:=Int.eq_ofNat_of_zero_le (show 0≤no by omega)
   have hp:putB (nn:Int) (wn:Int) = true:=hwn ▸ put_num hno hc
   unfold encN at e
   rw [hwn] at e
   have w1:=wnext_put hp (bits_nat kind v.n hv.in_.1.1) (run:=[]) (by simp) []
   have w2:=wnext_put hp (bits_nat kind w.n hw.in_.1.1) (run:=[]) (by simp) []
   rw [e,w2] at w1
   have hq:numQ wn (bitsI kind w.n).toNat [] = numQ wn (bitsI kind v.n).toNat []:=congrArg (fun x=>x.1.num) w1
   exact vl_ext (numQ_inj hv.in_.1.1 hw.in_.1.1 f1 f2 hwn h015 h5 hq.symm) (s1.trans s2.symm) (m1.trans m2.symm)
theorem bare_is {kind:Int} (hc:cnt kind = true) {wn:Nat} (hwn:wireI kind = wn) (n:Int):bareN kind n = restL wn (bitsI kind n).toNat []:=by
 unfold bareN encN
 rw [recL_yes (put_num ⟨by decide,by decide⟩ hc),hwn]
 have h1:(putL 1 (wireI kind)).length = 1:=by
  rw [putL_yes (put_num ⟨by decide,by decide⟩ hc),vput_length]
  obtain ⟨wn',hw',h015,-⟩:=wire_cases hc
  unfold putN
  rw [hw']
  rcases h015 with rfl | rfl | rfl <;> (unfold vlong;simp)
 rw [hwn] at h1
 rw [List.drop_append_of_le_length (by omega),List.drop_of_length_le (by omega),List.nil_append]
structure OkF (s:Sc) (d:Nat) (f:Df) (a:So):Prop where
 V:∀ v∈a.V,OkI s d f.kind f.ref v
 K:∀ v∈a.K,OkI s d f.key 0 v
 len:f.key≠-1→a.K.length = a.V.length
 none:f.key = -1→a.K = []
 some:a.V≠[]
 few:40 * cS a+tS a≤35184372088832
 in_:SIn a
theorem bareF_len {s:Sc} {d:Nat} {kind ref:Int}:∀ {l:List Vl'},(∀ v∈l,OkI s d kind ref v)→(l.map fun v=>bareN kind v.n).flatten.length≤15 * l.length
 | [],_=>by simp
 | x :: l,h=>by
  have h1:=bareF_len fun v hv=>h v (List.mem_cons_of_mem x hv)
  have h2:=encN_len kind 1 x.n (h x (by simp)).in_.1.1
  simp only [List.map_cons,List.flatten_cons,List.length_append,List.length_cons]
  have h3:(bareN kind x.n).length≤15:=by unfold bareN;rw [List.length_drop];omega
  omega
theorem ent_len {s:Sc} {d:Nat} {f:Df} {k v:Vl'} (hk:OkI s d f.key 0 k) (hv:OkI s d f.kind f.ref v):(valL (encB s d) f.key 0 1 k++valL (encB s d) f.kind f.ref 2 v).length < 18446744073709551616:=by
 have l1:=val_len (enc_len s d) f.key 0 1 k hk.in_ (Nat.le_trans hk.few (by decide))
 have l2:=val_len (enc_len s d) f.kind f.ref 2 v hv.in_ (Nat.le_trans hv.few (by decide))
 have:=hk.few
 have:=hv.few
 rw [List.length_append]
 omega
theorem slots_ok {s:Sc} (hsm:ScMay s) {d:Nat} {m:Int} {p:Mg} (h:isB s (d+1) m p = true) (hn:norB s (d+1) m p = p) (hi:MIn p) (hw:40 * p.cnt+Mg.txt p≤35184372088832) :
  Rise ltNo p.F∧∀ a∈p.F,∃ f,byS s m a.no = some f∧f.no = a.no∧(1≤f.no∧f.no≤536870911)∧OkF s d f a:=by
 have hF:norF (byS s m) (norB s d) p.F = p.F:=congrArg Mg.F hn
 refine ⟨by rw [← hF];exact rise_norF _ _ _,fun a ha=>?_⟩
 obtain ⟨h1,-,-⟩:=slots_iff.1 (isB_slots h)
 obtain ⟨f,hf,hfl⟩:=h1 a ha
 obtain ⟨f',hf',ht,hs⟩:=norO_some (norO_self h hn ha)
 rw [hf] at hf'
 obtain rfl:=Option.some.inj hf'
 obtain ⟨hr,hno⟩:=fno_ok hsm hf
 unfold fillG at hfl
 simp only [Bool.and_eq_true,List.all_eq_true] at hfl
 obtain ⟨f1,f2,f3⟩:=hfl
 have g:=norB_good (may_keys hsm) d
 rw [Mg.cnt_eq,Mg.txt_eq] at hw
 have hcs:=sm_mem (g:=cS) ha
 have hts:=sm_mem (g:=tS) ha
 have fewS:40 * cS a+tS a≤35184372088832:=by omega
 have hci:∀ v,v∈a.K∨v∈a.V→40 * cV v+tV v≤35184372088832:=fun v hv=>by
  have c1:=cV_le hv
  have e:tS a = sm (a.K.map tV)+sm (a.V.map tV):=rfl
  rcases hv with hv | hv
  ·have:=sm_mem (g:=tV) hv;omega
  ·have:=sm_mem (g:=tV) hv;omega
 have hk9:=may_keys hsm m a.no f hf
 have lenK:f.key≠-1→a.K.length = a.V.length:=fun hk=>by
  unfold manyB at f1
  rw [if_neg hk] at f1
  exact beq_iff_eq.1 f1
 have norK:∀ v∈a.K,norV (norB s d) 0 v = v:=fun v hv=>by
  have:=ask_of (f2 v hv) hk9
  unfold norV
  rw [this]
  exact vl_ext rfl rfl this.symm
 have norVV:∀ v∈a.V,norV (norB s d) f.ref v = v:=by
  by_cases hk:f.key = -1
  ·have e:=congrArg SL.V hs
   unfold norS at e
   rw [if_pos hk] at e
   have e:a.V = a.V.map (norV (norB s d) f.ref):=e
   intro v hv
   rw [e] at hv
   obtain ⟨w,hw',rfl⟩:=List.mem_map.1 hv
   exact (good_val g (f3 w hw')).same
  ·have e:=congrArg SL.V hs
   unfold norS at e
   rw [if_neg hk] at e
   intro v hv
   rw [e] at hv
   obtain ⟨k,hk',rfl⟩:=List.mem_map.1 hv
   exact (good_val g (f3 _ (last_V (lenK hk) hk'))).same
 refine ⟨f,hf,hno,hr,⟨fun v hv=>⟨f3 v hv,norVV v hv,(hi.slot ha).val (.inr hv),hci v (.inr hv)⟩,fun v hv=>⟨f2 v hv,norK v hv,(hi.slot ha).val (.inl hv),hci v (.inl hv)⟩,lenK,fun hk=>?_,told_ne ht,fewS,hi.slot ha⟩⟩
 unfold manyB at f1
 rw [if_pos hk] at f1
 simp only [Bool.and_eq_true,beq_iff_eq] at f1
 exact List.eq_nil_of_length_eq_zero f1.1
end Go.Proofs.YtckcojkpghiclaaGreatDoor.T12
namespace Go.Proofs.YtckcojkpghiclaaGreatDoor.T11
set_option maxRecDepth 100000
open Go.Proofs.YtckcojkpghiclaaGreatDoor.T9 Go.Proofs.YtckcojkpghiclaaGreatDoor.T4 Go.Proofs.YtckcojkpghiclaaGreatDoor.T12
def hdR (no wire num:Nat) (run:List UInt8):Rc:=⟨no,wire,numQ wire num run,headL no wire run,(recL no wire num run).length⟩
theorem decR_rec {α:Type} (g:List UInt8→Rc→α→Except Nat α) {no wire num:Nat} {run:List UInt8} (hp:putB no wire = true) (hn:num < 18446744073709551616) (hr:run.length < 18446744073709551616) (t:List UInt8) (x y:α)
  (h:g (recL no wire num run++t) (hdR no wire num run) x = .ok y):decR g (recL no wire num run++t) x = decR g t y:=by
 rw [decR_cons g x (wnext_put hp hn hr t)]
 show (match g (recL no wire num run++t) (hdR no wire num run) x with | .ok y=>decR g ((recL no wire num run++t).drop (recL no wire num run).length) y | .error e=>.error e) = _
 rw [h,List.drop_left]
theorem win_run {no num:Nat} {run:List UInt8} (hp:putB no (2:Nat) = true) (t:List UInt8):winR (recL no (2:Nat) num run++t) (hdR no 2 num run) = run:=by
 have hq:restL ((2:Nat):Int) num run = vput run.length++run:=by simp [restL]
 have hh:headL no (2:Nat) run = (putL no (2:Nat)).length+(vput run.length).length:=by simp [headL]
 have hy:=recL_yes (num:=num) (run:=run) hp
 rw [hq] at hy
 unfold winR hdR
 simp only
 rw [hh,hy,show putL (no:Int) ((2:Nat):Int)++(vput run.length++run)++t = (putL (no:Int) ((2:Nat):Int)++vput run.length)++(run++t) by simp,
  List.drop_left' (by rw [List.length_append])]
 rw [show (putL (no:Int) ((2:Nat):Int)++(vput run.length++run)).length - ((putL (no:Int) ((2:Nat):Int)).length+(vput run.length).length) = run.length by simp only [List.length_append];omega,List.take_left]
def BackH (s:Sc) (d:Nat):Prop:=∀ m x,isB s d m x = true→norB s d m x = x→MIn x→40 * x.cnt+Mg.txt x≤35184372088832→decM s d m (encB s d m x) (.mk []) = .ok x
theorem fine_whole' {l:List UInt8} (h:utfB l = true):first l = l.length:=by
 unfold utfB at h
 have:=fine_eq l 0 l.length (Nat.zero_le _) (Nat.le_refl _)
 rw [List.drop_zero,Nat.sub_zero,List.take_length] at this
 rw [show ((0:Nat):Int) = 0 from rfl] at this
 rw [this] at h
 have:=beq_iff_eq.1 h
 omega
theorem num_back {kind n:Int} (hn:inI n) (fn:fitsB kind n = true) {wn:Nat} (h5:wn = 5→kind = 4) (h2:wn≠2):ofI kind (numQ wn (bitsI kind n).toNat []) = n:=by
 have b:=bitsI_bound kind (n:=n) hn.1 hn.2
 have e:numQ wn (bitsI kind n).toNat [] = (bitsI kind n).toNat:=by
  unfold numQ
  rw [if_neg h2]
  split
  ·rename_i h
   obtain rfl:=h5 h
   exact Nat.mod_eq_of_lt (bits_low fn)
  ·rfl
 rw [e,show (((bitsI kind n).toNat:Nat):Int) = bitsI kind n by omega]
 exact of_bits hn.1 hn.2 fn
theorem val_back {s:Sc} {d:Nat} (H:BackH s d) {kind ref no:Int} {v:Vl'} (h:OkI s d kind ref v) (hno:1≤no∧no≤536870911) :
  ∃ (nn wn num:Nat) (run:List UInt8),no = nn∧valL (encB s d) kind ref no v = recL nn wn num run∧putB nn wn = true∧num < 18446744073709551616∧run.length < 18446744073709551616∧(wn = 2↔cnt kind = false) ∧
   ∀ t,takeV (decM s d) kind ref (recL nn wn num run++t) (hdR nn wn num run) (blankV kind) = .ok v:=by
 obtain ⟨nn,rfl⟩:=Int.eq_ofNat_of_zero_le (show 0≤no by omega)
 have hp2:putB (nn:Int) ((2:Nat):Int) = true:=put_run hno
 unfold valL
 by_cases h9:kind = 9
 ·subst h9
  obtain ⟨x,rfl,hx1,hx2,hi,hw⟩:=h.msg
  have h4:=enc_len s d ref x hi (by omega)
  rw [if_pos rfl]
  refine ⟨nn,2,0,encB s d ref x,rfl,rfl,hp2,by omega,by omega,by simp [cnt],fun t=>?_⟩
  unfold takeV
  rw [if_neg (show ¬ (((hdR nn 2 0 (encB s d ref x)).wire:Nat):Int)≠wireI 9 by simp [hdR];decide),if_pos rfl,win_run hp2]
  show mapE _ (decM s d ref (encB s d ref x) (.mk [])) = _
  rw [H ref x hx1 hx2 hi hw]
  rfl
 ·rw [if_neg h9]
  by_cases h78:kind = 7∨kind = 8
  ·rw [if_pos h78]
   have:=h.in_.1.2
   refine ⟨nn,2,0,v.s,rfl,rfl,hp2,by omega,by omega,by rcases h78 with rfl | rfl <;> simp [cnt],fun t=>?_⟩
   have ha:=h.ask
   unfold askG at ha
   unfold takeV
   rcases h78 with rfl | rfl
   ·rw [if_neg (show ¬ (((hdR nn 2 0 v.s).wire:Nat):Int)≠wireI 7 by simp [hdR];decide),if_neg (by decide),if_pos rfl,win_run hp2]
    rw [if_pos rfl] at ha
    simp only [Bool.and_eq_true,beq_iff_eq,List.isEmpty_iff] at ha
    rw [if_pos (fine_whole' ha.2.1)]
    refine congrArg Except.ok (vl_ext ?_ rfl ?_)
    ·exact ha.1.symm
    ·exact ha.2.2.symm
   ·rw [if_neg (show ¬ (((hdR nn 2 0 v.s).wire:Nat):Int)≠wireI 8 by simp [hdR];decide),if_neg (by decide),if_neg (by decide),if_pos rfl,win_run hp2]
    rw [if_neg (by decide),if_pos rfl] at ha
    simp only [Bool.and_eq_true,beq_iff_eq,List.isEmpty_iff] at ha
    refine congrArg Except.ok (vl_ext ?_ rfl ?_)
    ·exact ha.1.symm
    ·exact ha.2.symm
  ·rw [if_neg h78]
   have hc:=ask_cnt h.ask (fun e=>h78 (.inl e)) (fun e=>h78 (.inr e)) h9
   obtain ⟨f1,f2,f3⟩:=ask_fits h.ask hc
   obtain ⟨wn,hwn,h015,h5⟩:=wire_cases hc
   refine ⟨nn,wn,(bitsI kind v.n).toNat,[],rfl,by unfold encN;rw [hwn],hwn ▸ put_num hno hc,T12.bits_nat kind v.n h.in_.1.1,by simp,by rw [hc];exact ⟨fun e=>by omega,fun e=>by cases e⟩,fun t=>?_⟩
   unfold takeV
   rw [if_neg (show ¬ (((hdR nn wn (bitsI kind v.n).toNat []).wire:Nat):Int)≠wireI kind by simp [hdR,hwn]),if_neg h9,if_neg (fun e=>h78 (.inl e)),if_neg (fun e=>h78 (.inr e))]
   refine congrArg Except.ok (vl_ext ?_ ?_ ?_)
   ·exact num_back h.in_.1.1 f1 h5 (by omega)
   ·exact f2.symm
   ·show (blankV kind).M = _
    unfold blankV
    rw [if_neg h9,f3]
theorem pair_back {s:Sc} {d:Nat} (H:BackH s d) {f:Df} {k v:Vl'} (hk:OkI s d f.key 0 k) (hv:OkI s d f.kind f.ref v) :
  decR (pairD (decM s d) f) (valL (encB s d) f.key 0 1 k++valL (encB s d) f.kind f.ref 2 v) (blankV f.key,blankV f.kind) = .ok (k,v):=by
 obtain ⟨n1,w1,m1,r1,e1,hv1,p1,b1,c1,-,t1⟩:=val_back H hk (no:=1) ⟨by decide,by decide⟩
 obtain ⟨n2,w2,m2,r2,e2,hv2,p2,b2,c2,-,t2⟩:=val_back H hv (no:=2) ⟨by decide,by decide⟩
 rw [hv1,hv2,decR_rec _ p1 b1 c1 _ _ (k,blankV f.kind),← List.append_nil (recL n2 w2 m2 r2),decR_rec _ p2 b2 c2 _ _ (k,v),decR_nil]
 ·unfold pairD
  rw [if_neg (show ¬ (hdR n2 w2 m2 r2).no = 1 by simp [hdR];omega),if_pos (show (hdR n2 w2 m2 r2).no = 2 by simp [hdR];omega),t2]
  rfl
 ·unfold pairD
  rw [if_pos (show (hdR n1 w1 m1 r1).no = 1 by simp [hdR];omega),t1]
  rfl
theorem nums_one {kind n:Int} (hc:cnt kind = true) (hn:inI n) (fn:fitsB kind n = true):numsK kind (bareN kind n) = ([n],0):=by
 obtain ⟨wn,hwn,h015,h5⟩:=wire_cases hc
 have hwN:wireN kind = wn:=by unfold wireN;omega
 have hw:=wnum_put (run:=[]) (t:=[]) h015 (T12.bits_nat kind n hn)
 rw [List.append_nil] at hw
 have hl:=(wnum_pos hw).1
 unfold numsK
 rw [if_pos hc,hwN,bare_is hc hwn]
 unfold numsL
 generalize hq:restL (wn:Int) (bitsI kind n).toNat [] = q at *
 cases hx:q.length with
 | zero=>omega
 | succ x =>
  unfold numsW
  rw [if_neg (show ¬ q = [] from fun e=>by rw [e] at hx;cases hx),hw,if_pos rfl,List.drop_length]
  have h0:numsW wn kind x [] = ([],0):=by cases x <;> simp [numsW]
  rw [h0,if_pos rfl,num_back hn fn h5 (by omega)]
theorem nums_back {s:Sc} {d:Nat} {kind ref:Int} (hc:cnt kind = true):∀ {V:List Vl'},(∀ v∈V,OkI s d kind ref v)→numsK kind (V.map fun v=>bareN kind v.n).flatten = (V.map (·.n),0)
 | [],_=>by unfold numsK;rw [if_pos hc];rfl
 | v :: V,h=>by
  obtain ⟨f1,-,-⟩:=ask_fits (h v (by simp)).ask hc
  have h1:=nums_one hc (h v (by simp)).in_.1.1 f1
  have h2:=nums_back hc fun x hx=>h x (List.mem_cons_of_mem v hx)
  rw [List.map_cons,List.flatten_cons,(numsK_law kind _ _).2.2 (by rw [h1]) (by rw [h2]),h1,h2]
  rfl
def stl (l:List So) (no:Int) (K V:List Vl'):List So:=if V = [] then l else l++[⟨no,K,V⟩]
theorem bkSlot_new {no:Int} {g:So→Except Nat So}:∀ {l:List So},(∀ t∈l,t.no≠no)→onSlot no g l = mapE (fun t=>l++[t]) (g ⟨no,[],[]⟩)
 | [],_=>rfl
 | t :: l,h=>by
  unfold onSlot
  rw [if_neg (h t (by simp)),bkSlot_new fun x hx=>h x (List.mem_cons_of_mem t hx)]
  cases g ⟨no,[],[]⟩ <;> rfl
theorem bkSlot_old {no:Int} {g:So→Except Nat So} {a:So} (ha:a.no = no):∀ {l:List So},(∀ t∈l,t.no≠no)→onSlot no g (l++[a]) = mapE (fun t=>l++[t]) (g a)
 | [],_=>by
  show onSlot no g [a] = _
  unfold onSlot
  rw [if_pos ha]
  rfl
 | t :: l,h=>by
  rw [List.cons_append]
  unfold onSlot
  rw [if_neg (h t (by simp)),bkSlot_old ha fun x hx=>h x (List.mem_cons_of_mem t hx)]
  cases g a <;> rfl
theorem bkSlot_st {no:Int} {g:So→Except Nat So} {l:List So} (hl:∀ t∈l,t.no≠no) {K V K' V':List Vl'} (h0:V = []→K = []) (hV:V'≠[]) (hg:g ⟨no,K,V⟩ = .ok ⟨no,K',V'⟩):onSlot no g (stl l no K V) = .ok (stl l no K' V'):=by
 unfold stl
 rw [if_neg hV]
 by_cases h:V = []
 ·obtain rfl:=h0 h
  subst h
  rw [if_pos rfl,bkSlot_new hl,hg]
  rfl
 ·rw [if_neg h,bkSlot_old (a:=⟨no,K,V⟩) rfl hl,hg]
  rfl
theorem run_step {no:Int} (hno:1≤no∧no≤536870911) {run:List UInt8} (hr:run.length < 18446744073709551616) (t:List UInt8) :
  ∃ r:Rc,(r.no:Int) = no∧r.wire = 2∧winR (runL no run++t) r = run∧∀ (α:Type) (g:List UInt8→Rc→α→Except Nat α) (x y:α),g (runL no run++t) r x = .ok y→decR g (runL no run++t) x = decR g t y:=by
 obtain ⟨nn,rfl⟩:=Int.eq_ofNat_of_zero_le (show 0≤no by omega)
 have hp:putB (nn:Int) ((2:Nat):Int) = true:=put_run hno
 exact ⟨hdR nn 2 0 run,rfl,rfl,win_run hp t,fun α g x y h=>decR_rec g hp (by omega) hr t x y h⟩
theorem val_step {s:Sc} {d:Nat} (H:BackH s d) {kind ref no:Int} {v:Vl'} (h:OkI s d kind ref v) (hno:1≤no∧no≤536870911) (t:List UInt8) :
  ∃ r:Rc,(r.no:Int) = no∧(r.wire = 2↔cnt kind = false)∧takeV (decM s d) kind ref (valL (encB s d) kind ref no v++t) r (blankV kind) = .ok v ∧
   ∀ (α:Type) (g:List UInt8→Rc→α→Except Nat α) (x y:α),g (valL (encB s d) kind ref no v++t) r x = .ok y→decR g (valL (encB s d) kind ref no v++t) x = decR g t y:=by
 obtain ⟨n1,w1,m1,r1,e1,hv1,p1,b1,c1,k1,t1⟩:=val_back H h hno
 rw [hv1]
 exact ⟨hdR n1 w1 m1 r1,e1.symm,k1,t1 t,fun α g x y h=>decR_rec g p1 b1 c1 t x y h⟩
theorem sub_pos {s:Sc} {d:Nat} {kind ref:Int} {v:Vl'} (h:OkI s d kind ref v):¬ (kind = 9∧d = 0):=by
 rintro ⟨rfl,rfl⟩
 obtain ⟨x,-,hx,-⟩:=h.msg
 cases hx
theorem ent_back {s:Sc} (m:Int) {d:Nat} (H:BackH s d) {f:Df} (hf:byS s m f.no = some f) (hno:1≤f.no∧f.no≤536870911) (hk:f.key≠-1) {l:List So} (hl:∀ t∈l,t.no≠f.no) (t:List UInt8) :
  ∀ (K V K0 V0:List Vl'),K.length = V.length→(∀ v∈V,OkI s d f.kind f.ref v)→(∀ v∈K,OkI s d f.key 0 v)→(V0 = []→K0 = []) →
   decR (fieldD (byS s m) d (decM s d)) (((K.zip V).map (entL (encB s d) f)).flatten++t) (stl l f.no K0 V0) = decR (fieldD (byS s m) d (decM s d)) t (stl l f.no (K0++K) (V0++V))
 | [],V,K0,V0,hL,_,_,_=>by
  obtain rfl:=List.eq_nil_of_length_eq_zero (show V.length = 0 by simpa using hL.symm)
  simp
 | k :: K,[],_,_,hL,_,_,_=>by simp at hL
 | k :: K,v :: V,K0,V0,hL,hV,hK,h0=>by
  have hkk:=hK k (by simp)
  have hvv:=hV v (by simp)
  have ih:=ent_back m H hf hno hk hl t K V (K0++[k]) (V0++[v]) (by simpa using hL) (fun x hx=>hV x (List.mem_cons_of_mem v hx)) (fun x hx=>hK x (List.mem_cons_of_mem k hx)) (by simp)
  rw [List.append_assoc,List.append_assoc] at ih
  rw [List.zip_cons_cons,List.map_cons,List.flatten_cons,List.append_assoc]
  obtain ⟨r,r1,r2,r3,r4⟩:=run_step hno (ent_len hkk hvv) (((K.zip V).map (entL (encB s d) f)).flatten++t)
  refine (r4 _ _ (stl l f.no K0 V0) (stl l f.no (K0++[k]) (V0++[v])) ?_).trans ih
  unfold fieldD
  rw [r1,hf]
  simp only
  rw [if_neg (fun e=>hk e.1)]
  refine bkSlot_st hl h0 (by simp) ?_
  unfold slotD entryS
  rw [if_pos hk,if_neg (show ¬ r.wire≠2 from fun e=>e r2),if_neg (sub_pos hvv),r3,pair_back H hkk hvv]
  rfl
theorem rep_back {s:Sc} (m:Int) {d:Nat} (H:BackH s d) {f:Df} (hf:byS s m f.no = some f) (hno:1≤f.no∧f.no≤536870911) (hk:f.key = -1) (hr:f.rep = true) (hc:cnt f.kind = false) {l:List So} (hl:∀ t∈l,t.no≠f.no) (t:List UInt8) :
  ∀ (V V0:List Vl'),(∀ v∈V,OkI s d f.kind f.ref v) →
   decR (fieldD (byS s m) d (decM s d)) ((V.map (valL (encB s d) f.kind f.ref f.no)).flatten++t) (stl l f.no [] V0) = decR (fieldD (byS s m) d (decM s d)) t (stl l f.no [] (V0++V))
 | [],V0,_=>by simp
 | v :: V,V0,hV=>by
  have ih:=rep_back m H hf hno hk hr hc hl t V (V0++[v]) fun x hx=>hV x (List.mem_cons_of_mem v hx)
  rw [List.append_assoc] at ih
  rw [List.map_cons,List.flatten_cons,List.append_assoc]
  obtain ⟨r,r1,r2,r3,r4⟩:=val_step H (hV v (by simp)) hno ((V.map (valL (encB s d) f.kind f.ref f.no)).flatten++t)
  refine (r4 _ _ (stl l f.no [] V0) (stl l f.no [] (V0++[v])) ?_).trans ih
  unfold fieldD
  rw [r1,hf]
  simp only
  rw [if_neg (fun e=>by rw [hr] at e;cases e.2)]
  refine bkSlot_st hl (fun _=>rfl) (by simp) ?_
  unfold slotD repS
  rw [if_neg (fun e=>e hk),if_neg (fun e=>by rw [hc] at e;cases e.2.2),if_pos hr,r3]
  rfl
theorem pack_back {s:Sc} (m:Int) {d:Nat} {f:Df} (hf:byS s m f.no = some f) (hno:1≤f.no∧f.no≤536870911) (hk:f.key = -1) (hr:f.rep = true) (hc:cnt f.kind = true) {l:List So} (hl:∀ t∈l,t.no≠f.no) (t:List UInt8)
  {V:List Vl'} (hV:∀ v∈V,OkI s d f.kind f.ref v) (hne:V≠[]) (hlen:(V.map fun v=>bareN f.kind v.n).flatten.length < 18446744073709551616) :
   decR (fieldD (byS s m) d (decM s d)) (runL f.no (V.map fun v=>bareN f.kind v.n).flatten++t) l = decR (fieldD (byS s m) d (decM s d)) t (stl l f.no [] V):=by
 obtain ⟨r,r1,r2,r3,r4⟩:=run_step hno hlen t
 refine r4 _ _ l (stl l f.no [] V) ?_
 unfold fieldD
 rw [r1,hf]
 simp only
 rw [if_neg (fun e=>by rw [hr] at e;cases e.2)]
 have:=bkSlot_st (g:=slotD d (decM s d) f (runL f.no (V.map fun v=>bareN f.kind v.n).flatten++t) r) hl (K:=[]) (V:=[]) (K':=[]) (V':=V) (fun _=>rfl) hne (by
  unfold slotD packedS
  rw [if_neg (fun e=>e hk),if_pos ⟨hr,r2,hc⟩,r3,nums_back hc hV,if_pos rfl]
  refine congrArg Except.ok ?_
  show (⟨f.no,[],[]++(V.map (·.n)).map fun n=>(⟨n,[],[]⟩:Vl')⟩:So) = ⟨f.no,[],V⟩
  rw [List.nil_append,List.map_map]
  congr 1
  conv=>rhs;rw [← List.map_id V]
  refine List.map_congr_left fun v hv=>?_
  obtain ⟨f1,f2,f3⟩:=ask_fits (hV v hv).ask hc
  exact vl_ext rfl f2.symm f3.symm)
 exact this
theorem only_back {s:Sc} (m:Int) {d:Nat} (H:BackH s d) {f:Df} (hf:byS s m f.no = some f) (hno:1≤f.no∧f.no≤536870911) (hk:f.key = -1) (hr:f.rep = false) {l:List So} (hl:∀ t∈l,t.no≠f.no) (hal:leaveL (byS s m) f l = l) (t:List UInt8)
  {v:Vl'} (hV:OkI s d f.kind f.ref v) :
   decR (fieldD (byS s m) d (decM s d)) (valL (encB s d) f.kind f.ref f.no v++t) l = decR (fieldD (byS s m) d (decM s d)) t (stl l f.no [] [v]):=by
 obtain ⟨r,r1,r2,r3,r4⟩:=val_step H hV hno t
 refine r4 _ _ l (stl l f.no [] [v]) ?_
 unfold fieldD
 rw [r1,hf]
 simp only
 rw [if_pos ⟨hk,hr⟩,hal]
 have:=bkSlot_st (g:=slotD d (decM s d) f (valL (encB s d) f.kind f.ref f.no v++t) r) hl (K:=[]) (V:=[]) (K':=[]) (V':=[v]) (fun _=>rfl) (by simp) (by
  unfold slotD onlyS
  rw [if_neg (fun e=>e hk),if_neg (fun e=>by rw [hr] at e;cases e.1),if_neg (by rw [hr];simp)]
  show mapE _ (takeV (decM s d) f.kind f.ref _ r (blankV f.kind)) = _
  rw [r3]
  rfl)
 exact this
theorem field_back {s:Sc} (m:Int) {d:Nat} (H:BackH s d) {f:Df} (hf:byS s m f.no = some f) (hno:1≤f.no∧f.no≤536870911) {a:So} (en:f.no = a.no) (h:OkF s d f a) (h1:f.key = -1→f.rep = false→a.V.length = 1)
  {l:List So} (hl:∀ t∈l,t.no≠f.no) (hal:leaveL (byS s m) f l = l) (t:List UInt8) :
   decR (fieldD (byS s m) d (decM s d)) (fieldL (encB s d) f a++t) l = decR (fieldD (byS s m) d (decM s d)) t (l++[a]):=by
 have hst:stl l f.no a.K a.V = l++[a]:=by
  unfold stl
  rw [if_neg h.some,en]
 have hs0:stl l f.no [] [] = l:=by
  unfold stl
  rw [if_pos rfl]
 unfold fieldL
 by_cases hk:f.key = -1
 ·rw [if_pos hk]
  rw [h.none hk] at hst
  by_cases hr:f.rep = true
  ·by_cases hc:cnt f.kind = true
   ·rw [if_pos (by rw [hr,hc];rfl),← hst]
    have l1:=bareF_len h.V
    have c1:=cS_len (s:=a)
    have f1:=h.few
    exact pack_back m hf hno hk hr hc hl t h.V h.some (by omega)
   ·have hc:=Bool.eq_false_iff.2 hc
    rw [if_neg (by rw [hr,hc];decide),← hst]
    have:=rep_back m H hf hno hk hr hc hl t a.V [] h.V
    rw [hs0,List.nil_append] at this
    exact this
  ·have hr:=Bool.eq_false_iff.2 hr
   rw [if_neg (by rw [hr];simp)]
   have h1:=h1 hk hr
   match hV:a.V,h1 with
   | [v],_ =>
    rw [← hst,hV]
    have:=only_back m H hf hno hk hr hl hal t (h.V v (by rw [hV];simp))
    rw [List.map_cons,List.map_nil,List.flatten_cons,List.flatten_nil,List.append_nil]
    exact this
 ·rw [if_neg hk,← hst]
  have:=ent_back m H hf hno hk hl t a.K a.V [] [] (h.len hk) h.V h.K (fun _=>rfl)
  rw [hs0,List.nil_append,List.nil_append] at this
  exact this
theorem claims_no (f:Df):(f.no,(0:Int))∈claimsOf f:=by
 unfold claimsOf
 split <;> simp
theorem claims_one {f:Df} (h:f.one≠0):((0:Int),f.one)∈claimsOf f:=by
 unfold claimsOf
 rw [if_neg h]
 simp
theorem slots_back {s:Sc} (m:Int) {d:Nat} (H:BackH s d) :
  ∀ (F l:List So),(∀ a∈F,∃ f,byS s m a.no = some f∧f.no = a.no∧(1≤f.no∧f.no≤536870911)∧OkF s d f a∧(f.key = -1→f.rep = false→a.V.length = 1)) →
   (∀ a∈l,∃ f,byS s m a.no = some f∧f.no = a.no)→(∀ a∈l,∀ b∈F,Dj (byS s m) a b)→F.Pairwise (Dj (byS s m)) →
   decR (fieldD (byS s m) d (decM s d)) (F.map (slotL (byS s m) (encB s d))).flatten l = .ok (l++F)
 | [],l,_,_,_,_=>by simp [decR_nil]
 | a :: F,l,hF,hl,hd,hp=>by
  obtain ⟨f,hf,en,hno,hok,h1⟩:=hF a (by simp)
  have hD:∀ t∈l,∃ o,byS s m t.no = some o∧o.no = t.no∧∀ c∈claimsOf o,c ∉ claimsOf f:=fun t ht=>by
   obtain ⟨o,ho,e⟩:=hl t ht
   have:=hd t ht a (by simp)
   unfold Dj clsOf at this
   rw [ho,hf] at this
   exact ⟨o,ho,e,this⟩
  have hne:∀ t∈l,t.no≠f.no:=fun t ht e=>by
   obtain ⟨o,ho,e2,hc⟩:=hD t ht
   refine hc (o.no,0) (claims_no o) ?_
   rw [e2,e]
   exact claims_no f
  have hal:leaveL (byS s m) f l = l:=by
   unfold leaveL
   split
   ·rfl
   ·rename_i h0
    rw [List.filter_eq_self]
    intro t ht
    obtain ⟨o,ho,e2,hc⟩:=hD t ht
    rw [ho]
    simp only [Bool.not_eq_true',decide_eq_false_iff_not]
    rintro ⟨e3,-⟩
    refine hc (0,o.one) (claims_one (by rw [e3];exact h0)) ?_
    rw [e3]
    exact claims_one h0
  have hs:slotL (byS s m) (encB s d) a = fieldL (encB s d) f a:=by
   unfold slotL
   rw [hf]
  rw [List.map_cons,List.flatten_cons,hs,field_back m H (by rw [en];exact hf) hno en hok h1 hne hal]
  have ih:=slots_back m H F (l++[a]) (fun x hx=>hF x (List.mem_cons_of_mem a hx)) (fun x hx=>by
   rcases List.mem_append.1 hx with hx | hx
   ·exact hl x hx
   ·obtain rfl:=List.mem_singleton.1 hx
    exact ⟨f,hf,en⟩) (fun x hx b hb=>by
   rcases List.mem_append.1 hx with hx | hx
   ·exact hd x hx b (List.mem_cons_of_mem a hb)
   ·obtain rfl:=List.mem_singleton.1 hx
    exact (List.pairwise_cons.1 hp).1 b hb) (List.pairwise_cons.1 hp).2
  rw [ih,List.append_assoc]
  rfl
theorem enc_back {s:Sc} (hsm:ScMay s):∀ d,BackH s d
 | 0=>fun m x h=>by cases h
 | d+1=>fun m x h hn hi hw=>by
  obtain ⟨-,hsl⟩:=slots_ok hsm h hn hi hw
  obtain ⟨h1,-,h3⟩:=slots_iff.1 (isB_slots h)
  have:=slots_back m (enc_back hsm d) x.F [] (fun a ha=>by
   obtain ⟨f,hf,en,hno,hok⟩:=hsl a ha
   refine ⟨f,hf,en,hno,hok,fun hk hr=>?_⟩
   obtain ⟨f',hf',hfl⟩:=h1 a ha
   rw [hf] at hf'
   obtain rfl:=Option.some.inj hf'
   unfold fillG manyB at hfl
   rw [if_pos hk,hr] at hfl
   simp only [Bool.and_eq_true,Bool.false_or,beq_iff_eq] at hfl
   exact hfl.1.2) (fun a ha=>by cases ha) (fun a ha=>by cases ha) h3
  show mapE _ (decR (fieldD (byS s m) d (decM s d)) (x.F.map (slotL (byS s m) (encB s d))).flatten []) = _
  rw [this]
  cases x
  rfl
end Go.Proofs.YtckcojkpghiclaaGreatDoor.T11
namespace Go.Proofs.YtckcojkpghiclaaGreatDoor.T11
set_option maxRecDepth 100000
open Go.RowKit
open Go.Proofs.YtckcojkpghiclaaGreatDoor.T9 Go.Proofs.YtckcojkpghiclaaGreatDoor.T4 Go.Proofs.YtckcojkpghiclaaGreatDoor.T12
theorem taken_big {s:Sc} {m:Int} {l:List UInt8} {x:Mg} (h:ScMay s∧0≤m∧m < s.M.length) (hl:l.length≤100000000) (hcn:decM s 64 m l (.mk []) = .ok x→x.cnt≤40000) (hx:decM s 64 m l (.mk []) = .ok x):isB s 64 m x = true∧MIn x∧x.cnt≤40000∧x.deep≤64∧mayT s m x = true:=by
 obtain ⟨h1,h2,h3⟩:=isH h.1 l.length 64 m l (.mk []) x h.2.1 h.2.2 (Nat.le_refl _) (is_none (by decide) h.2.1 h.2.2) (StrL.none _) hx
 refine ⟨h1,isB_in h.1 (by omega) 64 m x h1 h2,hcn hx,isB_deep h.1 64 m x h1,?_⟩
 unfold mayT
 rw [Bool.and_eq_true]
 exact ⟨(@decide_eq_true_iff _ (Classical.propDecidable _)).2 h.1,h1⟩
set_option maxRecDepth 1000000 in
set_option maxHeartbeats 8000000 in
theorem whole_big (B:Nat) {s:Sc} (vM vE:Value) (m:Int) (A:Option Addr) (c:Nat) (l:List UInt8) (w:World) (hv:ScMay s∧0≤m∧m < s.M.length) (hl:l.length≤100000000) (hcn:∀ x,decM s 64 m l (.mk []) = .ok x→x.cnt≤40000) (hB:B≤w.heap.size) (hs:SAt B w s vM vE) (hin:ScIn s) (hr:SlB w A c l) (TW:Wires w) (TT:Tabs w) :
  Calls Tryz.prog 36 #[.agg #[vM,vE],.int .i64 m,.slice A l.length c] w fun e w'=>(∃ er:Nat,toldE s m l = .error er∧e = .panicked [{ v:=errP er,recovered:=false }]∧Below w.heap.size w w')∨(∃ X,toldE s m l = .ok X∧∃ A n c,e = .returned (.agg #[.slice A n c])∧T9.MAt (Ow w.heap.size w') 64 X [.slice A n c]∧Below w.heap.size w w'):=by
 obtain ⟨X1,X2,LBD⟩:=two_boxes w (.cells #[vM,vE] 25) (.cells #[.slice none 0 0] 31)
 have HMAY:=Lib.hid (may_any B s vM vE _ (Nat.le_trans hB LBD.size) (SAt.lo hs LBD hB) hin (TT.on LBD))
 have HST:=Lib.hid (fun wx (h:Below w.heap.size w wx)=>And.intro (SAt.lo hs h hB) (And.intro (hr.on h) (And.intro (TW.on h) (TT.on h))))
 obtain ⟨A1,q1,A2,q2,rfl,rfl⟩:=sat_shape hs
 obtain ⟨x1,x2⟩:=box2' X1
 have HX:=Lib.hid (And.intro X1 (And.intro X2 LBD))
 have d1:decide ((0:Int)≤m) = true:=decide_eq_true hv.2.1
 have d2:decide (m < (s.M.length:Int)) = true:=decide_eq_true hv.2.2
 have hT:=told_of (l:=l) hv
 have hTK:=fun x=>taken_big (x:=x) hv hl (hcn x)
 have HV:=Lib.hid (And.intro hv (And.intro hT hTK))
 clear hs hr TW TT X1 X2 LBD hv hT hTK
 go_enter Tryz.func36,Tryz.ntmps36
 go_wp2_with fail
 refine HMAY.out.mono ?_
 rintro e w1 ⟨b,rfl,hb,hb1⟩
 obtain rfl:=hb.2 HV.out.1.1
 clear hb
 have hw01:=below_then HX.out.2.2 hb1
 have hsz1:w.heap.size+2≤w1.heap.size:=by
  have h1:=hb1.size
  have h2:((w.alloc (.cells #[.slice A1 s.M.length q1,.slice A2 s.E.length q2] 25)).alloc (.cells #[.slice none 0 0] 31)).heap.size = w.heap.size+2:=by simp
  exact h2 ▸ h1
 have X1':=box_on HX.out.1 hb1
 have X2':=box_on HX.out.2.1 hb1
 obtain ⟨x1,x2⟩:=box2' X1'
 have HW:=Lib.hid (And.intro hw01 (And.intro X1' (And.intro X2' hsz1)))
 clear HMAY X1' X2' hb1 hw01 hsz1
 go_wp2_with fail
 refine (must_yes _ _).mono ?_
 rintro e w1' ⟨rfl,rfl⟩
 obtain ⟨hw01,X1',X2',hsz1⟩:=HW.out
 have N2:=below_new w1' (.cells #[.slice none 0 0] 31)
 have Z2:=heap_alloc_new w1' (.cells #[.slice none 0 0] 31)
 obtain ⟨k1,k2,k3,k4⟩:=HST.out _ hw01
 have hrw:(LM.mk (.slice none 0 0) []).rows = [⟨67,3,.slice none 0 0,0,[]⟩]:=rows_empty _
 have hLr:∀ wx:World,Lies w1'.heap.size 0 wx (LM.mk (.slice none 0 0) []).rows:=fun wx=>by
  rw [hrw]
  exact ⟨fun q hq=>by obtain rfl:=List.mem_singleton.1 hq;exact ⟨World.ownsRow_nil _ _ _ _,Nat.le_refl _⟩,by simp [blocks,Value.ownBlock]⟩
 have hbr:blocks (LM.mk (.slice none 0 0) []).rows = []:=by rw [hrw];simp [blocks,Value.ownBlock]
 have hfz:(w1'.alloc (.cells #[.slice none 0 0] 31)).frozen? ⟨w1'.heap.size,0,none⟩ = false:=by unfold World.frozen?;rw [Z2];simp
 have hM:=msgH (wo:=w1') (K:=l.length) k2 (by omega) k3 (SAt.mono k1 (Nat.le_trans hB hw01.size)) HV.out.1.1 (by omega) 64 (Nat.le_refl _) m (LM.mk (.slice none 0 0) []) ⟨w1'.heap.size,0,none⟩ 0 l.length 1 0 (w1'.alloc (.cells #[.slice none 0 0] 31)) N2 (Nat.le_refl _) (by simp) rfl (bx1 Z2) hfz (hLr _) (by rw [hbr];simp) (full_empty s _ 64 m) (Nat.zero_le _) (Nat.le_refl _) (by omega) (by decide) (by decide)
 rw [hbr,bare_empty,List.drop_zero,Nat.sub_zero,List.take_length] at hM
 have HM:=Lib.hid hM
 obtain ⟨y1,y2⟩:=box2' (box_on X1' N2)
 have HN:=Lib.hid (And.intro N2 Z2)
 clear x1 x2 k1 k2 k3 k4 Z2 N2 X1' X2' hw01 hsz1 hM hrw hLr hbr hfz
 go_wp2_with fail
 refine HM.out.mono ?_
 rintro e w2 (⟨er,h1,rfl,h3⟩ | ⟨x',h1,rfl,h3,h4,h5,h6,h7⟩)
 ·go_wp2_with fail
  obtain ⟨hw01,X1',X2',hsz1⟩:=HW.out
  refine ⟨rfl,.inl ⟨er,by rw [HV.out.2.1,h1],rfl,hw01.trans ((HN.out.1.mono hw01.size).trans (h3.mono hw01.size))⟩⟩
 ·obtain ⟨hw01,X1',X2',hsz1⟩:=HW.out
  obtain ⟨t1,t2,t3,t4,t5⟩:=HV.out.2.2 x'.bare h1
  have hub:Below w1'.heap.size (w1'.alloc (.cells #[.slice none 0 0] 31)) w2:=upd_below h3 (by simp) (Nat.le_refl _) (fun k hk=>by cases hk)
  have hb12:=HN.out.1.trans hub
  have hgx:w2.heap[w1'.heap.size]? = some (.cells #[x'.v] 31 (0,0)):=by
   rw [h3.block _ (by simp) (by simp),setCell_at,HN.out.2]
   simp
  have hmat:=LM.mat (b:=w1'.heap.size) (by omega) 64 x' t4 (fun r hr=>h4.own r hr)
  obtain ⟨As,cs,hxv⟩:=msg_shape hmat
  have hb02:=below_then hw01 hb12
  obtain ⟨k1,-,-,k4⟩:=HST.out _ hb02
  have HNO:=tnormal_ow hin w2.heap.size 64 _ _ m x'.bare _ w2 (Nat.le_refl _) (SAt.mono k1 (Nat.le_trans hB hb02.size)) (own_rd hmat) t2 (by omega) k4 t5
  rw [hxv] at HNO hgx
  have HNO:=Lib.hid HNO
  obtain ⟨y1,y2⟩:=box2' (box_on X1' hb12)
  have c3:=bx1 hgx
  have HW:=Lib.hid (And.intro hb02 (And.intro (box_on X2' hb12) (And.intro hsz1 (And.intro hb12 h1))))
  clear hb12 hb02 k1 k4 hgx hmat hw01 X1' X2' hsz1 HN HM h1 h3 h4 h5 h6 h7 hub t1 t2 t3 t4 t5 hxv
  go_wp2_with fail
  refine HNO.out.mono ?_
  rintro e w3 ⟨An,nn,cn,rfl,hm3,hb3⟩
  obtain ⟨hb02,X2',hsz1,hb12,h1⟩:=HW.out
  have N4:=below_new w3 (.cells #[.slice An nn cn] 31)
  have Z4:=heap_alloc_new w3 (.cells #[.slice An nn cn] 31)
  have z4:=bx1 Z4
  have Y2:=box_on (box_on X2' hb3) N4
  have c2:=bx1 Y2
  have f2:(w3.alloc (.cells #[.slice An nn cn] 31)).frozen? ⟨w.heap.size+1,0,none⟩ = false:=by simp [World.frozen?,Y2]
  obtain ⟨Z1,G1⟩:=cell1 Y2 (.slice An nn cn)
  have hb04:=below_then (below_then hb02 hb3) N4
  have hsw:w.heap.size+1 < w2.heap.size:=by have:=hb12.size;omega
  have hbz:=hb04.trans (below_own G1 (by omega) (by have:=hb3.size;have:=N4.size;omega))
  have hmz:=T9.MAt.imp (Ow.hi' (hi_grown G1 (b:=w2.heap.size+3) (by omega)) (b':=w.heap.size) (by omega)) 64 _ _ (T9.MAt.imp (Ow.hi (hi_below _ N4)) 64 _ _ hm3)
  have HZ:=Lib.hid (And.intro hbz (And.intro hmz (show toldE s m l = .ok (norB s 64 m x'.bare) by rw [HV.out.2.1,h1])))
  clear hb02 X2' hsz1 hb12 N4 Z4 Y2 G1 hb04 hsw hbz hmz hm3 hb3 y1 y2 c3 HNO h1
  go_wp2
  refine bodyPost_ret (results_cell_row rfl _ _ (w.heap.size+1) _ _ (0,0) _ rfl Z1 Tryz.underlying31 rfl sz_msg) rfl ?_
  exact .inr ⟨_,HZ.out.2.2,An,nn,cn,rfl,HZ.out.2.1,HZ.out.1⟩
theorem decode_big (B:Nat) {s:Sc} (vM vE:Value) (m:Int) (A:Option Addr) (c:Nat) (l:List UInt8) (w:World) (hl:l.length≤100000000) (hcn:∀ x,decM s 64 m l (.mk []) = .ok x→x.cnt≤40000) (hB:B≤w.heap.size) (hs:SAt B w s vM vE) (hin:ScIn s) (hr:SlB w A c l) (TW:Wires w) (TT:Tabs w) :
  Calls Tryz.prog 14 #[.agg #[vM,vE],.int .i64 m,.slice A l.length c] w fun e w'=>((∃ er:Nat,toldE s m l = .error er∧e = .returned (.tuple #[.agg #[.slice none 0 0],.int .i64 (er:Nat)]))∨(∃ X,toldE s m l = .ok X∧∃ A n c,e = .returned (.tuple #[.agg #[.slice A n c],.int .i64 0])∧T9.MAt (Ow w.heap.size w') 64 X [.slice A n c]))∧Below w.heap.size w w':=by
 cases hD:toldE s m l with
 | error er =>
  refine (decode_err vM vE m A l.length c er w (fun wx hx=>?_)).mono ?_
  ·by_cases hv:ScMay s∧0≤m∧m < s.M.length
   ·refine (whole_big B vM vE m A c l wx hv hl hcn (Nat.le_trans hB hx.size) (SAt.lo hs hx hB) hin (hr.on hx) (TW.on hx) (TT.on hx)).mono ?_
    rintro e w' (⟨er',h1,rfl,h2⟩ | ⟨X,h1,-⟩)
    ·rw [hD] at h1
     obtain rfl:=Except.error.inj h1
     exact ⟨rfl,h2⟩
    ·rw [hD] at h1;cases h1
   ·have h1:=told_not (l:=l) hv
    rw [hD] at h1
    obtain rfl:=Except.error.inj h1
    exact whole_bad B vM vE m A l.length c wx hv (Nat.le_trans hB hx.size) (SAt.lo hs hx hB) hin (TT.on hx)
  ·rintro e w' ⟨rfl,hb⟩
   exact ⟨.inl ⟨er,rfl,rfl⟩,hb⟩
 | ok X =>
  have hv:ScMay s∧0≤m∧m < s.M.length:=Classical.byContradiction fun h=>by rw [told_not h] at hD;cases hD
  refine (decode_ok vM vE m A l.length c (fun b v wa=>T9.MAt (Ow b wa) 64 X [v]) w (fun b v wa wb k hk h hg=>T9.MAt.imp (Ow.hi (hi_grown hg hk)) 64 X _ h) (fun wx hx hsz=>?_)).mono ?_
  ·refine (whole_big B vM vE m A c l wx hv hl hcn (Nat.le_trans hB hx.size) (SAt.lo hs hx hB) hin (hr.on hx) (TW.on hx) (TT.on hx)).mono ?_
   rintro e w' (⟨er',h1,-⟩ | ⟨Y,h1,A',n',c',rfl,h2,h3⟩)
   ·rw [hD] at h1;cases h1
   ·rw [hD] at h1
    obtain rfl:=Except.ok.inj h1
    exact ⟨⟨A',n',c',rfl,h2⟩,h3⟩
  ·rintro e w' ⟨⟨A',n',c',rfl,b,hb,h2⟩,h3⟩
   exact ⟨.inr ⟨X,rfl,A',n',c',rfl,T9.MAt.imp (fun e size v n xs h=>⟨own_less2 h.1 (by omega),h.2⟩) 64 X _ h2⟩,h3⟩
theorem isB_msg {s:Sc} {d:Nat} {m:Int} {x:Mg} (h:isB s d m x = true):0≤m∧m < s.M.length:=by
 cases d with
 | zero=>cases h
 | succ d =>
  change isG s (isB s d) m x = true at h
  unfold isG at h
  rw [Bool.and_eq_true,decide_eq_true_eq] at h
  exact h.1
theorem told_back {s:Sc} {m:Int} {x:Mg} (hm:mayT s m x = true) (hi:MIn x) (hc:x.cnt≤20000) (ht:Mg.txt x≤50000000) :
  toldE s m (encB s 64 m (norB s 64 m x)) = .ok (norB s 64 m x)∧(encB s 64 m (norB s 64 m x)).length≤100000000∧∀ y,decM s 64 m (encB s 64 m (norB s 64 m x)) (.mk []) = .ok y→y.cnt≤40000:=by
 obtain ⟨hsm,hx⟩:=mayT_split hm
 have g:=norB_good (may_keys hsm) 64
 have a:=g.cnt m x hx
 have b:=nor_txt s 64 m x hx
 have hn:=g.is m x hx
 have hin:=g.in_ m x hx hi
 have hl:=enc_len s 64 m (norB s 64 m x) hin (by omega)
 have hb:=enc_back hsm 64 m (norB s 64 m x) hn (g.same m x hx) hin (by omega)
 refine ⟨?_,by omega,fun y hy=>?_⟩
 ·rw [told_of ⟨hsm,isB_msg hx⟩,hb]
  exact congrArg Except.ok (g.same m x hx)
 ·rw [hb] at hy
  obtain rfl:=Except.ok.inj hy
  omega
theorem decode_back {s:Sc} {m:Int} {x:Mg} (hm:mayT s m x = true) (hi:MIn x) (hc:x.cnt≤20000) (ht:Mg.txt x≤50000000) (B:Nat) (vM vE:Value) (A:Option Addr) (c n:Nat) (l:List UInt8) (X:Mg) (w:World) (hX:norB s 64 m x = X) (hl:encB s 64 m X = l) (hn:n = l.length) (hB:B≤w.heap.size) (hs:SAt B w s vM vE) (hin:ScIn s) (hr:SlB w A c l) (TW:Wires w) (TT:Tabs w) :
  Calls Tryz.prog 14 #[.agg #[vM,vE],.int .i64 m,.slice A n c] w fun e w'=>(∃ A n c,e = .returned (.tuple #[.agg #[.slice A n c],.int .i64 0])∧T9.MAt (Ow w.heap.size w') 64 X [.slice A n c])∧Below w.heap.size w w':=by
 subst hX
 subst hl
 subst hn
 obtain ⟨h1,h2,h3⟩:=told_back hm hi hc ht
 refine (decode_big B vM vE m A c _ w h2 h3 hB hs hin hr TW TT).mono ?_
 rintro e w' ⟨⟨er,h,-⟩ | ⟨Y,h,A',n',c',rfl,hmm⟩,hb⟩
 ·rw [h1] at h;cases h
 ·rw [h1] at h
  obtain rfl:=Except.ok.inj h
  exact ⟨⟨_,_,_,rfl,hmm⟩,hb⟩
end Go.Proofs.YtckcojkpghiclaaGreatDoor.T11
