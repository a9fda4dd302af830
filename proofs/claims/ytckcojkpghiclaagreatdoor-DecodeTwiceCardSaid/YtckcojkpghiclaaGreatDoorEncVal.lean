/-
 What a message takes from bytes,by plain functions: records one behind the other,each held against its field.
-/
import Derived.Test.YtckcojkpghiclaaGreatDoorDecNumc
import Derived.Test.YtckcojkpghiclaaGreatDoorEncNor
import Derived.Test.YtckcojkpghiclaaGreatDoorConvRules
import Derived.Deep.RegionHeld3
import Derived.Deep.AppendLies
import Derived.Test.YtckcojkpghiclaaGreatDoorEncAw
import Derived.Laws.EntriesVeiled
import Derived.Test.YtckcojkpghiclaaGreatDoorTyRising
namespace Go.Proofs.YtckcojkpghiclaaGreatDoor.T11
set_option maxRecDepth 100000
open Go.Proofs.YtckcojkpghiclaaGreatDoor.T9 Go.Proofs.YtckcojkpghiclaaGreatDoor.T4
def winR (d:List UInt8) (r:Rc):List UInt8:=(d.drop r.frm).take (r.upto - r.frm)
def mapE {α β:Type} (f:α → β):Except Nat α → Except Nat β
 | .ok x=>.ok (f x)
 | .error e=>.error e
def foldR {α:Type} (g:List UInt8 → Rc → α → Except Nat α):Nat → List UInt8 → α → Except Nat α
 | 0,_,x=>.ok x
 | n + 1,d,x=>if d = [] then .ok x else if (wnext d).2.2 = 0 then (match g d (wnext d).1 x with | .ok y=>foldR g n (d.drop (wnext d).2.1) y | .error e=>.error e) else .error (wnext d).2.2
def decR {α:Type} (g:List UInt8 → Rc → α → Except Nat α) (d:List UInt8) (x:α):Except Nat α:=foldR g d.length d x
def blankV (k:Int):Vl':=⟨0,[],if k = 9 then [.mk []] else []⟩
def takeV (sub:Int → List UInt8 → Mg → Except Nat Mg) (kind ref:Int) (d:List UInt8) (r:Rc) (v:Vl'):Except Nat Vl' :=
 if (r.wire:Int) ≠ wireI kind then .error 8
 else if kind = 9 then mapE (fun y=>⟨v.n,v.s,y :: v.M.tail⟩) (sub ref (winR d r) (v.M.headD (.mk [])))
 else if kind = 7 then (if first (winR d r) = (winR d r).length then .ok ⟨v.n,winR d r,v.M⟩ else .error 10)
 else if kind = 8 then .ok ⟨v.n,winR d r,v.M⟩
 else .ok ⟨ofI kind r.num,v.s,v.M⟩
def onSlot (no:Int) (g:So → Except Nat So):List So → Except Nat (List So)
 | []=>mapE (fun t=>[t]) (g ⟨no,[],[]⟩)
 | t :: l=>if t.no = no then mapE (fun u=>(u :: l)) (g t) else mapE (fun l'=>(t :: l')) (onSlot no g l)
def pairD (sub:Int → List UInt8 → Mg → Except Nat Mg) (f:Df) (d:List UInt8) (r:Rc) (p:Vl' × Vl'):Except Nat (Vl' × Vl') :=
 if r.no = 1 then mapE (fun k=>(k,p.2)) (takeV sub f.key 0 d r p.1)
 else if r.no = 2 then mapE (fun v=>(p.1,v)) (takeV sub f.kind f.ref d r p.2)
 else .ok p
def entryS (n:Nat) (sub:Int → List UInt8 → Mg → Except Nat Mg) (f:Df) (d:List UInt8) (r:Rc) (t:So):Except Nat So :=
 if r.wire ≠ 2 then .error 8 else if f.kind = 9 ∧ n = 0 then .error 11
 else mapE (fun p=>⟨t.no,t.K ++ [p.1],t.V ++ [p.2]⟩) (decR (pairD sub f) (winR d r) (blankV f.key,blankV f.kind))
def packedS (f:Df) (d:List UInt8) (r:Rc) (t:So):Except Nat So :=
 if (numsK f.kind (winR d r)).2 = 0 then .ok ⟨t.no,t.K,t.V ++ (numsK f.kind (winR d r)).1.map fun n=>⟨n,[],[]⟩⟩ else .error (numsK f.kind (winR d r)).2
def repS (sub:Int → List UInt8 → Mg → Except Nat Mg) (f:Df) (d:List UInt8) (r:Rc) (t:So):Except Nat So :=
 mapE (fun v=>⟨t.no,t.K,t.V ++ [v]⟩) (takeV sub f.kind f.ref d r (blankV f.kind))
def onlyS (sub:Int → List UInt8 → Mg → Except Nat Mg) (f:Df) (d:List UInt8) (r:Rc) (t:So):Except Nat So :=
 mapE (fun v=>⟨t.no,t.K,v :: t.V.tail⟩) (takeV sub f.kind f.ref d r (t.V.headD (blankV f.kind)))
def leaveL (fd:Int → Option Df) (f:Df) (l:List So):List So :=
 if f.one = 0 then l else l.filter fun t=>!(match fd t.no with | none=>decide (0 = f.one ∧ 0 ≠ f.no) | some o=>decide (o.one = f.one ∧ o.no ≠ f.no))
def slotD (n:Nat) (sub:Int → List UInt8 → Mg → Except Nat Mg) (f:Df) (d:List UInt8) (r:Rc):So → Except Nat So :=
 if f.key ≠ -1 then entryS n sub f d r else if f.rep = true ∧ r.wire = 2 ∧ cnt f.kind = true then packedS f d r else if f.rep = true then repS sub f d r else onlyS sub f d r
def fieldD (fd:Int → Option Df) (n:Nat) (sub:Int → List UInt8 → Mg → Except Nat Mg) (d:List UInt8) (r:Rc) (l:List So):Except Nat (List So) :=
 match fd r.no with
 | none=>.ok l
 | some f=>onSlot f.no (slotD n sub f d r) (if f.key = -1 ∧ f.rep = false then leaveL fd f l else l)
def decM (s:Sc):Nat → Int → List UInt8 → Mg → Except Nat Mg
 | 0=>fun _ _ _=>.error 11
 | n + 1=>fun m d x=>mapE (fun l=>(.mk l)) (decR (fieldD (byS s m) n (decM s n)) d x.F)
theorem wnext_pos {d:List UInt8} (h:(wnext d).2.2 = 0):2 ≤ (wnext d).2.1 ∧ (wnext d).2.1 ≤ d.length:=by
 have hw:wnext d = ((wnext d).1,(wnext d).2.1,0):=by rw [← h]
 have:=wnext_le hw
 exact ⟨this.1,this.2.1⟩
theorem foldR_fuel {α:Type} (g:List UInt8 → Rc → α → Except Nat α):∀ (n m:Nat) (d:List UInt8) (x:α),d.length ≤ n → d.length ≤ m → foldR g n d x = foldR g m d x:=by
 intro n
 induction n with
 | zero =>
  intro m d x h1 _
  obtain rfl:d = []:=List.eq_nil_of_length_eq_zero (by omega)
  cases m <;> simp [foldR]
 | succ n ih =>
  intro m d x h1 h2
  cases m with
  | zero =>
   obtain rfl:d = []:=List.eq_nil_of_length_eq_zero (by omega)
   simp [foldR]
  | succ m =>
   unfold foldR
   by_cases hd:d = []
   ·rw [if_pos hd,if_pos hd]
   ·rw [if_neg hd,if_neg hd]
    by_cases he:(wnext d).2.2 = 0
    ·rw [if_pos he,if_pos he]
     obtain ⟨p1,p2⟩:=wnext_pos he
     cases g d (wnext d).1 x with
     | error e=>rfl
     | ok y=>exact ih m _ y (by rw [List.length_drop]; omega) (by rw [List.length_drop]; omega)
    ·rw [if_neg he,if_neg he]
theorem decR_nil {α:Type} (g:List UInt8 → Rc → α → Except Nat α) (x:α):decR g [] x = .ok x:=rfl
theorem decR_err {α:Type} (g:List UInt8 → Rc → α → Except Nat α) {d:List UInt8} (x:α) (hd:d ≠ []) (h:(wnext d).2.2 ≠ 0):decR g d x = .error (wnext d).2.2:=by
 unfold decR
 obtain ⟨n,hn⟩:∃ n,d.length = n + 1:=⟨d.length - 1,by have:=List.length_pos_iff.2 hd; omega⟩
 rw [hn]; unfold foldR
 rw [if_neg hd,if_neg h]
theorem foldR_step {α:Type} (g:List UInt8 → Rc → α → Except Nat α) (n:Nat) (d:List UInt8) (x:α):foldR g (n + 1) d x = if d = [] then .ok x else if (wnext d).2.2 = 0 then (match g d (wnext d).1 x with | .ok y=>foldR g n (d.drop (wnext d).2.1) y | .error e=>.error e) else .error (wnext d).2.2:=rfl
theorem decR_cons {α:Type} (g:List UInt8 → Rc → α → Except Nat α) {d:List UInt8} {r:Rc} {p:Nat} (x:α) (h:wnext d = (r,p,0)):decR g d x = match g d r x with | .ok y=>decR g (d.drop p) y | .error e=>.error e:=by
 have hle:=wnext_le h
 have hd:d ≠ []:=by intro e; subst e; simp at hle; omega
 unfold decR
 obtain ⟨n,hn⟩:∃ n,d.length = n + 1:=⟨d.length - 1,by have:=List.length_pos_iff.2 hd; omega⟩
 rw [hn,foldR_step,if_neg hd,h,if_pos rfl]
 cases g d r x with
 | error e=>rfl
 | ok y=>exact foldR_fuel g n (d.drop p).length (d.drop p) y (by rw [List.length_drop]; omega) (Nat.le_refl _)
theorem winR_local {d:List UInt8} {r:Rc} {p:Nat} (h:wnext d = (r,p,0)) (t:List UInt8):winR (d.take p ++ t) r = winR d r:=by
 obtain ⟨h1,h2,h3,h4,h5⟩:=wnext_le h
 unfold winR
 have hl:(d.take p).length = p:=by rw [List.length_take]; omega
 have hx:r.upto - r.frm ≤ ((d.take p).drop r.frm).length:=by rw [List.length_drop,hl,h3]; exact Nat.le_refl _
 rw [List.drop_append_of_le_length (show r.frm ≤ (d.take p).length by omega),List.take_append_of_le_length hx,List.drop_take,List.take_take]
 congr 1
 omega
def Local {α:Type} (g:List UInt8 → Rc → α → Except Nat α):Prop:=∀ d d' r x,winR d r = winR d' r → g d r x = g d' r x
theorem decR_append {α:Type} {g:List UInt8 → Rc → α → Except Nat α} (hg:Local g) (b:List UInt8):∀ (n:Nat) (a:List UInt8) (x y:α),a.length ≤ n → decR g a x = .ok y → decR g (a ++ b) x = decR g b y:=by
 intro n
 induction n with
 | zero =>
  intro a x y hn h
  obtain rfl:a = []:=List.eq_nil_of_length_eq_zero (by omega)
  rw [decR_nil] at h
  obtain rfl:=Except.ok.inj h
  rfl
 | succ n ih =>
  intro a x y hn h
  by_cases ha:a = []
  ·subst ha
   rw [decR_nil] at h
   obtain rfl:=Except.ok.inj h
   rfl
  ·by_cases he:(wnext a).2.2 = 0
   ·have hw:wnext a = ((wnext a).1,(wnext a).2.1,0):=by rw [← he]
    obtain ⟨p1,p2⟩:=wnext_pos he
    obtain ⟨r,hr⟩:∃ r,(wnext a).1 = r:=⟨_,rfl⟩
    obtain ⟨p,hp⟩:∃ p,(wnext a).2.1 = p:=⟨_,rfl⟩
    rw [hr,hp] at hw
    rw [hp] at p1 p2
    have hab:a ++ b = a.take p ++ (a.drop p ++ b):=by rw [← List.append_assoc,List.take_append_drop]
    have hw2:wnext (a ++ b) = (r,p,0):=by rw [hab]; exact wnext_local hw _
    rw [decR_cons g x hw] at h
    rw [decR_cons g x hw2,hg (a ++ b) a r x (by rw [hab]; exact winR_local hw _),List.drop_append_of_le_length p2]
    cases hgx:g a r x with
    | error e=>rw [hgx] at h; cases h
    | ok z =>
     rw [hgx] at h
     exact ih (a.drop p) z y (by rw [List.length_drop]; omega) h
   ·rw [decR_err g x ha he] at h; cases h
theorem mapE_map {α β γ:Type} (f:α → β) (g:β → γ) (a:Except Nat α):mapE g (mapE f a) = mapE (fun x=>g (f x)) a:=by cases a <;> rfl
theorem onSlot_at (no:Int) (g:So → Except Nat So):∀ (l:List So) (i:Nat) (t:So),l[i]? = some t → t.no = no → (∀ (k:Nat) (u:So),k < i → l[k]? = some u → u.no ≠ no) → onSlot no g l = mapE (fun u=>l.set i u) (g t)
 | [],_,_,h,_,_=>by simp at h
 | a :: l,0,t,h,ht,_=>by
  obtain rfl:a = t:=by simpa using h
  unfold onSlot
  rw [if_pos ht]
  rfl
 | a :: l,i + 1,t,h,ht,hf=>by
  have ha:a.no ≠ no:=hf 0 a (by omega) rfl
  unfold onSlot
  rw [if_neg ha,onSlot_at no g l i t (by simpa using h) ht (fun k u hk hu=>hf (k + 1) u (by omega) (by simpa using hu)),mapE_map]
  rfl
theorem onSlot_new (no:Int) (g:So → Except Nat So):∀ (l:List So),(∀ u ∈ l,u.no ≠ no) → onSlot no g l = mapE (fun u=>l ++ [u]) (g ⟨no,[],[]⟩)
 | [],_=>rfl
 | a :: l,h=>by
  unfold onSlot
  rw [if_neg (h a (List.mem_cons_self ..)),onSlot_new no g l (fun u hu=>h u (List.mem_cons_of_mem _ hu)),mapE_map]
  rfl
theorem slot_cases (no:Int):∀ (l:List So),(∃ i t,l[i]? = some t ∧ t.no = no ∧ ∀ (k:Nat) (u:So),k < i → l[k]? = some u → u.no ≠ no) ∨ ∀ u ∈ l,u.no ≠ no
 | []=>.inr (fun u hu=>by cases hu)
 | a :: l=>by
  by_cases ha:a.no = no
  ·exact .inl ⟨0,a,rfl,ha,fun k u hk=>absurd hk (Nat.not_lt_zero _)⟩
  ·rcases slot_cases no l with ⟨i,t,h1,h2,h3⟩ | h
   ·refine .inl ⟨i + 1,t,by rw [List.getElem?_cons_succ]; exact h1,h2,fun k u hk hu=>?_⟩
    cases k with
    | zero =>
         obtain rfl:a = u:=by simpa using hu
         exact ha
    | succ k=>exact h3 k u (by omega) (by simpa using hu)
   ·exact .inr (fun u hu=>(List.mem_cons.1 hu).elim (fun e=>e ▸ ha) (h u))
end Go.Proofs.YtckcojkpghiclaaGreatDoor.T11
namespace Go.Proofs.YtckcojkpghiclaaGreatDoor.T11
set_option maxRecDepth 100000
open Go.RowKit
theorem deeper_yes (d:Int) (h0:0 ≤ d) (h:d < 64) (w:World):Calls Tryz.prog 196 #[.int .i64 d] w fun e w'=>e = .returned (.int .i64 (d + 1)) ∧ w' = w:=by
 have h1:decide (d < 64) = true:=decide_eq_true h
 go_enter Tryz.func196,Tryz.ntmps196
 go_wp2_with fail
 refine (must_yes 11 w).mono ?_
 rintro e w1 ⟨rfl,rfl⟩
 go_wp2
 go_ret
 exact ⟨rfl,rfl⟩
theorem deeper_no (d:Int) (h:64 ≤ d) (w:World):Calls Tryz.prog 196 #[.int .i64 d] w fun r w'=>r = .panicked [{ v:=errP (11:Nat),recovered:=false }] ∧ w' = w:=by
 have h1:decide (d < 64) = false:=decide_eq_false (by omega)
 have HM:=Lib.hid (must_no (11:Nat) w)
 go_enter Tryz.func196,Tryz.ntmps196
 go_wp2_with fail
 refine HM.out.mono ?_
 rintro e w1 ⟨rfl,rfl⟩
 go_wp2
 exact ⟨rfl,rfl,rfl⟩
theorem blank_num (k:Int) (h:k ≠ 9) (w:World):Calls Tryz.prog 197 #[.int .i64 k] w fun e w'=>e = .returned (.agg #[.int .i64 0,.string { data:=#[] },.slice none 0 0]) ∧ Below w.heap.size w w':=by
 have h1:(k == 9) = false:=by rw [beq_eq_false_iff_ne]; exact h
 go_enter Tryz.func197,Tryz.ntmps197
 go_wp2
 refine bodyPost_ret (results_cell_row rfl _ _ w.heap.size 81 _ (0,0) _ rfl (heap_alloc_last w _) Tryz.underlying81 rfl (by kernel_rfl)) rfl ?_
 exact ⟨rfl,below_new w _⟩
set_option maxRecDepth 1000000 in
set_option maxHeartbeats 4000000 in
theorem take_num (vM vE vB:Value) (p:Addr) (kind ref no wire:Int) (num:Nat) (frm upto deep:Int) (hk:cnt kind = true) (hw:wire = wireI kind) (hn:num < 18446744073709551616) (w:World) (old:Value) (hp:p.block < w.heap.size) (hc:w.cell? p = some old) (hz:w.frozen? p = false) :
  Calls Tryz.prog 198 #[.agg #[vM,vE,vB],.pointer (some p),.int .i64 kind,.int .i64 ref,.agg #[.int .i64 no,.int .i64 wire,.int .u64 num,.int .i64 frm,.int .i64 upto],.int .i64 deep] w fun e w'=>e = .returned (.tuple #[]) ∧ ∃ w2,Below w.heap.size w w2 ∧ w' = w2.setCell p (.int .i64 (ofI kind (num:Int))):=by
 have hkr:0 ≤ kind ∧ kind < 7:=by simpa [cnt] using hk
 have k9:(kind == 9) = false:=by rw [beq_eq_false_iff_ne]; omega
 have k8:(kind == 8) = false:=by rw [beq_eq_false_iff_ne]; omega
 have k7:(kind == 7) = false:=by rw [beq_eq_false_iff_ne]; omega
 have HOF:=Lib.hid (fun wx=>of_any kind (num:Int) (by omega) (by omega) wx)
 have HW:=Lib.hid (fun wx=>wire_any kind wx)
 have HY:=Lib.hid (fun wx=>must_yes 8 wx)
 rw [hk] at HOF
 rw [← hw] at HW
 go_enter Tryz.func198,Tryz.ntmps198
 go_wp2_with fail
 obtain ⟨wf,hwf⟩:∃ wf,(w.alloc (Obj.cells #[vM,vE,vB] 113)).alloc (Obj.cells #[.int .i64 no,.int .i64 (wireI kind),.int .u64 num,.int .i64 frm,.int .i64 upto] 41) = wf:=⟨_,rfl⟩
 have X1:wf.heap[w.heap.size + 1]? = some (Obj.cells #[.int .i64 no,.int .i64 (wireI kind),.int .u64 num,.int .i64 frm,.int .i64 upto] 41):=by
  have h:=heap_alloc_new (w.alloc (Obj.cells #[vM,vE,vB] 113)) (Obj.cells #[.int .i64 no,.int .i64 (wireI kind),.int .u64 num,.int .i64 frm,.int .i64 upto] 41)
  rw [hwf] at h
  have hs:(w.alloc (Obj.cells #[vM,vE,vB] 113)).heap.size = w.heap.size + 1:=by simp
  rw [hs] at h
  exact h
 have hb0:Below w.heap.size w wf:=by
  rw [← hwf]
  exact (below_new w _).alloc (by simp) _
 rw [← hw] at X1
 have HSX:Hid (∀ wx,Below wf.heap.size wf wx → (wx.cell? ⟨w.heap.size + 1,1,none⟩ = some (.int .i64 wire) ∧ wx.cell? ⟨w.heap.size + 1,2,none⟩ = some (.int .u64 num)) ∧ wx.cell? p = some old ∧ wx.frozen? p = false):=Lib.hid (fun wx hx=>by
  have Y:=(hx.block _ (Array.getElem?_eq_some_iff.1 X1).1).trans X1
  have hb:=below_then hb0 hx
  exact ⟨⟨by simp [World.cell?,Y],by simp [World.cell?,Y]⟩,(hb.cell hp).trans hc,(hb.frozen hp).trans hz⟩)
 rw [hwf]
 have LD:Below wf.heap.size wf wf.drew:=(Below.refl _ _).drew
 have hww:(wire == wire) = true:=by simp
 have HB0:=Lib.hid hb0
 clear hwf X1 hb0 hc hz
 go_region_held3 (fun wx=>(wx.cell? ⟨w.heap.size + 1,1,none⟩ = some (.int .i64 wire) ∧ wx.cell? ⟨w.heap.size + 1,2,none⟩ = some (.int .u64 num)) ∧ wx.cell? p = some old ∧ wx.frozen? p = false)
  (first | exact HSX.out _ LD | exact HSX.out _ L6 | go_keep)
  ((first
   | (go_at_call 80; refine (HW.out _).mono ?_; rintro e w6 ⟨rfl,hb6⟩; have L6:=LD.trans hb6)
   | (go_at_call 62; refine (HY.out _).mono ?_; rintro e w7 ⟨rfl,rfl⟩)
   | fail))
 all_goals
  go_wp2_with fail
  refine (HOF.out _).mono ?_
  rintro e w8 ⟨rfl,hb8⟩
  have L8:=below_then L6 hb8
  obtain ⟨-,P1,P2⟩:=HSX.out _ L8
  have HB8:=Lib.hid (below_then HB0.out L8)
  clear hb8 L8
  go_wp2
  go_end0
  exact ⟨rfl,_,HB8.out,rfl⟩
theorem slot_at {w:World} {A:Option Addr} {c:Nat} {xs:List Value} {nos:List Int} (h:Sl w A nos.length c 3 xs) (hN:∀ k x,nos[k]? = some x → xs[k * 3]? = some (.int .i64 x)) {k:Nat} (hk:k < nos.length):∃ ad x,A = some ad ∧ nos[k]? = some x ∧ w.cell? (ad.add (k * 3)) = some (.int .i64 x):=by
 obtain ⟨ad,rfl,hb,hcell⟩:=Sl.there h (by omega)
 exact ⟨ad,nos[k],rfl,List.getElem?_eq_getElem hk,hcell _ _ (hN k _ (List.getElem?_eq_getElem hk))⟩
set_option maxRecDepth 1000000 in
set_option maxHeartbeats 4000000 in
theorem slotOf_old (p:Addr) (no:Int) (A:Option Addr) (c:Nat) (xs:List Value) (nos:List Int) (i:Nat) (w:World) (hF:w.cell? p = some (.slice A nos.length c)) (hS:Sl w A nos.length c 3 xs) (hsm:nos.length ≤ 1000000000)
  (hN:∀ k x,nos[k]? = some x → xs[k * 3]? = some (.int .i64 x)) (hi:nos[i]? = some no) (hfirst:∀ k,k < i → nos[k]? ≠ some no) :
  Calls Tryz.prog 149 #[.pointer (some p),.int .i64 no] w fun e w'=>(∃ ad,A = some ad ∧ e = .returned (.pointer (some (ad.add (i * 3))))) ∧ w' = w:=by
 have hin:i < nos.length:=(List.getElem?_eq_some_iff.1 hi).1
 have HI:=Lib.hid hi
 have HF:=Lib.hid hfirst
 have HN:=Lib.hid hN
 have HS:=Lib.hid hS
 clear hi hfirst hN hS
 go_enter Tryz.func149,Tryz.ntmps149
 go_wp2
 go_loopw [11] (fun i' wr=>∃ k:Nat,i' = .int .i64 k ∧ k ≤ i ∧ wr = w) (fun i' _=>nos.length - (intOf i').toNat)
 case atStart=>exact ⟨0,rfl,by omega,rfl⟩
 case round =>
  obtain ⟨k,rfl,hk,rfl⟩:=hrel
  have hkl:k < nos.length:=by omega
  obtain ⟨ad,x,rfl,hx,c0⟩:=slot_at HS.out HN.out hkl
  have hkm:k * 3 < 9223372036854775807:=by omega
  by_cases hki:k = i
  ·subst hki
   obtain rfl:x = no:=by have:=hx.symm.trans HI.out; injection this
   have hxx:(x == x) = true:=by simp
   clear hx
   go_wp2
   go_ret
   exact ⟨⟨ad,rfl,rfl⟩,rfl⟩
  ·have hne:(x == no) = false:=by
    rw [beq_eq_false_iff_ne]
    rintro rfl
    exact HF.out k (by omega) hx
   clear hx
   go_wp2
   exact ⟨⟨k + 1,by go_num,by omega,trivial⟩,by simp [intOf]; omega⟩
theorem info_slot:(Tryz.prog.info? 67).map (fun i=>(i.zero,i.size,i.bytes)) = some (some (.agg #[.int .i64 0,.slice none 0 0,.slice none 0 0]),3,56):=by kernel_rfl
theorem cell_grown {w w':World} {r:Option Nat} {p:Addr} {v:Value} (hp:p.block < w.heap.size) (hr:∀ k,r = some k → k ≠ p.block) (hg:w.grownBy w' r) (h:w.cell? p = some v):w'.cell? p = some v :=
 (World.cell?_of_block (w:=w) (hg.block p.block hp (fun e=>hr _ e.symm rfl))).trans h
theorem frozen_grown {w w':World} {r:Option Nat} {p:Addr} {b:Bool} (hp:p.block < w.heap.size) (hr:∀ k,r = some k → k ≠ p.block) (hg:w.grownBy w' r) (h:w.frozen? p = b):w'.frozen? p = b :=
 (World.frozen?_of_block (w:=w) (hg.block p.block hp (fun e=>hr _ e.symm rfl))).trans h
theorem grown_alloc {w w':World} {o:Obj} {r:Option Nat} (h:(w.alloc o).grownBy w' r):w.grownBy w' r:=by
 have hs:(w.alloc o).heap.size = w.heap.size + 1:=by simp
 exact ⟨h.os,h.tape,h.output,by have:=h.size; omega,fun k hk e=>(h.block k (by omega) e).trans ((below_new w o).block k hk)⟩
set_option maxRecDepth 1000000 in
set_option maxHeartbeats 4000000 in
theorem slotOf_fresh (p:Addr) (no:Int) (b:Nat) (v:Value) (xs:List Value) (nos:List Int) (w:World) (hb:b ≤ w.heap.size) (hF:w.cell? p = some v) (hz:w.frozen? p = false) (hp:p.block < w.heap.size) (hpo:∀ k,v.ownBlock = some k → k ≠ p.block) (hS:w.ownsRow b 67 3 v nos.length xs) (hsm:nos.length ≤ 1000000000)
  (hN:∀ k x,nos[k]? = some x → xs[k * 3]? = some (.int .i64 x)) (hno:no ∉ nos) :
  Calls Tryz.prog 149 #[.pointer (some p),.int .i64 no] w fun e w'=>∃ g cap w2 d,e = .returned (.pointer (some (Addr.add ⟨g,0,none⟩ (nos.length * 3)))) ∧ w' = (w2.setCell p (.slice (some ⟨g,0,none⟩) (nos.length + 1) cap)).drewN d ∧ w2.ownsRow b 67 3 (.slice (some ⟨g,0,none⟩) (nos.length + 1) cap) (nos.length + 1) (xs ++ [.int .i64 no,.slice none 0 0,.slice none 0 0]) ∧ w.grownBy w2 v.ownBlock ∧ (v.ownBlock = some g ∨ w.heap.size ≤ g):=by
 obtain ⟨i0,hi,hz0,hz1,hz2⟩:=info_parts info_slot
 obtain ⟨A,c,rfl,hs⟩:=Sl.of_own hS
 have HN:=Lib.hid hN
 have HS:=Lib.hid hs
 have HO:=Lib.hid hS
 have HX:=Lib.hid hno
 clear hN hno hs hS
 go_enter Tryz.func149,Tryz.ntmps149
 go_wp2
 go_loopw [11] (fun i' wr=>∃ k:Nat,i' = .int .i64 k ∧ k ≤ nos.length ∧ wr = w) (fun i' _=>nos.length - (intOf i').toNat)
 case atStart=>exact ⟨0,rfl,by omega,rfl⟩
 case round =>
  obtain ⟨k,rfl,hk,rfl⟩:=hrel
  by_cases hkl:k < nos.length
  ·obtain ⟨ad,x,rfl,hx,c0⟩:=slot_at HS.out HN.out hkl
   have hkm:k * 3 < 9223372036854775807:=by omega
   have hne:(x == no) = false:=by
    rw [beq_eq_false_iff_ne]
    rintro rfl
    exact HX.out (List.mem_of_getElem? hx)
   clear hx
   go_wp2
   exact ⟨⟨k + 1,by go_num,by omega,trivial⟩,by simp [intOf]; omega⟩
  ·obtain rfl:k = nos.length:=by omega
   go_wp2_with (at_builtin; (refine wpList_append_lies _ rfl _ _ 29 rfl b 67 i0 _ 3 56 Tryz.underlying29 hi hz0 hz1 hz2 rfl (by decide) (.slice A nos.length c) nos.length xs rfl (HO.out.alloc _) ⟨_,0,none⟩ 1 1 [.int .i64 no,.slice none 0 0,.slice none 0 0] rfl rfl (World.news_of_block (heap_alloc_new _ _)) (by simp [Value.oneCell']) (by decide) (by unfold maxLen; omega) (by omega) (by simp; omega) _ rfl ?_); intro g3 cap3 w3 hown3 hg3 hat3 hlt3; have P1:=cell_grown hp hpo (grown_alloc hg3) hF; have P2:=frozen_grown hp hpo (grown_alloc hg3) hz; have P3:=World.cell?_setCell_same' w3 p (.slice (some ⟨g3,0,none⟩) (nos.length + 1) cap3) (by rw [P1]; rfl))
   go_quiet (fail)
   go_wp2
   go_ret
   exact ⟨g3,cap3,w3,nq,by rw [Addr.add_lit,Nat.zero_add]; rfl,rfl,hown3,grown_alloc hg3,hat3.imp id (fun h=>by rw [h]; simp)⟩
theorem ints_at {w:World} {A:Option Addr} {c:Nat} {l:List Int} (h:Sl w A l.length c 1 (ints l)) {k:Nat} (hk:k < l.length):∃ ad x,A = some ad ∧ l[k]? = some x ∧ w.cell? (ad.add k) = some (.int .i64 x):=by
 obtain ⟨ad,rfl,hb,hcell⟩:=Sl.there h (by omega)
 refine ⟨ad,l[k],rfl,List.getElem?_eq_getElem hk,hcell k _ ?_⟩
 unfold ints
 rw [List.getElem?_map,List.getElem?_eq_getElem hk]
 rfl
end Go.Proofs.YtckcojkpghiclaaGreatDoor.T11
namespace Go.Proofs.YtckcojkpghiclaaGreatDoor.T11
set_option maxRecDepth 100000
open Go.ChangeShapes Go.WideShapes Go.ChangeAt Go.RowKit
theorem numsK_len (k:Int) (a:List UInt8):(numsK k a).1.length ≤ a.length:=by
 unfold numsK
 split
 ·exact nums_len a.length a (Nat.le_refl _)
 ·simp
end Go.Proofs.YtckcojkpghiclaaGreatDoor.T11
namespace Go.Proofs.YtckcojkpghiclaaGreatDoor.T11
set_option maxRecDepth 100000
open Go.RowKit
open Go.Proofs.YtckcojkpghiclaaGreatDoor.T9
set_option maxHeartbeats 2000000 in
set_option maxRecDepth 1000000 in
theorem catch_idleM (p:Addr) (w:World) :
  CallsD Tryz.prog 61 #[.pointer (some p)] .returning w fun e u' w'=>e = .returned (.tuple #[]) ∧ u' = .returning ∧ w' = w:=by
 refine callsD_of_wpS Tryz.func61 rfl fun c₀ cs hu=>?_
 apply wpS_seq
 apply wpS_region
 simp [wpOpsS,go_sem,recoverD,hu,Tryz.ntmps61,Exit.thenS]
 refine wpS_of_wp ?_
 go_wp2
 cases c₀
 simp_all [bodyPostS,results,Tryz.results61]
set_option maxHeartbeats 2000000 in
set_option maxRecDepth 1000000 in
theorem catch_panickingM (p:Addr) (x e:Int) (older:List PanicEntry) (w:World) (hc:w.cell? p = some (.int .i64 x)) (hz:w.frozen? p = false) :
  CallsD Tryz.prog 61 #[.pointer (some p)] (.panicking ({ v:=errP e,recovered:=false } :: older)) w fun r u' w'=>r = .returned (.tuple #[]) ∧ u' = .panicking ({ v:=errP e,recovered:=true } :: older) ∧ w' = w.setCell p (.int .i64 e):=by
 have hta:=assert_err e
 unfold errP at *
 refine callsD_of_wpS Tryz.func61 rfl fun c₀ cs hu=>?_
 apply wpS_seq
 apply wpS_region
 simp [wpOpsS,go_sem,recoverD,hu,Tryz.ntmps61,Exit.thenS]
 refine wpS_of_wp ?_
 go_wp2
 simp [bodyPostS,results,Tryz.results61]
set_option maxHeartbeats 4000000 in
set_option maxRecDepth 1000000 in
theorem caughtM_ok (caps:Array Value) (Q:Value → World → Prop) (w:World) (hQ:∀ v wa wb k,w.heap.size ≤ k → k ≤ w.heap.size + 1 → Q v wa → wa.grownBy wb (some k) → Q v wb)
  (HF:∀ wx,Below w.heap.size w wx → w.heap.size + 2 ≤ wx.heap.size → Calls Tryz.prog 35 caps wx fun e w'=>(∃ A n c,e = .returned (.agg #[.slice A n c]) ∧ Q (.slice A n c) w') ∧ Below wx.heap.size wx w') :
  Calls Tryz.prog 34 #[.func (.func 35) #[] caps] w fun e w'=>(∃ A n c,e = .returned (.tuple #[.agg #[.slice A n c],.int .i64 0]) ∧ Q (.slice A n c) w') ∧ Below w.heap.size w w':=by
 have hmf:∀ (fn:Fn) (first cap:Array Value) (w:World),(Instr.makeFunc fn first cap).run Tryz.prog w = .ok (.func fn first cap) w:=fun _ _ _ _=>rfl
 obtain ⟨X1,X2,LBD⟩:=two_boxes w (.cells #[.slice none 0 0] 31) (.cells #[.int .i64 0] 32)
 have HX:=Lib.hid (And.intro X1 X2)
 have HC:=Lib.hid (HF _ LBD (by simp))
 have HQ:=Lib.hid hQ
 go_enter_defers Tryz.func34,Tryz.ntmps34
 go_wp2_with fail
 refine HC.out.mono ?_
 rintro e w1 ⟨⟨A,n,c,rfl,hq⟩,hb1⟩
 have Y1:=box_on HX.out.1 hb1
 have Y2:=box_on HX.out.2 hb1
 have hb01:=below_then LBD hb1
 have c0:=bx1 Y1
 have c1:=bx1 Y2
 have f0:w1.frozen? ⟨w.heap.size,0,none⟩ = false:=by simp [World.frozen?,Y1]
 obtain ⟨Z1,G1⟩:=cell1 Y1 (.slice A n c)
 have V2:=(Go.heap_setCell_other w1 ⟨w.heap.size,0,none⟩ (w.heap.size + 1) (.slice A n c) (by simp)).trans Y2
 have f1:(w1.setCell ⟨w.heap.size,0,none⟩ (.slice A n c)).frozen? ⟨w.heap.size + 1,0,none⟩ = false:=by simp [World.frozen?,V2]
 have f1':w1.frozen? ⟨w.heap.size + 1,0,none⟩ = false:=by simp [World.frozen?,Y2]
 obtain ⟨Z2,G2⟩:=cell1 V2 (.int .i64 0)
 have hq2:=HQ.out _ _ _ _ (Nat.le_succ _) (Nat.le_refl _) (HQ.out _ _ _ _ (Nat.le_refl _) (Nat.le_succ _) hq G1) G2
 have hbz:=(hb01.trans (below_own G1 (Nat.le_refl _) hb01.size)).trans (below_own G2 (Nat.le_succ _) (Nat.le_trans hb01.size G1.size))
 have z0:=bx1 ((Go.heap_setCell_other _ ⟨w.heap.size + 1,0,none⟩ w.heap.size (.int .i64 0) (by simp)).trans Z1)
 have z1:=bx1 Z2
 clear HF HC HX X1 X2 LBD hb1 hq HQ hQ
 go_wp2
 refine leaves_cons (f:=61) (args:=#[.pointer (some ⟨w.heap.size + 1,0,none⟩)]) (by simp) (by simp [go_sem]) ?_
 refine (catch_idleM _ _).mono ?_
 rintro e u' w'' ⟨rfl,rfl,rfl⟩
 simp [Leaves,settle,results,Tryz.results34,go_sem,c0,c1,f0,f1,f1',z0,z1]
 first | exact ⟨hq2,hbz⟩ | exact ⟨⟨A,n,c,⟨rfl,rfl,rfl⟩,hq2⟩,hbz⟩
end Go.Proofs.YtckcojkpghiclaaGreatDoor.T11
namespace Go.Proofs.YtckcojkpghiclaaGreatDoor.T12
set_option maxRecDepth 100000
open Go.RowKit Go.Maps
open Go.Proofs.YtckcojkpghiclaaGreatDoor.T9 Go.Proofs.YtckcojkpghiclaaGreatDoor.T4
theorem tnormal_ow {s:Sc} (hin:ScIn s) (B D:Nat) (vM vE:Value) (m:Int) (x:Mg) (u:Value) (w:World) (hB:B ≤ w.heap.size) (hs:SAt B w s vM vE) (hx:MRd B w D x u) (hi:MIn x) (hc:x.cnt ≤ 100000) (T:Tabs w) (hm:mayT s m x = true) :
  Calls Tryz.prog 33 #[.agg #[vM,vE],.int .i64 m,.agg #[u]] w fun e w'=>∃ A n c,e = .returned (.tuple #[.agg #[.slice A n c],.bool true]) ∧ T9.MAt (Ow (w.heap.size + 3) w') D (norB s 64 m x) [.slice A n c] ∧ Below w.heap.size w w':=by
 refine (tnormal_of hin B D vM vE m x u w hB hs hx hi hc T (fun v wa=>T9.MAt (Ow (w.heap.size + 3) wa) D (norB s 64 m x) [v]) (fun v wa wb h hg=>T9.MAt.imp (Ow.hi (hi_grown hg (by omega))) D _ _ h) ?_).mono ?_
 ·intro hm wx hbw hsz
  have hG:=(mayT_split hm).2
  refine (norm_any hin B D 64 vM vE m x u wx (Nat.le_trans hB hbw.size) (SAt.lo hs hbw hB) (MRd.low (Lo.below hbw hB) hx) hi hc hG (w.heap.size + 3) hsz).mono ?_
  rintro e w' ⟨x1,rfl,h1,h2⟩
  obtain ⟨A,c,rfl⟩:=msg_shape h1
  exact ⟨A,_,c,rfl,h1,h2⟩
 ·rintro e w' ⟨A,n,c,rfl,h1,h2,h3⟩
  exact ⟨A,n,c,by rw [hm],h2 hm,h3⟩
end Go.Proofs.YtckcojkpghiclaaGreatDoor.T12
