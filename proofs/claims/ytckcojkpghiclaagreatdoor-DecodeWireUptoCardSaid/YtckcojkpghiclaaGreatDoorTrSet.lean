/-
 Words for memory that every text of this seat uses: slices of bytes that read as lists,rows of the call's own,what an append of one element does,and the last step from a walk to a law's statement.
-/
import Derived.Test.YtckcojkpghiclaaGreatDoorRows
import Derived.WalkKit
import Derived.ProofKit
import Derived.OpenShut
import Derived.ScopeJumps
import Derived.Lib.Hide
import Derived.IntWalk
import Derived.JoinedCond
import Derived.Deep.Draws
import Derived.Deep.AppendLies
import Derived.Deep.Slices
import Derived.Maps.AppendAt
import Derived.Deep.RegionHeld3
import Derived.Deep.RegionHeldLaw
import Derived.SizedLaws
import Derived.Deep.MidRow
import Derived.OwnWalk
import Derived.Laws.CopyRow
import Derived.Lib.AppendZerosOnto
import Derived.Lib.AppendZeros
import Derived.Lib.Overlaps
import Derived.Laws.Externs
import Derived.Shelf.RegionOpenPlain
namespace Go.Proofs.YtckcojkpghiclaaGreatDoor
set_option maxRecDepth 100000
open Go.ChangeShapes Go.WideShapes Go.ChangeAt Go.RowKit
theorem add_nothing (a:Addr):a.add 0 = a:=by simp [Addr.add]
theorem add_twice (a:Addr) (i k:Nat):(a.add i).add k = a.add (i + k):=by
 rcases i with _ | i
 ·rw [add_nothing,Nat.zero_add]
 ·rcases k with _ | k
  ·rw [add_nothing,Nat.add_zero]
  ·simp [Addr.add,Nat.add_assoc]
theorem add_same_block (a:Addr) (i:Nat):(a.add i).block = a.block:=by
 rcases i with _ | i
 ·rw [add_nothing]
 ·simp [Addr.add]
structure Sl (w:World) (A:Option Addr) (n c size:Nat) (xs:List Value):Prop where
 len:xs.length = n * size
 le:n ≤ c
 cap:c ≤ maxLen
 nil:A = none → c = 0
 old:∀ ad,A = some ad → 0 < n → ad.block < w.heap.size
 cell:∀ ad,A = some ad → ∀ k u,xs[k]? = some u → w.cell? (ad.add k) = some u
section
variable {w w':World} {A:Option Addr} {n c size:Nat} {xs:List Value}
theorem Sl.none_len (h:Sl w none n c size xs):n = 0 ∧ c = 0 ∧ xs = []:=by
 have hc:=h.nil rfl
 have hn:n = 0:=by have:=h.le; omega
 refine ⟨hn,hc,List.eq_nil_of_length_eq_zero ?_⟩
 rw [h.len,hn,Nat.zero_mul]
theorem Sl.nothing (w:World) (size:Nat):Sl w none 0 0 size [] :=
 ⟨by simp,Nat.le_refl _,Nat.zero_le _,fun _=>rfl,by simp,by simp⟩
theorem Sl.there (h:Sl w A n c size xs) (hn:0 < n):∃ ad,A = some ad ∧ ad.block < w.heap.size ∧ ∀ k u,xs[k]? = some u → w.cell? (ad.add k) = some u:=by
 cases A with
 | none=>have:=h.none_len.1; omega
 | some ad=>exact ⟨ad,rfl,h.old ad rfl hn,h.cell ad rfl⟩
theorem Sl.on (h:Sl w A n c size xs) (hb:Below w.heap.size w w'):Sl w' A n c size xs:=by
 refine ⟨h.len,h.le,h.cap,h.nil,fun ad ha hn=>Nat.lt_of_lt_of_le (h.old ad ha hn) hb.size,fun ad ha k u hu=>?_⟩
 have hn:0 < n:=by
  rcases Nat.eq_zero_or_pos n with h0 | h0
  ·have hl:=h.len
   rw [h0,Nat.zero_mul] at hl
   rw [List.eq_nil_of_length_eq_zero hl] at hu
   simp at hu
  ·exact h0
 rw [hb.cell (p:=ad.add k) (by rw [add_same_block]; exact h.old ad ha hn)]
 exact h.cell ad ha k u hu
theorem Sl.of_own {base:Nat} {e:TypeId} {v:Value} (h:w.ownsRow base e size v n xs):∃ A c,v = .slice A n c ∧ Sl w A n c size xs:=by
 rcases h.2 with ⟨rfl,rfl⟩ | ⟨g,cap,cur,rfl,_,hh,hle,hmax,hsz,htake⟩
 ·obtain rfl:xs = []:=List.eq_nil_of_length_eq_zero (by rw [h.1,Nat.zero_mul])
  exact ⟨none,0,rfl,Sl.nothing w size⟩
 ·refine ⟨_,cap,rfl,h.1,hle,hmax,by simp,fun ad ha _=>?_,fun ad ha k u hu=>?_⟩
  ·obtain rfl:=Option.some.inj ha
   exact (Array.getElem?_eq_some_iff.1 hh).1
  ·obtain rfl:=Option.some.inj ha
   exact h.cells (g:=g) rfl k u hu
end
theorem own_ge {w:World} {base:Nat} {e:TypeId} {size:Nat} {v:Value} {n:Nat} {xs:List Value} (h:w.ownsRow base e size v n xs) :
  ∀ k,v.ownBlock = some k → base ≤ k:=fun k hk=>(h.lt k hk).1
theorem below_draws {B:Nat} {a w:World} (h:Below B a w) (n:Nat):Below B a (w.drewN n):=h.trans ⟨rfl,rfl,rfl,Nat.le_refl _,fun _ _=>rfl⟩
theorem wp_scope_loop {P:Program} {a:Act} {w:World} {Q:Exit → Act → World → Prop} {pre rest:Code} (l:Nat) (J:Act → World → Prop) (μ:Act → World → Nat)
  (hf:findLabel pre l = none)
  (first:pre.wp P (Exit.then J (Exit.jump l J Q)) a w)
  (pass:∀ a w,J a w → rest.wp P (Exit.jump l (fun a' w'=>J a' w' ∧ μ a' w' < μ a w) Q) a w):(Code.scope (pre.seq ((Code.label l).seq rest))).wp P Q a w:=by
 refine wp_scope_jumps l J μ (rest:=Code.skip.seq rest) (by simp [findLabel,hf]) (wp_seq (wp_mono first ?_)) (fun a w hJ=>wp_seq (wp_skip (pass a w hJ)))
 intro e a' w' h
 cases e with
 | normal =>
  refine wp_seq (wp_label ?_)
  refine wp_mono (pass a' w' h) ?_
  intro e2 a2 w2 h2
  cases e2 with
  | goto l'=>exact ⟨h2.1,h2.2.1⟩
  | _=>exact h2
 | _=>exact h
theorem ret_int {k:IntKind} {a b:Int} (h:a = b):Ending.returned (.int k a) = .returned (.int k b):=by rw [h]
theorem ret_bool {a b:Bool} (h:a = b):Ending.returned (.bool a) = .returned (.bool b):=by rw [h]
theorem ret3_int {k k' k'':IntKind} {a a' b b' c c':Int} (h:a = a') (h':b = b') (h'':c = c'):Ending.returned (.tuple #[.int k a,.int k' b,.int k'' c]) = .returned (.tuple #[.int k a',.int k' b',.int k'' c']):=by rw [h,h',h'']
theorem wpList_app1 {P:Program} {w:World} {ops:Array Oper} {rest:List Oper} {o:Oper} {a:Act} {Q:Exit → Act → World → Prop}
  (hg:o.guard = none) (s x:Operand) (t:TypeId) (hop:o.op = .call { callee:=.builtin .append,args:=#[s,x],argTypes:=#[t,t] })
  (base:Nat) (e:TypeId) (i:TypeInfo) (z:Value) (bytes:Nat) (ht:P.underlying t = some (.slice e)) (hi:P.info? e = some i) (hz:i.zero = some z)
  (hsize:i.size = 1) (hby:i.bytes = bytes) (hzs:z.cells.size = 1)
  (v:Value) (n:Nat) (xs:List Value) (hs:a.eval s = v) (hown:w.ownsRow base e 1 v n xs) (g c:Nat) (u:Value) (hx:a.eval x = .slice (some ⟨g,0,none⟩) 1 c)
  (hc:w.cell? ⟨g,0,none⟩ = some u) (h1:u.oneCell' = true) (h63:n + 1 ≤ maxLen) (hbytes:(n + 1) * bytes ≤ 140737488355328) (hbase:base ≤ w.heap.size)
  (h:∀ v' w',w'.ownsRow base e 1 v' (n + 1) (xs ++ [u]) → w.grownBy w' v.ownBlock → wpList P ops Q rest (a.put o.dst v') w'):wpList P ops Q (o :: rest) a w:=by
 obtain ⟨v',w',hrun,h2,h3,_⟩:=run_append_own (P:=P) w base t o.type e i z 1 bytes ht hi hz hsize hby hzs (by omega) v n xs hown ⟨g,0,none⟩ 1 c [u] rfl
  (by
    intro k y hy
    cases k with
    | zero=>simp at hy; subst hy; rw [add_nothing]; exact hc
    | succ k=>simp at hy) (by simpa using h1) h63 hbytes hbase
 refine wpList_plain hg fun K hK=>?_
 have hex:(execOp a.eval o).run P w = .ok (.value v') w':=by simp [execOp,hop,resolve,invoke,builtin,hs,hx,hrun,Result.andThen]
 unfold Oper.wp
 rw [hex]
 exact hK _ _ (h v' w' h2 h3)
theorem wpList_app_sl {P:Program} {w:World} {ops:Array Oper} {rest:List Oper} {o:Oper} {a:Act} {Q:Exit → Act → World → Prop}
  (hg:o.guard = none) (s x:Operand) (t:TypeId) (hop:o.op = .call { callee:=.builtin .append,args:=#[s,x],argTypes:=#[t,t] })
  (base:Nat) (e:TypeId) (i:TypeInfo) (z:Value) (size bytes:Nat) (ht:P.underlying t = some (.slice e)) (hi:P.info? e = some i) (hz:i.zero = some z)
  (hsize:i.size = size) (hby:i.bytes = bytes) (hzs:z.cells.size = size) (hsz:0 < size)
  (v:Value) (n:Nat) (xs:List Value) (hs:a.eval s = v) (hown:w.ownsRow base e size v n xs)
  (A:Option Addr) (m c:Nat) (news:List Value) (hx:a.eval x = .slice A m c) (hr:Sl w A m c size news) (h1:∀ u ∈ news,u.oneCell' = true)
  (h63:n + m ≤ maxLen) (hbytes:(n + m) * bytes ≤ 140737488355328) (hbase:base ≤ w.heap.size)
  (h:∀ v' w',w'.ownsRow base e size v' (n + m) (xs ++ news) → w.grownBy w' v.ownBlock → wpList P ops Q rest (a.put o.dst v') w'):wpList P ops Q (o :: rest) a w:=by
 have key:∃ v' w',(Builtin.append_ #[t,t] o.type #[v,.slice A m c]).run P w = .ok v' w' ∧ w'.ownsRow base e size v' (n + m) (xs ++ news) ∧ w.grownBy w' v.ownBlock:=by
  cases A with
  | none =>
   obtain ⟨rfl,rfl,rfl⟩:=hr.none_len
   exact ⟨v,w,run_append_owned_none (P:=P) w base t o.type e i size ht hi v n xs hown,by simpa using hown,World.grownBy.refl w _⟩
  | some ad =>
   obtain ⟨v',w',hrun,h2,h3,_⟩:=run_append_own (P:=P) w base t o.type e i z size bytes ht hi hz hsize hby hzs hsz v n xs hown ad m c news hr.len (hr.cell ad rfl) h1 h63 hbytes hbase
   exact ⟨v',w',hrun,h2,h3⟩
 obtain ⟨v',w',hrun,h2,h3⟩:=key
 refine wpList_plain hg fun K hK=>?_
 have hex:(execOp a.eval o).run P w = .ok (.value v') w':=by simp [execOp,hop,resolve,invoke,builtin,hs,hx,hrun,Result.andThen]
 unfold Oper.wp
 rw [hex]
 exact hK _ _ (h v' w' h2 h3)
theorem below_then {a b c:World} (h:Below a.heap.size a b) (k:Below b.heap.size b c):Below a.heap.size a c:=h.trans (k.mono h.size)
theorem below_lit {a b:World} (h:Below a.heap.size a b) (o:Obj):Below a.heap.size a (b.alloc o):=h.alloc h.size o
theorem below_new (a:World) (o:Obj):Below a.heap.size a (a.alloc o):=below_lit (Below.refl _ _) o
theorem Sl.new (w:World) (cs:List Value) (t:TypeId) (hm:cs.length ≤ maxLen):Sl (w.alloc (.cells cs.toArray t)) (some ⟨w.heap.size,0,none⟩) cs.length cs.length 1 cs:=by
 refine ⟨by simp,Nat.le_refl _,hm,by simp,fun ad ha _=>?_,fun ad ha k u hu=>?_⟩
 ·obtain rfl:=Option.some.inj ha
  simp
 ·obtain rfl:=Option.some.inj ha
  rw [Addr.add_lit,World.cell?_alloc_at _ _ _ _ rfl]
  simpa using hu
theorem open_i64 {H:Type} {enc:TypeId × Value → H} {W:World} {base:Nat} {v:Value} {d:DataW H} {ps:List MemPlace}
  (hval:Value.okWide Tryz.prog W .any base 3 v) (h:DataW.Trod enc Tryz.prog W 0 (fun _=>true) true 3 v d ps):∃ n:Int,v = .int .i64 n ∧ -9223372036854775808 ≤ n ∧ n ≤ 9223372036854775807:=by
 obtain ⟨a,rfl,rfl,rfl,wf⟩:=open_int Tryz.underlying3 hval h
 have hb:=bounds_i64 wf
 exact ⟨a,rfl,hb.1,hb.2⟩
theorem Tryz.laidOut:laidOutB Tryz.prog = true:=by kernel_rfl
theorem own:ownKnob Tryz.prog.godebug = none:=by kernel_rfl
theorem trodAll_below {H:Type} {enc:TypeId × Value → H} {W W':World} (hb:Below W.heap.size W W') {sp:Nat → Bool} :
  ∀ {ts:List TypeId} {vs:List Value} {ds:List (DataW H)} {ps:List MemPlace},DataW.TrodAll enc Tryz.prog W 0 (fun _=>true) true ts vs ds ps →
   (∀ t ∈ ts,Tryz.prog.readableRec t = true ∧ t < Tryz.prog.types.size) → (∀ x ∈ ps,x.block < W.heap.size) → (∀ x ∈ ps,sp x.block = true) → DataW.TrodAll enc Tryz.prog W' 0 sp true ts vs ds ps
 | [],_,_,_,h,_,_,_=>by
  obtain ⟨rfl,rfl,rfl⟩:=trodAll_nil h
  exact trodAll_mk0
 | t :: ts,_,_,_,h,ht,hp,hsp=>by
  obtain ⟨v,vs1,d,ds1,a,b,rfl,rfl,rfl,h1,h2⟩:=trodAll_cons h
  exact trodAll_cons_mk (WideElems.Trod_stays Tryz.laidOut (ht t (by simp)).1 (ht t (by simp)).2 h1 (fun x hx=>hb.same (hp x (by simp [hx]))) (fun x hx=>hsp x (by simp [hx])))
   (trodAll_below hb h2 (fun t' ht'=>ht t' (by simp [ht'])) (fun x hx=>hp x (by simp [hx])) (fun x hx=>hsp x (by simp [hx])))
theorem law_post {H:Type} {enc:TypeId × Value → H} {f:Func} {s:ChangeSpec} {W W':World} {args:Array Value} {ds gs:List (DataW H)} {before:List MemPlace}
  (hres:f.resultTypes = #[4]) (hvars:s.vars = []) (hfn:s.fn H (ds ++ gs) = { results:=[.lit (.bool true)],args:=ds })
  (hp:∀ t ∈ f.params.toList,Tryz.prog.readableRec t = true ∧ t < Tryz.prog.types.size)
  (hW:DataW.Whole enc Tryz.prog f.params.toList s.vars false W args.toList ds gs before) (hb:Below W.heap.size W W') :
  s.post enc Tryz.prog f false true false false W args (.bool true) W':=by
 have hlt:∀ p ∈ before,p.block < W.heap.size:=fun p hp=>hW.lt p hp
 have hold:∀ p ∈ before,(fun b=>decide (b < W.heap.size)) p.block = true:=fun p hp=>by simpa using hlt p hp
 have hW':=hW
 obtain ⟨p,q,hA,hV,rfl,hz,hn⟩:=hW
 rw [hvars] at hV
 obtain ⟨rfl,rfl⟩:=trodVars_none hV
 simp only [List.append_nil] at hlt hold hz hn hW'
 have hargs:∀ sp:Nat → Bool,(∀ x ∈ p,sp x.block = true) → DataW.TrodAll enc Tryz.prog W' 0 sp true f.params.toList args.toList ds p:=fun sp hsp=>trodAll_below hb hA hp hlt hsp
 have hr:∀ (b:Nat) (sp:Nat → Bool) (hd:Bool),DataW.TrodAll enc Tryz.prog W' b sp hd f.resultTypes.toList ((Value.bool true).resultList f.resultTypes.size) [.lit (.bool true)] []:=by
  intro b sp hd
  rw [hres]
  exact trodAll_cons_mk (shut_bool Tryz.underlying4 _) trodAll_mk0
 have hvv:∀ sp:Nat → Bool,DataW.TrodVars enc Tryz.prog W' sp s.vars ({ results:=[.lit (.bool true)],args:=ds }:Left H).vars []:=by
  intro sp
  rw [hvars]
  rfl
 refine ⟨ds,[],p,[],p,[],hW',by rw [hfn]; exact hr _ _ _,by rw [hfn]; exact hargs _ hold,by rw [hfn]; exact hvv _,World.keptBut_mono (fun x hx=>⟨hx,Or.inr (by simpa using hx)⟩) (hb.frame (· ∈ p)),fun h=>by cases h⟩
section
variable {P:Program} {md:Region.Mode} {ops:Array Oper} {S:World → Prop} {Q:Exit → Act → World → Prop}
theorem tk (i:Nat) {oi:Oper} {v:Value} {fuel:Nat} {listed:Array Bool} {a:Act} {w:World} (h:wpAnyH P md ops Q S fuel (listed.setIfInBounds i true) (a.put oi.dst v) w) (hi:ops[i]? = some oi:=by rfl) (hb:(Region.noSelect ops && Region.free md ops listed i && (Region.ready md ops listed).contains i) = true:=by kernel_rfl)
    (hQ:∀ c a w,Q (.panic c) (a.put oi.dst v) w → Q (.panic c) a w:=by exact fun _ _ _ h=>h) (hw:Region.wanted oi (yielded ops a.tmps) = true:=by rfl) (hy:∀ w,S w → (execOp a.eval oi).run P w = .ok (.value v) w:=by (intro w hSw; (try dsimp only at hSw); go_simp; all_goals with_reducible rfl)) (hS:S w:=by assumption):wpAnyH P md ops Q S (fuel + 1) listed a w:=by
  simp only [Bool.and_eq_true] at hb
  exact wpAnyH_take hi hb.1.1 hb.1.2 hb.2 hQ (.inl ⟨hw,hy⟩) hS h
theorem tkn (i:Nat) {oi:Oper} {fuel:Nat} {listed:Array Bool} {a:Act} {w:World} (h:wpAnyH P md ops Q S fuel (listed.setIfInBounds i true) (a.put oi.dst undef) w) (hi:ops[i]? = some oi:=by rfl) (hb:(Region.noSelect ops && Region.free md ops listed i && (Region.ready md ops listed).contains i) = true:=by kernel_rfl)
    (hQ:∀ c a w,Q (.panic c) (a.put oi.dst undef) w → Q (.panic c) a w:=by exact fun _ _ _ h=>h) (hw:Region.wanted oi (yielded ops a.tmps) = false:=by rfl) (hS:S w:=by assumption):wpAnyH P md ops Q S (fuel + 1) listed a w:=by
  simp only [Bool.and_eq_true] at hb
  exact wpAnyH_take hi hb.1.1 hb.1.2 hb.2 hQ (.inr ⟨hw,rfl⟩) hS h
end
end Go.Proofs.YtckcojkpghiclaaGreatDoor
namespace Go.Proofs.YtckcojkpghiclaaGreatDoor.T9
set_option maxRecDepth 100000
structure VV (α:Type):Type where
 n:Int
 s:List UInt8
 M:List α
structure SL (α:Type):Type where
 no:Int
 K:List (VV α)
 V:List (VV α)
inductive Mg:Type where
 | mk (F:List (SL Mg)):Mg
def Mg.F:Mg → List (SL Mg) | .mk l=>l
abbrev Vl':=VV Mg
abbrev So:=SL Mg
instance:Inhabited Mg:=⟨.mk []⟩
instance {α:Type}:Inhabited (VV α):=⟨⟨0,[],[]⟩⟩
instance {α:Type}:Inhabited (SL α):=⟨⟨0,[],[]⟩⟩
theorem Mg.sz {m:Mg} {s:So} {v:Vl'} {x:Mg} (hs:s ∈ m.F) (hv:v ∈ s.K ∨ v ∈ s.V) (hx:x ∈ v.M):SizeOf.sizeOf x < SizeOf.sizeOf m:=by
 obtain ⟨F⟩:=m
 have h1:=List.sizeOf_lt_of_mem (show s ∈ F from hs)
 obtain ⟨no,K,V⟩:=s
 have h3:SizeOf.sizeOf v < SizeOf.sizeOf (SL.mk no K V):=by
  rcases hv with hv | hv
  ·have:=List.sizeOf_lt_of_mem (show v ∈ K from hv); simp only [SL.mk.sizeOf_spec]; omega
  ·have:=List.sizeOf_lt_of_mem (show v ∈ V from hv); simp only [SL.mk.sizeOf_spec]; omega
 obtain ⟨n,s,M⟩:=v
 have h4:=List.sizeOf_lt_of_mem (show x ∈ M from hx)
 simp only [VV.mk.sizeOf_spec] at h3
 simp only [Mg.mk.sizeOf_spec]
 omega
def mx:List Nat → Nat
 | []=>0
 | x :: l=>max x (mx l)
def sm:List Nat → Nat
 | []=>0
 | x :: l=>x + sm l
theorem sm_append (a b:List Nat):sm (a ++ b) = sm a + sm b:=by
 induction a with
 | nil=>simp [sm]
 | cons x a ih=>simp only [List.cons_append,sm,ih]; omega
theorem mx_le {l:List Nat} {n:Nat} (h:∀ x ∈ l,x ≤ n):mx l ≤ n:=by
 induction l with
 | nil=>exact Nat.zero_le _
 | cons x l ih=>have:=h x (by simp); have:=ih fun y hy=>h y (by simp [hy]); simp only [mx]; omega
theorem le_mx {l:List Nat} {x:Nat} (h:x ∈ l):x ≤ mx l:=by
 induction l with
 | nil=>cases h
 | cons y l ih =>
  simp only [mx]
  rcases List.mem_cons.1 h with rfl | h
  ·omega
  ·have:=ih h; omega
theorem le_sm {l:List Nat} {x:Nat} (h:x ∈ l):x ≤ sm l:=by
 induction l with
 | nil=>cases h
 | cons y l ih =>
  simp only [sm]
  rcases List.mem_cons.1 h with rfl | h
  ·omega
  ·have:=ih h; omega
theorem sm_congr {α:Type} {l:List α} {f g:α → Nat} (h:∀ x ∈ l,f x = g x):sm (l.map f) = sm (l.map g):=by rw [List.map_congr_left h]
theorem sm_mono {α:Type} {l:List α} {f g:α → Nat} (h:∀ x ∈ l,f x ≤ g x):sm (l.map f) ≤ sm (l.map g):=by
 induction l with
 | nil=>simp [sm]
 | cons x l ih=>have:=h x (by simp); have:=ih fun y hy=>h y (by simp [hy]); simp only [List.map_cons,sm]; omega
theorem sm_add {α:Type} (l:List α) (f g:α → Nat):sm (l.map fun x=>f x + g x) = sm (l.map f) + sm (l.map g):=by
 induction l with
 | nil=>rfl
 | cons x l ih=>simp only [List.map_cons,sm,ih]; omega
theorem sm_one {α:Type} (l:List α):sm (l.map fun _=>1) = l.length:=by
 induction l with
 | nil=>rfl
 | cons x l ih=>simp only [List.map_cons,sm,ih,List.length_cons]; omega
def Mg.deep (m:Mg):Nat:=1 + mx (m.F.attach.map fun ⟨s,hs⟩=>max (mx (s.K.attach.map fun ⟨v,hv⟩=>mx (v.M.attach.map fun ⟨x,hx⟩=>x.deep))) (mx (s.V.attach.map fun ⟨v,hv⟩=>mx (v.M.attach.map fun ⟨x,hx⟩=>x.deep))))
termination_by SizeOf.sizeOf m
decreasing_by
 ·exact Mg.sz hs (.inl hv) hx
 ·exact Mg.sz hs (.inr hv) hx
def Mg.cnt (m:Mg):Nat:=sm (m.F.attach.map fun ⟨s,hs⟩=>1 + (sm (s.K.attach.map fun ⟨v,hv⟩=>1 + sm (v.M.attach.map fun ⟨x,hx⟩=>1 + x.cnt)) + sm (s.V.attach.map fun ⟨v,hv⟩=>1 + sm (v.M.attach.map fun ⟨x,hx⟩=>1 + x.cnt))))
termination_by SizeOf.sizeOf m
decreasing_by
 ·exact Mg.sz hs (.inl hv) hx
 ·exact Mg.sz hs (.inr hv) hx
def dV (v:Vl'):Nat:=mx (v.M.map Mg.deep)
def dS (s:So):Nat:=max (mx (s.K.map dV)) (mx (s.V.map dV))
def cV (v:Vl'):Nat:=1 + sm (v.M.map fun x=>1 + x.cnt)
def cS (s:So):Nat:=1 + (sm (s.K.map cV) + sm (s.V.map cV))
theorem att {α β:Type} (l:List α) (g:α → β) (f:{x // x ∈ l} → β) (h:∀ x,f x = g x.1):l.attach.map f = l.map g:=by
 have e:f = fun x=>g x.1:=funext h
 rw [e]
 simp
theorem Mg.deep_eq (m:Mg):m.deep = 1 + mx (m.F.map dS):=by
 rw [Mg.deep,att m.F dS]
 rintro ⟨s,hs⟩
 show max _ _ = dS s
 unfold dS
 rw [att s.K dV,att s.V dV]
 ·rintro ⟨v,hv⟩
  exact congrArg mx (att v.M Mg.deep _ fun x=>rfl)
 ·rintro ⟨v,hv⟩
  exact congrArg mx (att v.M Mg.deep _ fun x=>rfl)
theorem Mg.cnt_eq (m:Mg):m.cnt = sm (m.F.map cS):=by
 rw [Mg.cnt,att m.F cS]
 rintro ⟨s,hs⟩
 show 1 + (_ + _) = cS s
 unfold cS
 rw [att s.K cV,att s.V cV]
 ·rintro ⟨v,hv⟩
  exact congrArg (1 + sm ·) (att v.M (fun x=>1 + x.cnt) _ fun x=>rfl)
 ·rintro ⟨v,hv⟩
  exact congrArg (1 + sm ·) (att v.M (fun x=>1 + x.cnt) _ fun x=>rfl)
theorem Mg.deep_pos (m:Mg):1 ≤ m.deep:=by rw [m.deep_eq]; omega
theorem mem_le_sm {α:Type} {l:List α} {g:α → Nat} {x:α} (h:x ∈ l):g x ≤ sm (l.map g):=le_sm (List.mem_map_of_mem h)
theorem mem_le_mx {α:Type} {l:List α} {g:α → Nat} {x:α} (h:x ∈ l):g x ≤ mx (l.map g):=le_mx (List.mem_map_of_mem h)
theorem deep_lt {m:Mg} {s:So} {v:Vl'} {x:Mg} (hs:s ∈ m.F) (hv:v ∈ s.K ∨ v ∈ s.V) (hx:x ∈ v.M):x.deep < m.deep:=by
 have h1:x.deep ≤ dV v:=mem_le_mx hx
 have h2:dV v ≤ dS s:=by
  unfold dS
  rcases hv with hv | hv
  ·have:=mem_le_mx (g:=dV) hv; omega
  ·have:=mem_le_mx (g:=dV) hv; omega
 have h3:dS s ≤ _:=mem_le_mx (g:=dS) hs
 rw [m.deep_eq]
 omega
theorem cS_len {s:So}:s.K.length + s.V.length ≤ cS s:=by
 have h1:s.K.length ≤ sm (s.K.map cV):=by rw [← sm_one s.K]; exact sm_mono fun v _=>by unfold cV; omega
 have h2:s.V.length ≤ sm (s.V.map cV):=by rw [← sm_one s.V]; exact sm_mono fun v _=>by unfold cV; omega
 unfold cS
 omega
theorem cnt_F (m:Mg):m.F.length ≤ m.cnt:=by
 rw [m.cnt_eq,← sm_one m.F]
 exact sm_mono fun s _=>by unfold cS; omega
theorem cV_M (v:Vl'):v.M.length ≤ cV v:=by
 have h1:v.M.length ≤ sm (v.M.map fun x=>1 + x.cnt):=by rw [← sm_one v.M]; exact sm_mono fun x _=>by omega
 unfold cV
 omega
theorem cS_le {m:Mg} {s:So} (hs:s ∈ m.F):cS s ≤ m.cnt:=by rw [m.cnt_eq]; exact mem_le_sm hs
theorem cV_le {s:So} {v:Vl'} (hv:v ∈ s.K ∨ v ∈ s.V):cV v < cS s:=by
 unfold cS
 rcases hv with hv | hv
 ·have:=mem_le_sm (g:=cV) hv; omega
 ·have:=mem_le_sm (g:=cV) hv; omega
theorem cnt_le {v:Vl'} {x:Mg} (hx:x ∈ v.M):x.cnt < cV v:=by
 have:=mem_le_sm (g:=fun x:Mg=>1 + x.cnt) hx
 unfold cV
 omega
end Go.Proofs.YtckcojkpghiclaaGreatDoor.T9
namespace Go.Proofs.YtckcojkpghiclaaGreatDoor.T9
set_option maxRecDepth 100000
open Go.RowKit
theorem box_cell {w:World} {g:Nat} {cs:Array Value} {t:TypeId} {fr:Nat × Nat} (h:w.heap[g]? = some (.cells cs t fr)) (j:Nat):w.cell? ⟨g,j,none⟩ = cs[j]?:=by simp [World.cell?,h]
theorem box_lt {w:World} {g:Nat} {o:Obj} (h:w.heap[g]? = some o):g < w.heap.size:=(Array.getElem?_eq_some_iff.1 h).1
def tx (l:List UInt8):ByteArray:=⟨l.toArray⟩
theorem tx_list (l:List UInt8):(tx l).data.toList = l:=by simp [tx]
theorem tx_of (s:ByteArray):tx s.data.toList = s:=by cases s; simp [tx]
theorem tx_inj {a b:List UInt8} (h:tx a = tx b):a = b:=by rw [← tx_list a,← tx_list b,h]
def Rr (B:Nat) (w:World) (v:Value) (n size:Nat) (xs:List Value):Prop:=∃ A c,v = .slice A n c ∧ Sl w A n c size xs ∧ ∀ ad,A = some ad → 0 < n → ad.block < B
def Lo (B:Nat) (w w':World):Prop:=w.heap.size ≤ w'.heap.size ∧ ∀ k,k < B → w'.heap[k]? = w.heap[k]?
theorem Lo.below {B:Nat} {w w':World} (h:Below w.heap.size w w') (hB:B ≤ w.heap.size):Lo B w w':=⟨h.size,fun k hk=>h.block k (by omega)⟩
theorem Lo.of {B:Nat} {w w':World} (h:Below B w w'):Lo B w w':=⟨h.size,h.block⟩
theorem sl_low {B:Nat} {w w':World} {A:Option Addr} {n c size:Nat} {xs:List Value} (h:Sl w A n c size xs) (hA:∀ ad,A = some ad → 0 < n → ad.block < B) (hl:Lo B w w'):Sl w' A n c size xs:=by
 refine ⟨h.len,h.le,h.cap,h.nil,fun ad ha hn=>Nat.lt_of_lt_of_le (h.old ad ha hn) hl.1,fun ad ha k u hu=>?_⟩
 have hn:0 < n:=by
  rcases Nat.eq_zero_or_pos n with h0 | h0
  ·have:=h.len
   rw [h0,Nat.zero_mul] at this
   rw [List.eq_nil_of_length_eq_zero this] at hu
   simp at hu
  ·exact h0
 have hk:w'.heap[(ad.add k).block]? = w.heap[(ad.add k).block]?:=by rw [add_same_block]; exact hl.2 _ (hA ad ha hn)
 exact (World.cell?_of_block hk).trans (h.cell ad ha k u hu)
theorem Rr.low {B:Nat} {w w':World} {v:Value} {n size:Nat} {xs:List Value} (h:Rr B w v n size xs) (hl:Lo B w w'):Rr B w' v n size xs:=by
 obtain ⟨A,c,rfl,h1,h2⟩:=h
 exact ⟨A,c,rfl,sl_low h1 h2 hl,h2⟩
theorem Rr.of_own {w:World} {b:Nat} {e:TypeId} {v:Value} {n size:Nat} {xs:List Value} (h:w.ownsRow b e size v n xs):Rr w.heap.size w v n size xs:=by
 obtain ⟨A,c,rfl,hs⟩:=Sl.of_own h
 exact ⟨A,c,rfl,hs,fun ad ha hn=>hs.old ad ha hn⟩
theorem Rr.one {B:Nat} {w:World} {v:Value} {n size:Nat} {xs:List Value} (h:Rr B w v n size xs):v.oneCell' = true:=by
 obtain ⟨A,c,rfl,_,_⟩:=h
 rfl
theorem Rr.nil (B:Nat) (w:World) (size:Nat):Rr B w (.slice none 0 0) 0 size []:=⟨none,0,rfl,Sl.nothing w size,by simp⟩
theorem sl_elem {w:World} {A:Option Addr} {n c size:Nat} {xs:List Value} (h:Sl w A n c size xs) {k:Nat} (hk:k < n):∃ ad,A = some ad ∧ ad.block < w.heap.size ∧ (∀ u,xs[k * size]? = some u → w.cell? (ad.add (k * size)) = some u) ∧
  ∀ j u,0 < j → xs[k * size + j]? = some u → w.cell? ⟨(ad.add (k * size)).block,(ad.add (k * size)).off + j,none⟩ = some u:=by
 obtain ⟨ad,rfl,hb,hcell⟩:=Sl.there h (by omega)
 refine ⟨ad,rfl,hb,fun u hu=>hcell _ _ hu,fun j u hj hu=>?_⟩
 have e:(⟨(ad.add (k * size)).block,(ad.add (k * size)).off + j,none⟩:Addr) = ad.add (k * size + j):=by
  rw [← add_twice]
  cases j with
  | zero=>omega
  | succ j=>simp [Addr.add]
 rw [e]
 exact hcell _ _ hu
def Rows {α:Type} (C:α → List Value → Prop):List α → List Value → Prop
 | [],xs=>xs = []
 | a :: l,xs=>∃ cs ys,xs = cs ++ ys ∧ C a cs ∧ Rows C l ys
section
variable {α:Type} {C C':α → List Value → Prop} {size:Nat}
theorem Rows.imp (h:∀ a cs,C a cs → C' a cs):∀ {l:List α} {xs:List Value},Rows C l xs → Rows C' l xs
 | [],_,h0=>h0
 | _ :: _,_,⟨cs,ys,h1,h2,h3⟩=>⟨cs,ys,h1,h _ _ h2,Rows.imp h h3⟩
theorem Rows.append:∀ {l m:List α} {xs ys:List Value},Rows C l xs → Rows C m ys → Rows C (l ++ m) (xs ++ ys)
 | [],_,_,_,h0,h=>by rw [show _ = [] from h0]; exact h
 | _ :: _,_,_,_,⟨cs,zs,h1,h2,h3⟩,h=>⟨cs,zs ++ _,by rw [h1,List.append_assoc],h2,Rows.append h3 h⟩
theorem Rows.single {a:α} {cs:List Value} (h:C a cs):Rows C [a] cs:=⟨cs,[],by simp,h,rfl⟩
theorem Rows.get (hC:∀ a cs,C a cs → cs.length = size):∀ {l:List α} {xs:List Value},Rows C l xs → ∀ {k:Nat} {a:α},l[k]? = some a → ∃ cs,C a cs ∧ cs.length = size ∧ ∀ j,j < size → xs[k * size + j]? = cs[j]?
 | [],xs,_,k,m,hk=>by simp at hk
 | x :: l,xs,⟨cs,ys,h1,h2,h3⟩,0,m,hk=>by
  obtain rfl:x = m:=by simpa using hk
  refine ⟨cs,h2,hC _ _ h2,fun j hj=>?_⟩
  rw [h1,Nat.zero_mul,Nat.zero_add,List.getElem?_append_left (by rw [hC _ _ h2]; exact hj)]
 | x :: l,xs,⟨cs,ys,h1,h2,h3⟩,k + 1,m,hk=>by
  obtain ⟨cs',h4,h4l,h5⟩:=Rows.get hC h3 (k:=k) (a:=m) (by simpa using hk)
  refine ⟨cs',h4,h4l,fun j hj=>?_⟩
  rw [h1,List.getElem?_append_right (by rw [hC _ _ h2,Nat.succ_mul]; omega),hC _ _ h2,← h5 j hj]
  congr 1
  rw [Nat.succ_mul]; omega
end
abbrev RP:=TypeId → Nat → Value → Nat → List Value → Prop
def LsAt {α:Type} (R:RP) (e:TypeId) (size:Nat) (C:α → List Value → Prop) (l:List α) (u:Value):Prop:=∃ xs,R e size u l.length xs ∧ Rows C l xs
def vAt (R:RP) (G:Mg → List Value → Prop) (v:Vl') (cs:List Value):Prop:=∃ u,cs = [.int .i64 v.n,.string (tx v.s),u] ∧ LsAt R 31 1 G v.M u
def sAt (R:RP) (G:Mg → List Value → Prop) (s:So) (cs:List Value):Prop:=∃ u1 u2,cs = [.int .i64 s.no,u1,u2] ∧ LsAt R 81 3 (vAt R G) s.K u1 ∧ LsAt R 81 3 (vAt R G) s.V u2
def mAt (R:RP) (G:Mg → List Value → Prop) (m:Mg) (cs:List Value):Prop:=∃ u,cs = [u] ∧ LsAt R 67 3 (sAt R G) m.F u
def MAt (R:RP):Nat → Mg → List Value → Prop
 | 0=>fun _ _=>False
 | d + 1=>mAt R (MAt R d)
theorem LsAt.imp {α:Type} {R R':RP} {e:TypeId} {size:Nat} {C C':α → List Value → Prop} {l:List α} {u:Value} (h:LsAt R e size C l u) (hR:∀ e size v n xs,R e size v n xs → R' e size v n xs) (hC:∀ a cs,C a cs → C' a cs):LsAt R' e size C' l u:=by
 obtain ⟨xs,h1,h2⟩:=h
 exact ⟨xs,hR _ _ _ _ _ h1,h2.imp hC⟩
theorem vAt.imp {R R':RP} {G G':Mg → List Value → Prop} (hR:∀ e size v n xs,R e size v n xs → R' e size v n xs) (hG:∀ a cs,G a cs → G' a cs) (v:Vl') (cs:List Value) (h:vAt R G v cs):vAt R' G' v cs:=by
 obtain ⟨u,h1,h2⟩:=h
 exact ⟨u,h1,h2.imp hR hG⟩
theorem sAt.imp {R R':RP} {G G':Mg → List Value → Prop} (hR:∀ e size v n xs,R e size v n xs → R' e size v n xs) (hG:∀ a cs,G a cs → G' a cs) (s:So) (cs:List Value) (h:sAt R G s cs):sAt R' G' s cs:=by
 obtain ⟨u1,u2,h1,h2,h3⟩:=h
 exact ⟨u1,u2,h1,h2.imp hR (vAt.imp hR hG),h3.imp hR (vAt.imp hR hG)⟩
theorem mAt.imp {R R':RP} {G G':Mg → List Value → Prop} (hR:∀ e size v n xs,R e size v n xs → R' e size v n xs) (hG:∀ a cs,G a cs → G' a cs) (m:Mg) (cs:List Value) (h:mAt R G m cs):mAt R' G' m cs:=by
 obtain ⟨u,h1,h2⟩:=h
 exact ⟨u,h1,h2.imp hR (sAt.imp hR hG)⟩
theorem MAt.imp {R R':RP} (hR:∀ e size v n xs,R e size v n xs → R' e size v n xs):∀ (d:Nat) (m:Mg) (cs:List Value),MAt R d m cs → MAt R' d m cs
 | 0,_,_,h=>h
 | d + 1,m,cs,h=>mAt.imp hR (MAt.imp hR d) m cs h
abbrev VAt (R:RP) (d:Nat):=vAt R (MAt R d)
abbrev SAt' (R:RP) (d:Nat):=sAt R (MAt R d)
theorem vAt.len {R:RP} {G:Mg → List Value → Prop} (v:Vl') (cs:List Value) (h:vAt R G v cs):cs.length = 3:=by obtain ⟨u,rfl,_⟩:=h; rfl
theorem sAt.len {R:RP} {G:Mg → List Value → Prop} (s:So) (cs:List Value) (h:sAt R G s cs):cs.length = 3:=by obtain ⟨u1,u2,rfl,_⟩:=h; rfl
theorem MAt.len {R:RP}:∀ {d:Nat} (m:Mg) (cs:List Value),MAt R d m cs → cs.length = 1
 | 0,_,_,h=>h.elim
 | _ + 1,_,_,⟨_,h,_⟩=>by rw [h]; rfl
def Rd (B:Nat) (w:World):RP:=fun _ size v n xs=>Rr B w v n size xs ∧ n ≤ 10000000000000
def Ow (b:Nat) (w:World):RP:=fun e size v n xs=>w.ownsRow b e size v n xs ∧ n ≤ 10000000000000
theorem Rd.low {B:Nat} {w w':World} (hl:Lo B w w') (e:TypeId) (size:Nat) (v:Value) (n:Nat) (xs:List Value) (h:Rd B w e size v n xs):Rd B w' e size v n xs:=⟨h.1.low hl,h.2⟩
theorem Rd.of_own {b:Nat} {w:World} (e:TypeId) (size:Nat) (v:Value) (n:Nat) (xs:List Value) (h:Ow b w e size v n xs):Rd w.heap.size w e size v n xs:=⟨Rr.of_own h.1,h.2⟩
theorem Rd.one {B:Nat} {w:World} {e:TypeId} {size:Nat} {v:Value} {n:Nat} {xs:List Value} (h:Rd B w e size v n xs):v.oneCell' = true:=h.1.one
abbrev MRd (B:Nat) (w:World) (d:Nat) (m:Mg) (u:Value):Prop:=MAt (Rd B w) d m [u]
theorem vAt.one {B:Nat} {w:World} {G:Mg → List Value → Prop} (v:Vl') (cs:List Value) (h:vAt (Rd B w) G v cs):∀ u ∈ cs,u.oneCell' = true:=by
 obtain ⟨u,rfl,xs,h1,_⟩:=h
 intro x hx
 simp only [List.mem_cons,List.not_mem_nil,or_false] at hx
 rcases hx with rfl | rfl | rfl
 ·rfl
 ·rfl
 ·exact h1.one
theorem MAt.one {B:Nat} {w:World}:∀ {d:Nat} (m:Mg) (cs:List Value),MAt (Rd B w) d m cs → ∀ u ∈ cs,u.oneCell' = true
 | 0,_,_,h,_,_=>h.elim
 | d + 1,m,cs,⟨u,h,xs,h1,_⟩,x,hx=>by
  subst h
  obtain rfl:x = u:=by simpa using hx
  exact h1.one
theorem LsAt.low {α:Type} {B:Nat} {w w':World} (hl:Lo B w w') {e:TypeId} {size:Nat} {C C':α → List Value → Prop} {l:List α} {u:Value} (hC:∀ a cs,C a cs → C' a cs) (h:LsAt (Rd B w) e size C l u):LsAt (Rd B w') e size C' l u:=h.imp (Rd.low hl) hC
theorem MRd.low {B:Nat} {w w':World} (hl:Lo B w w') {d:Nat} {m:Mg} {cs:List Value} (h:MAt (Rd B w) d m cs):MAt (Rd B w') d m cs:=MAt.imp (Rd.low hl) d m cs h
theorem VRd.low {B:Nat} {w w':World} (hl:Lo B w w') {d:Nat} {m:Vl'} {cs:List Value} (h:VAt (Rd B w) d m cs):VAt (Rd B w') d m cs:=vAt.imp (Rd.low hl) (fun _ _ h=>MRd.low hl h) m cs h
theorem SRd.low {B:Nat} {w w':World} (hl:Lo B w w') {d:Nat} {m:So} {cs:List Value} (h:SAt' (Rd B w) d m cs):SAt' (Rd B w') d m cs:=sAt.imp (Rd.low hl) (fun _ _ h=>MRd.low hl h) m cs h
theorem LsAt.open_ {α:Type} {B:Nat} {w:World} {e:TypeId} {size:Nat} {C:α → List Value → Prop} {l:List α} {u:Value} (h:LsAt (Rd B w) e size C l u):∃ A c xs,u = .slice A l.length c ∧ Sl w A l.length c size xs ∧ (∀ ad,A = some ad → 0 < l.length → ad.block < B) ∧ Rows C l xs ∧ l.length ≤ 10000000000000:=by
 obtain ⟨xs,⟨⟨A,c,rfl,h1,h2⟩,h3⟩,h4⟩:=h
 exact ⟨A,c,xs,rfl,h1,h2,h4,h3⟩
theorem row3 {α:Type} {w:World} {A:Option Addr} {c:Nat} {C:α → List Value → Prop} {l:List α} {xs:List Value} (hC:∀ a cs,C a cs → cs.length = 3) (hs:Sl w A l.length c 3 xs) (hr:Rows C l xs) {k:Nat} {a:α} (hk:l[k]? = some a) :
  ∃ ad x y z,A = some ad ∧ ad.block < w.heap.size ∧ C a [x,y,z] ∧ w.cell? (ad.add (k * 3)) = some x ∧ w.cell? ⟨(ad.add (k * 3)).block,(ad.add (k * 3)).off + 1,none⟩ = some y ∧ w.cell? ⟨(ad.add (k * 3)).block,(ad.add (k * 3)).off + 2,none⟩ = some z:=by
 obtain ⟨cs,hcs,hlen,hx⟩:=hr.get hC hk
 match cs,hlen with
 | [x,y,z],_ =>
  obtain ⟨ad,rfl,hb,h0,hj⟩:=sl_elem hs (List.getElem?_eq_some_iff.1 hk).1
  exact ⟨ad,x,y,z,rfl,hb,hcs,h0 _ (by have:=hx 0 (by omega); rw [Nat.add_zero] at this; rw [this]; rfl),hj 1 _ (by omega) (by rw [hx 1 (by omega)]; rfl),hj 2 _ (by omega) (by rw [hx 2 (by omega)]; rfl)⟩
theorem row1 {α:Type} {w:World} {A:Option Addr} {c:Nat} {C:α → List Value → Prop} {l:List α} {xs:List Value} (hC:∀ a cs,C a cs → cs.length = 1) (hs:Sl w A l.length c 1 xs) (hr:Rows C l xs) {k:Nat} {a:α} (hk:l[k]? = some a) :
  ∃ ad x,A = some ad ∧ ad.block < w.heap.size ∧ C a [x] ∧ w.cell? (ad.add k) = some x:=by
 obtain ⟨cs,hcs,hlen,hx⟩:=hr.get hC hk
 match cs,hlen with
 | [x],_ =>
  obtain ⟨ad,rfl,hb,h0,hj⟩:=sl_elem hs (List.getElem?_eq_some_iff.1 hk).1
  exact ⟨ad,x,rfl,hb,hcs,by have:=h0 x (by have:=hx 0 (by omega); rw [Nat.add_zero] at this; rw [this]; rfl); rwa [Nat.mul_one] at this⟩
end Go.Proofs.YtckcojkpghiclaaGreatDoor.T9
namespace Go.Proofs.YtckcojkpghiclaaGreatDoor.T9
set_option maxRecDepth 100000
open Go.RowKit Go.ChangeShapes Go.WideShapes Go.ChangeAt
end Go.Proofs.YtckcojkpghiclaaGreatDoor.T9
namespace Go.Proofs.YtckcojkpghiclaaGreatDoor.T9
set_option maxRecDepth 100000
open Go.RowKit
theorem bx3 {w:World} {g:Nat} {a b c:Value} {t:TypeId} {fr:Nat × Nat} (h:w.heap[g]? = some (.cells #[a,b,c] t fr)):w.cell? ⟨g,0,none⟩ = some a ∧ w.cell? ⟨g,1,none⟩ = some b ∧ w.cell? ⟨g,2,none⟩ = some c:=⟨by rw [box_cell h]; rfl,by rw [box_cell h]; rfl,by rw [box_cell h]; rfl⟩
theorem bx1 {w:World} {g:Nat} {a:Value} {t:TypeId} {fr:Nat × Nat} (h:w.heap[g]? = some (.cells #[a] t fr)):w.cell? ⟨g,0,none⟩ = some a:=by rw [box_cell h]; rfl
theorem box_on {w w':World} {g:Nat} {o:Obj} (h:w.heap[g]? = some o) (hb:Below w.heap.size w w'):w'.heap[g]? = some o:=(hb.block _ (box_lt h)).trans h
theorem cell_on {w w':World} {a:Addr} {v:Value} (hb:Below w.heap.size w w') (h:w.cell? a = some v):w'.cell? a = some v:=(hb.cell (World.block_lt_of_cell? w _ h)).trans h
theorem two_boxes (w:World) (o1 o2:Obj):((w.alloc o1).alloc o2).heap[w.heap.size]? = some o1 ∧ ((w.alloc o1).alloc o2).heap[w.heap.size + 1]? = some o2 ∧ Below w.heap.size w ((w.alloc o1).alloc o2):=by
 have h1:=heap_alloc_new w o1
 have hs:(w.alloc o1).heap.size = w.heap.size + 1:=by simp
 have h2:=heap_alloc_new (w.alloc o1) o2
 rw [hs] at h2
 exact ⟨box_on h1 (below_new _ _),h2,below_lit (below_new w o1) o2⟩
theorem own_hi {w w':World} {b:Nat} {e:TypeId} {size:Nat} {v:Value} {n:Nat} {xs:List Value} (h:w.ownsRow b e size v n xs) (hk:∀ k,b ≤ k → k < w.heap.size → w'.heap[k]? = w.heap[k]?):w'.ownsRow b e size v n xs:=by
 rcases h with ⟨hl,⟨rfl,rfl⟩ | ⟨g,cap,cur,rfl,h1,h2,h3⟩⟩
 ·exact ⟨hl,.inl ⟨rfl,rfl⟩⟩
 ·exact ⟨hl,.inr ⟨g,cap,cur,rfl,h1,(hk g h1 (box_lt h2)).trans h2,h3⟩⟩
theorem own_less {w:World} {b b':Nat} {e:TypeId} {size:Nat} {v:Value} {n:Nat} {xs:List Value} (h:w.ownsRow b e size v n xs) (hb:b' ≤ b):w.ownsRow b' e size v n xs:=by
 rcases h with ⟨hl,⟨rfl,rfl⟩ | ⟨g,cap,cur,rfl,h1,h2⟩⟩
 ·exact ⟨hl,.inl ⟨rfl,rfl⟩⟩
 ·exact ⟨hl,.inr ⟨g,cap,cur,rfl,Nat.le_trans hb h1,h2⟩⟩
theorem Ow.hi {w w':World} {b:Nat} (hk:∀ k,b ≤ k → k < w.heap.size → w'.heap[k]? = w.heap[k]?) (e:TypeId) (size:Nat) (v:Value) (n:Nat) (xs:List Value) (h:Ow b w e size v n xs):Ow b w' e size v n xs:=⟨own_hi h.1 hk,h.2⟩
theorem Ow.hi' {w w':World} {b b':Nat} (hk:∀ k,b ≤ k → k < w.heap.size → w'.heap[k]? = w.heap[k]?) (hb:b' ≤ b) (e:TypeId) (size:Nat) (v:Value) (n:Nat) (xs:List Value) (h:Ow b w e size v n xs):Ow b' w' e size v n xs:=⟨own_less (own_hi h.1 hk) hb,h.2⟩
theorem hi_below {w w':World} (b:Nat) (h:Below w.heap.size w w'):∀ k,b ≤ k → k < w.heap.size → w'.heap[k]? = w.heap[k]?:=fun k _ hk=>h.block k hk
theorem hi_grown {w w':World} {b g:Nat} (h:w.grownBy w' (some g)) (hg:g < b):∀ k,b ≤ k → k < w.heap.size → w'.heap[k]? = w.heap[k]?:=fun k hk hk2=>h.block k hk2 (by simp; omega)
theorem below_own {w w':World} {B g:Nat} (h:w.grownBy w' (some g)) (hB:B ≤ g) (hs:B ≤ w.heap.size):Below B w w':=⟨h.os,h.tape,h.output,h.size,fun k hk=>h.block k (by omega) (by simp; omega)⟩
theorem below_none {w w':World} (h:w.grownBy w' none):Below w.heap.size w w':=⟨h.os,h.tape,h.output,h.size,fun k hk=>h.block k hk (by simp)⟩
theorem vAt.oneO {b:Nat} {w:World} {G:Mg → List Value → Prop} (v:Vl') (cs:List Value) (h:vAt (Ow b w) G v cs):∀ u ∈ cs,u.oneCell' = true:=by
 obtain ⟨u,rfl,xs,h1,h2⟩:=h
 exact vAt.one (B:=w.heap.size) (w:=w) (G:=G) v _ ⟨u,rfl,xs,Rd.of_own _ _ _ _ _ h1,h2⟩
theorem sAt.oneO {b:Nat} {w:World} {G:Mg → List Value → Prop} (v:So) (cs:List Value) (h:sAt (Ow b w) G v cs):∀ u ∈ cs,u.oneCell' = true:=by
 obtain ⟨u1,u2,rfl,⟨xs,h1,_⟩,ys,h2,_⟩:=h
 intro x hx
 simp only [List.mem_cons,List.not_mem_nil,or_false] at hx
 rcases hx with rfl | rfl | rfl
 ·rfl
 ·exact (Rd.of_own _ _ _ _ _ h1).one
 ·exact (Rd.of_own _ _ _ _ _ h2).one
theorem MAt.oneO {b:Nat} {w:World} {d:Nat} (m:Mg) (cs:List Value) (h:MAt (Ow b w) d m cs):∀ u ∈ cs,u.oneCell' = true:=MAt.one m cs (MAt.imp (fun e size v n xs h=>Rd.of_own e size v n xs h) d m cs h)
theorem info_slot:(Tryz.prog.info? 67).map (fun i=>(i.zero,i.size,i.bytes)) = some (some (.agg #[.int .i64 0,.slice none 0 0,.slice none 0 0]),3,56):=by kernel_rfl
theorem info_val:(Tryz.prog.info? 81).map (fun i=>(i.zero,i.size,i.bytes)) = some (some (.agg #[.int .i64 0,.string ⟨#[]⟩,.slice none 0 0]),3,48):=by kernel_rfl
theorem info_msg:(Tryz.prog.info? 31).map (fun i=>(i.zero,i.size,i.bytes)) = some (some (.agg #[.slice none 0 0]),1,24):=by kernel_rfl
theorem sz_slot:(Tryz.prog.info? 67).map (·.size) = some 3:=by kernel_rfl
theorem sz_val:(Tryz.prog.info? 81).map (·.size) = some 3:=by kernel_rfl
theorem sz_msg:(Tryz.prog.info? 31).map (·.size) = some 1:=by kernel_rfl
def Wr3 (g:Nat) (a b c:Value) (w:World):Prop:=(w.cell? ⟨g,0,none⟩ = some a ∧ w.cell? ⟨g,1,none⟩ = some b ∧ w.cell? ⟨g,2,none⟩ = some c) ∧ w.frozen? ⟨g,0,none⟩ = false ∧ w.frozen? ⟨g,1,none⟩ = false ∧ w.frozen? ⟨g,2,none⟩ = false
theorem wr3 {w:World} {g:Nat} {a b c:Value} {t:TypeId} (h:w.heap[g]? = some (.cells #[a,b,c] t (0,0))):Wr3 g a b c w:=⟨bx3 h,by simp [World.frozen?,h],by simp [World.frozen?,h],by simp [World.frozen?,h]⟩
theorem three_set {w:World} {g:Nat} {a b c:Value} {t:TypeId} (h:w.heap[g]? = some (.cells #[a,b,c] t (0,0))) (x y z:Value) :
  (((w.setCell ⟨g,0,none⟩ x).setCell ⟨g,1,none⟩ y).setCell ⟨g,2,none⟩ z).heap[g]? = some (.cells #[x,y,z] t (0,0)) ∧ w.grownBy (((w.setCell ⟨g,0,none⟩ x).setCell ⟨g,1,none⟩ y).setCell ⟨g,2,none⟩ z) (some g):=by
 have h1:=heap_setCell_same w g 0 #[a,b,c] t x h
 have h2:=heap_setCell_same _ g 1 _ t y h1
 have h3:=heap_setCell_same _ g 2 _ t z h2
 refine ⟨h3,⟨rfl,rfl,rfl,by simp,fun k _ hk=>?_⟩⟩
 have hne:k ≠ g:=fun e=>hk (by rw [e])
 rw [heap_setCell_other _ ⟨g,2,none⟩ k z hne,heap_setCell_other _ ⟨g,1,none⟩ k y hne,heap_setCell_other _ ⟨g,0,none⟩ k x hne]
theorem below_rows {w w1 w':World} {B:Nat} {e:TypeId} {size:Nat} {v:Value} {n:Nat} {xs:List Value} (h:w1.ownsRow B e size v n xs) (hg:w.grownBy w' v.ownBlock) (hs:B ≤ w.heap.size):Below B w w' :=
 ⟨hg.os,hg.tape,hg.output,hg.size,fun k hk=>hg.block k (by omega) (fun e=>by have:=own_ge h k e.symm; omega)⟩
theorem three_boxes (w:World) (o1 o2 o3:Obj):(((w.alloc o1).alloc o2).alloc o3).heap[w.heap.size]? = some o1 ∧ (((w.alloc o1).alloc o2).alloc o3).heap[w.heap.size + 1]? = some o2 ∧ (((w.alloc o1).alloc o2).alloc o3).heap[w.heap.size + 2]? = some o3 ∧ Below w.heap.size w (((w.alloc o1).alloc o2).alloc o3):=by
 obtain ⟨h1,h2,h3⟩:=two_boxes w o1 o2
 have h4:=heap_alloc_new ((w.alloc o1).alloc o2) o3
 have hs:((w.alloc o1).alloc o2).heap.size = w.heap.size + 2:=by simp
 rw [hs] at h4
 exact ⟨box_on h1 (below_new _ _),box_on h2 (below_new _ _),h4,below_lit h3 o3⟩
end Go.Proofs.YtckcojkpghiclaaGreatDoor.T9
