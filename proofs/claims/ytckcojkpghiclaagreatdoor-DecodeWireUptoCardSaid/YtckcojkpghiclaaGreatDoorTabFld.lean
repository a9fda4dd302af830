/-
 A set of keys as a map of the program: 'Free'; its laws at the operations: a key is put,taken out,asked for.
-/
import Derived.Test.YtckcojkpghiclaaGreatDoorTabCode
import Derived.Test.YtckcojkpghiclaaGreatDoorConvSmall
import Derived.Test.YtckcojkpghiclaaGreatDoorProPce
import Derived.Maps.OwnSet
import Derived.Shelf.SlSortCmp.WholeK
import Derived.Shelf.SlSortCmp.NoneTotal
import Derived.Test.YtckcojkpghiclaaGreatDoorProg
import Derived.Test.YtckcojkpghiclaaGreatDoorTokSmall
import Derived.Deep.RegionHeld3
import Derived.Great.BuildSlice
namespace Go.Proofs.YtckcojkpghiclaaGreatDoor
set_option maxRecDepth 100000
open Go.RowKit Go.WideMaps Go.Maps
section
variable {α:Type} {K:TypeId} {ky:α → Lit}
def Free (K:TypeId) (ky:α → Lit) (w:World) (b n:Nat) (p:α → Bool):Prop:=∃ D:DataW Unit,w.ownsMap Tryz.prog K unitElem b n D ∧ ∀ x,has D (ky x) = p x
theorem Free.made (w:World):Free K ky (w.alloc (.map #[] 0)) w.heap.size 0 (fun _=>false):=⟨.map [],World.ownsMap_made w _ _ _,fun _=>rfl⟩
theorem Free.mono {w:World} {b n n':Nat} {p:α → Bool} (h:Free K ky w b n p) (hn:n ≤ n'):Free K ky w b n' p:=by
 obtain ⟨D,h1,h2⟩:=h
 exact ⟨D,h1.mono hn,h2⟩
theorem Free.lt {w:World} {b n:Nat} {p:α → Bool} (h:Free K ky w b n p):b < w.heap.size:=by
 obtain ⟨D,h1,_⟩:=h
 exact h1.lt
theorem Free.block {w w':World} {b n:Nat} {p:α → Bool} (h:Free K ky w b n p) (hb:w'.heap[b]? = w.heap[b]?):Free K ky w' b n p:=by
 obtain ⟨D,⟨es,clock,h1,h2⟩,h3⟩:=h
 exact ⟨D,⟨es,clock,hb.trans h1,h2⟩,h3⟩
theorem Free.on {w w':World} {b n:Nat} {p:α → Bool} (h:Free K ky w b n p) (hb:Below w.heap.size w w'):Free K ky w' b n p:=h.block (hb.block b h.lt)
theorem Free.alloc {w:World} {b n:Nat} {p:α → Bool} (h:Free K ky w b n p) (o:Obj):Free K ky (w.alloc o) b n p:=h.on (below_new w o)
theorem Free.kept {w w':World} {b n:Nat} {p:α → Bool} {row:Option Nat} (h:Free K ky w b n p) (hg:w.grownBy w' row) (hne:some b ≠ row):Free K ky w' b n p:=h.block (hg.block b h.lt hne)
theorem Free.eq {w:World} {b n:Nat} {p q:α → Bool} (h:Free K ky w b n p) (e:p = q):Free K ky w b n q:=e ▸ h
variable {w:World} {ops:Array Oper} {rest:List Oper} {o:Oper} {a:Act} {Q:Exit → Act → World → Prop}
theorem wpList_free_put [DecidableEq α] (hg:o.guard = none) (m x v:Operand) (T E:TypeId) (hop:o.op = Op.mapUpdate T m x v) (KK:Keyed Tryz.prog K) (ht:Tryz.prog.underlying T = some (.map K E)) (inj:∀ x y,ky x = ky y → x = y) (lit:∀ x,WideAt.IsKeyLit (ky x))
  (b n:Nat) (p:α → Bool) (hm:a.eval m = .map (some b)) (hown:Free K ky w b n p) (hn:n < 1000000000) (key:Value) (y:α) (hx:a.eval x = key) (hv:a.eval v = .agg #[]) (hkey:keyOf Tryz.prog K key = some (ky y))
  (hK:∀ w',Free K ky w' b (n + 1) (fun z=>p z || decide (z = y)) → w.grownBy w' (some b) → wpList Tryz.prog ops Q rest (a.put o.dst undef) w'):wpList Tryz.prog ops Q (o :: rest) a w:=by
 obtain ⟨D,h1,h2⟩:=hown
 refine wpList_mapUpdate_own w hg m x v T hop K E KK ht unitElem b n D hm h1 (by unfold maxLen; omega) _ _ (ky y) hx hv hkey _ [] unitElem_mk ?_
 intro w' r1 r2
 refine hK w' ⟨_,r1,fun z=>?_⟩ r2
 by_cases hz:z = y
 ·subst hz
  rw [has_put_same h1.isMap (lit z)]
  simp
 ·rw [has_put_other (fun e=>hz (inj _ _ e)),h2 z]
  simp [hz]
theorem wpList_free_del [DecidableEq α] (hg:o.guard = none) (m x:Operand) (T E:TypeId) (hop:o.op = Op.call { callee:=Callee.builtin Builtin.delete,args:=#[m,x],argTypes:=#[T,K] }) (KK:Keyed Tryz.prog K) (ht:Tryz.prog.underlying T = some (.map K E)) (inj:∀ x y,ky x = ky y → x = y)
  (b n:Nat) (p:α → Bool) (hm:a.eval m = .map (some b)) (hown:Free K ky w b n p) (key:Value) (y:α) (hx:a.eval x = key) (hkey:keyOf Tryz.prog K key = some (ky y))
  (hK:∀ w',Free K ky w' b n (fun z=>p z && decide (z ≠ y)) → w.grownBy w' (some b) → wpList Tryz.prog ops Q rest (a.put o.dst (.tuple #[])) w'):wpList Tryz.prog ops Q (o :: rest) a w:=by
 obtain ⟨D,h1,h2⟩:=hown
 refine wpList_delete_own w hg m x T K hop E KK ht unitElem b n D hm h1 _ (ky y) hx hkey ?_
 intro w' r1 r2
 refine hK w' ⟨_,r1,fun z=>?_⟩ r2.grown
 by_cases hz:z = y
 ·subst hz
  rw [has_del_same]
  simp
 ·rw [has_del_other (fun e=>hz (inj _ _ e)),h2 z]
  simp [hz]
theorem wpList_free_look (hg:o.guard = none) (m x:Operand) (T E:TypeId) (hop:o.op = Op.lookup T m x true) (KK:Keyed Tryz.prog K) (ht:Tryz.prog.underlying T = some (.map K E)) (hz:(zeroValue E).run Tryz.prog w = .ok (.agg #[]) w)
  (b n:Nat) (p:α → Bool) (hm:a.eval m = .map (some b)) (hown:Free K ky w b n p) (key:Value) (y:α) (hx:a.eval x = key) (hkey:keyOf Tryz.prog K key = some (ky y))
  (hK:wpList Tryz.prog ops Q rest (a.put o.dst (.tuple #[.agg #[],.bool (p y)])) w):wpList Tryz.prog ops Q (o :: rest) a w:=by
 obtain ⟨D,h1,h2⟩:=hown
 refine wpList_lookup_own_unit w hg m x T hop K E KK ht hz b n D hm h1 _ (ky y) hx hkey ?_
 rw [h2 y]
 exact hK
end
def kS (x:List UInt8):Lit:=.string x
def kI (n:Int):Lit:=.int .i64 n
theorem kS_inj (x y:List UInt8) (h:kS x = kS y):x = y:=by injection h
theorem kI_inj (x y:Int) (h:kI x = kI y):x = y:=by injection h
theorem kS_lit (x:List UInt8):WideAt.IsKeyLit (kS x):=trivial
theorem kI_lit (x:Int):WideAt.IsKeyLit (kI x):=trivial
theorem kS_law:Keyed Tryz.prog 9:=string_keyed Tryz.underlying9
theorem kI_law:Keyed Tryz.prog 2:=int_keyed Tryz.underlying2
theorem kS_key {x:List UInt8} (h:x.length ≤ maxLen):keyOf Tryz.prog 9 (.string (txt x)) = some (kS x):=by
 have hs:(txt x).size ≤ maxLen:=by simpa [txt,ByteArray.size] using h
 rw [keyOf_string_mk Tryz.underlying9 hs]
 rfl
theorem kI_key {n:Int} (h:inr n):keyOf Tryz.prog 2 (.int .i64 n) = some (kI n):=by
 refine keyOf_int_mk Tryz.underlying2 ?_
 simp only [Lit.wf,Bool.and_eq_true,decide_eq_true_eq]
 exact ⟨by show (-9223372036854775808:Int) ≤ _; unfold inr at h; omega,by show _ ≤ (9223372036854775807:Int); unfold inr at h; omega⟩
end Go.Proofs.YtckcojkpghiclaaGreatDoor
namespace Go.Proofs
open Go.Shelf
def Tryz.laysSlF06_f92_ren:Go.Shelf.Ren:=⟨fun | 6=>92 | 15=>137 | 14=>136 | 28=>188 | 29=>189 | 20=>180 | 21=>181 | 22=>182 | 23=>183 | 24=>184 | 25=>185 | 26=>186 | 27=>187 | 46=>210 | 47=>211 | 48=>212 | 49=>213 | 50=>214 | 57=>226 | n=>n,fun | 22=>29 | 24=>67 | 25=>147 | 3=>3 | 39=>124 | 0=>0 | 53=>229 | 55=>39 | 4=>4 | 46=>223 | 45=>222 | 50=>99 | 5=>5 | 9=>9 | 66=>241 | 70=>245 | 76=>257 | 77=>258 | n=>n,fun | n=>n⟩
theorem Tryz.laysSlF06_f92:Go.Proofs.SlLaysF0.n6 Tryz.prog Tryz.laysSlF06_f92_ren:={
 mixed:=by kernel_rfl
 f6:=⟨Tryz.f92.name,by decide,Tryz.func92.trans (congrArg some (by kernel_rfl))⟩
 f14:=⟨Tryz.f136.name,by decide,Tryz.func136.trans (congrArg some (by kernel_rfl))⟩
 f15:=Tryz.func137.trans (congrArg some (by kernel_rfl))
 f20:=⟨Tryz.f180.name,by decide,Tryz.func180.trans (congrArg some (by kernel_rfl))⟩
 f21:=⟨Tryz.f181.name,by decide,Tryz.func181.trans (congrArg some (by kernel_rfl))⟩
 f22:=⟨Tryz.f182.name,by decide,Tryz.func182.trans (congrArg some (by kernel_rfl))⟩
 f23:=⟨Tryz.f183.name,by decide,Tryz.func183.trans (congrArg some (by kernel_rfl))⟩
 f24:=⟨Tryz.f184.name,by decide,Tryz.func184.trans (congrArg some (by kernel_rfl))⟩
 f25:=⟨Tryz.f185.name,by decide,Tryz.func185.trans (congrArg some (by kernel_rfl))⟩
 f26:=⟨Tryz.f186.name,by decide,Tryz.func186.trans (congrArg some (by kernel_rfl))⟩
 f27:=⟨Tryz.f187.name,by decide,Tryz.func187.trans (congrArg some (by kernel_rfl))⟩
 f28:=Tryz.func188.trans (congrArg some (by kernel_rfl))
 f29:=Tryz.func189.trans (congrArg some (by kernel_rfl))
 f46:=⟨Tryz.f210.name,by decide,Tryz.func210.trans (congrArg some (by kernel_rfl))⟩
 f47:=Tryz.func211.trans (congrArg some (by kernel_rfl))
 f48:=Tryz.func212.trans (congrArg some (by kernel_rfl))
 f49:=⟨Tryz.f213.name,by decide,Tryz.func213.trans (congrArg some (by kernel_rfl))⟩
 f50:=⟨Tryz.f214.name,by decide,Tryz.func214.trans (congrArg some (by kernel_rfl))⟩
 f57:=⟨Tryz.f226.name,by decide,Tryz.func226.trans (congrArg some (by kernel_rfl))⟩
 t0:=Tryz.underlying0
 a0:=Tryz.isAgg0
 z0:=Tryz.sizeOf0
 v0:=Tryz.zeroValue0
 t3:=Tryz.underlying3
 a3:=Tryz.isAgg3
 z3:=Tryz.sizeOf3
 v3:=Tryz.zeroValue3
 t4:=Tryz.underlying4
 a4:=Tryz.isAgg4
 z4:=Tryz.sizeOf4
 v4:=Tryz.zeroValue4
 t5:=Tryz.underlying5
 a5:=Tryz.isAgg5
 z5:=Tryz.sizeOf5
 v5:=Tryz.zeroValue5
 t9:=Tryz.underlying9
 a9:=Tryz.isAgg9
 z9:=Tryz.sizeOf9
 v9:=Tryz.zeroValue9
 t22:=Tryz.underlying29
 a22:=Tryz.isAgg29
 z22:=Tryz.sizeOf29
 v22:=Tryz.zeroValue29
 t25:=Tryz.underlying147
 a25:=Tryz.isAgg147
 z25:=Tryz.sizeOf147
 v25:=Tryz.zeroValue147
 t39:=Tryz.underlying124
 a39:=Tryz.isAgg124
 z39:=Tryz.sizeOf124
 v39:=Tryz.zeroValue124
 t45:=Tryz.underlying222
 a45:=Tryz.isAgg222
 z45:=Tryz.sizeOf222
 v45:=Tryz.zeroValue222
 t46:=Tryz.underlying223
 a46:=Tryz.isAgg223
 z46:=Tryz.sizeOf223
 v46:=Tryz.zeroValue223
 t50:=Tryz.underlying99
 a50:=Tryz.isAgg99
 z50:=Tryz.sizeOf99
 v50:=Tryz.zeroValue99
 t53:=Tryz.underlying229
 a53:=Tryz.isAgg229
 z53:=Tryz.sizeOf229
 v53:=Tryz.zeroValue229
 t55:=Tryz.underlying39
 a55:=Tryz.isAgg39
 z55:=Tryz.sizeOf39
 v55:=Tryz.zeroValue39
 t66:=Tryz.underlying241
 a66:=Tryz.isAgg241
 z66:=Tryz.sizeOf241
 v66:=Tryz.zeroValue241
 t70:=Tryz.underlying245
 a70:=Tryz.isAgg245
 z70:=Tryz.sizeOf245
 v70:=Tryz.zeroValue245
 t76:=Tryz.underlying257
 a76:=Tryz.isAgg257
 z76:=Tryz.sizeOf257
 v76:=Tryz.zeroValue257
 t77:=Tryz.underlying258
 a77:=Tryz.isAgg258
 z77:=Tryz.sizeOf258
 v77:=Tryz.zeroValue258 }
def Tryz.laysSlF06_f178_ren:Go.Shelf.Ren:=⟨fun | 6=>178 | 15=>137 | 14=>208 | 28=>188 | 29=>189 | 20=>218 | 21=>219 | 22=>220 | 23=>221 | 24=>222 | 25=>223 | 26=>224 | 27=>225 | 46=>229 | 47=>211 | 48=>212 | 49=>230 | 50=>231 | 57=>233 | n=>n,fun | 22=>65 | 24=>81 | 25=>220 | 3=>3 | 39=>124 | 0=>0 | 53=>229 | 55=>39 | 4=>4 | 46=>223 | 45=>222 | 50=>99 | 5=>5 | 9=>9 | 66=>241 | 70=>245 | 76=>257 | 77=>258 | n=>n,fun | n=>n⟩
theorem Tryz.laysSlF06_f178:Go.Proofs.SlLaysF0.n6 Tryz.prog Tryz.laysSlF06_f178_ren:={
 mixed:=by kernel_rfl
 f6:=⟨Tryz.f178.name,by decide,Tryz.func178.trans (congrArg some (by kernel_rfl))⟩
 f14:=⟨Tryz.f208.name,by decide,Tryz.func208.trans (congrArg some (by kernel_rfl))⟩
 f15:=Tryz.func137.trans (congrArg some (by kernel_rfl))
 f20:=⟨Tryz.f218.name,by decide,Tryz.func218.trans (congrArg some (by kernel_rfl))⟩
 f21:=⟨Tryz.f219.name,by decide,Tryz.func219.trans (congrArg some (by kernel_rfl))⟩
 f22:=⟨Tryz.f220.name,by decide,Tryz.func220.trans (congrArg some (by kernel_rfl))⟩
 f23:=⟨Tryz.f221.name,by decide,Tryz.func221.trans (congrArg some (by kernel_rfl))⟩
 f24:=⟨Tryz.f222.name,by decide,Tryz.func222.trans (congrArg some (by kernel_rfl))⟩
 f25:=⟨Tryz.f223.name,by decide,Tryz.func223.trans (congrArg some (by kernel_rfl))⟩
 f26:=⟨Tryz.f224.name,by decide,Tryz.func224.trans (congrArg some (by kernel_rfl))⟩
 f27:=⟨Tryz.f225.name,by decide,Tryz.func225.trans (congrArg some (by kernel_rfl))⟩
 f28:=Tryz.func188.trans (congrArg some (by kernel_rfl))
 f29:=Tryz.func189.trans (congrArg some (by kernel_rfl))
 f46:=⟨Tryz.f229.name,by decide,Tryz.func229.trans (congrArg some (by kernel_rfl))⟩
 f47:=Tryz.func211.trans (congrArg some (by kernel_rfl))
 f48:=Tryz.func212.trans (congrArg some (by kernel_rfl))
 f49:=⟨Tryz.f230.name,by decide,Tryz.func230.trans (congrArg some (by kernel_rfl))⟩
 f50:=⟨Tryz.f231.name,by decide,Tryz.func231.trans (congrArg some (by kernel_rfl))⟩
 f57:=⟨Tryz.f233.name,by decide,Tryz.func233.trans (congrArg some (by kernel_rfl))⟩
 t0:=Tryz.underlying0
 a0:=Tryz.isAgg0
 z0:=Tryz.sizeOf0
 v0:=Tryz.zeroValue0
 t3:=Tryz.underlying3
 a3:=Tryz.isAgg3
 z3:=Tryz.sizeOf3
 v3:=Tryz.zeroValue3
 t4:=Tryz.underlying4
 a4:=Tryz.isAgg4
 z4:=Tryz.sizeOf4
 v4:=Tryz.zeroValue4
 t5:=Tryz.underlying5
 a5:=Tryz.isAgg5
 z5:=Tryz.sizeOf5
 v5:=Tryz.zeroValue5
 t9:=Tryz.underlying9
 a9:=Tryz.isAgg9
 z9:=Tryz.sizeOf9
 v9:=Tryz.zeroValue9
 t22:=Tryz.underlying65
 a22:=Tryz.isAgg65
 z22:=Tryz.sizeOf65
 v22:=Tryz.zeroValue65
 t25:=Tryz.underlying220
 a25:=Tryz.isAgg220
 z25:=Tryz.sizeOf220
 v25:=Tryz.zeroValue220
 t39:=Tryz.underlying124
 a39:=Tryz.isAgg124
 z39:=Tryz.sizeOf124
 v39:=Tryz.zeroValue124
 t45:=Tryz.underlying222
 a45:=Tryz.isAgg222
 z45:=Tryz.sizeOf222
 v45:=Tryz.zeroValue222
 t46:=Tryz.underlying223
 a46:=Tryz.isAgg223
 z46:=Tryz.sizeOf223
 v46:=Tryz.zeroValue223
 t50:=Tryz.underlying99
 a50:=Tryz.isAgg99
 z50:=Tryz.sizeOf99
 v50:=Tryz.zeroValue99
 t53:=Tryz.underlying229
 a53:=Tryz.isAgg229
 z53:=Tryz.sizeOf229
 v53:=Tryz.zeroValue229
 t55:=Tryz.underlying39
 a55:=Tryz.isAgg39
 z55:=Tryz.sizeOf39
 v55:=Tryz.zeroValue39
 t66:=Tryz.underlying241
 a66:=Tryz.isAgg241
 z66:=Tryz.sizeOf241
 v66:=Tryz.zeroValue241
 t70:=Tryz.underlying245
 a70:=Tryz.isAgg245
 z70:=Tryz.sizeOf245
 v70:=Tryz.zeroValue245
 t76:=Tryz.underlying257
 a76:=Tryz.isAgg257
 z76:=Tryz.sizeOf257
 v76:=Tryz.zeroValue257
 t77:=Tryz.underlying258
 a77:=Tryz.isAgg258
 z77:=Tryz.sizeOf258
 v77:=Tryz.zeroValue258 }
open Go.RowKit Go.Lib Go.Sort in
theorem Tryz.slices_SortFunc_f92 {α:Type} [Inhabited α] (k:Nat) (aE:∀ w,(isAgg 67).run Tryz.prog w = .ok true w) (zE:∀ w,(Go.sizeOf 67).run Tryz.prog w = .ok k w) (enc:α → List Value) (hk:∀ x,(enc x).length = k) (h1:∀ x,∀ v ∈ enc x,v.oneCell' = true) (cf:α → α → Int) (hO:SWO (ltOf cf)) (g:Nat) (cb:Array Value) (blk off cap:Nat) (d:Array α) (w:World) (eg:∀ args w,(callFunc g args).run Tryz.prog w = .ok (.enter g args) w) (hcmp:CmpLays Tryz.prog g cb enc k cf blk off d.size w) (hH:HoldsK enc k w blk off d) (hblk:blk < w.heap.size) (hsz:d.size < 4611686018427387904) :
  Calls Tryz.prog 92 #[.slice (some ⟨blk,off,none⟩) d.size cap,.func (.func g) #[] cb] w fun e w' =>
   e = .returned (.tuple #[]) ∧ ∃ d' n os,PermIn 0 d.size d d' ∧ SortedIn (ltOf cf) 0 d.size d' ∧ w' = sortWorldK enc k w blk off n d' os:=AnyQ.slices_SortFunc Tryz.laysSlF06_f92 k aE zE enc hk h1 cf hO g cb blk off cap d w eg hcmp hH hblk hsz
open Go.RowKit Go.Lib Go.Sort in
theorem Tryz.slices_SortFunc_f178 {α:Type} [Inhabited α] (k:Nat) (aE:∀ w,(isAgg 81).run Tryz.prog w = .ok true w) (zE:∀ w,(Go.sizeOf 81).run Tryz.prog w = .ok k w) (enc:α → List Value) (hk:∀ x,(enc x).length = k) (h1:∀ x,∀ v ∈ enc x,v.oneCell' = true) (cf:α → α → Int) (hO:SWO (ltOf cf)) (g:Nat) (cb:Array Value) (blk off cap:Nat) (d:Array α) (w:World) (eg:∀ args w,(callFunc g args).run Tryz.prog w = .ok (.enter g args) w) (hcmp:CmpLays Tryz.prog g cb enc k cf blk off d.size w) (hH:HoldsK enc k w blk off d) (hblk:blk < w.heap.size) (hsz:d.size < 4611686018427387904) :
  Calls Tryz.prog 178 #[.slice (some ⟨blk,off,none⟩) d.size cap,.func (.func g) #[] cb] w fun e w' =>
   e = .returned (.tuple #[]) ∧ ∃ d' n os,PermIn 0 d.size d d' ∧ SortedIn (ltOf cf) 0 d.size d' ∧ w' = sortWorldK enc k w blk off n d' os:=AnyQ.slices_SortFunc Tryz.laysSlF06_f178 k aE zE enc hk h1 cf hO g cb blk off cap d w eg hcmp hH hblk hsz
open Go.RowKit Go.Lib Go.Sort in
theorem Tryz.slices_SortFunc_none_f92 {α:Type} [Inhabited α] (p:Option Addr) (cap:Nat) (fv:Value) (w:World) :
  Calls Tryz.prog 92 #[.slice p 0 cap,fv] w fun e w'=>e = .returned (.tuple #[]) ∧ w' = w:=AnyF.slices_SortFunc_none Tryz.laysSlF06_f92 p cap fv w
open Go.RowKit Go.Lib Go.Sort in
theorem Tryz.slices_SortFunc_none_f178 {α:Type} [Inhabited α] (p:Option Addr) (cap:Nat) (fv:Value) (w:World) :
  Calls Tryz.prog 178 #[.slice p 0 cap,fv] w fun e w'=>e = .returned (.tuple #[]) ∧ w' = w:=AnyF.slices_SortFunc_none Tryz.laysSlF06_f178 p cap fv w
end Go.Proofs
namespace Go.Proofs.YtckcojkpghiclaaGreatDoor
set_option maxRecDepth 100000
open Go.RowKit
def plainsC:Array Value:=#[.string (txt tInt64),.int .i64 0,.string (txt tSint64),.int .i64 1,.string (txt tUint32),.int .i64 2,.string (txt tBool),.int .i64 3,.string (txt tFixed32),.int .i64 4,.string (txt tSfixed64),.int .i64 5,.string (txt tString),.int .i64 7,.string (txt tBytes),.int .i64 8]
def stancesC:Array Value:=#[.bool false,.bool false,.bool false,.bool true,.bool false,.bool false,.bool false,.bool true,.bool false,.bool false,.bool false,.bool true]
structure Tabs (w:World):Prop where
 plains:TabAt w 0 plainsC
 stances:TabAt w 2 stancesC
theorem Tabs.on {w w':World} (h:Tabs w) (hb:Below w.heap.size w w'):Tabs w':=⟨h.plains.on hb,h.stances.on hb⟩
theorem index_plain (w:World) {k:Nat} {p:List UInt8 × Nat} (h:plainsL[k]? = some p):(Instr.index 195 (.agg plainsC) (.int .i64 k)).run Tryz.prog w = .ok (.agg #[.string (txt p.1),.int .i64 p.2]) w:=by
 obtain ⟨hk,rfl⟩:=List.getElem?_eq_some_iff.1 h
 have hc:k = 0 ∨ k = 1 ∨ k = 2 ∨ k = 3 ∨ k = 4 ∨ k = 5 ∨ k = 6 ∨ k = 7:=by simp [plainsL] at hk; omega
 clear h
 rcases hc with rfl | rfl | rfl | rfl | rfl | rfl | rfl | rfl <;> (change _ = _; kernel_rfl)
def stanceL:List (Bool × Bool × Bool):=[(false,false,false),(true,false,false),(false,true,false),(false,false,true)]
theorem index_stance (w:World) {k:Nat} {p:Bool × Bool × Bool} (h:stanceL[k]? = some p):(Instr.index 249 (.agg stancesC) (.int .i64 k)).run Tryz.prog w = .ok (.agg #[.bool p.1,.bool p.2.1,.bool p.2.2]) w:=by
 obtain ⟨hk,rfl⟩:=List.getElem?_eq_some_iff.1 h
 have hc:k = 0 ∨ k = 1 ∨ k = 2 ∨ k = 3:=by simp [stanceL] at hk; omega
 clear h
 rcases hc with rfl | rfl | rfl | rfl <;> (change _ = _; kernel_rfl)
theorem isKey_any (k:Int) (w:World):Calls Tryz.prog 190 #[.int .i64 k] w fun e w'=>e = .returned (.bool (keyedB k)) ∧ w = w':=by
 have H:Hid (keyedB k = (k == 0 || k == 1 || k == 2 || k == 3 || k == 4 || k == 5 || k == 7)):=Lib.hid rfl
 go_enter Tryz.func190,Tryz.ntmps190
 go_wp2
 all_goals (go_ret; refine ⟨ret_bool ?_,rfl⟩; rw [H.out]; first | (simp_all; done) | (rw [Bool.eq_iff_iff]; simp_all [or_assoc]))
theorem isNumber_any (n:Int) (w:World):Calls Tryz.prog 142 #[.int .i64 n] w fun e w'=>e = .returned (.bool (numberB n)) ∧ w = w':=by
 have H:Hid (numberB n = (decide (1 ≤ n) && decide (n ≤ 536870911) && (decide (n < 19000) || decide (19999 < n)))):=Lib.hid (by
  unfold numberB
  congr 1
  rw [Bool.eq_iff_iff]
  simp only [Bool.not_eq_true',Bool.and_eq_false_iff,decide_eq_false_iff_not,Bool.or_eq_true,decide_eq_true_eq]
  omega)
 go_enter Tryz.func142,Tryz.ntmps142
 go_wp2
 all_goals (go_ret; refine ⟨ret_bool ?_,rfl⟩; rw [H.out]; first | (simp_all; done) | (rw [Bool.eq_iff_iff]; simp only [Bool.and_eq_true,Bool.or_eq_true,decide_eq_true_eq,Bool.false_eq_true,true_iff,false_iff]; omega))
theorem isEnums_any (n:Int) (w:World):Calls Tryz.prog 195 #[.int .i64 n] w fun e w'=>e = .returned (.bool (decide (-2147483648 ≤ n) && decide (n ≤ 2147483647))) ∧ w = w':=by
 go_enter Tryz.func195,Tryz.ntmps195
 go_wp2
 all_goals (go_ret; refine ⟨ret_bool ?_,rfl⟩; first | (simp_all; done) | (rw [Bool.eq_iff_iff]; simp only [Bool.and_eq_true,Bool.or_eq_true,decide_eq_true_eq,Bool.false_eq_true,true_iff,false_iff]; omega))
theorem mayName_any (n:Int) (w:World):Calls Tryz.prog 144 #[.int .i64 n] w fun e w'=>e = .returned (.bool (decide (1 ≤ n) && decide (n ≤ 30))) ∧ w = w':=by
 go_enter Tryz.func144,Tryz.ntmps144
 go_wp2
 all_goals (go_ret; refine ⟨ret_bool ?_,rfl⟩; first | (simp_all; done) | (rw [Bool.eq_iff_iff]; simp only [Bool.and_eq_true,Bool.or_eq_true,decide_eq_true_eq,Bool.false_eq_true,true_iff,false_iff]; omega))
theorem mayHold_any (n m:Int) (w:World):Calls Tryz.prog 95 #[.int .i64 n,.int .i64 m] w fun e w'=>e = .returned (.bool (decide (1 ≤ n) && decide (n ≤ 20) && decide (m ≤ 20))) ∧ w = w':=by
 go_enter Tryz.func95,Tryz.ntmps95
 go_wp2
 all_goals (go_ret; refine ⟨ret_bool ?_,rfl⟩; first | (simp_all; done) | (rw [Bool.eq_iff_iff]; simp only [Bool.and_eq_true,Bool.or_eq_true,decide_eq_true_eq,Bool.false_eq_true,true_iff,false_iff]; omega))
theorem eql_stance (a b c a' b' c':Bool) (w:World):Sem.run Tryz.prog (binOp .eql 248 (.agg #[.bool a,.bool b,.bool c]) (.agg #[.bool a',.bool b',.bool c'])) w = .ok (.bool (decide ((a,b,c) = (a',b',c')))) w:=by
 cases a <;> cases b <;> cases c <;> cases a' <;> cases b' <;> cases c' <;> kernel_rfl
theorem stand_list (ones one:Int) (rep pairs:Bool) (h0:0 ≤ one) (h1:one ≤ ones):standB ones one rep pairs = stanceL.contains (rep,pairs,decide (one ≠ 0)):=by
 unfold standB
 rw [decide_eq_true h0,decide_eq_true h1]
 cases rep <;> cases pairs <;> cases decide (one ≠ 0) <;> rfl
set_option maxRecDepth 1000000 in
set_option maxHeartbeats 1000000 in
theorem mayStand_any (ones one:Int) (rep pairs:Bool) (w:World) (T:Tabs w) :
  Calls Tryz.prog 192 #[.int .i64 ones,.int .i64 one,.bool rep,.bool pairs] w fun e w'=>e = .returned (.bool (standB ones one rep pairs)) ∧ Below w.heap.size w w':=by
 obtain ⟨tt,fr,hT⟩:=T.stances
 clear T
 by_cases h0:one < 0
 ·have H:Hid (standB ones one rep pairs = false):=Lib.hid (by unfold standB; rw [decide_eq_false (by omega)]; simp)
  have hd:decide (one < 0) = true:=decide_eq_true h0
  go_enter Tryz.func192,Tryz.ntmps192
  go_wp2
  go_ret
  exact ⟨by rw [H.out]; rfl,Below.refl _ _⟩
 ·have hd:decide (one < 0) = false:=decide_eq_false h0
  by_cases h1:ones < one
  ·have H:Hid (standB ones one rep pairs = false):=Lib.hid (by unfold standB; rw [decide_eq_false (show ¬ one ≤ ones by omega)]; simp)
   have hd2:decide (one > ones) = true:=decide_eq_true h1
   have hd3:decide (ones < one) = true:=decide_eq_true h1
   go_enter Tryz.func192,Tryz.ntmps192
   go_wp2
   go_ret
   exact ⟨by rw [H.out]; rfl,Below.refl _ _⟩
  ·have H:=Lib.hid (stand_list ones one rep pairs (by omega) (by omega))
   have hd2:decide (one > ones) = false:=decide_eq_false h1
   have hd3:decide (ones < one) = false:=decide_eq_false h1
   obtain ⟨o,ho⟩:∃ o,(one != 0) = o:=⟨_,rfl⟩
   have HO:Hid (decide (one ≠ 0) = o):=Lib.hid (by rw [← ho]; by_cases h:one = 0 <;> simp [h])
   go_enter Tryz.func192,Tryz.ntmps192
   go_wp2_with (refine wpList_load_row rfl 249 _ rfl 2 rfl tt _ fr _ hT Tryz.underlying249 rfl (by kernel_rfl) ?_)
   go_loopw [19] (fun i wr=>∃ k:Nat,i = .int .i64 k ∧ k ≤ 4 ∧ (stanceL.take k).contains (rep,pairs,o) = false ∧ Below w.heap.size w wr) (fun i _=>4 - (intOf i).toNat)
   case atStart=>exact ⟨0,rfl,by omega,rfl,Below.refl _ _⟩
   case round =>
    obtain ⟨k,rfl,hk,hf,hb⟩:=hrel
    by_cases hlt:k < 4
    ·obtain ⟨p,hp⟩:∃ p,stanceL[k]? = some p:=⟨_,List.getElem?_eq_getElem hlt⟩
     have hi:=index_stance wr hp
     have hq:=fun w=>eql_stance p.1 p.2.1 p.2.2 rep pairs o w
     have HF:=Lib.hid hf
     have HP:=Lib.hid hp
     clear hf hp
     obtain ⟨d,hd⟩:∃ d,decide ((p.1,p.2.1,p.2.2) = (rep,pairs,o)) = d:=⟨_,rfl⟩
     have HD:=Lib.hid hd
     rw [hd] at hq
     clear hd
     cases d with
     | true =>
      go_wp2
      go_ret
      refine ⟨?_,hb.trans (below_new _ _ |>.mono hb.size)⟩
      rw [H.out,HO.out,← of_decide_eq_true HD.out]
      have:stanceL.contains (p.1,p.2.1,p.2.2) = true:=by rw [List.contains_eq_mem,decide_eq_true_eq]; exact List.mem_of_getElem? HP.out
      rw [this]; rfl
     | false =>
      go_wp2
      refine ⟨⟨k + 1,by go_num,by omega,?_,hb.trans (below_new _ _ |>.mono hb.size)⟩,by simp [intOf]; omega⟩
      rw [List.take_add_one,HP.out]
      have h1:=HF.out
      have h2:=of_decide_eq_false HD.out
      rw [List.contains_eq_mem,decide_eq_false_iff_not] at h1 ⊢
      intro hm
      rcases List.mem_append.1 hm with hm | hm
      ·exact h1 hm
      ·have:(rep,pairs,o) = p:=by simpa using hm
       exact h2 this.symm
    ·obtain rfl:k = 4:=by omega
     go_wp2
     go_ret
     refine ⟨?_,hb⟩
     rw [H.out,HO.out]
     rw [show stanceL.take 4 = stanceL from rfl] at hf
     rw [hf]; rfl
end Go.Proofs.YtckcojkpghiclaaGreatDoor
namespace Go.Proofs.YtckcojkpghiclaaGreatDoor
set_option maxRecDepth 100000
open Go.RowKit Go.Maps
abbrev FreeS (w:World) (b n:Nat) (p:List UInt8 → Bool):Prop:=Free 9 kS w b n p
abbrev FreeI (w:World) (b n:Nat) (p:Int → Bool):Prop:=Free 2 kI w b n p
theorem zero_unit (w:World):(zeroValue 196).run Tryz.prog w = .ok (.agg #[]) w:=by kernel_rfl
set_option maxHeartbeats 1000000 in
theorem takeS_any (b n:Nat) (p:List UInt8 → Bool) (x:List UInt8) (hx:x.length ≤ maxLen) (w:World) (h:FreeS w b n p) :
  Calls Tryz.prog 101 #[.map (some b),.string (txt x)] w fun e w'=>e = .returned (.bool (p x)) ∧ FreeS w' b n (fun y=>p y && decide (y ≠ x)) ∧ w.grownBy w' (some b):=by
 go_enter Tryz.func101,Tryz.ntmps101
 go_wp2_with (first
  | (at_lookup; refine wpList_free_look rfl _ _ 150 196 rfl kS_law Tryz.underlying150 (zero_unit _) b n p rfl h _ x rfl (kS_key hx) ?_)
  | (at_delete; refine wpList_free_del rfl _ _ 150 196 rfl kS_law Tryz.underlying150 kS_inj b n p rfl (h.alloc _) _ x rfl (kS_key hx) ?_; intro w1 h1 hg1))
 go_ret
 exact ⟨rfl,h1,(World.grownBy_alloc w _ _).trans hg1⟩
set_option maxHeartbeats 1000000 in
theorem takeI_any (b n:Nat) (p:Int → Bool) (x:Int) (hx:inr x) (w:World) (h:FreeI w b n p) :
  Calls Tryz.prog 194 #[.map (some b),.int .i64 x] w fun e w'=>e = .returned (.bool (p x)) ∧ FreeI w' b n (fun y=>p y && decide (y ≠ x)) ∧ w.grownBy w' (some b):=by
 go_enter Tryz.func194,Tryz.ntmps194
 go_wp2_with (first
  | (at_lookup; refine wpList_free_look rfl _ _ 234 196 rfl kI_law Tryz.underlying234 (zero_unit _) b n p rfl h _ x rfl (kI_key hx) ?_)
  | (at_delete; refine wpList_free_del rfl _ _ 234 196 rfl kI_law Tryz.underlying234 kI_inj b n p rfl (h.alloc _) _ x rfl (kI_key hx) ?_; intro w1 h1 hg1))
 go_ret
 exact ⟨rfl,h1,(World.grownBy_alloc w _ _).trans hg1⟩
theorem drop_next {α:Type} [DecidableEq α] [BEq α] [LawfulBEq α] {p:α → Bool} {l:List α} {k:Nat} {x:α} (h:l[k]? = some x):(fun y=>(p y && !(l.take k).contains y) && decide (y ≠ x)) = fun y=>p y && !(l.take (k + 1)).contains y:=by
 funext y
 rw [List.take_add_one,h]
 by_cases hy:y = x
 ·subst hy; simp
 ·simp [hy]
def LsS (B:Nat) (w:World) (ls:List (List (List UInt8))) (vs:List Value):Prop:=∀ (k:Nat) l,ls[k]? = some l → ∃ A c,vs[k]? = some (Value.slice A l.length c) ∧ Sl w A l.length c 1 (strv l) ∧ ∀ ad,A = some ad → 0 < l.length → ad.block < B
def LsI (B:Nat) (w:World) (ls:List (List Int)) (vs:List Value):Prop:=∀ (k:Nat) l,ls[k]? = some l → ∃ A c,vs[k]? = some (Value.slice A l.length c) ∧ Sl w A l.length c 1 (intv l) ∧ ∀ ad,A = some ad → 0 < l.length → ad.block < B
theorem put_next {α:Type} [DecidableEq α] [BEq α] [LawfulBEq α] {p:α → Bool} {l:List α} {k:Nat} {x:α} (h:l[k]? = some x):(fun y=>(p y || (l.take k).contains y) || decide (y = x)) = fun y=>p y || (l.take (k + 1)).contains y:=by
 funext y
 rw [List.take_add_one,h]
 by_cases hy:y = x
 ·subst hy; simp
 ·simp [hy]
theorem flat_next {α:Type} [BEq α] [LawfulBEq α] {ls:List (List α)} {k:Nat} {l:List α} (h:ls[k]? = some l):(fun y=>(ls.take k).flatten.contains y || l.contains y) = fun y=>(ls.take (k + 1)).flatten.contains y:=by
 funext y
 rw [List.take_add_one,h]
 simp
theorem flats_len {α:Type} {ls:List (List α)} {k:Nat} {l:List α} (h:ls[k]? = some l):(ls.take (k + 1)).flatten.length = (ls.take k).flatten.length + l.length:=by
 rw [List.take_add_one,h]
 simp
theorem flats_le {α:Type} (ls:List (List α)) (k:Nat):(ls.take k).flatten.length ≤ ls.flatten.length:=by
 conv=>rhs; rw [← List.take_append_drop k ls,List.flatten_append,List.length_append]
 omega
set_option maxRecDepth 1000000 in
set_option maxHeartbeats 2000000 in
theorem freeOfS_any (A:Option Addr) (c:Nat) (ls:List (List (List UInt8))) (vs:List Value) (w:World) (hs:Sl w A ls.length c 1 vs) (hv:LsS w.heap.size w ls vs) (hn:ls.flatten.length ≤ 100000) (hx:∀ l ∈ ls,∀ x ∈ l,x.length ≤ maxLen) (hl:ls.length ≤ 1000) :
  Calls Tryz.prog 139 #[.slice A ls.length c] w fun e w'=>e = .returned (.map (some w.heap.size)) ∧ FreeS w' w.heap.size ls.flatten.length (fun y=>ls.flatten.contains y) ∧ Below w.heap.size w w':=by
 have HS:=Lib.hid hs
 have HV:=Lib.hid hv
 have HX:=Lib.hid hx
 have HLE:=Lib.hid (flats_le ls)
 clear hs hv hx
 have hmm:=@run_makeMap Tryz.prog
 go_enter Tryz.func139,Tryz.ntmps139
 go_wp2
 go_loopw [11] (fun i wr=>∃ k:Nat,i = .int .i64 k ∧ k ≤ ls.length ∧ FreeS wr w.heap.size (ls.take k).flatten.length (fun y=>(ls.take k).flatten.contains y) ∧ Below w.heap.size w wr) (fun i _=>ls.length - (intOf i).toNat)
 case atStart=>exact ⟨0,rfl,by omega,Free.made w,below_new w _⟩
 case round =>
  obtain ⟨k,rfl,hk,hm,hb⟩:=hrel
  by_cases hlt:k < ls.length
  ·obtain ⟨l,hl0⟩:∃ l,ls[k]? = some l:=⟨_,List.getElem?_eq_getElem hlt⟩
   obtain ⟨Al,cl,hvk,hsl,hAl⟩:=HV.out k l hl0
   obtain ⟨ad,rfl,hab,hc⟩:=Sl.there (HS.out.on hb) (by omega)
   have hck:=hc k _ hvk
   have HN:=Lib.hid (flat_next hl0)
   have HLN:=Lib.hid (flats_len hl0)
   have HXl:=Lib.hid (HX.out l (List.mem_of_getElem? hl0))
   have HSL:=Lib.hid hsl
   have hll:(ls.take k).flatten.length + l.length ≤ 100000:=by
    have h1:=HLN.out
    have h2:=HLE.out (k + 1)
    omega
   generalize (ls.take k).flatten = F at *
   clear hvk hc hsl hl0
   go_wp2
   go_loopw [17] (fun i wy=>∃ j:Nat,i = .int .i64 j ∧ j ≤ l.length ∧ FreeS wy w.heap.size (F.length + j) (fun y=>F.contains y || (l.take j).contains y) ∧ Below w.heap.size w wy) (fun i _=>l.length - (intOf i).toNat)
   case atStart=>exact ⟨0,rfl,by omega,hm.eq (by funext y; simp),hb⟩
   case round =>
    obtain ⟨j,rfl,hj,hm,hb⟩:=hrel
    by_cases hlt2:j < l.length
    ·obtain ⟨x,hx⟩:∃ x,l[j]? = some x:=⟨_,List.getElem?_eq_getElem hlt2⟩
     obtain ⟨ad2,rfl,hab2,hc2⟩:=strr_at (HSL.out.on hb) hx
     have hxl:=HXl.out x (List.mem_of_getElem? hx)
     have HP:=Lib.hid (put_next (p:=fun y=>F.contains y) hx)
     clear hx
     go_wp2_with (at_mapUpdate; refine wpList_free_put rfl _ _ _ 150 196 rfl kS_law Tryz.underlying150 kS_inj kS_lit w.heap.size _ _ rfl hm (by omega) _ x rfl rfl (kS_key hxl) ?_; intro w3 h3 hg3)
     exact ⟨⟨j + 1,by go_num,by omega,h3.eq HP.out,hb.grown hg3 hb.size (fun q hq=>by injection hq with hq; omega)⟩,by simp [intOf]; omega⟩
    ·obtain rfl:j = l.length:=by omega
     rw [List.take_length] at hm
     go_wp2
     exact ⟨⟨k + 1,by go_num,by omega,by rw [HLN.out]; exact hm.eq HN.out,hb⟩,by simp [intOf]; omega⟩
  ·obtain rfl:k = ls.length:=by omega
   rw [List.take_length] at hm
   go_wp2
   go_ret
   exact ⟨rfl,hm,hb⟩
set_option maxRecDepth 1000000 in
set_option maxHeartbeats 2000000 in
theorem freeOfI_any (A:Option Addr) (c:Nat) (ls:List (List Int)) (vs:List Value) (w:World) (hs:Sl w A ls.length c 1 vs) (hv:LsI w.heap.size w ls vs) (hn:ls.flatten.length ≤ 100000) (hx:∀ l ∈ ls,∀ x ∈ l,inr x) (hl:ls.length ≤ 1000) :
  Calls Tryz.prog 193 #[.slice A ls.length c] w fun e w'=>e = .returned (.map (some w.heap.size)) ∧ FreeI w' w.heap.size ls.flatten.length (fun y=>ls.flatten.contains y) ∧ Below w.heap.size w w':=by
 have HS:=Lib.hid hs
 have HV:=Lib.hid hv
 have HX:=Lib.hid hx
 have HLE:=Lib.hid (flats_le ls)
 clear hs hv hx
 have hmm:=@run_makeMap Tryz.prog
 go_enter Tryz.func193,Tryz.ntmps193
 go_wp2
 go_loopw [11] (fun i wr=>∃ k:Nat,i = .int .i64 k ∧ k ≤ ls.length ∧ FreeI wr w.heap.size (ls.take k).flatten.length (fun y=>(ls.take k).flatten.contains y) ∧ Below w.heap.size w wr) (fun i _=>ls.length - (intOf i).toNat)
 case atStart=>exact ⟨0,rfl,by omega,Free.made w,below_new w _⟩
 case round =>
  obtain ⟨k,rfl,hk,hm,hb⟩:=hrel
  by_cases hlt:k < ls.length
  ·obtain ⟨l,hl0⟩:∃ l,ls[k]? = some l:=⟨_,List.getElem?_eq_getElem hlt⟩
   obtain ⟨Al,cl,hvk,hsl,hAl⟩:=HV.out k l hl0
   obtain ⟨ad,rfl,hab,hc⟩:=Sl.there (HS.out.on hb) (by omega)
   have hck:=hc k _ hvk
   have HN:=Lib.hid (flat_next hl0)
   have HLN:=Lib.hid (flats_len hl0)
   have HXl:=Lib.hid (HX.out l (List.mem_of_getElem? hl0))
   have HSL:=Lib.hid hsl
   have hll:(ls.take k).flatten.length + l.length ≤ 100000:=by
    have h1:=HLN.out
    have h2:=HLE.out (k + 1)
    omega
   generalize (ls.take k).flatten = F at *
   clear hvk hc hsl hl0
   go_wp2
   go_loopw [17] (fun i wy=>∃ j:Nat,i = .int .i64 j ∧ j ≤ l.length ∧ FreeI wy w.heap.size (F.length + j) (fun y=>F.contains y || (l.take j).contains y) ∧ Below w.heap.size w wy) (fun i _=>l.length - (intOf i).toNat)
   case atStart=>exact ⟨0,rfl,by omega,hm.eq (by funext y; simp),hb⟩
   case round =>
    obtain ⟨j,rfl,hj,hm,hb⟩:=hrel
    by_cases hlt2:j < l.length
    ·obtain ⟨x,hx⟩:∃ x,l[j]? = some x:=⟨_,List.getElem?_eq_getElem hlt2⟩
     obtain ⟨ad2,rfl,hab2,hc2⟩:=intr_at (HSL.out.on hb) hx
     have hxl:=HXl.out x (List.mem_of_getElem? hx)
     have HP:=Lib.hid (put_next (p:=fun y=>F.contains y) hx)
     clear hx
     go_wp2_with (at_mapUpdate; refine wpList_free_put rfl _ _ _ 234 196 rfl kI_law Tryz.underlying234 kI_inj kI_lit w.heap.size _ _ rfl hm (by omega) _ x rfl rfl (kI_key hxl) ?_; intro w3 h3 hg3)
     exact ⟨⟨j + 1,by go_num,by omega,h3.eq HP.out,hb.grown hg3 hb.size (fun q hq=>by injection hq with hq; omega)⟩,by simp [intOf]; omega⟩
    ·obtain rfl:j = l.length:=by omega
     rw [List.take_length] at hm
     go_wp2
     exact ⟨⟨k + 1,by go_num,by omega,by rw [HLN.out]; exact hm.eq HN.out,hb⟩,by simp [intOf]; omega⟩
  ·obtain rfl:k = ls.length:=by omega
   rw [List.take_length] at hm
   go_wp2
   go_ret
   exact ⟨rfl,hm,hb⟩
theorem drop_nextP {p:List UInt8 → Bool} {k:Nat} {q:List UInt8 × Nat} (h:plainsL[k]? = some q):(fun y=>(p y && !((plainsL.map (·.1)).take k).contains y) && decide (y ≠ q.1)) = fun y=>p y && !((plainsL.map (·.1)).take (k + 1)).contains y :=
 drop_next (l:=plainsL.map (·.1)) (by rw [List.getElem?_map,h]; rfl)
theorem plain_short {k:Nat} {q:List UInt8 × Nat} (h:plainsL[k]? = some q):q.1.length ≤ maxLen:=by
 have:∀ q ∈ plainsL,q.1.length ≤ 8:=by decide
 have:=this q (List.mem_of_getElem? h)
 unfold maxLen
 omega
set_option maxRecDepth 1000000 in
set_option maxHeartbeats 2000000 in
theorem typeNames_any (v1 v2:Value) (l1 l2:List (List UInt8)) (w:World) (T:Tabs w) (h1:Rb w.heap.size w v1 l1.length 1 (strv l1)) (h2:Rb w.heap.size w v2 l2.length 1 (strv l2)) (hn:l1.length + l2.length ≤ 100000) (hx:∀ x ∈ l1 ++ l2,x.length ≤ maxLen) :
  Calls Tryz.prog 96 #[v1,v2] w fun e w'=>∃ b,e = .returned (.map (some b)) ∧ w.heap.size ≤ b ∧ FreeS w' b (l1.length + l2.length) (stillT (l1 ++ l2) 0) ∧ Below w.heap.size w w':=by
 obtain ⟨A1,c1,rfl,s1,a1⟩:=h1
 obtain ⟨A2,c2,rfl,s2,a2⟩:=h2
 have hbw:=below_new w (.cells #[.slice A1 l1.length c1,.slice A2 l2.length c2] 82)
 have hF:=freeOfS_any (some ⟨w.heap.size,0,none⟩) 2 [l1,l2] [.slice A1 l1.length c1,.slice A2 l2.length c2] (w.alloc (.cells #[.slice A1 l1.length c1,.slice A2 l2.length c2] 82)) (Sl.new w [.slice A1 l1.length c1,.slice A2 l2.length c2] _ (by unfold maxLen; simp)) (by
  intro k l hk
  match k,hk with
  | 0,hk =>
   obtain rfl:l1 = l:=by simpa using hk
   exact ⟨A1,c1,rfl,s1.on hbw,fun ad ha hp=>Nat.lt_of_lt_of_le (a1 ad ha hp) hbw.size⟩
  | 1,hk =>
   obtain rfl:l2 = l:=by simpa using hk
   exact ⟨A2,c2,rfl,s2.on hbw,fun ad ha hp=>Nat.lt_of_lt_of_le (a2 ad ha hp) hbw.size⟩
  | k + 2,hk=>simp at hk) (by simpa using hn) (by
  intro l hl x hxl
  refine hx x (List.mem_append.2 ?_)
  rcases List.mem_cons.1 hl with rfl | hl
  ·exact .inl hxl
  ·obtain rfl:l = l2:=by simpa using hl
   exact .inr hxl) (by simp)
 have HF:=Lib.hid hF
 have HST:=Lib.hid (still_start (l1 ++ l2) (plainsL.map (·.1)))
 clear hF s1 s2 a1 a2 hx
 have HBW:=Lib.hid hbw
 have HT:=Lib.hid (T.on hbw)
 clear hbw T
 go_enter Tryz.func96,Tryz.ntmps96
 go_wp2_with (first
  | (go_at_call 139; refine HF.out.mono ?_; rintro e w2 ⟨rfl,hm2,hb2⟩; obtain ⟨tt,fr,hT⟩:=(HT.out.on hb2).plains)
  | (refine wpList_load_row rfl 195 _ rfl 0 rfl tt _ fr _ hT Tryz.underlying195 rfl (by kernel_rfl) ?_))
 have hbb:Below w.heap.size w w2:=HBW.out.trans (hb2.mono HBW.out.size)
 have hm3:FreeS w2 (w.heap.size + 1) (l1.length + l2.length) (fun y=>(l1 ++ l2).contains y):=by
  have e:(w.alloc (.cells #[.slice A1 l1.length c1,.slice A2 l2.length c2] 82)).heap.size = w.heap.size + 1:=by simp
  rw [e] at hm2
  have e2:[l1,l2].flatten = l1 ++ l2:=by simp
  rw [e2] at hm2
  exact hm2.mono (by simp)
 clear hm2 hb2 hT
 go_loopw [13] (fun i wr=>∃ k:Nat,i = .int .i64 k ∧ k ≤ 8 ∧ FreeS wr (w.heap.size + 1) (l1.length + l2.length) (fun y=>(l1 ++ l2).contains y && !((plainsL.map (·.1)).take k).contains y) ∧ Below w.heap.size w wr) (fun i _=>8 - (intOf i).toNat)
 case atStart=>exact ⟨0,rfl,by omega,hm3.eq (by funext y; simp),hbb⟩
 case round =>
  obtain ⟨k,rfl,hk,hm,hb⟩:=hrel
  by_cases hlt:k < 8
  ·obtain ⟨q,hq⟩:∃ q,plainsL[k]? = some q:=⟨_,List.getElem?_eq_getElem hlt⟩
   have hi:=index_plain wr hq
   have hql:=plain_short hq
   have HN:=Lib.hid (drop_nextP (p:=fun y=>(l1 ++ l2).contains y) hq)
   clear hq
   go_wp2_with (at_delete; refine wpList_free_del rfl _ _ 150 196 rfl kS_law Tryz.underlying150 kS_inj (w.heap.size + 1) _ _ rfl (hm.alloc _) _ q.1 rfl (kS_key hql) ?_; intro w3 h3 hg3)
   exact ⟨⟨k + 1,by go_num,by omega,h3.eq HN.out,(below_lit hb _).grown hg3 (by have:=hb.size; simp; omega) (fun j hj=>by injection hj with hj; omega)⟩,by simp [intOf]; omega⟩
  ·obtain rfl:k = 8:=by omega
   go_wp2
   go_ret
   refine ⟨w.heap.size + 1,rfl,by omega,hm.eq ?_,hb⟩
   unfold stillT
   rw [HST.out]
   rfl
end Go.Proofs.YtckcojkpghiclaaGreatDoor
namespace Go.Proofs.YtckcojkpghiclaaGreatDoor
set_option maxRecDepth 100000
open Go.RowKit
theorem strv_next {α:Type} (g:α → List UInt8) {l:List α} {k:Nat} {x:α} (h:l[k]? = some x):strv ((l.take k).map g) ++ [.string (txt (g x))] = strv ((l.take (k + 1)).map g):=by
 rw [List.take_add_one,h]; simp [strv]
theorem clo_eachMd_any (m:Md) (a1:Option Addr) (n1 k1:Nat) (w:World):Calls Tryz.prog 98 #[.agg #[.string (txt m.name),.slice a1 n1 k1]] w fun e w'=>e = .returned (.string (txt m.name)) ∧ w' = w.alloc (.cells #[.string (txt m.name),.slice a1 n1 k1] 56):=by
 go_enter Tryz.func98,Tryz.ntmps98
 go_wp2
 go_ret
 exact ⟨rfl,rfl⟩
set_option maxRecDepth 1000000 in
set_option maxHeartbeats 2000000 in
theorem eachMd_any (B:Nat) (v:Value) (xs:List Value) (l:List Md) (hl:l.length ≤ 100000) (w:World) (hB:B ≤ w.heap.size) (hr:Rb B w v l.length 2 xs) (ha:MdsAt B w l xs) :
  Calls Tryz.prog 97 #[v,.func (.func 98) #[] #[]] w fun e w'=>∃ v',e = .returned v' ∧ w'.ownsRow w.heap.size 9 1 v' l.length (strv (l.map (·.name))) ∧ Below w.heap.size w w':=by
 obtain ⟨A,c,rfl,hs,hA⟩:=hr
 obtain ⟨i0,hi,hz0,hz1,hz2⟩:=info_parts infoStrs
 have HS:=Lib.hid hs
 have HA:=Lib.hid ha
 clear hs ha
 go_enter Tryz.func97,Tryz.ntmps97
 go_wp2_with (at_make; refine wpList_make_own _ rfl _ _ 82 rfl w.heap.size 9 i0 _ 1 Tryz.underlying82 hi hz0 hz1 _ _ _ l.length rfl rfl rfl (by rw [hz2]; omega) (by unfold maxLen; omega) (Nat.le_refl _) ?_; intro w1 hown1 hg1)
 have hb1:Below w.heap.size w w1:=(Below.refl w.heap.size w).grown hg1 (Nat.le_refl _) (fun k hk=>by cases hk)
 go_loopw [5,13] (fun o i wr=>∃ k:Nat,i = .int .i64 k ∧ k ≤ l.length ∧ wr.ownsRow w.heap.size 9 1 o k (strv ((l.take k).map (·.name))) ∧ Below w.heap.size w wr) (fun _ i _=>l.length - (intOf i).toNat)
 case atStart=>exact ⟨0,rfl,by omega,hown1,hb1⟩
 case round =>
  obtain ⟨k,rfl,hk,hown,hb⟩:=hrel
  by_cases hlt:k < l.length
  ·obtain ⟨m,hm⟩:∃ m,l[k]? = some m:=⟨_,List.getElem?_eq_getElem hlt⟩
   obtain ⟨ad,vF,rfl,_,hmr,c0,c1⟩:=mdr_at (HS.out.low hA (Low.below hb hB)) (HA.out.low (Low.below hb hB)) hm
   obtain ⟨_,_,rfl,-,-⟩:=hmr
   have HN:=Lib.hid (strv_next (·.name) hm)
   clear hm
   go_wp2_with (first
    | (at_builtin; refine wpList_app1 rfl _ _ 82 rfl w.heap.size 9 i0 _ 16 Tryz.underlying82 hi hz0 hz1 hz2 rfl _ k _ rfl (((hown.alloc _).alloc _).alloc _) _ 1 (.string (txt m.name)) rfl (World.cell?_alloc_at _ _ _ _ (by simp)) rfl (by unfold maxLen; omega) (by omega) (by have:=hb.size; simp; omega) ?_; intro v3 w3 hown3 hg3)
    | (go_at_call 98; refine (clo_eachMd_any m _ _ _ _).mono ?_; rintro e w2 ⟨rfl,rfl⟩))
   rw [HN.out] at hown3
   exact ⟨⟨k + 1,by go_num,by omega,hown3,(below_lit (below_lit (below_lit hb _) _) _).grown hg3 (by have:=hb.size; simp; omega) (own_ge hown)⟩,by simp [intOf]; omega⟩
  ·obtain rfl:k = l.length:=by omega
   rw [List.take_length] at hown
   go_wp2
   go_ret
   exact ⟨_,rfl,hown,hb⟩
theorem clo_eachEd_any (m:Ed) (a1:Option Addr) (n1 k1:Nat) (a2:Option Addr) (n2 k2:Nat) (w:World):Calls Tryz.prog 100 #[.agg #[.string (txt m.name),.slice a1 n1 k1,.slice a2 n2 k2]] w fun e w'=>e = .returned (.string (txt m.name)) ∧ w' = w.alloc (.cells #[.string (txt m.name),.slice a1 n1 k1,.slice a2 n2 k2] 84):=by
 go_enter Tryz.func100,Tryz.ntmps100
 go_wp2
 go_ret
 exact ⟨rfl,rfl⟩
set_option maxRecDepth 1000000 in
set_option maxHeartbeats 2000000 in
theorem eachEd_any (B:Nat) (v:Value) (xs:List Value) (l:List Ed) (hl:l.length ≤ 100000) (w:World) (hB:B ≤ w.heap.size) (hr:Rb B w v l.length 3 xs) (ha:EdsAt B w l xs) :
  Calls Tryz.prog 99 #[v,.func (.func 100) #[] #[]] w fun e w'=>∃ v',e = .returned v' ∧ w'.ownsRow w.heap.size 9 1 v' l.length (strv (l.map (·.name))) ∧ Below w.heap.size w w':=by
 obtain ⟨A,c,rfl,hs,hA⟩:=hr
 obtain ⟨i0,hi,hz0,hz1,hz2⟩:=info_parts infoStrs
 have HS:=Lib.hid hs
 have HA:=Lib.hid ha
 clear hs ha
 go_enter Tryz.func99,Tryz.ntmps99
 go_wp2_with (at_make; refine wpList_make_own _ rfl _ _ 82 rfl w.heap.size 9 i0 _ 1 Tryz.underlying82 hi hz0 hz1 _ _ _ l.length rfl rfl rfl (by rw [hz2]; omega) (by unfold maxLen; omega) (Nat.le_refl _) ?_; intro w1 hown1 hg1)
 have hb1:Below w.heap.size w w1:=(Below.refl w.heap.size w).grown hg1 (Nat.le_refl _) (fun k hk=>by cases hk)
 go_loopw [5,13] (fun o i wr=>∃ k:Nat,i = .int .i64 k ∧ k ≤ l.length ∧ wr.ownsRow w.heap.size 9 1 o k (strv ((l.take k).map (·.name))) ∧ Below w.heap.size w wr) (fun _ i _=>l.length - (intOf i).toNat)
 case atStart=>exact ⟨0,rfl,by omega,hown1,hb1⟩
 case round =>
  obtain ⟨k,rfl,hk,hown,hb⟩:=hrel
  by_cases hlt:k < l.length
  ·obtain ⟨m,hm⟩:∃ m,l[k]? = some m:=⟨_,List.getElem?_eq_getElem hlt⟩
   obtain ⟨ad,vV,vN,rfl,_,hmr,hms,c0,c1,c2⟩:=edr_at (HS.out.low hA (Low.below hb hB)) (HA.out.low (Low.below hb hB)) hm
   obtain ⟨_,_,rfl,-,-⟩:=hmr
   obtain ⟨_,_,rfl,-,-⟩:=hms
   have HN:=Lib.hid (strv_next (·.name) hm)
   clear hm
   go_wp2_with (first
    | (at_builtin; refine wpList_app1 rfl _ _ 82 rfl w.heap.size 9 i0 _ 16 Tryz.underlying82 hi hz0 hz1 hz2 rfl _ k _ rfl (((hown.alloc _).alloc _).alloc _) _ 1 (.string (txt m.name)) rfl (World.cell?_alloc_at _ _ _ _ (by simp)) rfl (by unfold maxLen; omega) (by omega) (by have:=hb.size; simp; omega) ?_; intro v3 w3 hown3 hg3)
    | (go_at_call 100; refine (clo_eachEd_any m _ _ _ _ _ _ _).mono ?_; rintro e w2 ⟨rfl,rfl⟩))
   rw [HN.out] at hown3
   exact ⟨⟨k + 1,by go_num,by omega,hown3,(below_lit (below_lit (below_lit hb _) _) _).grown hg3 (by have:=hb.size; simp; omega) (own_ge hown)⟩,by simp [intOf]; omega⟩
  ·obtain rfl:k = l.length:=by omega
   rw [List.take_length] at hown
   go_wp2
   go_ret
   exact ⟨_,rfl,hown,hb⟩
theorem clo_eachDf_any (m:Df) (w:World):Calls Tryz.prog 141 #[.agg #[.int .i64 m.no,.string (txt m.name),.int .i64 m.kind,.int .i64 m.ref,.bool m.rep,.int .i64 m.key,.int .i64 m.one]] w fun e w'=>e = .returned (.string (txt m.name)) ∧ w' = w.alloc (.cells #[.int .i64 m.no,.string (txt m.name),.int .i64 m.kind,.int .i64 m.ref,.bool m.rep,.int .i64 m.key,.int .i64 m.one] 45):=by
 go_enter Tryz.func141,Tryz.ntmps141
 go_wp2
 go_ret
 exact ⟨rfl,rfl⟩
set_option maxRecDepth 1000000 in
set_option maxHeartbeats 2000000 in
theorem eachDf_any (B:Nat) (v:Value) (l:List Df) (hl:l.length ≤ 100000) (w:World) (hB:B ≤ w.heap.size) (hr:Rb B w v l.length 7 (dfv l)) :
  Calls Tryz.prog 140 #[v,.func (.func 141) #[] #[]] w fun e w'=>∃ v',e = .returned v' ∧ w'.ownsRow w.heap.size 9 1 v' l.length (strv (l.map (·.name))) ∧ Below w.heap.size w w':=by
 obtain ⟨A,c,rfl,hs,hA⟩:=hr
 obtain ⟨i0,hi,hz0,hz1,hz2⟩:=info_parts infoStrs
 have HS:=Lib.hid hs
 clear hs
 go_enter Tryz.func140,Tryz.ntmps140
 go_wp2_with (at_make; refine wpList_make_own _ rfl _ _ 82 rfl w.heap.size 9 i0 _ 1 Tryz.underlying82 hi hz0 hz1 _ _ _ l.length rfl rfl rfl (by rw [hz2]; omega) (by unfold maxLen; omega) (Nat.le_refl _) ?_; intro w1 hown1 hg1)
 have hb1:Below w.heap.size w w1:=(Below.refl w.heap.size w).grown hg1 (Nat.le_refl _) (fun k hk=>by cases hk)
 go_loopw [5,13] (fun o i wr=>∃ k:Nat,i = .int .i64 k ∧ k ≤ l.length ∧ wr.ownsRow w.heap.size 9 1 o k (strv ((l.take k).map (·.name))) ∧ Below w.heap.size w wr) (fun _ i _=>l.length - (intOf i).toNat)
 case atStart=>exact ⟨0,rfl,by omega,hown1,hb1⟩
 case round =>
  obtain ⟨k,rfl,hk,hown,hb⟩:=hrel
  by_cases hlt:k < l.length
  ·obtain ⟨m,hm⟩:∃ m,l[k]? = some m:=⟨_,List.getElem?_eq_getElem hlt⟩
   obtain ⟨ad,rfl,_,c0,c1,c2,c3,c4,c5,c6⟩:=dfr_at (HS.out.low hA (Low.below hb hB)) hm
   have HN:=Lib.hid (strv_next (·.name) hm)
   clear hm
   go_wp2_with (first
    | (at_builtin; refine wpList_app1 rfl _ _ 82 rfl w.heap.size 9 i0 _ 16 Tryz.underlying82 hi hz0 hz1 hz2 rfl _ k _ rfl (((hown.alloc _).alloc _).alloc _) _ 1 (.string (txt m.name)) rfl (World.cell?_alloc_at _ _ _ _ (by simp)) rfl (by unfold maxLen; omega) (by omega) (by have:=hb.size; simp; omega) ?_; intro v3 w3 hown3 hg3)
    | (go_at_call 141; refine (clo_eachDf_any m _).mono ?_; rintro e w2 ⟨rfl,rfl⟩))
   rw [HN.out] at hown3
   exact ⟨⟨k + 1,by go_num,by omega,hown3,(below_lit (below_lit (below_lit hb _) _) _).grown hg3 (by have:=hb.size; simp; omega) (own_ge hown)⟩,by simp [intOf]; omega⟩
  ·obtain rfl:k = l.length:=by omega
   rw [List.take_length] at hown
   go_wp2
   go_ret
   exact ⟨_,rfl,hown,hb⟩
end Go.Proofs.YtckcojkpghiclaaGreatDoor
namespace Go.Proofs.YtckcojkpghiclaaGreatDoor
set_option maxRecDepth 100000
open Go.RowKit Go.Maps
theorem box_kept {w w':World} {g b:Nat} {o:Obj} (h:w.heap[g]? = some o) (hg:w.grownBy w' (some b)) (hne:g ≠ b):w'.heap[g]? = some o :=
 (hg.block g (Array.getElem?_eq_some_iff.1 h).1 (fun e=>hne (by injection e))).trans h
theorem box2 {w:World} {g:Nat} {a b:Value} {t:TypeId} (h:w.heap[g]? = some (.cells #[a,b] t (0,0))):w.heap[g]? = some (.cells #[a,b] t (0,0)) ∧ w.cell? ⟨g,0,none⟩ = some a ∧ w.cell? ⟨g,1,none⟩ = some b :=
 ⟨h,by rw [heap_cell h 0]; rfl,by rw [heap_cell h 1]; rfl⟩
theorem box2_below {w w':World} {g:Nat} {a b:Value} {t:TypeId} (hb:Below w.heap.size w w') (h:w.heap[g]? = some (.cells #[a,b] t (0,0)) ∧ w.cell? ⟨g,0,none⟩ = some a ∧ w.cell? ⟨g,1,none⟩ = some b):w'.heap[g]? = some (.cells #[a,b] t (0,0)) ∧ w'.cell? ⟨g,0,none⟩ = some a ∧ w'.cell? ⟨g,1,none⟩ = some b :=
 box2 ((hb.block g (Array.getElem?_eq_some_iff.1 h.1).1).trans h.1)
theorem stillT_next {l:List (List UInt8)} {k:Nat} {x:List UInt8} (h:l[k]? = some x):(fun y=>stillT l k y && decide (y ≠ x)) = stillT l (k + 1):=still_next h
end Go.Proofs.YtckcojkpghiclaaGreatDoor
namespace Go.Proofs.YtckcojkpghiclaaGreatDoor
set_option maxRecDepth 100000
open Go.RowKit Go.WideMaps Go.Maps
end Go.Proofs.YtckcojkpghiclaaGreatDoor
namespace Go.Proofs.YtckcojkpghiclaaGreatDoor
set_option maxRecDepth 100000
open Go.RowKit Go.Maps
def df0:Df:=⟨0,[],0,0,false,0,0⟩
theorem infoDf:(Tryz.prog.info? 45).map (·.size) = some 7:=by kernel_rfl
theorem wpList_store_df {ops:Array Oper} {rest:List Oper} {o:Oper} {a:Act} {w:World} {Q:Exit → Act → World → Prop} (hgd:o.guard = none) (x y:Operand) (ho:o.op = .store 45 x y)
  (hd:o.dst = none) (g:Nat) (b1:ByteArray) (b4:Bool) (b0 b2 b3 b5 b6:Int) (u0 u1 u2 u3 u4 u5 u6:Value) (hx:a.eval x = .pointer (some ⟨g,0,none⟩)) (hy:a.eval y = .agg #[.int .i64 b0,.string b1,.int .i64 b2,.int .i64 b3,.bool b4,.int .i64 b5,.int .i64 b6])
  (t:TypeId) (hg:w.heap[g]? = some (.cells #[u0,u1,u2,u3,u4,u5,u6] t (0,0)))
  (h:wpList Tryz.prog ops Q rest a (w.setRow g #[.int .i64 b0,.string b1,.int .i64 b2,.int .i64 b3,.bool b4,.int .i64 b5,.int .i64 b6])):wpList Tryz.prog ops Q (o :: rest) a w :=
 wpList_store_rowTo hgd 45 x y ho hd g _ hx hy t _ hg infoDf rfl (by simp [Value.oneCell']) h
theorem results_df1 {fn:Func} {p u:Tmp} (h:fn.results = #[.cell p 45,.tmp u]) (tmps:Array Value) (w:World) (g:Nat) (t:TypeId) (u0 u1 u2 u3 u4 u5 u6:Value) (fr:Nat × Nat)
  (hp:tmps.getD p undef = .pointer (some ⟨g,0,none⟩)) (hg:w.heap[g]? = some (.cells #[u0,u1,u2,u3,u4,u5,u6] t fr)) :
  (results fn tmps).run Tryz.prog w = .ok (.tuple #[.agg #[u0,u1,u2,u3,u4,u5,u6],tmps.getD u undef]) w :=
 results_row_tmp1 h tmps w g t _ fr _ hp hg Tryz.underlying45 rfl infoDf
end Go.Proofs.YtckcojkpghiclaaGreatDoor
