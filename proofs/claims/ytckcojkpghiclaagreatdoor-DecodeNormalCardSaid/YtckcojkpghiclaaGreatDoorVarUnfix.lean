/-
 Words for memory that every text of this seat uses: slices of bytes that read as lists, rows of the call's own, what an append of one element does, and the last step from a walk to a law's statement.
-/
import Derived.Test.YtckcojkpghiclaaGreatDoorRows
import Derived.WalkKit
import Derived.ProofKit
import Derived.OpenShut
import Derived.ScopeJumps
import Derived.Lib.Hide
import Derived.IntWalk
import Derived.JoinedCond
import Derived.Deep.Draws
import Derived.Deep.AppendLies
import Derived.Deep.Slices
import Derived.Maps.AppendAt
import Derived.Deep.RegionHeld3
import Derived.Deep.RegionHeldLaw
import Derived.Deep.QuietTactic
import Derived.BigQuiet
namespace Go.Proofs.YtckcojkpghiclaaGreatDoor
set_option maxRecDepth 100000
open Go.ChangeShapes Go.WideShapes Go.ChangeAt Go.RowKit
theorem add_nothing (a : Addr) : a.add 0 = a := by simp [Addr.add]
theorem add_twice (a : Addr) (i k : Nat) : (a.add i).add k = a.add (i + k) := by
 rcases i with _ | i
 ·rw [add_nothing, Nat.zero_add]
 ·rcases k with _ | k
  ·rw [add_nothing, Nat.add_zero]
  ·simp [Addr.add, Nat.add_assoc]
theorem add_same_block (a : Addr) (i : Nat) : (a.add i).block = a.block := by
 rcases i with _ | i
 ·rw [add_nothing]
 ·simp [Addr.add]
structure Sl (w : World) (A : Option Addr) (n c size : Nat) (xs : List Value) : Prop where
 len : xs.length = n * size
 le : n ≤ c
 cap : c ≤ maxLen
 nil : A = none → c = 0
 old : ∀ ad, A = some ad → 0 < n → ad.block < w.heap.size
 cell : ∀ ad, A = some ad → ∀ k u, xs[k]? = some u → w.cell? (ad.add k) = some u
section
variable {w w' : World} {A : Option Addr} {n c size : Nat} {xs : List Value}
theorem Sl.none_len (h : Sl w none n c size xs) : n = 0 ∧ c = 0 ∧ xs = [] := by
 have hc := h.nil rfl
 have hn : n = 0 := by have := h.le; omega
 refine ⟨hn, hc, List.eq_nil_of_length_eq_zero ?_⟩
 rw [h.len, hn, Nat.zero_mul]
theorem Sl.nothing (w : World) (size : Nat) : Sl w none 0 0 size [] :=
 ⟨by simp, Nat.le_refl _, Nat.zero_le _, fun _ => rfl, by simp, by simp⟩
theorem Sl.there (h : Sl w A n c size xs) (hn : 0 < n) : ∃ ad, A = some ad ∧ ad.block < w.heap.size ∧ ∀ k u, xs[k]? = some u → w.cell? (ad.add k) = some u := by
 cases A with
 | none => have := h.none_len.1; omega
 | some ad => exact ⟨ad, rfl, h.old ad rfl hn, h.cell ad rfl⟩
theorem Sl.on (h : Sl w A n c size xs) (hb : Below w.heap.size w w') : Sl w' A n c size xs := by
 refine ⟨h.len, h.le, h.cap, h.nil, fun ad ha hn => Nat.lt_of_lt_of_le (h.old ad ha hn) hb.size, fun ad ha k u hu => ?_⟩
 have hn : 0 < n := by
  rcases Nat.eq_zero_or_pos n with h0 | h0
  ·have hl := h.len
   rw [h0, Nat.zero_mul] at hl
   rw [List.eq_nil_of_length_eq_zero hl] at hu
   simp at hu
  ·exact h0
 rw [hb.cell (p := ad.add k) (by rw [add_same_block]; exact h.old ad ha hn)]
 exact h.cell ad ha k u hu
theorem Sl.of_own {base : Nat} {e : TypeId} {v : Value} (h : w.ownsRow base e size v n xs) : ∃ A c, v = .slice A n c ∧ Sl w A n c size xs := by
 rcases h.2 with ⟨rfl, rfl⟩ | ⟨g, cap, cur, rfl, _, hh, hle, hmax, hsz, htake⟩
 ·obtain rfl : xs = [] := List.eq_nil_of_length_eq_zero (by rw [h.1, Nat.zero_mul])
  exact ⟨none, 0, rfl, Sl.nothing w size⟩
 ·refine ⟨_, cap, rfl, h.1, hle, hmax, by simp, fun ad ha _ => ?_, fun ad ha k u hu => ?_⟩
  ·obtain rfl := Option.some.inj ha
   exact (Array.getElem?_eq_some_iff.1 hh).1
  ·obtain rfl := Option.some.inj ha
   exact h.cells (g := g) rfl k u hu
end
theorem own_ge {w : World} {base : Nat} {e : TypeId} {size : Nat} {v : Value} {n : Nat} {xs : List Value} (h : w.ownsRow base e size v n xs) :
  ∀ k, v.ownBlock = some k → base ≤ k := fun k hk => (h.lt k hk).1
theorem below_draws {B : Nat} {a w : World} (h : Below B a w) (n : Nat) : Below B a (w.drewN n) := h.trans ⟨rfl, rfl, rfl, Nat.le_refl _, fun _ _ => rfl⟩
theorem ret_int {k : IntKind} {a b : Int} (h : a = b) : Ending.returned (.int k a) = .returned (.int k b) := by rw [h]
theorem ret_bool {a b : Bool} (h : a = b) : Ending.returned (.bool a) = .returned (.bool b) := by rw [h]
theorem ret3_int {k k' k'' : IntKind} {a a' b b' c c' : Int} (h : a = a') (h' : b = b') (h'' : c = c') : Ending.returned (.tuple #[.int k a, .int k' b, .int k'' c]) = .returned (.tuple #[.int k a', .int k' b', .int k'' c']) := by rw [h, h', h'']
theorem wpList_app1 {P : Program} {w : World} {ops : Array Oper} {rest : List Oper} {o : Oper} {a : Act} {Q : Exit → Act → World → Prop}
  (hg : o.guard = none) (s x : Operand) (t : TypeId) (hop : o.op = .call { callee := .builtin .append, args := #[s, x], argTypes := #[t, t] })
  (base : Nat) (e : TypeId) (i : TypeInfo) (z : Value) (bytes : Nat) (ht : P.underlying t = some (.slice e)) (hi : P.info? e = some i) (hz : i.zero = some z)
  (hsize : i.size = 1) (hby : i.bytes = bytes) (hzs : z.cells.size = 1)
  (v : Value) (n : Nat) (xs : List Value) (hs : a.eval s = v) (hown : w.ownsRow base e 1 v n xs) (g c : Nat) (u : Value) (hx : a.eval x = .slice (some ⟨g, 0, none⟩) 1 c)
  (hc : w.cell? ⟨g, 0, none⟩ = some u) (h1 : u.oneCell' = true) (h63 : n + 1 ≤ maxLen) (hbytes : (n + 1) * bytes ≤ 140737488355328) (hbase : base ≤ w.heap.size)
  (h : ∀ v' w', w'.ownsRow base e 1 v' (n + 1) (xs ++ [u]) → w.grownBy w' v.ownBlock → wpList P ops Q rest (a.put o.dst v') w') : wpList P ops Q (o :: rest) a w := by
 obtain ⟨v', w', hrun, h2, h3, _⟩ := run_append_own (P := P) w base t o.type e i z 1 bytes ht hi hz hsize hby hzs (by omega) v n xs hown ⟨g, 0, none⟩ 1 c [u] rfl
  (by
    intro k y hy
    cases k with
    | zero => simp at hy; subst hy; rw [add_nothing]; exact hc
    | succ k => simp at hy) (by simpa using h1) h63 hbytes hbase
 refine wpList_plain hg fun K hK => ?_
 have hex : (execOp a.eval o).run P w = .ok (.value v') w' := by simp [execOp, hop, resolve, invoke, builtin, hs, hx, hrun, Result.andThen]
 unfold Oper.wp
 rw [hex]
 exact hK _ _ (h v' w' h2 h3)
theorem wpList_app_sl {P : Program} {w : World} {ops : Array Oper} {rest : List Oper} {o : Oper} {a : Act} {Q : Exit → Act → World → Prop}
  (hg : o.guard = none) (s x : Operand) (t : TypeId) (hop : o.op = .call { callee := .builtin .append, args := #[s, x], argTypes := #[t, t] })
  (base : Nat) (e : TypeId) (i : TypeInfo) (z : Value) (size bytes : Nat) (ht : P.underlying t = some (.slice e)) (hi : P.info? e = some i) (hz : i.zero = some z)
  (hsize : i.size = size) (hby : i.bytes = bytes) (hzs : z.cells.size = size) (hsz : 0 < size)
  (v : Value) (n : Nat) (xs : List Value) (hs : a.eval s = v) (hown : w.ownsRow base e size v n xs)
  (A : Option Addr) (m c : Nat) (news : List Value) (hx : a.eval x = .slice A m c) (hr : Sl w A m c size news) (h1 : ∀ u ∈ news, u.oneCell' = true)
  (h63 : n + m ≤ maxLen) (hbytes : (n + m) * bytes ≤ 140737488355328) (hbase : base ≤ w.heap.size)
  (h : ∀ v' w', w'.ownsRow base e size v' (n + m) (xs ++ news) → w.grownBy w' v.ownBlock → wpList P ops Q rest (a.put o.dst v') w') : wpList P ops Q (o :: rest) a w := by
 have key : ∃ v' w', (Builtin.append_ #[t, t] o.type #[v, .slice A m c]).run P w = .ok v' w' ∧ w'.ownsRow base e size v' (n + m) (xs ++ news) ∧ w.grownBy w' v.ownBlock := by
  cases A with
  | none =>
   obtain ⟨rfl, rfl, rfl⟩ := hr.none_len
   exact ⟨v, w, run_append_owned_none (P := P) w base t o.type e i size ht hi v n xs hown, by simpa using hown, World.grownBy.refl w _⟩
  | some ad =>
   obtain ⟨v', w', hrun, h2, h3, _⟩ := run_append_own (P := P) w base t o.type e i z size bytes ht hi hz hsize hby hzs hsz v n xs hown ad m c news hr.len (hr.cell ad rfl) h1 h63 hbytes hbase
   exact ⟨v', w', hrun, h2, h3⟩
 obtain ⟨v', w', hrun, h2, h3⟩ := key
 refine wpList_plain hg fun K hK => ?_
 have hex : (execOp a.eval o).run P w = .ok (.value v') w' := by simp [execOp, hop, resolve, invoke, builtin, hs, hx, hrun, Result.andThen]
 unfold Oper.wp
 rw [hex]
 exact hK _ _ (h v' w' h2 h3)
theorem below_then {a b c : World} (h : Below a.heap.size a b) (k : Below b.heap.size b c) : Below a.heap.size a c := h.trans (k.mono h.size)
theorem below_lit {a b : World} (h : Below a.heap.size a b) (o : Obj) : Below a.heap.size a (b.alloc o) := h.alloc h.size o
theorem below_new (a : World) (o : Obj) : Below a.heap.size a (a.alloc o) := below_lit (Below.refl _ _) o
theorem Sl.new (w : World) (cs : List Value) (t : TypeId) (hm : cs.length ≤ maxLen) : Sl (w.alloc (.cells cs.toArray t)) (some ⟨w.heap.size, 0, none⟩) cs.length cs.length 1 cs := by
 refine ⟨by simp, Nat.le_refl _, hm, by simp, fun ad ha _ => ?_, fun ad ha k u hu => ?_⟩
 ·obtain rfl := Option.some.inj ha
  simp
 ·obtain rfl := Option.some.inj ha
  rw [Addr.add_lit, World.cell?_alloc_at _ _ _ _ rfl]
  simpa using hu
theorem open_i64 {H : Type} {enc : TypeId × Value → H} {W : World} {base : Nat} {v : Value} {d : DataW H} {ps : List MemPlace}
  (hval : Value.okWide Tryz.prog W .any base 3 v) (h : DataW.Trod enc Tryz.prog W 0 (fun _ => true) true 3 v d ps) : ∃ n : Int, v = .int .i64 n ∧ -9223372036854775808 ≤ n ∧ n ≤ 9223372036854775807 := by
 obtain ⟨a, rfl, rfl, rfl, wf⟩ := open_int Tryz.underlying3 hval h
 have hb := bounds_i64 wf
 exact ⟨a, rfl, hb.1, hb.2⟩
theorem Tryz.laidOut : laidOutB Tryz.prog = true := by kernel_rfl
theorem own : ownKnob Tryz.prog.godebug = none := by kernel_rfl
theorem trodAll_below {H : Type} {enc : TypeId × Value → H} {W W' : World} (hb : Below W.heap.size W W') {sp : Nat → Bool} :
  ∀ {ts : List TypeId} {vs : List Value} {ds : List (DataW H)} {ps : List MemPlace}, DataW.TrodAll enc Tryz.prog W 0 (fun _ => true) true ts vs ds ps →
   (∀ t ∈ ts, Tryz.prog.readableRec t = true ∧ t < Tryz.prog.types.size) → (∀ x ∈ ps, x.block < W.heap.size) → (∀ x ∈ ps, sp x.block = true) → DataW.TrodAll enc Tryz.prog W' 0 sp true ts vs ds ps
 | [], _, _, _, h, _, _, _ => by
  obtain ⟨rfl, rfl, rfl⟩ := trodAll_nil h
  exact trodAll_mk0
 | t :: ts, _, _, _, h, ht, hp, hsp => by
  obtain ⟨v, vs1, d, ds1, a, b, rfl, rfl, rfl, h1, h2⟩ := trodAll_cons h
  exact trodAll_cons_mk (WideElems.Trod_stays Tryz.laidOut (ht t (by simp)).1 (ht t (by simp)).2 h1 (fun x hx => hb.same (hp x (by simp [hx]))) (fun x hx => hsp x (by simp [hx])))
   (trodAll_below hb h2 (fun t' ht' => ht t' (by simp [ht'])) (fun x hx => hp x (by simp [hx])) (fun x hx => hsp x (by simp [hx])))
theorem law_post {H : Type} {enc : TypeId × Value → H} {f : Func} {s : ChangeSpec} {W W' : World} {args : Array Value} {ds gs : List (DataW H)} {before : List MemPlace}
  (hres : f.resultTypes = #[4]) (hvars : s.vars = []) (hfn : s.fn H (ds ++ gs) = { results := [.lit (.bool true)], args := ds })
  (hp : ∀ t ∈ f.params.toList, Tryz.prog.readableRec t = true ∧ t < Tryz.prog.types.size)
  (hW : DataW.Whole enc Tryz.prog f.params.toList s.vars false W args.toList ds gs before) (hb : Below W.heap.size W W') :
  s.post enc Tryz.prog f false true false false W args (.bool true) W' := by
 have hlt : ∀ p ∈ before, p.block < W.heap.size := fun p hp => hW.lt p hp
 have hold : ∀ p ∈ before, (fun b => decide (b < W.heap.size)) p.block = true := fun p hp => by simpa using hlt p hp
 have hW' := hW
 obtain ⟨p, q, hA, hV, rfl, hz, hn⟩ := hW
 rw [hvars] at hV
 obtain ⟨rfl, rfl⟩ := trodVars_none hV
 simp only [List.append_nil] at hlt hold hz hn hW'
 have hargs : ∀ sp : Nat → Bool, (∀ x ∈ p, sp x.block = true) → DataW.TrodAll enc Tryz.prog W' 0 sp true f.params.toList args.toList ds p := fun sp hsp => trodAll_below hb hA hp hlt hsp
 have hr : ∀ (b : Nat) (sp : Nat → Bool) (hd : Bool), DataW.TrodAll enc Tryz.prog W' b sp hd f.resultTypes.toList ((Value.bool true).resultList f.resultTypes.size) [.lit (.bool true)] [] := by
  intro b sp hd
  rw [hres]
  exact trodAll_cons_mk (shut_bool Tryz.underlying4 _) trodAll_mk0
 have hvv : ∀ sp : Nat → Bool, DataW.TrodVars enc Tryz.prog W' sp s.vars ({ results := [.lit (.bool true)], args := ds } : Left H).vars [] := by
  intro sp
  rw [hvars]
  rfl
 refine ⟨ds, [], p, [], p, [], hW', by rw [hfn]; exact hr _ _ _, by rw [hfn]; exact hargs _ hold, by rw [hfn]; exact hvv _, World.keptBut_mono (fun x hx => ⟨hx, Or.inr (by simpa using hx)⟩) (hb.frame (· ∈ p)), fun h => by cases h⟩
section
variable {P : Program} {md : Region.Mode} {ops : Array Oper} {S : World → Prop} {Q : Exit → Act → World → Prop}
theorem tk (i : Nat) {oi : Oper} {v : Value} {fuel : Nat} {listed : Array Bool} {a : Act} {w : World} (h : wpAnyH P md ops Q S fuel (listed.setIfInBounds i true) (a.put oi.dst v) w) (hi : ops[i]? = some oi := by rfl) (hb : (Region.noSelect ops && Region.free md ops listed i && (Region.ready md ops listed).contains i) = true := by kernel_rfl)
    (hQ : ∀ c a w, Q (.panic c) (a.put oi.dst v) w → Q (.panic c) a w := by exact fun _ _ _ h => h) (hw : Region.wanted oi (yielded ops a.tmps) = true := by rfl) (hy : ∀ w, S w → (execOp a.eval oi).run P w = .ok (.value v) w := by (intro w hSw; (try dsimp only at hSw); go_simp; all_goals with_reducible rfl)) (hS : S w := by assumption) : wpAnyH P md ops Q S (fuel + 1) listed a w := by
  simp only [Bool.and_eq_true] at hb
  exact wpAnyH_take hi hb.1.1 hb.1.2 hb.2 hQ (.inl ⟨hw, hy⟩) hS h
theorem tkn (i : Nat) {oi : Oper} {fuel : Nat} {listed : Array Bool} {a : Act} {w : World} (h : wpAnyH P md ops Q S fuel (listed.setIfInBounds i true) (a.put oi.dst undef) w) (hi : ops[i]? = some oi := by rfl) (hb : (Region.noSelect ops && Region.free md ops listed i && (Region.ready md ops listed).contains i) = true := by kernel_rfl)
    (hQ : ∀ c a w, Q (.panic c) (a.put oi.dst undef) w → Q (.panic c) a w := by exact fun _ _ _ h => h) (hw : Region.wanted oi (yielded ops a.tmps) = false := by rfl) (hS : S w := by assumption) : wpAnyH P md ops Q S (fuel + 1) listed a w := by
  simp only [Bool.and_eq_true] at hb
  exact wpAnyH_take hi hb.1.1 hb.1.2 hb.2 hQ (.inr ⟨hw, rfl⟩) hS h
end
end Go.Proofs.YtckcojkpghiclaaGreatDoor
/-
 Slices of bytes that read as lists of bytes.
-/
namespace Go.Proofs.YtckcojkpghiclaaGreatDoor
set_option maxRecDepth 100000
open Go.ChangeShapes Go.WideShapes Go.ChangeAt Go.RowKit
def BV (b : UInt8) : Value := .int .u8 (b.toNat : Int)
def bs (l : List UInt8) : List Value := l.map BV
theorem bs_length (a : List UInt8) : (bs a).length = a.length := by simp [bs]
theorem bs_get (a : List UInt8) (k : Nat) : (bs a)[k]? = a[k]?.map BV := by simp [bs]
theorem bs_one (a : List UInt8) : ∀ u ∈ bs a, u.oneCell' = true := by
 intro u hu
 obtain ⟨b, _, rfl⟩ := List.mem_map.1 hu
 rfl
def SlB (w : World) (A : Option Addr) (c : Nat) (l : List UInt8) : Prop := Sl w A l.length c 1 (bs l)
theorem SlB.on {w w' : World} {A : Option Addr} {c : Nat} {l : List UInt8} (h : SlB w A c l) (hb : Below w.heap.size w w') : SlB w' A c l := Sl.on h hb
theorem SlB.lit {w : World} {A : Option Addr} {c : Nat} {l : List UInt8} (h : SlB w A c l) (o : Obj) : SlB (w.alloc o) A c l := h.on (below_new w o)
theorem SlB.le {w : World} {A : Option Addr} {c : Nat} {l : List UInt8} (h : SlB w A c l) : l.length ≤ c := Sl.le h
theorem SlB.at_ {w : World} {A : Option Addr} {c : Nat} {l : List UInt8} (h : SlB w A c l) {k : Nat} (hk : k < l.length) : ∃ ad b, A = some ad ∧ ad.block < w.heap.size ∧ l[k]? = some b ∧ w.cell? (ad.add k) = some (.int .u8 (b.toNat : Int)) := by
 obtain ⟨ad, rfl, hb, hcell⟩ := Sl.there h (by omega)
 exact ⟨ad, l[k], rfl, hb, List.getElem?_eq_getElem hk, hcell k _ (by rw [bs_get, List.getElem?_eq_getElem hk]; rfl)⟩
theorem SlB.of_own {w : World} {base : Nat} {e : TypeId} {v : Value} {l : List UInt8} (h : w.ownsRow base e 1 v l.length (bs l)) : ∃ A c, v = .slice A l.length c ∧ SlB w A c l := Sl.of_own h
theorem SlB.nil (w : World) : SlB w none 0 [] := Sl.nothing w 1
theorem info_u8 : (Tryz.prog.info? 5).map (fun i => (i.zero, i.size, i.bytes)) = some (some (.int .u8 0), 1, 1) := by kernel_rfl
theorem cells_u8 : Tryz.prog.cellsOf 5 = 1 := by kernel_rfl
theorem bs_of_ints (zs : List Int) (h : ∀ n ∈ zs, (Lit.int .u8 n).wf = true) : ∃ l : List UInt8, zs.map (Value.int .u8) = bs l := by
 induction zs with
 | nil => exact ⟨[], rfl⟩
 | cons z zs ih =>
  obtain ⟨l, hl⟩ := ih (fun n hn => h n (by simp [hn]))
  have hb := bounds_u8 (h z (by simp))
  refine ⟨UInt8.ofNat z.toNat :: l, ?_⟩
  simp only [List.map_cons, bs, List.cons.injEq]
  refine ⟨?_, by simpa [bs] using hl⟩
  simp only [BV, Value.int.injEq, true_and]
  rw [UInt8.toNat_ofNat']
  omega
theorem open_bytes {H : Type} {enc : TypeId × Value → H} {W : World} {base : Nat} {v : Value} {d : DataW H} {ps : List MemPlace}
  (hval : Value.okWide Tryz.prog W .any base 26 v) (h : DataW.Trod enc Tryz.prog W 0 (fun _ => true) true 26 v d ps) :
  ∃ (A : Option Addr) (c : Nat) (l : List UInt8), v = .slice A l.length c ∧ SlB W A c l := by
 obtain ⟨a0, len, cap, rfl⟩ := okWide_slice Tryz.underlying26 hval
 obtain ⟨fuel, hf⟩ := h
 rcases open_ints Tryz.underlying26 Tryz.underlying5 cells_u8 hf with ⟨hcs, hx⟩ | ⟨a, len', cap', zs, hcs, _, hl, hm, hz, hx, hcell, hwz⟩
 ·simp [Value.cells] at hcs
  obtain ⟨rfl, rfl, rfl⟩ := hcs
  exact ⟨none, 0, [], rfl, SlB.nil W⟩
 ·simp [Value.cells] at hcs
  obtain ⟨rfl, rfl, rfl⟩ := hcs
  simp only [if_true] at hz
  obtain ⟨l, hl2⟩ := bs_of_ints (zs.take len) (fun n hn => hwz n (List.mem_of_mem_take hn))
  have hlen : l.length = len := by
   have := congrArg List.length hl2
   simp [bs] at this
   omega
  subst hlen
  refine ⟨some a, cap, l, rfl, by simp [bs], hl, hm, by simp, fun ad ha hn => ?_, fun ad ha k u hu => ?_⟩
  ·obtain rfl := Option.some.inj ha
   have hb := World.block_lt_of_cell? W _ (hcell 0 (by omega))
   rwa [add_same_block] at hb
  ·obtain rfl := Option.some.inj ha
   rw [← hl2] at hu
   have hk : k < l.length := by
    have := (List.getElem?_eq_some_iff.1 hu).1
    simp at this
    omega
   rw [hcell k (by omega)]
   rw [List.getElem?_map, List.getElem?_take, if_pos hk] at hu
   obtain ⟨z, hz2, rfl⟩ := Option.map_eq_some_iff.1 hu
   simp [List.getD, hz2]
theorem lit_reads (w : World) (l : List UInt8) (hl : l.length ≤ 100) : SlB (w.alloc (.cells (bs l).toArray 5)) (some ⟨w.heap.size, 0, none⟩) l.length l := by
 have h := Sl.new w (bs l) 5 (by rw [bs_length]; unfold maxLen; omega)
 rw [bs_length] at h
 exact h
end Go.Proofs.YtckcojkpghiclaaGreatDoor
/-
  Numbers of a variable length, as plain functions.
-/
namespace Go.Proofs.YtckcojkpghiclaaGreatDoor
set_option maxRecDepth 100000
def fixn : List UInt8 → Nat
 | [] => 0
 | b :: l => b.toNat + 256 * fixn l
theorem fixn_lt : ∀ l : List UInt8, fixn l < 256 ^ l.length
 | [] => by simp [fixn]
 | b :: l => by
  have := fixn_lt l
  have hb := b.toNat_lt
  simp only [fixn, List.length_cons, Nat.pow_succ]
  omega
theorem fixn_snoc : ∀ (l : List UInt8) (b : UInt8), fixn (l ++ [b]) = fixn l + 256 ^ l.length * b.toNat
 | [], b => by simp [fixn]
 | x :: l, b => by
  simp only [List.cons_append, fixn, fixn_snoc l b, List.length_cons, Nat.pow_succ]
  rw [Nat.mul_add, Nat.mul_comm (256 ^ l.length) 256, Nat.mul_assoc]; omega
def lead : List UInt8 → Nat
 | [] => 0
 | b :: l => if b.toNat < 128 then 0 else lead l + 1
def vnum : List UInt8 → Nat
 | [] => 0
 | b :: l => b.toNat % 128 + 128 * vnum l
def vget (l : List UInt8) : Nat × Nat × Nat :=
 if lead (l.take 10) = 10 then (0, 0, 7)
 else if lead (l.take 10) = l.length then (0, 0, 6)
 else (vnum (l.take (lead (l.take 10) + 1)) % 18446744073709551616, lead (l.take 10) + 1, 0)
theorem lead_le : ∀ l : List UInt8, lead l ≤ l.length
 | [] => by simp [lead]
 | b :: l => by
  have := lead_le l
  unfold lead
  split <;> simp <;> omega
theorem vnum_lt : ∀ l : List UInt8, vnum l < 128 ^ l.length
 | [] => by simp [vnum]
 | b :: l => by
  have := vnum_lt l
  simp only [vnum, List.length_cons, Nat.pow_succ]
  omega
theorem vnum_snoc : ∀ (l : List UInt8) (b : UInt8), vnum (l ++ [b]) = vnum l + 128 ^ l.length * (b.toNat % 128)
 | [], b => by simp [vnum]
 | x :: l, b => by
  simp only [List.cons_append, vnum, vnum_snoc l b, List.length_cons, Nat.pow_succ]
  rw [Nat.mul_add, Nat.mul_comm (128 ^ l.length) 128, Nat.mul_assoc]; omega
theorem lead_at : ∀ (l : List UInt8) (k : Nat) (b : UInt8), (∀ j, j < k → ∃ c, l[j]? = some c ∧ 128 ≤ c.toNat) → l[k]? = some b → b.toNat < 128 → lead l = k
 | [], k, b, _, hb, _ => by simp at hb
 | x :: l, 0, b, _, hb, hlt => by
  simp at hb
  subst hb
  simp [lead, hlt]
 | x :: l, k + 1, b, h, hb, hlt => by
  obtain ⟨c, hc, hge⟩ := h 0 (by omega)
  simp at hc
  subst hc
  have := lead_at l k b (fun j hj => by
   obtain ⟨c, hc, hge⟩ := h (j + 1) (by omega)
   exact ⟨c, by simpa using hc, hge⟩) (by simpa using hb) hlt
  simp only [lead]
  rw [if_neg (by omega), this]
theorem lead_all : ∀ (l : List UInt8), (∀ j, j < l.length → ∃ c, l[j]? = some c ∧ 128 ≤ c.toNat) → lead l = l.length
 | [], _ => rfl
 | x :: l, h => by
  obtain ⟨c, hc, hge⟩ := h 0 (by simp)
  simp at hc
  subst hc
  have := lead_all l (fun j hj => by
   obtain ⟨c, hc, hge⟩ := h (j + 1) (by simp; omega)
   exact ⟨c, by simpa using hc, hge⟩)
  simp only [lead, List.length_cons]
  rw [if_neg (by omega), this]
theorem take_get {l : List UInt8} {n k : Nat} (h : k < n) : (l.take n)[k]? = l[k]? := by rw [List.getElem?_take, if_pos h]
theorem vget_ok {l : List UInt8} {k : Nat} {b : UInt8} (hk : k < 10) (h : ∀ j, j < k → ∃ c, l[j]? = some c ∧ 128 ≤ c.toNat) (hb : l[k]? = some b) (hlt : b.toNat < 128) :
  vget l = (vnum (l.take (k + 1)) % 18446744073709551616, k + 1, 0) := by
 have hl : lead (l.take 10) = k := lead_at _ k b (fun j hj => by rw [take_get (by omega)]; exact h j hj) (by rw [take_get hk]; exact hb) hlt
 have hkl : k < l.length := (List.getElem?_eq_some_iff.1 hb).1
 unfold vget
 rw [hl, if_neg (by omega), if_neg (by omega)]
theorem vget_long {l : List UInt8} (hl : 10 ≤ l.length) (h : ∀ j, j < 10 → ∃ c, l[j]? = some c ∧ 128 ≤ c.toNat) : vget l = (0, 0, 7) := by
 have hk : lead (l.take 10) = (l.take 10).length := lead_all _ (fun j hj => by
  have : j < 10 := by simp at hj; omega
  rw [take_get this]; exact h j this)
 unfold vget
 rw [hk, List.length_take, if_pos (by omega)]
theorem vget_cut {l : List UInt8} (hl : l.length < 10) (h : ∀ j, j < l.length → ∃ c, l[j]? = some c ∧ 128 ≤ c.toNat) : vget l = (0, 0, 6) := by
 have hk : lead (l.take 10) = l.length := by rw [List.take_of_length_le (by omega)]; exact lead_all _ h
 unfold vget
 rw [hk, if_neg (by omega), if_pos rfl]
theorem vget_lt (l : List UInt8) : (vget l).1 < 18446744073709551616 := by
 unfold vget
 split
 ·decide
 ·split
  ·decide
  ·exact Nat.mod_lt _ (by decide)
def getS (l : List UInt8) (a u : Nat) : Nat × Nat × Nat :=
 ((vget ((l.drop a).take (u - a))).1, (if (vget ((l.drop a).take (u - a))).2.2 = 0 then a + (vget ((l.drop a).take (u - a))).2.1 else 0), (vget ((l.drop a).take (u - a))).2.2)
theorem or_shift (x j b : Nat) (hx : x < 2 ^ j) (hj : j ≤ 64) : (x ||| (b * 2 ^ j) % 2 ^ 64) = (x + b * 2 ^ j) % 2 ^ 64 := by
 have h1 : (b * 2 ^ j) % 2 ^ 64 = (b % 2 ^ (64 - j)) * 2 ^ j := by
  rw [show (2 : Nat) ^ 64 = 2 ^ (64 - j) * 2 ^ j by rw [← Nat.pow_add]; congr 1; omega, Nat.mul_mod_mul_right]
 have h2 : (b % 2 ^ (64 - j)) * 2 ^ j + x = (b % 2 ^ (64 - j)) <<< j ||| x := by
  rw [← Nat.shiftLeft_add_eq_or_of_lt hx, Nat.shiftLeft_eq]
 have h3 : (b % 2 ^ (64 - j)) * 2 ^ j + x < 2 ^ 64 := by
  have ha : b % 2 ^ (64 - j) < 2 ^ (64 - j) := Nat.mod_lt _ (Nat.pow_pos (by decide))
  have hb : (b % 2 ^ (64 - j) + 1) * 2 ^ j ≤ 2 ^ (64 - j) * 2 ^ j := Nat.mul_le_mul_right _ ha
  rw [← Nat.pow_add, show 64 - j + j = 64 by omega, Nat.add_mul, Nat.one_mul] at hb
  omega
 have h4 : (x + b * 2 ^ j) % 2 ^ 64 = ((b * 2 ^ j) % 2 ^ 64 + x) % 2 ^ 64 := by rw [Nat.add_comm, Nat.mod_add_mod]
 rw [h4, h1, Nat.mod_eq_of_lt h3, Nat.or_comm, h2, Nat.shiftLeft_eq]
end Go.Proofs.YtckcojkpghiclaaGreatDoor
/-
 The contracts of the functions that put a number into bytes of seven bits.
-/
namespace Go.Proofs.YtckcojkpghiclaaGreatDoor
set_option maxRecDepth 100000
open Go.RowKit
end Go.Proofs.YtckcojkpghiclaaGreatDoor
/-
 The contracts of the small tests: places that may be, sizes that there are.
-/
namespace Go.Proofs.YtckcojkpghiclaaGreatDoor
set_option maxRecDepth 100000
open Go.RowKit
def mayB (at' upto : Int) (n : Nat) : Bool := decide (0 ≤ at' ∧ at' ≤ upto ∧ upto ≤ n)
theorem mayB_true {a u : Int} {n : Nat} : mayB a u n = true ↔ 0 ≤ a ∧ a ≤ u ∧ u ≤ n := by simp [mayB]
def sizeB (s : Int) : Bool := decide (s = 4 ∨ s = 8)
theorem mayBe_any (A : Option Addr) (n c : Nat) (a u : Int) (w : World) (hn : n ≤ 9223372036854775807) :
  Calls Tryz.prog 154 #[.slice A n c, .int .i64 a, .int .i64 u] w fun e w' => e = .returned (.bool (mayB a u n)) ∧ w = w' := by
 by_cases h0 : 0 ≤ a
 ·by_cases h1 : a ≤ u
  ·by_cases h2 : u ≤ n
   all_goals
    have HF : Hid (mayB a u n = decide (u ≤ n)) := Lib.hid (by simp [mayB, h0, h1])
    go_enter Tryz.func154, Tryz.ntmps154
    go_wp2
    go_ret
    exact ⟨by rw [HF.out]; simp [h0, h1, h2], rfl⟩
  ·have HF : Hid (mayB a u n = false) := Lib.hid (by simp [mayB, h0, h1])
   go_enter Tryz.func154, Tryz.ntmps154
   go_wp2
   go_ret
   exact ⟨by rw [HF.out]; simp [h0, h1], rfl⟩
 ·have HF : Hid (mayB a u n = false) := Lib.hid (by simp [mayB, h0])
  go_enter Tryz.func154, Tryz.ntmps154
  go_wp2
  go_ret
  exact ⟨by rw [HF.out]; simp [h0], rfl⟩
end Go.Proofs.YtckcojkpghiclaaGreatDoor
/-
 The contracts of the functions that get a number out of bytes of seven bits.
-/
namespace Go.Proofs.YtckcojkpghiclaaGreatDoor
set_option maxRecDepth 100000
open Go.RowKit
theorem ofNat_pow2 (b j : Nat) : (b : Int) * 2 ^ j = ((b * 2 ^ j : Nat) : Int) := by push_cast; rfl
theorem or_wrap (x j b : Nat) (hx : x < 2 ^ j) (hj : j ≤ 64) (hx64 : x < 18446744073709551616) :
  bits .or .u64 (x : Int) (IntKind.u64.wrap ((b : Int) * 2 ^ j)) = (((x + b * 2 ^ j) % 18446744073709551616 : Nat) : Int) := by
 have e : IntKind.u64.wrap ((b : Int) * 2 ^ j) = (((b * 2 ^ j) % 18446744073709551616 : Nat) : Int) := by
  rw [IntKind.wrap_u64, ofNat_pow2]; exact (Int.natCast_emod _ _).symm
 rw [e, u64_or_nat _ _ hx64 (Nat.mod_lt _ (by decide))]
 congr 1
 exact or_shift x j b hx hj
def GetRel (l : List UInt8) (a u : Nat) (n i : Value) : Prop :=
 ∃ k : Nat, i = .int .i64 k ∧ k ≤ u - a ∧ k ≤ 10 ∧ n = .int .u64 ((vnum (((l.drop a).take (u - a)).take k) % 18446744073709551616 : Nat) : Int) ∧
  (∀ j, j < k → ∃ c, ((l.drop a).take (u - a))[j]? = some c ∧ 128 ≤ c.toNat)
set_option maxRecDepth 1000000 in
theorem get_yes (A : Option Addr) (c : Nat) (l : List UInt8) (a u : Nat) (hau : a ≤ u) (hu : u ≤ l.length) (hl : l.length ≤ 1000000000) (w : World) (h1 : SlB w A c l) :
  Calls Tryz.prog 113 #[.slice A l.length c, .int .i64 a, .int .i64 u] w fun e w' =>
   e = .returned (.tuple #[.int .u64 (getS l a u).1, .int .i64 (getS l a u).2.1, .int .i64 (getS l a u).2.2]) ∧ w = w' := by
 have hmay : mayB a u l.length = true := by rw [mayB_true]; omega
 have hmin : ((u : Int) - (a : Int)) = ((u - a : Nat) : Int) := by omega
 by_cases h10 : 10 < u - a
 all_goals
  go_enter Tryz.func113, Tryz.ntmps113
  go_wp2_with (go_at_call 154; refine (mayBe_any _ _ _ _ _ _ (by omega)).mono ?_; rintro e w' ⟨rfl, rfl⟩)
  have HM := Lib.hid hmin
  clear hmin
  go_loop [9, 21] (fun n i => GetRel l a u n i) (fun _ i => 10 - (intOf i).toNat)
  case atStart => exact ⟨0, rfl, by omega, by omega, rfl, by omega⟩
  case round =>
   obtain ⟨k, rfl, hk, hk10, rfl, hall⟩ := hrel
   have HA := Lib.hid hall
   clear hall
   by_cases hlt : k < min (u - a) 10
   ·have hlt1 : k < u - a := by omega
    have hlt2 : k < 10 := by omega
    obtain ⟨ad, b, rfl, _, hb, hc⟩ := h1.at_ (k := a + k) (by omega)
    have hb' : ((l.drop a).take (u - a))[k]? = some b := by rw [List.getElem?_take, if_pos hlt1, List.getElem?_drop]; exact hb
    have hsn : ((l.drop a).take (u - a)).take (k + 1) = ((l.drop a).take (u - a)).take k ++ [b] := by rw [List.take_add_one, hb']; rfl
    have hvl := vnum_lt (((l.drop a).take (u - a)).take k)
    have hlen : (((l.drop a).take (u - a)).take k).length = k := by simp; omega
    have hvn := vnum_snoc (((l.drop a).take (u - a)).take k) b
    rw [← hsn, hlen] at hvn
    rw [hlen] at hvl
    have hk9 : (128 : Nat) ^ k ≤ 128 ^ 9 := Nat.pow_le_pow_right (by omega) (by omega)
    rw [Nat.mod_eq_of_lt (show vnum (((l.drop a).take (u - a)).take k) < 18446744073709551616 by omega)]
    have hor := or_wrap (vnum (((l.drop a).take (u - a)).take k)) (7 * k) (b.toNat % 128) (by rw [Nat.pow_mul]; exact hvl) (by omega) (by omega)
    rw [show vnum (((l.drop a).take (u - a)).take k) + b.toNat % 128 * 2 ^ (7 * k) = vnum (((l.drop a).take (u - a)).take (k + 1)) by rw [hvn, Nat.pow_mul, Nat.mul_comm]] at hor
    rw [show ((b.toNat % 128 : Nat) : Int) = (b.toNat : Int) % 128 by omega] at hor
    have HO := Lib.hid hor
    have HB := Lib.hid hb'
    have hbl := b.toNat_lt
    clear hor hb' hvn hvl hlen hsn hb hk9 h1
    generalize vnum (((l.drop a).take (u - a)).take k) = X at *
    by_cases hb128 : b.toNat < 128
    ·have HV := Lib.hid (vget_ok hlt2 HA.out HB.out hb128)
     go_wp2
     go_ret3
     refine ⟨?_, rfl⟩
     have hv := HV.out
     have ho := HO.out
     unfold getS
     rw [hv]
     exact ret3_int ho (by simp only [if_pos]; omega) rfl
    ·go_wp2
     refine ⟨⟨k + 1, by go_num, by omega, by omega, ?_, ?_⟩, by simp [intOf]; omega⟩
     ·have ho := HO.out
      rw [← ho]
     ·intro j hj
      by_cases hjk : j = k
      ·subst hjk
       exact ⟨b, HB.out, by omega⟩
      ·exact HA.out j (by omega)
   ·have hs : ((l.drop a).take (u - a)).length = u - a := by simp; omega
    by_cases hf : u - a < 10
    ·have HV := Lib.hid (vget_cut (l := (l.drop a).take (u - a)) (by omega) (by rw [hs]; intro j hj; exact HA.out j (by omega)))
     clear h1 hs
     have hd : decide (((u - a : Nat) : Int) < 10) = true := by simp; omega
     have hm := HM.out
     try (exfalso; omega)
     all_goals go_wp2
     all_goals go_ret3
     all_goals exact ⟨by unfold getS; rw [HV.out]; rfl, rfl⟩
    ·have HV := Lib.hid (vget_long (l := (l.drop a).take (u - a)) (by omega) (by intro j hj; exact HA.out j (by omega)))
     clear h1 hs
     have hm := HM.out
     have hd : decide (((u - a : Nat) : Int) < 10) = false := by simp; omega
     go_wp2
     go_ret3
     exact ⟨by unfold getS; rw [HV.out]; rfl, rfl⟩
end Go.Proofs.YtckcojkpghiclaaGreatDoor
/-
 The contract of the document's own way to get a number out of bytes of seven bits.
-/
namespace Go.Proofs.YtckcojkpghiclaaGreatDoor
set_option maxRecDepth 100000
open Go.RowKit
end Go.Proofs.YtckcojkpghiclaaGreatDoor
/-
 The contracts of the functions that get a number of seven bits a byte, at any arguments.
-/
namespace Go.Proofs.YtckcojkpghiclaaGreatDoor
set_option maxRecDepth 100000
open Go.RowKit
def getR (l : List UInt8) (a u : Int) : Nat × Nat × Nat := if mayB a u l.length then getS l a.toNat u.toNat else (0, 0, 1)
def V3 (r : Nat × Nat × Nat) : Value := .tuple #[.int .u64 r.1, .int .i64 r.2.1, .int .i64 r.2.2]
theorem get_any (A : Option Addr) (c : Nat) (l : List UInt8) (a u : Int) (hl : l.length ≤ 1000000000) (w : World) (h1 : SlB w A c l) :
  Calls Tryz.prog 113 #[.slice A l.length c, .int .i64 a, .int .i64 u] w fun e w' => e = .returned (V3 (getR l a u)) ∧ w = w' := by
 by_cases h : mayB a u l.length = true
 ·have h' := mayB_true.1 h
  obtain ⟨an, rfl⟩ := Int.eq_ofNat_of_zero_le h'.1
  obtain ⟨un, rfl⟩ := Int.eq_ofNat_of_zero_le (show 0 ≤ u by omega)
  refine (get_yes A c l an un (by omega) (by omega) hl w h1).mono ?_
  rintro e w' ⟨rfl, rfl⟩
  exact ⟨by unfold getR; rw [if_pos h]; rfl, rfl⟩
 ·have hf : mayB a u l.length = false := by simpa using h
  have HF : Hid (getR l a u = (0, 0, 1)) := Lib.hid (by unfold getR; rw [if_neg h])
  clear h
  go_enter Tryz.func113, Tryz.ntmps113
  go_wp2_with (go_at_call 154; refine (mayBe_any _ _ _ _ _ _ (by omega)).mono ?_; rintro e w' ⟨rfl, rfl⟩)
  go_ret3
  exact ⟨by rw [HF.out]; rfl, rfl⟩
end Go.Proofs.YtckcojkpghiclaaGreatDoor
/-
 The contracts of the functions that put a number into four or eight bytes, and get it.
-/
namespace Go.Proofs.YtckcojkpghiclaaGreatDoor
set_option maxRecDepth 100000
open Go.RowKit
theorem isSize_any (s : Int) (w : World) :
  Calls Tryz.prog 110 #[.int .i64 s] w fun e w' => e = .returned (.bool (sizeB s)) ∧ w = w' := by
 by_cases h4 : s = 4
 ·have h : ((s : Int) == 4) = true := by simp [h4]
  have HF : Hid (sizeB s = true) := Lib.hid (by simp [sizeB, h4])
  clear h4
  go_enter Tryz.func110, Tryz.ntmps110
  go_wp2
  go_ret
  exact ⟨by rw [HF.out]; rfl, rfl⟩
 ·have h : ((s : Int) == 4) = false := by simp [h4]
  by_cases h8 : s = 8
  ·have h' : ((s : Int) == 8) = true := by simp [h8]
   have HF : Hid (sizeB s = true) := Lib.hid (by simp [sizeB, h8])
   clear h4 h8
   go_enter Tryz.func110, Tryz.ntmps110
   go_wp2
   go_ret
   exact ⟨by rw [HF.out]; rfl, rfl⟩
  ·have h' : ((s : Int) == 8) = false := by simp [h8]
   have HF : Hid (sizeB s = false) := Lib.hid (by simp [sizeB, h4, h8])
   clear h4 h8
   go_enter Tryz.func110, Tryz.ntmps110
   go_wp2
   go_ret
   exact ⟨by rw [HF.out]; rfl, rfl⟩
end Go.Proofs.YtckcojkpghiclaaGreatDoor
/-
 The contracts of the functions that get a number out of four or eight bytes; and those that get one, at any places.
-/
namespace Go.Proofs.YtckcojkpghiclaaGreatDoor
set_option maxRecDepth 100000
open Go.RowKit
def unfixS (l : List UInt8) (a u S : Nat) : Nat × Nat × Nat := if u - a < S then (0, 0, 6) else (fixn ((l.drop a).take S), a + S, 0)
def unfixR (l : List UInt8) (a u s : Int) : Nat × Nat × Nat := if mayB a u l.length && sizeB s then unfixS l a.toNat u.toNat s.toNat else (0, 0, 1)
def UnfixRel (l : List UInt8) (a : Nat) (S : Nat) (n i : Value) : Prop :=
 ∃ k : Nat, i = .int .i64 k ∧ k ≤ S ∧ n = .int .u64 ((fixn ((l.drop a).take k) % 18446744073709551616 : Nat) : Int)
theorem fix_lt (l : List UInt8) (a k : Nat) (hk : k ≤ 8) : fixn ((l.drop a).take k) < 18446744073709551616 := by
 have h := fixn_lt ((l.drop a).take k)
 have h2 : (256 : Nat) ^ ((l.drop a).take k).length ≤ 256 ^ 8 := Nat.pow_le_pow_right (by omega) (by simp; omega)
 omega
set_option maxRecDepth 1000000 in
theorem unfix_yes (A : Option Addr) (c : Nat) (l : List UInt8) (a u S : Nat) (hS : S = 4 ∨ S = 8) (hau : a ≤ u) (hu : u ≤ l.length) (hl : l.length ≤ 1000000000) (w : World) (h1 : SlB w A c l) :
  Calls Tryz.prog 112 #[.slice A l.length c, .int .i64 a, .int .i64 u, .int .i64 S] w fun e w' => e = .returned (V3 (unfixS l a u S)) ∧ w = w' := by
 have hmay : mayB a u l.length = true := by rw [mayB_true]; omega
 have hsz : sizeB S = true := by rcases hS with rfl | rfl <;> rfl
 have hS8 : S ≤ 8 := by omega
 by_cases hcut : u - a < S
 ·have HF : Hid (unfixS l a u S = (0, 0, 6)) := Lib.hid (by unfold unfixS; rw [if_pos hcut])
  have hd : (u : Int) - a < S := by omega
  clear hcut
  go_enter Tryz.func112, Tryz.ntmps112
  go_wp2_with (first
   | (go_at_call 154; refine (mayBe_any _ _ _ _ _ _ (by omega)).mono ?_; rintro e w' ⟨rfl, rfl⟩)
   | (go_at_call 110; refine (isSize_any _ _).mono ?_; rintro e w' ⟨rfl, rfl⟩))
  go_ret3
  exact ⟨by rw [HF.out]; rfl, rfl⟩
 ·have HF : Hid (unfixS l a u S = (fixn ((l.drop a).take S), a + S, 0)) := Lib.hid (by unfold unfixS; rw [if_neg hcut])
  have hd : ¬ (u : Int) - a < S := by omega
  have haS : a + S ≤ u := by omega
  clear hcut
  go_enter Tryz.func112, Tryz.ntmps112
  go_wp2_with (first
   | (go_at_call 154; refine (mayBe_any _ _ _ _ _ _ (by omega)).mono ?_; rintro e w' ⟨rfl, rfl⟩)
   | (go_at_call 110; refine (isSize_any _ _).mono ?_; rintro e w' ⟨rfl, rfl⟩))
  go_loop [11, 29] (fun n i => UnfixRel l a S n i) (fun _ i => S - (intOf i).toNat)
  case atStart => exact ⟨0, rfl, by omega, rfl⟩
  case round =>
   obtain ⟨k, rfl, hk, rfl⟩ := hrel
   by_cases hlt : k < S
   ·obtain ⟨ad, b, rfl, _, hb, hc⟩ := h1.at_ (k := a + k) (by omega)
    have hsn : (l.drop a).take (k + 1) = (l.drop a).take k ++ [b] := by rw [List.take_add_one, List.getElem?_drop, hb]; rfl
    have hlen : ((l.drop a).take k).length = k := by simp; omega
    have hvl := fixn_lt ((l.drop a).take k)
    have hvn := fixn_snoc ((l.drop a).take k) b
    rw [← hsn, hlen] at hvn
    rw [hlen, Nat.pow_mul 2 8 k |>.symm] at hvl
    have h64 := fix_lt l a k (by omega)
    rw [Nat.mod_eq_of_lt h64]
    have hor := or_wrap (fixn ((l.drop a).take k)) (8 * k) b.toNat hvl (by omega) h64
    rw [show fixn ((l.drop a).take k) + b.toNat * 2 ^ (8 * k) = fixn ((l.drop a).take (k + 1)) by rw [hvn, Nat.pow_mul, Nat.mul_comm]] at hor
    have HO := Lib.hid hor
    have hbl := b.toNat_lt
    clear hor hvn hvl hlen hsn hb h1
    generalize fixn ((l.drop a).take k) = X at *
    go_wp2
    exact ⟨⟨k + 1, by go_num, by omega, by rw [← HO.out]⟩, by simp [intOf]; omega⟩
   ·obtain rfl : k = S := by omega
    rw [Nat.mod_eq_of_lt (fix_lt l a k hS8)]
    clear h1
    go_wp2
    go_ret3
    exact ⟨by rw [HF.out]; rfl, rfl⟩
theorem unfix_any (A : Option Addr) (c : Nat) (l : List UInt8) (a u s : Int) (hl : l.length ≤ 1000000000) (w : World) (h1 : SlB w A c l) :
  Calls Tryz.prog 112 #[.slice A l.length c, .int .i64 a, .int .i64 u, .int .i64 s] w fun e w' => e = .returned (V3 (unfixR l a u s)) ∧ w = w' := by
 by_cases h : mayB a u l.length = true
 ·by_cases hz : sizeB s = true
  ·have h' := mayB_true.1 h
   have hs : s = 4 ∨ s = 8 := by simpa [sizeB] using hz
   obtain ⟨an, rfl⟩ := Int.eq_ofNat_of_zero_le h'.1
   obtain ⟨un, rfl⟩ := Int.eq_ofNat_of_zero_le (show 0 ≤ u by omega)
   obtain ⟨sn, rfl⟩ := Int.eq_ofNat_of_zero_le (show 0 ≤ s by omega)
   refine (unfix_yes A c l an un sn (by omega) (by omega) (by omega) hl w h1).mono ?_
   rintro e w' ⟨rfl, rfl⟩
   exact ⟨by unfold unfixR; rw [h, hz]; rfl, rfl⟩
  ·have hf : sizeB s = false := by simpa using hz
   have HF : Hid (unfixR l a u s = (0, 0, 1)) := Lib.hid (by unfold unfixR; rw [h, hf]; rfl)
   clear hz
   go_enter Tryz.func112, Tryz.ntmps112
   go_wp2_with (first
    | (go_at_call 154; refine (mayBe_any _ _ _ _ _ _ (by omega)).mono ?_; rintro e w' ⟨rfl, rfl⟩)
    | (go_at_call 110; refine (isSize_any _ _).mono ?_; rintro e w' ⟨rfl, rfl⟩))
   go_ret3
   exact ⟨by rw [HF.out]; rfl, rfl⟩
 ·have hf : mayB a u l.length = false := by simpa using h
  have HF : Hid (unfixR l a u s = (0, 0, 1)) := Lib.hid (by unfold unfixR; rw [hf]; rfl)
  clear h
  go_enter Tryz.func112, Tryz.ntmps112
  go_wp2_with (go_at_call 154; refine (mayBe_any _ _ _ _ _ _ (by omega)).mono ?_; rintro e w' ⟨rfl, rfl⟩)
  go_ret3
  exact ⟨by rw [HF.out]; rfl, rfl⟩
end Go.Proofs.YtckcojkpghiclaaGreatDoor
