/-
 What a law that reads package-level variables needs beyond the rest: the given ties, and the condition on what is laid.
-/
import Derived.Test.YtckcojkpghiclaaGreatDoorCards
import Derived.Test.YtckcojkpghiclaaGreatDoorTie
import Derived.Test.YtckcojkpghiclaaGreatDoorVarUnfix
import Derived.Deep.DeepHandedRow
import Derived.Lib.LaidTab
import Derived.Lay
import Derived.MakeChecks
import Derived.Test.YtckcojkpghiclaaGreatDoorTokBox
import Derived.Stop.LaidErr
import Derived.Deep.Strs
import Derived.Test.YtckcojkpghiclaaGreatDoorDecAw2
import Derived.Test.YtckcojkpghiclaaGreatDoorEncEnt
import Derived.Test.YtckcojkpghiclaaGreatDoorTrAwake
import Derived.Deep.RegionHeld3
import Derived.Test.YtckcojkpghiclaaGreatDoorTrLaw
import Derived.BigQuiet
namespace Go.Proofs.YtckcojkpghiclaaGreatDoor
set_option maxRecDepth 100000
end Go.Proofs.YtckcojkpghiclaaGreatDoor
/-
 From what a row lists to what the contracts ask (where token's tables, strconv's errors and table's two tables are listed).
-/
namespace Go.Proofs.YtckcojkpghiclaaGreatDoor
set_option maxRecDepth 100000
open Go.RowKit
theorem arr_inv {H : Type} {enc : TypeId × Value → H} {P : Program} {w : World} {base : Nat} {sp : Nat → Bool} {held : Bool} {fuel : Nat} {t e : TypeId} {n : Nat} {cs : List Value} {ds : List (DataW H)} {p : List MemPlace}
  (ht : P.underlying t = some (.array n e)) (h : DataW.trod enc P w base sp held fuel t cs = some (.agg ds, p)) : cs.length = P.cellsOf t ∧ ∃ f, ∀ i d, i < n → ds[i]? = some d → ∃ q, DataW.trod enc P w base sp held f e ((cs.drop (i * P.cellsOf e)).take (P.cellsOf e)) = some (d, q) := by
 cases fuel with
 | zero => simp [DataW.trod] at h
 | succ fuel =>
  simp only [DataW.trod, ht] at h
  split at h
  ·rename_i hl
   obtain ⟨xs, hm, hx⟩ := Option.map_eq_some_iff.1 h
   have hxs : xs.map (·.1) = ds := by
    have := congrArg Prod.fst hx
    simpa using this
   refine ⟨by simpa using hl, fuel, fun i d hi hd => ?_⟩
   obtain ⟨b, hb, hf⟩ := Lib.mapM_at hm i i (by simp [hi])
   rw [← hxs, List.getElem?_map, hb] at hd
   simp only [Option.map_some, Option.some.injEq] at hd
   subst hd
   exact ⟨b.2, hf⟩
  ·cases h
section
variable {enc : TypeId × Value → Unit} {W : World} {n : Nat} {q : List MemPlace}
theorem elem_plain {cs : List Value} {x : List UInt8} {k : Int} (h : DataW.trod enc Tryz.prog W 0 (fun _ => true) false n 194 cs = some (.agg [.lit (.string x), .lit (.int .i64 k)], q)) : cs = [.string (txt x), .int .i64 k] := by
 obtain ⟨y0, y1, m, hx, hl, h0, h1⟩ := ChangeShapes.trod_struct2 Tryz.underlying194 h
 have k0 : Tryz.prog.cellsOf 194 = 2 := by kernel_rfl
 rw [k0] at hl
 obtain ⟨c0, c1, rfl⟩ : ∃ a b, cs = [a, b] := match cs, hl with | [a, b], _ => ⟨a, b, rfl⟩
 obtain ⟨s, e0, f0, -⟩ := DataW.trod_string Tryz.underlying9 h0
 obtain ⟨z, e1, f1, -⟩ := DataW.trod_int Tryz.underlying3 h1
 have k1 : Tryz.prog.cellsOf 9 = 1 := by kernel_rfl
 have k2 : Tryz.prog.cellsOf 3 = 1 := by kernel_rfl
 simp only [k1, k2] at e0 e1
 simp at e0 e1
 subst e0 e1 f0 f1
 simp only [Prod.mk.injEq, DataW.agg.injEq, List.cons.injEq, DataW.lit.injEq, Lit.string.injEq, Lit.int.injEq, and_true, true_and] at hx
 obtain ⟨⟨rfl, rfl⟩, -⟩ := hx
 rfl
theorem elem_stance {cs : List Value} {a b c : Bool} (h : DataW.trod enc Tryz.prog W 0 (fun _ => true) false n 248 cs = some (.agg [.lit (.bool a), .lit (.bool b), .lit (.bool c)], q)) : cs = [.bool a, .bool b, .bool c] := by
 obtain ⟨hl, m, hg⟩ := arr_inv Tryz.underlying248 h
 have k0 : Tryz.prog.cellsOf 248 = 3 := by kernel_rfl
 have k1 : Tryz.prog.cellsOf 4 = 1 := by kernel_rfl
 rw [k0] at hl
 rw [k1] at hg
 obtain ⟨c0, c1, c2, rfl⟩ : ∃ a b c, cs = [a, b, c] := match cs, hl with | [a, b, c], _ => ⟨a, b, c, rfl⟩
 obtain ⟨_, h0⟩ := hg 0 _ (by omega) rfl
 obtain ⟨_, h1⟩ := hg 1 _ (by omega) rfl
 obtain ⟨_, h2⟩ := hg 2 _ (by omega) rfl
 obtain ⟨s0, e0, f0⟩ := DataW.trod_bool Tryz.underlying4 h0
 obtain ⟨s1, e1, f1⟩ := DataW.trod_bool Tryz.underlying4 h1
 obtain ⟨s2, e2, f2⟩ := DataW.trod_bool Tryz.underlying4 h2
 simp at e0 e1 e2 f0 f1 f2
 obtain ⟨rfl, -⟩ := f0
 obtain ⟨rfl, -⟩ := f1
 obtain ⟨rfl, -⟩ := f2
 rw [e0, e1, e2]
end
theorem plains_of {W : World} {rest : List (String × DataW Unit)} (h : laidMet Tryz.prog (("truffle/table.plains", Rows.laid_truffle_table_plains) :: rest) W) : TabAt W 0 plainsC := by
 obtain ⟨ps, ⟨g', t', cs, fuel, p, q, hg', ht', hvar, hd, _, _⟩, _⟩ := h
 have hg : Tryz.prog.globalNamed "truffle/table.plains" = some 0 := by kernel_rfl
 have hty : (Tryz.prog.globals[0]?).map (·.type) = some 195 := by kernel_rfl
 obtain rfl := Option.some.inj (hg.symm.trans hg')
 obtain rfl := Option.some.inj (hty.symm.trans ht')
 refine TabAt.of_var hg ?_
 rw [hvar]
 obtain ⟨hl, m, hh⟩ := arr_inv (ds := [.agg [.lit (.string tInt64), .lit (.int .i64 0)], .agg [.lit (.string tSint64), .lit (.int .i64 1)], .agg [.lit (.string tUint32), .lit (.int .i64 2)], .agg [.lit (.string tBool), .lit (.int .i64 3)], .agg [.lit (.string tFixed32), .lit (.int .i64 4)], .agg [.lit (.string tSfixed64), .lit (.int .i64 5)], .agg [.lit (.string tString), .lit (.int .i64 7)], .agg [.lit (.string tBytes), .lit (.int .i64 8)]]) Tryz.underlying195 hd
 have k0 : Tryz.prog.cellsOf 195 = 16 := by kernel_rfl
 have k1 : Tryz.prog.cellsOf 194 = 2 := by kernel_rfl
 rw [k0] at hl
 rw [k1] at hh
 obtain ⟨cs⟩ := cs
 simp only at hl hh
 obtain ⟨c0, c1, c2, c3, c4, c5, c6, c7, c8, c9, c10, c11, c12, c13, c14, c15, rfl⟩ : ∃ a0 a1 a2 a3 a4 a5 a6 a7 a8 a9 a10 a11 a12 a13 a14 a15, cs = [a0, a1, a2, a3, a4, a5, a6, a7, a8, a9, a10, a11, a12, a13, a14, a15] := match cs, hl with | [a0, a1, a2, a3, a4, a5, a6, a7, a8, a9, a10, a11, a12, a13, a14, a15], _ => ⟨a0, a1, a2, a3, a4, a5, a6, a7, a8, a9, a10, a11, a12, a13, a14, a15, rfl⟩
 obtain ⟨_, h0⟩ := hh 0 _ (by omega) rfl
 obtain ⟨_, h1⟩ := hh 1 _ (by omega) rfl
 obtain ⟨_, h2⟩ := hh 2 _ (by omega) rfl
 obtain ⟨_, h3⟩ := hh 3 _ (by omega) rfl
 obtain ⟨_, h4⟩ := hh 4 _ (by omega) rfl
 obtain ⟨_, h5⟩ := hh 5 _ (by omega) rfl
 obtain ⟨_, h6⟩ := hh 6 _ (by omega) rfl
 obtain ⟨_, h7⟩ := hh 7 _ (by omega) rfl
 have e0 := elem_plain h0
 have e1 := elem_plain h1
 have e2 := elem_plain h2
 have e3 := elem_plain h3
 have e4 := elem_plain h4
 have e5 := elem_plain h5
 have e6 := elem_plain h6
 have e7 := elem_plain h7
 simp only [Nat.zero_mul, Nat.one_mul, Nat.reduceMul, List.drop_zero, List.drop_succ_cons, List.take_succ_cons, List.take_zero, List.cons.injEq, and_true] at e0 e1 e2 e3 e4 e5 e6 e7
 obtain ⟨rfl, rfl⟩ := e0
 obtain ⟨rfl, rfl⟩ := e1
 obtain ⟨rfl, rfl⟩ := e2
 obtain ⟨rfl, rfl⟩ := e3
 obtain ⟨rfl, rfl⟩ := e4
 obtain ⟨rfl, rfl⟩ := e5
 obtain ⟨rfl, rfl⟩ := e6
 obtain ⟨rfl, rfl⟩ := e7
 rfl
theorem stances_of {W : World} {rest : List (String × DataW Unit)} (h : laidMet Tryz.prog (("truffle/table.stances", Rows.laid_truffle_table_stances) :: rest) W) : TabAt W 2 stancesC := by
 obtain ⟨ps, ⟨g', t', cs, fuel, p, q, hg', ht', hvar, hd, _, _⟩, _⟩ := h
 have hg : Tryz.prog.globalNamed "truffle/table.stances" = some 2 := by kernel_rfl
 have hty : (Tryz.prog.globals[2]?).map (·.type) = some 249 := by kernel_rfl
 obtain rfl := Option.some.inj (hg.symm.trans hg')
 obtain rfl := Option.some.inj (hty.symm.trans ht')
 refine TabAt.of_var hg ?_
 rw [hvar]
 obtain ⟨hl, m, hh⟩ := arr_inv (ds := [.agg [.lit (.bool false), .lit (.bool false), .lit (.bool false)], .agg [.lit (.bool true), .lit (.bool false), .lit (.bool false)], .agg [.lit (.bool false), .lit (.bool true), .lit (.bool false)], .agg [.lit (.bool false), .lit (.bool false), .lit (.bool true)]]) Tryz.underlying249 hd
 have k0 : Tryz.prog.cellsOf 249 = 12 := by kernel_rfl
 have k1 : Tryz.prog.cellsOf 248 = 3 := by kernel_rfl
 rw [k0] at hl
 rw [k1] at hh
 obtain ⟨cs⟩ := cs
 simp only at hl hh
 obtain ⟨c0, c1, c2, c3, c4, c5, c6, c7, c8, c9, c10, c11, rfl⟩ : ∃ a0 a1 a2 a3 a4 a5 a6 a7 a8 a9 a10 a11, cs = [a0, a1, a2, a3, a4, a5, a6, a7, a8, a9, a10, a11] := match cs, hl with | [a0, a1, a2, a3, a4, a5, a6, a7, a8, a9, a10, a11], _ => ⟨a0, a1, a2, a3, a4, a5, a6, a7, a8, a9, a10, a11, rfl⟩
 obtain ⟨_, h0⟩ := hh 0 _ (by omega) rfl
 obtain ⟨_, h1⟩ := hh 1 _ (by omega) rfl
 obtain ⟨_, h2⟩ := hh 2 _ (by omega) rfl
 obtain ⟨_, h3⟩ := hh 3 _ (by omega) rfl
 have e0 := elem_stance h0
 have e1 := elem_stance h1
 have e2 := elem_stance h2
 have e3 := elem_stance h3
 simp only [Nat.zero_mul, Nat.one_mul, Nat.reduceMul, List.drop_zero, List.drop_succ_cons, List.take_succ_cons, List.take_zero, List.cons.injEq, and_true] at e0 e1 e2 e3
 obtain ⟨rfl, rfl, rfl⟩ := e0
 obtain ⟨rfl, rfl, rfl⟩ := e1
 obtain ⟨rfl, rfl, rfl⟩ := e2
 obtain ⟨rfl, rfl, rfl⟩ := e3
 rfl
end Go.Proofs.YtckcojkpghiclaaGreatDoor
/-
 From what a row lists to what the contracts ask: table's two tables, and tag's.
-/
namespace Go.Proofs.YtckcojkpghiclaaGreatDoor.T12
set_option maxRecDepth 100000
open Go.RowKit
open Go.Proofs.YtckcojkpghiclaaGreatDoor.T9
theorem laid12 {W : World} (h : laidMetH Tryz.prog [("truffle/tag.wires", Rows.laid_truffle_tag_wires), ("truffle/table.plains", Rows.laid_truffle_table_plains), ("truffle/table.stances", Rows.laid_truffle_table_stances)] W) : Tabs W ∧ Wires W := by
 rw [MakeChecks.laidMetH_plain _ _ _ (by kernel_rfl)] at h
 have g : Tryz.prog.globalNamed "truffle/tag.wires" = some 1 := by kernel_rfl
 have ht : (Tryz.prog.globals[1]?).map (·.type) = some 207 := by kernel_rfl
 have c1 : Tryz.prog.cellsOf 207 = 4 := by kernel_rfl
 have c2 : Tryz.prog.cellsOf 3 = 1 := by kernel_rfl
 have hT : Lib.TabIs Tryz.prog W "truffle/tag.wires" .i64 [0, 1, 2, 5] := Lib.tabIs_of_head (rest := _) g ht Tryz.underlying207 Tryz.underlying3 c2 c1 h
 exact ⟨⟨plains_of h.tail, stances_of h.tail.tail⟩, TabAt.of_var g hT⟩
end Go.Proofs.YtckcojkpghiclaaGreatDoor.T12
/-
 What the laws of decode have in common.
-/
namespace Go.Proofs.YtckcojkpghiclaaGreatDoor.T11
set_option maxRecDepth 100000
open Go.RowKit
open Go.Proofs.YtckcojkpghiclaaGreatDoor.T9 Go.Proofs.YtckcojkpghiclaaGreatDoor.T4 Go.Proofs.YtckcojkpghiclaaGreatDoor.T12
theorem laid11 {W : World} (h : laidMetH Tryz.prog [("truffle/tag.wires", Rows.laid_truffle_tag_wires), ("truffle/table.plains", Rows.laid_truffle_table_plains), ("truffle/table.stances", Rows.laid_truffle_table_stances)] W) : Tabs W ∧ Wires W :=
 T12.laid12 h
theorem sat_up {w w' : World} {s : Sc} {vM vE : Value} (h : SAt w.heap.size w s vM vE) (hb : Below w.heap.size w w') : SAt w'.heap.size w' s vM vE := SAt.mono (SAt.lo h hb (Nat.le_refl _)) hb.size
theorem told_is {s : Sc} {m : Int} {l : List UInt8} {X : Mg} (hl : l.length ≤ 10000) (h : toldE s m l = .ok X) : MIn X ∧ X.cnt ≤ 40000 ∧ X.deep ≤ 64 ∧ (mayT s m X && eqB (norB s 64 m X) X) = true := by
 have hv : ScMay s ∧ 0 ≤ m ∧ m < s.M.length := Classical.byContradiction fun h1 => by rw [told_not h1] at h; cases h
 rw [told_of hv] at h
 cases hx : decM s 64 m l (.mk []) with
 | error e => rw [hx] at h; cases h
 | ok x =>
  rw [hx] at h
  obtain rfl := Except.ok.inj h
  obtain ⟨h1, h2, h3, h4, h5⟩ := taken_is hv hl hx
  have g := norB_good (may_keys hv.1) 64
  have h6 := g.is m x h1
  refine ⟨g.in_ _ _ h1 h2, Nat.le_trans (g.cnt _ _ h1) h3, isB_deep hv.1 64 m _ h6, ?_⟩
  rw [g.same m x h1, eqB_yes rfl]
  unfold mayT
  rw [Bool.and_true, Bool.and_eq_true]
  exact ⟨(@decide_eq_true_iff _ (Classical.propDecidable _)).2 hv.1, h6⟩
def codeE : Except Nat Mg → Nat
 | .ok _ => 0
 | .error e => e
theorem dec_code {s : Sc} (vM vE : Value) (m : Int) (A : Option Addr) (c n z : Nat) (l : List UInt8) (w : World) (hn : l.length = n) (hz : codeE (toldE s m l) = z) (hl : n ≤ 10000) (hs : SAt w.heap.size w s vM vE) (hin : ScIn s) (hr : SlB w A c l) (TW : Wires w) (TT : Tabs w) :
  Calls Tryz.prog 14 #[.agg #[vM, vE], .int .i64 m, .slice A n c] w fun e w' => (∃ A n c, e = .returned (.tuple #[.agg #[.slice A n c], .int .i64 z])) ∧ Below w.heap.size w w' := by
 subst hn
 refine (decode_any w.heap.size vM vE m A c l w hl (Nat.le_refl _) hs hin hr TW TT).mono ?_
 rintro e w' ⟨⟨er, h, rfl⟩ | ⟨X, h, A', n', c', rfl, -⟩, hb⟩
 ·rw [h] at hz
  obtain rfl : er = z := hz
  exact ⟨⟨_, _, _, rfl⟩, hb⟩
 ·rw [h] at hz
  obtain rfl : 0 = z := hz
  exact ⟨⟨_, _, _, rfl⟩, hb⟩
theorem own_far11 {w w' : World} {b : Nat} {e : TypeId} {size : Nat} {v : Value} {n : Nat} {xs : List Value} (hr : w.ownsRow b e size v n xs) (hg : w.grownBy w' v.ownBlock) {B : Nat} {cs : Array Value} {t : TypeId} {fr : Nat × Nat} (hb : w.heap[B]? = some (.cells cs t fr)) (ht : t ≠ e) : w'.heap[B]? = some (.cells cs t fr) := by
 refine (hg.block B (Array.getElem?_eq_some_iff.1 hb).1 ?_).trans hb
 rcases hr.2 with ⟨rfl, _⟩ | ⟨g', cap, cur, rfl, _, h2, _⟩
 ·simp [Value.ownBlock]
 ·simp only [Value.ownBlock, ne_eq, Option.some.injEq]
  rintro rfl
  rw [hb] at h2
  simp only [Option.some.injEq, Obj.cells.injEq] at h2
  exact ht h2.2.1
def msgE : Except Nat Mg → Mg
 | .ok X => X
 | .error _ => .mk []
theorem dec_both {s : Sc} (vM vE : Value) (m : Int) (A : Option Addr) (c n z : Nat) (X : Mg) (l : List UInt8) (w : World) (hn : l.length = n) (hz : codeE (toldE s m l) = z) (hX : msgE (toldE s m l) = X) (hl : n ≤ 10000) (hs : SAt w.heap.size w s vM vE) (hin : ScIn s) (hr : SlB w A c l) (TW : Wires w) (TT : Tabs w) :
  Calls Tryz.prog 14 #[.agg #[vM, vE], .int .i64 m, .slice A n c] w fun e w' => (∃ A n c, e = .returned (.tuple #[.agg #[.slice A n c], .int .i64 z]) ∧ T9.MAt (Ow w.heap.size w') 64 X [.slice A n c]) ∧ Below w.heap.size w w' := by
 subst hn
 refine (decode_any w.heap.size vM vE m A c l w hl (Nat.le_refl _) hs hin hr TW TT).mono ?_
 rintro e w' ⟨⟨er, h, rfl⟩ | ⟨Y, h, A', n', c', rfl, hm⟩, hb⟩
 ·rw [h] at hz hX
  obtain rfl : er = z := hz
  obtain rfl : Mg.mk [] = X := hX
  exact ⟨⟨_, _, _, rfl, ⟨_, rfl, [], ⟨World.ownsRow_nil _ _ _ _, Nat.zero_le _⟩, rfl⟩⟩, hb⟩
 ·rw [h] at hz hX
  obtain rfl : 0 = z := hz
  obtain rfl : Y = X := hX
  exact ⟨⟨_, _, _, rfl, hm⟩, hb⟩
end Go.Proofs.YtckcojkpghiclaaGreatDoor.T11
/-
 The document's own comparison of trees (truffleref09.Same, Vals).
-/
namespace Go.Proofs.YtckcojkpghiclaaGreatDoor.T9
set_option maxRecDepth 100000
open Go.RowKit
def RSameH (B d : Nat) : Prop := ∀ (a b : Mg) (u1 u2 : Value) (w : World), B ≤ w.heap.size → MRd B w d a u1 → MRd B w d b u2 → Calls Tryz.prog 20 #[.agg #[u1], .agg #[u2]] w fun e w' => e = .returned (.bool (eqB a b)) ∧ Below w.heap.size w w'
theorem vAt.parts {R : RP} {G : Mg → List Value → Prop} {v : Vl'} {x y z : Value} (h : vAt R G v [x, y, z]) : x = .int .i64 v.n ∧ y = .string (tx v.s) ∧ LsAt R 31 1 G v.M z := by
 obtain ⟨u, hu, hl⟩ := h
 simp only [List.cons.injEq, and_true] at hu
 obtain ⟨rfl, rfl, rfl⟩ := hu
 exact ⟨rfl, rfl, hl⟩
theorem sAt.parts {R : RP} {G : Mg → List Value → Prop} {s : So} {x y z : Value} (h : sAt R G s [x, y, z]) : x = .int .i64 s.no ∧ LsAt R 81 3 (vAt R G) s.K y ∧ LsAt R 81 3 (vAt R G) s.V z := by
 obtain ⟨u1, u2, hu, h1, h2⟩ := h
 simp only [List.cons.injEq, and_true] at hu
 obtain ⟨rfl, rfl, rfl⟩ := hu
 exact ⟨rfl, h1, h2⟩
def Q4 (p q r t : Addr) (a b c d : Value) (w : World) : Prop := w.cell? p = some a ∧ w.cell? q = some b ∧ w.cell? r = some c ∧ w.cell? t = some d
theorem Q4.on {p q r t : Addr} {a b c d : Value} {w w' : World} (h : Q4 p q r t a b c d w) (hb : Below w.heap.size w w') : Q4 p q r t a b c d w' := ⟨cell_on hb h.1, cell_on hb h.2.1, cell_on hb h.2.2.1, cell_on hb h.2.2.2⟩
set_option maxRecDepth 1000000 in
set_option maxHeartbeats 8000000 in
theorem vals_any {B d : Nat} (H : RSameH B d) (l m : List Vl') (u1 u2 : Value) (w : World) (hB : B ≤ w.heap.size) (hl : LsAt (Rd B w) 81 3 (VAt (Rd B w) d) l u1) (hm : LsAt (Rd B w) 81 3 (VAt (Rd B w) d) m u2) :
  Calls Tryz.prog 29 #[u1, u2] w fun e w' => e = .returned (.bool (eqB l m)) ∧ Below w.heap.size w w' := by
 obtain ⟨A1, d1, xs1, rfl, hs1, hb1, hr1, hn1⟩ := hl.open_
 obtain ⟨A2, d2, xs2, rfl, hs2, hb2, hr2, hn2⟩ := hm.open_
 have HS1 := Lib.hid hs1
 have HR1 := Lib.hid hr1
 have HB1 := Lib.hid hb1
 have HS2 := Lib.hid hs2
 have HR2 := Lib.hid hr2
 have HB2 := Lib.hid hb2
 have HH := Lib.hid H
 clear hs1 hr1 hs2 hr2 hl hm hb1 hb2 H
 by_cases hlen : l.length = m.length
 ·have HLEN := Lib.hid hlen
  rw [← hlen]
  clear hlen
  go_enter Tryz.func29, Tryz.ntmps29
  go_wp2
  go_loopw [5, 6, 7] (fun i j r wr => ∃ k : Nat, i = .int .i64 k ∧ k ≤ l.length ∧ l.take k = m.take k ∧ Below w.heap.size w wr) (fun i _ _ _ => l.length - (intOf i).toNat)
  case atStart => exact ⟨0, rfl, by omega, rfl, Below.refl _ _⟩
  case round =>
   obtain ⟨k, rfl, hk, htk, hbw⟩ := hrel
   have HTK := Lib.hid htk
   have HBW := Lib.hid hbw
   clear htk
   by_cases hlt : k < l.length
   ·have hlt2 : k < m.length := by rw [← HLEN.out]; exact hlt
    obtain ⟨a, ha⟩ : ∃ a, l[k]? = some a := ⟨_, List.getElem?_eq_getElem hlt⟩
    obtain ⟨b, hb⟩ : ∃ b, m[k]? = some b := ⟨_, List.getElem?_eq_getElem hlt2⟩
    obtain ⟨ad1, x1, y1, z1, rfl, hg1, hc1, p0, p1, p2⟩ := row3 vAt.len (sl_low HS1.out HB1.out (Lo.below hbw hB)) (HR1.out.imp fun a cs h => VRd.low (Lo.below hbw hB) h) ha
    obtain ⟨ad2, x2, y2, z2, rfl, hg2, hc2, q0, q1, q2⟩ := row3 vAt.len (sl_low HS2.out HB2.out (Lo.below hbw hB)) (HR2.out.imp fun a cs h => VRd.low (Lo.below hbw hB) h) hb
    obtain ⟨rfl, rfl, hla⟩ := hc1.parts
    obtain ⟨rfl, rfl, hlb⟩ := hc2.parts
    obtain ⟨B1, e1, ys1, rfl, hsa, hba, hra, hna⟩ := hla.open_
    obtain ⟨B2, e2, ys2, rfl, hsb, hbb, hrb, hnb⟩ := hlb.open_
    have HSA := Lib.hid hsa
    have HBA := Lib.hid hba
    have HRA := Lib.hid hra
    have HSB := Lib.hid hsb
    have HBB := Lib.hid hbb
    have HRB := Lib.hid hrb
    have HA := Lib.hid ha
    have HBv := Lib.hid hb
    have HNE : Hid (¬ a = b → eqB l m = false) := Lib.hid (fun h => eqB_no (eq_ne_at ha hb h))
    clear hc1 hc2 hla hlb hsa hba hra hsb hbb hrb ha hb hbw hlt2
    by_cases hn : a.n = b.n
    ·have hnq : (a.n != b.n) = false := by simp [hn]
     by_cases hs : a.s = b.s
     ·have hsq : (!((tx a.s).toList == (tx b.s).toList)) = false := by rw [hs, beq_self_eq_true]; rfl
      by_cases hl : a.M.length = b.M.length
      ·have hlq : ((a.M.length : Int) != (b.M.length : Int)) = false := by rw [hl]; exact bne_self_eq_false _
       have HL := Lib.hid hl
       have HN := Lib.hid hn
       have HSs := Lib.hid hs
       clear hn hs hl
       go_wp2_with fail
       go_quiet (fail)
       have hb1 : Below wr.heap.size wr (wr.drewN nq) := below_draws (Below.refl _ _) nq
       have r1 := cell_on hb1 p2
       have r2 := cell_on hb1 q2
       have HBW1 := Lib.hid (HBW.out.trans (hb1.mono HBW.out.size))
       have HBQ := Lib.hid hb1
       obtain ⟨W1, hW1⟩ : ∃ W, W = wr.drewN nq := ⟨_, rfl⟩
       rw [← hW1] at r1 r2 HBW1 HBQ ⊢
       clear p0 p1 p2 q0 q1 q2 hW1 hb1
       go_wp2
       go_loopw [6, 7] (fun j r wx => ∃ t : Nat, j = .int .i64 t ∧ t ≤ a.M.length ∧ a.M.take t = b.M.take t ∧ Below W1.heap.size W1 wx) (fun j _ _ => a.M.length - (intOf j).toNat)
       case atStart => exact ⟨0, rfl, by omega, rfl, Below.refl _ _⟩
       case round =>
        obtain ⟨t, rfl, ht, htt, hbx⟩ := hrel
        have HTT := Lib.hid htt
        have p2 := cell_on hbx r1
        have q2 := cell_on hbx r2
        have HB3 := Lib.hid (HBW1.out.trans (hbx.mono HBW1.out.size))
        clear htt
        by_cases htl : t < a.M.length
        ·have htl2 : t < b.M.length := by have := HL.out; omega
         obtain ⟨x, hx⟩ : ∃ x, a.M[t]? = some x := ⟨_, List.getElem?_eq_getElem htl⟩
         obtain ⟨y, hy⟩ : ∃ y, b.M[t]? = some y := ⟨_, List.getElem?_eq_getElem htl2⟩
         have hlo := Lo.below (HBQ.out.trans (hbx.mono HBQ.out.size)) (Nat.le_trans hB HBW.out.size)
         obtain ⟨am1, ux, rfl, hga1, hcx, c0⟩ := row1 MAt.len (sl_low HSA.out HBA.out hlo) (HRA.out.imp fun a cs h => MRd.low hlo h) hx
         obtain ⟨am2, uy, rfl, hga2, hcy, c1⟩ := row1 MAt.len (sl_low HSB.out HBB.out hlo) (HRB.out.imp fun a cs h => MRd.low hlo h) hy
         have HC := Lib.hid (HH.out x y ux uy wr.drew (Nat.le_trans hB HB3.out.size) (MRd.low (Lo.below (Below.refl _ _).drew (Nat.le_trans hB HB3.out.size)) hcx) (MRd.low (Lo.below (Below.refl _ _).drew (Nat.le_trans hB HB3.out.size)) hcy))
         have HX := Lib.hid hx
         have HY := Lib.hid hy
         have HBX := Lib.hid hbx
         obtain ⟨r, hr⟩ : ∃ r, eqB x y = r := ⟨_, rfl⟩
         rw [hr] at HC
         have HRR := Lib.hid hr
         have hS : Q4 ⟨(ad1.add (k * 3)).block, (ad1.add (k * 3)).off + 2, none⟩ ⟨(ad2.add (k * 3)).block, (ad2.add (k * 3)).off + 2, none⟩ (am1.add t) (am2.add t) (.slice (some am1) a.M.length e1) (.slice (some am2) b.M.length e2) ux uy wr.drew := ⟨p2, q2, c0, c1⟩
         clear hcx hcy hx hy hbx hr hlo
         go_wp2_with fail
         go_region_held3 (fun w' => w'.cell? ⟨(ad1.add (k * 3)).block, (ad1.add (k * 3)).off + 2, none⟩ = some (.slice (some am1) a.M.length e1) ∧ w'.cell? ⟨(ad2.add (k * 3)).block, (ad2.add (k * 3)).off + 2, none⟩ = some (.slice (some am2) b.M.length e2) ∧ w'.cell? (am1.add t) = some ux ∧ w'.cell? (am2.add t) = some uy)
          (first | exact hS | exact hS.on h1 | go_keep)
          ((first
           | (go_at_call 20; refine HC.out.mono ?_; rintro e w9 ⟨rfl, h1⟩)
           | fail))
         have hb9 : Below wr.heap.size wr w9 := (Below.refl _ _).drew.trans h1
         clear p2 q2 c0 c1
         cases r with
         | true =>
          go_wp2
          obtain rfl := eqB_iff.1 HRR.out
          refine ⟨⟨t + 1, ?_, by omega, eq_take_next HX.out HY.out HTT.out, HBX.out.trans (hb9.mono HBX.out.size)⟩, ?_⟩
          ·go_num
          ·simp [intOf]; omega
         | false =>
          go_wp2
          go_ret
          have hne : ¬ a = b := fun e => eq_ne_at HX.out HY.out (eqB_false HRR.out) (by rw [e])
          exact ⟨by rw [HNE.out hne]; rfl, HB3.out.trans (hb9.mono HB3.out.size)⟩
        ·obtain rfl : t = a.M.length := by omega
         have hM : a.M = b.M := by
          have h := HTT.out
          rwa [List.take_length, HL.out, List.take_length] at h
         have hab : a = b := by
          obtain ⟨n1, s1, M1⟩ := a
          obtain ⟨n2, s2, M2⟩ := b
          have h1 := HN.out
          have h2 := HSs.out
          simp only at h1 h2 hM
          rw [h1, h2, hM]
         have HAB := Lib.hid hab
         clear hM hab
         go_wp2
         refine ⟨⟨k + 1, ?_, by omega, eq_take_next HA.out (by rw [HAB.out]; exact HBv.out) HTK.out, HB3.out⟩, ?_⟩
         ·go_num
         ·simp [intOf]; omega
      ·have hlq : ((a.M.length : Int) != (b.M.length : Int)) = true := by rw [bne_iff_ne]; omega
       have he := HNE.out (fun e => hl (by rw [e]))
       clear hn hs hl
       go_wp2_with fail
       go_quiet (fail)
       go_wp2
       go_ret
       exact ⟨by rw [he]; rfl, below_draws HBW.out _⟩
     ·have hsq : (!((tx a.s).toList == (tx b.s).toList)) = true := by
       have h : ((tx a.s).toList == (tx b.s).toList) = false := by
        rw [beq_eq_false_iff_ne, ByteArray.toList_eq, ByteArray.toList_eq, tx_list, tx_list]
        exact hs
       rw [h]; rfl
      have he := HNE.out (fun e => hs (by rw [e]))
      clear hn hs
      go_wp2_with fail
      go_quiet (fail)
      go_wp2
      go_ret
      exact ⟨by rw [he]; rfl, below_draws HBW.out _⟩
    ·have hnq : (a.n != b.n) = true := by simp [hn]
     have he := HNE.out (fun e => hn (by rw [e]))
     clear hn
     go_wp2_with fail
     go_quiet (fail)
     go_wp2
     go_ret
     exact ⟨by rw [he]; rfl, below_draws HBW.out _⟩
   ·obtain rfl : k = l.length := by omega
    have e : l = m := by
     have h := HTK.out
     rwa [List.take_length, HLEN.out, List.take_length] at h
    go_wp2
    go_ret
    exact ⟨by rw [eqB_yes e]; rfl, hbw⟩
 ·have hne : ((l.length : Int) == (m.length : Int)) = false := by rw [beq_eq_false_iff_ne]; omega
  have HE := Lib.hid (eqB_no (fun e : l = m => hlen (by rw [e])))
  go_enter Tryz.func29, Tryz.ntmps29
  go_wp2
  go_ret
  exact ⟨by rw [HE.out]; rfl, Below.refl _ _⟩
theorem eqB_ne {x y : So} {l m : List So} {k : Nat} (hx : l[k]? = some x) (hy : m[k]? = some y) (h : ¬ x = y) : eqB l m = false := eqB_no (eq_ne_at hx hy h)
set_option maxRecDepth 1000000 in
set_option maxHeartbeats 8000000 in
theorem rsame_step {B d : Nat} (H : RSameH B d) : RSameH B (d + 1) := by
 rintro a b u1 u2 w hB ⟨u, hu, hl⟩ ⟨u', hu', hm⟩
 simp only [List.cons.injEq, and_true] at hu hu'
 subst hu hu'
 obtain ⟨A1, d1, xs1, rfl, hs1, hb1, hr1, hn1⟩ := hl.open_
 obtain ⟨A2, d2, xs2, rfl, hs2, hb2, hr2, hn2⟩ := hm.open_
 obtain ⟨X1, X2, LBD⟩ := two_boxes w (.cells #[.slice A1 a.F.length d1] 31) (.cells #[.slice A2 b.F.length d2] 31)
 have HS1 := Lib.hid hs1
 have HR1 := Lib.hid hr1
 have HB1 := Lib.hid hb1
 have HS2 := Lib.hid hs2
 have HR2 := Lib.hid hr2
 have HB2 := Lib.hid hb2
 have HH := Lib.hid H
 rw [eqB_msg]
 clear hs1 hr1 hs2 hr2 hl hm hb1 hb2 H
 by_cases hlen : a.F.length = b.F.length
 ·have HLEN := Lib.hid hlen
  have hlq : ((a.F.length : Int) != (b.F.length : Int)) = false := by rw [hlen]; exact bne_self_eq_false _
  clear hlen
  go_enter Tryz.func20, Tryz.ntmps20
  go_wp2
  obtain ⟨W0, hW0⟩ : ∃ W, W = (w.alloc (.cells #[.slice A1 a.F.length d1] 31)).alloc (.cells #[.slice A2 b.F.length d2] 31) := ⟨_, rfl⟩
  rw [← hW0] at X1 X2 LBD ⊢
  clear hW0
  go_loopw [5, 6, 7] (fun i p q wr => ∃ k : Nat, i = .int .i64 k ∧ k ≤ a.F.length ∧ a.F.take k = b.F.take k ∧ Below W0.heap.size W0 wr) (fun i _ _ _ => a.F.length - (intOf i).toNat)
  case atStart => exact ⟨0, rfl, by omega, rfl, Below.refl _ _⟩
  case round =>
   obtain ⟨k, rfl, hk, htk, hbw⟩ := hrel
   have HTK := Lib.hid htk
   have HBW := Lib.hid (LBD.trans (hbw.mono LBD.size))
   have HBX := Lib.hid hbw
   have g1 := bx1 (box_on X1 hbw)
   have g2 := bx1 (box_on X2 hbw)
   clear htk
   by_cases hlt : k < a.F.length
   ·have hlt2 : k < b.F.length := by rw [← HLEN.out]; exact hlt
    obtain ⟨x, ha⟩ : ∃ x, a.F[k]? = some x := ⟨_, List.getElem?_eq_getElem hlt⟩
    obtain ⟨y, hb⟩ : ∃ x, b.F[k]? = some x := ⟨_, List.getElem?_eq_getElem hlt2⟩
    obtain ⟨ad1, x1, k1, v1, rfl, hg1, hc1, p0, p1, p2⟩ := row3 sAt.len (sl_low HS1.out HB1.out (Lo.below HBW.out hB)) (HR1.out.imp fun a cs h => SRd.low (Lo.below HBW.out hB) h) ha
    obtain ⟨ad2, x2, k2, v2, rfl, hg2, hc2, q0, q1, q2⟩ := row3 sAt.len (sl_low HS2.out HB2.out (Lo.below HBW.out hB)) (HR2.out.imp fun a cs h => SRd.low (Lo.below HBW.out hB) h) hb
    obtain ⟨rfl, hk1, hv1⟩ := hc1.parts
    obtain ⟨rfl, hk2, hv2⟩ := hc2.parts
    have hB2 := Nat.le_trans hB HBW.out.size
    have HK := Lib.hid (fun wx (hx : Below wr.heap.size wr wx) => vals_any HH.out x.K y.K k1 k2 wx (Nat.le_trans hB2 hx.size) (hk1.low (Lo.below hx hB2) fun a cs h => VRd.low (Lo.below hx hB2) h) (hk2.low (Lo.below hx hB2) fun a cs h => VRd.low (Lo.below hx hB2) h))
    have HV := Lib.hid (fun wx (hx : Below wr.heap.size wr wx) => vals_any HH.out x.V y.V v1 v2 wx (Nat.le_trans hB2 hx.size) (hv1.low (Lo.below hx hB2) fun a cs h => VRd.low (Lo.below hx hB2) h) (hv2.low (Lo.below hx hB2) fun a cs h => VRd.low (Lo.below hx hB2) h))
    have HA := Lib.hid ha
    have HBb := Lib.hid hb
    have HEQ := Lib.hid (eqB_slot x y)
    obtain ⟨rk, hrk⟩ : ∃ r, eqB x.K y.K = r := ⟨_, rfl⟩
    obtain ⟨rv, hrv⟩ : ∃ r, eqB x.V y.V = r := ⟨_, rfl⟩
    rw [hrk] at HK HEQ
    rw [hrv] at HV HEQ
    have L0 : Below wr.heap.size wr wr.drew := (Below.refl _ _).drew
    have hS1 : Q4 ⟨w.heap.size, 0, none⟩ ⟨w.heap.size + 1, 0, none⟩ ⟨(ad1.add (k * 3)).block, (ad1.add (k * 3)).off + 1, none⟩ ⟨(ad2.add (k * 3)).block, (ad2.add (k * 3)).off + 1, none⟩ (.slice (some ad1) a.F.length d1) (.slice (some ad2) b.F.length d2) k1 k2 wr.drew := ⟨g1, g2, p1, q1⟩
    clear hc1 hc2 hk1 hv1 hk2 hv2 ha hb hbw hrk hrv hB2
    go_wp2_with fail
    go_region_held3 (fun w' => w'.cell? ⟨w.heap.size, 0, none⟩ = some (.slice (some ad1) a.F.length d1) ∧ w'.cell? ⟨w.heap.size + 1, 0, none⟩ = some (.slice (some ad2) b.F.length d2) ∧ w'.cell? ⟨(ad1.add (k * 3)).block, (ad1.add (k * 3)).off + 1, none⟩ = some k1 ∧ w'.cell? ⟨(ad2.add (k * 3)).block, (ad2.add (k * 3)).off + 1, none⟩ = some k2)
     (first | exact hS1 | exact Q4.on hS1 h6 | go_keep)
     ((first
      | (go_at_call 29; refine (HK.out _ L0).mono ?_; rintro e w6 ⟨rfl, h6⟩)
      | fail))
    have L6 := below_then L0 h6
    have p2' := cell_on L6 p2
    have q2' := cell_on L6 q2
    have g1' := cell_on L6 g1
    have g2' := cell_on L6 g2
    have p0' := cell_on L6 p0
    have q0' := cell_on L6 q0
    have L6d : Below wr.heap.size wr w6.drew := L6.trans (Below.refl _ _).drew
    have hS2 : Q4 ⟨w.heap.size, 0, none⟩ ⟨w.heap.size + 1, 0, none⟩ ⟨(ad1.add (k * 3)).block, (ad1.add (k * 3)).off + 2, none⟩ ⟨(ad2.add (k * 3)).block, (ad2.add (k * 3)).off + 2, none⟩ (.slice (some ad1) a.F.length d1) (.slice (some ad2) b.F.length d2) v1 v2 w6.drew := ⟨g1', g2', p2', q2'⟩
    clear g1 g2 p0 p1 p2 q0 q1 q2 h6 L0
    go_wp2_with fail
    go_region_held3 (fun w' => w'.cell? ⟨w.heap.size, 0, none⟩ = some (.slice (some ad1) a.F.length d1) ∧ w'.cell? ⟨w.heap.size + 1, 0, none⟩ = some (.slice (some ad2) b.F.length d2) ∧ w'.cell? ⟨(ad1.add (k * 3)).block, (ad1.add (k * 3)).off + 2, none⟩ = some v1 ∧ w'.cell? ⟨(ad2.add (k * 3)).block, (ad2.add (k * 3)).off + 2, none⟩ = some v2)
     (first | exact hS2 | exact Q4.on hS2 h7 | go_keep)
     ((first
      | (go_at_call 29; refine (HV.out _ L6d).mono ?_; rintro e w7 ⟨rfl, h7⟩)
      | fail))
    have L7 := below_then L6d h7
    have h67 : Below w6.heap.size w6 w7 := (Below.refl _ _).drew.trans h7
    have p0 := cell_on h67 p0'
    have q0 := cell_on h67 q0'
    have g1 := cell_on h67 g1'
    have g2 := cell_on h67 g2'
    have hlt3 : k < b.F.length := by rw [← HLEN.out]; exact hlt
    clear g1' g2' p0' q0' p2' q2' h7 h67 L6 L6d hS1 hS2
    cases rk with
    | false =>
     go_wp2_with fail
     go_quiet (fail)
     go_wp2
     go_ret
     have he : eqB x y = false := by rw [HEQ.out]; simp
     exact ⟨by rw [eqB_ne HA.out HBb.out (eqB_false he)]; rfl, (HBW.out.trans (L7.mono HBW.out.size)).trans (below_draws (Below.refl _ _) _)⟩
    | true =>
     cases rv with
     | false =>
      go_wp2_with fail
      go_quiet (fail)
      go_wp2
      go_ret
      have he : eqB x y = false := by rw [HEQ.out]; simp
      exact ⟨by rw [eqB_ne HA.out HBb.out (eqB_false he)]; rfl, (HBW.out.trans (L7.mono HBW.out.size)).trans (below_draws (Below.refl _ _) _)⟩
     | true =>
      by_cases hno : x.no = y.no
      ·have hq : (x.no != y.no) = false := by simp [hno]
       have he : eqB x y = true := by rw [HEQ.out]; simp [hno]
       have HE := Lib.hid he
       clear hno he
       go_wp2_with fail
       go_quiet (fail)
       go_wp2
       refine ⟨⟨k + 1, ?_, by omega, eq_take_next HA.out (by rw [eqB_iff.1 HE.out]; exact HBb.out) HTK.out, (HBX.out.trans (L7.mono HBX.out.size)).trans (below_draws (Below.refl _ _) _)⟩, ?_⟩
       ·go_num
       ·simp [intOf]; omega
      ·have hq : (x.no != y.no) = true := by simp [hno]
       have he : eqB x y = false := by rw [HEQ.out]; simp [hno]
       have HE := Lib.hid he
       clear hno he
       go_wp2_with fail
       go_quiet (fail)
       go_wp2
       go_ret
       exact ⟨by rw [eqB_ne HA.out HBb.out (eqB_false HE.out)]; rfl, (HBW.out.trans (L7.mono HBW.out.size)).trans (below_draws (Below.refl _ _) _)⟩
   ·obtain rfl : k = a.F.length := by omega
    have e : a.F = b.F := by
     have h := HTK.out
     rwa [List.take_length, HLEN.out, List.take_length] at h
    have HE := Lib.hid (eqB_yes e)
    clear e
    go_wp2
    go_ret
    exact ⟨by rw [HE.out]; rfl, HBW.out⟩
 ·have hlq : ((a.F.length : Int) != (b.F.length : Int)) = true := by rw [bne_iff_ne]; omega
  have HE := Lib.hid (eqB_no (fun e : a.F = b.F => hlen (by rw [e])))
  clear hlen
  go_enter Tryz.func20, Tryz.ntmps20
  go_wp2
  go_ret
  exact ⟨by rw [HE.out]; rfl, LBD⟩
theorem rsame_any9 (B : Nat) : ∀ d, RSameH B d
 | 0 => fun _ _ _ _ _ _ h _ => h.elim
 | d + 1 => rsame_step (rsame_any9 B d)
end Go.Proofs.YtckcojkpghiclaaGreatDoor.T9
