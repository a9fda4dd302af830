/-
  What a law that reads package-level variables needs beyond the rest: the given ties, and the condition on what is laid.
-/
import Derived.Test.YtipaangiehdgkaaGreatDoorCards
import Derived.Test.YtipaangiehdgkaaGreatDoorTie
import Derived.Test.YtipaangiehdgkaaGreatDoorTrAwake
import Derived.Deep.DeepHandedRow
import Derived.Lib.LaidTab
import Derived.Lay
import Derived.MakeChecks
import Derived.Test.YtipaangiehdgkaaGreatDoorTokMark
import Derived.Stop.LaidErr
import Derived.Deep.Strs
import Derived.Test.YtipaangiehdgkaaGreatDoorEncAw
import Derived.Test.YtipaangiehdgkaaGreatDoorTyRising
import Derived.Test.YtipaangiehdgkaaGreatDoorTokPlaces
import Derived.Test.YtipaangiehdgkaaGreatDoorRecPut
import Derived.BigQuiet
import Derived.RangeFuncNested
import Derived.RangeFuncBound
import Derived.RangeFuncCalls
import Derived.RangeFuncLeaves
import Derived.Shelf.Abstract
import Derived.Shelf.RegionOpen
import Derived.OwnWalkIn
import Derived.TacticsInMore
import Derived.LoopNIn
import Derived.LoopIn
namespace Go.Proofs.YtipaangiehdgkaaGreatDoor
set_option maxRecDepth 100000

end Go.Proofs.YtipaangiehdgkaaGreatDoor
/-
  From what a row lists to what the contracts ask (where token's tables, strconv's errors and table's two tables are listed).
-/
namespace Go.Proofs.YtipaangiehdgkaaGreatDoor
set_option maxRecDepth 100000

open Go.RowKit

theorem arr_inv {H : Type} {enc : TypeId × Value → H} {P : Program} {w : World} {base : Nat} {sp : Nat → Bool} {held : Bool} {fuel : Nat} {t e : TypeId} {n : Nat} {cs : List Value} {ds : List (DataW H)} {p : List MemPlace}
    (ht : P.underlying t = some (.array n e)) (h : DataW.trod enc P w base sp held fuel t cs = some (.agg ds, p)) : cs.length = P.cellsOf t ∧ ∃ f, ∀ i d, i < n → ds[i]? = some d → ∃ q, DataW.trod enc P w base sp held f e ((cs.drop (i * P.cellsOf e)).take (P.cellsOf e)) = some (d, q) := by
  cases fuel with
  | zero => simp [DataW.trod] at h
  | succ fuel =>
    simp only [DataW.trod, ht] at h
    split at h
    · rename_i hl
      obtain ⟨xs, hm, hx⟩ := Option.map_eq_some_iff.1 h
      have hxs : xs.map (·.1) = ds := by
        have := congrArg Prod.fst hx
        simpa using this
      refine ⟨by simpa using hl, fuel, fun i d hi hd => ?_⟩
      obtain ⟨b, hb, hf⟩ := Lib.mapM_at hm i i (by simp [hi])
      rw [← hxs, List.getElem?_map, hb] at hd
      simp only [Option.map_some, Option.some.injEq] at hd
      subst hd
      exact ⟨b.2, hf⟩
    · cases h
section

variable {enc : TypeId × Value → Unit} {W : World} {n : Nat} {q : List MemPlace}

theorem elem_plain {cs : List Value} {x : List UInt8} {k : Int} (h : DataW.trod enc Tryz.prog W 0 (fun _ => true) false n 173 cs = some (.agg [.lit (.string x), .lit (.int .i64 k)], q)) : cs = [.string (txt x), .int .i64 k] := by
  obtain ⟨y0, y1, m, hx, hl, h0, h1⟩ := ChangeShapes.trod_struct2 Tryz.underlying173 h
  have k0 : Tryz.prog.cellsOf 173 = 2 := by kernel_rfl
  rw [k0] at hl
  obtain ⟨c0, c1, rfl⟩ : ∃ a b, cs = [a, b] := match cs, hl with | [a, b], _ => ⟨a, b, rfl⟩
  obtain ⟨s, e0, f0, -⟩ := DataW.trod_string Tryz.underlying9 h0
  obtain ⟨z, e1, f1, -⟩ := DataW.trod_int Tryz.underlying3 h1
  have k1 : Tryz.prog.cellsOf 9 = 1 := by kernel_rfl
  have k2 : Tryz.prog.cellsOf 3 = 1 := by kernel_rfl
  simp only [k1, k2] at e0 e1
  simp at e0 e1
  subst e0 e1 f0 f1
  simp only [Prod.mk.injEq, DataW.agg.injEq, List.cons.injEq, DataW.lit.injEq, Lit.string.injEq, Lit.int.injEq, and_true, true_and] at hx
  obtain ⟨⟨rfl, rfl⟩, -⟩ := hx
  rfl
theorem elem_stance {cs : List Value} {a b c : Bool} (h : DataW.trod enc Tryz.prog W 0 (fun _ => true) false n 232 cs = some (.agg [.lit (.bool a), .lit (.bool b), .lit (.bool c)], q)) : cs = [.bool a, .bool b, .bool c] := by
  obtain ⟨hl, m, hg⟩ := arr_inv Tryz.underlying232 h
  have k0 : Tryz.prog.cellsOf 232 = 3 := by kernel_rfl
  have k1 : Tryz.prog.cellsOf 4 = 1 := by kernel_rfl
  rw [k0] at hl
  rw [k1] at hg
  obtain ⟨c0, c1, c2, rfl⟩ : ∃ a b c, cs = [a, b, c] := match cs, hl with | [a, b, c], _ => ⟨a, b, c, rfl⟩
  obtain ⟨_, h0⟩ := hg 0 _ (by omega) rfl
  obtain ⟨_, h1⟩ := hg 1 _ (by omega) rfl
  obtain ⟨_, h2⟩ := hg 2 _ (by omega) rfl
  obtain ⟨s0, e0, f0⟩ := DataW.trod_bool Tryz.underlying4 h0
  obtain ⟨s1, e1, f1⟩ := DataW.trod_bool Tryz.underlying4 h1
  obtain ⟨s2, e2, f2⟩ := DataW.trod_bool Tryz.underlying4 h2
  simp at e0 e1 e2 f0 f1 f2
  obtain ⟨rfl, -⟩ := f0
  obtain ⟨rfl, -⟩ := f1
  obtain ⟨rfl, -⟩ := f2
  rw [e0, e1, e2]
end

theorem plains_of {W : World} {rest : List (String × DataW Unit)} (h : laidMet Tryz.prog (("truffle/table.plains", Rows.laid_truffle_table_plains) :: rest) W) : TabAt W 0 plainsC := by
  obtain ⟨ps, ⟨g', t', cs, fuel, p, q, hg', ht', hvar, hd, _, _⟩, _⟩ := h
  have hg : Tryz.prog.globalNamed "truffle/table.plains" = some 0 := by kernel_rfl
  have hty : (Tryz.prog.globals[0]?).map (·.type) = some 174 := by kernel_rfl
  obtain rfl := Option.some.inj (hg.symm.trans hg')
  obtain rfl := Option.some.inj (hty.symm.trans ht')
  refine TabAt.of_var hg ?_
  rw [hvar]
  obtain ⟨hl, m, hh⟩ := arr_inv (ds := [.agg [.lit (.string tInt64), .lit (.int .i64 0)], .agg [.lit (.string tSint64), .lit (.int .i64 1)], .agg [.lit (.string tUint32), .lit (.int .i64 2)], .agg [.lit (.string tBool), .lit (.int .i64 3)], .agg [.lit (.string tFixed32), .lit (.int .i64 4)], .agg [.lit (.string tSfixed64), .lit (.int .i64 5)], .agg [.lit (.string tString), .lit (.int .i64 7)], .agg [.lit (.string tBytes), .lit (.int .i64 8)]]) Tryz.underlying174 hd
  have k0 : Tryz.prog.cellsOf 174 = 16 := by kernel_rfl
  have k1 : Tryz.prog.cellsOf 173 = 2 := by kernel_rfl
  rw [k0] at hl
  rw [k1] at hh
  obtain ⟨cs⟩ := cs
  simp only at hl hh
  obtain ⟨c0, c1, c2, c3, c4, c5, c6, c7, c8, c9, c10, c11, c12, c13, c14, c15, rfl⟩ : ∃ a0 a1 a2 a3 a4 a5 a6 a7 a8 a9 a10 a11 a12 a13 a14 a15, cs = [a0, a1, a2, a3, a4, a5, a6, a7, a8, a9, a10, a11, a12, a13, a14, a15] := match cs, hl with | [a0, a1, a2, a3, a4, a5, a6, a7, a8, a9, a10, a11, a12, a13, a14, a15], _ => ⟨a0, a1, a2, a3, a4, a5, a6, a7, a8, a9, a10, a11, a12, a13, a14, a15, rfl⟩
  obtain ⟨_, h0⟩ := hh 0 _ (by omega) rfl
  obtain ⟨_, h1⟩ := hh 1 _ (by omega) rfl
  obtain ⟨_, h2⟩ := hh 2 _ (by omega) rfl
  obtain ⟨_, h3⟩ := hh 3 _ (by omega) rfl
  obtain ⟨_, h4⟩ := hh 4 _ (by omega) rfl
  obtain ⟨_, h5⟩ := hh 5 _ (by omega) rfl
  obtain ⟨_, h6⟩ := hh 6 _ (by omega) rfl
  obtain ⟨_, h7⟩ := hh 7 _ (by omega) rfl
  have e0 := elem_plain h0
  have e1 := elem_plain h1
  have e2 := elem_plain h2
  have e3 := elem_plain h3
  have e4 := elem_plain h4
  have e5 := elem_plain h5
  have e6 := elem_plain h6
  have e7 := elem_plain h7
  simp only [Nat.zero_mul, Nat.one_mul, Nat.reduceMul, List.drop_zero, List.drop_succ_cons, List.take_succ_cons, List.take_zero, List.cons.injEq, and_true] at e0 e1 e2 e3 e4 e5 e6 e7
  obtain ⟨rfl, rfl⟩ := e0
  obtain ⟨rfl, rfl⟩ := e1
  obtain ⟨rfl, rfl⟩ := e2
  obtain ⟨rfl, rfl⟩ := e3
  obtain ⟨rfl, rfl⟩ := e4
  obtain ⟨rfl, rfl⟩ := e5
  obtain ⟨rfl, rfl⟩ := e6
  obtain ⟨rfl, rfl⟩ := e7
  rfl
theorem stances_of {W : World} {rest : List (String × DataW Unit)} (h : laidMet Tryz.prog (("truffle/table.stances", Rows.laid_truffle_table_stances) :: rest) W) : TabAt W 1 stancesC := by
  obtain ⟨ps, ⟨g', t', cs, fuel, p, q, hg', ht', hvar, hd, _, _⟩, _⟩ := h
  have hg : Tryz.prog.globalNamed "truffle/table.stances" = some 1 := by kernel_rfl
  have hty : (Tryz.prog.globals[1]?).map (·.type) = some 233 := by kernel_rfl
  obtain rfl := Option.some.inj (hg.symm.trans hg')
  obtain rfl := Option.some.inj (hty.symm.trans ht')
  refine TabAt.of_var hg ?_
  rw [hvar]
  obtain ⟨hl, m, hh⟩ := arr_inv (ds := [.agg [.lit (.bool false), .lit (.bool false), .lit (.bool false)], .agg [.lit (.bool true), .lit (.bool false), .lit (.bool false)], .agg [.lit (.bool false), .lit (.bool true), .lit (.bool false)], .agg [.lit (.bool false), .lit (.bool false), .lit (.bool true)]]) Tryz.underlying233 hd
  have k0 : Tryz.prog.cellsOf 233 = 12 := by kernel_rfl
  have k1 : Tryz.prog.cellsOf 232 = 3 := by kernel_rfl
  rw [k0] at hl
  rw [k1] at hh
  obtain ⟨cs⟩ := cs
  simp only at hl hh
  obtain ⟨c0, c1, c2, c3, c4, c5, c6, c7, c8, c9, c10, c11, rfl⟩ : ∃ a0 a1 a2 a3 a4 a5 a6 a7 a8 a9 a10 a11, cs = [a0, a1, a2, a3, a4, a5, a6, a7, a8, a9, a10, a11] := match cs, hl with | [a0, a1, a2, a3, a4, a5, a6, a7, a8, a9, a10, a11], _ => ⟨a0, a1, a2, a3, a4, a5, a6, a7, a8, a9, a10, a11, rfl⟩
  obtain ⟨_, h0⟩ := hh 0 _ (by omega) rfl
  obtain ⟨_, h1⟩ := hh 1 _ (by omega) rfl
  obtain ⟨_, h2⟩ := hh 2 _ (by omega) rfl
  obtain ⟨_, h3⟩ := hh 3 _ (by omega) rfl
  have e0 := elem_stance h0
  have e1 := elem_stance h1
  have e2 := elem_stance h2
  have e3 := elem_stance h3
  simp only [Nat.zero_mul, Nat.one_mul, Nat.reduceMul, List.drop_zero, List.drop_succ_cons, List.take_succ_cons, List.take_zero, List.cons.injEq, and_true] at e0 e1 e2 e3
  obtain ⟨rfl, rfl, rfl⟩ := e0
  obtain ⟨rfl, rfl, rfl⟩ := e1
  obtain ⟨rfl, rfl, rfl⟩ := e2
  obtain ⟨rfl, rfl, rfl⟩ := e3
  rfl
/-- What the contracts ask of a world: token's tables, and table's. -/
structure LT (w : World) : Prop where
  laid : Laid w
  tabs : Tabs w
theorem LT.on {w w' : World} (h : LT w) (hb : Below w.heap.size w w') : LT w' := ⟨h.laid.on hb, h.tabs.on hb⟩
end Go.Proofs.YtipaangiehdgkaaGreatDoor
/-
  From what a row lists to what the contracts ask: table's two tables, and tag's.
-/
namespace Go.Proofs.YtipaangiehdgkaaGreatDoor.T12
set_option maxRecDepth 100000

open Go.RowKit

open Go.Proofs.YtipaangiehdgkaaGreatDoor.T9

theorem laid12 {W : World} (h : laidMetH Tryz.prog [("truffle/tag.wires", Rows.laid_truffle_tag_wires), ("truffle/table.plains", Rows.laid_truffle_table_plains), ("truffle/table.stances", Rows.laid_truffle_table_stances)] W) : Tabs W ∧ Wires W := by
  rw [MakeChecks.laidMetH_plain _ _ _ (by kernel_rfl)] at h
  have g : Tryz.prog.globalNamed "truffle/tag.wires" = some 2 := by kernel_rfl
  have ht : (Tryz.prog.globals[2]?).map (·.type) = some 245 := by kernel_rfl
  have c1 : Tryz.prog.cellsOf 245 = 4 := by kernel_rfl
  have c2 : Tryz.prog.cellsOf 3 = 1 := by kernel_rfl
  have hT : Lib.TabIs Tryz.prog W "truffle/tag.wires" .i64 [0, 1, 2, 5] := Lib.tabIs_of_head (rest := _) g ht Tryz.underlying245 Tryz.underlying3 c2 c1 h
  exact ⟨⟨plains_of h.tail, stances_of h.tail.tail⟩, TabAt.of_var g hT⟩
end Go.Proofs.YtipaangiehdgkaaGreatDoor.T12
/-
  A value made normal, for its bytes: the contract of encode's normal.
-/
namespace Go.Proofs.YtipaangiehdgkaaGreatDoor.T12
set_option maxRecDepth 100000

open Go.RowKit Go.Maps

open Go.Proofs.YtipaangiehdgkaaGreatDoor.T9 Go.Proofs.YtipaangiehdgkaaGreatDoor.T4

/-- Normal, of a message that is of its own: what it hands back is of the call's own. -/
theorem tnormal_ow {s : Sc} (hin : ScIn s) (B D : Nat) (vM vE : Value) (m : Int) (x : Mg) (u : Value) (w : World) (hB : B ≤ w.heap.size) (hs : SAt B w s vM vE) (hx : MRd B w D x u) (hi : MIn x) (hc : x.cnt ≤ 100000) (T : Tabs w) (hm : mayT s m x = true) :
    Calls Tryz.prog 13 #[.agg #[vM, vE], .int .i64 m, .agg #[u]] w fun e w' => ∃ A n c, e = .returned (.tuple #[.agg #[.slice A n c], .bool true]) ∧ T9.MAt (Ow (w.heap.size + 3) w') D (norB s 64 m x) [.slice A n c] ∧ Below w.heap.size w w' := by
  refine (tnormal_of hin B D vM vE m x u w hB hs hx hi hc T (fun v wa => T9.MAt (Ow (w.heap.size + 3) wa) D (norB s 64 m x) [v]) (fun v wa wb h hg => T9.MAt.imp (Ow.hi (hi_grown hg (by omega))) D _ _ h) ?_).mono ?_
  · intro hm wx hbw hsz
    have hG := (mayT_split hm).2
    refine (norm_any hin B D 64 vM vE m x u wx (Nat.le_trans hB hbw.size) (SAt.lo hs hbw hB) (MRd.low (Lo.below hbw hB) hx) hi hc hG (w.heap.size + 3) hsz).mono ?_
    rintro e w' ⟨x1, rfl, h1, h2⟩
    obtain ⟨A, c, rfl⟩ := msg_shape h1
    exact ⟨A, _, c, rfl, h1, h2⟩
  · rintro e w' ⟨A, n, c, rfl, h1, h2, h3⟩
    exact ⟨A, n, c, by rw [hm], h2 hm, h3⟩
set_option maxRecDepth 1000000 in
set_option maxHeartbeats 8000000 in
theorem encnormal_any {s : Sc} (hin : ScIn s) (B D : Nat) (vM vE : Value) (ref : Int) (v : Vl') (u : Value) (w : World) (hB : B ≤ w.heap.size) (hs : SAt B w s vM vE) (hv : VAt (Rd B w) D v [.int .i64 v.n, .string (tx v.s), u]) (hi : VIn v) (hc : cV v ≤ 100000) (hg : ∀ x ∈ v.M, mayT s ref x = true) (T : Tabs w) :
    Calls Tryz.prog 34 #[.agg #[vM, vE], .int .i64 ref, .agg #[.int .i64 v.n, .string (tx v.s), u]] w fun e w' => ∃ x3, e = .returned (.agg #[.int .i64 v.n, .string (tx v.s), x3]) ∧ VAt (Rd w'.heap.size w') D (norV (norB s 64) ref v) [.int .i64 v.n, .string (tx v.s), x3] ∧ Below w.heap.size w w' := by
  obtain ⟨u', hu, hl⟩ := hv
  simp only [List.cons.injEq, and_true, true_and] at hu
  subst hu
  obtain ⟨A, c, xs, rfl, hsl, hbl, hr, hn⟩ := hl.open_
  obtain ⟨A1, q1, A2, q2, rfl, rfl⟩ := sat_shape hs
  obtain ⟨j0, hj, hy0, hy1, hy2⟩ := info_parts info_msg
  obtain ⟨X1, X2, X3, X4, LBD⟩ := four_new w (.cells #[.slice A1 s.M.length q1, .slice A2 s.E.length q2] 33) (.cells #[.int .i64 v.n, .string (tx v.s), .slice A v.M.length c] 51) (.cells #[.int .i64 0, .string ⟨#[]⟩, .slice none 0 0] 51) (.cells #[.int .i64 v.n, .string (tx v.s), .slice none 0 0] 51)
  have hsz : ((((w.alloc (.cells #[.slice A1 s.M.length q1, .slice A2 s.E.length q2] 33)).alloc (.cells #[.int .i64 v.n, .string (tx v.s), .slice A v.M.length c] 51)).alloc (.cells #[.int .i64 0, .string ⟨#[]⟩, .slice none 0 0] 51)).alloc (.cells #[.int .i64 v.n, .string (tx v.s), .slice none 0 0] 51)).heap.size = w.heap.size + 4 := by simp
  obtain ⟨W0, hW0⟩ : ∃ W, W = ((((w.alloc (.cells #[.slice A1 s.M.length q1, .slice A2 s.E.length q2] 33)).alloc (.cells #[.int .i64 v.n, .string (tx v.s), .slice A v.M.length c] 51)).alloc (.cells #[.int .i64 0, .string ⟨#[]⟩, .slice none 0 0] 51)).alloc (.cells #[.int .i64 v.n, .string (tx v.s), .slice none 0 0] 51)) := ⟨_, rfl⟩
  have hcM := cV_M v
  have HS := Lib.hid hsl
  have HR := Lib.hid hr
  have HBB := Lib.hid hbl
  have HSA := Lib.hid hs
  have HI := Lib.hid hi
  have HGD := Lib.hid hg
  have hcn : ∀ x ∈ v.M, x.cnt ≤ 100000 := fun x hx => by have := cnt_le hx; omega
  have HCN := Lib.hid hcn
  obtain ⟨N, hN⟩ : ∃ N, norB s 64 = N := ⟨_, rfl⟩
  have HN := Lib.hid hN
  rw [hN]
  obtain ⟨p0, p1, p2⟩ := bx3 X2
  clear hsl hr hbl hl hs hi hg hcn hN
  go_enter Tryz.func34, Tryz.ntmps34
  go_wp2
  rw [← hW0] at X1 X2 X3 X4 LBD hsz ⊢
  clear hW0 p0 p1 p2
  go_loopw [20] (fun i wr => ∃ (k : Nat) (v' : Value) (zs : List Value), i = .int .i64 k ∧ k ≤ v.M.length ∧ wr.heap[w.heap.size + 3]? = some (.cells #[.int .i64 v.n, .string (tx v.s), v'] 51 (0, 0)) ∧ Grow (fun R => T9.MAt R D) 36 1 (w.heap.size + 4) wr v' ((v.M.take k).map (N ref)) zs ∧ Below (w.heap.size + 3) W0 wr ∧ w.heap.size + 4 ≤ wr.heap.size) (fun i _ => v.M.length - (intOf i).toNat)
  case atStart => exact ⟨0, _, [], rfl, by omega, X4, Grow.nil _ _ _ _ _, Below.refl _ _, by omega⟩
  case round =>
    obtain ⟨k, v', zs, rfl, hk, hX, hgx, hbx, hsx⟩ := hrel
    have hm1 := (hbx.block _ (show w.heap.size < w.heap.size + 3 by omega)).trans X1
    have hm3 := (hbx.block _ (show w.heap.size + 2 < w.heap.size + 3 by omega)).trans X3
    have hbw : Below w.heap.size w wr := LBD.trans (hbx.mono (by omega))
    have hBw : B ≤ wr.heap.size := by omega
    have hlo : Lo B w wr := Lo.of (hbw.mono hB)
    by_cases hlt : k < v.M.length
    · obtain ⟨x, hx⟩ : ∃ x, v.M[k]? = some x := ⟨_, List.getElem?_eq_getElem hlt⟩
      obtain ⟨am, ux, rfl, hgam, hcx, k0⟩ := row1 T9.MAt.len (sl_low HS.out HBB.out hlo) (HR.out.imp fun a cs h => MRd.low hlo h) hx
      obtain ⟨Ax, cx, rfl⟩ := rd_shape hcx
      have hmem := List.mem_of_getElem? hx
      have N1 := below_new wr (.cells #[.slice Ax x.F.length cx] 36)
      have Q1 := bx1 (heap_alloc_new wr (.cells #[.slice Ax x.F.length cx] 36))
      obtain ⟨L, hL⟩ : ∃ L, (v.M.take k).map (N ref) = L := ⟨_, rfl⟩
      have hlq : L.length = k := by rw [← hL, List.length_map, List.length_take]; omega
      rw [hL] at hgx
      have HL := Lib.hid (hL ▸ map_snoc (N ref) hx : L ++ [N ref x] = (v.M.take (k + 1)).map (N ref))
      have hb1 := below_then hbw N1
      have s1 := box2' (box_on hm1 N1)
      have hsa : (wr.alloc (.cells #[.slice Ax x.F.length cx] 36)).heap.size = wr.heap.size + 1 := by simp
      have HCX := tnormal_ow hin B D (.slice A1 s.M.length q1) (.slice A2 s.E.length q2) ref x (.slice Ax x.F.length cx) (wr.alloc (.cells #[.slice Ax x.F.length cx] 36)) (by omega) (SAt.lo HSA.out hb1 hB) (MRd.low (Lo.below N1 hBw) hcx) (HI.out.msg hmem) (HCN.out x hmem) (T.on hb1) (HGD.out x hmem)
      rw [HN.out] at HCX
      have HCX := Lib.hid HCX
      have HGX := Lib.hid (hgx.on (mono_m D) N1)
      have HX := Lib.hid (box_on hX N1)
      have HB1 := Lib.hid (And.intro hbx N1)
      clear hX hgx hbx hm1 hm3 hcx hx hL N1
      go_wp2_with fail
      refine HCX.out.mono ?_
      rintro e w2 ⟨A', n', c', rfl, ho2, hb2⟩
      rw [hsa] at ho2
      have N2 := below_new w2 (.cells #[.slice A' n' c'] 36)
      have Q2 := bx1 (heap_alloc_new w2 (.cells #[.slice A' n' c'] 36))
      have N3 := below_new (w2.alloc (.cells #[.slice A' n' c'] 36)) (.cells #[.slice A' n' c'] 36)
      have hw2 : wr.heap.size + 1 ≤ w2.heap.size := by have := hb2.size; omega
      have c7 := (bx3 (box_on (box_on HX.out hb2) N2)).2.2
      have HX7 := Lib.hid (box_on (box_on (box_on HX.out hb2) N2) N3)
      have HG8 := Lib.hid (((HGX.out.on (mono_m D) hb2).on (mono_m D) N2).on (mono_m D) N3)
      have hs3 : ((w2.alloc (.cells #[.slice A' n' c'] 36)).alloc (.cells #[.slice A' n' c'] 36)).heap.size = w2.heap.size + 2 := by simp
      have hs2' : (w2.alloc (.cells #[.slice A' n' c'] 36)).heap.size = w2.heap.size + 1 := by simp
      have HO := Lib.hid (T9.MAt.imp (Ow.hi (hi_below _ (below_then N2 N3))) D _ _ ho2)
      have HBZ := Lib.hid (below_then hb2 (below_then N2 N3))
      have hlt' := HGX.out.lt
      rw [hsa] at hlt'
      clear ho2 Q1 s1
      go_wp2_with (at_builtin; refine wpList_append_lies _ rfl _ _ 49 rfl (w.heap.size + 4) 36 j0 _ 1 24 Tryz.underlying49 hj hy0 hy1 hy2 rfl (by decide) v' L.length zs rfl HG8.out.own ⟨w2.heap.size + 1, 0, none⟩ 1 1 [.slice A' n' c'] rfl rfl (World.news_of_block (hs2' ▸ heap_alloc_new (w2.alloc (.cells #[.slice A' n' c'] 36)) (.cells #[.slice A' n' c'] 36))) (by simp [Value.oneCell']) (by decide) (by unfold maxLen; omega) (by omega) (by rw [hs3]; omega) (w2.heap.size + 2) hs3 ?_; intro g8 cap8 w8 hown8 hg8 hat8 hlt8; have hX8 := box_far HX7.out hg8 HG8.out.own (show w.heap.size + 3 < w.heap.size + 4 by omega); have f8 : w8.frozen? ⟨w.heap.size + 3, 2, none⟩ = false := (by simp [World.frozen?, hX8]); have c8 := (bx3 hX8).2.2; have HX8 := Lib.hid hX8; clear hX8)
      obtain ⟨Z1, Z2⟩ := cell3 HX8.out (.slice (some ⟨g8, 0, none⟩) (L.length + 1) cap8)
      have hnew := (Grow.app (mono_m D) HG8.out (a := N ref x) (b' := wr.heap.size + 1 + 3) (by omega) (fun k hk => by have := hlt' k hk; omega) HO.out hown8 hg8 (hat8.imp id fun h => by rw [h, hs3]; exact Nat.le_refl _)).box (mono_m D) Z2 (Nat.lt_succ_self (w.heap.size + 3))
      rw [HL.out] at hnew
      rw [hlq] at hnew Z1 Z2
      have hbz : Below (w.heap.size + 3) wr _ := ((HB1.out.2.mono (by omega)).trans (HBZ.out.mono (by rw [hsa]; omega))).trans ((below_row hg8 HG8.out.own (Nat.le_succ _) (by rw [hs3]; omega)).trans (below_own Z2 (Nat.le_refl _) (by have := hg8.size; omega)))
      try rw [hlq]
      refine ⟨⟨k + 1, _, _, by go_num, by omega, Z1, hnew, HB1.out.1.trans hbz, Nat.le_trans hsx hbz.size⟩, by simp [intOf]; omega⟩
    · obtain rfl : k = v.M.length := by omega
      rw [List.take_length] at hgx
      obtain ⟨Av, cv, rfl, -⟩ := Sl.of_own hgx.own
      rw [List.length_map] at hX hgx
      obtain ⟨g0, g1, g2⟩ := bx3 hX
      obtain ⟨⟨q0, q1, q2⟩, q3, q4, q5⟩ := wr3 hm3
      go_wp2
      obtain ⟨Z1, Z2⟩ := three_set hm3 (.int .i64 v.n) (.string (tx v.s)) (.slice Av v.M.length cv)
      refine bodyPost_ret (results_cell_row rfl _ _ (w.heap.size + 2) _ _ (0, 0) _ rfl Z1 Tryz.underlying51 rfl sz_val) rfl ?_
      have h1 := (hgx.box (mono_m D) Z2 (show w.heap.size + 2 < w.heap.size + 4 by omega))
      have h2 : VAt (Ow (w.heap.size + 4) _) D (norV N ref v) [.int .i64 v.n, .string (tx v.s), .slice Av v.M.length cv] := ⟨_, rfl, h1.ow (mono_m D) (by rw [List.length_map]; exact hn)⟩
      exact ⟨_, rfl, mono_v D (fun e size v n xs h => Rd.of_own e size v n xs h) _ _ h2, hbw.trans (below_own Z2 (by omega) (by omega))⟩
end Go.Proofs.YtipaangiehdgkaaGreatDoor.T12
/-
  A value's bytes: the contract of Value.
-/
namespace Go.Proofs.YtipaangiehdgkaaGreatDoor.T12
set_option maxRecDepth 100000

open Go.RowKit Go.Maps

open Go.Proofs.YtipaangiehdgkaaGreatDoor.T9 Go.Proofs.YtipaangiehdgkaaGreatDoor.T4

/-- A closure that writes a value, wherever the value lies. -/
def ClosV (B D : Nat) (w : World) (c : Value) (g : Vl' → List UInt8) (P : Vl' → Prop) : Prop := ∃ (fn : FuncId) (caps : Array Value), c = .func (.func fn) #[] caps ∧ (∀ args w, (callFunc fn args).run Tryz.prog w = .ok (.enter fn args) w) ∧
  ∀ (a : Vl') (u : Value) (wr : World) (B' : Nat), Below w.heap.size w wr → B ≤ B' → B' ≤ wr.heap.size → VAt (Rd B' wr) D a [.int .i64 a.n, .string (tx a.s), u] → P a → Calls Tryz.prog fn (#[.agg #[.int .i64 a.n, .string (tx a.s), u]] ++ caps) wr fun e w' => ∃ v, e = .returned v ∧ By wr.heap.size w' (g a) v ∧ Below wr.heap.size wr w'
theorem ClosV.weak {B D : Nat} {w : World} {c : Value} {g g' : Vl' → List UInt8} {P P' : Vl' → Prop} (h : ClosV B D w c g P) (hP : ∀ a, P' a → P a) (hg : ∀ a, P' a → g a = g' a) : ClosV B D w c g' P' := by
  obtain ⟨fn, caps, e, h1, h2⟩ := h
  exact ⟨fn, caps, e, h1, fun a u wr B' hw hB1 hB2 hv hp => (h2 a u wr B' hw hB1 hB2 hv (hP a hp)).mono fun e w' ⟨v, h3, h4, h5⟩ => ⟨v, h3, hg a hp ▸ h4, h5⟩⟩
set_option maxRecDepth 1000000 in
set_option maxHeartbeats 4000000 in
theorem countWriterV_any (B D : Nat) (kind no : Int) (hno : inI no) (w : World) (T : Wires w) :
    Calls Tryz.prog 63 #[.int .i64 kind, .int .i64 no] w fun e w' => ∃ c, e = .returned c ∧ ClosV B D w' c (fun v => encN kind no v.n) VIn ∧ Below w.heap.size w w' := by
  obtain ⟨X1, X2, LBD⟩ := two_boxes w (.cells #[.int .i64 kind] 3) (.cells #[.int .i64 no] 3)
  have HX := Lib.hid (And.intro X1 X2)
  have hk := bx1 X1
  have HW := Lib.hid (fun wx => wire_any kind wx)
  obtain ⟨wi, hwi⟩ : ∃ i, wireI kind = i := ⟨_, rfl⟩
  rw [hwi] at HW
  have HWI := Lib.hid hwi
  clear X1 X2 hwi
  go_enter Tryz.func63, Tryz.ntmps63
  go_wp2_with fail
  refine (HW.out _).mono ?_
  rintro e w1 ⟨rfl, hb1⟩
  have X3 := heap_alloc_new w1 (.cells #[.int .i64 wi] 3)
  have L3 := below_new w1 (.cells #[.int .i64 wi] 3)
  have hb3 := below_then (below_then LBD hb1) L3
  have HX3 := Lib.hid (And.intro (box_on (box_on HX.out.1 hb1) L3) (And.intro (box_on (box_on HX.out.2 hb1) L3) X3))
  clear X3
  go_wp2
  go_ret
  refine ⟨_, rfl, ⟨_, _, rfl, enters_of Tryz.func109 (by kernel_rfl) rfl, fun a u wr B' hw hB1 hB2 hv hi => ?_⟩, hb3⟩
  obtain ⟨A, c, -, -, rfl⟩ := val_shape hv
  exact count1_any kind no a A c _ _ _ wr hi.1.1 hno (box_on HX3.out.1 hw) (box_on HX3.out.2.1 hw) (by rw [HWI.out]; exact box_on HX3.out.2.2 hw) (T.on (below_then hb3 hw))
set_option maxRecDepth 1000000 in
set_option maxHeartbeats 4000000 in
theorem valueWriterV_any {s : Sc} {B D d : Nat} (H : ∀ B, EncH s B D d) (vM vE : Value) (kind ref no : Int) (w : World) (hB : B ≤ w.heap.size) (hs : SAt B w s vM vE) (hno : inI no) (T : Wires w) :
    Calls Tryz.prog 33 #[.agg #[vM, vE], .int .i64 kind, .int .i64 ref, .int .i64 no] w fun e w' => ∃ c, e = .returned c ∧ ClosV B D w' c (valL (encB s d) kind ref no) (OkV s d kind ref) ∧ Below w.heap.size w w' := by
  obtain ⟨X1, X2, X3, LBD⟩ := three_boxes w (.cells #[vM, vE] 33) (.cells #[.int .i64 ref] 3) (.cells #[.int .i64 no] 3)
  have HX := Lib.hid (And.intro X1 (And.intro X2 X3))
  have hk := bx1 X3
  have HS := Lib.hid hs
  have HH := Lib.hid H
  clear X1 X2 X3 hs H
  by_cases h9 : kind = 9
  · subst h9
    go_enter Tryz.func33, Tryz.ntmps33
    go_wp2
    go_ret
    refine ⟨_, rfl, ⟨_, _, rfl, enters_of Tryz.func60 (by kernel_rfl) rfl, fun a u wr B' hw hB1 hB2 hv ho => ?_⟩, LBD⟩
    obtain ⟨x1, x2, x3⟩ := HX.out
    exact sub1_any (HH.out B') no ref vM vE a u _ _ _ wr hB2 (SAt.mono (SAt.lo (SAt.lo HS.out LBD hB) hw (Nat.le_trans hB LBD.size)) hB1) hv ho hno (box_on x3 hw) (box_on x1 hw) (box_on x2 hw) (T.on (below_then LBD hw))
  have n9 : (kind == 9) = false := beq_eq_false_iff_ne.2 h9
  by_cases h7 : kind = 7
  · subst h7
    go_enter Tryz.func33, Tryz.ntmps33
    go_wp2
    go_ret
    refine ⟨_, rfl, ⟨_, _, rfl, enters_of Tryz.func62 (by kernel_rfl) rfl, fun a u wr B' hw hB1 hB2 hv ho => ?_⟩, LBD⟩
    obtain ⟨x1, x2, x3⟩ := HX.out
    obtain ⟨A, c, -, -, rfl⟩ := val_shape hv
    exact text2_any no a A c _ wr hno ho.1.1.2 (box_on x3 hw) (T.on (below_then LBD hw))
  by_cases h8 : kind = 8
  · subst h8
    go_enter Tryz.func33, Tryz.ntmps33
    go_wp2
    go_ret
    refine ⟨_, rfl, ⟨_, _, rfl, enters_of Tryz.func62 (by kernel_rfl) rfl, fun a u wr B' hw hB1 hB2 hv ho => ?_⟩, LBD⟩
    obtain ⟨x1, x2, x3⟩ := HX.out
    obtain ⟨A, c, -, -, rfl⟩ := val_shape hv
    exact text2_any no a A c _ wr hno ho.1.1.2 (box_on x3 hw) (T.on (below_then LBD hw))
  have n7 : (kind == 7) = false := beq_eq_false_iff_ne.2 h7
  have n8 : (kind == 8) = false := beq_eq_false_iff_ne.2 h8
  have HC := Lib.hid (fun wx (h : Below w.heap.size w wx) => countWriterV_any B D kind no hno wx (T.on h))
  have HV : Hid (∀ a, OkV s d kind ref a → encN kind no a.n = valL (encB s d) kind ref no a) := Lib.hid fun a _ => by unfold valL; rw [if_neg h9, if_neg (by omega)]
  go_enter Tryz.func33, Tryz.ntmps33
  go_wp2_with fail
  refine (HC.out _ LBD).mono ?_
  rintro e w1 ⟨c, rfl, hcl, hb⟩
  have HCL := Lib.hid (hcl.weak (fun a h => h.1) HV.out)
  clear hcl
  go_wp2
  go_ret
  exact ⟨c, rfl, HCL.out, below_then LBD hb⟩
/-- What a value that is of its kind is, made normal. -/
theorem okN_of {s : Sc} (hsm : ScMay s) {kind ref : Int} {v : Vl'} (ha : askG (isB s 63) kind ref v = true) (hi : VIn v) (hc : cV v ≤ 100000) (hwt : 40 * cV v + tV v ≤ 35184372088832) :
    norV (norB s 64) ref v = norV (norB s 63) ref v ∧ OkV s 63 kind ref (norV (norB s 63) ref v) ∧ ∀ x ∈ v.M, mayT s ref x = true := by
  have g := good_val (norB_good (may_keys hsm) 63) ha
  refine ⟨nv_up (fun r x h => (up_all s 63 r x h).2.1) ha, ⟨g.in_ hi, g.is, Nat.le_trans g.cnt hc, ?_⟩, fun x hx => ?_⟩
  · have h1 := g.cnt
    have h2 := txt_val (nor_txt s 63) ha
    omega
  · unfold mayT
    rw [Bool.and_eq_true]
    refine ⟨@decide_eq_true _ (Classical.propDecidable _) hsm, ?_⟩
    by_cases h9 : kind = 9
    · subst h9
      obtain ⟨-, -, y, hy, hg⟩ := ask_nine ha
      rw [hy] at hx
      obtain rfl : x = y := by simpa using hx
      exact (up_all s 63 ref x hg).1
    · rw [ask_of ha h9] at hx
      cases hx
theorem valT_split {s : Sc} {kind ref : Int} {v : Vl'} (h : valT s kind ref v = true) : ScMay s ∧ askG (isB s 63) kind ref v = true := by
  unfold valT at h
  rw [Bool.and_eq_true] at h
  exact ⟨@of_decide_eq_true _ (Classical.propDecidable _) h.1, h.2⟩
set_option maxRecDepth 1000000 in
set_option maxHeartbeats 8000000 in
theorem value_yes {s : Sc} (hin : ScIn s) (B D : Nat) (vM vE : Value) (kind ref no : Int) (v : Vl') (u : Value) (w : World) (hB : B ≤ w.heap.size) (hs : SAt B w s vM vE) (hv : VAt (Rd B w) D v [.int .i64 v.n, .string (tx v.s), u]) (hi : VIn v) (hc : cV v ≤ 100000) (hwt : 40 * cV v + tV v ≤ 35184372088832) (T : Tabs w) (TW : Wires w) (hno : 1 ≤ no ∧ no ≤ 536870911) (hvt : valT s kind ref v = true) :
    Calls Tryz.prog 18 #[.agg #[vM, vE], .int .i64 kind, .int .i64 ref, .int .i64 no, .agg #[.int .i64 v.n, .string (tx v.s), u]] w fun e w' => ∃ v', e = .returned (.tuple #[v', .int .i64 0]) ∧ By w.heap.size w' (valL (encB s 63) kind ref no (norV (norB s 63) ref v)) v' ∧ Below w.heap.size w w' := by
  obtain ⟨A1, q1, A2, q2, rfl, rfl⟩ := sat_shape hs
  obtain ⟨A, c, -, -, rfl⟩ := val_shape hv
  obtain ⟨hsm, ha⟩ := valT_split hvt
  obtain ⟨e1, hok, hmay⟩ := okN_of hsm ha hi hc hwt
  obtain ⟨X1, X2, LBD⟩ := two_boxes w (.cells #[.slice A1 s.M.length q1, .slice A2 s.E.length q2] 33) (.cells #[.int .i64 v.n, .string (tx v.s), .slice A v.M.length c] 51)
  obtain ⟨s0, s1⟩ := box2' X1
  obtain ⟨p0, p1, p2⟩ := bx3 X2
  have HTV := Lib.hid (fun wx (h : Below w.heap.size w wx) => tval_any hin B D (.slice A1 s.M.length q1) (.slice A2 s.E.length q2) kind ref v (.slice A v.M.length c) wx (Nat.le_trans hB h.size) (SAt.lo hs h hB) (VRd.low (Lo.below h hB) hv) hi hc (T.on h))
  rw [hvt] at HTV
  have n1 : ¬ (no < 1) := by omega
  have n2 : ¬ (536870911 < no) := by omega
  have HL00 := Lib.hid LBD
  have HXX := Lib.hid (And.intro X1 X2)
  have HF := Lib.hid (And.intro hs hv)
  have HOK := Lib.hid hok
  have HMAY := Lib.hid (And.intro hmay (And.intro hi hc))
  obtain ⟨N, hN⟩ : ∃ N, norV (norB s 63) ref v = N := ⟨_, rfl⟩
  have HE1 := Lib.hid (e1.trans hN)
  rw [hN] at HOK ⊢
  have hinn : inI no := ⟨by omega, by omega⟩
  clear hs hv hi X1 X2 hok hmay e1 hN hvt ha hsm hwt hc
  go_enter Tryz.func18, Tryz.ntmps18
  go_wp2_with fail
  refine (HTV.out _ LBD).mono ?_
  rintro e w1 ⟨rfl, hb1⟩
  have L1 := below_then LBD hb1
  have Y1 := box_on HXX.out.1 hb1
  have Y2 := box_on HXX.out.2 hb1
  have hDk : Below w1.heap.size w1 w1.drew := (Below.refl _ _).drew
  have hBk : B ≤ w1.heap.size := Nat.le_trans hB L1.size
  have HL0 := Lib.hid L1
  have HSX : Hid (∀ wx, Below w1.heap.size w1 wx → (wx.cell? ⟨w.heap.size, 0, none⟩ = some (.slice A1 s.M.length q1) ∧ wx.cell? ⟨w.heap.size, 1, none⟩ = some (.slice A2 s.E.length q2)) ∧ (wx.cell? ⟨w.heap.size + 1, 0, none⟩ = some (.int .i64 v.n) ∧ wx.cell? ⟨w.heap.size + 1, 1, none⟩ = some (.string (tx v.s)) ∧ wx.cell? ⟨w.heap.size + 1, 2, none⟩ = some (.slice A v.M.length c))) := Lib.hid fun wx h => ⟨box2' (box_on Y1 h), bx3 (box_on Y2 h)⟩
  have HVW := Lib.hid (fun wx (h : Below w1.heap.size w1 wx) => valueWriterV_any (d := 63) (D := D) (fun B => encmsg_any hin B D 63) (.slice A1 s.M.length q1) (.slice A2 s.E.length q2) kind ref no wx (Nat.le_trans hBk h.size) (SAt.lo HF.out.1 (below_then L1 h) hB) hinn (TW.on (below_then L1 h)))
  have HNV := Lib.hid (fun wx (h : Below w1.heap.size w1 wx) => encnormal_any hin B D (.slice A1 s.M.length q1) (.slice A2 s.E.length q2) ref v (.slice A v.M.length c) wx (Nat.le_trans hBk h.size) (SAt.lo HF.out.1 (below_then L1 h) hB) (VRd.low (Lo.below (below_then L1 h) hB) HF.out.2) HMAY.out.2.1 HMAY.out.2.2 HMAY.out.1 (T.on (below_then L1 h)))
  rw [HE1.out] at HNV
  have hNn : N.n = v.n ∧ N.s = v.s := by rw [← HE1.out]; exact ⟨rfl, rfl⟩
  have HNN := Lib.hid hNn
  clear s0 s1 p0 p1 p2 Y1 Y2 hNn
  go_wp2_with fail
  refine wp_region_held_drew (S := (fun w' => (w'.cell? ⟨w.heap.size, 0, none⟩ = some (.slice A1 s.M.length q1) ∧ w'.cell? ⟨w.heap.size, 1, none⟩ = some (.slice A2 s.E.length q2)) ∧ (w'.cell? ⟨w.heap.size + 1, 0, none⟩ = some (.int .i64 v.n) ∧ w'.cell? ⟨w.heap.size + 1, 1, none⟩ = some (.string (tx v.s)) ∧ w'.cell? ⟨w.heap.size + 1, 2, none⟩ = some (.slice A v.M.length c)))) (by kernel_rfl) (HSX.out _ hDk) (fun hHeld => ?_)
  refine wpAnyH_take (i := 0) (oi := { dst := some 26, op := Go.Op.load 33 (Go.Operand.tmp 5), type := 33, pos := "encode.go:34", after := #[], guard := none }) (v := ?_) rfl (by kernel_rfl) (by kernel_rfl) (by kernel_rfl) (fun _ _ _ h => h) (Or.inl ⟨by rfl, ?_⟩) hHeld ?_
  rotate_left
  · intro w hSw
    (try dsimp only at hSw)
    go_simp
    all_goals with_reducible rfl
  (try simp only [Act.put, List.setIfInBounds_toArray, List.set_cons_zero, List.set_cons_succ])
  refine wpAnyH_take (i := 1) (oi := { dst := some 27, op := Go.Op.move (Go.Operand.tmp 1), type := 3, pos := "encode.go:34", after := #[], guard := none }) (v := ?_) rfl (by kernel_rfl) (by kernel_rfl) (by kernel_rfl) (fun _ _ _ h => h) (Or.inl ⟨by rfl, ?_⟩) hHeld ?_
  rotate_left
  · intro w hSw
    (try dsimp only at hSw)
    go_simp
    all_goals with_reducible rfl
  (try simp only [Act.put, List.setIfInBounds_toArray, List.set_cons_zero, List.set_cons_succ])
  refine wpAnyH_take (i := 2) (oi := { dst := some 28, op := Go.Op.move (Go.Operand.tmp 2), type := 3, pos := "encode.go:34", after := #[], guard := none }) (v := ?_) rfl (by kernel_rfl) (by kernel_rfl) (by kernel_rfl) (fun _ _ _ h => h) (Or.inl ⟨by rfl, ?_⟩) hHeld ?_
  rotate_left
  · intro w hSw
    (try dsimp only at hSw)
    go_simp
    all_goals with_reducible rfl
  (try simp only [Act.put, List.setIfInBounds_toArray, List.set_cons_zero, List.set_cons_succ])
  refine wpAnyH_take (i := 3) (oi := { dst := some 29, op := Go.Op.move (Go.Operand.tmp 3), type := 3, pos := "encode.go:34", after := #[], guard := none }) (v := ?_) rfl (by kernel_rfl) (by kernel_rfl) (by kernel_rfl) (fun _ _ _ h => h) (Or.inl ⟨by rfl, ?_⟩) hHeld ?_
  rotate_left
  · intro w hSw
    (try dsimp only at hSw)
    go_simp
    all_goals with_reducible rfl
  (try simp only [Act.put, List.setIfInBounds_toArray, List.set_cons_zero, List.set_cons_succ])
  refine wpAnyH_take (i := 5) (oi := { dst := some 31, op := Go.Op.load 33 (Go.Operand.tmp 5), type := 33, pos := "encode.go:34", after := #[], guard := none }) (v := ?_) rfl (by kernel_rfl) (by kernel_rfl) (by kernel_rfl) (fun _ _ _ h => h) (Or.inl ⟨by rfl, ?_⟩) hHeld ?_
  rotate_left
  · intro w hSw
    (try dsimp only at hSw)
    go_simp
    all_goals with_reducible rfl
  (try simp only [Act.put, List.setIfInBounds_toArray, List.set_cons_zero, List.set_cons_succ])
  refine wpAnyH_take (i := 6) (oi := { dst := some 32, op := Go.Op.move (Go.Operand.tmp 2), type := 3, pos := "encode.go:34", after := #[], guard := none }) (v := ?_) rfl (by kernel_rfl) (by kernel_rfl) (by kernel_rfl) (fun _ _ _ h => h) (Or.inl ⟨by rfl, ?_⟩) hHeld ?_
  rotate_left
  · intro w hSw
    (try dsimp only at hSw)
    go_simp
    all_goals with_reducible rfl
  (try simp only [Act.put, List.setIfInBounds_toArray, List.set_cons_zero, List.set_cons_succ])
  refine wpAnyH_take (i := 7) (oi := { dst := some 33, op := Go.Op.load 51 (Go.Operand.tmp 9), type := 51, pos := "encode.go:34", after := #[], guard := none }) (v := ?_) rfl (by kernel_rfl) (by kernel_rfl) (by kernel_rfl) (fun _ _ _ h => h) (Or.inl ⟨by rfl, ?_⟩) hHeld ?_
  rotate_left
  · intro w hSw
    (try dsimp only at hSw)
    go_simp
    all_goals with_reducible rfl
  (try simp only [Act.put, List.setIfInBounds_toArray, List.set_cons_zero, List.set_cons_succ])
  refine wpAnyH_ready (rs := [4]) (by kernel_rfl) (by simp) ?_
  refine AllReadyH.cons (o := { dst := some 30, op := Go.Op.call { callee := Go.Callee.value (Go.Operand.func 33), args := #[Go.Operand.tmp 26, Go.Operand.tmp 27, Go.Operand.tmp 28, Go.Operand.tmp 29], argTypes := #[33, 3, 3, 3] }, type := 79, pos := "encode.go:34", after := #[{ on := 0, ground := Go.Ground.data }, { on := 1, ground := Go.Ground.data }, { on := 2, ground := Go.Ground.data }, { on := 3, ground := Go.Ground.data }], guard := none }) rfl (fun K hK => ?_) AllReadyH.nil
  go_simp
  (go_at_call 33; refine (HVW.out _ hDk).mono ?_; rintro e w4 ⟨cw, rfl, hcw, hb4⟩)
  have hb4d := hDk.trans (hb4.mono hDk.size)
  have HW7 := Lib.hid hcw
  obtain ⟨fnw, capw, rfl, -⟩ := hcw
  go_wp2_with fail
  refine hK.out _ _ (HSX.out _ hb4d) (fun hHeld => ?_)
  clear hK K
  (try simp only [Act.put, List.setIfInBounds_toArray, List.set_cons_zero, List.set_cons_succ])
  refine wpAnyH_ready (rs := [8]) (by kernel_rfl) (by simp) ?_
  refine AllReadyH.cons (o := { dst := some 34, op := Go.Op.call { callee := Go.Callee.value (Go.Operand.func 34), args := #[Go.Operand.tmp 31, Go.Operand.tmp 32, Go.Operand.tmp 33], argTypes := #[33, 3, 51] }, type := 51, pos := "encode.go:34", after := #[{ on := 5, ground := Go.Ground.data }, { on := 6, ground := Go.Ground.data }, { on := 7, ground := Go.Ground.data }, { on := 4, ground := Go.Ground.chain }], guard := none }) rfl (fun K hK => ?_) AllReadyH.nil
  go_simp
  (go_at_call 34; refine (HNV.out _ hb4d).mono ?_; rintro e w7 ⟨x3, rfl, hv7, hb7⟩)
  have hb7d := below_then hb4d hb7
  obtain ⟨fnw2, capw2, e7, hent, hcl⟩ := HW7.out
  injection e7 with e71 e72 e73
  injection e71 with e71
  subst e71 e73
  rw [← HNN.out.1, ← HNN.out.2] at hv7
  have hcl2 := hcl _ _ w7 w7.heap.size hb7 (Nat.le_trans hBk hb7d.size) (Nat.le_refl _) hv7 HOK.out
  rw [HNN.out.1, HNN.out.2] at hcl2
  have HCL := Lib.hid hcl2
  have hx3 : ∃ A n c, x3 = .slice A n c := by obtain ⟨A, c, -, -, h⟩ := val_shape hv7; exact ⟨A, _, c, h⟩
  obtain ⟨A7, n7, c7, rfl⟩ := hx3
  clear hcl hcl2 hv7
  go_wp2_with fail
  refine hK.out _ _ (HSX.out _ hb7d) (fun hHeld => ?_)
  clear hK K
  (try simp only [Act.put, List.setIfInBounds_toArray, List.set_cons_zero, List.set_cons_succ])
  refine wpAnyH_ready (rs := [9]) (by kernel_rfl) (by simp) ?_
  refine AllReadyH.cons (o := { dst := some 35, op := Go.Op.call { callee := Go.Callee.value (Go.Operand.tmp 30), args := #[Go.Operand.tmp 34], argTypes := #[51] }, type := 22, pos := "encode.go:34", after := #[{ on := 4, ground := Go.Ground.data }, { on := 8, ground := Go.Ground.data }, { on := 8, ground := Go.Ground.chain }], guard := none }) rfl (fun K hK => ?_) AllReadyH.nil
  go_simp
  refine HCL.out.mono ?_
  rintro e w9 ⟨v9, rfl, hy9, hb9⟩
  have hb9d := below_then hb7d hb9
  go_wp2_with fail
  refine hK.out _ _ (HSX.out _ hb9d) (fun hHeld => ?_)
  clear hK K
  (try simp only [Act.put, List.setIfInBounds_toArray, List.set_cons_zero, List.set_cons_succ])
  refine wpAnyH_take (i := 10) (oi := { dst := some 10, op := Go.Op.assign (Go.Operand.tmp 35), type := 22, pos := "encode.go:34", after := #[{ on := 9, ground := Go.Ground.data }, { on := 9, ground := Go.Ground.chain }, { on := 0, ground := Go.Ground.phase }, { on := 1, ground := Go.Ground.phase }, { on := 2, ground := Go.Ground.phase }, { on := 3, ground := Go.Ground.phase }, { on := 4, ground := Go.Ground.phase }, { on := 5, ground := Go.Ground.phase }, { on := 6, ground := Go.Ground.phase }, { on := 7, ground := Go.Ground.phase }, { on := 8, ground := Go.Ground.phase }, { on := 9, ground := Go.Ground.phase }], guard := none }) (v := ?_) rfl (by kernel_rfl) (by kernel_rfl) (by kernel_rfl) (fun _ _ _ h => h) (Or.inl ⟨by rfl, ?_⟩) hHeld ?_
  rotate_left
  · intro w hSw
    (try dsimp only at hSw)
    go_simp
    all_goals with_reducible rfl
  (try simp only [Act.put, List.setIfInBounds_toArray, List.set_cons_zero, List.set_cons_succ])
  refine wpAnyH_take (i := 11) (oi := { dst := some 11, op := Go.Op.assign (Go.Operand.const (Go.Value.int Go.IntKind.i64 0)), type := 25, pos := "encode.go:34", after := #[{ on := 10, ground := Go.Ground.chain }, { on := 0, ground := Go.Ground.phase }, { on := 1, ground := Go.Ground.phase }, { on := 2, ground := Go.Ground.phase }, { on := 3, ground := Go.Ground.phase }, { on := 4, ground := Go.Ground.phase }, { on := 5, ground := Go.Ground.phase }, { on := 6, ground := Go.Ground.phase }, { on := 7, ground := Go.Ground.phase }, { on := 8, ground := Go.Ground.phase }, { on := 9, ground := Go.Ground.phase }, { on := 10, ground := Go.Ground.phase }], guard := none }) (v := ?_) rfl (by kernel_rfl) (by kernel_rfl) (by kernel_rfl) (fun _ _ _ h => h) (Or.inl ⟨by rfl, ?_⟩) hHeld ?_
  rotate_left
  · intro w hSw
    (try dsimp only at hSw)
    go_simp
    all_goals with_reducible rfl
  (try simp only [Act.put, List.setIfInBounds_toArray, List.set_cons_zero, List.set_cons_succ])
  refine wpAnyH_done (by kernel_rfl) ?_ _
  go_wp2
  go_ret2
  refine ⟨v9, rfl, ?_, below_then HL0.out hb9d⟩
  exact hy9.less (Nat.le_trans HL0.out.size hb7d.size)
end Go.Proofs.YtipaangiehdgkaaGreatDoor.T12
/-
  A record's bytes: the contract of the document's own function that puts them.
-/
namespace Go.Proofs.YtipaangiehdgkaaGreatDoor
set_option maxRecDepth 100000

open Go.RowKit

end Go.Proofs.YtipaangiehdgkaaGreatDoor
/-
  Slices of records that read as lists; the contract of the function that holds two of them against each other.
-/
namespace Go.Proofs.YtipaangiehdgkaaGreatDoor
set_option maxRecDepth 100000

open Go.RowKit

def rs (l : List Rc) : List Value := l.flatMap RC
theorem rs_append (a b : List Rc) : rs (a ++ b) = rs a ++ rs b := by simp [rs]
theorem rs_cons (r : Rc) (l : List Rc) : rs (r :: l) = RC r ++ rs l := by simp [rs]
theorem rs_get : ∀ (l : List Rc) (k j : Nat) (r : Rc), l[k]? = some r → j < 5 → (rs l)[k * 5 + j]? = (RC r)[j]?
  | [], k, j, r, h, _ => by simp at h
  | x :: l, 0, j, r, h, hj => by
    obtain rfl : x = r := by simpa using h
    rw [rs_cons, Nat.zero_mul, Nat.zero_add, List.getElem?_append_left (by simp [RC]; omega)]
  | x :: l, k + 1, j, r, h, hj => by
    rw [rs_cons, List.getElem?_append_right (by simp [RC]; omega)]
    rw [show (k + 1) * 5 + j - (RC x).length = k * 5 + j by simp [RC]; omega]
    exact rs_get l k j r (by simpa using h) hj
theorem rs_one (a : List Rc) : ∀ u ∈ rs a, u.oneCell' = true := by
  intro u hu
  obtain ⟨r, _, hr⟩ := List.mem_flatMap.1 hu
  simp only [RC, List.mem_cons, List.not_mem_nil, or_false] at hr
  rcases hr with rfl | rfl | rfl | rfl | rfl <;> rfl
/-- A slice of records that reads as the list l. -/
def SlR (w : World) (A : Option Addr) (c : Nat) (l : List Rc) : Prop := Sl w A l.length c 5 (rs l)
theorem SlR.on {w w' : World} {A : Option Addr} {c : Nat} {l : List Rc} (h : SlR w A c l) (hb : Below w.heap.size w w') : SlR w' A c l := Sl.on h hb
theorem SlR.nil (w : World) : SlR w none 0 [] := Sl.nothing w 5
theorem SlR.small {w : World} {A : Option Addr} {c : Nat} {l : List Rc} (h : SlR w A c l) : l.length ≤ 9223372036854775807 ∧ c ≤ 9223372036854775807 := by
  have h1 := Sl.le h
  have h2 := Sl.cap h
  unfold maxLen at h2
  omega
theorem SlR.of_own {w : World} {base : Nat} {e : TypeId} {v : Value} {l : List Rc} (h : w.ownsRow base e 5 v l.length (rs l)) : ∃ A c, v = .slice A l.length c ∧ SlR w A c l := Sl.of_own h
/-- The record at k: its address, and its cells. -/
theorem SlR.at_ {w : World} {A : Option Addr} {c : Nat} {l : List Rc} (h : SlR w A c l) {k : Nat} (hk : k < l.length) : ∃ ad r, A = some ad ∧ ad.block < w.heap.size ∧ l[k]? = some r ∧
    w.cell? (ad.add (k * 5)) = some (.int .i64 r.no) ∧ w.cell? ⟨(ad.add (k * 5)).block, (ad.add (k * 5)).off + 1, none⟩ = some (.int .i64 r.wire) ∧ w.cell? ⟨(ad.add (k * 5)).block, (ad.add (k * 5)).off + 2, none⟩ = some (.int .u64 r.num) ∧
    w.cell? ⟨(ad.add (k * 5)).block, (ad.add (k * 5)).off + 3, none⟩ = some (.int .i64 r.frm) ∧ w.cell? ⟨(ad.add (k * 5)).block, (ad.add (k * 5)).off + 4, none⟩ = some (.int .i64 r.upto) := by
  obtain ⟨ad, rfl, hb, hcell⟩ := Sl.there h (by omega)
  have hg : l[k]? = some l[k] := List.getElem?_eq_getElem hk
  have hadd : ∀ j : Nat, 0 < j → (⟨(ad.add (k * 5)).block, (ad.add (k * 5)).off + j, none⟩ : Addr) = ad.add (k * 5 + j) := fun j hj => by
    rw [← add_twice]
    cases j with
    | zero => omega
    | succ j => simp [Addr.add]
  refine ⟨ad, l[k], rfl, hb, hg, ?_, ?_, ?_, ?_, ?_⟩
  · exact hcell (k * 5) _ (by have := rs_get l k 0 _ hg (by omega); rw [Nat.add_zero] at this; rw [this]; rfl)
  · rw [hadd 1 (by omega)]; exact hcell _ _ (by rw [rs_get l k 1 _ hg (by omega)]; rfl)
  · rw [hadd 2 (by omega)]; exact hcell _ _ (by rw [rs_get l k 2 _ hg (by omega)]; rfl)
  · rw [hadd 3 (by omega)]; exact hcell _ _ (by rw [rs_get l k 3 _ hg (by omega)]; rfl)
  · rw [hadd 4 (by omega)]; exact hcell _ _ (by rw [rs_get l k 4 _ hg (by omega)]; rfl)

/-- A record is loaded. -/
theorem load_rec (w : World) (a : Addr) (r : Rc) (h : ∀ j v, (RC r)[j]? = some v → w.cell? (a.add j) = some v) : (Instr.loadAt 62 (.pointer (some a))).run Tryz.prog w = .ok (RV r) w := by
  have hl : (loadCells a 5).run Tryz.prog w = .ok (RC r).toArray w := run_loadCells_list (P := Tryz.prog) w a (RC r) h
  have hi := infoRec
  cases hq : Tryz.prog.info? 62 with
  | none => simp [hq] at hi
  | some i =>
    have hs : i.size = 5 := by simpa [hq] using hi
    have hagg : (isAgg 62).run Tryz.prog w = .ok true w := by
      unfold isAgg
      rw [Sem.run_bind, run_underlying Tryz.underlying62 w]
      simp
    simp only [Instr.loadAt, Instr.sureAddr, Sem.run_bind, Sem.run_pure, Result.andThen_ok]
    simp [loadVar, Sem.run_bind, hagg, sizeOf, typeInfo, hq, hs, hl, RV, RC]
theorem SlR.load {w : World} {A : Option Addr} {c : Nat} {l : List Rc} (h : SlR w A c l) {k : Nat} (hk : k < l.length) : ∃ ad r, A = some ad ∧ ad.block < w.heap.size ∧ l[k]? = some r ∧
    ∀ w' : World, w'.heap = w.heap → (Instr.loadAt 62 (.pointer (some (ad.add (k * 5))))).run Tryz.prog w' = .ok (RV r) w' := by
  obtain ⟨ad, rfl, hb, hcell⟩ := Sl.there h (by omega)
  have hg : l[k]? = some l[k] := List.getElem?_eq_getElem hk
  refine ⟨ad, l[k], rfl, hb, hg, fun w' hw' => load_rec w' _ _ fun j v hv => ?_⟩
  have hj : j < 5 := by have := (List.getElem?_eq_some_iff.1 hv).1; simpa [RC] using this
  rw [add_twice]
  have := hcell (k * 5 + j) v (by rw [rs_get l k j _ hg hj]; exact hv)
  simp only [World.cell?, hw'] at this ⊢
  exact this

end Go.Proofs.YtipaangiehdgkaaGreatDoor
/-
  All records from one place to another one, by the document's own function: its contract.
-/
namespace Go.Proofs.YtipaangiehdgkaaGreatDoor
set_option maxRecDepth 100000

open Go.RowKit

theorem infoRecs : (Tryz.prog.info? 62).map (fun i => (i.zero, i.size, i.bytes)) = some (some (.agg #[.int .i64 0, .int .i64 0, .int .u64 0, .int .i64 0, .int .i64 0]), 5, 40) := by kernel_rfl
/-- A literal of one record. -/
theorem lit_rec (w : World) (r : Rc) : Sl (w.alloc (.cells #[.int .i64 r.no, .int .i64 r.wire, .int .u64 r.num, .int .i64 r.frm, .int .i64 r.upto] 62)) (some ⟨w.heap.size, 0, none⟩) 1 1 5 (rs [r]) := by
  refine ⟨by simp [rs, RC], Nat.le_refl _, by unfold maxLen; omega, by simp, fun ad ha _ => ?_, fun ad ha k u hu => ?_⟩
  · obtain rfl := Option.some.inj ha
    simp
  · obtain rfl := Option.some.inj ha
    rw [Addr.add_lit, World.cell?_alloc_at _ _ _ _ rfl]
    simpa [rs, RC] using hu
end Go.Proofs.YtipaangiehdgkaaGreatDoor
/-
  The records from one place to another one, handed on one by one: the function that makes the iterator, and what it hands on to whatever loop ranges over it.
-/
namespace Go.Proofs.YtipaangiehdgkaaGreatDoor
set_option maxRecDepth 100000

open Go.RowKit Go.Shelf

attribute [local go_sem] Oper.semAt_some

theorem next_err {l : List UInt8} {a u : Int} {r : Rc} {p x : Nat} (h : nextR l a u = (r, p, x)) (hx : x ≠ 0) : r = Rc.zero ∧ p = 0 := by
  unfold nextR restR runR at h
  split at h
  · split at h
    · split at h
      · split at h
        · simp only [Prod.mk.injEq] at h; omega
        · simp only [Prod.mk.injEq] at h; exact ⟨h.1.symm, h.2.1.symm⟩
      · simp only [Prod.mk.injEq] at h; omega
    · simp only [Prod.mk.injEq] at h; exact ⟨h.1.symm, h.2.1.symm⟩
  · simp only [Prod.mk.injEq] at h; exact ⟨h.1.symm, h.2.1.symm⟩

/-- What is handed on: the records, and, where one has an error, that, beside a record of nothing. -/
def pairsR (X : List Rc × Nat) : List (Rc × Nat) := X.1.map (fun r => (r, 0)) ++ (if X.2 = 0 then [] else [(Rc.zero, X.2)])
def encR (x : Rc × Nat) : Array Value := #[RV x.1, .int .i64 x.2]
theorem pairs_end {l : List UInt8} {u a : Nat} (h : ¬ a < u) : pairsR (recs l u a) = [] := by rw [recs_end h]; rfl
theorem pairs_step {l : List UInt8} {u a : Nat} {r : Rc} {p : Nat} (h : a < u) (hn : nextR l a u = (r, p, 0)) : pairsR (recs l u a) = (r, 0) :: pairsR (recs l u p) := by
  rw [recs_step h hn]; simp [pairsR]
theorem pairs_stop {l : List UInt8} {u a : Nat} {r : Rc} {p e : Nat} (h : a < u) (hn : nextR l a u = (r, p, e)) (he : e ≠ 0) : pairsR (recs l u a) = [(r, e)] := by
  rw [recs_stop h hn he, (next_err hn he).1]; simp [pairsR, he]

theorem each_any (A : Option Addr) (c : Nat) (l : List UInt8) (a u : Int) (w : World) :
    Calls Tryz.prog 35 #[.slice A l.length c, .int .i64 a, .int .i64 u] w fun e w' =>
      e = .returned (.func (.func 64) #[] #[.pointer (some ⟨w.heap.size + 1, 0, none⟩), .pointer (some ⟨w.heap.size + 2, 0, none⟩), .pointer (some ⟨w.heap.size, 0, none⟩)]) ∧
      w' = ((w.alloc (.cells #[.slice A l.length c] 22)).alloc (.cells #[.int .i64 a] 3)).alloc (.cells #[.int .i64 u] 3) := by
  have hmf : ∀ (fn : Fn) (first cap : Array Value) (w : World), (Instr.makeFunc fn first cap).run Tryz.prog w = .ok (.func fn first cap) w := fun _ _ _ _ => rfl
  go_enter Tryz.func35, Tryz.ntmps35
  go_wp2
  go_ret
  exact ⟨rfl, rfl⟩

/-- What lay below n lies as it lay, and so do the blocks from m to k. -/
def Kept (n m k : Nat) (W W' : World) : Prop := Below n W W' ∧ ∀ j, m ≤ j → j < k → W'.heap[j]? = W.heap[j]?
theorem Kept.refl (n m k : Nat) (W : World) : Kept n m k W W := ⟨Below.refl _ _, fun _ _ _ => rfl⟩
theorem Kept.trans {n m k : Nat} {A B C : World} (h : Kept n m k A B) (g : Kept n m k B C) : Kept n m k A C := ⟨h.1.trans g.1, fun j hm hk => (g.2 j hm hk).trans (h.2 j hm hk)⟩
theorem Kept.of_below {n m k B : Nat} {W W' : World} (h : Below B W W') (hn : n ≤ B) (hk : k ≤ B) : Kept n m k W W' := ⟨h.mono hn, fun j _ hj => h.block j (by omega)⟩
theorem Kept.cell {n m k b : Nat} {W W' : World} {v : Value} (h : Kept n m k W W') (hm : m ≤ b) (hk : b < k) (hc : W.cell? ⟨b, 0, none⟩ = some v) : W'.cell? ⟨b, 0, none⟩ = some v := by
  simp only [World.cell?, h.2 b hm hk] at hc ⊢
  exact hc
theorem Kept.put {n m k : Nat} {w : World} (hn : n ≤ w.heap.size) (hk : k ≤ w.heap.size) (W : World) (l : Nat) (o o' : Obj) (hl : w.heap.size ≤ l) (h : W.heap[l]? = some o) (h1 : o.isCells = false) (h2 : o.isWalk = false) : Kept n m k W (W.putObj l o') :=
  ⟨belowK_b hn W l o o' hl h h1 h2, fun j _ hj => World.putObj_heap_other (by omega)⟩
theorem Kept.own {β : Type} {n m k : Nat} {W0 : World} (hn : n ≤ W0.heap.size) (hk : k ≤ W0.heap.size) : OwnFrom W0.heap.size (fun (_ : β) W => Kept n m k W0 W) := fun s X Y row hs hg hr =>
  ⟨ownFrom_below (β := Unit) hn hn () X Y row hs.1 hg hr, fun j hm hj => (hg.block j (by have := hs.1.size; omega) (fun e => by have := (hr j e.symm).1; omega)).trans (hs.2 j hm hj)⟩

set_option maxRecDepth 1000000 in
set_option maxHeartbeats 2000000 in
/-- The iterator, for every loop that keeps what lay below n₀. -/
theorem each1_in (n : Nat) (lp Ba Bu Bb n₀ m₀ k₀ : Nat) (hba : m₀ ≤ Ba ∧ Ba < k₀) (hbu : m₀ ≤ Bu ∧ Bu < k₀) (hbb : m₀ ≤ Bb ∧ Bb < k₀) (A : Option Addr) (c : Nat) (l : List UInt8) (a u : Nat) (hl : l.length ≤ 1000000) (hau : a ≤ u) (hul : u ≤ l.length) (J Jx : List (Rc × Nat) → World → Prop)
    (W : World) (hn₀ : n₀ ≤ W.heap.size) (hk₀ : k₀ ≤ W.heap.size)
    (hJ : AbidesFrom W.heap.size J)
    (hY : ∀ pre x W1, J pre W1 → pre.length < (pairsR (recs l u a)).length → YieldAt Fence.wide (n - 1) Tryz.prog lp (encR x) W1 fun e W' =>
      (e = .returned (.bool true) ∧ J (pre ++ [x]) W' ∧ Kept n₀ m₀ k₀ W1 W') ∨ (e = .returned (.bool false) ∧ Jx (pre ++ [x]) W'))
    (cBa : W.cell? ⟨Ba, 0, none⟩ = some (.int .i64 a)) (cBu : W.cell? ⟨Bu, 0, none⟩ = some (.int .i64 u)) (cBb : W.cell? ⟨Bb, 0, none⟩ = some (.slice A l.length c))
    (h1 : ∀ W', Below n₀ W W' → SlB W' A c l ∧ Wires W') (h0 : J [] W) :
    CallsIn Fence.wide n Tryz.prog 64 #[.func (.yield lp) #[] #[], .pointer (some ⟨Ba, 0, none⟩), .pointer (some ⟨Bu, 0, none⟩), .pointer (some ⟨Bb, 0, none⟩)] W fun e W' => (∃ v, e = .returned v) ∧
      ((∃ ys, ys = pairsR (recs l u a) ∧ J ys W') ∨ (∃ pre, pre <+: pairsR (recs l u a) ∧ Jx pre W')) := by
  refine callsIn_of_wp Tryz.func64 rfl trivial ?_ rfl
  simp only [Tryz.ntmps64, List.size_toArray, List.length_cons, List.length_nil, Nat.reduceAdd, Nat.reduceSub, Array.replicate_succ, Array.replicate_zero, List.push_toArray, List.append_toArray, List.nil_append, List.cons_append]
  generalize hX : pairsR (recs l u a) = X at *
  gi_wp2
  gi_loopw [5] (fun i wr => ∃ (p : Nat) (pre : List (Rc × Nat)), i = .int .i64 p ∧ a ≤ p ∧ p ≤ u ∧ X = pre ++ pairsR (recs l u p) ∧ J pre wr ∧ Kept n₀ m₀ k₀ W wr) (fun i _ => u - (intOf i).toNat)
  case atStart => exact ⟨a, [], rfl, by omega, by omega, by rw [← hX]; rfl, h0, Kept.refl _ _ _ _⟩
  case round =>
    obtain ⟨p, pre, rfl, hap, hpu, hx, hJs, hb⟩ := hrel
    have cu := hb.cell hbu.1 hbu.2 cBu
    have cb := hb.cell hbb.1 hbb.2 cBb
    obtain ⟨hs, hT⟩ := h1 _ hb.1
    by_cases hlt : p < u
    · obtain ⟨r, q, x, hn⟩ : ∃ r q x, nextR l p u = (r, q, x) := ⟨_, _, _, rfl⟩
      have HN := Lib.hid hn
      gi_wp2_with fail
      refine ⟨trivial, fun h => absurd h (by simp [Fence.wide]), (callsIn_wide.2 (next_any A c l p u (by omega) _ hs hT)).mono ?_⟩
      rw [HN.out]
      rintro e w2 ⟨rfl, hb2⟩
      unfold NV RV
      have hb3 : Below wr.heap.size wr (w2.alloc (.cells #[.int .i64 r.no, .int .i64 r.wire, .int .u64 r.num, .int .i64 r.frm, .int .i64 r.upto] 62)) := below_lit hb2 _
      have hJ3 : J pre (w2.alloc (.cells #[.int .i64 r.no, .int .i64 r.wire, .int .u64 r.num, .int .i64 r.frm, .int .i64 r.upto] 62)) :=
        hJ _ _ _ none hJs ⟨hb3.os, hb3.tape, hb3.output, hb3.size, fun k hk _ => hb3.block k hk⟩ (fun r h => by cases h)
      have hlen : pre.length < X.length := by
        by_cases h0 : x = 0
        · subst h0
          rw [hx, pairs_step hlt hn]; simp
        · rw [hx, pairs_stop hlt hn h0]; simp
      obtain ⟨fn, tmps, assign, body, hy, hR⟩ := hY pre (r, x) _ hJ3 hlen
      dsimp only [encR, RV] at hy
      clear hJ3
      have hb4 : Kept n₀ m₀ k₀ wr (w2.alloc (.cells #[.int .i64 r.no, .int .i64 r.wire, .int .u64 r.num, .int .i64 r.frm, .int .i64 r.upto] 62)) := Kept.of_below hb3 (Nat.le_trans hn₀ hb.1.size) (Nat.le_trans hk₀ hb.1.size)
      by_cases h0 : x = 0
      · subst h0
        have HX : Hid (X = pre ++ [(r, 0)] ++ pairsR (recs l u q)) := Lib.hid (by rw [hx, pairs_step hlt hn]; simp)
        obtain ⟨-, hk1, hk2, -, -, -, -⟩ := next_ok hn
        clear hn hx hX
        rw [show ((0 : Nat) : Int) = 0 from rfl] at hy
        gi_wp2
        refine ⟨fun h => absurd h (by simp [Fence.wide]), hR.mono ?_⟩
        rintro e W3 (⟨rfl, hJ3, hk3⟩ | ⟨rfl, hJx3⟩)
        · gi_wp2
          go_roundw
          case rel => exact ⟨q, pre ++ [(r, 0)], rfl, by omega, by omega, HX.out, hJ3, (hb.trans hb4).trans hk3⟩
          case measure => simp [intOf]; omega
        · gi_wp2
          refine bodyPost_ret (results_none rfl _ _ _) rfl ?_
          exact ⟨⟨_, rfl⟩, .inr ⟨pre ++ [(r, 0)], ⟨_, HX.out.symm⟩, hJx3⟩⟩
      · have HX : Hid (X = pre ++ [(r, x)]) := Lib.hid (by rw [hx, pairs_stop hlt hn h0])
        have hx0 : ((x : Int) != 0) = true := by simp; omega
        clear hn hx hX h0
        gi_wp2
        refine ⟨fun h => absurd h (by simp [Fence.wide]), hR.mono ?_⟩
        rintro e W3 (⟨rfl, hJ3, hk3⟩ | ⟨rfl, hJx3⟩)
        · gi_wp2
          refine bodyPost_ret (results_none rfl _ _ _) rfl ?_
          exact ⟨⟨_, rfl⟩, .inl ⟨_, HX.out.symm, hJ3⟩⟩
        · gi_wp2
          refine bodyPost_ret (results_none rfl _ _ _) rfl ?_
          exact ⟨⟨_, rfl⟩, .inr ⟨pre ++ [(r, x)], ⟨[], by rw [HX.out]; simp⟩, hJx3⟩⟩
    · have hx' : X = pre := by rw [hx, pairs_end hlt]; simp
      gi_wp2
      go_end0
      exact ⟨⟨_, rfl⟩, .inl ⟨pre, hx'.symm, hJs⟩⟩
theorem each_stops (n : Nat) (Ba Bu Bb n₀ m₀ k₀ : Nat) (A : Option Addr) (c : Nat) (l : List UInt8) (a u : Nat) (hl : l.length ≤ 1000000) (hau : a ≤ u) (hul : u ≤ l.length) (w : World)
    (hba : m₀ ≤ Ba ∧ Ba < k₀) (hbu : m₀ ≤ Bu ∧ Bu < k₀) (hbb : m₀ ≤ Bb ∧ Bb < k₀) (hn₀ : n₀ ≤ w.heap.size) (hk₀ : k₀ ≤ w.heap.size)
    (cBa : w.cell? ⟨Ba, 0, none⟩ = some (.int .i64 a)) (cBu : w.cell? ⟨Bu, 0, none⟩ = some (.int .i64 u)) (cBb : w.cell? ⟨Bb, 0, none⟩ = some (.slice A l.length c)) (h1 : ∀ W', Below n₀ w W' → SlB W' A c l ∧ Wires W') :
    SeqStopsK Fence.wide n Tryz.prog 64 #[.pointer (some ⟨Ba, 0, none⟩), .pointer (some ⟨Bu, 0, none⟩), .pointer (some ⟨Bb, 0, none⟩)] encR (Kept n₀ m₀ k₀)
      (fun ys => ys = pairsR (recs l u a)) (fun pre => pre <+: pairsR (recs l u a)) (pairsR (recs l u a)).length w := fun lp J Jx W hW hJ _ hY h0 =>
  each1_in n lp Ba Bu Bb n₀ m₀ k₀ hba hbu hbb A c l a u hl hau hul J Jx W (Nat.le_trans hn₀ hW.size) (Nat.le_trans hk₀ hW.size) hJ hY ((hW.cell (p := ⟨Ba, 0, none⟩) (Nat.lt_of_lt_of_le hba.2 hk₀)).trans cBa) ((hW.cell (p := ⟨Bu, 0, none⟩) (Nat.lt_of_lt_of_le hbu.2 hk₀)).trans cBu) ((hW.cell (p := ⟨Bb, 0, none⟩) (Nat.lt_of_lt_of_le hbb.2 hk₀)).trans cBb)
    (fun W' hb => h1 W' ((hW.mono hn₀).trans hb)) h0
end Go.Proofs.YtipaangiehdgkaaGreatDoor
/-
  All records from one place to another one: the contract of the function that ranges over what is handed on.
-/
namespace Go.Proofs.YtipaangiehdgkaaGreatDoor
set_option maxRecDepth 100000

open Go.RowKit Go.Shelf

attribute [local go_sem] Oper.semAt_some

theorem recsF_len (l : List UInt8) (u : Nat) : ∀ f a, (recsF l u f a).1.length ≤ f
  | 0, _ => by simp [recsF]
  | f + 1, a => by
    unfold recsF
    split
    · split
      · have := recsF_len l u f (nextR l a u).2.1
        simp only [List.length_cons]
        omega
      · simp
    · simp
theorem recs_len (l : List UInt8) (u a : Nat) : (recs l u a).1.length ≤ u - a := recsF_len l u _ _
theorem pairs_len (l : List UInt8) (u a : Nat) : (pairsR (recs l u a)).length ≤ u - a + 1 := by
  have := recs_len l u a
  unfold pairsR
  rw [List.length_append, List.length_map]
  split <;> simp <;> omega
theorem pairs_done {X : List Rc × Nat} (h : ∀ y ∈ pairsR X, y.2 = 0) : X.2 = 0 ∧ (pairsR X).map (·.1) = X.1 := by
  unfold pairsR at *
  by_cases h0 : X.2 = 0
  · exact ⟨h0, by simp [h0, Function.comp_def]⟩
  · rw [if_neg h0] at h
    have := h (Rc.zero, X.2) (by simp)
    exact absurd this h0
theorem pairs_left {X : List Rc × Nat} {pre : List (Rc × Nat)} {z : Rc × Nat} (h : pre ++ [z] <+: pairsR X) (h0 : z.2 ≠ 0) : X.2 = z.2 ∧ pre.map (·.1) = X.1 := by
  obtain ⟨t, ht⟩ := h
  unfold pairsR at ht
  have hmem : z ∈ pre ++ [z] ++ t := by simp
  rw [ht] at hmem
  rcases List.mem_append.1 hmem with hm | hm
  · obtain ⟨r, _, hr⟩ := List.mem_map.1 hm
    rw [← hr] at h0
    exact absurd rfl h0
  · by_cases hX : X.2 = 0
    · rw [if_pos hX] at hm; simp at hm
    · rw [if_neg hX] at hm ht
      obtain rfl : z = (Rc.zero, X.2) := by simpa using hm
      refine ⟨rfl, ?_⟩
      -- the place of the error is the last one
      rcases Nat.lt_or_ge pre.length X.1.length with hlt | hge
      · have h1 : (pre ++ [(Rc.zero, X.2)] ++ t)[pre.length]? = some (Rc.zero, X.2) := by simp
        rw [ht, List.getElem?_append_left (by simpa using hlt), List.getElem?_map] at h1
        obtain ⟨r, _, hr⟩ := Option.map_eq_some_iff.1 h1
        have hs := congrArg Prod.snd hr
        exact absurd hs.symm h0
      · have hl := congrArg List.length ht
        simp only [List.length_append, List.length_map, List.length_cons, List.length_nil] at hl
        have h2 : t = [] := List.eq_nil_of_length_eq_zero (by omega)
        subst h2
        rw [List.append_nil] at ht
        have h3 := List.append_inj ht (by simp only [List.length_map]; omega)
        rw [h3.1, List.map_map]
        simp [Function.comp_def]

theorem Kept.set {n m k b : Nat} (W : World) (v : Value) (hn : n ≤ b) (hm : b < m) : Kept n m k W (W.setCell ⟨b, 0, none⟩ v) :=
  ⟨(Below.refl _ _).setCell (p := ⟨b, 0, none⟩) hn _, fun j hj _ => Below.heap_setCell _ _ _ j (fun e => by have : j = b := e; omega)⟩
theorem own_set5 {W : World} {B : Nat} {t e : TypeId} {u v x : Value} {base size k : Nat} {xs : List Value} (h : W.ownsRow base e size v k xs) (hb : Boxed W B t u) (hte : t ≠ e) : (W.setCell ⟨B, 0, none⟩ x).ownsRow base e size v k xs :=
  h.kept (grownBy_setCell' W B x) (.inr (hb.not_row hte h).symm)
/-- What a box of another type holds it holds behind an append onto a row of the call's own. -/
theorem boxed_past {W w1 : World} {B : Nat} {t e : TypeId} {u v : Value} {base size k : Nat} {xs : List Value} {tmp : Obj} (hb : Boxed W B t u) (hte : t ≠ e) (h : W.ownsRow base e size v k xs) (hg : (W.alloc tmp).grownBy w1 v.ownBlock) : Boxed w1 B t u :=
  (hb.alloc tmp).kept hg (hb.not_row hte h)

/-- Between two rounds: what has come lies in the slice that is gathered. -/
def AllI (w W0 : World) (pre : List (Rc × Nat)) (W : World) : Prop :=
  ((∀ y ∈ pre, y.2 = 0) ∧ ((∃ v, Boxed W (w.heap.size + 1 + 1) 57 v ∧ W.ownsRow w.heap.size 62 5 v pre.length (rs (pre.map (·.1))) ∧ True) ∧ (Boxed W w.heap.size 57 (.slice none 0 0) ∧ Boxed W (w.heap.size + 1) 25 (.int .i64 0)))) ∧ Kept w.heap.size (w.heap.size + 3) (w.heap.size + 6) W0 W
theorem AllI.mk {w W0 W : World} {pre : List (Rc × Nat)} (h : ((∀ y ∈ pre, y.2 = 0) ∧ ((∃ v, Boxed W (w.heap.size + 1 + 1) 57 v ∧ W.ownsRow w.heap.size 62 5 v pre.length (rs (pre.map (·.1))) ∧ True) ∧ (Boxed W w.heap.size 57 (.slice none 0 0) ∧ Boxed W (w.heap.size + 1) 25 (.int .i64 0)))) ∧ Kept w.heap.size (w.heap.size + 3) (w.heap.size + 6) W0 W) : AllI w W0 pre W := h
theorem AllI.own {w W0 : World} (h : W0.heap.size = w.heap.size + 6) : OwnFrom W0.heap.size (AllI w W0) :=
  OwnFrom.and (OwnFrom.and (ownFrom_pure _ (fun pre : List (Rc × Nat) => ∀ y ∈ pre, y.2 = 0)) (OwnFrom.and (Own.from (holdsRow_own w.heap.size (w.heap.size + 1 + 1) 57 62 5 (fun pre : List (Rc × Nat) => pre.length) (fun pre => rs (pre.map (·.1))) (fun _ _ => True)) _) (OwnFrom.and (Own.from (boxed_own _ _ (fun _ => .slice none 0 0)) _) (Own.from (boxed_own _ _ (fun _ => .int .i64 0)) _)))) (Kept.own (by omega) (by omega))
/-- A round has left: what had come, and an error. -/
def AllIx (w W0 : World) (cd : Code) (pre : List (Rc × Nat)) (W : World) : Prop :=
  (cd = .ret ∧ ∃ pre' z, pre = pre' ++ [z] ∧ z.2 ≠ 0 ∧ ((∃ v, Boxed W w.heap.size 57 v ∧ W.ownsRow w.heap.size 62 5 v pre'.length (rs (pre'.map (·.1))) ∧ True) ∧ Boxed W (w.heap.size + 1) 25 (.int .i64 z.2))) ∧ Kept w.heap.size (w.heap.size + 3) (w.heap.size + 6) W0 W
theorem AllIx.mk {w W0 W : World} {cd : Code} {pre : List (Rc × Nat)} (h : (cd = .ret ∧ ∃ pre' z, pre = pre' ++ [z] ∧ z.2 ≠ 0 ∧ ((∃ v, Boxed W w.heap.size 57 v ∧ W.ownsRow w.heap.size 62 5 v pre'.length (rs (pre'.map (·.1))) ∧ True) ∧ Boxed W (w.heap.size + 1) 25 (.int .i64 z.2))) ∧ Kept w.heap.size (w.heap.size + 3) (w.heap.size + 6) W0 W) : AllIx w W0 cd pre W := h
theorem AllIx.own {w W0 : World} (h : W0.heap.size = w.heap.size + 6) (cd : Code) : OwnFrom W0.heap.size (AllIx w W0 cd) :=
  OwnFrom.and (fun s X Y row hs hg hr => by
    obtain ⟨rfl, pre', z, hp, hz, hh, hb⟩ := hs
    exact ⟨rfl, pre', z, hp, hz, holdsRow_own w.heap.size w.heap.size 57 62 5 (fun pre : List (Rc × Nat) => pre.length) (fun pre => rs (pre.map (·.1))) (fun _ _ => True) pre' X Y row hh hg (fun r e => (hr r e).2),
      boxed_own _ _ (fun (_ : Unit) => Value.int .i64 z.2) () X Y row hb hg (fun r e => (hr r e).2)⟩) (Kept.own (by omega) (by omega))

/-- Both ways out end so: the two results lie in their boxes. -/
theorem all_out {w W : World} {D n c' : Nat} {A' : Option Addr} {X : List Rc × Nat} {tmps : Array Value} (hn : n = X.1.length)
    (t6 : tmps.getD 6 undef = .pointer (some ⟨w.heap.size, 0, none⟩)) (t7 : tmps.getD 7 undef = .pointer (some ⟨w.heap.size + 1, 0, none⟩))
    (h6 : Boxed W w.heap.size 57 (.slice A' n c')) (h7 : Boxed W (w.heap.size + 1) 25 (.int .i64 X.2)) (hown : W.ownsRow w.heap.size 62 5 (.slice A' n c') n (rs X.1))
    (hK : W.heap[D]? = some (.deferred (some []))) (hD : w.heap.size ≤ D) (hb : Below w.heap.size w W) :
    bodyPostM Fence.wide 4 Tryz.prog Tryz.f19 (fun e w' => ∃ A' c', e = .returned (.tuple #[.slice A' X.1.length c', .int .i64 X.2]) ∧ SlR w' A' c' X.1 ∧ Below w.heap.size w w') .ret { tmps := tmps, defers := [{ target := Target.collected D, args := #[] }] } W := by
  subst hn
  refine ⟨by simp [Fence.wide], .inl ⟨_, _, rfl, run_takeDeferred hK, ?_⟩⟩
  have c6 := cell_kept h6.cell (grownBy_putObj' W D (.deferred none)) (fun r e => by cases e; exact ⟨_, hK, rfl⟩)
  have c7 := cell_kept h7.cell (grownBy_putObj' W D (.deferred none)) (fun r e => by cases e; exact ⟨_, hK, rfl⟩)
  have t6' : tmps[6]?.getD undef = .pointer (some ⟨w.heap.size, 0, none⟩) := by simpa using t6
  have t7' : tmps[7]?.getD undef = .pointer (some ⟨w.heap.size + 1, 0, none⟩) := by simpa using t7
  refine ⟨.tuple #[.slice A' X.1.length c', .int .i64 X.2], ?_, A', c', rfl, ?_, hb.trans (belowK_b (w := w) (Nat.le_refl _) W D _ _ hD hK rfl rfl)⟩
  · simp [results, Tryz.f19, go_sem, t6', t7', c6, c7]
  · obtain ⟨A2, c2, hv, hr⟩ := SlR.of_own (ownsRow_putObj hown (.deferred none) hK rfl)
    cases hv
    exact hr

set_option maxRecDepth 1000000 in
set_option maxHeartbeats 4000000 in
theorem all_in (A : Option Addr) (c : Nat) (l : List UInt8) (a u : Nat) (hl : l.length ≤ 1000000) (hau : a ≤ u) (hul : u ≤ l.length) (w : World) (h1 : SlB w A c l) (T : Wires w) :
    CallsIn Fence.wide 4 Tryz.prog 19 #[.slice A l.length c, .int .i64 a, .int .i64 u] w fun e w' => ∃ A' c', e = .returned (.tuple #[.slice A' (recs l u a).1.length c', .int .i64 (recs l u a).2]) ∧ SlR w' A' c' (recs l u a).1 ∧ Below w.heap.size w w' := by
  obtain ⟨i0, hi, hz0, hz1, hz2⟩ := info_parts infoRecs
  have d0 : decide ((a : Int) < 0) = false := by simp
  have d1 : decide (u < a) = false := by simp; omega
  have d2 : decide (l.length < u) = false := by simp; omega
  refine callsIn_of_wp_marks Tryz.func19 rfl trivial ?_ rfl
  simp only [Tryz.ntmps19, List.size_toArray, List.length_cons, List.length_nil, Nat.reduceAdd, Nat.reduceSub, Array.replicate_succ, Array.replicate_zero, List.push_toArray, List.append_toArray, List.nil_append, List.cons_append]
  gi_wp2_with fail
  refine ⟨trivial, (callsIn_wide.2 (each_any A c l a u _)).mono ?_⟩
  rintro e w2 ⟨rfl, rfl⟩
  gi_wp2
  have b6 := (((((Boxed.new w 57 (.slice none 0 0)).alloc (.cells #[.int .i64 0] 25)).alloc (.cells #[.slice none 0 0] 57)).alloc (.cells #[.slice A l.length c] 22)).alloc (.cells #[.int .i64 a] 3)).alloc (.cells #[.int .i64 u] 3)
  have b7 := ((((Boxed.new (w.alloc (.cells #[.slice none 0 0] 57)) 25 (.int .i64 0)).alloc (.cells #[.slice none 0 0] 57)).alloc (.cells #[.slice A l.length c] 22)).alloc (.cells #[.int .i64 a] 3)).alloc (.cells #[.int .i64 u] 3)
  have b8 := (((Boxed.new ((w.alloc (.cells #[.slice none 0 0] 57)).alloc (.cells #[.int .i64 0] 25)) 57 (.slice none 0 0)).alloc (.cells #[.slice A l.length c] 22)).alloc (.cells #[.int .i64 a] 3)).alloc (.cells #[.int .i64 u] 3)
  have bB := ((Boxed.new (((w.alloc (.cells #[.slice none 0 0] 57)).alloc (.cells #[.int .i64 0] 25)).alloc (.cells #[.slice none 0 0] 57)) 22 (.slice A l.length c)).alloc (.cells #[.int .i64 a] 3)).alloc (.cells #[.int .i64 u] 3)
  have bA := (Boxed.new ((((w.alloc (.cells #[.slice none 0 0] 57)).alloc (.cells #[.int .i64 0] 25)).alloc (.cells #[.slice none 0 0] 57)).alloc (.cells #[.slice A l.length c] 22)) 3 (.int .i64 a)).alloc (.cells #[.int .i64 u] 3)
  have bU := Boxed.new (((((w.alloc (.cells #[.slice none 0 0] 57)).alloc (.cells #[.int .i64 0] 25)).alloc (.cells #[.slice none 0 0] 57)).alloc (.cells #[.slice A l.length c] 22)).alloc (.cells #[.int .i64 a] 3)) 3 (.int .i64 u)
  simp only [World.size_alloc] at b7 b8 bB bA bU
  have hB0 := below_lit (below_lit (below_lit (below_lit (below_lit (below_new w (.cells #[.slice none 0 0] 57)) (.cells #[.int .i64 0] 25)) (.cells #[.slice none 0 0] 57)) (.cells #[.slice A l.length c] 22)) (.cells #[.int .i64 a] 3)) (.cells #[.int .i64 u] 3)
  have hsz : ((((((w.alloc (.cells #[.slice none 0 0] 57)).alloc (.cells #[.int .i64 0] 25)).alloc (.cells #[.slice none 0 0] 57)).alloc (.cells #[.slice A l.length c] 22)).alloc (.cells #[.int .i64 a] 3)).alloc (.cells #[.int .i64 u] 3)).heap.size = w.heap.size + 6 := by simp
  generalize (((((w.alloc (.cells #[.slice none 0 0] 57)).alloc (.cells #[.int .i64 0] 25)).alloc (.cells #[.slice none 0 0] 57)).alloc (.cells #[.slice A l.length c] 22)).alloc (.cells #[.int .i64 a] 3)).alloc (.cells #[.int .i64 u] 3) = W0 at *
  have hN := pairs_len l u a
  refine wpIn_rangeFunc_ownH rfl (by omega) (gf := 64) (lb := #[.pointer (some ⟨w.heap.size + 1 + 1 + 1 + 1, 0, none⟩), .pointer (some ⟨w.heap.size + 1 + 1 + 1 + 2, 0, none⟩), .pointer (some ⟨w.heap.size + 1 + 1 + 1, 0, none⟩)]) rfl trivial (enters_of Tryz.func64 (by kernel_rfl) rfl)
    (each_stops (4 - 1) (w.heap.size + 1 + 1 + 1 + 1) (w.heap.size + 1 + 1 + 1 + 2) (w.heap.size + 1 + 1 + 1) w.heap.size (w.heap.size + 3) (w.heap.size + 6) A c l a u hl hau hul W0 (by omega) (by omega) (by omega) (by omega) (by omega) bA.cell bU.cell bB.cell (fun W' hb => ⟨h1.on (hB0.trans hb), T.on (hB0.trans hb)⟩)) Kept.trans (Kept.put (by omega) (by omega)) (Below.refl _ _) (fun _ => rfl)
    (AllI w W0)
    (AllIx w W0)
    (AllI.own hsz) (AllIx.own hsz)
    (AllI.mk ⟨⟨by simp, ⟨_, b8, World.ownsRow_nil _ _ _ _, trivial⟩, b6, b7⟩, Kept.refl _ _ _ _⟩)
    (fun x a' W => ∃ Bx, w.heap.size + 5 < Bx ∧ W.heap[Bx]? = some (.cells #[.int .i64 x.1.no, .int .i64 x.1.wire, .int .u64 x.1.num, .int .i64 x.1.frm, .int .i64 x.1.upto] 62 (0, 0)) ∧ a' = { tmps := #[.slice A l.length c, .int .i64 a, .int .i64 u, undef, undef, undef, .pointer (some ⟨w.heap.size, 0, none⟩), .pointer (some ⟨w.heap.size + 1, 0, none⟩), .pointer (some ⟨w.heap.size + 1 + 1, 0, none⟩), .pointer (some ⟨Bx, 0, none⟩), .int .i64 x.2, .int .i64 a,
      .bool false, .bool false, .int .i64 a, .int .i64 u, .bool false, .bool false, .bool false, .int .i64 u, .slice A l.length c, .int .i64 l.length, .bool false, .bool false, .slice A l.length c, .int .i64 a, .int .i64 u,
      .func (.func 64) #[] #[.pointer (some ⟨w.heap.size + 1 + 1 + 1 + 1, 0, none⟩), .pointer (some ⟨w.heap.size + 1 + 1 + 1 + 2, 0, none⟩), .pointer (some ⟨w.heap.size + 1 + 1 + 1, 0, none⟩)], RV x.1, .int .i64 x.2, undef, undef, undef, undef, undef, undef, undef, undef, undef], defers := [] })
    (fun x a' _ X Y row hs hg hr => by
      obtain ⟨Bx, q1, q2, q3⟩ := hs
      refine ⟨Bx, q1, (hg.block Bx (Array.getElem?_eq_some_iff.1 q2).1 fun e => ?_).trans q2, q3⟩
      obtain ⟨_, o, ho, hc⟩ := hr Bx e.symm
      rw [q2] at ho; cases ho; cases hc)
    ?assign ?body ?done ?stop
  case assign =>
    rintro lp pre x W K ⟨⟨hp, ⟨v, hv8, hown, -⟩, hv6, hv7⟩, hB⟩ hK
    have hsW := hB.1.size
    unfold encR RV
    gi_wp2
    have hk1 : Kept w.heap.size (w.heap.size + 3) (w.heap.size + 6) W (W.alloc (.cells #[.int .i64 x.1.no, .int .i64 x.1.wire, .int .u64 x.1.num, .int .i64 x.1.frm, .int .i64 x.1.upto] 62)) := Kept.of_below (below_new W _) (by omega) (by omega)
    exact hK _ _ ((KeepsOthers.alloc _ _).from _) hk1 (AllI.mk ⟨⟨hp, ⟨v, hv8.alloc _, hown.alloc _, trivial⟩, hv6.alloc _, hv7.alloc _⟩, hB.trans hk1⟩) ⟨W.heap.size, by omega, World.alloc_heap_new W _, rfl⟩
  case body =>
    rintro lp pre x a' W - - ⟨⟨hp, ⟨v, hv8, hown, -⟩, hv6, hv7⟩, hB⟩ ⟨Bx, hBx, hX, rfl⟩ hlt
    have hsW := hB.1.size
    obtain ⟨q0, q1, q2, q3, q4⟩ := heap_cells hX
    have c8 := hv8.cell
    have c7 := hv7.cell
    have c6 := hv6.cell
    have f7 := hv7.frozen
    have f6 := hv6.frozen
    by_cases hx : x.2 = 0
    · have hx0 : ((x.2 : Int) != 0) = false := by simp [hx]
      have E1 : Hid (pre.length + 1 = (pre ++ [x]).length) := Lib.hid (by simp)
      have E2 : Hid (rs (pre.map (·.1)) ++ rs [x.1] = rs ((pre ++ [x]).map (·.1))) := Lib.hid (by rw [← rs_append]; simp)
      have hp' : ∀ y ∈ pre ++ [x], y.2 = 0 := fun y hy => by
        rcases List.mem_append.1 hy with h | h
        · exact hp y h
        · obtain rfl : y = x := by simpa using h
          exact hx
      clear hx
      have hnr : ∀ j, w.heap.size + 3 ≤ j → j < w.heap.size + 6 → some j ≠ v.ownBlock := by
        intro j hm hj
        rcases (show j = w.heap.size + 1 + 1 + 1 ∨ j = w.heap.size + 1 + 1 + 1 + 1 ∨ j = w.heap.size + 1 + 1 + 1 + 1 + 1 by omega) with rfl | rfl | rfl
        · exact Boxed.not_row ((hB.2 _ hm hj).trans bB) (by decide) hown
        · exact Boxed.not_row ((hB.2 _ hm hj).trans bA) (by decide) hown
        · exact Boxed.not_row ((hB.2 _ hm hj).trans bU) (by decide) hown
      gi_wp2_with (gi_at_builtin; refine wpListIn_append_own _ rfl _ _ 57 rfl w.heap.size 62 i0 _ 5 40 Tryz.underlying57 hi hz0 hz1 hz2 rfl (by omega) v _ _ rfl (hown.alloc _) ⟨W.heap.size, 0, none⟩ 1 1 (rs [x.1]) rfl (by simp [rs, RC]) ((lit_rec W x.1).cell _ rfl) (rs_one [x.1]) (by unfold maxLen; omega) (by omega) (by simp; omega) ?_; intro v' w1 hown' hgrow _; obtain ⟨g', cap', rfl⟩ := ownsRow_succ hown'; obtain ⟨hv1, hv2, hr2, hk2, hb2⟩ := hv8.appended (by decide) hown (by omega) (by omega) hown' hgrow; have hc1 := hv1.cell; have hf1 := hv1.frozen)
      have k6 := (boxed_past hv6 (by decide) hown hgrow).other (B' := w.heap.size + 1 + 1) (by omega) (.slice (some ⟨g', 0, none⟩) (pre.length + 1) cap')
      have k7 := (boxed_past hv7 (by decide) hown hgrow).other (B' := w.heap.size + 1 + 1) (by omega) (.slice (some ⟨g', 0, none⟩) (pre.length + 1) cap')
      have hkk : Kept w.heap.size (w.heap.size + 3) (w.heap.size + 6) W (w1.setCell ⟨w.heap.size + 1 + 1, 0, none⟩ (.slice (some ⟨g', 0, none⟩) (pre.length + 1) cap')) := ⟨hb2, fun j hm hj => by
        rw [Below.heap_setCell _ _ _ j (fun e => by have : j = w.heap.size + 1 + 1 := e; omega), hgrow.block j (by simp; omega) (hnr j hm hj), heap_alloc_old _ _ _ (by omega)]⟩
      rw [E2.out] at hr2
      exact ⟨hk2.from _, hkk, AllI.mk ⟨⟨hp', ⟨_, hv2, by rw [← E1.out]; exact hr2, trivial⟩, k6, k7⟩, hB.trans hkk⟩⟩
    · have hx0 : ((x.2 : Int) != 0) = true := by simp; omega
      obtain ⟨A', c', rfl, hr⟩ := Sl.of_own hown
      gi_wp2
      refine ⟨((KeepsOthers.setCell _ _ _).trans (KeepsOthers.setCell _ _ _)).from _, AllIx.mk ⟨⟨rfl, pre, x, rfl, hx, ⟨_, (hv6.set _).other (by omega) _, own_set5 (own_set5 hown hv6 (by decide)) (hv7.other (by omega) _) (by decide), trivial⟩, (hv7.other (by omega) _).set _⟩, ?_⟩⟩
      exact (hB.trans (Kept.set _ _ (by omega) (by omega))).trans (Kept.set _ _ (by omega) (by omega))
  case done =>
    rintro D ys W hD rfl ⟨⟨hp, ⟨v, hv8, hown, -⟩, hv6, hv7⟩, hB⟩ hK
    obtain ⟨hX0, hX1⟩ := pairs_done hp
    have hlen : (pairsR (recs l u a)).length = (recs l u a).1.length := by rw [← hX1, List.length_map]
    rw [hX1, hlen] at hown
    obtain ⟨A', c', rfl, hr⟩ := Sl.of_own hown
    have c8 := hv8.cell
    have c7 := hv7.cell
    have c6 := hv6.cell
    have f7 := hv7.frozen
    have f6 := hv6.frozen
    have HX0 := Lib.hid hX0
    clear hX0
    gi_wp2
    have e6 : Boxed ((W.setCell ⟨w.heap.size, 0, none⟩ (.slice A' (recs l u a).1.length c')).setCell ⟨w.heap.size + 1, 0, none⟩ (.int .i64 0)) w.heap.size 57 (.slice A' (recs l u a).1.length c') := (hv6.set _).other (by omega) _
    have e7 : Boxed ((W.setCell ⟨w.heap.size, 0, none⟩ (.slice A' (recs l u a).1.length c')).setCell ⟨w.heap.size + 1, 0, none⟩ (.int .i64 0)) (w.heap.size + 1) 25 (.int .i64 0) := (hv7.other (by omega) _).set _
    have eo : ((W.setCell ⟨w.heap.size, 0, none⟩ (.slice A' (recs l u a).1.length c')).setCell ⟨w.heap.size + 1, 0, none⟩ (.int .i64 0)).ownsRow w.heap.size 62 5 (.slice A' (recs l u a).1.length c') (recs l u a).1.length (rs (recs l u a).1) := own_set5 (own_set5 hown hv6 (by decide)) (hv7.other (B' := w.heap.size) (by omega) _) (by decide)
    have eb : Below w.heap.size w ((W.setCell ⟨w.heap.size, 0, none⟩ (.slice A' (recs l u a).1.length c')).setCell ⟨w.heap.size + 1, 0, none⟩ (.int .i64 0)) := ((hB0.trans hB.1).setCell (p := ⟨w.heap.size, 0, none⟩) (Nat.le_refl _) _).setCell (p := ⟨w.heap.size + 1, 0, none⟩) (Nat.le_succ _) _
    have eK := (KeepsOthers.setCell (W.setCell ⟨w.heap.size, 0, none⟩ (.slice A' (recs l u a).1.length c')) ⟨w.heap.size + 1, 0, none⟩ (.int .i64 0)).same D _ ((KeepsOthers.setCell W ⟨w.heap.size, 0, none⟩ (.slice A' (recs l u a).1.length c')).same D _ hK rfl) rfl
    generalize (W.setCell ⟨w.heap.size, 0, none⟩ (.slice A' (recs l u a).1.length c')).setCell ⟨w.heap.size + 1, 0, none⟩ (.int .i64 0) = W2 at *
    exact all_out rfl rfl rfl e6 (by rw [HX0.out]; exact e7) eo eK (by omega) eb
  case stop =>
    rintro D cd pre W hD hS ⟨⟨rfl, pre', z, rfl, hz, ⟨v, hv6, hown, -⟩, hv7⟩, hB⟩ hK
    obtain ⟨hX0, hX1⟩ := pairs_left hS hz
    rw [hX1] at hown
    obtain ⟨A', c', rfl, hr⟩ := Sl.of_own hown
    have hlen : pre'.length = (recs l u a).1.length := by rw [← hX1, List.length_map]
    gi_wp2
    exact all_out hlen rfl rfl hv6 (by rw [hX0]; exact hv7) hown hK (by omega) (hB0.trans hB.1)

set_option maxRecDepth 1000000 in
theorem all_any5 (A : Option Addr) (c : Nat) (l : List UInt8) (a u : Int) (hl : l.length ≤ 1000000) (w : World) (h1 : SlB w A c l) (T : Wires w) :
    Calls Tryz.prog 19 #[.slice A l.length c, .int .i64 a, .int .i64 u] w fun e w' => ∃ A' c', e = .returned (.tuple #[.slice A' (allR l a u).1.length c', .int .i64 (allR l a u).2]) ∧ SlR w' A' c' (allR l a u).1 ∧ Below w.heap.size w w' := by
  by_cases hm : mayB a u l.length = true
  · have hR : allR l a u = recs l u.toNat a.toNat := by unfold allR; rw [if_pos hm]
    rw [hR]
    have h' := mayB_true.1 hm
    obtain ⟨an, rfl⟩ := Int.eq_ofNat_of_zero_le h'.1
    obtain ⟨un, rfl⟩ := Int.eq_ofNat_of_zero_le (show 0 ≤ u by omega)
    exact callsIn_wide.1 (all_in A c l an un hl (by omega) (by omega) w h1 T)
  · have hm : mayB a u l.length = false := by simpa using hm
    have hR : allR l a u = ([], 1) := by unfold allR; rw [hm]; rfl
    rw [hR]
    have hl2 := h1.small.1
    have h' := mayB_false.1 hm
    have hd : (decide (a < 0) = true) ∨ (decide (a < 0) = false ∧ decide (u < a) = true) ∨ (decide (a < 0) = false ∧ decide (u < a) = false ∧ decide ((l.length : Int) < u) = true) := by
      simp only [decide_eq_true_eq, decide_eq_false_iff_not]
      omega
    clear h' hm hR
    rcases hd with d0 | ⟨d0, d1⟩ | ⟨d0, d1, d2⟩
    all_goals
      go_enter Tryz.func19, Tryz.ntmps19
      go_wp2
      refine bodyPost_ret (v := .tuple #[.slice none 0 0, .int .i64 1]) ?_ rfl ⟨none, 0, rfl, SlR.nil _, below_lit (below_new _ _) _⟩
      simp [results, Tryz.f19, go_sem]
end Go.Proofs.YtipaangiehdgkaaGreatDoor
/-
  What is told of a record hangs on the bytes from its place to the end alone; and, where there is no error, on its own bytes alone: facts on lists of bytes.
-/
namespace Go.Proofs.YtipaangiehdgkaaGreatDoor
set_option maxRecDepth 100000

open Go.RowKit

/-! ### The window -/

def wfix (d : List UInt8) (S : Nat) : Nat × Nat × Nat := if d.length < S then (0, 0, 6) else (fixn (d.take S), S, 0)
def wnum (wire : Nat) (d : List UInt8) : Nat × Nat × Nat := if wire = 1 then wfix d 8 else if wire = 5 then wfix d 4 else vget d
def wrun (no wire k n q : Nat) (len : Nat) : Rc × Nat × Nat :=
  if wire = 2 then (if n ≤ len - (k + q) then (⟨no, wire, n, k + q, k + q + n⟩, k + q + n, 0) else (Rc.zero, 0, 6)) else (⟨no, wire, n, k, k + q⟩, k + q, 0)
def wrest (no wire k : Nat) (len : Nat) (x : Nat × Nat × Nat) : Rc × Nat × Nat := if x.2.2 = 0 then wrun no wire k x.1 x.2.1 len else (Rc.zero, 0, x.2.2)
def wtell (t : Nat × Nat × Nat) (k : Nat) (d : List UInt8) : Rc × Nat × Nat := if t.2.2 = 0 then wrest t.1 t.2.1 k d.length (wnum t.2.1 (d.drop k)) else (Rc.zero, 0, t.2.2)
def wnext (d : List UInt8) : Rc × Nat × Nat := if (vget d).2.2 = 0 then wtell (tellsN (vget d).1) (vget d).2.1 d else (Rc.zero, 0, (vget d).2.2)
/-- Further on by a. -/
def shR (a : Nat) (x : Rc × Nat × Nat) : Rc × Nat × Nat := if x.2.2 = 0 then (⟨x.1.no, x.1.wire, x.1.num, a + x.1.frm, a + x.1.upto⟩, a + x.2.1, 0) else (Rc.zero, 0, x.2.2)

theorem getS_win (l : List UInt8) (a u : Nat) : getS l a u = ((vget ((l.drop a).take (u - a))).1, (if (vget ((l.drop a).take (u - a))).2.2 = 0 then a + (vget ((l.drop a).take (u - a))).2.1 else 0), (vget ((l.drop a).take (u - a))).2.2) := rfl
theorem win_drop (l : List UInt8) (a u k : Nat) : (l.drop (a + k)).take (u - (a + k)) = ((l.drop a).take (u - a)).drop k := by
  rw [List.drop_take, List.drop_drop, Nat.sub_sub]
theorem num_win (l : List UInt8) (a u wire : Nat) (hau : a ≤ u) (hu : u ≤ l.length) :
    numR l a u wire = ((wnum wire ((l.drop a).take (u - a))).1, (if (wnum wire ((l.drop a).take (u - a))).2.2 = 0 then a + (wnum wire ((l.drop a).take (u - a))).2.1 else 0), (wnum wire ((l.drop a).take (u - a))).2.2) := by
  have hm : mayB a u l.length = true := by rw [mayB_true]; omega
  have hl : ((l.drop a).take (u - a)).length = u - a := by simp; omega
  have hf : ∀ S : Nat, S = 4 ∨ S = 8 → unfixR l a u S = ((wfix ((l.drop a).take (u - a)) S).1, (if (wfix ((l.drop a).take (u - a)) S).2.2 = 0 then a + (wfix ((l.drop a).take (u - a)) S).2.1 else 0), (wfix ((l.drop a).take (u - a)) S).2.2) := by
    intro S hS
    have hs : sizeB S = true := by rcases hS with rfl | rfl <;> rfl
    unfold unfixR unfixS wfix
    rw [hm, hs, hl]
    simp only [Bool.and_self, if_true, Int.toNat_natCast]
    split
    · rfl
    · simp only [if_true]
      rw [List.take_take, Nat.min_eq_left (by omega)]
  unfold numR wnum
  split
  · exact hf 8 (Or.inr rfl)
  · split
    · exact hf 4 (Or.inl rfl)
    · unfold getR
      rw [if_pos hm]
      simp only [Int.toNat_natCast]
      rfl
theorem vget_le {d : List UInt8} : (vget d).2.1 ≤ d.length := vget_bound d
theorem wfix_le {d : List UInt8} {S : Nat} : (wfix d S).2.1 ≤ d.length := by
  unfold wfix
  split
  · simp
  · simp only; omega
theorem wnum_le {wire : Nat} {d : List UInt8} : (wnum wire d).2.1 ≤ d.length := by
  unfold wnum
  split
  · exact wfix_le
  · split
    · exact wfix_le
    · exact vget_le
theorem sh_err {a e : Nat} (h : e ≠ 0) : shR a (Rc.zero, 0, e) = (Rc.zero, 0, e) := by unfold shR; rw [if_neg h]
theorem next_win (l : List UInt8) (a u : Nat) (hau : a ≤ u) (hu : u ≤ l.length) : nextR l a u = shR a (wnext ((l.drop a).take (u - a))) := by
  have hm : mayB a u l.length = true := by rw [mayB_true]; omega
  have hl : ((l.drop a).take (u - a)).length = u - a := by simp; omega
  have hg : getR l a u = getS l a u := by unfold getR; rw [if_pos hm]; simp only [Int.toNat_natCast]
  have hk := vget_le (d := (l.drop a).take (u - a))
  unfold nextR tgetR
  rw [hg, getS_win]
  unfold wnext
  by_cases h0 : (vget ((l.drop a).take (u - a))).2.2 = 0
  · simp only [h0, if_true]
    unfold wtell
    by_cases h1 : (tellsN (vget ((l.drop a).take (u - a))).1).2.2 = 0
    · simp only [h1, if_true]
      rw [hl] at hk
      rw [num_win l _ u _ (by omega) hu, win_drop]
      unfold restR wrest
      by_cases h2 : (wnum (tellsN (vget ((l.drop a).take (u - a))).1).2.1 (((l.drop a).take (u - a)).drop (vget ((l.drop a).take (u - a))).2.1)).2.2 = 0
      · simp only [h2, if_true]
        unfold runR wrun shR
        rw [hl]
        by_cases h3 : (tellsN (vget ((l.drop a).take (u - a))).1).2.1 = 2
        · simp only [h3, if_true]
          have hq := wnum_le (wire := 2) (d := ((l.drop a).take (u - a)).drop (vget ((l.drop a).take (u - a))).2.1)
          rw [List.length_drop, hl] at hq
          generalize (wnum 2 (((l.drop a).take (u - a)).drop (vget ((l.drop a).take (u - a))).2.1)) = x at hq ⊢
          generalize (vget ((l.drop a).take (u - a))).2.1 = k at *
          obtain ⟨n, q, e⟩ := x
          simp only
          by_cases h4 : (n : Int) ≤ (u : Int) - ((a + k + q : Nat) : Int)
          · rw [if_pos h4, if_pos (show n ≤ u - a - (k + q) by omega)]
            simp only [if_true, Prod.mk.injEq, Rc.mk.injEq, true_and, and_true]
            omega
          · rw [if_neg h4, if_neg (show ¬ n ≤ u - a - (k + q) by have hq' : q ≤ u - a - k := hq; omega)]
            exact (sh_err (by omega)).symm
        · simp only [h3, if_false, if_true]
          simp only [Prod.mk.injEq, Rc.mk.injEq, true_and, and_true]
          omega
      · simp only [h2, if_false]
        exact (sh_err h2).symm
    · simp only [h1, if_false]
      exact (sh_err h1).symm
  · simp only [h0, if_false]
    unfold shR
    simp [h0]

/-! ### What is told without an error hangs on its own bytes alone -/

/-- .. and the parts make it. -/
theorem wnext_of {d : List UInt8} {m k n q no wire : Nat} (hv : vget d = (m, k, 0)) (ht : tellsN m = (no, wire, 0)) (hn : wnum wire (d.drop k) = (n, q, 0)) : wnext d = wrun no wire k n q d.length := by
  unfold wnext
  rw [hv]
  simp only [if_true]
  unfold wtell
  rw [ht]
  simp only [if_true]
  unfold wrest
  rw [hn]
  simp
end Go.Proofs.YtipaangiehdgkaaGreatDoor
