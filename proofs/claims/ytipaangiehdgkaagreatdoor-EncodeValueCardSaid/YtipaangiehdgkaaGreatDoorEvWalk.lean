/-
  What a law that reads package-level variables needs beyond the rest: the given ties, and the condition on what is laid.
-/
import Derived.Test.YtipaangiehdgkaaGreatDoorCards
import Derived.Test.YtipaangiehdgkaaGreatDoorTie
import Derived.Test.YtipaangiehdgkaaGreatDoorTrAwake
import Derived.Deep.DeepHandedRow
import Derived.Lib.LaidTab
import Derived.Lay
import Derived.MakeChecks
import Derived.Test.YtipaangiehdgkaaGreatDoorTokSmall
import Derived.Stop.LaidErr
import Derived.Deep.Strs
import Derived.Test.YtipaangiehdgkaaGreatDoorEncAw
import Derived.Test.YtipaangiehdgkaaGreatDoorTyRising
import Derived.Test.YtipaangiehdgkaaGreatDoorEncCat
import Derived.Test.YtipaangiehdgkaaGreatDoorEncNor
import Derived.Test.YtipaangiehdgkaaGreatDoorTabFind
import Derived.Test.YtipaangiehdgkaaGreatDoorTabFew
namespace Go.Proofs.YtipaangiehdgkaaGreatDoor
set_option maxRecDepth 100000

end Go.Proofs.YtipaangiehdgkaaGreatDoor
/-
  From what a row lists to what the contracts ask (where token's tables, strconv's errors and table's two tables are listed).
-/
namespace Go.Proofs.YtipaangiehdgkaaGreatDoor
set_option maxRecDepth 100000

open Go.RowKit

theorem arr_inv {H : Type} {enc : TypeId × Value → H} {P : Program} {w : World} {base : Nat} {sp : Nat → Bool} {held : Bool} {fuel : Nat} {t e : TypeId} {n : Nat} {cs : List Value} {ds : List (DataW H)} {p : List MemPlace}
    (ht : P.underlying t = some (.array n e)) (h : DataW.trod enc P w base sp held fuel t cs = some (.agg ds, p)) : cs.length = P.cellsOf t ∧ ∃ f, ∀ i d, i < n → ds[i]? = some d → ∃ q, DataW.trod enc P w base sp held f e ((cs.drop (i * P.cellsOf e)).take (P.cellsOf e)) = some (d, q) := by
  cases fuel with
  | zero => simp [DataW.trod] at h
  | succ fuel =>
    simp only [DataW.trod, ht] at h
    split at h
    · rename_i hl
      obtain ⟨xs, hm, hx⟩ := Option.map_eq_some_iff.1 h
      have hxs : xs.map (·.1) = ds := by
        have := congrArg Prod.fst hx
        simpa using this
      refine ⟨by simpa using hl, fuel, fun i d hi hd => ?_⟩
      obtain ⟨b, hb, hf⟩ := Lib.mapM_at hm i i (by simp [hi])
      rw [← hxs, List.getElem?_map, hb] at hd
      simp only [Option.map_some, Option.some.injEq] at hd
      subst hd
      exact ⟨b.2, hf⟩
    · cases h
section

variable {enc : TypeId × Value → Unit} {W : World} {n : Nat} {q : List MemPlace}

theorem elem_plain {cs : List Value} {x : List UInt8} {k : Int} (h : DataW.trod enc Tryz.prog W 0 (fun _ => true) false n 173 cs = some (.agg [.lit (.string x), .lit (.int .i64 k)], q)) : cs = [.string (txt x), .int .i64 k] := by
  obtain ⟨y0, y1, m, hx, hl, h0, h1⟩ := ChangeShapes.trod_struct2 Tryz.underlying173 h
  have k0 : Tryz.prog.cellsOf 173 = 2 := by kernel_rfl
  rw [k0] at hl
  obtain ⟨c0, c1, rfl⟩ : ∃ a b, cs = [a, b] := match cs, hl with | [a, b], _ => ⟨a, b, rfl⟩
  obtain ⟨s, e0, f0, -⟩ := DataW.trod_string Tryz.underlying9 h0
  obtain ⟨z, e1, f1, -⟩ := DataW.trod_int Tryz.underlying3 h1
  have k1 : Tryz.prog.cellsOf 9 = 1 := by kernel_rfl
  have k2 : Tryz.prog.cellsOf 3 = 1 := by kernel_rfl
  simp only [k1, k2] at e0 e1
  simp at e0 e1
  subst e0 e1 f0 f1
  simp only [Prod.mk.injEq, DataW.agg.injEq, List.cons.injEq, DataW.lit.injEq, Lit.string.injEq, Lit.int.injEq, and_true, true_and] at hx
  obtain ⟨⟨rfl, rfl⟩, -⟩ := hx
  rfl
theorem elem_stance {cs : List Value} {a b c : Bool} (h : DataW.trod enc Tryz.prog W 0 (fun _ => true) false n 232 cs = some (.agg [.lit (.bool a), .lit (.bool b), .lit (.bool c)], q)) : cs = [.bool a, .bool b, .bool c] := by
  obtain ⟨hl, m, hg⟩ := arr_inv Tryz.underlying232 h
  have k0 : Tryz.prog.cellsOf 232 = 3 := by kernel_rfl
  have k1 : Tryz.prog.cellsOf 4 = 1 := by kernel_rfl
  rw [k0] at hl
  rw [k1] at hg
  obtain ⟨c0, c1, c2, rfl⟩ : ∃ a b c, cs = [a, b, c] := match cs, hl with | [a, b, c], _ => ⟨a, b, c, rfl⟩
  obtain ⟨_, h0⟩ := hg 0 _ (by omega) rfl
  obtain ⟨_, h1⟩ := hg 1 _ (by omega) rfl
  obtain ⟨_, h2⟩ := hg 2 _ (by omega) rfl
  obtain ⟨s0, e0, f0⟩ := DataW.trod_bool Tryz.underlying4 h0
  obtain ⟨s1, e1, f1⟩ := DataW.trod_bool Tryz.underlying4 h1
  obtain ⟨s2, e2, f2⟩ := DataW.trod_bool Tryz.underlying4 h2
  simp at e0 e1 e2 f0 f1 f2
  obtain ⟨rfl, -⟩ := f0
  obtain ⟨rfl, -⟩ := f1
  obtain ⟨rfl, -⟩ := f2
  rw [e0, e1, e2]
end

theorem plains_of {W : World} {rest : List (String × DataW Unit)} (h : laidMet Tryz.prog (("truffle/table.plains", Rows.laid_truffle_table_plains) :: rest) W) : TabAt W 0 plainsC := by
  obtain ⟨ps, ⟨g', t', cs, fuel, p, q, hg', ht', hvar, hd, _, _⟩, _⟩ := h
  have hg : Tryz.prog.globalNamed "truffle/table.plains" = some 0 := by kernel_rfl
  have hty : (Tryz.prog.globals[0]?).map (·.type) = some 174 := by kernel_rfl
  obtain rfl := Option.some.inj (hg.symm.trans hg')
  obtain rfl := Option.some.inj (hty.symm.trans ht')
  refine TabAt.of_var hg ?_
  rw [hvar]
  obtain ⟨hl, m, hh⟩ := arr_inv (ds := [.agg [.lit (.string tInt64), .lit (.int .i64 0)], .agg [.lit (.string tSint64), .lit (.int .i64 1)], .agg [.lit (.string tUint32), .lit (.int .i64 2)], .agg [.lit (.string tBool), .lit (.int .i64 3)], .agg [.lit (.string tFixed32), .lit (.int .i64 4)], .agg [.lit (.string tSfixed64), .lit (.int .i64 5)], .agg [.lit (.string tString), .lit (.int .i64 7)], .agg [.lit (.string tBytes), .lit (.int .i64 8)]]) Tryz.underlying174 hd
  have k0 : Tryz.prog.cellsOf 174 = 16 := by kernel_rfl
  have k1 : Tryz.prog.cellsOf 173 = 2 := by kernel_rfl
  rw [k0] at hl
  rw [k1] at hh
  obtain ⟨cs⟩ := cs
  simp only at hl hh
  obtain ⟨c0, c1, c2, c3, c4, c5, c6, c7, c8, c9, c10, c11, c12, c13, c14, c15, rfl⟩ : ∃ a0 a1 a2 a3 a4 a5 a6 a7 a8 a9 a10 a11 a12 a13 a14 a15, cs = [a0, a1, a2, a3, a4, a5, a6, a7, a8, a9, a10, a11, a12, a13, a14, a15] := match cs, hl with | [a0, a1, a2, a3, a4, a5, a6, a7, a8, a9, a10, a11, a12, a13, a14, a15], _ => ⟨a0, a1, a2, a3, a4, a5, a6, a7, a8, a9, a10, a11, a12, a13, a14, a15, rfl⟩
  obtain ⟨_, h0⟩ := hh 0 _ (by omega) rfl
  obtain ⟨_, h1⟩ := hh 1 _ (by omega) rfl
  obtain ⟨_, h2⟩ := hh 2 _ (by omega) rfl
  obtain ⟨_, h3⟩ := hh 3 _ (by omega) rfl
  obtain ⟨_, h4⟩ := hh 4 _ (by omega) rfl
  obtain ⟨_, h5⟩ := hh 5 _ (by omega) rfl
  obtain ⟨_, h6⟩ := hh 6 _ (by omega) rfl
  obtain ⟨_, h7⟩ := hh 7 _ (by omega) rfl
  have e0 := elem_plain h0
  have e1 := elem_plain h1
  have e2 := elem_plain h2
  have e3 := elem_plain h3
  have e4 := elem_plain h4
  have e5 := elem_plain h5
  have e6 := elem_plain h6
  have e7 := elem_plain h7
  simp only [Nat.zero_mul, Nat.one_mul, Nat.reduceMul, List.drop_zero, List.drop_succ_cons, List.take_succ_cons, List.take_zero, List.cons.injEq, and_true] at e0 e1 e2 e3 e4 e5 e6 e7
  obtain ⟨rfl, rfl⟩ := e0
  obtain ⟨rfl, rfl⟩ := e1
  obtain ⟨rfl, rfl⟩ := e2
  obtain ⟨rfl, rfl⟩ := e3
  obtain ⟨rfl, rfl⟩ := e4
  obtain ⟨rfl, rfl⟩ := e5
  obtain ⟨rfl, rfl⟩ := e6
  obtain ⟨rfl, rfl⟩ := e7
  rfl
theorem stances_of {W : World} {rest : List (String × DataW Unit)} (h : laidMet Tryz.prog (("truffle/table.stances", Rows.laid_truffle_table_stances) :: rest) W) : TabAt W 1 stancesC := by
  obtain ⟨ps, ⟨g', t', cs, fuel, p, q, hg', ht', hvar, hd, _, _⟩, _⟩ := h
  have hg : Tryz.prog.globalNamed "truffle/table.stances" = some 1 := by kernel_rfl
  have hty : (Tryz.prog.globals[1]?).map (·.type) = some 233 := by kernel_rfl
  obtain rfl := Option.some.inj (hg.symm.trans hg')
  obtain rfl := Option.some.inj (hty.symm.trans ht')
  refine TabAt.of_var hg ?_
  rw [hvar]
  obtain ⟨hl, m, hh⟩ := arr_inv (ds := [.agg [.lit (.bool false), .lit (.bool false), .lit (.bool false)], .agg [.lit (.bool true), .lit (.bool false), .lit (.bool false)], .agg [.lit (.bool false), .lit (.bool true), .lit (.bool false)], .agg [.lit (.bool false), .lit (.bool false), .lit (.bool true)]]) Tryz.underlying233 hd
  have k0 : Tryz.prog.cellsOf 233 = 12 := by kernel_rfl
  have k1 : Tryz.prog.cellsOf 232 = 3 := by kernel_rfl
  rw [k0] at hl
  rw [k1] at hh
  obtain ⟨cs⟩ := cs
  simp only at hl hh
  obtain ⟨c0, c1, c2, c3, c4, c5, c6, c7, c8, c9, c10, c11, rfl⟩ : ∃ a0 a1 a2 a3 a4 a5 a6 a7 a8 a9 a10 a11, cs = [a0, a1, a2, a3, a4, a5, a6, a7, a8, a9, a10, a11] := match cs, hl with | [a0, a1, a2, a3, a4, a5, a6, a7, a8, a9, a10, a11], _ => ⟨a0, a1, a2, a3, a4, a5, a6, a7, a8, a9, a10, a11, rfl⟩
  obtain ⟨_, h0⟩ := hh 0 _ (by omega) rfl
  obtain ⟨_, h1⟩ := hh 1 _ (by omega) rfl
  obtain ⟨_, h2⟩ := hh 2 _ (by omega) rfl
  obtain ⟨_, h3⟩ := hh 3 _ (by omega) rfl
  have e0 := elem_stance h0
  have e1 := elem_stance h1
  have e2 := elem_stance h2
  have e3 := elem_stance h3
  simp only [Nat.zero_mul, Nat.one_mul, Nat.reduceMul, List.drop_zero, List.drop_succ_cons, List.take_succ_cons, List.take_zero, List.cons.injEq, and_true] at e0 e1 e2 e3
  obtain ⟨rfl, rfl, rfl⟩ := e0
  obtain ⟨rfl, rfl, rfl⟩ := e1
  obtain ⟨rfl, rfl, rfl⟩ := e2
  obtain ⟨rfl, rfl, rfl⟩ := e3
  rfl
/-- What the contracts ask of a world: token's tables, and table's. -/
structure LT (w : World) : Prop where
  laid : Laid w
  tabs : Tabs w
theorem LT.on {w w' : World} (h : LT w) (hb : Below w.heap.size w w') : LT w' := ⟨h.laid.on hb, h.tabs.on hb⟩
end Go.Proofs.YtipaangiehdgkaaGreatDoor
/-
  From what a row lists to what the contracts ask: table's two tables, and tag's.
-/
namespace Go.Proofs.YtipaangiehdgkaaGreatDoor.T12
set_option maxRecDepth 100000

open Go.RowKit

open Go.Proofs.YtipaangiehdgkaaGreatDoor.T9

theorem laid12 {W : World} (h : laidMetH Tryz.prog [("truffle/tag.wires", Rows.laid_truffle_tag_wires), ("truffle/table.plains", Rows.laid_truffle_table_plains), ("truffle/table.stances", Rows.laid_truffle_table_stances)] W) : Tabs W ∧ Wires W := by
  rw [MakeChecks.laidMetH_plain _ _ _ (by kernel_rfl)] at h
  have g : Tryz.prog.globalNamed "truffle/tag.wires" = some 2 := by kernel_rfl
  have ht : (Tryz.prog.globals[2]?).map (·.type) = some 245 := by kernel_rfl
  have c1 : Tryz.prog.cellsOf 245 = 4 := by kernel_rfl
  have c2 : Tryz.prog.cellsOf 3 = 1 := by kernel_rfl
  have hT : Lib.TabIs Tryz.prog W "truffle/tag.wires" .i64 [0, 1, 2, 5] := Lib.tabIs_of_head (rest := _) g ht Tryz.underlying245 Tryz.underlying3 c2 c1 h
  exact ⟨⟨plains_of h.tail, stances_of h.tail.tail⟩, TabAt.of_var g hT⟩
end Go.Proofs.YtipaangiehdgkaaGreatDoor.T12
/-
  A value made normal, for its bytes: the contract of encode's normal.
-/
namespace Go.Proofs.YtipaangiehdgkaaGreatDoor.T12
set_option maxRecDepth 100000

open Go.RowKit Go.Maps

open Go.Proofs.YtipaangiehdgkaaGreatDoor.T9 Go.Proofs.YtipaangiehdgkaaGreatDoor.T4

/-- Normal, of a message that is of its own: what it hands back is of the call's own. -/
theorem tnormal_ow {s : Sc} (hin : ScIn s) (B D : Nat) (vM vE : Value) (m : Int) (x : Mg) (u : Value) (w : World) (hB : B ≤ w.heap.size) (hs : SAt B w s vM vE) (hx : MRd B w D x u) (hi : MIn x) (hc : x.cnt ≤ 100000) (T : Tabs w) (hm : mayT s m x = true) :
    Calls Tryz.prog 13 #[.agg #[vM, vE], .int .i64 m, .agg #[u]] w fun e w' => ∃ A n c, e = .returned (.tuple #[.agg #[.slice A n c], .bool true]) ∧ T9.MAt (Ow (w.heap.size + 3) w') D (norB s 64 m x) [.slice A n c] ∧ Below w.heap.size w w' := by
  refine (tnormal_of hin B D vM vE m x u w hB hs hx hi hc T (fun v wa => T9.MAt (Ow (w.heap.size + 3) wa) D (norB s 64 m x) [v]) (fun v wa wb h hg => T9.MAt.imp (Ow.hi (hi_grown hg (by omega))) D _ _ h) ?_).mono ?_
  · intro hm wx hbw hsz
    have hG := (mayT_split hm).2
    refine (norm_any hin B D 64 vM vE m x u wx (Nat.le_trans hB hbw.size) (SAt.lo hs hbw hB) (MRd.low (Lo.below hbw hB) hx) hi hc hG (w.heap.size + 3) hsz).mono ?_
    rintro e w' ⟨x1, rfl, h1, h2⟩
    obtain ⟨A, c, rfl⟩ := msg_shape h1
    exact ⟨A, _, c, rfl, h1, h2⟩
  · rintro e w' ⟨A, n, c, rfl, h1, h2, h3⟩
    exact ⟨A, n, c, by rw [hm], h2 hm, h3⟩
set_option maxRecDepth 1000000 in
set_option maxHeartbeats 8000000 in
theorem encnormal_any {s : Sc} (hin : ScIn s) (B D : Nat) (vM vE : Value) (ref : Int) (v : Vl') (u : Value) (w : World) (hB : B ≤ w.heap.size) (hs : SAt B w s vM vE) (hv : VAt (Rd B w) D v [.int .i64 v.n, .string (tx v.s), u]) (hi : VIn v) (hc : cV v ≤ 100000) (hg : ∀ x ∈ v.M, mayT s ref x = true) (T : Tabs w) :
    Calls Tryz.prog 34 #[.agg #[vM, vE], .int .i64 ref, .agg #[.int .i64 v.n, .string (tx v.s), u]] w fun e w' => ∃ x3, e = .returned (.agg #[.int .i64 v.n, .string (tx v.s), x3]) ∧ VAt (Rd w'.heap.size w') D (norV (norB s 64) ref v) [.int .i64 v.n, .string (tx v.s), x3] ∧ Below w.heap.size w w' := by
  obtain ⟨u', hu, hl⟩ := hv
  simp only [List.cons.injEq, and_true, true_and] at hu
  subst hu
  obtain ⟨A, c, xs, rfl, hsl, hbl, hr, hn⟩ := hl.open_
  obtain ⟨A1, q1, A2, q2, rfl, rfl⟩ := sat_shape hs
  obtain ⟨j0, hj, hy0, hy1, hy2⟩ := info_parts info_msg
  obtain ⟨X1, X2, X3, X4, LBD⟩ := four_new w (.cells #[.slice A1 s.M.length q1, .slice A2 s.E.length q2] 33) (.cells #[.int .i64 v.n, .string (tx v.s), .slice A v.M.length c] 51) (.cells #[.int .i64 0, .string ⟨#[]⟩, .slice none 0 0] 51) (.cells #[.int .i64 v.n, .string (tx v.s), .slice none 0 0] 51)
  have hsz : ((((w.alloc (.cells #[.slice A1 s.M.length q1, .slice A2 s.E.length q2] 33)).alloc (.cells #[.int .i64 v.n, .string (tx v.s), .slice A v.M.length c] 51)).alloc (.cells #[.int .i64 0, .string ⟨#[]⟩, .slice none 0 0] 51)).alloc (.cells #[.int .i64 v.n, .string (tx v.s), .slice none 0 0] 51)).heap.size = w.heap.size + 4 := by simp
  obtain ⟨W0, hW0⟩ : ∃ W, W = ((((w.alloc (.cells #[.slice A1 s.M.length q1, .slice A2 s.E.length q2] 33)).alloc (.cells #[.int .i64 v.n, .string (tx v.s), .slice A v.M.length c] 51)).alloc (.cells #[.int .i64 0, .string ⟨#[]⟩, .slice none 0 0] 51)).alloc (.cells #[.int .i64 v.n, .string (tx v.s), .slice none 0 0] 51)) := ⟨_, rfl⟩
  have hcM := cV_M v
  have HS := Lib.hid hsl
  have HR := Lib.hid hr
  have HBB := Lib.hid hbl
  have HSA := Lib.hid hs
  have HI := Lib.hid hi
  have HGD := Lib.hid hg
  have hcn : ∀ x ∈ v.M, x.cnt ≤ 100000 := fun x hx => by have := cnt_le hx; omega
  have HCN := Lib.hid hcn
  obtain ⟨N, hN⟩ : ∃ N, norB s 64 = N := ⟨_, rfl⟩
  have HN := Lib.hid hN
  rw [hN]
  obtain ⟨p0, p1, p2⟩ := bx3 X2
  clear hsl hr hbl hl hs hi hg hcn hN
  go_enter Tryz.func34, Tryz.ntmps34
  go_wp2
  rw [← hW0] at X1 X2 X3 X4 LBD hsz ⊢
  clear hW0 p0 p1 p2
  go_loopw [20] (fun i wr => ∃ (k : Nat) (v' : Value) (zs : List Value), i = .int .i64 k ∧ k ≤ v.M.length ∧ wr.heap[w.heap.size + 3]? = some (.cells #[.int .i64 v.n, .string (tx v.s), v'] 51 (0, 0)) ∧ Grow (fun R => T9.MAt R D) 36 1 (w.heap.size + 4) wr v' ((v.M.take k).map (N ref)) zs ∧ Below (w.heap.size + 3) W0 wr ∧ w.heap.size + 4 ≤ wr.heap.size) (fun i _ => v.M.length - (intOf i).toNat)
  case atStart => exact ⟨0, _, [], rfl, by omega, X4, Grow.nil _ _ _ _ _, Below.refl _ _, by omega⟩
  case round =>
    obtain ⟨k, v', zs, rfl, hk, hX, hgx, hbx, hsx⟩ := hrel
    have hm1 := (hbx.block _ (show w.heap.size < w.heap.size + 3 by omega)).trans X1
    have hm3 := (hbx.block _ (show w.heap.size + 2 < w.heap.size + 3 by omega)).trans X3
    have hbw : Below w.heap.size w wr := LBD.trans (hbx.mono (by omega))
    have hBw : B ≤ wr.heap.size := by omega
    have hlo : Lo B w wr := Lo.of (hbw.mono hB)
    by_cases hlt : k < v.M.length
    · obtain ⟨x, hx⟩ : ∃ x, v.M[k]? = some x := ⟨_, List.getElem?_eq_getElem hlt⟩
      obtain ⟨am, ux, rfl, hgam, hcx, k0⟩ := row1 T9.MAt.len (sl_low HS.out HBB.out hlo) (HR.out.imp fun a cs h => MRd.low hlo h) hx
      obtain ⟨Ax, cx, rfl⟩ := rd_shape hcx
      have hmem := List.mem_of_getElem? hx
      have N1 := below_new wr (.cells #[.slice Ax x.F.length cx] 36)
      have Q1 := bx1 (heap_alloc_new wr (.cells #[.slice Ax x.F.length cx] 36))
      obtain ⟨L, hL⟩ : ∃ L, (v.M.take k).map (N ref) = L := ⟨_, rfl⟩
      have hlq : L.length = k := by rw [← hL, List.length_map, List.length_take]; omega
      rw [hL] at hgx
      have HL := Lib.hid (hL ▸ map_snoc (N ref) hx : L ++ [N ref x] = (v.M.take (k + 1)).map (N ref))
      have hb1 := below_then hbw N1
      have s1 := box2' (box_on hm1 N1)
      have hsa : (wr.alloc (.cells #[.slice Ax x.F.length cx] 36)).heap.size = wr.heap.size + 1 := by simp
      have HCX := tnormal_ow hin B D (.slice A1 s.M.length q1) (.slice A2 s.E.length q2) ref x (.slice Ax x.F.length cx) (wr.alloc (.cells #[.slice Ax x.F.length cx] 36)) (by omega) (SAt.lo HSA.out hb1 hB) (MRd.low (Lo.below N1 hBw) hcx) (HI.out.msg hmem) (HCN.out x hmem) (T.on hb1) (HGD.out x hmem)
      rw [HN.out] at HCX
      have HCX := Lib.hid HCX
      have HGX := Lib.hid (hgx.on (mono_m D) N1)
      have HX := Lib.hid (box_on hX N1)
      have HB1 := Lib.hid (And.intro hbx N1)
      clear hX hgx hbx hm1 hm3 hcx hx hL N1
      go_wp2_with fail
      refine HCX.out.mono ?_
      rintro e w2 ⟨A', n', c', rfl, ho2, hb2⟩
      rw [hsa] at ho2
      have N2 := below_new w2 (.cells #[.slice A' n' c'] 36)
      have Q2 := bx1 (heap_alloc_new w2 (.cells #[.slice A' n' c'] 36))
      have N3 := below_new (w2.alloc (.cells #[.slice A' n' c'] 36)) (.cells #[.slice A' n' c'] 36)
      have hw2 : wr.heap.size + 1 ≤ w2.heap.size := by have := hb2.size; omega
      have c7 := (bx3 (box_on (box_on HX.out hb2) N2)).2.2
      have HX7 := Lib.hid (box_on (box_on (box_on HX.out hb2) N2) N3)
      have HG8 := Lib.hid (((HGX.out.on (mono_m D) hb2).on (mono_m D) N2).on (mono_m D) N3)
      have hs3 : ((w2.alloc (.cells #[.slice A' n' c'] 36)).alloc (.cells #[.slice A' n' c'] 36)).heap.size = w2.heap.size + 2 := by simp
      have hs2' : (w2.alloc (.cells #[.slice A' n' c'] 36)).heap.size = w2.heap.size + 1 := by simp
      have HO := Lib.hid (T9.MAt.imp (Ow.hi (hi_below _ (below_then N2 N3))) D _ _ ho2)
      have HBZ := Lib.hid (below_then hb2 (below_then N2 N3))
      have hlt' := HGX.out.lt
      rw [hsa] at hlt'
      clear ho2 Q1 s1
      go_wp2_with (at_builtin; refine wpList_append_lies _ rfl _ _ 49 rfl (w.heap.size + 4) 36 j0 _ 1 24 Tryz.underlying49 hj hy0 hy1 hy2 rfl (by decide) v' L.length zs rfl HG8.out.own ⟨w2.heap.size + 1, 0, none⟩ 1 1 [.slice A' n' c'] rfl rfl (World.news_of_block (hs2' ▸ heap_alloc_new (w2.alloc (.cells #[.slice A' n' c'] 36)) (.cells #[.slice A' n' c'] 36))) (by simp [Value.oneCell']) (by decide) (by unfold maxLen; omega) (by omega) (by rw [hs3]; omega) (w2.heap.size + 2) hs3 ?_; intro g8 cap8 w8 hown8 hg8 hat8 hlt8; have hX8 := box_far HX7.out hg8 HG8.out.own (show w.heap.size + 3 < w.heap.size + 4 by omega); have f8 : w8.frozen? ⟨w.heap.size + 3, 2, none⟩ = false := (by simp [World.frozen?, hX8]); have c8 := (bx3 hX8).2.2; have HX8 := Lib.hid hX8; clear hX8)
      obtain ⟨Z1, Z2⟩ := cell3 HX8.out (.slice (some ⟨g8, 0, none⟩) (L.length + 1) cap8)
      have hnew := (Grow.app (mono_m D) HG8.out (a := N ref x) (b' := wr.heap.size + 1 + 3) (by omega) (fun k hk => by have := hlt' k hk; omega) HO.out hown8 hg8 (hat8.imp id fun h => by rw [h, hs3]; exact Nat.le_refl _)).box (mono_m D) Z2 (Nat.lt_succ_self (w.heap.size + 3))
      rw [HL.out] at hnew
      rw [hlq] at hnew Z1 Z2
      have hbz : Below (w.heap.size + 3) wr _ := ((HB1.out.2.mono (by omega)).trans (HBZ.out.mono (by rw [hsa]; omega))).trans ((below_row hg8 HG8.out.own (Nat.le_succ _) (by rw [hs3]; omega)).trans (below_own Z2 (Nat.le_refl _) (by have := hg8.size; omega)))
      try rw [hlq]
      refine ⟨⟨k + 1, _, _, by go_num, by omega, Z1, hnew, HB1.out.1.trans hbz, Nat.le_trans hsx hbz.size⟩, by simp [intOf]; omega⟩
    · obtain rfl : k = v.M.length := by omega
      rw [List.take_length] at hgx
      obtain ⟨Av, cv, rfl, -⟩ := Sl.of_own hgx.own
      rw [List.length_map] at hX hgx
      obtain ⟨g0, g1, g2⟩ := bx3 hX
      obtain ⟨⟨q0, q1, q2⟩, q3, q4, q5⟩ := wr3 hm3
      go_wp2
      obtain ⟨Z1, Z2⟩ := three_set hm3 (.int .i64 v.n) (.string (tx v.s)) (.slice Av v.M.length cv)
      refine bodyPost_ret (results_cell_row rfl _ _ (w.heap.size + 2) _ _ (0, 0) _ rfl Z1 Tryz.underlying51 rfl sz_val) rfl ?_
      have h1 := (hgx.box (mono_m D) Z2 (show w.heap.size + 2 < w.heap.size + 4 by omega))
      have h2 : VAt (Ow (w.heap.size + 4) _) D (norV N ref v) [.int .i64 v.n, .string (tx v.s), .slice Av v.M.length cv] := ⟨_, rfl, h1.ow (mono_m D) (by rw [List.length_map]; exact hn)⟩
      exact ⟨_, rfl, mono_v D (fun e size v n xs h => Rd.of_own e size v n xs h) _ _ h2, hbw.trans (below_own Z2 (by omega) (by omega))⟩
end Go.Proofs.YtipaangiehdgkaaGreatDoor.T12
/-
  A value's bytes: the contract of Value.
-/
namespace Go.Proofs.YtipaangiehdgkaaGreatDoor.T12
set_option maxRecDepth 100000

open Go.RowKit Go.Maps

open Go.Proofs.YtipaangiehdgkaaGreatDoor.T9 Go.Proofs.YtipaangiehdgkaaGreatDoor.T4

/-- A closure that writes a value, wherever the value lies. -/
def ClosV (B D : Nat) (w : World) (c : Value) (g : Vl' → List UInt8) (P : Vl' → Prop) : Prop := ∃ (fn : FuncId) (caps : Array Value), c = .func (.func fn) #[] caps ∧ (∀ args w, (callFunc fn args).run Tryz.prog w = .ok (.enter fn args) w) ∧
  ∀ (a : Vl') (u : Value) (wr : World) (B' : Nat), Below w.heap.size w wr → B ≤ B' → B' ≤ wr.heap.size → VAt (Rd B' wr) D a [.int .i64 a.n, .string (tx a.s), u] → P a → Calls Tryz.prog fn (#[.agg #[.int .i64 a.n, .string (tx a.s), u]] ++ caps) wr fun e w' => ∃ v, e = .returned v ∧ By wr.heap.size w' (g a) v ∧ Below wr.heap.size wr w'
theorem ClosV.weak {B D : Nat} {w : World} {c : Value} {g g' : Vl' → List UInt8} {P P' : Vl' → Prop} (h : ClosV B D w c g P) (hP : ∀ a, P' a → P a) (hg : ∀ a, P' a → g a = g' a) : ClosV B D w c g' P' := by
  obtain ⟨fn, caps, e, h1, h2⟩ := h
  exact ⟨fn, caps, e, h1, fun a u wr B' hw hB1 hB2 hv hp => (h2 a u wr B' hw hB1 hB2 hv (hP a hp)).mono fun e w' ⟨v, h3, h4, h5⟩ => ⟨v, h3, hg a hp ▸ h4, h5⟩⟩
set_option maxRecDepth 1000000 in
set_option maxHeartbeats 4000000 in
theorem countWriterV_any (B D : Nat) (kind no : Int) (hno : inI no) (w : World) (T : Wires w) :
    Calls Tryz.prog 63 #[.int .i64 kind, .int .i64 no] w fun e w' => ∃ c, e = .returned c ∧ ClosV B D w' c (fun v => encN kind no v.n) VIn ∧ Below w.heap.size w w' := by
  obtain ⟨X1, X2, LBD⟩ := two_boxes w (.cells #[.int .i64 kind] 3) (.cells #[.int .i64 no] 3)
  have HX := Lib.hid (And.intro X1 X2)
  have hk := bx1 X1
  have HW := Lib.hid (fun wx => wire_any kind wx)
  obtain ⟨wi, hwi⟩ : ∃ i, wireI kind = i := ⟨_, rfl⟩
  rw [hwi] at HW
  have HWI := Lib.hid hwi
  clear X1 X2 hwi
  go_enter Tryz.func63, Tryz.ntmps63
  go_wp2_with fail
  refine (HW.out _).mono ?_
  rintro e w1 ⟨rfl, hb1⟩
  have X3 := heap_alloc_new w1 (.cells #[.int .i64 wi] 3)
  have L3 := below_new w1 (.cells #[.int .i64 wi] 3)
  have hb3 := below_then (below_then LBD hb1) L3
  have HX3 := Lib.hid (And.intro (box_on (box_on HX.out.1 hb1) L3) (And.intro (box_on (box_on HX.out.2 hb1) L3) X3))
  clear X3
  go_wp2
  go_ret
  refine ⟨_, rfl, ⟨_, _, rfl, enters_of Tryz.func109 (by kernel_rfl) rfl, fun a u wr B' hw hB1 hB2 hv hi => ?_⟩, hb3⟩
  obtain ⟨A, c, -, -, rfl⟩ := val_shape hv
  exact count1_any kind no a A c _ _ _ wr hi.1.1 hno (box_on HX3.out.1 hw) (box_on HX3.out.2.1 hw) (by rw [HWI.out]; exact box_on HX3.out.2.2 hw) (T.on (below_then hb3 hw))
set_option maxRecDepth 1000000 in
set_option maxHeartbeats 4000000 in
theorem valueWriterV_any {s : Sc} {B D d : Nat} (H : ∀ B, EncH s B D d) (vM vE : Value) (kind ref no : Int) (w : World) (hB : B ≤ w.heap.size) (hs : SAt B w s vM vE) (hno : inI no) (T : Wires w) :
    Calls Tryz.prog 33 #[.agg #[vM, vE], .int .i64 kind, .int .i64 ref, .int .i64 no] w fun e w' => ∃ c, e = .returned c ∧ ClosV B D w' c (valL (encB s d) kind ref no) (OkV s d kind ref) ∧ Below w.heap.size w w' := by
  obtain ⟨X1, X2, X3, LBD⟩ := three_boxes w (.cells #[vM, vE] 33) (.cells #[.int .i64 ref] 3) (.cells #[.int .i64 no] 3)
  have HX := Lib.hid (And.intro X1 (And.intro X2 X3))
  have hk := bx1 X3
  have HS := Lib.hid hs
  have HH := Lib.hid H
  clear X1 X2 X3 hs H
  by_cases h9 : kind = 9
  · subst h9
    go_enter Tryz.func33, Tryz.ntmps33
    go_wp2
    go_ret
    refine ⟨_, rfl, ⟨_, _, rfl, enters_of Tryz.func60 (by kernel_rfl) rfl, fun a u wr B' hw hB1 hB2 hv ho => ?_⟩, LBD⟩
    obtain ⟨x1, x2, x3⟩ := HX.out
    exact sub1_any (HH.out B') no ref vM vE a u _ _ _ wr hB2 (SAt.mono (SAt.lo (SAt.lo HS.out LBD hB) hw (Nat.le_trans hB LBD.size)) hB1) hv ho hno (box_on x3 hw) (box_on x1 hw) (box_on x2 hw) (T.on (below_then LBD hw))
  have n9 : (kind == 9) = false := beq_eq_false_iff_ne.2 h9
  by_cases h7 : kind = 7
  · subst h7
    go_enter Tryz.func33, Tryz.ntmps33
    go_wp2
    go_ret
    refine ⟨_, rfl, ⟨_, _, rfl, enters_of Tryz.func62 (by kernel_rfl) rfl, fun a u wr B' hw hB1 hB2 hv ho => ?_⟩, LBD⟩
    obtain ⟨x1, x2, x3⟩ := HX.out
    obtain ⟨A, c, -, -, rfl⟩ := val_shape hv
    exact text2_any no a A c _ wr hno ho.1.1.2 (box_on x3 hw) (T.on (below_then LBD hw))
  by_cases h8 : kind = 8
  · subst h8
    go_enter Tryz.func33, Tryz.ntmps33
    go_wp2
    go_ret
    refine ⟨_, rfl, ⟨_, _, rfl, enters_of Tryz.func62 (by kernel_rfl) rfl, fun a u wr B' hw hB1 hB2 hv ho => ?_⟩, LBD⟩
    obtain ⟨x1, x2, x3⟩ := HX.out
    obtain ⟨A, c, -, -, rfl⟩ := val_shape hv
    exact text2_any no a A c _ wr hno ho.1.1.2 (box_on x3 hw) (T.on (below_then LBD hw))
  have n7 : (kind == 7) = false := beq_eq_false_iff_ne.2 h7
  have n8 : (kind == 8) = false := beq_eq_false_iff_ne.2 h8
  have HC := Lib.hid (fun wx (h : Below w.heap.size w wx) => countWriterV_any B D kind no hno wx (T.on h))
  have HV : Hid (∀ a, OkV s d kind ref a → encN kind no a.n = valL (encB s d) kind ref no a) := Lib.hid fun a _ => by unfold valL; rw [if_neg h9, if_neg (by omega)]
  go_enter Tryz.func33, Tryz.ntmps33
  go_wp2_with fail
  refine (HC.out _ LBD).mono ?_
  rintro e w1 ⟨c, rfl, hcl, hb⟩
  have HCL := Lib.hid (hcl.weak (fun a h => h.1) HV.out)
  clear hcl
  go_wp2
  go_ret
  exact ⟨c, rfl, HCL.out, below_then LBD hb⟩
/-- What a value that is of its kind is, made normal. -/
theorem okN_of {s : Sc} (hsm : ScMay s) {kind ref : Int} {v : Vl'} (ha : askG (isB s 63) kind ref v = true) (hi : VIn v) (hc : cV v ≤ 100000) (hwt : 40 * cV v + tV v ≤ 35184372088832) :
    norV (norB s 64) ref v = norV (norB s 63) ref v ∧ OkV s 63 kind ref (norV (norB s 63) ref v) ∧ ∀ x ∈ v.M, mayT s ref x = true := by
  have g := good_val (norB_good (may_keys hsm) 63) ha
  refine ⟨nv_up (fun r x h => (up_all s 63 r x h).2.1) ha, ⟨g.in_ hi, g.is, Nat.le_trans g.cnt hc, ?_⟩, fun x hx => ?_⟩
  · have h1 := g.cnt
    have h2 := txt_val (nor_txt s 63) ha
    omega
  · unfold mayT
    rw [Bool.and_eq_true]
    refine ⟨@decide_eq_true _ (Classical.propDecidable _) hsm, ?_⟩
    by_cases h9 : kind = 9
    · subst h9
      obtain ⟨-, -, y, hy, hg⟩ := ask_nine ha
      rw [hy] at hx
      obtain rfl : x = y := by simpa using hx
      exact (up_all s 63 ref x hg).1
    · rw [ask_of ha h9] at hx
      cases hx
theorem valT_split {s : Sc} {kind ref : Int} {v : Vl'} (h : valT s kind ref v = true) : ScMay s ∧ askG (isB s 63) kind ref v = true := by
  unfold valT at h
  rw [Bool.and_eq_true] at h
  exact ⟨@of_decide_eq_true _ (Classical.propDecidable _) h.1, h.2⟩
set_option maxRecDepth 1000000 in
set_option maxHeartbeats 8000000 in
theorem value_yes {s : Sc} (hin : ScIn s) (B D : Nat) (vM vE : Value) (kind ref no : Int) (v : Vl') (u : Value) (w : World) (hB : B ≤ w.heap.size) (hs : SAt B w s vM vE) (hv : VAt (Rd B w) D v [.int .i64 v.n, .string (tx v.s), u]) (hi : VIn v) (hc : cV v ≤ 100000) (hwt : 40 * cV v + tV v ≤ 35184372088832) (T : Tabs w) (TW : Wires w) (hno : 1 ≤ no ∧ no ≤ 536870911) (hvt : valT s kind ref v = true) :
    Calls Tryz.prog 18 #[.agg #[vM, vE], .int .i64 kind, .int .i64 ref, .int .i64 no, .agg #[.int .i64 v.n, .string (tx v.s), u]] w fun e w' => ∃ v', e = .returned (.tuple #[v', .int .i64 0]) ∧ By w.heap.size w' (valL (encB s 63) kind ref no (norV (norB s 63) ref v)) v' ∧ Below w.heap.size w w' := by
  obtain ⟨A1, q1, A2, q2, rfl, rfl⟩ := sat_shape hs
  obtain ⟨A, c, -, -, rfl⟩ := val_shape hv
  obtain ⟨hsm, ha⟩ := valT_split hvt
  obtain ⟨e1, hok, hmay⟩ := okN_of hsm ha hi hc hwt
  obtain ⟨X1, X2, LBD⟩ := two_boxes w (.cells #[.slice A1 s.M.length q1, .slice A2 s.E.length q2] 33) (.cells #[.int .i64 v.n, .string (tx v.s), .slice A v.M.length c] 51)
  obtain ⟨s0, s1⟩ := box2' X1
  obtain ⟨p0, p1, p2⟩ := bx3 X2
  have HTV := Lib.hid (fun wx (h : Below w.heap.size w wx) => tval_any hin B D (.slice A1 s.M.length q1) (.slice A2 s.E.length q2) kind ref v (.slice A v.M.length c) wx (Nat.le_trans hB h.size) (SAt.lo hs h hB) (VRd.low (Lo.below h hB) hv) hi hc (T.on h))
  rw [hvt] at HTV
  have n1 : ¬ (no < 1) := by omega
  have n2 : ¬ (536870911 < no) := by omega
  have HL00 := Lib.hid LBD
  have HXX := Lib.hid (And.intro X1 X2)
  have HF := Lib.hid (And.intro hs hv)
  have HOK := Lib.hid hok
  have HMAY := Lib.hid (And.intro hmay (And.intro hi hc))
  obtain ⟨N, hN⟩ : ∃ N, norV (norB s 63) ref v = N := ⟨_, rfl⟩
  have HE1 := Lib.hid (e1.trans hN)
  rw [hN] at HOK ⊢
  have hinn : inI no := ⟨by omega, by omega⟩
  clear hs hv hi X1 X2 hok hmay e1 hN hvt ha hsm hwt hc
  go_enter Tryz.func18, Tryz.ntmps18
  go_wp2_with fail
  refine (HTV.out _ LBD).mono ?_
  rintro e w1 ⟨rfl, hb1⟩
  have L1 := below_then LBD hb1
  have Y1 := box_on HXX.out.1 hb1
  have Y2 := box_on HXX.out.2 hb1
  have hDk : Below w1.heap.size w1 w1.drew := (Below.refl _ _).drew
  have hBk : B ≤ w1.heap.size := Nat.le_trans hB L1.size
  have HL0 := Lib.hid L1
  have HSX : Hid (∀ wx, Below w1.heap.size w1 wx → (wx.cell? ⟨w.heap.size, 0, none⟩ = some (.slice A1 s.M.length q1) ∧ wx.cell? ⟨w.heap.size, 1, none⟩ = some (.slice A2 s.E.length q2)) ∧ (wx.cell? ⟨w.heap.size + 1, 0, none⟩ = some (.int .i64 v.n) ∧ wx.cell? ⟨w.heap.size + 1, 1, none⟩ = some (.string (tx v.s)) ∧ wx.cell? ⟨w.heap.size + 1, 2, none⟩ = some (.slice A v.M.length c))) := Lib.hid fun wx h => ⟨box2' (box_on Y1 h), bx3 (box_on Y2 h)⟩
  have HVW := Lib.hid (fun wx (h : Below w1.heap.size w1 wx) => valueWriterV_any (d := 63) (D := D) (fun B => encmsg_any hin B D 63) (.slice A1 s.M.length q1) (.slice A2 s.E.length q2) kind ref no wx (Nat.le_trans hBk h.size) (SAt.lo HF.out.1 (below_then L1 h) hB) hinn (TW.on (below_then L1 h)))
  have HNV := Lib.hid (fun wx (h : Below w1.heap.size w1 wx) => encnormal_any hin B D (.slice A1 s.M.length q1) (.slice A2 s.E.length q2) ref v (.slice A v.M.length c) wx (Nat.le_trans hBk h.size) (SAt.lo HF.out.1 (below_then L1 h) hB) (VRd.low (Lo.below (below_then L1 h) hB) HF.out.2) HMAY.out.2.1 HMAY.out.2.2 HMAY.out.1 (T.on (below_then L1 h)))
  rw [HE1.out] at HNV
  have hNn : N.n = v.n ∧ N.s = v.s := by rw [← HE1.out]; exact ⟨rfl, rfl⟩
  have HNN := Lib.hid hNn
  clear s0 s1 p0 p1 p2 Y1 Y2 hNn
  go_wp2_with fail
  refine wp_region_held_drew (S := (fun w' => (w'.cell? ⟨w.heap.size, 0, none⟩ = some (.slice A1 s.M.length q1) ∧ w'.cell? ⟨w.heap.size, 1, none⟩ = some (.slice A2 s.E.length q2)) ∧ (w'.cell? ⟨w.heap.size + 1, 0, none⟩ = some (.int .i64 v.n) ∧ w'.cell? ⟨w.heap.size + 1, 1, none⟩ = some (.string (tx v.s)) ∧ w'.cell? ⟨w.heap.size + 1, 2, none⟩ = some (.slice A v.M.length c)))) (by kernel_rfl) (HSX.out _ hDk) (fun hHeld => ?_)
  refine wpAnyH_take (i := 0) (oi := { dst := some 26, op := Go.Op.load 33 (Go.Operand.tmp 5), type := 33, pos := "encode.go:34", after := #[], guard := none }) (v := ?_) rfl (by kernel_rfl) (by kernel_rfl) (by kernel_rfl) (fun _ _ _ h => h) (Or.inl ⟨by rfl, ?_⟩) hHeld ?_
  rotate_left
  · intro w hSw
    (try dsimp only at hSw)
    go_simp
    all_goals with_reducible rfl
  (try simp only [Act.put, List.setIfInBounds_toArray, List.set_cons_zero, List.set_cons_succ])
  refine wpAnyH_take (i := 1) (oi := { dst := some 27, op := Go.Op.move (Go.Operand.tmp 1), type := 3, pos := "encode.go:34", after := #[], guard := none }) (v := ?_) rfl (by kernel_rfl) (by kernel_rfl) (by kernel_rfl) (fun _ _ _ h => h) (Or.inl ⟨by rfl, ?_⟩) hHeld ?_
  rotate_left
  · intro w hSw
    (try dsimp only at hSw)
    go_simp
    all_goals with_reducible rfl
  (try simp only [Act.put, List.setIfInBounds_toArray, List.set_cons_zero, List.set_cons_succ])
  refine wpAnyH_take (i := 2) (oi := { dst := some 28, op := Go.Op.move (Go.Operand.tmp 2), type := 3, pos := "encode.go:34", after := #[], guard := none }) (v := ?_) rfl (by kernel_rfl) (by kernel_rfl) (by kernel_rfl) (fun _ _ _ h => h) (Or.inl ⟨by rfl, ?_⟩) hHeld ?_
  rotate_left
  · intro w hSw
    (try dsimp only at hSw)
    go_simp
    all_goals with_reducible rfl
  (try simp only [Act.put, List.setIfInBounds_toArray, List.set_cons_zero, List.set_cons_succ])
  refine wpAnyH_take (i := 3) (oi := { dst := some 29, op := Go.Op.move (Go.Operand.tmp 3), type := 3, pos := "encode.go:34", after := #[], guard := none }) (v := ?_) rfl (by kernel_rfl) (by kernel_rfl) (by kernel_rfl) (fun _ _ _ h => h) (Or.inl ⟨by rfl, ?_⟩) hHeld ?_
  rotate_left
  · intro w hSw
    (try dsimp only at hSw)
    go_simp
    all_goals with_reducible rfl
  (try simp only [Act.put, List.setIfInBounds_toArray, List.set_cons_zero, List.set_cons_succ])
  refine wpAnyH_take (i := 5) (oi := { dst := some 31, op := Go.Op.load 33 (Go.Operand.tmp 5), type := 33, pos := "encode.go:34", after := #[], guard := none }) (v := ?_) rfl (by kernel_rfl) (by kernel_rfl) (by kernel_rfl) (fun _ _ _ h => h) (Or.inl ⟨by rfl, ?_⟩) hHeld ?_
  rotate_left
  · intro w hSw
    (try dsimp only at hSw)
    go_simp
    all_goals with_reducible rfl
  (try simp only [Act.put, List.setIfInBounds_toArray, List.set_cons_zero, List.set_cons_succ])
  refine wpAnyH_take (i := 6) (oi := { dst := some 32, op := Go.Op.move (Go.Operand.tmp 2), type := 3, pos := "encode.go:34", after := #[], guard := none }) (v := ?_) rfl (by kernel_rfl) (by kernel_rfl) (by kernel_rfl) (fun _ _ _ h => h) (Or.inl ⟨by rfl, ?_⟩) hHeld ?_
  rotate_left
  · intro w hSw
    (try dsimp only at hSw)
    go_simp
    all_goals with_reducible rfl
  (try simp only [Act.put, List.setIfInBounds_toArray, List.set_cons_zero, List.set_cons_succ])
  refine wpAnyH_take (i := 7) (oi := { dst := some 33, op := Go.Op.load 51 (Go.Operand.tmp 9), type := 51, pos := "encode.go:34", after := #[], guard := none }) (v := ?_) rfl (by kernel_rfl) (by kernel_rfl) (by kernel_rfl) (fun _ _ _ h => h) (Or.inl ⟨by rfl, ?_⟩) hHeld ?_
  rotate_left
  · intro w hSw
    (try dsimp only at hSw)
    go_simp
    all_goals with_reducible rfl
  (try simp only [Act.put, List.setIfInBounds_toArray, List.set_cons_zero, List.set_cons_succ])
  refine wpAnyH_ready (rs := [4]) (by kernel_rfl) (by simp) ?_
  refine AllReadyH.cons (o := { dst := some 30, op := Go.Op.call { callee := Go.Callee.value (Go.Operand.func 33), args := #[Go.Operand.tmp 26, Go.Operand.tmp 27, Go.Operand.tmp 28, Go.Operand.tmp 29], argTypes := #[33, 3, 3, 3] }, type := 79, pos := "encode.go:34", after := #[{ on := 0, ground := Go.Ground.data }, { on := 1, ground := Go.Ground.data }, { on := 2, ground := Go.Ground.data }, { on := 3, ground := Go.Ground.data }], guard := none }) rfl (fun K hK => ?_) AllReadyH.nil
  go_simp
  (go_at_call 33; refine (HVW.out _ hDk).mono ?_; rintro e w4 ⟨cw, rfl, hcw, hb4⟩)
  have hb4d := hDk.trans (hb4.mono hDk.size)
  have HW7 := Lib.hid hcw
  obtain ⟨fnw, capw, rfl, -⟩ := hcw
  go_wp2_with fail
  refine hK.out _ _ (HSX.out _ hb4d) (fun hHeld => ?_)
  clear hK K
  (try simp only [Act.put, List.setIfInBounds_toArray, List.set_cons_zero, List.set_cons_succ])
  refine wpAnyH_ready (rs := [8]) (by kernel_rfl) (by simp) ?_
  refine AllReadyH.cons (o := { dst := some 34, op := Go.Op.call { callee := Go.Callee.value (Go.Operand.func 34), args := #[Go.Operand.tmp 31, Go.Operand.tmp 32, Go.Operand.tmp 33], argTypes := #[33, 3, 51] }, type := 51, pos := "encode.go:34", after := #[{ on := 5, ground := Go.Ground.data }, { on := 6, ground := Go.Ground.data }, { on := 7, ground := Go.Ground.data }, { on := 4, ground := Go.Ground.chain }], guard := none }) rfl (fun K hK => ?_) AllReadyH.nil
  go_simp
  (go_at_call 34; refine (HNV.out _ hb4d).mono ?_; rintro e w7 ⟨x3, rfl, hv7, hb7⟩)
  have hb7d := below_then hb4d hb7
  obtain ⟨fnw2, capw2, e7, hent, hcl⟩ := HW7.out
  injection e7 with e71 e72 e73
  injection e71 with e71
  subst e71 e73
  rw [← HNN.out.1, ← HNN.out.2] at hv7
  have hcl2 := hcl _ _ w7 w7.heap.size hb7 (Nat.le_trans hBk hb7d.size) (Nat.le_refl _) hv7 HOK.out
  rw [HNN.out.1, HNN.out.2] at hcl2
  have HCL := Lib.hid hcl2
  have hx3 : ∃ A n c, x3 = .slice A n c := by obtain ⟨A, c, -, -, h⟩ := val_shape hv7; exact ⟨A, _, c, h⟩
  obtain ⟨A7, n7, c7, rfl⟩ := hx3
  clear hcl hcl2 hv7
  go_wp2_with fail
  refine hK.out _ _ (HSX.out _ hb7d) (fun hHeld => ?_)
  clear hK K
  (try simp only [Act.put, List.setIfInBounds_toArray, List.set_cons_zero, List.set_cons_succ])
  refine wpAnyH_ready (rs := [9]) (by kernel_rfl) (by simp) ?_
  refine AllReadyH.cons (o := { dst := some 35, op := Go.Op.call { callee := Go.Callee.value (Go.Operand.tmp 30), args := #[Go.Operand.tmp 34], argTypes := #[51] }, type := 22, pos := "encode.go:34", after := #[{ on := 4, ground := Go.Ground.data }, { on := 8, ground := Go.Ground.data }, { on := 8, ground := Go.Ground.chain }], guard := none }) rfl (fun K hK => ?_) AllReadyH.nil
  go_simp
  refine HCL.out.mono ?_
  rintro e w9 ⟨v9, rfl, hy9, hb9⟩
  have hb9d := below_then hb7d hb9
  go_wp2_with fail
  refine hK.out _ _ (HSX.out _ hb9d) (fun hHeld => ?_)
  clear hK K
  (try simp only [Act.put, List.setIfInBounds_toArray, List.set_cons_zero, List.set_cons_succ])
  refine wpAnyH_take (i := 10) (oi := { dst := some 10, op := Go.Op.assign (Go.Operand.tmp 35), type := 22, pos := "encode.go:34", after := #[{ on := 9, ground := Go.Ground.data }, { on := 9, ground := Go.Ground.chain }, { on := 0, ground := Go.Ground.phase }, { on := 1, ground := Go.Ground.phase }, { on := 2, ground := Go.Ground.phase }, { on := 3, ground := Go.Ground.phase }, { on := 4, ground := Go.Ground.phase }, { on := 5, ground := Go.Ground.phase }, { on := 6, ground := Go.Ground.phase }, { on := 7, ground := Go.Ground.phase }, { on := 8, ground := Go.Ground.phase }, { on := 9, ground := Go.Ground.phase }], guard := none }) (v := ?_) rfl (by kernel_rfl) (by kernel_rfl) (by kernel_rfl) (fun _ _ _ h => h) (Or.inl ⟨by rfl, ?_⟩) hHeld ?_
  rotate_left
  · intro w hSw
    (try dsimp only at hSw)
    go_simp
    all_goals with_reducible rfl
  (try simp only [Act.put, List.setIfInBounds_toArray, List.set_cons_zero, List.set_cons_succ])
  refine wpAnyH_take (i := 11) (oi := { dst := some 11, op := Go.Op.assign (Go.Operand.const (Go.Value.int Go.IntKind.i64 0)), type := 25, pos := "encode.go:34", after := #[{ on := 10, ground := Go.Ground.chain }, { on := 0, ground := Go.Ground.phase }, { on := 1, ground := Go.Ground.phase }, { on := 2, ground := Go.Ground.phase }, { on := 3, ground := Go.Ground.phase }, { on := 4, ground := Go.Ground.phase }, { on := 5, ground := Go.Ground.phase }, { on := 6, ground := Go.Ground.phase }, { on := 7, ground := Go.Ground.phase }, { on := 8, ground := Go.Ground.phase }, { on := 9, ground := Go.Ground.phase }, { on := 10, ground := Go.Ground.phase }], guard := none }) (v := ?_) rfl (by kernel_rfl) (by kernel_rfl) (by kernel_rfl) (fun _ _ _ h => h) (Or.inl ⟨by rfl, ?_⟩) hHeld ?_
  rotate_left
  · intro w hSw
    (try dsimp only at hSw)
    go_simp
    all_goals with_reducible rfl
  (try simp only [Act.put, List.setIfInBounds_toArray, List.set_cons_zero, List.set_cons_succ])
  refine wpAnyH_done (by kernel_rfl) ?_ _
  go_wp2
  go_ret2
  refine ⟨v9, rfl, ?_, below_then HL0.out hb9d⟩
  exact hy9.less (Nat.le_trans HL0.out.size hb7d.size)
end Go.Proofs.YtipaangiehdgkaaGreatDoor.T12
/-
  A value's bytes are one record, of its number; and what a message that has it alone has.
-/
namespace Go.Proofs.YtipaangiehdgkaaGreatDoor.T12
set_option maxRecDepth 100000

open Go.RowKit

open Go.Proofs.YtipaangiehdgkaaGreatDoor.T9 Go.Proofs.YtipaangiehdgkaaGreatDoor.T4

theorem val_rec {s : Sc} {kind ref no : Int} {v : Vl'} (ha : askG (isB s 63) kind ref v = true) (hno : 1 ≤ no ∧ no ≤ 536870911) (hi : VIn v) (hwt : 40 * cV v + tV v ≤ 35184372088832) :
    ∃ (nn wn num : Nat) (run : List UInt8), no = nn ∧ valL (encB s 63) kind ref no v = recL nn wn num run ∧ putB nn wn = true ∧ num < 18446744073709551616 ∧ run.length < 18446744073709551616 := by
  obtain ⟨nn, rfl⟩ := Int.eq_ofNat_of_zero_le (show 0 ≤ no by omega)
  have hp2 : putB (nn : Int) ((2 : Nat) : Int) = true := put_run hno
  unfold valL
  by_cases h9 : kind = 9
  · subst h9
    obtain ⟨-, -, x, hx, hg⟩ := ask_nine ha
    rw [if_pos rfl, hx]
    have h1 := sm_mem (g := Mg.txt) (show x ∈ v.M by rw [hx]; simp)
    have h2 := cnt_le (v := v) (x := x) (by rw [hx]; simp)
    have h3 : tV v = v.s.length + sm (v.M.map Mg.txt) := rfl
    have h4 := enc_len s 63 ref x (hi.2 x (by rw [hx]; simp)) (by omega)
    exact ⟨nn, 2, 0, encB s 63 ref x, rfl, rfl, hp2, by omega, by omega⟩
  · rw [if_neg h9]
    by_cases h78 : kind = 7 ∨ kind = 8
    · rw [if_pos h78]
      have := hi.1.2
      exact ⟨nn, 2, 0, v.s, rfl, rfl, hp2, by omega, by omega⟩
    · rw [if_neg h78]
      have hc := ask_cnt ha (fun e => h78 (.inl e)) (fun e => h78 (.inr e)) h9
      have hp := put_num hno hc
      have hw : (0 : Int) ≤ wireI kind := by rcases seven_cnt hc with rfl | rfl | rfl | rfl | rfl | rfl | rfl <;> decide
      obtain ⟨wn, hwn⟩ := Int.eq_ofNat_of_zero_le hw
      rw [hwn] at hp
      exact ⟨nn, wn, (bitsI kind v.n).toNat, [], rfl, by unfold encN; rw [hwn], hp, bits_nat kind v.n hi.1.1, by simp⟩
theorem all_one {nn wn num : Nat} {run : List UInt8} (hp : putB nn wn = true) (hn : num < 18446744073709551616) (hr : run.length < 18446744073709551616) :
    ∃ r : Rc, allR (recL nn wn num run) 0 (recL nn wn num run).length = ([r], 0) ∧ r.no = nn := by
  have h := next_back hp hn hr [] []
  rw [List.append_nil, List.nil_append] at h
  have hl := rec_ne (num := num) (run := run) hp
  obtain ⟨X, hX⟩ : ∃ X, recL nn wn num run = X := ⟨_, rfl⟩
  rw [hX] at h hl ⊢
  simp only [List.length_nil, Nat.zero_add, Int.ofNat_zero, Int.natCast_zero] at h
  refine ⟨⟨nn, wn, numQ wn num run, headL nn wn run, X.length⟩, ?_, rfl⟩
  unfold allR
  rw [if_pos (mayB_true.2 ⟨by omega, by omega, by omega⟩)]
  have e := recs_step (l := X) (u := X.length) (a := 0) (by omega) h
  rw [recs_end (show ¬ X.length < X.length by omega)] at e
  simpa using e
theorem told_no {f : Df} {v : Vl'} (hk : f.key = -1) (h : toldB f [v] = false) : f.rep = false ∧ f.one = 0 ∧ f.kind ≠ 9 ∧ v.n = 0 ∧ v.s = [] := by
  unfold toldB defB at h
  simp only [Bool.or_eq_false_iff, bne_eq_false_iff_eq, beq_eq_false_iff_ne, Bool.not_eq_false', Bool.and_eq_true, beq_iff_eq, List.isEmpty_iff] at h
  exact ⟨h.1, h.2.2.1, h.2.2.2.1, h.2.2.2.2.1, h.2.2.2.2.2.1⟩
theorem alone_enc {s : Sc} {m no : Int} {f : Df} {v : Vl'} (hf : byS s m no = some f) (hk : f.key = -1) (hno : f.no = no) :
    (toldB f [v] = true → (f.rep && cnt f.kind) = false → encB s 64 m (norB s 64 m (.mk [⟨no, [], [v]⟩])) = valL (encB s 63) f.kind f.ref no (norV (norB s 63) f.ref v)) ∧
    (toldB f [v] = false → encB s 64 m (norB s 64 m (.mk [⟨no, [], [v]⟩])) = []) := by
  refine ⟨fun ht hc => ?_, fun ht => ?_⟩
  · have e : norB s 64 m (.mk [⟨no, [], [v]⟩]) = .mk [⟨no, [], [norV (norB s 63) f.ref v]⟩] := by
      refine Mg.ext ?_
      show srt ltNo ([(⟨no, [], [v]⟩ : So)].filterMap (norO (byS s m) (norB s 63))) = _
      have h1 : norO (byS s m) (norB s 63) ⟨no, [], [v]⟩ = some ⟨no, [], [norV (norB s 63) f.ref v]⟩ := by
        unfold norO
        show (byS s m no).bind _ = _
        rw [hf, Option.bind_some, if_pos ht]
        unfold norS
        rw [if_pos hk]; rfl
      rw [List.filterMap_cons_some h1]; rfl
    rw [e, enc_alone]
    unfold slotL
    show (match byS s m no with | none => [] | some f => fieldL (encB s 63) f _) = _
    rw [hf]
    show fieldL (encB s 63) f _ = _
    unfold fieldL
    rw [if_pos hk, hc, if_neg (by simp), hno]
    simp
  · have e : norB s 64 m (.mk [⟨no, [], [v]⟩]) = .mk [] := by
      refine Mg.ext ?_
      show srt ltNo ([(⟨no, [], [v]⟩ : So)].filterMap (norO (byS s m) (norB s 63))) = _
      have h1 : norO (byS s m) (norB s 63) ⟨no, [], [v]⟩ = none := by
        unfold norO
        show (byS s m no).bind _ = _
        rw [hf, Option.bind_some, if_neg (by rw [ht]; simp)]
      rw [List.filterMap_cons_none h1]; rfl
    rw [e]; rfl
set_option maxRecDepth 1000000 in
set_option maxHeartbeats 4000000 in
theorem value_no {s : Sc} (hin : ScIn s) (B D : Nat) (vM vE : Value) (kind ref no : Int) (v : Vl') (u : Value) (w : World) (hB : B ≤ w.heap.size) (hs : SAt B w s vM vE) (hv : VAt (Rd B w) D v [.int .i64 v.n, .string (tx v.s), u]) (hi : VIn v) (hc : cV v ≤ 100000) (T : Tabs w) (hvt : no < 1 ∨ 536870911 < no ∨ valT s kind ref v = false) :
    Calls Tryz.prog 18 #[.agg #[vM, vE], .int .i64 kind, .int .i64 ref, .int .i64 no, .agg #[.int .i64 v.n, .string (tx v.s), u]] w fun e w' => e = .returned (.tuple #[.slice none 0 0, .int .i64 1]) ∧ Below w.heap.size w w' := by
  obtain ⟨A1, q1, A2, q2, rfl, rfl⟩ := sat_shape hs
  obtain ⟨A, c, -, -, rfl⟩ := val_shape hv
  obtain ⟨X1, X2, LBD⟩ := two_boxes w (.cells #[.slice A1 s.M.length q1, .slice A2 s.E.length q2] 33) (.cells #[.int .i64 v.n, .string (tx v.s), .slice A v.M.length c] 51)
  obtain ⟨s0, s1⟩ := box2' X1
  obtain ⟨p0, p1, p2⟩ := bx3 X2
  have HTV := Lib.hid (fun wx (h : Below w.heap.size w wx) => tval_any hin B D (.slice A1 s.M.length q1) (.slice A2 s.E.length q2) kind ref v (.slice A v.M.length c) wx (Nat.le_trans hB h.size) (SAt.lo hs h hB) (VRd.low (Lo.below h hB) hv) hi hc (T.on h))
  clear hs hv hi X1 X2 hc
  by_cases n1 : no < 1
  · clear hvt
    go_enter Tryz.func18, Tryz.ntmps18
    go_wp2
    go_ret2
    exact ⟨rfl, LBD⟩
  · by_cases n2 : 536870911 < no
    · clear hvt
      go_enter Tryz.func18, Tryz.ntmps18
      go_wp2
      go_ret2
      exact ⟨rfl, LBD⟩
    · have hv0 : valT s kind ref v = false := by
        rcases hvt with h | h | h
        · exact absurd h n1
        · exact absurd h n2
        · exact h
      rw [hv0] at HTV
      clear hvt hv0
      go_enter Tryz.func18, Tryz.ntmps18
      go_wp2_with fail
      refine (HTV.out _ LBD).mono ?_
      rintro e w1 ⟨rfl, hb1⟩
      go_wp2
      go_ret2
      exact ⟨rfl, below_then LBD hb1⟩
end Go.Proofs.YtipaangiehdgkaaGreatDoor.T12
/-
  The document's own functions that look for things by name: the contracts.
-/
namespace Go.Proofs.YtipaangiehdgkaaGreatDoor
set_option maxRecDepth 100000

open Go.RowKit

theorem not_next {α : Type} {l : List α} {k : Nat} {x : α} {P : α → Prop} (hk : l[k]? = some x) (hx : P x) (h : ∀ j y, j < k → l[j]? = some y → P y) : ∀ j y, j < k + 1 → l[j]? = some y → P y := by
  intro j y hj hy
  rcases Nat.lt_or_ge j k with h2 | h2
  · exact h j y h2 hy
  · obtain rfl : j = k := by omega
    rw [hk] at hy
    obtain rfl := Option.some.inj hy
    exact hx
end Go.Proofs.YtipaangiehdgkaaGreatDoor
/-
  The document's own Find and By: the contracts.
-/
namespace Go.Proofs.YtipaangiehdgkaaGreatDoor
set_option maxRecDepth 100000

open Go.RowKit

set_option maxRecDepth 1000000 in
set_option maxHeartbeats 4000000 in
theorem rBy_any (B : Nat) (s : Sc) (vM vE : Value) (m : Int) (x : Int) (w : World) (hB : B ≤ w.heap.size) (hs : SAt B w s vM vE) :
    Calls Tryz.prog 17 #[.agg #[vM, vE], .int .i64 m, .int .i64 x] w fun e w' => e = .returned (foundV (byS s m x)) ∧ Below w.heap.size w w' := by
  obtain ⟨xs, ys, ⟨A1, q1, rfl, s1, b1⟩, h2, ⟨A2, q2, rfl, s2, b2⟩, h4⟩ := hs
  have hb0 : Below w.heap.size w ((w.alloc (.cells #[.slice A1 s.M.length q1, .slice A2 s.E.length q2] 33)).alloc (.cells #[.int .i64 0, .string ⟨#[]⟩, .int .i64 0, .int .i64 0, .bool false, .int .i64 0, .int .i64 0] 53)) := below_lit (below_new _ _) _
  have hx0 : ((w.alloc (.cells #[.slice A1 s.M.length q1, .slice A2 s.E.length q2] 33)).alloc (.cells #[.int .i64 0, .string ⟨#[]⟩, .int .i64 0, .int .i64 0, .bool false, .int .i64 0, .int .i64 0] 53)).heap[w.heap.size]? = some (.cells #[.slice A1 s.M.length q1, .slice A2 s.E.length q2] 33 (0, 0)) := ((below_new _ _).block _ (by simp)).trans (heap_alloc_new w _)
  have hr0 := heap_second w (.cells #[.slice A1 s.M.length q1, .slice A2 s.E.length q2] 33) (.cells #[.int .i64 0, .string ⟨#[]⟩, .int .i64 0, .int .i64 0, .bool false, .int .i64 0, .int .i64 0] 53)
  have hsm : s.M.length ≤ 9223372036854775807 := by have h1 := s1.le; have h2 := s1.cap; unfold maxLen at h2; omega
  have HM := Lib.hid (s1.low b1 (Low.below hb0 hB))
  have HMA := Lib.hid (h2.low (Low.below hb0 hB))
  have HB0 := Lib.hid hb0
  clear s1 h2 s2 h4 hB b1 b2
  go_enter Tryz.func17, Tryz.ntmps17
  go_upto_region 1 with fail
  obtain ⟨W0, hW0⟩ : ∃ W, W = ((w.alloc (.cells #[.slice A1 s.M.length q1, .slice A2 s.E.length q2] 33)).alloc (.cells #[.int .i64 0, .string ⟨#[]⟩, .int .i64 0, .int .i64 0, .bool false, .int .i64 0, .int .i64 0] 53)) := ⟨_, rfl⟩
  rw [← hW0] at HM HMA HB0 hx0 hr0 ⊢
  clear hW0 hb0
  have v0 := heap_cell hx0 0
  simp at v0
  by_cases hm : 0 ≤ m ∧ m < s.M.length
  · obtain ⟨k, rfl⟩ : ∃ k : Nat, m = k := ⟨m.toNat, by omega⟩
    have hlt : k < s.M.length := by omega
    obtain ⟨d, hd0⟩ : ∃ d, s.M[k]? = some d := ⟨_, List.getElem?_eq_getElem hlt⟩
    have hn : byS s (k : Int) x = d.F.find? (fun y => y.no == x) := by
      have e : msgAt s (k : Int) = some d := by unfold msgAt; rw [if_neg (by omega), Int.toNat_natCast, hd0]
      unfold byS
      rw [e]
      rfl
    obtain ⟨ad, vF, rfl, hg, hmr, c0, c1⟩ := mdr_at HM.out HMA.out hd0
    obtain ⟨AF, cF, rfl, sF, aF⟩ := hmr
    have hfl : d.F.length ≤ 9223372036854775807 := by have h1 := sF.le; have h2 := sF.cap; unfold maxLen at h2; omega
    have HSF := Lib.hid sF
    have HN := Lib.hid hn
    have HX0 := Lib.hid hx0
    have HR0 := Lib.hid hr0
    have h1 : decide ((k : Int) < 0) = false := by rw [decide_eq_false_iff_not]; omega
    have h2 : decide ((s.M.length : Int) ≤ (k : Int)) = false := by rw [decide_eq_false_iff_not]; omega
    have h3 : decide ((k : Int) ≥ (s.M.length : Int)) = false := by rw [decide_eq_false_iff_not]; omega
    clear hm hn sF hd0 hx0 hr0
    go_wp2
    go_loopw [8] (fun i wr => ∃ j : Nat, i = .int .i64 j ∧ j ≤ d.F.length ∧ (∀ i y, i < j → d.F[i]? = some y → (y.no == x) = false) ∧ wr = W0) (fun i _ => d.F.length - (intOf i).toNat)
    case atStart => exact ⟨0, rfl, by omega, fun j y hj => by omega, rfl⟩
    case round =>
      obtain ⟨j, rfl, hj, herr, rfl⟩ := hrel
      have HQ := Lib.hid herr
      clear herr
      by_cases hlj : j < d.F.length
      · obtain ⟨y, hy⟩ : ∃ d', d.F[j]? = some d' := ⟨_, List.getElem?_eq_getElem hlj⟩
        obtain ⟨ad3, rfl, hg3, k0, k1, k2, k3, k4, k5, k6⟩ := dfr_at HSF.out hy
        have HY := Lib.hid hy
        clear hy
        skip
        by_cases hx : y.no = x
        · have he : (y.no == x) = true := beq_iff_eq.2 hx
          have HF := Lib.hid (HN.out.trans (find_first HQ.out HY.out (beq_iff_eq.2 hx)))
          clear hx
          go_wp2_with (refine wpList_store_df rfl _ _ rfl rfl (w.heap.size + 1) _ _ _ _ _ _ _ _ _ _ _ _ _ _ rfl rfl _ HR0.out ?_)
          refine bodyPost_ret (results_df1 rfl _ _ (w.heap.size + 1) _ _ _ _ _ _ _ _ (0, 0) rfl (setRow_heap _ _ _ _ _ _ HR0.out)) rfl ?_
          exact ⟨by rw [HF.out]; rfl, below_setRow HB0.out (by omega) _⟩
        · have he : (y.no == x) = false := beq_eq_false_iff_ne.2 hx
          have HX := Lib.hid (show (y.no == x) = false from beq_eq_false_iff_ne.2 hx)
          clear hx
          go_wp2
          exact ⟨⟨j + 1, by go_num, by omega, not_next (P := fun y => (y.no == x) = false) HY.out HX.out HQ.out, trivial⟩, by simp [intOf]; omega⟩
      · obtain rfl : j = d.F.length := by omega
        have HF := Lib.hid (HN.out.trans (find_none HQ.out))
        go_wp2_with (refine wpList_store_df rfl _ _ rfl rfl (w.heap.size + 1) _ _ _ _ _ _ _ _ _ _ _ _ _ _ rfl rfl _ HR0.out ?_)
        refine bodyPost_ret (results_df1 rfl _ _ (w.heap.size + 1) _ _ _ _ _ _ _ _ (0, 0) rfl (setRow_heap _ _ _ _ _ _ HR0.out)) rfl ?_
        exact ⟨by rw [HF.out]; rfl, below_setRow HB0.out (by omega) _⟩
  · have HN : Hid (byS s m x = none) := Lib.hid (by
      have e : msgAt s m = none := by
        unfold msgAt
        split
        · rfl
        · exact List.getElem?_eq_none (by omega)
      unfold byS
      rw [e]
      rfl)
    obtain ⟨v1, hv1⟩ : ∃ v, decide (m < 0) = v := ⟨_, rfl⟩
    obtain ⟨v2, hv2⟩ : ∃ v, decide ((s.M.length : Int) ≤ m) = v := ⟨_, rfl⟩
    have HV : Hid ((v1 || v2) = true) := Lib.hid (by rw [← hv1, ← hv2]; simp only [Bool.or_eq_true, decide_eq_true_eq]; omega)
    have hv3 : decide (m ≥ (s.M.length : Int)) = v2 := hv2
    clear hm
    cases v1 <;> cases v2
    · exact absurd HV.out (by simp)
    all_goals
      go_wp2_with (refine wpList_store_df rfl _ _ rfl rfl (w.heap.size + 1) _ _ _ _ _ _ _ _ _ _ _ _ _ _ rfl rfl _ hr0 ?_)
      refine bodyPost_ret (results_df1 rfl _ _ (w.heap.size + 1) _ _ _ _ _ _ _ _ (0, 0) rfl (setRow_heap _ _ _ _ _ _ hr0)) rfl ?_
      exact ⟨by rw [HN.out]; rfl, below_setRow HB0.out (by omega) _⟩
end Go.Proofs.YtipaangiehdgkaaGreatDoor
/-
  A value's bytes are one record, of its number; of a field that has one the message's that has just that value, unless it goes without saying: the walk.
-/
namespace Go.Proofs.YtipaangiehdgkaaGreatDoor.T12.lawEncodeValue
set_option maxRecDepth 100000

open Go.ChangeShapes Go.WideShapes Go.ChangeAt Go.RowKit

open Go.Proofs.YtipaangiehdgkaaGreatDoor.T9 Go.Proofs.YtipaangiehdgkaaGreatDoor.T4

/-- A value alone, in a field. -/
def aloneS (no : Int) (v : Vl') : So := ⟨no, [], [v]⟩
theorem byS_at {s : Sc} {m no : Int} {f : Df} (hf : byS s m no = some f) : 0 ≤ m ∧ m < s.M.length := by
  unfold byS msgAt at hf
  by_cases h0 : m < 0
  · rw [if_pos h0] at hf; simp at hf
  · rw [if_neg h0] at hf
    cases hm : s.M[m.toNat]? with
    | none => rw [hm] at hf; simp at hf
    | some d =>
      have hlt := (List.getElem?_eq_some_iff.1 hm).1
      exact ⟨by omega, by omega⟩
theorem claim_first (f : Df) : claimB [] f = true := by
  unfold claimB
  by_cases h : f.one = 0
  · simp [h]
  · have h2 : ¬ (0 : Int) = f.one := fun e => h e.symm
    simp [h, h2]
theorem may_alone {s : Sc} {m no : Int} {f : Df} {v : Vl'} (hf : byS s m no = some f) (hk : f.key = -1) : mayT s m (.mk [aloneS no v]) = valT s f.kind f.ref v := by
  have hm := byS_at hf
  have e : isB s 64 m (.mk [aloneS no v]) = T9.valB s 63 f.kind f.ref v := by
    show (decide (0 ≤ m ∧ m < s.M.length) && slotsG (byS s m) (fillG (isB s 63)) [] [aloneS no v]) = _
    rw [decide_eq_true hm, Bool.true_and, slotsG_cons, show (aloneS no v).no = no from rfl, hf]
    simp only [claim_first, slotsG, Bool.true_and, Bool.and_true]
    unfold fillG manyB
    rw [if_pos hk]
    simp [aloneS, T9.valB]
  unfold mayT valT
  rw [e]
theorem sat_up {w w' : World} {s : Sc} {vM vE : Value} (h : SAt w.heap.size w s vM vE) (hb : Below w.heap.size w w') : SAt w'.heap.size w' s vM vE := SAt.mono (SAt.lo h hb (Nat.le_refl _)) hb.size
theorem vrd_up {D : Nat} {w w' : World} {v : Vl'} {cs : List Value} (hb : Below w.heap.size w w') (h : VAt (Rd w.heap.size w) D v cs) : VAt (Rd w'.heap.size w') D v cs := VRd.mono hb.size (VRd.low (Lo.below hb (Nat.le_refl _)) h)
theorem alone_rd {D g1 g2 : Nat} {w : World} {no : Int} {v : Vl'} {x y z : Value} {t1 t2 : TypeId} {fr1 fr2 : Nat × Nat} (hv : VAt (Rd w.heap.size w) D v [x, y, z]) (h1 : w.heap[g1]? = some (.cells #[x, y, z] t1 fr1)) (h2 : w.heap[g2]? = some (.cells #[.int .i64 no, .slice none 0 0, .slice (some ⟨g1, 0, none⟩) 1 1] t2 fr2)) :
    MRd w.heap.size w (D + 1) (.mk [aloneS no v]) (.slice (some ⟨g2, 0, none⟩) 1 1) :=
  one_rd (s := aloneS no v) ⟨_, _, rfl, ⟨[], ⟨Rr.nil _ _ _, Nat.zero_le _⟩, rfl⟩, ⟨[x, y, z], lit_row (n := 1) (size := 3) (xs := [x, y, z]) h1 rfl (by decide) (box_lt h1) _, Rows.single hv⟩⟩ h2
theorem alone_in {no : Int} {v : Vl'} (hn : inI no) (hv : VIn v) : MIn (.mk [aloneS no v]) := .of fun s hs => by
  obtain rfl : s = aloneS no v := by simpa [Mg.F] using hs
  refine ⟨hn, fun x hx => ?_⟩
  obtain rfl : x = v := by simpa [aloneS] using hx
  exact hv
theorem alone_cnt (no : Int) (v : Vl') : (Mg.mk [aloneS no v]).cnt = 1 + cV v := by
  rw [cnt_one]
  unfold cS aloneS
  simp [sm]
theorem rby_found {B : Nat} {s : Sc} {vM vE : Value} {m x : Int} {f : Df} (hf : byS s m x = some f) (w : World) (hB : B ≤ w.heap.size) (hs : SAt B w s vM vE) :
    Calls Tryz.prog 17 #[.agg #[vM, vE], .int .i64 m, .int .i64 x] w fun e w' => e = .returned (.tuple #[.agg #[.int .i64 f.no, .string (txt f.name), .int .i64 f.kind, .int .i64 f.ref, .bool f.rep, .int .i64 f.key, .int .i64 f.one], .bool true]) ∧ Below w.heap.size w w' :=
  (rBy_any B s vM vE m x w hB hs).mono fun e w' h => ⟨by rw [h.1, hf]; rfl, h.2⟩
theorem rby_none {B : Nat} {s : Sc} {vM vE : Value} {m x : Int} (hf : byS s m x = none) (w : World) (hB : B ≤ w.heap.size) (hs : SAt B w s vM vE) :
    Calls Tryz.prog 17 #[.agg #[vM, vE], .int .i64 m, .int .i64 x] w fun e w' => e = .returned (.tuple #[.agg #[.int .i64 0, .string ⟨#[]⟩, .int .i64 0, .int .i64 0, .bool false, .int .i64 0, .int .i64 0], .bool false]) ∧ Below w.heap.size w w' :=
  (rBy_any B s vM vE m x w hB hs).mono fun e w' h => ⟨by rw [h.1, hf]; rfl, h.2⟩
theorem alone_txt (no : Int) (v : Vl') : Mg.txt (Mg.mk [aloneS no v]) = tV v := by
  rw [Mg.txt_eq]
  show sm [tS (aloneS no v)] = _
  simp [sm, tS, aloneS]
set_option maxRecDepth 1000000 in
set_option maxHeartbeats 16000000 in
theorem walk (w : World) (T : Tabs w ∧ Wires w) (s : Sc) (vM vE : Value) (hs0 : SAt w.heap.size w s vM vE) (hin : ScIn s) (m : Int) (hm1 : -9223372036854775808 ≤ m) (hm2 : m ≤ 9223372036854775807) (no : Int) (hn1 : -9223372036854775808 ≤ no) (hn2 : no ≤ 9223372036854775807)
    (v : Vl') (u : Value) (D : Nat) (hv0 : VAt (Rd w.heap.size w) D v [.int .i64 v.n, .string (tx v.s), u]) (hi : VIn v) :
    Calls Tryz.prog 6 #[.agg #[vM, vE], .int .i64 m, .int .i64 no, .agg #[.int .i64 v.n, .string (tx v.s), u]] w fun e w' => e = .returned (.bool true) ∧ Below w.heap.size w w' := by
  obtain ⟨A1, q1, A2, q2, rfl, rfl⟩ := sat_shape hs0
  obtain ⟨Av, cv, -, -, rfl⟩ := val_shape hv0
  obtain ⟨X1, X2, LBD⟩ := two_boxes w (.cells #[.slice A1 s.M.length q1, .slice A2 s.E.length q2] 33) (.cells #[.int .i64 v.n, .string (tx v.s), .slice Av v.M.length cv] 51)
  have HS := Lib.hid (fun wx (h : Below w.heap.size w wx) => sat_up hs0 h)
  have HV := Lib.hid (fun wx (h : Below w.heap.size w wx) => vrd_up h hv0)
  have HT := Lib.hid T
  have hno : inI no := ⟨hn1, hn2⟩
  have HXI := Lib.hid (And.intro (alone_in (no := 0) ⟨by decide, by decide⟩ hi) (alone_in hno hi))
  have HI := Lib.hid hi
  clear hs0 hv0 T hm1 hm2 hn1 hn2
  go_enter Tryz.func6, Tryz.ntmps6
  go_wp2_with fail
  refine (awake12_any _ (HT.out.1.on LBD) (HT.out.2.on LBD)).mono ?_
  rintro e w1 ⟨rfl, hb1⟩
  have hb01 := below_then LBD hb1
  have Y1 := box_on X1 hb1
  have Y2 := box_on X2 hb1
  clear X1 X2 LBD hb1
  obtain ⟨y1, y2⟩ := box2' Y1
  obtain ⟨p0, p1, p2⟩ := bx3 Y2
  obtain ⟨T1, T2, L3⟩ := two_boxes w1 (.cells #[.int .i64 v.n, .string (tx v.s), .slice Av v.M.length cv] 51) (.cells #[.int .i64 0, .slice none 0 0, .slice (some ⟨w1.heap.size, 0, none⟩) 1 1] 48)
  have hb03 := below_then hb01 L3
  have Z1 := box_on Y1 L3
  have Z2 := box_on Y2 L3
  have h3s : ((w1.alloc (.cells #[.int .i64 v.n, .string (tx v.s), .slice Av v.M.length cv] 51)).alloc (.cells #[.int .i64 0, .slice none 0 0, .slice (some ⟨w1.heap.size, 0, none⟩) 1 1] 48)).heap.size = w1.heap.size + 2 := by simp
  have HF1 := Lib.hid (few12_any _ (D + 1) s _ _ (.mk [aloneS 0 v]) _ _ (Nat.le_refl _) (HS.out _ hb03) (alone_rd (HV.out _ hb03) T1 T2) HXI.out.1)
  clear T1 T2
  go_wp2_with fail
  refine HF1.out.mono ?_
  rintro e w2 ⟨r, rfl, hfit, hb2⟩
  have hb02 := below_then hb03 hb2
  have Y1 := box_on Z1 hb2
  have Y2 := box_on Z2 hb2
  clear y1 y2 p0 p1 p2 Z1 Z2 L3 HF1 h3s hb01
  obtain ⟨y1, y2⟩ := box2' Y1
  cases hfo : byS s m no with
  | none =>
    have HBY := Lib.hid (rby_none hfo w2 (Nat.le_refl _) (HS.out _ hb02))
    clear hfit
    go_wp2_with fail
    refine HBY.out.mono ?_
    rintro e w3 ⟨rfl, hb3⟩
    cases r <;> go_wp2
    all_goals
      go_ret
      exact ⟨rfl, below_then (below_then hb02 hb3) (below_new _ _)⟩
  | some f =>
  have HBY := Lib.hid (rby_found hfo w2 (Nat.le_refl _) (HS.out _ hb02))
  go_wp2_with fail
  refine HBY.out.mono ?_
  rintro e w3 ⟨rfl, hb3⟩
  have N3 := below_new w3 (dC f)
  have hb04 := below_then (below_then hb02 hb3) N3
  have Y1 := box_on (box_on Y1 hb3) N3
  have Y2 := box_on (box_on Y2 hb3) N3
  have Y3 := heap_alloc_new w3 (dC f)
  obtain ⟨g0, g1, g2, g3, g4, g5, g6⟩ := dc_cells Y3
  clear y1 y2
  by_cases hk : f.key = -1
  case neg =>
    have b1 : (f.key != -1) = true := by simp [hk]
    have b2 : (f.key == -1) = false := by simp [hk]
    cases r <;> go_wp2
    all_goals
      go_ret
      exact ⟨rfl, hb04⟩
  have b1 : (f.key != -1) = false := by rw [hk]; rfl
  have b2 : (f.key == -1) = true := by rw [hk]; rfl
  cases r with
  | false =>
    clear hk hfo
    go_wp2
    go_ret
    exact ⟨rfl, hb04⟩
  | true =>
  obtain ⟨⟨hcx, -⟩, htx⟩ := hfit rfl
  rw [alone_cnt] at hcx
  rw [alone_txt] at htx
  have hcv : cV v ≤ 100000 := by omega
  have hwt : 40 * cV v + tV v ≤ 35184372088832 := by omega
  have HCV := Lib.hid (And.intro hcv (And.intro hwt (And.intro hcx htx)))
  have HK := Lib.hid hk
  have HFO := Lib.hid hfo
  obtain ⟨y1, y2⟩ := box2' Y1
  obtain ⟨p0, p1, p2⟩ := bx3 Y2
  by_cases hok : (1 ≤ no ∧ no ≤ 536870911) ∧ valT s f.kind f.ref v = true
  case neg =>
    have HVN := Lib.hid (value_no hin _ D _ _ f.kind f.ref no v _ _ (Nat.le_refl _) (HS.out _ hb04) (HV.out _ hb04) hi hcv (HT.out.1.on hb04) (by
      by_cases h1 : no < 1
      · exact .inl h1
      · by_cases h2 : 536870911 < no
        · exact .inr (.inl h2)
        · refine .inr (.inr ?_)
          cases h3 : valT s f.kind f.ref v with
          | false => rfl
          | true => exact absurd ⟨⟨by omega, by omega⟩, h3⟩ hok))
    clear hcx htx hcv hwt hk hok hfo hfit Y1 Y2 Y3
    go_wp2_with fail
    refine HVN.out.mono ?_
    rintro e w4 ⟨rfl, hb4⟩
    go_wp2
    go_ret
    exact ⟨rfl, below_then hb04 hb4⟩
  obtain ⟨hnr, hvt⟩ := hok
  obtain ⟨hsm, ha⟩ := valT_split hvt
  obtain ⟨e1, hokN, -⟩ := okN_of hsm ha hi hcv hwt
  obtain ⟨-, hfno⟩ := fno_ok hsm hfo
  have HVY := Lib.hid (value_yes hin _ D _ _ f.kind f.ref no v _ _ (Nat.le_refl _) (HS.out _ hb04) (HV.out _ hb04) hi hcv hwt (HT.out.1.on hb04) (HT.out.2.on hb04) hnr hvt)
  obtain ⟨nn, wn, num, run, hnn, hrec, hp, hnum, hrun⟩ := val_rec hokN.2.1 hnr hokN.1 hokN.2.2.2
  obtain ⟨rc, hall, hrc⟩ := all_one hp hnum hrun
  obtain ⟨ae1, ae2⟩ := alone_enc hfo hk hfno
  have hvl := val_len (enc_len s 63) f.kind f.ref no (norV (norB s 63) f.ref v) hokN.1 (Nat.le_trans hokN.2.2.2 (by decide))
  have hvl2 : (valL (encB s 63) f.kind f.ref no (norV (norB s 63) f.ref v)).length ≤ 1000000 := by
    have g := good_val (norB_good (may_keys hsm) 63) ha
    have h1 := g.cnt
    have h2 := txt_val (nor_txt s 63) ha
    omega
  rw [← hrec] at hall
  obtain ⟨X, hX⟩ : ∃ X, valL (encB s 63) f.kind f.ref no (norV (norB s 63) f.ref v) = X := ⟨_, rfl⟩
  rw [hX] at HVY hall hvl2 ae1
  have HAE := Lib.hid (And.intro ae1 ae2)
  have hmay : mayT s m (.mk [aloneS no v]) = true := by rw [may_alone hfo hk]; exact hvt
  have hkr : cnt f.kind = true → f.kind < 7 := fun h => by
    unfold cnt at h
    have := of_decide_eq_true h
    omega
  have hkr2 : cnt f.kind = false → ¬ f.kind < 7 := fun h h7 => by
    have h8 : valT s f.kind f.ref v = true := hvt
    unfold askG at ha
    rw [if_neg (by omega), if_neg (by omega), if_neg (by omega)] at ha
    simp only [Bool.and_eq_true] at ha
    rw [fits_cnt ha.1] at h
    cases h
  have HKR := Lib.hid (And.intro hkr hkr2)
  have HALL := Lib.hid hall
  have HRC := Lib.hid (And.intro hrc hnn)
  have HMY := Lib.hid hmay
  have hx6 : X.length ≤ 1000000 := hvl2
  obtain ⟨C, hC⟩ : ∃ C, encB s 64 m (norB s 64 m (.mk [aloneS no v])) = C := ⟨_, rfl⟩
  have HC := Lib.hid hC
  clear hcx htx hcv hwt hk hfo hfit Y3 hnr hvt hsm ha e1 hokN hfno hnum hrun hp hall ae1 ae2 hvl hvl2 hmay hkr hkr2 hrec hC hrc hnn hX
  go_wp2_with fail
  refine HVY.out.mono ?_
  rintro e w4 ⟨v4, rfl, ⟨A4, c4, rfl, hr4, -⟩, hb4⟩
  have hb05 := below_then hb04 hb4
  have HAL := Lib.hid (all_any5 A4 c4 X 0 X.length hx6 w4 hr4 (HT.out.2.on hb05))
  rw [HALL.out] at HAL
  have HR4 := Lib.hid hr4
  clear hr4 HVY
  go_wp2_with fail
  refine HAL.out.mono ?_
  rintro e w5 ⟨A5, c5, rfl, hsr, hb5⟩
  have hb06 := below_then hb05 hb5
  have hb45 := below_then hb4 hb5
  obtain ⟨ad, r0, rfl, hlt5, hr0, c0, -, -, -, -⟩ := hsr.at_ (k := 0) (Nat.zero_lt_one)
  obtain rfl : rc = r0 := by simpa using hr0
  rw [Nat.zero_mul, add_nothing, HRC.out.1, ← HRC.out.2] at c0
  obtain ⟨y1, y2⟩ := box2' (box_on Y1 hb45)
  obtain ⟨p0, p1, p2⟩ := bx3 (box_on Y2 hb45)
  have Y1 := box_on Y1 hb45
  have Y2 := box_on Y2 hb45
  have G := dc_cells (box_on (heap_alloc_new w3 (dC f)) hb45)
  obtain ⟨T1, T2, L7⟩ := two_boxes w5 (.cells #[.int .i64 v.n, .string (tx v.s), .slice Av v.M.length cv] 51) (.cells #[.int .i64 no, .slice none 0 0, .slice (some ⟨w5.heap.size, 0, none⟩) 1 1] 48)
  have hb07 := below_then hb06 L7
  have hcc := HCV.out
  have HEY := Lib.hid (encode_yes hin _ (D + 1) _ _ m (.mk [aloneS no v]) _ _ (Nat.le_refl _) (HS.out _ hb07) (alone_rd (HV.out _ hb07) T1 T2) HXI.out.2 (by rw [alone_cnt]; omega) (by rw [alone_cnt, alone_txt]; omega) (HT.out.1.on hb07) (HT.out.2.on hb07) HMY.out)
  rw [HC.out] at HEY
  clear T1 T2 hcc hsr hr0
  go_wp2_with fail
  refine HEY.out.mono ?_
  rintro e w6 ⟨v6, rfl, ⟨A6, c6, rfl, hr6, -⟩, hb6⟩
  have hb08 := below_then hb07 hb6
  have hb56 := below_then L7 hb6
  obtain ⟨g0, g1, g2, g3, g4, g5, g6⟩ : (w6.cell? ⟨w3.heap.size, 0, none⟩ = some (.int .i64 f.no) ∧ w6.cell? ⟨w3.heap.size, 1, none⟩ = some (.string (txt f.name)) ∧ w6.cell? ⟨w3.heap.size, 2, none⟩ = some (.int .i64 f.kind) ∧ w6.cell? ⟨w3.heap.size, 3, none⟩ = some (.int .i64 f.ref) ∧ w6.cell? ⟨w3.heap.size, 4, none⟩ = some (.bool f.rep) ∧ w6.cell? ⟨w3.heap.size, 5, none⟩ = some (.int .i64 f.key) ∧ w6.cell? ⟨w3.heap.size, 6, none⟩ = some (.int .i64 f.one)) :=
    ⟨cell_on hb56 G.1, cell_on hb56 G.2.1, cell_on hb56 G.2.2.1, cell_on hb56 G.2.2.2.1, cell_on hb56 G.2.2.2.2.1, cell_on hb56 G.2.2.2.2.2.1, cell_on hb56 G.2.2.2.2.2.2⟩
  obtain ⟨k0, k1, k2⟩ := bx3 (box_on Y2 hb56)
  have hbs := fun (h1 : X.length ≤ 1000000000) (h2 : C.length ≤ 1000000000) => bytes_any A4 A6 c4 c6 X C w6 h1 h2 (HR4.out.on (below_then hb5 hb56)) hr6
  clear y1 y2 p0 p1 p2 c0 G hr6 HEY
  obtain ⟨br, hbr⟩ : ∃ b, f.rep = b := ⟨_, rfl⟩
  obtain ⟨bt, hbt⟩ : ∃ b, toldB f [v] = b := ⟨_, rfl⟩
  cases br with
  | true =>
    rw [hbr] at g4
    by_cases h7 : f.kind < 7
    · clear hbt hbr
      go_wp2
      go_ret
      exact ⟨rfl, hb08⟩
    · have hcf : cnt f.kind = false := by
        cases h : cnt f.kind with
        | false => rfl
        | true => exact absurd (HKR.out.1 h) h7
      have ht : toldB f [v] = true := by unfold toldB; rw [hbr]; rfl
      have hXC : C = X := by rw [← HC.out]; exact HAE.out.1 ht (by rw [hcf]; simp)
      subst hXC
      have HB := hbs (by omega) (by omega)
      rw [decide_eq_true rfl] at HB
      have HB := Lib.hid HB
      clear hbs hbt hbr ht hcf
      go_wp2_with fail
      refine HB.out.mono ?_
      rintro e w7 ⟨rfl, hb7⟩
      go_wp2
      go_ret
      exact ⟨rfl, below_then hb08 hb7⟩
  | false =>
    rw [hbr] at g4
    cases bt with
    | true =>
      have hXC : C = X := by rw [← HC.out]; exact HAE.out.1 hbt (by rw [hbr]; rfl)
      subst hXC
      have HB := hbs (by omega) (by omega)
      rw [decide_eq_true rfl] at HB
      have HB := Lib.hid HB
      clear hbs hbt hbr
      go_wp2_with fail
      refine HB.out.mono ?_
      rintro e w7 ⟨rfl, hb7⟩
      go_wp2
      go_ret
      exact ⟨rfl, below_then hb08 hb7⟩
    | false =>
      have hC0 : C = [] := by rw [← HC.out]; exact HAE.out.2 hbt
      obtain ⟨-, t1, t2, t3, t4⟩ := told_no HK.out hbt
      subst hC0
      have HB := Lib.hid (hbs (by omega) (by decide))
      have k1' : w6.cell? ⟨w.heap.size + 1, 1, none⟩ = some (.string ⟨#[]⟩) := by rw [t4] at k1; exact k1
      rw [t3] at k0
      rw [t1] at g6
      have n9 : (f.kind != 9) = true := by simp [t2]
      have n9' : (f.kind == 9) = false := by simp [t2]
      obtain ⟨bd, hbd⟩ : ∃ b, decide (X = []) = b := ⟨_, rfl⟩
      rw [hbd] at HB
      clear hbs hbt hbr hbd t1 t3 t4 k1
      go_wp2_with fail
      refine HB.out.mono ?_
      rintro e w7 ⟨rfl, hb7⟩
      have q2 := cell_on hb7 g2
      have q4 := cell_on hb7 g4
      have q6 := cell_on hb7 g6
      have r0 := cell_on hb7 k0
      have r1 := cell_on hb7 k1'
      cases bd <;> go_wp2
      all_goals
        go_ret
        exact ⟨rfl, below_then hb08 hb7⟩
end Go.Proofs.YtipaangiehdgkaaGreatDoor.T12.lawEncodeValue
