/-
  What a law that reads package-level variables needs beyond the rest: the given ties, and the condition on what is laid.
-/
import Derived.Test.YtipaangiehdgkaaGreatDoorCards
import Derived.Test.YtipaangiehdgkaaGreatDoorTie
import Derived.Test.YtipaangiehdgkaaGreatDoorTrDeep
import Derived.Deep.DeepHandedRow
import Derived.Lib.LaidTab
import Derived.Lay
import Derived.MakeChecks
import Derived.Test.YtipaangiehdgkaaGreatDoorTokRefs
import Derived.Stop.LaidErr
import Derived.Deep.Strs
import Derived.Test.YtipaangiehdgkaaGreatDoorEncAw
import Derived.Test.YtipaangiehdgkaaGreatDoorEncWri
import Derived.Deep.RegionHeld3
namespace Go.Proofs.YtipaangiehdgkaaGreatDoor
set_option maxRecDepth 100000

end Go.Proofs.YtipaangiehdgkaaGreatDoor
/-
  From what a row lists to what the contracts ask (where token's tables, strconv's errors and table's two tables are listed).
-/
namespace Go.Proofs.YtipaangiehdgkaaGreatDoor
set_option maxRecDepth 100000

open Go.RowKit

theorem arr_inv {H : Type} {enc : TypeId × Value → H} {P : Program} {w : World} {base : Nat} {sp : Nat → Bool} {held : Bool} {fuel : Nat} {t e : TypeId} {n : Nat} {cs : List Value} {ds : List (DataW H)} {p : List MemPlace}
    (ht : P.underlying t = some (.array n e)) (h : DataW.trod enc P w base sp held fuel t cs = some (.agg ds, p)) : cs.length = P.cellsOf t ∧ ∃ f, ∀ i d, i < n → ds[i]? = some d → ∃ q, DataW.trod enc P w base sp held f e ((cs.drop (i * P.cellsOf e)).take (P.cellsOf e)) = some (d, q) := by
  cases fuel with
  | zero => simp [DataW.trod] at h
  | succ fuel =>
    simp only [DataW.trod, ht] at h
    split at h
    · rename_i hl
      obtain ⟨xs, hm, hx⟩ := Option.map_eq_some_iff.1 h
      have hxs : xs.map (·.1) = ds := by
        have := congrArg Prod.fst hx
        simpa using this
      refine ⟨by simpa using hl, fuel, fun i d hi hd => ?_⟩
      obtain ⟨b, hb, hf⟩ := Lib.mapM_at hm i i (by simp [hi])
      rw [← hxs, List.getElem?_map, hb] at hd
      simp only [Option.map_some, Option.some.injEq] at hd
      subst hd
      exact ⟨b.2, hf⟩
    · cases h
section

variable {enc : TypeId × Value → Unit} {W : World} {n : Nat} {q : List MemPlace}

theorem elem_plain {cs : List Value} {x : List UInt8} {k : Int} (h : DataW.trod enc Tryz.prog W 0 (fun _ => true) false n 173 cs = some (.agg [.lit (.string x), .lit (.int .i64 k)], q)) : cs = [.string (txt x), .int .i64 k] := by
  obtain ⟨y0, y1, m, hx, hl, h0, h1⟩ := ChangeShapes.trod_struct2 Tryz.underlying173 h
  have k0 : Tryz.prog.cellsOf 173 = 2 := by kernel_rfl
  rw [k0] at hl
  obtain ⟨c0, c1, rfl⟩ : ∃ a b, cs = [a, b] := match cs, hl with | [a, b], _ => ⟨a, b, rfl⟩
  obtain ⟨s, e0, f0, -⟩ := DataW.trod_string Tryz.underlying9 h0
  obtain ⟨z, e1, f1, -⟩ := DataW.trod_int Tryz.underlying3 h1
  have k1 : Tryz.prog.cellsOf 9 = 1 := by kernel_rfl
  have k2 : Tryz.prog.cellsOf 3 = 1 := by kernel_rfl
  simp only [k1, k2] at e0 e1
  simp at e0 e1
  subst e0 e1 f0 f1
  simp only [Prod.mk.injEq, DataW.agg.injEq, List.cons.injEq, DataW.lit.injEq, Lit.string.injEq, Lit.int.injEq, and_true, true_and] at hx
  obtain ⟨⟨rfl, rfl⟩, -⟩ := hx
  rfl
theorem elem_stance {cs : List Value} {a b c : Bool} (h : DataW.trod enc Tryz.prog W 0 (fun _ => true) false n 232 cs = some (.agg [.lit (.bool a), .lit (.bool b), .lit (.bool c)], q)) : cs = [.bool a, .bool b, .bool c] := by
  obtain ⟨hl, m, hg⟩ := arr_inv Tryz.underlying232 h
  have k0 : Tryz.prog.cellsOf 232 = 3 := by kernel_rfl
  have k1 : Tryz.prog.cellsOf 4 = 1 := by kernel_rfl
  rw [k0] at hl
  rw [k1] at hg
  obtain ⟨c0, c1, c2, rfl⟩ : ∃ a b c, cs = [a, b, c] := match cs, hl with | [a, b, c], _ => ⟨a, b, c, rfl⟩
  obtain ⟨_, h0⟩ := hg 0 _ (by omega) rfl
  obtain ⟨_, h1⟩ := hg 1 _ (by omega) rfl
  obtain ⟨_, h2⟩ := hg 2 _ (by omega) rfl
  obtain ⟨s0, e0, f0⟩ := DataW.trod_bool Tryz.underlying4 h0
  obtain ⟨s1, e1, f1⟩ := DataW.trod_bool Tryz.underlying4 h1
  obtain ⟨s2, e2, f2⟩ := DataW.trod_bool Tryz.underlying4 h2
  simp at e0 e1 e2 f0 f1 f2
  obtain ⟨rfl, -⟩ := f0
  obtain ⟨rfl, -⟩ := f1
  obtain ⟨rfl, -⟩ := f2
  rw [e0, e1, e2]
end

theorem plains_of {W : World} {rest : List (String × DataW Unit)} (h : laidMet Tryz.prog (("truffle/table.plains", Rows.laid_truffle_table_plains) :: rest) W) : TabAt W 0 plainsC := by
  obtain ⟨ps, ⟨g', t', cs, fuel, p, q, hg', ht', hvar, hd, _, _⟩, _⟩ := h
  have hg : Tryz.prog.globalNamed "truffle/table.plains" = some 0 := by kernel_rfl
  have hty : (Tryz.prog.globals[0]?).map (·.type) = some 174 := by kernel_rfl
  obtain rfl := Option.some.inj (hg.symm.trans hg')
  obtain rfl := Option.some.inj (hty.symm.trans ht')
  refine TabAt.of_var hg ?_
  rw [hvar]
  obtain ⟨hl, m, hh⟩ := arr_inv (ds := [.agg [.lit (.string tInt64), .lit (.int .i64 0)], .agg [.lit (.string tSint64), .lit (.int .i64 1)], .agg [.lit (.string tUint32), .lit (.int .i64 2)], .agg [.lit (.string tBool), .lit (.int .i64 3)], .agg [.lit (.string tFixed32), .lit (.int .i64 4)], .agg [.lit (.string tSfixed64), .lit (.int .i64 5)], .agg [.lit (.string tString), .lit (.int .i64 7)], .agg [.lit (.string tBytes), .lit (.int .i64 8)]]) Tryz.underlying174 hd
  have k0 : Tryz.prog.cellsOf 174 = 16 := by kernel_rfl
  have k1 : Tryz.prog.cellsOf 173 = 2 := by kernel_rfl
  rw [k0] at hl
  rw [k1] at hh
  obtain ⟨cs⟩ := cs
  simp only at hl hh
  obtain ⟨c0, c1, c2, c3, c4, c5, c6, c7, c8, c9, c10, c11, c12, c13, c14, c15, rfl⟩ : ∃ a0 a1 a2 a3 a4 a5 a6 a7 a8 a9 a10 a11 a12 a13 a14 a15, cs = [a0, a1, a2, a3, a4, a5, a6, a7, a8, a9, a10, a11, a12, a13, a14, a15] := match cs, hl with | [a0, a1, a2, a3, a4, a5, a6, a7, a8, a9, a10, a11, a12, a13, a14, a15], _ => ⟨a0, a1, a2, a3, a4, a5, a6, a7, a8, a9, a10, a11, a12, a13, a14, a15, rfl⟩
  obtain ⟨_, h0⟩ := hh 0 _ (by omega) rfl
  obtain ⟨_, h1⟩ := hh 1 _ (by omega) rfl
  obtain ⟨_, h2⟩ := hh 2 _ (by omega) rfl
  obtain ⟨_, h3⟩ := hh 3 _ (by omega) rfl
  obtain ⟨_, h4⟩ := hh 4 _ (by omega) rfl
  obtain ⟨_, h5⟩ := hh 5 _ (by omega) rfl
  obtain ⟨_, h6⟩ := hh 6 _ (by omega) rfl
  obtain ⟨_, h7⟩ := hh 7 _ (by omega) rfl
  have e0 := elem_plain h0
  have e1 := elem_plain h1
  have e2 := elem_plain h2
  have e3 := elem_plain h3
  have e4 := elem_plain h4
  have e5 := elem_plain h5
  have e6 := elem_plain h6
  have e7 := elem_plain h7
  simp only [Nat.zero_mul, Nat.one_mul, Nat.reduceMul, List.drop_zero, List.drop_succ_cons, List.take_succ_cons, List.take_zero, List.cons.injEq, and_true] at e0 e1 e2 e3 e4 e5 e6 e7
  obtain ⟨rfl, rfl⟩ := e0
  obtain ⟨rfl, rfl⟩ := e1
  obtain ⟨rfl, rfl⟩ := e2
  obtain ⟨rfl, rfl⟩ := e3
  obtain ⟨rfl, rfl⟩ := e4
  obtain ⟨rfl, rfl⟩ := e5
  obtain ⟨rfl, rfl⟩ := e6
  obtain ⟨rfl, rfl⟩ := e7
  rfl
theorem stances_of {W : World} {rest : List (String × DataW Unit)} (h : laidMet Tryz.prog (("truffle/table.stances", Rows.laid_truffle_table_stances) :: rest) W) : TabAt W 1 stancesC := by
  obtain ⟨ps, ⟨g', t', cs, fuel, p, q, hg', ht', hvar, hd, _, _⟩, _⟩ := h
  have hg : Tryz.prog.globalNamed "truffle/table.stances" = some 1 := by kernel_rfl
  have hty : (Tryz.prog.globals[1]?).map (·.type) = some 233 := by kernel_rfl
  obtain rfl := Option.some.inj (hg.symm.trans hg')
  obtain rfl := Option.some.inj (hty.symm.trans ht')
  refine TabAt.of_var hg ?_
  rw [hvar]
  obtain ⟨hl, m, hh⟩ := arr_inv (ds := [.agg [.lit (.bool false), .lit (.bool false), .lit (.bool false)], .agg [.lit (.bool true), .lit (.bool false), .lit (.bool false)], .agg [.lit (.bool false), .lit (.bool true), .lit (.bool false)], .agg [.lit (.bool false), .lit (.bool false), .lit (.bool true)]]) Tryz.underlying233 hd
  have k0 : Tryz.prog.cellsOf 233 = 12 := by kernel_rfl
  have k1 : Tryz.prog.cellsOf 232 = 3 := by kernel_rfl
  rw [k0] at hl
  rw [k1] at hh
  obtain ⟨cs⟩ := cs
  simp only at hl hh
  obtain ⟨c0, c1, c2, c3, c4, c5, c6, c7, c8, c9, c10, c11, rfl⟩ : ∃ a0 a1 a2 a3 a4 a5 a6 a7 a8 a9 a10 a11, cs = [a0, a1, a2, a3, a4, a5, a6, a7, a8, a9, a10, a11] := match cs, hl with | [a0, a1, a2, a3, a4, a5, a6, a7, a8, a9, a10, a11], _ => ⟨a0, a1, a2, a3, a4, a5, a6, a7, a8, a9, a10, a11, rfl⟩
  obtain ⟨_, h0⟩ := hh 0 _ (by omega) rfl
  obtain ⟨_, h1⟩ := hh 1 _ (by omega) rfl
  obtain ⟨_, h2⟩ := hh 2 _ (by omega) rfl
  obtain ⟨_, h3⟩ := hh 3 _ (by omega) rfl
  have e0 := elem_stance h0
  have e1 := elem_stance h1
  have e2 := elem_stance h2
  have e3 := elem_stance h3
  simp only [Nat.zero_mul, Nat.one_mul, Nat.reduceMul, List.drop_zero, List.drop_succ_cons, List.take_succ_cons, List.take_zero, List.cons.injEq, and_true] at e0 e1 e2 e3
  obtain ⟨rfl, rfl, rfl⟩ := e0
  obtain ⟨rfl, rfl, rfl⟩ := e1
  obtain ⟨rfl, rfl, rfl⟩ := e2
  obtain ⟨rfl, rfl, rfl⟩ := e3
  rfl
theorem star : "*" ++ "errors.errorString" = "*errors.errorString" := by decide
/-- What the contracts ask of a world: token's tables, and table's. -/
structure LT (w : World) : Prop where
  laid : Laid w
  tabs : Tabs w
theorem LT.on {w w' : World} (h : LT w) (hb : Below w.heap.size w w') : LT w' := ⟨h.laid.on hb, h.tabs.on hb⟩
end Go.Proofs.YtipaangiehdgkaaGreatDoor
/-
  From what a row lists to what the contracts ask: table's two tables, and tag's.
-/
namespace Go.Proofs.YtipaangiehdgkaaGreatDoor.T12
set_option maxRecDepth 100000

open Go.RowKit

open Go.Proofs.YtipaangiehdgkaaGreatDoor.T9

theorem laid12 {W : World} (h : laidMetH Tryz.prog [("truffle/tag.wires", Rows.laid_truffle_tag_wires), ("truffle/table.plains", Rows.laid_truffle_table_plains), ("truffle/table.stances", Rows.laid_truffle_table_stances)] W) : Tabs W ∧ Wires W := by
  rw [MakeChecks.laidMetH_plain _ _ _ (by kernel_rfl)] at h
  have g : Tryz.prog.globalNamed "truffle/tag.wires" = some 2 := by kernel_rfl
  have ht : (Tryz.prog.globals[2]?).map (·.type) = some 245 := by kernel_rfl
  have c1 : Tryz.prog.cellsOf 245 = 4 := by kernel_rfl
  have c2 : Tryz.prog.cellsOf 3 = 1 := by kernel_rfl
  have hT : Lib.TabIs Tryz.prog W "truffle/tag.wires" .i64 [0, 1, 2, 5] := Lib.tabIs_of_head (rest := _) g ht Tryz.underlying245 Tryz.underlying3 c2 c1 h
  exact ⟨⟨plains_of h.tail, stances_of h.tail.tail⟩, TabAt.of_var g hT⟩
end Go.Proofs.YtipaangiehdgkaaGreatDoor.T12
/-
  A message's bytes are those of its slots, each alone, one behind the other, if it is normal: the walk.
-/
namespace Go.Proofs.YtipaangiehdgkaaGreatDoor.T12.lawEncodeParts
set_option maxRecDepth 100000

open Go.ChangeShapes Go.WideShapes Go.ChangeAt Go.RowKit

open Go.Proofs.YtipaangiehdgkaaGreatDoor.T9 Go.Proofs.YtipaangiehdgkaaGreatDoor.T4

theorem sat_up {w w' : World} {s : Sc} {vM vE : Value} (h : SAt w.heap.size w s vM vE) (hb : Below w.heap.size w w') : SAt w'.heap.size w' s vM vE := SAt.mono (SAt.lo h hb (Nat.le_refl _)) hb.size
theorem alone_in {x : Mg} (h : MIn x) {a : So} (ha : a ∈ x.F) : MIn (.mk [a]) := .of fun s hs => by
  obtain rfl : s = a := by simpa [Mg.F] using hs
  exact h.slot ha
theorem alone_txt {x : Mg} {a : So} (ha : a ∈ x.F) : Mg.txt (.mk [a]) ≤ Mg.txt x := by
  rw [Mg.txt_eq, Mg.txt_eq x]
  have := sm_mem (g := tS) ha
  show sm [tS a] ≤ _
  simp only [sm]; omega
theorem alone_cnt {x : Mg} {a : So} (ha : a ∈ x.F) : (Mg.mk [a]).cnt ≤ x.cnt := by
  rw [cnt_one]
  exact cS_le ha
set_option maxRecDepth 1000000 in
set_option maxHeartbeats 8000000 in
theorem walk (w : World) (T : Tabs w ∧ Wires w) (s : Sc) (vM vE : Value) (hs0 : SAt w.heap.size w s vM vE) (hin : ScIn s) (m : Int) (hm1 : -9223372036854775808 ≤ m) (hm2 : m ≤ 9223372036854775807)
    (x : Mg) (ux : Value) (D : Nat) (hx0 : T9.MAt (Rd w.heap.size w) D x [ux]) (hxi : MIn x) :
    Calls Tryz.prog 5 #[.agg #[vM, vE], .int .i64 m, .agg #[ux]] w fun e w' => e = .returned (.bool true) ∧ Below w.heap.size w w' := by
  obtain ⟨i0, hi, hz0, hz1, hz2⟩ := info_parts info_u8
  obtain ⟨A1, q1, A2, q2, rfl, rfl⟩ := sat_shape hs0
  obtain ⟨Ax, cx, rfl⟩ := rd_shape hx0
  obtain ⟨X1, X2, LBD⟩ := two_boxes w (.cells #[.slice A1 s.M.length q1, .slice A2 s.E.length q2] 33) (.cells #[.slice Ax x.F.length cx] 36)
  have HS := Lib.hid (fun wx (h : Below w.heap.size w wx) => sat_up hs0 h)
  have HG := Lib.hid (fun wx (h : Below w.heap.size w wx) => MRd.mono h.size (MRd.low (Lo.below h (Nat.le_refl _)) (T9.MAt.more (Nat.le_succ D) _ _ hx0)))
  have HT := Lib.hid T
  clear hx0 hs0 T hm1 hm2
  go_enter Tryz.func5, Tryz.ntmps5
  go_wp2_with fail
  refine (awake12_any _ (HT.out.1.on LBD) (HT.out.2.on LBD)).mono ?_
  rintro e w1 ⟨rfl, hb1⟩
  have hb01 := below_then LBD hb1
  have Y1 := box_on X1 hb1
  have Y2 := box_on X2 hb1
  clear X1 X2 LBD hb1
  obtain ⟨y1, y2⟩ := box2' Y1
  have y0 := bx1 Y2
  go_wp2_with fail
  refine (few12_any _ (D + 1) s _ _ x _ w1 (Nat.le_refl _) (HS.out _ hb01) (HG.out _ hb01) hxi).mono ?_
  rintro e w2 ⟨r, rfl, hfit, hb2⟩
  have hb02 := below_then hb01 hb2
  have Y1 := box_on Y1 hb2
  have Y2 := box_on Y2 hb2
  clear y1 y2 y0
  cases r with
  | false =>
    go_wp2
    go_ret
    exact ⟨rfl, hb02⟩
  | true =>
  obtain ⟨⟨hcx, -⟩, htx⟩ := hfit rfl
  have hc5 : x.cnt ≤ 100000 := by omega
  have hw5 : 40 * x.cnt + Mg.txt x ≤ 35184372088832 := by omega
  have HIS := Lib.hid (tis_any hin w2.heap.size (D + 1) _ _ m x _ w2 (Nat.le_refl _) (HS.out _ hb02) (HG.out _ hb02) hxi hc5 (HT.out.1.on hb02))
  obtain ⟨y1, y2⟩ := box2' Y1
  have y0 := bx1 Y2
  by_cases his : (mayT s m x && eqB (norB s 64 m x) x) = true
  · rw [his] at HIS
    rw [Bool.and_eq_true] at his
    obtain ⟨hmay, hnor⟩ := his
    have hnor := eqB_iff.1 hnor
    go_wp2_with fail
    refine HIS.out.mono ?_
    rintro e w3 ⟨rfl, hb3⟩
    have hb03 := below_then hb02 hb3
    have Y1 := box_on Y1 hb3
    have Y2 := box_on Y2 hb3
    have HE := Lib.hid (encode_yes hin w3.heap.size (D + 1) _ _ m x _ w3 (Nat.le_refl _) (HS.out _ hb03) (HG.out _ hb03) hxi hc5 hw5 (HT.out.1.on hb03) (HT.out.2.on hb03) hmay)
    rw [hnor] at HE
    obtain ⟨pre, hpre⟩ : ∃ pre : Nat → List UInt8, pre = fun k => ((x.F.take k).map (slotL (byS s m) (encB s 63))).flatten := ⟨_, rfl⟩
    have hlen := enc_len s 64 m x hxi (Nat.le_trans hw5 (by decide))
    have p0 : pre 0 = [] := by rw [hpre]; rfl
    have pn : pre x.F.length = encB s 64 m x := by rw [hpre, enc_is]; simp
    have ps : ∀ k a, x.F[k]? = some a → pre (k + 1) = pre k ++ slotL (byS s m) (encB s 63) a := fun k a ha => by
      rw [hpre]
      show ((x.F.take (k + 1)).map _).flatten = ((x.F.take k).map _).flatten ++ _
      rw [List.take_add_one, ha]; simp
    have pl : ∀ k, (pre k).length ≤ 1000000 := fun k => by
      have e : pre k ++ ((x.F.drop k).map (slotL (byS s m) (encB s 63))).flatten = encB s 64 m x := by
        rw [hpre, enc_is]
        show ((x.F.take k).map _).flatten ++ _ = _
        rw [← List.flatten_append, ← List.map_append, List.take_append_drop]
      have := congrArg List.length e
      rw [List.length_append] at this
      omega
    have HPP := Lib.hid (And.intro p0 (And.intro pn (And.intro ps pl)))
    have HMN := Lib.hid (And.intro hmay hnor)
    have HCW := Lib.hid (And.intro hc5 hw5)
    have l0 : (pre 0).length = 0 := by rw [p0]; rfl
    obtain ⟨y1, y2⟩ := box2' Y1
    have y0 := bx1 Y2
    clear hpre hlen p0 pn ps pl hmay hnor hc5 hw5 HIS hcx htx hfit
    go_wp2_with fail
    refine HE.out.mono ?_
    rintro e w4 ⟨v4, rfl, hy4, hb4⟩
    have hb04 := below_then hb03 hb4
    have HY4 := Lib.hid hy4
    have Y1 := box_on Y1 hb4
    have Y2 := box_on Y2 hb4
    obtain ⟨W5, hW5⟩ : ∃ W, W = w4 := ⟨_, rfl⟩
    rw [← hW5] at hb04 Y1 Y2 HY4 ⊢
    have hv4 : ∃ A n c, v4 = .slice A n c := by obtain ⟨A, c, h, -⟩ := hy4; exact ⟨A, _, c, h⟩
    obtain ⟨A4, n4, c4, rfl⟩ := hv4
    clear hy4 hW5 y1 y2 y0 hb3 hb4
    have y0 := bx1 Y2
    have yw := box2' Y1
    go_wp2
    go_loopw [11, 12] (fun v i wr => ∃ k : Nat, i = .int .i64 k ∧ k ≤ x.F.length ∧ wr.ownsRow W5.heap.size 5 1 v (pre k).length (bs (pre k)) ∧ Below W5.heap.size W5 wr) (fun _ i _ => x.F.length - (intOf i).toNat)
    case atStart => exact ⟨0, rfl, by omega, by rw [HPP.out.1]; exact World.ownsRow_nil _ _ _ _, Below.refl _ _⟩
    case round =>
      obtain ⟨k, rfl, hk, ho, hbw⟩ := hrel
      have hb0r := below_then hb04 hbw
      have k0 := bx1 (box_on Y2 hbw)
      have k1 := box2' (box_on Y1 hbw)
      by_cases hlt : k < x.F.length
      · obtain ⟨a, ha⟩ : ∃ a, x.F[k]? = some a := ⟨_, List.getElem?_eq_getElem hlt⟩
        have hrd := HG.out _ hb0r
        obtain ⟨u', hu, hl⟩ := hrd
        simp only [List.cons.injEq, and_true] at hu
        subst hu
        obtain ⟨A', c', xs, e1, hsl, hbl, hr, hn⟩ := hl.open_
        injection e1 with e11 e12 e13
        subst e11 e13
        obtain ⟨ad, x', y', z', rfl, hg, hca, c0, c1, c2⟩ := row3 sAt.len hsl hr ha
        obtain ⟨AK, cK, AV, cV_, rfl, rfl, rfl⟩ := slot_shape hca
        have hmem := List.mem_of_getElem? ha
        obtain ⟨m1, m2, m3, m4⟩ := parts_are HMN.out.1 HMN.out.2 hmem
        have hDr : Below wr.heap.size wr wr.drew := (Below.refl _ _).drew
        have N1 := below_new wr.drew (.cells #[.int .i64 a.no, .slice AK a.K.length cK, .slice AV a.V.length cV_] 48)
        have Z1 := heap_alloc_new wr.drew (.cells #[.int .i64 a.no, .slice AK a.K.length cK, .slice AV a.V.length cV_] 48)
        have hb1r := below_then hb0r (hDr.trans (N1.mono hDr.size))
        have hone : MRd (wr.drew.alloc (.cells #[.int .i64 a.no, .slice AK a.K.length cK, .slice AV a.V.length cV_] 48)).heap.size (wr.drew.alloc (.cells #[.int .i64 a.no, .slice AK a.K.length cK, .slice AV a.V.length cV_] 48)) (D + 1) (.mk [a]) (.slice (some ⟨wr.heap.size, 0, none⟩) 1 1) := one_rd (srd_up (hDr.trans (N1.mono hDr.size)) hca) Z1
        have hcc := alone_cnt hmem
        have htt := alone_txt hmem
        have hww := HCW.out
        have HEA := Lib.hid (encode_yes hin _ (D + 1) _ _ m (.mk [a]) _ (wr.drew.alloc (.cells #[.int .i64 a.no, .slice AK a.K.length cK, .slice AV a.V.length cV_] 48)) (Nat.le_refl _) (HS.out _ hb1r) hone (alone_in hxi hmem) (by omega) (by omega) (HT.out.1.on hb1r) (HT.out.2.on hb1r) m1)
        rw [m2, m3] at HEA
        obtain ⟨C, hC⟩ : ∃ C, slotL (byS s m) (encB s 63) a = C := ⟨_, rfl⟩
        rw [hC] at HEA m4
        have h3 := HPP.out.2.2.1 k a ha
        have h2 := HPP.out.2.2.2 (k + 1)
        rw [hC] at h3
        obtain ⟨X, hX⟩ : ∃ X, pre k = X := ⟨_, rfl⟩
        rw [hX] at h3 ho
        rw [h3, List.length_append] at h2
        have HX1 := Lib.hid h3
        have HSX : Hid (∀ wx, Below wr.heap.size wr wx → (wx.cell? ⟨w.heap.size, 0, none⟩ = some (.slice A1 s.M.length q1) ∧ wx.cell? ⟨w.heap.size, 1, none⟩ = some (.slice A2 s.E.length q2)) ∧ wx.cell? ⟨w.heap.size + 1, 0, none⟩ = some (.slice (some ad) x.F.length cx) ∧ (wx.cell? (ad.add (k * 3)) = some (.int .i64 a.no) ∧ wx.cell? ⟨(ad.add (k * 3)).block, (ad.add (k * 3)).off + 1, none⟩ = some (.slice AK a.K.length cK) ∧ wx.cell? ⟨(ad.add (k * 3)).block, (ad.add (k * 3)).off + 2, none⟩ = some (.slice AV a.V.length cV_))) := Lib.hid fun wx h => ⟨⟨cell_on h k1.1, cell_on h k1.2⟩, cell_on h k0, cell_on h c0, cell_on h c1, cell_on h c2⟩
        have HLT := Lib.hid hlt
        have i1 : (0 : Int) ≤ (k : Int) := by omega
        have i2 : (k : Int) < (x.F.length : Int) := by omega
        clear hl hsl hbl hr hca ha hmem m1 m2 m3 Z1 hone hcc htt hww hC h3 hX c0 c1 c2 hg
        go_wp2_with fail
        refine wp_region_held_drew (S := (fun w' => (w'.cell? ⟨w.heap.size, 0, none⟩ = some (.slice A1 s.M.length q1) ∧ w'.cell? ⟨w.heap.size, 1, none⟩ = some (.slice A2 s.E.length q2)) ∧ w'.cell? ⟨w.heap.size + 1, 0, none⟩ = some (.slice (some ad) x.F.length cx) ∧ (w'.cell? (ad.add (k * 3)) = some (.int .i64 a.no) ∧ w'.cell? ⟨(ad.add (k * 3)).block, (ad.add (k * 3)).off + 1, none⟩ = some (.slice AK a.K.length cK) ∧ w'.cell? ⟨(ad.add (k * 3)).block, (ad.add (k * 3)).off + 2, none⟩ = some (.slice AV a.V.length cV_)))) (by kernel_rfl) (HSX.out _ hDr) (fun hHeld => ?_)
        refine wpAnyH_take (i := 0) (oi := { dst := some 48, op := Go.Op.load 33 (Go.Operand.tmp 3), type := 33, pos := "law.go:143", after := #[], guard := none }) (v := ?_) rfl (by kernel_rfl) (by kernel_rfl) (by kernel_rfl) (fun _ _ _ h => h) (Or.inl ⟨by rfl, ?_⟩) hHeld ?_
        rotate_left
        · intro w hSw
          (try dsimp only at hSw)
          go_simp
          all_goals with_reducible rfl
        (try simp only [Act.put, List.setIfInBounds_toArray, List.set_cons_zero, List.set_cons_succ])
        refine wpAnyH_take (i := 1) (oi := { dst := some 49, op := Go.Op.move (Go.Operand.tmp 1), type := 3, pos := "law.go:143", after := #[], guard := none }) (v := ?_) rfl (by kernel_rfl) (by kernel_rfl) (by kernel_rfl) (fun _ _ _ h => h) (Or.inl ⟨by rfl, ?_⟩) hHeld ?_
        rotate_left
        · intro w hSw
          (try dsimp only at hSw)
          go_simp
          all_goals with_reducible rfl
        (try simp only [Act.put, List.setIfInBounds_toArray, List.set_cons_zero, List.set_cons_succ])
        refine wpAnyH_take (i := 2) (oi := { dst := some 50, op := Go.Op.fieldAddr 36 (Go.Operand.tmp 5) 0, type := 0, pos := "law.go:143", after := #[], guard := none }) (v := ?_) rfl (by kernel_rfl) (by kernel_rfl) (by kernel_rfl) (fun _ _ _ h => h) (Or.inl ⟨by rfl, ?_⟩) hHeld ?_
        rotate_left
        · intro w hSw
          (try dsimp only at hSw)
          go_simp
          all_goals with_reducible rfl
        (try simp only [Act.put, List.setIfInBounds_toArray, List.set_cons_zero, List.set_cons_succ])
        refine wpAnyH_take (i := 3) (oi := { dst := some 51, op := Go.Op.load 34 (Go.Operand.tmp 50), type := 34, pos := "law.go:143", after := #[{ on := 2, ground := Go.Ground.data }], guard := none }) (v := ?_) rfl (by kernel_rfl) (by kernel_rfl) (by kernel_rfl) (fun _ _ _ h => h) (Or.inl ⟨by rfl, ?_⟩) hHeld ?_
        rotate_left
        · intro w hSw
          (try dsimp only at hSw)
          go_simp
          all_goals with_reducible rfl
        (try simp only [Act.put, List.setIfInBounds_toArray, List.set_cons_zero, List.set_cons_succ])
        refine wpAnyH_take (i := 4) (oi := { dst := some 52, op := Go.Op.move (Go.Operand.tmp 12), type := 3, pos := "law.go:143", after := #[], guard := none }) (v := ?_) rfl (by kernel_rfl) (by kernel_rfl) (by kernel_rfl) (fun _ _ _ h => h) (Or.inl ⟨by rfl, ?_⟩) hHeld ?_
        rotate_left
        · intro w hSw
          (try dsimp only at hSw)
          go_simp
          all_goals with_reducible rfl
        (try simp only [Act.put, List.setIfInBounds_toArray, List.set_cons_zero, List.set_cons_succ])
        refine wpAnyH_take (i := 5) (oi := { dst := some 53, op := Go.Op.indexAddr 34 (Go.Operand.tmp 51) (Go.Operand.tmp 52), type := 0, pos := "law.go:143", after := #[{ on := 3, ground := Go.Ground.data }, { on := 4, ground := Go.Ground.data }], guard := none }) (v := ?_) rfl (by kernel_rfl) (by kernel_rfl) (by kernel_rfl) (fun _ _ _ h => h) (Or.inl ⟨by rfl, ?_⟩) hHeld ?_
        rotate_left
        · intro w hSw
          (try dsimp only at hSw)
          go_simp
          all_goals with_reducible rfl
        (try simp only [Act.put, List.setIfInBounds_toArray, List.set_cons_zero, List.set_cons_succ])
        refine wpAnyH_take (i := 6) (oi := { dst := some 54, op := Go.Op.load 48 (Go.Operand.tmp 53), type := 48, pos := "law.go:143", after := #[{ on := 5, ground := Go.Ground.data }], guard := none }) (v := ?_) rfl (by kernel_rfl) (by kernel_rfl) (by kernel_rfl) (fun _ _ _ h => h) (Or.inl ⟨by rfl, ?_⟩) hHeld ?_
        rotate_left
        · intro w hSw
          (try dsimp only at hSw)
          go_simp
          all_goals with_reducible rfl
        (try simp only [Act.put, List.setIfInBounds_toArray, List.set_cons_zero, List.set_cons_succ])
        refine wpAnyH_ready (rs := [7]) (by kernel_rfl) (by simp) ?_
        refine AllReadyH.cons (o := { dst := some 55, op := Go.Op.buildSlice 34 1 #[(0, Go.Operand.tmp 54)], type := 34, pos := "law.go:143", after := #[{ on := 6, ground := Go.Ground.data }], guard := none }) rfl (fun K hK => ?_) AllReadyH.nil
        go_simp
        refine hK.out _ _ (HSX.out _ (hDr.trans (N1.mono hDr.size))) (fun hHeld => ?_)
        clear hK K
        (try simp only [Act.put, List.setIfInBounds_toArray, List.set_cons_zero, List.set_cons_succ])
        refine wpAnyH_take (i := 8) (oi := { dst := some 56, op := Go.Op.build 36 #[(0, Go.Operand.tmp 55)], type := 36, pos := "law.go:143", after := #[{ on := 7, ground := Go.Ground.data }], guard := none }) (v := ?_) rfl (by kernel_rfl) (by kernel_rfl) (by kernel_rfl) (fun _ _ _ h => h) (Or.inl ⟨by rfl, ?_⟩) hHeld ?_
        rotate_left
        · intro w hSw
          (try dsimp only at hSw)
          go_simp
          all_goals with_reducible rfl
        (try simp only [Act.put, List.setIfInBounds_toArray, List.set_cons_zero, List.set_cons_succ])
        refine wpAnyH_ready (rs := [9]) (by kernel_rfl) (by simp) ?_
        refine AllReadyH.cons (o := { dst := some 57, op := Go.Op.call { callee := Go.Callee.value (Go.Operand.func 12), args := #[Go.Operand.tmp 48, Go.Operand.tmp 49, Go.Operand.tmp 56], argTypes := #[33, 3, 36] }, type := 38, pos := "law.go:143", after := #[{ on := 0, ground := Go.Ground.data }, { on := 1, ground := Go.Ground.data }, { on := 8, ground := Go.Ground.data }], guard := none }) rfl (fun K hK => ?_) AllReadyH.nil
        go_simp
        (go_at_call 12; refine HEA.out.mono ?_; rintro e w7 ⟨v7, rfl, hy7, hb7⟩)
        have hb7d := below_then (hDr.trans (N1.mono hDr.size)) hb7
        go_wp2_with fail
        refine hK.out _ _ (HSX.out _ hb7d) (fun hHeld => ?_)
        clear hK K
        (try simp only [Act.put, List.setIfInBounds_toArray, List.set_cons_zero, List.set_cons_succ])
        refine wpAnyH_take (i := 10) (oi := { dst := some 47, op := Go.Op.move (Go.Operand.tmp 57), type := 38, pos := "law.go:143", after := #[{ on := 9, ground := Go.Ground.data }], guard := none }) (v := ?_) rfl (by kernel_rfl) (by kernel_rfl) (by kernel_rfl) (fun _ _ _ h => h) (Or.inl ⟨by rfl, ?_⟩) hHeld ?_
        rotate_left
        · intro w hSw
          (try dsimp only at hSw)
          go_simp
          all_goals with_reducible rfl
        (try simp only [Act.put, List.setIfInBounds_toArray, List.set_cons_zero, List.set_cons_succ])
        refine wpAnyH_take (i := 11) (oi := { dst := some 58, op := Go.Op.extract (Go.Operand.tmp 47) 0, type := 22, pos := "law.go:143", after := #[{ on := 10, ground := Go.Ground.data }], guard := none }) (v := ?_) rfl (by kernel_rfl) (by kernel_rfl) (by kernel_rfl) (fun _ _ _ h => h) (Or.inl ⟨by rfl, ?_⟩) hHeld ?_
        rotate_left
        · intro w hSw
          (try dsimp only at hSw)
          go_simp
          all_goals with_reducible rfl
        (try simp only [Act.put, List.setIfInBounds_toArray, List.set_cons_zero, List.set_cons_succ])
        refine wpAnyH_take (i := 12) (oi := { dst := some 59, op := Go.Op.extract (Go.Operand.tmp 47) 1, type := 25, pos := "law.go:143", after := #[{ on := 10, ground := Go.Ground.data }, { on := 13, ground := Go.Ground.gcOnly Go.Departure.lateStores }], guard := none }) (v := ?_) rfl (by kernel_rfl) (by kernel_rfl) (by kernel_rfl) (fun _ _ _ h => h) (Or.inl ⟨by rfl, ?_⟩) hHeld ?_
        rotate_left
        · intro w hSw
          (try dsimp only at hSw)
          go_simp
          all_goals with_reducible rfl
        (try simp only [Act.put, List.setIfInBounds_toArray, List.set_cons_zero, List.set_cons_succ])
        refine wpAnyH_take (i := 13) (oi := { dst := some 13, op := Go.Op.assign (Go.Operand.tmp 58), type := 22, pos := "law.go:143", after := #[{ on := 11, ground := Go.Ground.data }, { on := 9, ground := Go.Ground.chain }, { on := 0, ground := Go.Ground.phase }, { on := 1, ground := Go.Ground.phase }, { on := 2, ground := Go.Ground.phase }, { on := 3, ground := Go.Ground.phase }, { on := 4, ground := Go.Ground.phase }, { on := 5, ground := Go.Ground.phase }, { on := 6, ground := Go.Ground.phase }, { on := 7, ground := Go.Ground.phase }, { on := 8, ground := Go.Ground.phase }, { on := 9, ground := Go.Ground.phase }, { on := 10, ground := Go.Ground.phase }, { on := 11, ground := Go.Ground.phase }, { on := 12, ground := Go.Ground.textOnly Go.Departure.lateStores }], guard := none }) (v := ?_) rfl (by kernel_rfl) (by kernel_rfl) (by kernel_rfl) (fun _ _ _ h => h) (Or.inl ⟨by rfl, ?_⟩) hHeld ?_
        rotate_left
        · intro w hSw
          (try dsimp only at hSw)
          go_simp
          all_goals with_reducible rfl
        (try simp only [Act.put, List.setIfInBounds_toArray, List.set_cons_zero, List.set_cons_succ])
        refine wpAnyH_take (i := 14) (oi := { dst := some 14, op := Go.Op.assign (Go.Operand.tmp 59), type := 25, pos := "law.go:143", after := #[{ on := 12, ground := Go.Ground.data }, { on := 13, ground := Go.Ground.chain }, { on := 0, ground := Go.Ground.phase }, { on := 1, ground := Go.Ground.phase }, { on := 2, ground := Go.Ground.phase }, { on := 3, ground := Go.Ground.phase }, { on := 4, ground := Go.Ground.phase }, { on := 5, ground := Go.Ground.phase }, { on := 6, ground := Go.Ground.phase }, { on := 7, ground := Go.Ground.phase }, { on := 8, ground := Go.Ground.phase }, { on := 9, ground := Go.Ground.phase }, { on := 10, ground := Go.Ground.phase }, { on := 11, ground := Go.Ground.phase }, { on := 12, ground := Go.Ground.phase }, { on := 13, ground := Go.Ground.phase }], guard := none }) (v := ?_) rfl (by kernel_rfl) (by kernel_rfl) (by kernel_rfl) (fun _ _ _ h => h) (Or.inl ⟨by rfl, ?_⟩) hHeld ?_
        rotate_left
        · intro w hSw
          (try dsimp only at hSw)
          go_simp
          all_goals with_reducible rfl
        (try simp only [Act.put, List.setIfInBounds_toArray, List.set_cons_zero, List.set_cons_succ])
        refine wpAnyH_done (by kernel_rfl) ?_ _
        obtain ⟨A7, c7, rfl, hr7, hg7⟩ := hy7
        have HQ := Lib.hid (own_hi ho (hi_below W5.heap.size hb7d))
        have z0 : ((C.length : Nat) : Int) ≠ 0 := by omega
        have z1 : (((C.length : Nat) : Int) == 0) = false := beq_eq_false_iff_ne.2 z0
        have hsz7 : W5.heap.size ≤ w7.heap.size := Nat.le_trans hbw.size hb7d.size
        go_wp2_with (at_builtin; refine wpList_app_sl rfl _ _ 22 rfl W5.heap.size 5 i0 (.int .u8 0) 1 1 Tryz.underlying22 hi hz0 hz1 hz2 rfl (by omega) _ X.length (bs X) rfl HQ.out A7 C.length c7 (bs C) rfl hr7 (bs_one C) (by unfold maxLen; omega) (by omega) hsz7 ?_; intro v8 w8 hown8 hg8)
        have hb8 : Below W5.heap.size W5 w8 := (below_then hbw hb7d).grown hg8 hsz7 (own_ge HQ.out)
        have hlt := HLT.out
        refine ⟨⟨k + 1, by go_num, by omega, ?_, hb8⟩, by simp [intOf]; omega⟩
        rw [HX1.out, List.length_append, bs_append]
        exact hown8
      · obtain rfl : k = x.F.length := by omega
        rw [HPP.out.2.1] at ho
        have hl5 := HPP.out.2.2.2 x.F.length
        rw [HPP.out.2.1] at hl5
        obtain ⟨E, hE⟩ : ∃ E, encB s 64 m x = E := ⟨_, rfl⟩
        rw [hE] at ho hl5 HY4
        obtain ⟨A9, c9, rfl, hr9⟩ := SlB.of_own ho
        obtain ⟨A5, c5, e5, hr5, -⟩ := HY4.out
        injection e5 with e51 e52 e53
        subst e51 e52 e53
        have HB := Lib.hid (bytes_any A4 A9 c4 c9 E E wr (by omega) (by omega) (hr5.on hbw) hr9)
        clear ho hr9 hr5 k1
        go_wp2_with fail
        refine HB.out.mono ?_
        rintro e w9 ⟨rfl, hb9⟩
        go_wp2
        go_ret
        exact ⟨by simp, below_then hb0r hb9⟩
  · have hisf : (mayT s m x && eqB (norB s 64 m x) x) = false := by simpa using his
    rw [hisf] at HIS
    clear his hisf
    go_wp2_with fail
    refine HIS.out.mono ?_
    rintro e w3 ⟨rfl, hb3⟩
    go_wp2
    go_ret
    exact ⟨rfl, below_then hb02 hb3⟩
end Go.Proofs.YtipaangiehdgkaaGreatDoor.T12.lawEncodeParts
