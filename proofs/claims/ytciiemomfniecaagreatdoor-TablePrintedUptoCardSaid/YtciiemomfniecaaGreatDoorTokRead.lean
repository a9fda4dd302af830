/-
  What a law that reads package-level variables needs beyond the rest: the given ties, and the condition on what is laid.
-/
import Derived.Test.YtciiemomfniecaaGreatDoorCards
import Derived.Test.YtciiemomfniecaaGreatDoorTie
import Derived.Test.YtciiemomfniecaaGreatDoorTabMath
import Derived.Deep.DeepHandedRow
import Derived.Lib.LaidTab
import Derived.Lay
import Derived.MakeChecks
import Derived.Test.YtciiemomfniecaaGreatDoorTokRnum
import Derived.Stop.LaidErr
import Derived.Deep.Strs
import Derived.Test.YtciiemomfniecaaGreatDoorProPone
import Derived.Test.YtciiemomfniecaaGreatDoorProOnes
import Derived.Deep.RegionHeld3
import Derived.Deep.QuietTactic
namespace Go.Proofs.YtciiemomfniecaaGreatDoor
set_option maxRecDepth 100000

end Go.Proofs.YtciiemomfniecaaGreatDoor
/-
  From what a row lists to what the contracts ask (where token's tables, strconv's errors and table's two tables are listed).
-/
namespace Go.Proofs.YtciiemomfniecaaGreatDoor
set_option maxRecDepth 100000

open Go.RowKit

theorem arr_inv {H : Type} {enc : TypeId × Value → H} {P : Program} {w : World} {base : Nat} {sp : Nat → Bool} {held : Bool} {fuel : Nat} {t e : TypeId} {n : Nat} {cs : List Value} {ds : List (DataW H)} {p : List MemPlace}
    (ht : P.underlying t = some (.array n e)) (h : DataW.trod enc P w base sp held fuel t cs = some (.agg ds, p)) : cs.length = P.cellsOf t ∧ ∃ f, ∀ i d, i < n → ds[i]? = some d → ∃ q, DataW.trod enc P w base sp held f e ((cs.drop (i * P.cellsOf e)).take (P.cellsOf e)) = some (d, q) := by
  cases fuel with
  | zero => simp [DataW.trod] at h
  | succ fuel =>
    simp only [DataW.trod, ht] at h
    split at h
    · rename_i hl
      obtain ⟨xs, hm, hx⟩ := Option.map_eq_some_iff.1 h
      have hxs : xs.map (·.1) = ds := by
        have := congrArg Prod.fst hx
        simpa using this
      refine ⟨by simpa using hl, fuel, fun i d hi hd => ?_⟩
      obtain ⟨b, hb, hf⟩ := Lib.mapM_at hm i i (by simp [hi])
      rw [← hxs, List.getElem?_map, hb] at hd
      simp only [Option.map_some, Option.some.injEq] at hd
      subst hd
      exact ⟨b.2, hf⟩
    · cases h
section

variable {enc : TypeId × Value → Unit} {W : World} {n : Nat} {q : List MemPlace}

theorem elem_plain {cs : List Value} {x : List UInt8} {k : Int} (h : DataW.trod enc Tryz.prog W 0 (fun _ => true) false n 87 cs = some (.agg [.lit (.string x), .lit (.int .i64 k)], q)) : cs = [.string (txt x), .int .i64 k] := by
  obtain ⟨y0, y1, m, hx, hl, h0, h1⟩ := ChangeShapes.trod_struct2 Tryz.underlying87 h
  have k0 : Tryz.prog.cellsOf 87 = 2 := by kernel_rfl
  rw [k0] at hl
  obtain ⟨c0, c1, rfl⟩ : ∃ a b, cs = [a, b] := match cs, hl with | [a, b], _ => ⟨a, b, rfl⟩
  obtain ⟨s, e0, f0, -⟩ := DataW.trod_string Tryz.underlying9 h0
  obtain ⟨z, e1, f1, -⟩ := DataW.trod_int Tryz.underlying3 h1
  have k1 : Tryz.prog.cellsOf 9 = 1 := by kernel_rfl
  have k2 : Tryz.prog.cellsOf 3 = 1 := by kernel_rfl
  simp only [k1, k2] at e0 e1
  simp at e0 e1
  subst e0 e1 f0 f1
  simp only [Prod.mk.injEq, DataW.agg.injEq, List.cons.injEq, DataW.lit.injEq, Lit.string.injEq, Lit.int.injEq, and_true, true_and] at hx
  obtain ⟨⟨rfl, rfl⟩, -⟩ := hx
  rfl
theorem elem_stance {cs : List Value} {a b c : Bool} (h : DataW.trod enc Tryz.prog W 0 (fun _ => true) false n 189 cs = some (.agg [.lit (.bool a), .lit (.bool b), .lit (.bool c)], q)) : cs = [.bool a, .bool b, .bool c] := by
  obtain ⟨hl, m, hg⟩ := arr_inv Tryz.underlying189 h
  have k0 : Tryz.prog.cellsOf 189 = 3 := by kernel_rfl
  have k1 : Tryz.prog.cellsOf 4 = 1 := by kernel_rfl
  rw [k0] at hl
  rw [k1] at hg
  obtain ⟨c0, c1, c2, rfl⟩ : ∃ a b c, cs = [a, b, c] := match cs, hl with | [a, b, c], _ => ⟨a, b, c, rfl⟩
  obtain ⟨_, h0⟩ := hg 0 _ (by omega) rfl
  obtain ⟨_, h1⟩ := hg 1 _ (by omega) rfl
  obtain ⟨_, h2⟩ := hg 2 _ (by omega) rfl
  obtain ⟨s0, e0, f0⟩ := DataW.trod_bool Tryz.underlying4 h0
  obtain ⟨s1, e1, f1⟩ := DataW.trod_bool Tryz.underlying4 h1
  obtain ⟨s2, e2, f2⟩ := DataW.trod_bool Tryz.underlying4 h2
  simp at e0 e1 e2 f0 f1 f2
  obtain ⟨rfl, -⟩ := f0
  obtain ⟨rfl, -⟩ := f1
  obtain ⟨rfl, -⟩ := f2
  rw [e0, e1, e2]
end

theorem plains_of {W : World} {rest : List (String × DataW Unit)} (h : laidMet Tryz.prog (("truffle/table.plains", Rows.laid_truffle_table_plains) :: rest) W) : TabAt W 0 plainsC := by
  obtain ⟨ps, ⟨g', t', cs, fuel, p, q, hg', ht', hvar, hd, _, _⟩, _⟩ := h
  have hg : Tryz.prog.globalNamed "truffle/table.plains" = some 0 := by kernel_rfl
  have hty : (Tryz.prog.globals[0]?).map (·.type) = some 88 := by kernel_rfl
  obtain rfl := Option.some.inj (hg.symm.trans hg')
  obtain rfl := Option.some.inj (hty.symm.trans ht')
  refine TabAt.of_var hg ?_
  rw [hvar]
  obtain ⟨hl, m, hh⟩ := arr_inv (ds := [.agg [.lit (.string tInt64), .lit (.int .i64 0)], .agg [.lit (.string tSint64), .lit (.int .i64 1)], .agg [.lit (.string tUint32), .lit (.int .i64 2)], .agg [.lit (.string tBool), .lit (.int .i64 3)], .agg [.lit (.string tFixed32), .lit (.int .i64 4)], .agg [.lit (.string tSfixed64), .lit (.int .i64 5)], .agg [.lit (.string tString), .lit (.int .i64 7)], .agg [.lit (.string tBytes), .lit (.int .i64 8)]]) Tryz.underlying88 hd
  have k0 : Tryz.prog.cellsOf 88 = 16 := by kernel_rfl
  have k1 : Tryz.prog.cellsOf 87 = 2 := by kernel_rfl
  rw [k0] at hl
  rw [k1] at hh
  obtain ⟨cs⟩ := cs
  simp only at hl hh
  obtain ⟨c0, c1, c2, c3, c4, c5, c6, c7, c8, c9, c10, c11, c12, c13, c14, c15, rfl⟩ : ∃ a0 a1 a2 a3 a4 a5 a6 a7 a8 a9 a10 a11 a12 a13 a14 a15, cs = [a0, a1, a2, a3, a4, a5, a6, a7, a8, a9, a10, a11, a12, a13, a14, a15] := match cs, hl with | [a0, a1, a2, a3, a4, a5, a6, a7, a8, a9, a10, a11, a12, a13, a14, a15], _ => ⟨a0, a1, a2, a3, a4, a5, a6, a7, a8, a9, a10, a11, a12, a13, a14, a15, rfl⟩
  obtain ⟨_, h0⟩ := hh 0 _ (by omega) rfl
  obtain ⟨_, h1⟩ := hh 1 _ (by omega) rfl
  obtain ⟨_, h2⟩ := hh 2 _ (by omega) rfl
  obtain ⟨_, h3⟩ := hh 3 _ (by omega) rfl
  obtain ⟨_, h4⟩ := hh 4 _ (by omega) rfl
  obtain ⟨_, h5⟩ := hh 5 _ (by omega) rfl
  obtain ⟨_, h6⟩ := hh 6 _ (by omega) rfl
  obtain ⟨_, h7⟩ := hh 7 _ (by omega) rfl
  have e0 := elem_plain h0
  have e1 := elem_plain h1
  have e2 := elem_plain h2
  have e3 := elem_plain h3
  have e4 := elem_plain h4
  have e5 := elem_plain h5
  have e6 := elem_plain h6
  have e7 := elem_plain h7
  simp only [Nat.zero_mul, Nat.one_mul, Nat.reduceMul, List.drop_zero, List.drop_succ_cons, List.take_succ_cons, List.take_zero, List.cons.injEq, and_true] at e0 e1 e2 e3 e4 e5 e6 e7
  obtain ⟨rfl, rfl⟩ := e0
  obtain ⟨rfl, rfl⟩ := e1
  obtain ⟨rfl, rfl⟩ := e2
  obtain ⟨rfl, rfl⟩ := e3
  obtain ⟨rfl, rfl⟩ := e4
  obtain ⟨rfl, rfl⟩ := e5
  obtain ⟨rfl, rfl⟩ := e6
  obtain ⟨rfl, rfl⟩ := e7
  rfl
theorem stances_of {W : World} {rest : List (String × DataW Unit)} (h : laidMet Tryz.prog (("truffle/table.stances", Rows.laid_truffle_table_stances) :: rest) W) : TabAt W 1 stancesC := by
  obtain ⟨ps, ⟨g', t', cs, fuel, p, q, hg', ht', hvar, hd, _, _⟩, _⟩ := h
  have hg : Tryz.prog.globalNamed "truffle/table.stances" = some 1 := by kernel_rfl
  have hty : (Tryz.prog.globals[1]?).map (·.type) = some 190 := by kernel_rfl
  obtain rfl := Option.some.inj (hg.symm.trans hg')
  obtain rfl := Option.some.inj (hty.symm.trans ht')
  refine TabAt.of_var hg ?_
  rw [hvar]
  obtain ⟨hl, m, hh⟩ := arr_inv (ds := [.agg [.lit (.bool false), .lit (.bool false), .lit (.bool false)], .agg [.lit (.bool true), .lit (.bool false), .lit (.bool false)], .agg [.lit (.bool false), .lit (.bool true), .lit (.bool false)], .agg [.lit (.bool false), .lit (.bool false), .lit (.bool true)]]) Tryz.underlying190 hd
  have k0 : Tryz.prog.cellsOf 190 = 12 := by kernel_rfl
  have k1 : Tryz.prog.cellsOf 189 = 3 := by kernel_rfl
  rw [k0] at hl
  rw [k1] at hh
  obtain ⟨cs⟩ := cs
  simp only at hl hh
  obtain ⟨c0, c1, c2, c3, c4, c5, c6, c7, c8, c9, c10, c11, rfl⟩ : ∃ a0 a1 a2 a3 a4 a5 a6 a7 a8 a9 a10 a11, cs = [a0, a1, a2, a3, a4, a5, a6, a7, a8, a9, a10, a11] := match cs, hl with | [a0, a1, a2, a3, a4, a5, a6, a7, a8, a9, a10, a11], _ => ⟨a0, a1, a2, a3, a4, a5, a6, a7, a8, a9, a10, a11, rfl⟩
  obtain ⟨_, h0⟩ := hh 0 _ (by omega) rfl
  obtain ⟨_, h1⟩ := hh 1 _ (by omega) rfl
  obtain ⟨_, h2⟩ := hh 2 _ (by omega) rfl
  obtain ⟨_, h3⟩ := hh 3 _ (by omega) rfl
  have e0 := elem_stance h0
  have e1 := elem_stance h1
  have e2 := elem_stance h2
  have e3 := elem_stance h3
  simp only [Nat.zero_mul, Nat.one_mul, Nat.reduceMul, List.drop_zero, List.drop_succ_cons, List.take_succ_cons, List.take_zero, List.cons.injEq, and_true] at e0 e1 e2 e3
  obtain ⟨rfl, rfl, rfl⟩ := e0
  obtain ⟨rfl, rfl, rfl⟩ := e1
  obtain ⟨rfl, rfl, rfl⟩ := e2
  obtain ⟨rfl, rfl, rfl⟩ := e3
  rfl
theorem star : "*" ++ "errors.errorString" = "*errors.errorString" := by decide
theorem row_err (u : TypeId) (h : Tryz.prog.typeName? 3 u = some "*errors.errorString") : u = 274 :=
  typeName_ptr_named (nm := "errors.errorString") (by rw [star]; kernel_rfl) (by kernel_rfl) (by decide) u (by rw [star]; exact h)
/-- What the contracts ask of a world: token's tables, and table's. -/
structure LT (w : World) : Prop where
  laid : Laid w
  tabs : Tabs w
theorem LT.on {w w' : World} (h : LT w) (hb : Below w.heap.size w w') : LT w' := ⟨h.laid.on hb, h.tabs.on hb⟩
/-- From the condition of a statement's row (the variables are laid as the program's text lays them) to what the contracts ask. -/
theorem laid_of {W : World} (h : laidMetH Tryz.prog [("math/bits.deBruijn32tab", Rows.laid_math_bits_deBruijn32tab), ("math/bits.deBruijn64tab", Rows.laid_math_bits_deBruijn64tab), ("internal/strconv.uint64pow10", Rows.laid_internal_strconv_uint64pow10), ("strconv.ErrRange", Rows.laid_strconv_ErrRange), ("strconv.ErrSyntax", Rows.laid_strconv_ErrSyntax), ("truffle/table.plains", Rows.laid_truffle_table_plains), ("truffle/table.stances", Rows.laid_truffle_table_stances)] W) : LT W := by
  rw [MakeChecks.laidMetH_plain _ _ _ (by kernel_rfl)] at h
  have h3 := h.tail.tail
  have h4 := h3.tail
  have h5 := h4.tail
  have h6 := h5.tail
  have h7 := h6.tail
  have e : (Rows.laid_internal_strconv_uint64pow10 : DataW Unit) = Lib.tabData .u64 Lib.pow10Tab := by kernel_rfl
  rw [e] at h3
  have g3 : Tryz.prog.globalNamed "internal/strconv.uint64pow10" = some 2 := by kernel_rfl
  have t3 : (Tryz.prog.globals[2]?).map (·.type) = some 259 := by kernel_rfl
  have k1 : Tryz.prog.cellsOf 259 = 20 := by kernel_rfl
  have k2 : Tryz.prog.cellsOf 224 = 1 := by kernel_rfl
  have g4 : Tryz.prog.globalNamed "strconv.ErrRange" = some 5 := by kernel_rfl
  have t4 : (Tryz.prog.globals[5]?).map (·.type) = some 234 := by kernel_rfl
  have g5 : Tryz.prog.globalNamed "strconv.ErrSyntax" = some 4 := by kernel_rfl
  have t5 : (Tryz.prog.globals[4]?).map (·.type) = some 234 := by kernel_rfl
  have k3 : Tryz.prog.cellsOf 276 = 1 := by kernel_rfl
  have k4 : Tryz.prog.cellsOf 9 = 1 := by kernel_rfl
  have r4 := laid_sentinel h4 g4 t4 Tryz.underlying234 row_err Tryz.underlying274 Tryz.underlying276 rfl rfl Tryz.underlying9 k3 k4
  have r5 := laid_sentinel h5 g5 t5 Tryz.underlying234 row_err Tryz.underlying274 Tryz.underlying276 rfl rfl Tryz.underlying9 k3 k4
  obtain ⟨a4, s4, v4, -⟩ := r4
  obtain ⟨a5, s5, v5, -⟩ := r5
  exact ⟨⟨Lib.tabIs_of_head g3 t3 Tryz.underlying259 Tryz.underlying224 k2 k1 h3, ⟨_, _, v5⟩, ⟨_, _, v4⟩⟩, plains_of h6, stances_of h7⟩
end Go.Proofs.YtciiemomfniecaaGreatDoor
/-
  A file is read: the contract.
-/
namespace Go.Proofs.YtciiemomfniecaaGreatDoor
set_option maxRecDepth 100000

open Go.RowKit

theorem goes_cons {t : T} {l : List T} : S.goes ⟨t :: l, false⟩ = true := by simp [S.goes]
set_option maxHeartbeats 4000000 in
theorem file_any (P E : Nat) (s : S) (w : World) (hp : PSt w P E s) (hn : s.mu ≤ 40000) :
    Calls Tryz.prog 61 #[.pointer (some ⟨P, 0, none⟩)] w (FlPost P E w (fileF E s ⟨[], []⟩)) := by
  obtain ⟨i0, hi, hz0, hz1, hz2⟩ := info_parts infoMss
  obtain ⟨j0, hj, hy0, hy1, hy2⟩ := info_parts infoEns
  have hPl := hp.lt
  have HP := Lib.hid hp
  clear hp
  have hN : 2 ≤ 3 := by omega
  generalize hX : fileF E s ⟨[], []⟩ = X at *
  have HX := Lib.hid hX
  clear hX
  go_enter Tryz.func61, Tryz.ntmps61
  go_wp2
  go_loopw [17] (fun _ wr => FlRel P E (w.heap.size + 1) ((w.alloc (.cells #[.slice none 0 0, .slice none 0 0] 25)).alloc (.cells #[.slice none 0 0, .slice none 0 0] 25)) X 40000 wr) (fun _ wr => muW wr P)
  case atStart => exact ⟨s, ⟨[], []⟩, .slice none 0 0, .slice none 0 0, [], [], (HP.out.alloc _).alloc _, ⟨heap_second w _ _, World.ownsRow_nil _ _ _ _, rfl, World.ownsRow_nil _ _ _ _, rfl⟩, Kp.refl _ _ _, HX.out, by show 0 + 0 + _ ≤ _; omega⟩
  case round =>
    obtain ⟨s5, f5, vM, vE, xs, ys, hp5, hf5, hk5, hx5, hw5⟩ := hrel
    have HX5 := Lib.hid hx5
    have HF5 := Lib.hid hf5
    have HK5 := Lib.hid hk5
    have HP5 := Lib.hid hp5
    have hmu5 := hp5.mu
    have hsr := hk5.size
    simp at hsr
    clear hx5 hf5 hk5
    obtain ⟨A, q, hb, hl, hlt⟩ := hp5
    obtain ⟨l5, st5⟩ := s5
    simp only at hb hl
    have c0 := heap_cell hb 0
    have c2 := heap_cell hb 2
    simp at c0 c2
    have HL := Lib.hid hl
    clear hb hl hlt
    cases hgo : S.goes ⟨l5, st5⟩
    · have HE : Hid (X = (⟨l5, st5⟩, f5)) := Lib.hid (by rw [← HX5.out, fileF, dif_neg (by rw [hgo]; decide)])
      have HMU5 := Lib.hid hmu5
      clear hmu5
      have hc : st5 = true ∨ (st5 = false ∧ l5 = []) := by
        cases st5
        · right
          refine ⟨rfl, ?_⟩
          cases l5 with
          | nil => rfl
          | cons t l => rw [goes_cons] at hgo; cases hgo
        · exact .inl rfl
      clear hgo
      have HB5 := Lib.hid HF5.out.box
      have HRR := Lib.hid ((HK5.out.block w.heap.size (by omega) (by omega)).trans (heap_first w (.cells #[.slice none 0 0, .slice none 0 0] 25) (.cells #[.slice none 0 0, .slice none 0 0] 25) rfl))
      have g1 := own_one HF5.out.m
      have g2 := own_one HF5.out.e
      rcases hc with rfl | ⟨rfl, rfl⟩
      all_goals
        go_wp2_with (refine wpList_load_fl rfl _ rfl (w.heap.size + 1) _ _ rfl _ _ HB5.out ?_; refine wpList_store_fl rfl _ _ rfl rfl w.heap.size _ _ _ _ rfl rfl g1 g2 _ HRR.out ?_)
        refine bodyPost_ret (results_fl rfl _ _ w.heap.size _ _ _ (0, 0) rfl (setRow_heap _ _ _ _ _ _ HRR.out)) rfl ?_
        rw [HE.out]
        have hgr : wr.grownBy (wr.setRow w.heap.size #[vM, vE]) (some w.heap.size) := ⟨rfl, rfl, rfl, by simp, fun k _ hk => setRow_other _ _ _ _ (by simpa using hk)⟩
        have hlf := Leaf.grown hgr HRR.out rfl
        obtain ⟨xs', ys', r1, r2, r3, r4⟩ := HF5.out.read
        exact ⟨vM, vE, rfl, ⟨xs', ys', own_other r1 hgr HRR.out (by decide), r2.leaf hlf, own_other r3 hgr HRR.out (by decide), r4.leaf hlf⟩, HP5.out.setRow hPl _, (((((Kp.refl w.heap.size P w).alloc (Nat.le_refl _) _).alloc (by simp) _).trans (HK5.out.mono (by omega))).setRow (Nat.le_refl _) _).out⟩
    · obtain rfl : st5 = false := goes_st hgo
      cases l5 with
      | nil => simp [S.goes] at hgo
      | cons t l5 =>
        have hd1 : decide ((0 : Int) < ((t :: l5).length : Int)) = true := by simp
        have hd2 : decide (0 < (t :: l5).length) = true := by simp
        have HGO := Lib.hid hgo
        clear hgo
        have hI := sees_any P E 0 ⟨#[101, 110, 117, 109]⟩ _ wr HP5.out
        have hM5 := HF5.out.lt
        have hmb : f5.M.length ≤ 40000 ∧ f5.E.length ≤ 40000 := ⟨by omega, by omega⟩
        obtain ⟨hmb1, hmb2⟩ := hmb
        have hmuk : S.mu ⟨t :: l5, false⟩ ≤ 40000 := by omega
        cases hin : S.sees ⟨t :: l5, false⟩ 0 wEnum
        · have HI : Hid (Calls Tryz.prog 115 #[.pointer (some ⟨P, 0, none⟩), .int .i64 ((0 : Nat) : Int), .string ⟨#[101, 110, 117, 109]⟩] wr fun e w' => e = .returned (.bool false) ∧ wr = w') := Lib.hid (hI.mono fun e w' h => ⟨by rw [h.1]; exact congrArg (fun b => Ending.returned (Value.bool b)) hin, h.2⟩)
          have HN := Lib.hid (fileF_ms E _ f5 HGO.out (by rw [hin]; decide))
          have hmd := messageF_mu E _ (goes_st HGO.out)
          have hca := message_any P E _ wr.drew HP5.out.drew rfl (by omega)
          generalize hY : messageF E ⟨t :: l5, false⟩ = Y at *
          have HCA := Lib.hid hca
          have HMU5 := Lib.hid hmu5
          have hFR := HF5.out.drew
          have cF := heap_cell HF5.out.box 0
          simp at cF
          have HFR := Lib.hid hFR
          have HKD := Lib.hid (HK5.out.drew 1)
          have HW5 := Lib.hid hw5
          have HMD := Lib.hid hmd
          clear hI hin hY hca hmu5 hFR hw5 hmd
          go_wp2_with fail
          refine HI.out.mono ?_
          rintro e w6 ⟨rfl, rfl⟩
          go_wp2_with fail
          go_region_law
            (first
              | (refine step_append_lies _ rfl _ _ 22 rfl (w.heap.size + 2) 51 i0 _ 5 96 Tryz.underlying22 hi hz0 hz1 hz2 rfl (by decide) vM f5.M.length xs (by simp [Act.eval, Act.put]) (HFR7.out.alloc _).m ⟨w7.heap.size, 0, none⟩ 1 1 (MC Y.2 vF vO vR) (by simp [Act.eval, Act.put]) rfl (World.news_of_block (heap_alloc_new _ _)) hmr.cells (by decide) (by unfold maxLen; omega) (by omega) (by simp; omega) w7.heap.size.succ (by simp) ?_; intro g8 cap8 w8 hown8 hg8 hat8 hlt8; have hb8 := (hg8.block _ (HFR7.out.alloc _).lt (fun e => by have := own_M HFR7.out.m _ e.symm; omega)).trans (HFR7.out.alloc _).box; have c8 := heap_cell hb8 0; have f8 := heap_free hb8 0; simp at c8; have HB8 := Lib.hid hb8; clear hb8)
              | (go_simp; refine HCA.out.mono ?_; rintro e w7 ⟨vF, vO, vR, rfl, hmr, hp7, hg7⟩; have hs7 : wr.heap.size ≤ w7.heap.size := hg7.size; have hr7 := HFR.out.taken HP5.out.drew hg7 (by omega); have hk7 := HKD.out.taken hg7 (by show w.heap.size + 1 ≤ wr.heap.size; omega); have c7 := heap_cell hr7.box 0; simp at c7; have HFR7 := Lib.hid hr7; have HK7 := Lib.hid hk7; have hM7 := hr7.lt; clear hr7 hk7; unfold MsV))
          all_goals
            have hp9 := (hp7.alloc (.cells #[.string (txt Y.2.name), vF, vO, vR, .int .i64 Y.2.at_] 51)).past (v := .slice (some ⟨g8, 0, none⟩) (f5.M.length + 1) cap8) (by omega) (HFR7.out.alloc _).m hg8 0
            go_wp2
            refine ⟨⟨Y.1, _, _, _, _, _, hp9, (HFR7.out.alloc _).addM (hmr.leaf (Leaf.alloc _ _)) hg8 hown8, (HK7.out.alloc (Nat.le_of_lt hM7) _).past (by simp; omega) (HFR7.out.alloc _).m hg8 0, HN.out.symm.trans HX5.out, by have := HW5.out; have := HMD.out; simp; omega⟩, ?_⟩
            rw [hp9.mu, HMU5.out]
            have := HMD.out
            omega
        · have HI : Hid (Calls Tryz.prog 115 #[.pointer (some ⟨P, 0, none⟩), .int .i64 ((0 : Nat) : Int), .string ⟨#[101, 110, 117, 109]⟩] wr fun e w' => e = .returned (.bool true) ∧ wr = w') := Lib.hid (hI.mono fun e w' h => ⟨by rw [h.1]; exact congrArg (fun b => Ending.returned (Value.bool b)) hin, h.2⟩)
          have HN := Lib.hid (fileF_en E _ f5 HGO.out hin)
          have hmd := enumF_mu E _ (goes_st HGO.out)
          have hca := enum_any P E _ wr.drew HP5.out.drew rfl (by omega)
          generalize hY : enumF E ⟨t :: l5, false⟩ = Y at *
          have HCA := Lib.hid hca
          have HMU5 := Lib.hid hmu5
          have hFR := HF5.out.drew
          have cF := heap_cell HF5.out.box 1
          simp at cF
          have HFR := Lib.hid hFR
          have HKD := Lib.hid (HK5.out.drew 1)
          have HW5 := Lib.hid hw5
          have HMD := Lib.hid hmd
          clear hI hin hY hca hmu5 hFR hw5 hmd
          go_wp2_with fail
          refine HI.out.mono ?_
          rintro e w6 ⟨rfl, rfl⟩
          go_wp2_with fail
          go_region_law
            (first
              | (refine step_append_lies _ rfl _ _ 23 rfl (w.heap.size + 2) 65 j0 _ 3 48 Tryz.underlying23 hj hy0 hy1 hy2 rfl (by decide) vE f5.E.length ys (by simp [Act.eval, Act.put]) (HFR7.out.alloc _).e ⟨w7.heap.size, 0, none⟩ 1 1 (EC Y.2 vV) (by simp [Act.eval, Act.put]) rfl (World.news_of_block (heap_alloc_new _ _)) hmr.cells (by decide) (by unfold maxLen; omega) (by omega) (by simp; omega) w7.heap.size.succ (by simp) ?_; intro g8 cap8 w8 hown8 hg8 hat8 hlt8; have hb8 := (hg8.block _ (HFR7.out.alloc _).lt (fun e => by have := own_M HFR7.out.e _ e.symm; omega)).trans (HFR7.out.alloc _).box; have c8 := heap_cell hb8 1; have f8 := heap_free hb8 1; simp at c8; have HB8 := Lib.hid hb8; clear hb8)
              | (go_simp; refine HCA.out.mono ?_; rintro e w7 ⟨vV, rfl, hmr, hp7, hg7⟩; have hs7 : wr.heap.size ≤ w7.heap.size := hg7.size; have hr7 := HFR.out.taken HP5.out.drew hg7 (by omega); have hk7 := HKD.out.taken hg7 (by show w.heap.size + 1 ≤ wr.heap.size; omega); have c7 := heap_cell hr7.box 1; simp at c7; have HFR7 := Lib.hid hr7; have HK7 := Lib.hid hk7; have hM7 := hr7.lt; clear hr7 hk7; unfold EnV))
          all_goals
            have hp9 := (hp7.alloc (.cells #[.string (txt Y.2.name), vV, .int .i64 Y.2.at_] 65)).past (v := .slice (some ⟨g8, 0, none⟩) (f5.E.length + 1) cap8) (by omega) (HFR7.out.alloc _).e hg8 1
            go_wp2
            refine ⟨⟨Y.1, _, _, _, _, _, hp9, (HFR7.out.alloc _).addE (hmr.leaf (Leaf.alloc _ _)) hg8 hown8, (HK7.out.alloc (Nat.le_of_lt hM7) _).past (by simp; omega) (HFR7.out.alloc _).e hg8 1, HN.out.symm.trans HX5.out, by have := HW5.out; have := HMD.out; simp; omega⟩, ?_⟩
            rw [hp9.mu, HMU5.out]
            have := HMD.out
            omega
end Go.Proofs.YtciiemomfniecaaGreatDoor
/-
  The parser as a machine that takes one token after the other: where it stands still the parser is stuck.
-/
namespace Go.Proofs.YtciiemomfniecaaGreatDoor
set_option maxRecDepth 100000

open S

inductive Pc where
  | top | m1 | m2 | it | ty | mp | key | comma | vty | gt | nm | eq | no | semi | o1 | o2 | oi | r1 | r2 | e1 | e2 | ei | v1 | v2 | v3
  deriving DecidableEq

def m0 : Ms := ⟨[], [], [], [], 0⟩
def d0 : Fd := ⟨[], [], false, 0, [], 0, 0⟩
def en0 : En := ⟨[], [], 0⟩
def vl0 : Vl := ⟨[], 0, 0⟩
/-- Where the machine is, and what it has read. -/
structure C where
  pc : Pc
  f : Fl
  m : Ms := m0
  d : Fd := d0
  o : Bool := false
  e : En := en0
  v : Vl := vl0

def isN (t : T) : Bool := t.kind == 0
def isNum (t : T) : Bool := t.kind == 1
def isW (t : T) (x : List UInt8) : Bool := t.kind == 0 && t.text == x
def isS (t : T) (x : List UInt8) : Bool := t.kind == 3 && t.text == x
def Fl.addM (f : Fl) (m : Ms) : Fl := { f with M := f.M ++ [m] }
def Fl.addE (f : Fl) (e : En) : Fl := { f with E := f.E ++ [e] }

def step (c : C) (t : T) : Option C :=
  match c.pc with
  | .top => if isW t wEnum then some { pc := .e1, f := c.f, e := ⟨[], [], t.at_⟩ } else if isW t wMessage then some { pc := .m1, f := c.f, m := ⟨[], [], [], [], t.at_⟩ } else none
  | .m1 => if isN t then some { c with pc := .m2, m := { c.m with name := t.text } } else none
  | .m2 => if isS t [123] then some { c with pc := .it } else none
  | .it =>
    if isS t [125] then some { pc := .top, f := c.f.addM c.m }
    else if isW t wRepeated then some { c with pc := .ty, d := ⟨[], [], true, 0, [], 0, t.at_⟩ }
    else if isW t wOneof then some { c with pc := .o1 }
    else if isW t wReserved then some { c with pc := .r1 }
    else if isW t wMap then some { c with pc := .mp, d := ⟨wMap, [], false, 0, [], 0, t.at_⟩ }
    else if isN t then some { c with pc := .nm, d := ⟨t.text, [], false, 0, [], 0, t.at_⟩ }
    else none
  | .ty => if isN t then some { c with pc := .nm, d := { c.d with type := t.text } } else none
  | .mp => if isS t [60] then some { c with pc := .key, d := { c.d with type := [] } } else if isN t then some { c with pc := .eq, d := { c.d with name := t.text } } else none
  | .key => if isN t then some { c with pc := .comma, d := { c.d with key := t.text } } else none
  | .comma => if isS t [44] then some { c with pc := .vty } else none
  | .vty => if isN t then some { c with pc := .gt, d := { c.d with type := t.text } } else none
  | .gt => if isS t [62] then some { c with pc := .nm } else none
  | .nm => if isN t then some { c with pc := .eq, d := { c.d with name := t.text } } else none
  | .eq => if isS t [61] then some { c with pc := .no } else none
  | .no => if isNum t then some { c with pc := .semi, d := { c.d with no := t.num } } else none
  | .semi => if isS t [59] then some { c with pc := (if c.o then .oi else .it), m := c.m.add c.d, d := d0, o := false } else none
  | .o1 => if isN t then some { c with pc := .o2, m := { c.m with ones := c.m.ones ++ [t.text] } } else none
  | .o2 => if isS t [123] then some { c with pc := .oi } else none
  | .oi => if isS t [125] then some { c with pc := .it } else if isN t then some { c with pc := .nm, d := ⟨t.text, [], false, c.m.ones.length, [], 0, t.at_⟩, o := true } else none
  | .r1 => if isNum t then some { c with pc := .r2, m := { c.m with res := c.m.res ++ [t.num] } } else none
  | .r2 => if isS t [44] then some { c with pc := .r1 } else if isS t [59] then some { c with pc := .it } else none
  | .e1 => if isN t then some { c with pc := .e2, e := { c.e with name := t.text } } else none
  | .e2 => if isS t [123] then some { c with pc := .ei } else none
  | .ei => if isS t [125] then some { pc := .top, f := c.f.addE c.e } else if isN t then some { c with pc := .v1, v := ⟨t.text, 0, t.at_⟩ } else none
  | .v1 => if isS t [61] then some { c with pc := .v2 } else none
  | .v2 => if isNum t then some { c with pc := .v3, v := { c.v with n := t.num } } else none
  | .v3 => if isS t [59] then some { c with pc := .ei, e := { c.e with V := c.e.V ++ [c.v] }, v := vl0 } else none

/-- As far as it goes: where it is then, and what is left. -/
def run (c : C) : List T → C × List T
  | [] => (c, [])
  | t :: l => match step c t with | none => (c, t :: l) | some c' => run c' l
theorem run_some {c c' : C} {t : T} (h : step c t = some c') (l : List T) : run c (t :: l) = run c' l := by simp [run, h]
theorem run_none {c : C} {t : T} (h : step c t = none) (l : List T) : run c (t :: l) = (c, t :: l) := by simp [run, h]

/-- The parser goes from one state to another one as the machine does. -/
def Adv (c : C) (s s' : S) (c' : C) : Prop :=
  (s.st = true → s' = s) ∧
  (s.st = false → (s'.st = false ∧ run c s.l = run c' s'.l) ∨ (s'.st = true ∧ (run c s.l).2 = s'.l ∧ (s'.l = [] → (run c s.l).1.pc ≠ .top)))
theorem Adv.refl (c : C) (s : S) : Adv c s s c := ⟨fun _ => rfl, fun h => .inl ⟨h, rfl⟩⟩
theorem Adv.trans {c c1 c2 : C} {s s1 s2 : S} (h : Adv c s s1 c1) (k : Adv c1 s1 s2 c2) : Adv c s s2 c2 := by
  refine ⟨fun hs => ?_, fun hs => ?_⟩
  · have h1 := h.1 hs
    subst h1
    exact k.1 hs
  · rcases h.2 hs with ⟨h1, h2⟩ | ⟨h1, h2, h3⟩
    · rw [h2]; exact k.2 h1
    · have := k.1 h1
      subst this
      exact .inr ⟨h1, h2, h3⟩
theorem Adv.eat {c c' : C} {s : S} {b : Bool} (hp : c.pc ≠ .top) (h0 : b = true → s.st = false) (h1 : b = true → ∃ t l, s.l = t :: l ∧ step c t = some c') (h2 : s.st = false → b = false → ∀ t l, s.l = t :: l → step c t = none) : Adv c s (s.eat b) c' := by
  obtain ⟨l, st⟩ := s
  refine ⟨fun hs => ?_, fun hs => ?_⟩
  · simp only at hs
    subst hs
    cases b
    · rfl
    · have := h0 rfl; simp at this
  · simp only at hs
    subst hs
    cases b
    · right
      refine ⟨by simp [S.eat], ?_, ?_⟩
      · cases l with
        | nil => simp [S.eat, run]
        | cons t l => simp [S.eat, run_none (h2 rfl rfl t l rfl)]
      · intro hl
        obtain rfl : l = [] := by simpa [S.eat] using hl
        exact hp
    · obtain ⟨t, r, h3, h4⟩ := h1 rfl
      simp only at h3
      subst h3
      left
      exact ⟨by simp [S.eat], by rw [run_some h4]; simp [S.eat]⟩
theorem is_eq {s : S} {k : Nat} (hs : s.st = false) {t : T} {l : List T} (h : s.l = t :: l) : s.is k = (t.kind == k) := by simp [S.is, hs, h]
theorem sees_eq {s : S} {k : Nat} {x : List UInt8} (hs : s.st = false) {t : T} {l : List T} (h : s.l = t :: l) : s.sees k x = (t.kind == k && t.text == x) := by simp [S.sees, is_eq hs h, h]
theorem Adv.name {c : C} {g : List UInt8 → C} (hp : c.pc ≠ .top) (h : ∀ t, step c t = if isN t then some (g t.text) else none) (s : S) : Adv c s s.name (g s.nameT) := by
  refine Adv.eat hp (fun hb => (is_l hb).1) (fun hb => ?_) (fun hs hb t l hl => ?_)
  · obtain ⟨h1, t, l, h2, h3⟩ := is_l hb
    refine ⟨t, l, h2, ?_⟩
    rw [h, show isN t = true by simp [isN, h3], if_pos rfl, S.nameT, hb, if_pos rfl, h2]
    rfl
  · rw [is_eq hs hl] at hb
    rw [h, show isN t = false from hb]
    rfl
theorem Adv.num {c : C} {g : Int → C} (hp : c.pc ≠ .top) (h : ∀ t, step c t = if isNum t then some (g t.num) else none) (s : S) : Adv c s s.num (g s.numV) := by
  refine Adv.eat hp (fun hb => (is_l hb).1) (fun hb => ?_) (fun hs hb t l hl => ?_)
  · obtain ⟨h1, t, l, h2, h3⟩ := is_l hb
    refine ⟨t, l, h2, ?_⟩
    rw [h, show isNum t = true by simp [isNum, h3], if_pos rfl, S.numV, hb, if_pos rfl, h2]
    rfl
  · rw [is_eq hs hl] at hb
    rw [h, show isNum t = false from hb]
    rfl
theorem Adv.sign {c c' : C} (x : List UInt8) (hp : c.pc ≠ .top) (h : ∀ t, step c t = if isS t x then some c' else none) (s : S) : Adv c s (s.sign x) c' := by
  refine Adv.eat hp (fun hb => (sees_l hb).1) (fun hb => ?_) (fun hs hb t l hl => ?_)
  · obtain ⟨h1, t, l, h2, h3, h4⟩ := sees_l hb
    refine ⟨t, l, h2, ?_⟩
    rw [h, show isS t x = true by simp [isS, h3, h4], if_pos rfl]
  · rw [sees_eq hs hl] at hb
    rw [h, show isS t x = false from hb]
    rfl
/-- A word, or a sign, that is known to stand next. -/
theorem Adv.seen {c c' : C} {k : Nat} {x : List UInt8} {s : S} (hb : s.sees k x = true) (h : ∀ t, t.kind = k → t.text = x → t.at_ = s.place 0 → step c t = some c') : Adv c s (s.eat (s.sees k x)) c' := by
  obtain ⟨h1, t, l, h2, h3, h4⟩ := sees_l hb
  refine ⟨fun hs => absurd (h1.symm.trans hs) (by decide), fun _ => .inl ?_⟩
  rw [hb, h2, run_some (h t h3 h4 (by simp [S.place, h2]))]
  simp [S.eat, h1, h2]

/-! ### Fields -/

theorem nbd_adv (f : Fl) (m : Ms) (d : Fd) (o : Bool) (s : S) : Adv { pc := .nm, f := f, m := m, d := d, o := o } s s.nbd { pc := (if o then .oi else .it), f := f, m := m.add { d with name := s.nameT, no := s.nbdNo } } := by
  refine Adv.trans (Adv.name (c := { pc := .nm, f := f, m := m, d := d, o := o }) (g := fun x => { pc := .eq, f := f, m := m, d := { d with name := x }, o := o }) (by simp) (fun t => rfl) s) ?_
  refine Adv.trans (Adv.sign (c' := { pc := .no, f := f, m := m, d := { d with name := s.nameT }, o := o }) [61] (by simp) (fun t => rfl) _) ?_
  refine Adv.trans (Adv.num (g := fun n => { pc := .semi, f := f, m := m, d := { d with name := s.nameT, no := n }, o := o }) (by simp) (fun t => rfl) _) ?_
  refine Adv.sign [59] (by simp) (fun t => rfl) _
/-- As Adv, from a state that is not stuck on. -/
def AdvN (c : C) (s s' : S) (c' : C) : Prop := (s'.st = false ∧ run c s.l = run c' s'.l) ∨ (s'.st = true ∧ (run c s.l).2 = s'.l ∧ (s'.l = [] → (run c s.l).1.pc ≠ .top))
theorem Adv.n {c c' : C} {s s' : S} (h : Adv c s s' c') (hs : s.st = false) : AdvN c s s' c' := h.2 hs
theorem AdvN.trans {c c1 c2 : C} {s s1 s2 : S} (h : AdvN c s s1 c1) (k : Adv c1 s1 s2 c2) : AdvN c s s2 c2 := by
  rcases h with ⟨h1, h2⟩ | ⟨h1, h2, h3⟩
  · unfold AdvN; rw [h2]; exact k.2 h1
  · have := k.1 h1
    subst this
    exact .inr ⟨h1, h2, h3⟩
theorem AdvN.of_run {c c' : C} {s s' s1 : S} {c1 : C} (h : run c s.l = run c1 s1.l) (k : AdvN c1 s1 s' c') : AdvN c s s' c' := by
  unfold AdvN; rw [h]; exact k
/-- The next token is taken. -/
theorem AdvN.one {c c' : C} {s : S} {t : T} {l : List T} (hs : s.st = false) (h : s.l = t :: l) (hst : step c t = some c') : AdvN c s ⟨l, false⟩ c' := .inl ⟨rfl, by rw [h, run_some hst]⟩
theorem AdvN.no {c c' : C} {s : S} (hp : c.pc ≠ .top) (h : ∀ t l, s.l = t :: l → step c t = none) : AdvN c s ⟨s.l, true⟩ c' := by
  right
  refine ⟨rfl, ?_, fun hl => ?_⟩
  · cases hl : s.l with
    | nil => rfl
    | cons t l => rw [run_none (h t l hl)]
  · simp only at hl
    rw [hl]
    exact hp
theorem eat_ok {s : S} {t : T} {l : List T} (hs : s.st = false) (h : s.l = t :: l) : s.eat true = ⟨l, false⟩ := by simp [S.eat, h, hs]
theorem eat_no (s : S) : s.eat false = ⟨s.l, true⟩ := rfl
theorem stuck_name {s : S} (h : s.st = true) : s.name = s := by rw [S.name, is_st h]; exact eat_st h
theorem stuck_num {s : S} (h : s.st = true) : s.num = s := by rw [S.num, is_st h]; exact eat_st h
theorem stuck_sign {s : S} (h : s.st = true) (x : List UInt8) : s.sign x = s := by rw [S.sign, sees_st h]; exact eat_st h
theorem stuck_nbd {s : S} (h : s.st = true) : s.nbd = s := by rw [S.nbd, stuck_name h, stuck_sign h, stuck_num h, stuck_sign h]
theorem AdvN.stuck {c c' : C} {s s1 s2 : S} (h : AdvN c s s1 c') (h1 : s1.st = true) (h2 : s1.st = true → s2 = s1) {c2 : C} : AdvN c s s2 c2 := by
  rcases h with ⟨h3, _⟩ | h3
  · rw [h1] at h3; cases h3
  · rw [h2 h1]; exact .inr h3
/-- A field within a oneof. -/
theorem ofld_adv (E : Nat) (f : Fl) (m : Ms) (s : S) (h : s.inside = true) : AdvN { pc := .oi, f := f, m := m } s s.fldS { pc := .oi, f := f, m := m.add { s.fld E with one := m.ones.length } } := by
  have hs := inside_st h
  have hq : s.sees 3 [125] = false := by simp only [S.inside, hs] at h; simpa using h
  cases hl : s.l with
  | nil =>
    have e : s.name = ⟨s.l, true⟩ := by simp [S.name, S.is, hs, hl, S.eat]
    exact (AdvN.no (c := { pc := .oi, f := f, m := m }) (s := s) (c' := { pc := .oi, f := f, m := m }) (by simp) (fun t l h => by rw [hl] at h; cases h)).stuck rfl (fun _ => by rw [S.fldS, e, stuck_nbd rfl])
  | cons t l =>
    rw [sees_eq hs hl] at hq
    cases hk : isN t with
    | true =>
      have hk' : s.is 0 = true := by rw [is_eq hs hl]; exact hk
      have e : s.name = ⟨l, false⟩ := by rw [S.name, hk', eat_ok hs hl]
      have hx : s.nameT = t.text := by simp [S.nameT, hk', hl]
      have h1 : AdvN { pc := .oi, f := f, m := m } s s.name { pc := .nm, f := f, m := m, d := ⟨t.text, [], false, m.ones.length, [], 0, t.at_⟩, o := true } := by
        rw [e]
        refine AdvN.one hs hl ?_
        simp only [step]
        rw [show isS t [125] = false from hq, hk]
        rfl
      have h2 := h1.trans (nbd_adv f m _ true s.name)
      have hp : s.place E = t.at_ := by simp [S.place, hl]
      simp only [if_true] at h2
      unfold S.fldS S.fld
      rw [hx, hp]
      exact h2
    | false =>
      have hk' : s.is 0 = false := by rw [is_eq hs hl]; exact hk
      have e : s.name = ⟨s.l, true⟩ := by rw [S.name, hk', eat_no]
      refine (AdvN.no (c := { pc := .oi, f := f, m := m }) (s := s) (c' := { pc := .oi, f := f, m := m }) (by simp) (fun t' l' h => ?_)).stuck rfl (fun _ => by rw [S.fldS, e, stuck_nbd rfl])
      rw [hl] at h
      cases h
      simp only [step]
      rw [show isS t [125] = false from hq, hk]
      rfl
theorem stuck_onesF (E : Nat) {s : S} (h : s.st = true) (m : Ms) : onesF E s m = (s, m) := by rw [onesF, dif_neg (by simp [S.inside, h])]
theorem onesF_adv (E : Nat) (f : Fl) (s : S) (m : Ms) : Adv { pc := .oi, f := f, m := m } s (onesF E s m).1 { pc := .oi, f := f, m := (onesF E s m).2 } := by
  induction s, m using onesF.induct E with
  | case1 s m h ih =>
    rw [onesF, dif_pos h]
    refine ⟨fun hs => ?_, fun hs => ?_⟩
    · rw [inside_st h] at hs; cases hs
    · exact (ofld_adv E f m s h).trans ih
  | case2 s m h => rw [onesF, dif_neg h]; exact Adv.refl _ _
theorem resF_adv (f : Fl) (s : S) (m : Ms) : Adv { pc := .r2, f := f, m := m } s (resF s m).1 { pc := .r2, f := f, m := (resF s m).2 } := by
  induction s, m using resF.induct with
  | case1 s m h ih =>
    rw [resF, dif_pos h]
    refine Adv.trans (Adv.seen (c' := { pc := .r1, f := f, m := m }) h (fun t h1 h2 _ => ?_)) (Adv.trans (Adv.num (g := fun n => { pc := .r2, f := f, m := { m with res := m.res ++ [n] } }) (by simp) (fun t => rfl) _) ih)
    simp [step, isS, h1, h2]
  | case2 s m h => rw [resF, dif_neg h]; exact Adv.refl _ _

theorem not_inside {s : S} (h : ¬ s.inside = true) : s.st = true ∨ s.sees 3 [125] = true := by
  cases hs : s.st with
  | true => exact .inl rfl
  | false => right; simpa [S.inside, hs] using h
theorem Adv.close {c c' : C} {s : S} (h : ¬ s.inside = true) (k : ∀ t, isS t [125] = true → step c t = some c') : Adv c s (s.sign [125]) c' := by
  rcases not_inside h with h1 | h1
  · exact ⟨fun _ => stuck_sign h1 _, fun hs => absurd (h1.symm.trans hs) (by decide)⟩
  · exact Adv.seen h1 (fun t h2 h3 _ => k t (by simp [isS, h2, h3]))
theorem onesF_end (E : Nat) (s : S) (m : Ms) : ¬ (onesF E s m).1.inside = true := by
  induction s, m using onesF.induct E with
  | case1 s m h ih => rw [onesF, dif_pos h]; exact ih
  | case2 s m h => rw [onesF, dif_neg h]; exact h
theorem resF_end (s : S) (m : Ms) : ¬ (resF s m).1.sees 3 [44] = true := by
  induction s, m using resF.induct with
  | case1 s m h ih => rw [resF, dif_pos h]; exact ih
  | case2 s m h => rw [resF, dif_neg h]; exact h

/-! ### Items -/

theorem AdvN.seen {c c' : C} {k : Nat} {x : List UInt8} {s : S} (hb : s.sees k x = true) (h : ∀ t, t.kind = k → t.text = x → t.at_ = s.place 0 → step c t = some c') : AdvN c s (s.eat (s.sees k x)) c' := (Adv.seen hb h).n (sees_l hb).1
theorem place_ne {s : S} (h : s.l ≠ []) (E E' : Nat) : s.place E = s.place E' := by
  cases hl : s.l with
  | nil => exact absurd hl h
  | cons t l => simp [S.place, hl]
theorem fld_adv (E : Nat) (f : Fl) (m : Ms) (d : Fd) (s : S) (hd : d.key = [] ∧ d.one = 0) : Adv { pc := .ty, f := f, m := m, d := d } s s.fldS { pc := .it, f := f, m := m.add { s.fld E with rep := d.rep, at_ := d.at_ } } := by
  have h := Adv.trans (Adv.name (c := { pc := .ty, f := f, m := m, d := d }) (g := fun x => { pc := .nm, f := f, m := m, d := { d with type := x } }) (by simp) (fun t => rfl) s) (nbd_adv f m _ false s.name)
  obtain ⟨a, b, c, e, g, i, j⟩ := d
  obtain ⟨h1, h2⟩ := hd
  simp only at h1 h2
  subst h1 h2
  exact h
theorem rep_adv (E : Nat) (f : Fl) (m : Ms) (s : S) (h : s.sees 0 wRepeated = true) : AdvN { pc := .it, f := f, m := m } s (repF E s m).1 { pc := .it, f := f, m := (repF E s m).2 } := by
  refine AdvN.trans (AdvN.seen (c' := { pc := .ty, f := f, m := m, d := ⟨[], [], true, 0, [], 0, s.place 0⟩ }) h (fun t h1 h2 h3 => ?_)) ?_
  · simp [step, isS, isW, h1, h2, h3]
  · have := fld_adv E f m ⟨[], [], true, 0, [], 0, s.place 0⟩ (s.word wRepeated) ⟨rfl, rfl⟩
    have e : s.place E = s.place 0 := place_ne (sees_ne h).2 _ _
    simp only [repF, e]
    exact this
theorem oneof_adv (E : Nat) (f : Fl) (m : Ms) (s : S) (h : s.sees 0 wOneof = true) : AdvN { pc := .it, f := f, m := m } s (oneofF E s m).1 { pc := .it, f := f, m := (oneofF E s m).2 } := by
  refine AdvN.trans (AdvN.seen (c' := { pc := .o1, f := f, m := m }) h (fun t h1 h2 h3 => ?_)) ?_
  · simp [step, isS, isW, h1, h2, wOneof, wRepeated]
  refine Adv.trans (Adv.name (g := fun x => { pc := .o2, f := f, m := { m with ones := m.ones ++ [x] } }) (by simp) (fun t => rfl) _) ?_
  refine Adv.trans (Adv.sign (c' := { pc := .oi, f := f, m := oneofM s m }) [123] (by simp) (fun t => rfl) _) ?_
  refine Adv.trans (onesF_adv E f _ _) ?_
  exact Adv.close (onesF_end E _ _) (fun t ht => by simp [step, ht]; rfl)
theorem reserved_adv (f : Fl) (m : Ms) (s : S) (h : s.sees 0 wReserved = true) : AdvN { pc := .it, f := f, m := m } s (reservedF s m).1 { pc := .it, f := f, m := (reservedF s m).2 } := by
  refine AdvN.trans (AdvN.seen (c' := { pc := .r1, f := f, m := m }) h (fun t h1 h2 h3 => ?_)) ?_
  · simp [step, isS, isW, h1, h2, wReserved, wRepeated, wOneof]
  refine Adv.trans (Adv.num (g := fun n => { pc := .r2, f := f, m := { m with res := m.res ++ [n] } }) (by simp) (fun t => rfl) _) ?_
  refine Adv.trans (resF_adv f _ _) ?_
  have he := resF_end (resS s) (resM s m)
  refine Adv.eat (by simp) (fun hb => (sees_l hb).1) (fun hb => ?_) (fun hs hb t l hl => ?_)
  · obtain ⟨h1, t, l, h2, h3, h4⟩ := sees_l hb
    exact ⟨t, l, h2, by simp [step, isS, h3, h4]; rfl⟩
  · have hs' : (resF (resS s) (resM s m)).1.st = false := hs
    have hl' : (resF (resS s) (resM s m)).1.l = t :: l := hl
    have hb' : (resF (resS s) (resM s m)).1.sees 3 [59] = false := hb
    rw [sees_eq hs' hl'] at hb' he
    simp only [step]
    rw [show isS t [59] = false from hb', show isS t [44] = false by simpa [isS] using he]
    rfl
theorem pairs_adv (E : Nat) (f : Fl) (m : Ms) (s : S) (h : s.map2 = true) : AdvN { pc := .it, f := f, m := m } s (pairsF E s m).1 { pc := .it, f := f, m := (pairsF E s m).2 } := by
  simp only [S.map2, Bool.and_eq_true, decide_eq_true_eq] at h
  obtain ⟨⟨⟨h1, h2⟩, h3⟩, h4⟩ := h
  refine AdvN.trans (AdvN.seen (c' := { pc := .mp, f := f, m := m, d := ⟨wMap, [], false, 0, [], 0, s.place 0⟩ }) h1 (fun t h1 h2 h3 => ?_)) ?_
  · simp [step, isS, isW, h1, h2, h3, wReserved, wRepeated, wOneof, wMap]
  obtain ⟨g1, t, l, g2, g3, g4⟩ := sees_l h1
  have e1 : s.eat (s.sees 0 wMap) = ⟨l, false⟩ := by rw [h1, eat_ok g1 g2]
  rw [g2] at h2 h3 h4
  simp only [List.tail_cons] at h3 h4
  have hs2 : (s.eat (s.sees 0 wMap)).sees 3 [60] = true := by
    rw [e1]
    cases l with
    | nil => simp at h2
    | cons t2 l2 =>
      rw [sees_eq rfl rfl, Bool.and_eq_true]
      exact ⟨h3, h4⟩
  refine Adv.trans (Adv.seen (c' := { pc := .key, f := f, m := m, d := ⟨[], [], false, 0, [], 0, s.place 0⟩ }) hs2 (fun t k1 k2 _ => ?_)) ?_
  · simp [step, isS, k1, k2]
  refine Adv.trans (Adv.name (g := fun x => { pc := .comma, f := f, m := m, d := ⟨[], x, false, 0, [], 0, s.place 0⟩ }) (by simp) (fun t => rfl) _) ?_
  refine Adv.trans (Adv.sign (c' := { pc := .vty, f := f, m := m, d := ⟨[], (mapS1 s).nameT, false, 0, [], 0, s.place 0⟩ }) [44] (by simp) (fun t => rfl) _) ?_
  refine Adv.trans (Adv.name (g := fun x => { pc := .gt, f := f, m := m, d := ⟨x, (mapS1 s).nameT, false, 0, [], 0, s.place 0⟩ }) (by simp) (fun t => rfl) _) ?_
  refine Adv.trans (Adv.sign (c' := { pc := .nm, f := f, m := m, d := ⟨(mapS2 s).nameT, (mapS1 s).nameT, false, 0, [], 0, s.place 0⟩ }) [62] (by simp) (fun t => rfl) _) ?_
  have := nbd_adv f m ⟨(mapS2 s).nameT, (mapS1 s).nameT, false, 0, [], 0, s.place 0⟩ false (mapS3 s)
  have e : s.place E = s.place 0 := place_ne (sees_ne h1).2 _ _
  simp only [pairsF, e]
  exact this
theorem single_adv (E : Nat) (f : Fl) (m : Ms) (s : S) (h : s.inside = true) (n1 : ¬ s.sees 0 wRepeated = true) (n2 : ¬ s.sees 0 wOneof = true) (n3 : ¬ s.sees 0 wReserved = true) (n4 : ¬ s.map2 = true) :
    AdvN { pc := .it, f := f, m := m } s (singleF E s m).1 { pc := .it, f := f, m := (singleF E s m).2 } := by
  have hs := inside_st h
  have hq : s.sees 3 [125] = false := by simp only [S.inside, hs] at h; simpa using h
  cases hl : s.l with
  | nil =>
    have e : s.name = ⟨s.l, true⟩ := by simp [S.name, S.is, hs, hl, S.eat]
    exact (AdvN.no (c := { pc := .it, f := f, m := m }) (s := s) (c' := { pc := .it, f := f, m := m }) (by simp) (fun t l h => by rw [hl] at h; cases h)).stuck rfl (fun _ => by simp only [singleF]; rw [S.fldS, e, stuck_nbd rfl])
  | cons t l =>
    rw [sees_eq hs hl] at hq n1 n2 n3
    have hq' : isS t [125] = false := hq
    have n1' : isW t wRepeated = false := Bool.not_eq_true _ ▸ n1
    have n2' : isW t wOneof = false := Bool.not_eq_true _ ▸ n2
    have n3' : isW t wReserved = false := Bool.not_eq_true _ ▸ n3
    have hp : s.place E = t.at_ := by simp [S.place, hl]
    cases hk : isN t with
    | false =>
      have hk' : s.is 0 = false := by rw [is_eq hs hl]; exact hk
      have e : s.name = ⟨s.l, true⟩ := by rw [S.name, hk', eat_no]
      have hw : ∀ x, isW t x = false := fun x => by simp only [isW, isN] at hk ⊢; simp [hk]
      refine (AdvN.no (c := { pc := .it, f := f, m := m }) (s := s) (c' := { pc := .it, f := f, m := m }) (by simp) (fun t' l' h => ?_)).stuck rfl (fun _ => by simp only [singleF]; rw [S.fldS, e, stuck_nbd rfl])
      rw [hl] at h
      cases h
      simp [step, hq', hw, hk]
    | true =>
      have hk' : s.is 0 = true := by rw [is_eq hs hl]; exact hk
      have e : s.name = ⟨l, false⟩ := by rw [S.name, hk', eat_ok hs hl]
      have hx : s.nameT = t.text := by simp [S.nameT, hk', hl]
      cases hm : isW t wMap with
      | false =>
        have h1 : AdvN { pc := .it, f := f, m := m } s s.name { pc := .nm, f := f, m := m, d := ⟨t.text, [], false, 0, [], 0, t.at_⟩ } := by
          rw [e]
          refine AdvN.one hs hl ?_
          simp [step, hq', n1', n2', n3', hm, hk]
        have h2 := h1.trans (nbd_adv f m _ false s.name)
        simp only [Bool.false_eq_true, if_false] at h2
        simp only [singleF]
        unfold S.fldS S.fld
        rw [hx, hp]
        exact h2
      | true =>
        have hmt : t.text = wMap := by simp only [isW, Bool.and_eq_true] at hm; simpa using hm.2
        have h1 : AdvN { pc := .it, f := f, m := m } s s.name { pc := .mp, f := f, m := m, d := ⟨wMap, [], false, 0, [], 0, t.at_⟩ } := by
          rw [e]
          refine AdvN.one hs hl ?_
          simp [step, hq', n1', n2', n3', hm]
        have hm2 : ∀ t2 l2, l = t2 :: l2 → isS t2 [60] = false := by
          intro t2 l2 hl2
          subst hl2
          have : s.sees 0 wMap = true := by rw [sees_eq hs hl]; exact hm
          simp only [S.map2, this, hl, Bool.true_and] at n4
          simpa [isS] using n4
        have h2 : Adv { pc := .mp, f := f, m := m, d := ⟨wMap, [], false, 0, [], 0, t.at_⟩ } s.name s.name.name { pc := .eq, f := f, m := m, d := ⟨wMap, [], false, 0, s.name.nameT, 0, t.at_⟩ } := by
          refine Adv.eat (by simp) (fun hb => (is_l hb).1) (fun hb => ?_) (fun hs2 hb t2 l2 hl2 => ?_)
          · obtain ⟨k1, t2, l2, k2, k3⟩ := is_l hb
            refine ⟨t2, l2, k2, ?_⟩
            have h6 := hm2 t2 l2 (by rw [e] at k2; exact k2)
            have h7 : s.name.nameT = t2.text := by rw [S.nameT, hb, k2]; rfl
            simp [step, h6, isN, k3, h7]
          · have h6 := hm2 t2 l2 (by rw [e] at hl2; exact hl2)
            rw [is_eq hs2 hl2] at hb
            have hb' : isN t2 = false := hb
            simp [step, h6, hb']
        have h3 := h1.trans h2
        have h4 := h3.trans (Adv.sign (c' := { pc := .no, f := f, m := m, d := ⟨wMap, [], false, 0, s.name.nameT, 0, t.at_⟩ }) [61] (by simp) (fun t => rfl) _)
        have h5 := h4.trans (Adv.num (g := fun n => { pc := .semi, f := f, m := m, d := ⟨wMap, [], false, 0, s.name.nameT, n, t.at_⟩ }) (by simp) (fun t => rfl) _)
        have h6 := h5.trans (Adv.sign (c' := { pc := .it, f := f, m := m.add ⟨wMap, [], false, 0, s.name.nameT, s.name.nbdNo, t.at_⟩ }) [59] (by simp) (fun t => rfl) _)
        simp only [singleF]
        unfold S.fldS S.fld
        rw [hx, hp, hmt]
        exact h6
theorem item_adv (E : Nat) (f : Fl) (m : Ms) (s : S) (h : s.inside = true) : AdvN { pc := .it, f := f, m := m } s (itemF E s m).1 { pc := .it, f := f, m := (itemF E s m).2 } := by
  unfold itemF
  split
  · exact rep_adv E f m s ‹_›
  · split
    · exact oneof_adv E f m s ‹_›
    · split
      · exact reserved_adv f m s ‹_›
      · split
        · exact pairs_adv E f m s ‹_›
        · exact single_adv E f m s h ‹_› ‹_› ‹_› ‹_›
theorem itemsF_adv (E : Nat) (f : Fl) (s : S) (m : Ms) : Adv { pc := .it, f := f, m := m } s (itemsF E s m).1 { pc := .it, f := f, m := (itemsF E s m).2 } := by
  induction s, m using itemsF.induct E with
  | case1 s m h ih =>
    rw [itemsF, dif_pos h]
    exact ⟨fun hs => absurd hs (by rw [inside_st h]; decide), fun _ => (item_adv E f m s h).trans ih⟩
  | case2 s m h => rw [itemsF, dif_neg h]; exact Adv.refl _ _
theorem itemsF_end (E : Nat) (s : S) (m : Ms) : ¬ (itemsF E s m).1.inside = true := by
  induction s, m using itemsF.induct E with
  | case1 s m h ih => rw [itemsF, dif_pos h]; exact ih
  | case2 s m h => rw [itemsF, dif_neg h]; exact h
theorem message_adv (E : Nat) (f : Fl) (s : S) (h : s.goes = true) (h2 : ¬ s.sees 0 wEnum = true) : AdvN { pc := .top, f := f } s (messageF E s).1 { pc := .top, f := f.addM (messageF E s).2 } := by
  have hs := goes_st h
  cases hl : s.l with
  | nil => simp [S.goes, hl] at h
  | cons t l =>
    have hp : s.place E = t.at_ := by simp [S.place, hl]
    rw [sees_eq hs hl] at h2
    have h2' : isW t wEnum = false := Bool.not_eq_true _ ▸ h2
    cases hk : isW t wMessage with
    | false =>
      have e : s.word wMessage = ⟨s.l, true⟩ := by rw [S.word, sees_eq hs hl, show (t.kind == 0 && t.text == wMessage) = false from hk, eat_no]
      have e2 : msgS s = ⟨s.l, true⟩ := by rw [msgS, e, stuck_name rfl, stuck_sign rfl]
      have e3 : (messageF E s).1 = ⟨s.l, true⟩ := by
        simp only [messageF, e2]
        rw [itemsF, dif_neg (by simp [S.inside])]
        exact stuck_sign rfl _
      rw [e3]
      right
      refine ⟨rfl, ?_, fun hq => ?_⟩
      · rw [hl, run_none (by simp [step, h2', hk])]
      · simp only at hq; rw [hl] at hq; cases hq
    | true =>
      have e : s.word wMessage = ⟨l, false⟩ := by rw [S.word, sees_eq hs hl, show (t.kind == 0 && t.text == wMessage) = true from hk, eat_ok hs hl]
      have h1 : AdvN { pc := .top, f := f } s (s.word wMessage) { pc := .m1, f := f, m := ⟨[], [], [], [], t.at_⟩ } := by
        rw [e]
        exact AdvN.one hs hl (by simp [step, h2', hk])
      have h3 := h1.trans (Adv.name (g := fun x => { pc := .m2, f := f, m := ⟨x, [], [], [], t.at_⟩ }) (by simp) (fun t => rfl) _)
      have h4 := h3.trans (Adv.sign (c' := { pc := .it, f := f, m := msgM E s }) [123] (by simp) (fun t => by simp [step, msgM, hp]) _)
      have h5 := h4.trans (itemsF_adv E f _ _)
      exact h5.trans (Adv.close (itemsF_end E _ _) (fun t ht => by simp [step, ht]; rfl))

/-! ### Enums -/

theorem val_adv (E : Nat) (f : Fl) (e : En) (s : S) (h : s.inside = true) : AdvN { pc := .ei, f := f, e := e } s s.nbd { pc := .ei, f := f, e := { e with V := e.V ++ [⟨s.nameT, s.nbdNo, s.place E⟩] } } := by
  have hs := inside_st h
  have hq : s.sees 3 [125] = false := by simp only [S.inside, hs] at h; simpa using h
  have hr : ∀ (x : List UInt8) (p : Nat) (s1 : S), Adv { pc := .v1, f := f, e := e, v := ⟨x, 0, p⟩ } s1 (((s1.sign [61]).num).sign [59]) { pc := .ei, f := f, e := { e with V := e.V ++ [⟨x, (s1.sign [61]).numV, p⟩] } } := fun x p s1 =>
    Adv.trans (Adv.sign (c' := { pc := .v2, f := f, e := e, v := ⟨x, 0, p⟩ }) [61] (by simp) (fun t => rfl) _)
      (Adv.trans (Adv.num (g := fun n => { pc := .v3, f := f, e := e, v := ⟨x, n, p⟩ }) (by simp) (fun t => rfl) _) (Adv.sign [59] (by simp) (fun t => rfl) _))
  cases hl : s.l with
  | nil =>
    have e1 : s.name = ⟨s.l, true⟩ := by simp [S.name, S.is, hs, hl, S.eat]
    exact (AdvN.no (c := { pc := .ei, f := f, e := e }) (s := s) (c' := { pc := .ei, f := f, e := e }) (by simp) (fun t l h => by rw [hl] at h; cases h)).stuck rfl (fun _ => by rw [S.nbd, e1, stuck_sign rfl, stuck_num rfl, stuck_sign rfl])
  | cons t l =>
    rw [sees_eq hs hl] at hq
    have hq' : isS t [125] = false := hq
    have hp : s.place E = t.at_ := by simp [S.place, hl]
    cases hk : isN t with
    | true =>
      have hk' : s.is 0 = true := by rw [is_eq hs hl]; exact hk
      have e1 : s.name = ⟨l, false⟩ := by rw [S.name, hk', eat_ok hs hl]
      have hx : s.nameT = t.text := by simp [S.nameT, hk', hl]
      have h1 : AdvN { pc := .ei, f := f, e := e } s s.name { pc := .v1, f := f, e := e, v := ⟨t.text, 0, t.at_⟩ } := by
        rw [e1]
        exact AdvN.one hs hl (by simp [step, hq', hk])
      have h2 := h1.trans (hr _ _ _)
      rw [hp, hx]
      exact h2
    | false =>
      have hk' : s.is 0 = false := by rw [is_eq hs hl]; exact hk
      have e1 : s.name = ⟨s.l, true⟩ := by rw [S.name, hk', eat_no]
      refine (AdvN.no (c := { pc := .ei, f := f, e := e }) (s := s) (c' := { pc := .ei, f := f, e := e }) (by simp) (fun t' l' h => ?_)).stuck rfl (fun _ => by rw [S.nbd, e1, stuck_sign rfl, stuck_num rfl, stuck_sign rfl])
      rw [hl] at h
      cases h
      simp [step, hq', hk]
theorem valsF_adv (E : Nat) (f : Fl) (s : S) (e : En) : Adv { pc := .ei, f := f, e := e } s (valsF E s e).1 { pc := .ei, f := f, e := (valsF E s e).2 } := by
  induction s, e using valsF.induct E with
  | case1 s m h ih =>
    rw [valsF, dif_pos h]
    exact ⟨fun hs => absurd hs (by rw [inside_st h]; decide), fun _ => (val_adv E f m s h).trans ih⟩
  | case2 s m h => rw [valsF, dif_neg h]; exact Adv.refl _ _
theorem valsF_end (E : Nat) (s : S) (m : En) : ¬ (valsF E s m).1.inside = true := by
  induction s, m using valsF.induct E with
  | case1 s m h ih => rw [valsF, dif_pos h]; exact ih
  | case2 s m h => rw [valsF, dif_neg h]; exact h
theorem enum_adv (E : Nat) (f : Fl) (s : S) (h : s.sees 0 wEnum = true) : AdvN { pc := .top, f := f } s (enumF E s).1 { pc := .top, f := f.addE (enumF E s).2 } := by
  have hp : s.place E = s.place 0 := place_ne (sees_ne h).2 _ _
  have h1 : AdvN { pc := .top, f := f } s (s.word wEnum) { pc := .e1, f := f, e := ⟨[], [], s.place E⟩ } := AdvN.seen h (fun t h1 h2 h3 => by simp [step, isW, h1, h2, h3, hp])
  have h3 := h1.trans (Adv.name (g := fun x => { pc := .e2, f := f, e := ⟨x, [], s.place E⟩ }) (by simp) (fun t => rfl) _)
  have h4 := h3.trans (Adv.sign (c' := { pc := .ei, f := f, e := enE E s }) [123] (by simp) (fun t => rfl) _)
  have h5 := h4.trans (valsF_adv E f _ _)
  exact h5.trans (Adv.close (valsF_end E _ _) (fun t ht => by simp [step, ht]; rfl))

/-! ### Files -/

theorem fileF_adv (E : Nat) (s : S) (f : Fl) : Adv { pc := .top, f := f } s (fileF E s f).1 { pc := .top, f := (fileF E s f).2 } := by
  induction s, f using fileF.induct E with
  | case1 s f h h2 ih =>
    rw [fileF, dif_pos h, if_pos h2]
    exact ⟨fun hs => absurd hs (by rw [goes_st h]; decide), fun _ => (enum_adv E f s h2).trans ih⟩
  | case2 s f h h2 ih =>
    rw [fileF, dif_pos h, if_neg h2]
    exact ⟨fun hs => absurd hs (by rw [goes_st h]; decide), fun _ => (message_adv E f s h h2).trans ih⟩
  | case3 s f h => rw [fileF, dif_neg h]; exact Adv.refl _ _
theorem fileF_end (E : Nat) (s : S) (f : Fl) : (fileF E s f).1.goes = false := by
  induction s, f using fileF.induct E with
  | case1 s f h h2 ih => rw [fileF, dif_pos h, if_pos h2]; exact ih
  | case2 s f h h2 ih => rw [fileF, dif_pos h, if_neg h2]; exact ih
  | case3 s f h => rw [fileF, dif_neg h]; simpa using h

/-! ### What the parser tells of tokens -/

def c0 : C := { pc := .top, f := ⟨[], []⟩ }
def okR (r : C × List T) : Bool := decide (r.1.pc = .top) && r.2.isEmpty
def endF (E : Nat) (l : List T) : S := (fileF E ⟨l, false⟩ ⟨[], []⟩).1
theorem file_run (E : Nat) (l : List T) : (endF E l).st = !okR (run c0 l) ∧ (endF E l).l = (run c0 l).2 ∧ (okR (run c0 l) = true → (fileF E ⟨l, false⟩ ⟨[], []⟩).2 = (run c0 l).1.f) := by
  have h := (fileF_adv E ⟨l, false⟩ ⟨[], []⟩).n rfl
  have he := fileF_end E ⟨l, false⟩ ⟨[], []⟩
  unfold endF
  rcases h with ⟨h1, h2⟩ | ⟨h1, h2, h3⟩
  · simp only [S.goes, h1, Bool.not_false, Bool.true_and, decide_eq_false_iff_not, Nat.not_lt, Nat.le_zero] at he
    have hl := List.eq_nil_of_length_eq_zero he
    rw [hl] at h2
    have h4 : run c0 l = ({ pc := .top, f := (fileF E ⟨l, false⟩ ⟨[], []⟩).2 }, []) := h2
    rw [h4, h1, hl]
    simp [okR]
  · have h4 : (run c0 l).2 = (fileF E ⟨l, false⟩ ⟨[], []⟩).1.l := h2
    have h5 : okR (run c0 l) = false := by
      cases hl : (fileF E ⟨l, false⟩ ⟨[], []⟩).1.l with
      | nil => have h6 : ¬ (run c0 l).1.pc = .top := h3 hl; simp only [okR]; rw [decide_eq_false h6]; rfl
      | cons t r => simp only [okR, h4, hl, List.isEmpty_cons, Bool.and_false]
    rw [h1, h5, h4]
    simp
end Go.Proofs.YtciiemomfniecaaGreatDoor
/-
  A string's token: the contract of the function that reads it.
-/
namespace Go.Proofs.YtciiemomfniecaaGreatDoor
set_option maxRecDepth 100000

open Go.RowKit

theorem str_at {l : List UInt8} {k : Nat} {c : UInt8} (h : l[k]? = some c) : strB 0 (l.drop k) = if c == 34 then some ([], 1) else match meant (l.drop k) with | none => none | some x => (strB 0 (l.drop (k + x.2 + 1))).map fun y => (x.1 :: y.1, y.2 + x.2 + 1) := by
  rw [ws_at h]
  simp only [strB]
  cases hm : meant (c :: l.drop (k + 1)) with
  | none => rfl
  | some x =>
    obtain ⟨b, j⟩ := x
    simp only
    rw [strB_skip j, List.drop_drop, show k + 1 + j = k + j + 1 by omega]
    cases strB 0 (l.drop (k + j + 1)) <;> rfl
theorem str_end {l : List UInt8} {k : Nat} (h : l.length ≤ k) : strB 0 (l.drop k) = none := by
  rw [List.drop_of_length_le h]; rfl
/-- What has been read so far of a string. -/
def StrRel (L : List UInt8) (p k : Nat) (pre : List UInt8) : Prop := strB 0 (L.drop (p + 1)) = (strB 0 (L.drop k)).map fun x => (pre ++ x.1, x.2 + (k - (p + 1)))
theorem StrRel.next {L : List UInt8} {p k j : Nat} {pre : List UInt8} {b : UInt8} (h : StrRel L p k pre) (hk : p < k) (hs : strB 0 (L.drop k) = (strB 0 (L.drop (k + j + 1))).map fun y => (b :: y.1, y.2 + j + 1)) : StrRel L p (k + j + 1) (pre ++ [b]) := by
  unfold StrRel at *
  rw [h, hs]
  cases strB 0 (L.drop (k + j + 1)) with
  | none => rfl
  | some x => simp; omega
theorem StrRel.stop {L : List UInt8} {p k : Nat} {pre : List UInt8} (h : StrRel L p k pre) (hs : strB 0 (L.drop k) = none) : strT (L.drop (p + 1)) = none := by
  unfold StrRel at h
  unfold strT
  rw [h, hs]; rfl
theorem StrRel.done {L : List UInt8} {p k : Nat} {pre : List UInt8} (h : StrRel L p k pre) (hk : p < k) (hs : strB 0 (L.drop k) = some ([], 1)) : strT (L.drop (p + 1)) = some ⟨2, pre, 0, k - p⟩ := by
  unfold StrRel at h
  unfold strT
  rw [h, hs]
  simp; omega
theorem ret_tok {o : Option Tk} {t : Tk} {p : Nat} {x y z : Value} (h : o = some t) (hx : x = TokV t.kind (txt t.text) t.num p) (hy : y = .int .i64 ((p + t.more + 1 : Nat) : Int)) (hz : z = .bool true) : Ending.returned (.tuple #[x, y, z]) = .returned (SV o p) := by
  subst h hx hy hz; rfl
theorem ret_notok {o : Option Tk} {p : Nat} (h : o = none) : Ending.returned (.tuple #[.agg #[.int .i64 0, .string ⟨#[]⟩, .int .i64 0, .int .i64 0], .int .i64 0, .bool false]) = .returned (SV o p) := by
  subst h; rfl

set_option maxRecDepth 1000000 in
set_option maxHeartbeats 1000000 in
theorem str_any (s : ByteArray) (hs : s.size ≤ 1000000) (p : Nat) (hp : p < s.size) (w : World) :
    Calls Tryz.prog 133 #[.string s, .int .i64 p] w fun e w' => e = .returned (SV (strT (s.data.toList.drop (p + 1))) p) ∧ Below w.heap.size w w' := by
  obtain ⟨i0, hi, hz0, hz1, hz2⟩ := info_parts info_u8
  have hsl : s.data.toList.length = s.size := by simp
  have hsg := at_list s
  have hmk := fun k hk w => meant_any s hs k hk w
  generalize s.data.toList = L at *
  have HSL := Lib.hid hsl
  have HSG := Lib.hid hsg
  have HMK := Lib.hid hmk
  clear hsl hsg hmk
  go_enter Tryz.func133, Tryz.ntmps133
  go_wp2_with fail
  go_loopw [7, 8] (fun v i wr => ∃ (k : Nat) (pre : List UInt8), i = .int .i64 k ∧ p < k ∧ k ≤ s.size ∧ pre.length ≤ k ∧ wr.ownsRow (w.heap.size + 1) 5 1 v pre.length (bs pre) ∧ StrRel L p k pre ∧ wr.heap[w.heap.size]? = some (.cells #[.int .i64 0, .string ⟨#[]⟩, .int .i64 0, .int .i64 0] 155 (0, 0)) ∧ w.heap.size + 1 ≤ wr.heap.size ∧ Below w.heap.size w wr) (fun _ i _ => s.size - (intOf i).toNat)
  case atStart => exact ⟨p + 1, [], by simp, by omega, by omega, by simp, World.ownsRow_nil _ _ _ _, by unfold StrRel; cases strB 0 (L.drop (p + 1)) <;> simp, heap_alloc_new _ _, by simp, below_new _ _⟩
  case round =>
    obtain ⟨k, pre, rfl, hpk, hk, hpl, hown, hrel, hbox, hsz, hb⟩ := hrel
    have HR := Lib.hid hrel
    clear hrel
    by_cases h1 : k < s.size
    · have HX := Lib.hid (HSG.out k h1)
      have hat := str_at HX.out
      have e34 : ((s[k].toNat : Int) == 34) = (s[k] == 34) := u8_eq s[k] 34 (by decide)
      rw [← e34] at hat
      clear e34
      cases b1 : ((s[k].toNat : Int) == 34)
      · rw [b1] at hat
        simp only [Bool.false_eq_true, if_false] at hat
        have hm2 := fun x (h : meant (L.drop k) = some x) => meant_more (l := L.drop k) (b := x.1) (k := x.2) h
        have hmk := HMK.out k h1
        have hdl : (L.drop k).length = s.size - k := by rw [List.length_drop, HSL.out]
        rw [hdl] at hm2
        generalize hO : meant (L.drop k) = O at *
        clear hO hdl
        cases O with
        | none =>
          have HT := Lib.hid (HR.out.stop hat)
          clear hat hm2
          go_wp2_with fail
          refine (hmk _).mono ?_
          unfold MV
          rintro e w2 ⟨rfl, hb2⟩
          have hbox2 := (hb2.block w.heap.size (by omega)).trans hbox
          clear hbox hown
          have hb3 := below_then hb hb2
          go_wp2_with (refine wpList_store_tok rfl _ _ rfl rfl w.heap.size _ _ _ _ _ _ _ _ rfl rfl _ hbox2 ?_)
          refine bodyPost_ret (results_tok rfl _ _ w.heap.size _ _ _ _ _ (0, 0) rfl (setRow_heap _ _ _ _ _ _ hbox2)) rfl ?_
          exact ⟨ret_notok HT.out, below_setRow hb3 (Nat.le_refl _) _⟩
        | some x =>
          obtain ⟨b, j⟩ := x
          have hj := hm2 _ rfl
          simp only at hj hat
          have HN := Lib.hid (HR.out.next hpk hat)
          clear hat hm2
          go_wp2_with fail
          refine (hmk _).mono ?_
          unfold MV
          rintro e w2 ⟨rfl, hb2⟩
          have hbox2 := (hb2.block w.heap.size (by omega)).trans hbox
          have hown2 := own_below hown hb2
          have hsz2 := hb2.size
          have hb3 := below_then hb hb2
          clear hbox hown
          have E1 := Lib.hid (bs_snoc pre b)
          have E2 : Hid (pre.length + 1 = (pre ++ [b]).length) := Lib.hid (by simp)
          go_wp2_with (at_builtin; refine wpList_app1 rfl _ _ 106 rfl (w.heap.size + 1) 5 i0 (.int .u8 0) 1 Tryz.underlying106 hi hz0 hz1 hz2 rfl _ pre.length (bs pre) rfl (hown2.alloc _) w2.heap.size 1 _ rfl (World.cell?_alloc_at _ _ _ _ rfl) rfl (by unfold maxLen; omega) (by omega) (by simp; omega) ?_; intro v3 w3 hown3 hg3)
          have hz3 := hg3.size
          have hbox3 := box_grown ((Below.heap_alloc w2 (Obj.cells #[Value.int .u8 (b.toNat : Int)] 5) w.heap.size (by omega)).trans hbox2) hg3 (own_ge hown2) (by omega)
          have hb4 : Below w.heap.size w w3 := (below_lit hb3 _).grown hg3 (by simp; omega) (fun q hq => by have := own_ge hown2 q hq; omega)
          refine ⟨⟨k + j + 1, pre ++ [b], by go_num, by omega, by omega, by simp; omega, ?_, HN.out, hbox3, by simp at hz3; omega, hb4⟩, by simp [intOf]; omega⟩
          rw [← E1.out, ← E2.out]
          exact hown3
      · rw [b1] at hat
        simp only [if_true] at hat
        have HT := Lib.hid (HR.out.done hpk hat)
        obtain ⟨A, c, rfl, hr⟩ := SlB.of_own hown
        have hcv := run_str_of_bytes (P := Tryz.prog) wr 106 9 5 Tryz.underlying106 Tryz.underlying5 Tryz.underlying9 A c pre hr
        obtain ⟨X, hX⟩ : ∃ X, X = txt pre := ⟨_, rfl⟩
        rw [← hX] at hcv
        have HXX := Lib.hid hX
        clear hat hX hr hown
        go_wp2_with (refine wpList_store_tok rfl _ _ rfl rfl w.heap.size _ _ _ _ _ _ _ _ rfl rfl _ hbox ?_)
        refine bodyPost_ret (results_tok rfl _ _ w.heap.size _ _ _ _ _ (0, 0) rfl (setRow_heap _ _ _ _ _ _ hbox)) rfl ?_
        exact ⟨ret_tok HT.out (by rw [← HXX.out]; rfl) (congrArg (Value.int .i64) (by simp; omega)) rfl, below_setRow hb (Nat.le_refl _) _⟩
    · have HT := Lib.hid (HR.out.stop (str_end (by rw [HSL.out]; omega)))
      clear hown
      go_wp2_with (refine wpList_store_tok rfl _ _ rfl rfl w.heap.size _ _ _ _ _ _ _ _ rfl rfl _ hbox ?_)
      refine bodyPost_ret (results_tok rfl _ _ w.heap.size _ _ _ _ _ (0, 0) rfl (setRow_heap _ _ _ _ _ _ hbox)) rfl ?_
      exact ⟨ret_notok HT.out, below_setRow hb (Nat.le_refl _) _⟩
end Go.Proofs.YtciiemomfniecaaGreatDoor
/-
  Names, numbers and signs: the contracts of the functions that read one.
-/
namespace Go.Proofs.YtciiemomfniecaaGreatDoor
set_option maxRecDepth 100000

open Go.RowKit

theorem part_list (s : ByteArray) (a b : Nat) : (s.extract a b).data.toList = (s.data.toList.drop a).take (b - a) := Lib.extract_data s a b
set_option maxRecDepth 1000000 in
theorem tok_any (s : ByteArray) (hs : s.size ≤ 1000000) (kind p q : Nat) (hpq : p ≤ q) (hq : q ≤ s.size) (T : List UInt8) (hT : (s.data.toList.drop p).take (q - p) = T) (w : World) :
    Calls Tryz.prog 164 #[.string s, .int .i64 kind, .int .i64 p, .int .i64 q] w fun e w' => e = .returned (TokV kind (txt T) 0 p) ∧ Below w.heap.size w w' := by
  subst hT
  have hx : s.extract p q = txt ((s.data.toList.drop p).take (q - p)) := by rw [← part_list, txt_of]
  have hxs : (s.extract p q).size ≤ 1000000 := by simp; omega
  obtain ⟨X, hX⟩ : ∃ X, X = s.extract p q := ⟨_, rfl⟩
  rw [← hx, ← hX]
  rw [← hX] at hxs
  have hX' := hX.symm
  clear hx hX
  go_enter Tryz.func164, Tryz.ntmps164
  go_wp2_with fail
  refine (clone_any X (by omega) _).mono ?_
  rintro e w1 ⟨rfl, hb1⟩
  have hg1 := hb1.block w.heap.size (by simp)
  rw [heap_alloc_new] at hg1
  go_wp2_with (refine wpList_store_tok rfl _ _ rfl rfl w.heap.size _ _ _ _ _ _ _ _ rfl rfl _ hg1 ?_)
  refine bodyPost_ret (v := TokV kind X 0 p) ?_ rfl ⟨rfl, below_setRow (below_then (below_new _ _) hb1) (Nat.le_refl _) _⟩
  exact results_cell_row rfl _ _ w.heap.size 155 _ (0, 0) _ rfl (setRow_heap _ _ _ _ _ _ hg1) Tryz.underlying155 rfl infoTok

def nextS : ByteArray := ⟨#[65, 66, 67, 68, 69, 70, 71, 72, 73, 74, 75, 76, 77, 78, 79, 80, 81, 82, 83, 84, 85, 86, 87, 88, 89, 90, 97, 98, 99, 100, 101, 102, 103, 104, 105, 106, 107, 108, 109, 110, 111, 112, 113, 114, 115, 116, 117, 118, 119, 120, 121, 122, 95, 48, 49, 50, 51, 52, 53, 54, 55, 56, 57]⟩
theorem next_set (c : UInt8) : decide (0 ≤ Lib.indexByte nextS.data.toList c) = isNext c := by
  have h : ∀ k : Fin 256, decide (0 ≤ Lib.indexByte nextS.data.toList (UInt8.ofNat k.val)) = isNext (UInt8.ofNat k.val) := by decide +kernel
  have := h ⟨c.toNat, c.toNat_lt⟩
  simpa using this
theorem digit_set (c : UInt8) : decide (0 ≤ Lib.indexByte tenS.data.toList c) = isDigit c := by
  have h : ∀ k : Fin 256, decide (0 ≤ Lib.indexByte tenS.data.toList (UInt8.ofNat k.val)) = isDigit (UInt8.ofNat k.val) := by decide +kernel
  have := h ⟨c.toNat, c.toNat_lt⟩
  simpa using this
theorem drop_cons {l : List UInt8} {p : Nat} {c : UInt8} (h : l[p]? = some c) : l.drop p = c :: l.drop (p + 1) := ws_at h

set_option maxRecDepth 1000000 in
theorem name_any (s : ByteArray) (hs : s.size ≤ 1000000) (p : Nat) (c : UInt8) (hc : s.data.toList[p]? = some c) (hf : isFirst c = true) (w : World) :
    Calls Tryz.prog 135 #[.string s, .int .i64 p] w fun e w' => e = .returned (SV (tk Lib.itoa (s.data.toList.drop p)) p) ∧ Below w.heap.size w w' := by
  have hsl : s.data.toList.length = s.size := by simp
  have hp : p < s.size := by have := (List.getElem?_eq_some_iff.1 hc).1; omega
  have hd := drop_cons hc
  have hn : isNext c = true := by simp [isNext, hf]
  have hsp : span isNext (s.data.toList.drop p) = span isNext (s.data.toList.drop (p + 1)) + 1 := by rw [hd]; simp [span, hn]
  have hle := span_le isNext (s.data.toList.drop (p + 1))
  rw [List.length_drop, hsl] at hle
  have ht : tk Lib.itoa (s.data.toList.drop p) = some ⟨0, c :: (s.data.toList.drop (p + 1)).take (span isNext (s.data.toList.drop (p + 1))), 0, span isNext (s.data.toList.drop (p + 1))⟩ := by rw [hd]; simp [tk, hf]
  have hb := fun w => behind_any s hs p (by omega) nextS isNext next_set w
  rw [hsp] at hb
  have htk := fun (q : Nat) (h1 : p ≤ q) (h2 : q ≤ s.size) (T : List UInt8) (hT : (s.data.toList.drop p).take (q - p) = T) w => tok_any s hs 0 p q h1 h2 T hT w
  have hT : (s.data.toList.drop p).take (p + (span isNext (s.data.toList.drop (p + 1)) + 1) - p) = c :: (s.data.toList.drop (p + 1)).take (span isNext (s.data.toList.drop (p + 1))) := by
    rw [show p + (span isNext (s.data.toList.drop (p + 1)) + 1) - p = span isNext (s.data.toList.drop (p + 1)) + 1 by omega, hd, List.take_succ_cons]
  rw [ht]
  have htk2 := htk _ (by omega) (by omega) _ hT
  generalize (c :: (s.data.toList.drop (p + 1)).take (span isNext (s.data.toList.drop (p + 1)))) = T at *
  generalize span isNext (s.data.toList.drop (p + 1)) = m at *
  have HB := Lib.hid hb
  have HT := Lib.hid htk2
  have hq : p + (m + 1) ≤ s.size := by omega
  clear hb htk htk2 hT ht hsp hle hd hc hsl
  generalize hqq : p + (m + 1) = q at *
  have HE := Lib.hid hqq
  clear hqq
  go_enter Tryz.func135, Tryz.ntmps135
  go_wp2_with fail
  refine (HB.out _).mono ?_
  rintro e w1 ⟨rfl, rfl⟩
  go_wp2_with fail
  refine (HT.out _).mono ?_
  unfold TokV
  rintro e w2 ⟨rfl, hb2⟩
  have hg2 := hb2.block w.heap.size (by simp)
  rw [heap_alloc_new] at hg2
  go_wp2_with (refine wpList_store_tok rfl _ _ rfl rfl w.heap.size _ _ _ _ _ _ _ _ rfl rfl _ hg2 ?_)
  refine bodyPost_ret (results_tok rfl _ _ w.heap.size _ _ _ _ _ (0, 0) rfl (setRow_heap _ _ _ _ _ _ hg2)) rfl ?_
  exact ⟨ret_tok rfl rfl (congrArg (Value.int .i64) (by have := HE.out; simp; omega)) rfl, below_setRow (below_then (below_new _ _) hb2) (Nat.le_refl _) _⟩

set_option maxRecDepth 1000000 in
theorem sign_any (s : ByteArray) (hs : s.size ≤ 1000000) (p : Nat) (c : UInt8) (hc : s.data.toList[p]? = some c) (ht : tk Lib.itoa (s.data.toList.drop p) = some ⟨3, [c], 0, 0⟩) (w : World) :
    Calls Tryz.prog 136 #[.string s, .int .i64 p] w fun e w' => e = .returned (SV (tk Lib.itoa (s.data.toList.drop p)) p) ∧ Below w.heap.size w w' := by
  have hsl : s.data.toList.length = s.size := by simp
  have hp : p < s.size := by have := (List.getElem?_eq_some_iff.1 hc).1; omega
  have hd := drop_cons hc
  have hT : (s.data.toList.drop p).take (p + 1 - p) = [c] := by rw [show p + 1 - p = 1 by omega, hd]; rfl
  have htk := tok_any s hs 3 p (p + 1) (by omega) (by omega) [c] hT
  rw [ht]
  simp only [Int.natCast_add, Int.cast_ofNat_Int] at htk
  have HT := Lib.hid htk
  clear htk hT ht hd hc hsl
  go_enter Tryz.func136, Tryz.ntmps136
  go_wp2_with fail
  refine (HT.out _).mono ?_
  unfold TokV
  rintro e w2 ⟨rfl, hb2⟩
  have hg2 := hb2.block w.heap.size (by simp)
  rw [heap_alloc_new] at hg2
  go_wp2_with (refine wpList_store_tok rfl _ _ rfl rfl w.heap.size _ _ _ _ _ _ _ _ rfl rfl _ hg2 ?_)
  refine bodyPost_ret (results_tok rfl _ _ w.heap.size _ _ _ _ _ (0, 0) rfl (setRow_heap _ _ _ _ _ _ hg2)) rfl ?_
  exact ⟨ret_tok rfl rfl (congrArg (Value.int .i64) (by simp)) rfl, below_setRow (below_then (below_new _ _) hb2) (Nat.le_refl _) _⟩

theorem num_none {l : List UInt8} {c : UInt8} {r T : List UInt8} (hd : l = c :: r) (hc : c = 45 ∨ isDigit c = true) (hT : T = c :: r.take (span isDigit r)) :
    tk Lib.itoa l = (numOf Lib.itoa T).map fun n => ⟨1, T, n, span isDigit r⟩ := by
  subst hd hT
  have h1 : isFirst c = false := by
    rcases hc with rfl | hc
    · rfl
    · simp only [isDigit, Bool.and_eq_true, decide_eq_true_eq] at hc
      have : c ≠ 95 := by intro e; subst e; simp at hc
      have h95 : (c == 95) = false := by simpa using this
      simp only [isFirst, h95, Bool.or_false, Bool.or_eq_false_iff, Bool.and_eq_false_iff, decide_eq_false_iff_not]
      omega
  have h2 : (isDigit c || c == 45) = true := by
    rcases hc with rfl | hc
    · simp
    · simp [hc]
  simp only [tk, h1, h2, if_true, Bool.false_eq_true, if_false]

set_option maxRecDepth 1000000 in
set_option maxHeartbeats 1000000 in
theorem num_any (s : ByteArray) (hs : s.size ≤ 1000000) (p : Nat) (c : UInt8) (hc : s.data.toList[p]? = some c) (hf : c = 45 ∨ isDigit c = true) (w : World) (LV : Laid w) :
    Calls Tryz.prog 134 #[.string s, .int .i64 p] w fun e w' => e = .returned (SV (tk Lib.itoa (s.data.toList.drop p)) p) ∧ Below w.heap.size w w' := by
  have hsl : s.data.toList.length = s.size := by simp
  have hp : p < s.size := by have := (List.getElem?_eq_some_iff.1 hc).1; omega
  have hd := drop_cons hc
  have hle := span_le isDigit (s.data.toList.drop (p + 1))
  rw [List.length_drop, hsl] at hle
  have ht := num_none hd hf rfl
  have hb : ∀ w, Calls Tryz.prog 137 #[.string s, .int .i64 ((p : Int) + 1), .string ⟨#[48, 49, 50, 51, 52, 53, 54, 55, 56, 57]⟩] w fun e w' => e = .returned (.int .i64 ((p + 1 + span isDigit (s.data.toList.drop (p + 1)) : Nat) : Int)) ∧ w = w' := fun w => behind_any s hs (p + 1) (by omega) tenS isDigit digit_set w
  have hT : (s.data.toList.drop p).take (p + 1 + span isDigit (s.data.toList.drop (p + 1)) - p) = c :: (s.data.toList.drop (p + 1)).take (span isDigit (s.data.toList.drop (p + 1))) := by
    rw [show p + 1 + span isDigit (s.data.toList.drop (p + 1)) - p = span isDigit (s.data.toList.drop (p + 1)) + 1 by omega, hd, List.take_succ_cons]
  have hnt : numText (c :: (s.data.toList.drop (p + 1)).take (span isDigit (s.data.toList.drop (p + 1)))) := ⟨c, _, rfl, hf, fun d hd => span_all isDigit _ d hd⟩
  have htk := tok_any s hs 1 p _ (by omega) (by omega) _ hT
  have htl : (c :: (s.data.toList.drop (p + 1)).take (span isDigit (s.data.toList.drop (p + 1)))).length ≤ 1000000 := by
    have := congrArg List.length hT
    rw [List.length_take, List.length_drop, hsl] at this
    omega
  rw [ht]
  obtain ⟨hcn1, hcn2⟩ := code_num hnt
  generalize (c :: (s.data.toList.drop (p + 1)).take (span isDigit (s.data.toList.drop (p + 1)))) = T at *
  generalize span isDigit (s.data.toList.drop (p + 1)) = m at *
  have HB := Lib.hid hb
  have HT := Lib.hid htk
  have hq : p + 1 + m ≤ s.size := by omega
  clear hb htk hT ht hle hd hc hsl hf hnt
  generalize hqq : p + 1 + m = q at *
  have HE := Lib.hid hqq
  clear hqq
  have hts : (txt T).size ≤ 1000000 := by rw [txt_size]; exact htl
  have htd : (txt T).data.toList = T := txt_list T
  obtain ⟨X, hX⟩ : ∃ X, X = txt T := ⟨_, rfl⟩
  rw [← hX] at hts htd HT
  have HX := Lib.hid hX
  clear hX
  by_cases hok : ∃ v, Lib.parseIntB 64 T = .ok v
  · obtain ⟨v, hv⟩ := hok
    have HNUM := Lib.hid (hcn1 v hv)
    have hvb := Lib.parseIntB_bounds hv
    have hv0 : -9223372036854775808 ≤ v := by simpa using hvb.1
    have hv1 : v ≤ 9223372036854775807 := by have := hvb.2; simp at this; omega
    have HP := Lib.hid (parse_ok X hts v (by rw [htd]; exact hv))
    clear hcn1 hcn2 hv hvb htd htl
    go_enter Tryz.func134, Tryz.ntmps134
    go_wp2_with fail
    refine (HB.out _).mono ?_
    rintro e w1 ⟨rfl, rfl⟩
    go_wp2_with fail
    refine (HT.out _).mono ?_
    unfold TokV
    rintro e w2 ⟨rfl, hb2⟩
    have hg2 := hb2.block w.heap.size (by simp)
    rw [heap_alloc_new] at hg2
    have hb3 := below_then (below_new _ _) hb2
    have hs3 : w.heap.size < w2.heap.size := by have := hb2.size; simp at this; omega
    go_wp2_with fail
    refine (HP.out _).mono ?_
    rintro e w4 ⟨rfl, hb4⟩
    have hg4 := (hb4.block w2.heap.size (by simp)).trans (heap_alloc_new w2 _)
    have hg0 := (hb4.block w.heap.size (by simp; omega)).trans ((Below.heap_alloc w2 _ w.heap.size hs3).trans hg2)
    have hb5 : Below w.heap.size w w4 := below_then (below_lit hb3 _) hb4
    have hs4 : w2.heap.size < w4.heap.size := (Array.getElem?_eq_some_iff.1 hg4).1
    have hc4 : w4.cell? ⟨w2.heap.size, 1, none⟩ = some (.string X) := by simp [World.cell?, hg4]
    have L4 : Laid w4.drew := (LV.on hb5).on (Below.refl _ _).drew
    obtain ⟨Y, hY⟩ : ∃ Y, Y = txt (Lib.itoa v) := ⟨_, rfl⟩
    have HY := Lib.hid hY
    have hdig := fun w (L : Laid w) => digits_any v hv0 hv1 w L
    rw [← hY] at hdig
    have HDG := Lib.hid hdig
    clear hdig hY
    go_wp2_with fail
    go_region_held3 (fun w' => w'.cell? ⟨w2.heap.size, 1, none⟩ = some (.string X))
      (first | go_keep | (rw [Below.cell hb6 (by show w2.heap.size < w4.heap.size; exact hs4)]; assumption))
      ((first
        | (go_at_call 112; refine (HDG.out _ L4).mono ?_; rintro e w6 ⟨rfl, hb6⟩)))
    have hb7 : Below w.heap.size w w6 := below_then (hb5.drew) hb6
    have hg6 := (hb6.block w2.heap.size hs4).trans hg4
    have hg60 := (hb6.block w.heap.size (by show w.heap.size < w4.heap.size; omega)).trans hg0
    have hfr : w6.frozen? ⟨w2.heap.size, 2, none⟩ = false := by simp [World.frozen?, hg6]
    have hd0 : w6.cell? ⟨w2.heap.size, 0, none⟩ = some (.int .i64 1) := by simp [World.cell?, hg6]
    have hd1 : w6.cell? ⟨w2.heap.size, 1, none⟩ = some (.string X) := by simp [World.cell?, hg6]
    have hd2 : w6.cell? ⟨w2.heap.size, 2, none⟩ = some (.int .i64 0) := by simp [World.cell?, hg6]
    have hd3 : w6.cell? ⟨w2.heap.size, 3, none⟩ = some (.int .i64 p) := by simp [World.cell?, hg6]
    by_cases he : Lib.itoa v = T
    · have hN := HNUM.out
      rw [if_pos he] at hN
      have HN := Lib.hid hN
      have bE : (!(Y.toList == X.toList)) = false := by rw [HY.out, HX.out, he]; simp
      rw [bE]
      clear hN he bE
      have hgS : (w6.setCell ⟨w2.heap.size, 2, none⟩ (.int .i64 v)).heap[w.heap.size]? = _ := (Below.heap_setCell w6 _ _ w.heap.size (by show w.heap.size ≠ w2.heap.size; omega)).trans hg60
      have hb8 : Below w.heap.size w (w6.setCell ⟨w2.heap.size, 2, none⟩ (.int .i64 v)) := hb7.setCell (by show w.heap.size ≤ w2.heap.size; omega) _
      go_wp2_with (refine wpList_store_tok rfl _ _ rfl rfl w.heap.size _ _ _ _ _ _ _ _ rfl rfl _ hgS ?_)
      refine bodyPost_ret (results_tok rfl _ _ w.heap.size _ _ _ _ _ (0, 0) rfl (setRow_heap _ _ _ _ _ _ hgS)) rfl ?_
      exact ⟨ret_tok (by rw [HN.out]; rfl) (by rw [HX.out]; rfl) (congrArg (Value.int .i64) (by have := HE.out; simp; omega)) rfl, below_setRow hb8 (Nat.le_refl _) _⟩
    · have hN := HNUM.out
      rw [if_neg he] at hN
      have HN := Lib.hid hN
      have bE : (!(Y.toList == X.toList)) = true := by
        rw [Bool.not_eq_true', beq_eq_false_iff_ne, HY.out, HX.out, Lib.toList_data, Lib.toList_data, txt_list, txt_list]
        exact he
      rw [bE]
      clear hN he bE
      go_wp2_with (refine wpList_store_tok rfl _ _ rfl rfl w.heap.size _ _ _ _ _ _ _ _ rfl rfl _ hg60 ?_)
      refine bodyPost_ret (results_tok rfl _ _ w.heap.size _ _ _ _ _ (0, 0) rfl (setRow_heap _ _ _ _ _ _ hg60)) rfl ?_
      exact ⟨ret_notok (by rw [HN.out]; rfl), below_setRow hb7 (Nat.le_refl _) _⟩
  · have hno : ∀ v, Lib.parseIntB 64 T ≠ .ok v := fun v hv => hok ⟨v, hv⟩
    have HN := Lib.hid (hcn2 hno)
    have hp2 := fun w (L : Laid w) => parse_not X hts (by rw [htd]; exact hno) w L
    have HP := Lib.hid hp2
    clear hcn1 hcn2 htd htl hp2 hok hno
    go_enter Tryz.func134, Tryz.ntmps134
    go_wp2_with fail
    refine (HB.out _).mono ?_
    rintro e w1 ⟨rfl, rfl⟩
    go_wp2_with fail
    refine (HT.out _).mono ?_
    unfold TokV
    rintro e w2 ⟨rfl, hb2⟩
    have hg2 := hb2.block w.heap.size (by simp)
    rw [heap_alloc_new] at hg2
    have hb3 := below_then (below_new _ _) hb2
    have hs3 : w.heap.size < w2.heap.size := by have := hb2.size; simp at this; omega
    go_wp2_with fail
    refine (HP.out _ ((LV.on hb3).on (below_new _ _))).mono ?_
    rintro e w4 ⟨v, tt, pp, rfl, hb4⟩
    have hg0 := (hb4.block w.heap.size (by simp; omega)).trans ((Below.heap_alloc w2 _ w.heap.size hs3).trans hg2)
    have hb5 : Below w.heap.size w w4 := below_then (below_lit hb3 _) hb4
    go_wp2_with fail
    go_quiet (fail)
    have hg0' : (w4.drewN nq).heap[w.heap.size]? = _ := hg0
    have hb6 : Below w.heap.size w (w4.drewN nq) := below_draws hb5 nq
    clear hb5 hg0
    go_wp2_with (refine wpList_store_tok rfl _ _ rfl rfl w.heap.size _ _ _ _ _ _ _ _ rfl rfl _ hg0' ?_)
    refine bodyPost_ret (results_tok rfl _ _ w.heap.size _ _ _ _ _ (0, 0) rfl (setRow_heap _ _ _ _ _ _ hg0')) rfl ?_
    exact ⟨ret_notok (by rw [HN.out]; rfl), below_setRow hb6 (Nat.le_refl _) _⟩
end Go.Proofs.YtciiemomfniecaaGreatDoor
