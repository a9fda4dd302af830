/-
  What a law that reads package-level variables needs beyond the rest: the given ties, and the condition on what is laid.
-/
import Derived.Test.YtjmcpfckcajnjaaGreatDoorCards
import Derived.Test.YtjmcpfckcajnjaaGreatDoorTie
import Derived.Test.YtjmcpfckcajnjaaGreatDoorTrSize
import Derived.Deep.DeepHandedRow
import Derived.Lib.LaidTab
import Derived.Lay
import Derived.MakeChecks
import Derived.Test.YtjmcpfckcajnjaaGreatDoorProBox
import Derived.Stop.LaidErr
import Derived.Deep.Strs
import Derived.Test.YtjmcpfckcajnjaaGreatDoorTyAwake
import Derived.Test.YtjmcpfckcajnjaaGreatDoorTyAsk
namespace Go.Proofs.YtjmcpfckcajnjaaGreatDoor
set_option maxRecDepth 100000

end Go.Proofs.YtjmcpfckcajnjaaGreatDoor
/-
  From what a row lists to what the contracts ask (where token's tables, strconv's errors and table's two tables are listed).
-/
namespace Go.Proofs.YtjmcpfckcajnjaaGreatDoor
set_option maxRecDepth 100000

open Go.RowKit

theorem arr_inv {H : Type} {enc : TypeId × Value → H} {P : Program} {w : World} {base : Nat} {sp : Nat → Bool} {held : Bool} {fuel : Nat} {t e : TypeId} {n : Nat} {cs : List Value} {ds : List (DataW H)} {p : List MemPlace}
    (ht : P.underlying t = some (.array n e)) (h : DataW.trod enc P w base sp held fuel t cs = some (.agg ds, p)) : cs.length = P.cellsOf t ∧ ∃ f, ∀ i d, i < n → ds[i]? = some d → ∃ q, DataW.trod enc P w base sp held f e ((cs.drop (i * P.cellsOf e)).take (P.cellsOf e)) = some (d, q) := by
  cases fuel with
  | zero => simp [DataW.trod] at h
  | succ fuel =>
    simp only [DataW.trod, ht] at h
    split at h
    · rename_i hl
      obtain ⟨xs, hm, hx⟩ := Option.map_eq_some_iff.1 h
      have hxs : xs.map (·.1) = ds := by
        have := congrArg Prod.fst hx
        simpa using this
      refine ⟨by simpa using hl, fuel, fun i d hi hd => ?_⟩
      obtain ⟨b, hb, hf⟩ := Lib.mapM_at hm i i (by simp [hi])
      rw [← hxs, List.getElem?_map, hb] at hd
      simp only [Option.map_some, Option.some.injEq] at hd
      subst hd
      exact ⟨b.2, hf⟩
    · cases h
section

variable {enc : TypeId × Value → Unit} {W : World} {n : Nat} {q : List MemPlace}

theorem elem_plain {cs : List Value} {x : List UInt8} {k : Int} (h : DataW.trod enc Tryz.prog W 0 (fun _ => true) false n 130 cs = some (.agg [.lit (.string x), .lit (.int .i64 k)], q)) : cs = [.string (txt x), .int .i64 k] := by
  obtain ⟨y0, y1, m, hx, hl, h0, h1⟩ := ChangeShapes.trod_struct2 Tryz.underlying130 h
  have k0 : Tryz.prog.cellsOf 130 = 2 := by kernel_rfl
  rw [k0] at hl
  obtain ⟨c0, c1, rfl⟩ : ∃ a b, cs = [a, b] := match cs, hl with | [a, b], _ => ⟨a, b, rfl⟩
  obtain ⟨s, e0, f0, -⟩ := DataW.trod_string Tryz.underlying9 h0
  obtain ⟨z, e1, f1, -⟩ := DataW.trod_int Tryz.underlying3 h1
  have k1 : Tryz.prog.cellsOf 9 = 1 := by kernel_rfl
  have k2 : Tryz.prog.cellsOf 3 = 1 := by kernel_rfl
  simp only [k1, k2] at e0 e1
  simp at e0 e1
  subst e0 e1 f0 f1
  simp only [Prod.mk.injEq, DataW.agg.injEq, List.cons.injEq, DataW.lit.injEq, Lit.string.injEq, Lit.int.injEq, and_true, true_and] at hx
  obtain ⟨⟨rfl, rfl⟩, -⟩ := hx
  rfl
theorem elem_stance {cs : List Value} {a b c : Bool} (h : DataW.trod enc Tryz.prog W 0 (fun _ => true) false n 186 cs = some (.agg [.lit (.bool a), .lit (.bool b), .lit (.bool c)], q)) : cs = [.bool a, .bool b, .bool c] := by
  obtain ⟨hl, m, hg⟩ := arr_inv Tryz.underlying186 h
  have k0 : Tryz.prog.cellsOf 186 = 3 := by kernel_rfl
  have k1 : Tryz.prog.cellsOf 4 = 1 := by kernel_rfl
  rw [k0] at hl
  rw [k1] at hg
  obtain ⟨c0, c1, c2, rfl⟩ : ∃ a b c, cs = [a, b, c] := match cs, hl with | [a, b, c], _ => ⟨a, b, c, rfl⟩
  obtain ⟨_, h0⟩ := hg 0 _ (by omega) rfl
  obtain ⟨_, h1⟩ := hg 1 _ (by omega) rfl
  obtain ⟨_, h2⟩ := hg 2 _ (by omega) rfl
  obtain ⟨s0, e0, f0⟩ := DataW.trod_bool Tryz.underlying4 h0
  obtain ⟨s1, e1, f1⟩ := DataW.trod_bool Tryz.underlying4 h1
  obtain ⟨s2, e2, f2⟩ := DataW.trod_bool Tryz.underlying4 h2
  simp at e0 e1 e2 f0 f1 f2
  obtain ⟨rfl, -⟩ := f0
  obtain ⟨rfl, -⟩ := f1
  obtain ⟨rfl, -⟩ := f2
  rw [e0, e1, e2]
end

theorem plains_of {W : World} {rest : List (String × DataW Unit)} (h : laidMet Tryz.prog (("truffle/table.plains", Rows.laid_truffle_table_plains) :: rest) W) : TabAt W 0 plainsC := by
  obtain ⟨ps, ⟨g', t', cs, fuel, p, q, hg', ht', hvar, hd, _, _⟩, _⟩ := h
  have hg : Tryz.prog.globalNamed "truffle/table.plains" = some 0 := by kernel_rfl
  have hty : (Tryz.prog.globals[0]?).map (·.type) = some 131 := by kernel_rfl
  obtain rfl := Option.some.inj (hg.symm.trans hg')
  obtain rfl := Option.some.inj (hty.symm.trans ht')
  refine TabAt.of_var hg ?_
  rw [hvar]
  obtain ⟨hl, m, hh⟩ := arr_inv (ds := [.agg [.lit (.string tInt64), .lit (.int .i64 0)], .agg [.lit (.string tSint64), .lit (.int .i64 1)], .agg [.lit (.string tUint32), .lit (.int .i64 2)], .agg [.lit (.string tBool), .lit (.int .i64 3)], .agg [.lit (.string tFixed32), .lit (.int .i64 4)], .agg [.lit (.string tSfixed64), .lit (.int .i64 5)], .agg [.lit (.string tString), .lit (.int .i64 7)], .agg [.lit (.string tBytes), .lit (.int .i64 8)]]) Tryz.underlying131 hd
  have k0 : Tryz.prog.cellsOf 131 = 16 := by kernel_rfl
  have k1 : Tryz.prog.cellsOf 130 = 2 := by kernel_rfl
  rw [k0] at hl
  rw [k1] at hh
  obtain ⟨cs⟩ := cs
  simp only at hl hh
  obtain ⟨c0, c1, c2, c3, c4, c5, c6, c7, c8, c9, c10, c11, c12, c13, c14, c15, rfl⟩ : ∃ a0 a1 a2 a3 a4 a5 a6 a7 a8 a9 a10 a11 a12 a13 a14 a15, cs = [a0, a1, a2, a3, a4, a5, a6, a7, a8, a9, a10, a11, a12, a13, a14, a15] := match cs, hl with | [a0, a1, a2, a3, a4, a5, a6, a7, a8, a9, a10, a11, a12, a13, a14, a15], _ => ⟨a0, a1, a2, a3, a4, a5, a6, a7, a8, a9, a10, a11, a12, a13, a14, a15, rfl⟩
  obtain ⟨_, h0⟩ := hh 0 _ (by omega) rfl
  obtain ⟨_, h1⟩ := hh 1 _ (by omega) rfl
  obtain ⟨_, h2⟩ := hh 2 _ (by omega) rfl
  obtain ⟨_, h3⟩ := hh 3 _ (by omega) rfl
  obtain ⟨_, h4⟩ := hh 4 _ (by omega) rfl
  obtain ⟨_, h5⟩ := hh 5 _ (by omega) rfl
  obtain ⟨_, h6⟩ := hh 6 _ (by omega) rfl
  obtain ⟨_, h7⟩ := hh 7 _ (by omega) rfl
  have e0 := elem_plain h0
  have e1 := elem_plain h1
  have e2 := elem_plain h2
  have e3 := elem_plain h3
  have e4 := elem_plain h4
  have e5 := elem_plain h5
  have e6 := elem_plain h6
  have e7 := elem_plain h7
  simp only [Nat.zero_mul, Nat.one_mul, Nat.reduceMul, List.drop_zero, List.drop_succ_cons, List.take_succ_cons, List.take_zero, List.cons.injEq, and_true] at e0 e1 e2 e3 e4 e5 e6 e7
  obtain ⟨rfl, rfl⟩ := e0
  obtain ⟨rfl, rfl⟩ := e1
  obtain ⟨rfl, rfl⟩ := e2
  obtain ⟨rfl, rfl⟩ := e3
  obtain ⟨rfl, rfl⟩ := e4
  obtain ⟨rfl, rfl⟩ := e5
  obtain ⟨rfl, rfl⟩ := e6
  obtain ⟨rfl, rfl⟩ := e7
  rfl
theorem stances_of {W : World} {rest : List (String × DataW Unit)} (h : laidMet Tryz.prog (("truffle/table.stances", Rows.laid_truffle_table_stances) :: rest) W) : TabAt W 1 stancesC := by
  obtain ⟨ps, ⟨g', t', cs, fuel, p, q, hg', ht', hvar, hd, _, _⟩, _⟩ := h
  have hg : Tryz.prog.globalNamed "truffle/table.stances" = some 1 := by kernel_rfl
  have hty : (Tryz.prog.globals[1]?).map (·.type) = some 187 := by kernel_rfl
  obtain rfl := Option.some.inj (hg.symm.trans hg')
  obtain rfl := Option.some.inj (hty.symm.trans ht')
  refine TabAt.of_var hg ?_
  rw [hvar]
  obtain ⟨hl, m, hh⟩ := arr_inv (ds := [.agg [.lit (.bool false), .lit (.bool false), .lit (.bool false)], .agg [.lit (.bool true), .lit (.bool false), .lit (.bool false)], .agg [.lit (.bool false), .lit (.bool true), .lit (.bool false)], .agg [.lit (.bool false), .lit (.bool false), .lit (.bool true)]]) Tryz.underlying187 hd
  have k0 : Tryz.prog.cellsOf 187 = 12 := by kernel_rfl
  have k1 : Tryz.prog.cellsOf 186 = 3 := by kernel_rfl
  rw [k0] at hl
  rw [k1] at hh
  obtain ⟨cs⟩ := cs
  simp only at hl hh
  obtain ⟨c0, c1, c2, c3, c4, c5, c6, c7, c8, c9, c10, c11, rfl⟩ : ∃ a0 a1 a2 a3 a4 a5 a6 a7 a8 a9 a10 a11, cs = [a0, a1, a2, a3, a4, a5, a6, a7, a8, a9, a10, a11] := match cs, hl with | [a0, a1, a2, a3, a4, a5, a6, a7, a8, a9, a10, a11], _ => ⟨a0, a1, a2, a3, a4, a5, a6, a7, a8, a9, a10, a11, rfl⟩
  obtain ⟨_, h0⟩ := hh 0 _ (by omega) rfl
  obtain ⟨_, h1⟩ := hh 1 _ (by omega) rfl
  obtain ⟨_, h2⟩ := hh 2 _ (by omega) rfl
  obtain ⟨_, h3⟩ := hh 3 _ (by omega) rfl
  have e0 := elem_stance h0
  have e1 := elem_stance h1
  have e2 := elem_stance h2
  have e3 := elem_stance h3
  simp only [Nat.zero_mul, Nat.one_mul, Nat.reduceMul, List.drop_zero, List.drop_succ_cons, List.take_succ_cons, List.take_zero, List.cons.injEq, and_true] at e0 e1 e2 e3
  obtain ⟨rfl, rfl, rfl⟩ := e0
  obtain ⟨rfl, rfl, rfl⟩ := e1
  obtain ⟨rfl, rfl, rfl⟩ := e2
  obtain ⟨rfl, rfl, rfl⟩ := e3
  rfl
theorem star : "*" ++ "errors.errorString" = "*errors.errorString" := by decide
/-- What the contracts ask of a world: token's tables, and table's. -/
structure LT (w : World) : Prop where
  laid : Laid w
  tabs : Tabs w
theorem LT.on {w w' : World} (h : LT w) (hb : Below w.heap.size w w') : LT w' := ⟨h.laid.on hb, h.tabs.on hb⟩
end Go.Proofs.YtjmcpfckcajnjaaGreatDoor
/-
  From what a row lists to what the contracts ask: table's two tables.
-/
namespace Go.Proofs.YtjmcpfckcajnjaaGreatDoor.T9
set_option maxRecDepth 100000
open Go.RowKit

theorem laid10 {W : World} (h : laidMetH Tryz.prog [("truffle/table.plains", Rows.laid_truffle_table_plains), ("truffle/table.stances", Rows.laid_truffle_table_stances)] W) : Tabs W := by
  rw [MakeChecks.laidMetH_plain _ _ _ (by kernel_rfl)] at h
  exact ⟨plains_of h, stances_of h.tail⟩
end Go.Proofs.YtjmcpfckcajnjaaGreatDoor.T9
/-
  The document's own functions that look for things by name: the contracts.
-/
namespace Go.Proofs.YtjmcpfckcajnjaaGreatDoor
set_option maxRecDepth 100000

open Go.RowKit

theorem rootS_at {s : Sc} {x : List UInt8} {k : Nat} {d : Md} (hk : s.M[k]? = some d) (hx : d.name = x) (hq : ∀ j y, j < k → s.M[j]? = some y → y.name ≠ x) : rootS s x = some k := by
  unfold rootS
  have hlt := (List.getElem?_eq_some_iff.1 hk).1
  have hi : (s.M.map (·.name)).idxOf x = k := by
    have h1 : (s.M.map (·.name))[k]? = some x := by rw [List.getElem?_map, hk]; simp [hx]
    obtain ⟨hk1, hk2⟩ := List.getElem?_eq_some_iff.1 h1
    have hle : (s.M.map (·.name)).idxOf x ≤ k := by
      rcases Nat.lt_or_ge k ((s.M.map (·.name)).idxOf x) with h | h
      · exact absurd hk2 (List.not_of_lt_findIdx (p := (· == x)) h |> fun h' => by simpa using h')
      · exact h
    rcases Nat.lt_or_ge ((s.M.map (·.name)).idxOf x) k with h | h
    · have hl2 : (s.M.map (·.name)).idxOf x < s.M.length := by omega
      have h3 : (s.M.map (·.name))[(s.M.map (·.name)).idxOf x]'(by simpa using hl2) = x := List.getElem_idxOf (by simpa using hl2)
      rw [List.getElem_map] at h3
      exact absurd h3 (hq _ _ h (List.getElem?_eq_getElem hl2))
    · omega
  rw [hi, if_pos hlt]
theorem rootS_no {s : Sc} {x : List UInt8} (hq : ∀ j y, j < s.M.length → s.M[j]? = some y → y.name ≠ x) : rootS s x = none := by
  unfold rootS
  rw [if_neg]
  intro h
  have h3 : (s.M.map (·.name))[(s.M.map (·.name)).idxOf x]'(by simpa using h) = x := List.getElem_idxOf (by simpa using h)
  rw [List.getElem_map] at h3
  exact hq _ _ h (List.getElem?_eq_getElem h) h3
theorem not_next {α : Type} {l : List α} {k : Nat} {x : α} {P : α → Prop} (hk : l[k]? = some x) (hx : P x) (h : ∀ j y, j < k → l[j]? = some y → P y) : ∀ j y, j < k + 1 → l[j]? = some y → P y := by
  intro j y hj hy
  rcases Nat.lt_or_ge j k with h2 | h2
  · exact h j y h2 hy
  · obtain rfl : j = k := by omega
    rw [hk] at hy
    obtain rfl := Option.some.inj hy
    exact hx
end Go.Proofs.YtjmcpfckcajnjaaGreatDoor
/-
  The document's own Find and By: the contracts.
-/
namespace Go.Proofs.YtjmcpfckcajnjaaGreatDoor
set_option maxRecDepth 100000

open Go.RowKit

set_option maxRecDepth 1000000 in
set_option maxHeartbeats 4000000 in
theorem rBy_any (B : Nat) (s : Sc) (vM vE : Value) (m : Int) (x : Int) (w : World) (hB : B ≤ w.heap.size) (hs : SAt B w s vM vE) :
    Calls Tryz.prog 24 #[.agg #[vM, vE], .int .i64 m, .int .i64 x] w fun e w' => e = .returned (foundV (byS s m x)) ∧ Below w.heap.size w w' := by
  obtain ⟨xs, ys, ⟨A1, q1, rfl, s1, b1⟩, h2, ⟨A2, q2, rfl, s2, b2⟩, h4⟩ := hs
  have hb0 : Below w.heap.size w ((w.alloc (.cells #[.slice A1 s.M.length q1, .slice A2 s.E.length q2] 25)).alloc (.cells #[.int .i64 0, .string ⟨#[]⟩, .int .i64 0, .int .i64 0, .bool false, .int .i64 0, .int .i64 0] 48)) := below_lit (below_new _ _) _
  have hx0 : ((w.alloc (.cells #[.slice A1 s.M.length q1, .slice A2 s.E.length q2] 25)).alloc (.cells #[.int .i64 0, .string ⟨#[]⟩, .int .i64 0, .int .i64 0, .bool false, .int .i64 0, .int .i64 0] 48)).heap[w.heap.size]? = some (.cells #[.slice A1 s.M.length q1, .slice A2 s.E.length q2] 25 (0, 0)) := ((below_new _ _).block _ (by simp)).trans (heap_alloc_new w _)
  have hr0 := heap_second w (.cells #[.slice A1 s.M.length q1, .slice A2 s.E.length q2] 25) (.cells #[.int .i64 0, .string ⟨#[]⟩, .int .i64 0, .int .i64 0, .bool false, .int .i64 0, .int .i64 0] 48)
  have hsm : s.M.length ≤ 9223372036854775807 := by have h1 := s1.le; have h2 := s1.cap; unfold maxLen at h2; omega
  have HM := Lib.hid (s1.low b1 (Low.below hb0 hB))
  have HMA := Lib.hid (h2.low (Low.below hb0 hB))
  have HB0 := Lib.hid hb0
  clear s1 h2 s2 h4 hB b1 b2
  go_enter Tryz.func24, Tryz.ntmps24
  go_upto_region 1 with fail
  obtain ⟨W0, hW0⟩ : ∃ W, W = ((w.alloc (.cells #[.slice A1 s.M.length q1, .slice A2 s.E.length q2] 25)).alloc (.cells #[.int .i64 0, .string ⟨#[]⟩, .int .i64 0, .int .i64 0, .bool false, .int .i64 0, .int .i64 0] 48)) := ⟨_, rfl⟩
  rw [← hW0] at HM HMA HB0 hx0 hr0 ⊢
  clear hW0 hb0
  have v0 := heap_cell hx0 0
  simp at v0
  by_cases hm : 0 ≤ m ∧ m < s.M.length
  · obtain ⟨k, rfl⟩ : ∃ k : Nat, m = k := ⟨m.toNat, by omega⟩
    have hlt : k < s.M.length := by omega
    obtain ⟨d, hd0⟩ : ∃ d, s.M[k]? = some d := ⟨_, List.getElem?_eq_getElem hlt⟩
    have hn : byS s (k : Int) x = d.F.find? (fun y => y.no == x) := by
      have e : msgAt s (k : Int) = some d := by unfold msgAt; rw [if_neg (by omega), Int.toNat_natCast, hd0]
      unfold byS
      rw [e]
      rfl
    obtain ⟨ad, vF, rfl, hg, hmr, c0, c1⟩ := mdr_at HM.out HMA.out hd0
    obtain ⟨AF, cF, rfl, sF, aF⟩ := hmr
    have hfl : d.F.length ≤ 9223372036854775807 := by have h1 := sF.le; have h2 := sF.cap; unfold maxLen at h2; omega
    have HSF := Lib.hid sF
    have HN := Lib.hid hn
    have HX0 := Lib.hid hx0
    have HR0 := Lib.hid hr0
    have h1 : decide ((k : Int) < 0) = false := by rw [decide_eq_false_iff_not]; omega
    have h2 : decide ((s.M.length : Int) ≤ (k : Int)) = false := by rw [decide_eq_false_iff_not]; omega
    have h3 : decide ((k : Int) ≥ (s.M.length : Int)) = false := by rw [decide_eq_false_iff_not]; omega
    clear hm hn sF hd0 hx0 hr0
    go_wp2
    go_loopw [8] (fun i wr => ∃ j : Nat, i = .int .i64 j ∧ j ≤ d.F.length ∧ (∀ i y, i < j → d.F[i]? = some y → (y.no == x) = false) ∧ wr = W0) (fun i _ => d.F.length - (intOf i).toNat)
    case atStart => exact ⟨0, rfl, by omega, fun j y hj => by omega, rfl⟩
    case round =>
      obtain ⟨j, rfl, hj, herr, rfl⟩ := hrel
      have HQ := Lib.hid herr
      clear herr
      by_cases hlj : j < d.F.length
      · obtain ⟨y, hy⟩ : ∃ d', d.F[j]? = some d' := ⟨_, List.getElem?_eq_getElem hlj⟩
        obtain ⟨ad3, rfl, hg3, k0, k1, k2, k3, k4, k5, k6⟩ := dfr_at HSF.out hy
        have HY := Lib.hid hy
        clear hy
        skip
        by_cases hx : y.no = x
        · have he : (y.no == x) = true := beq_iff_eq.2 hx
          have HF := Lib.hid (HN.out.trans (find_first HQ.out HY.out (beq_iff_eq.2 hx)))
          clear hx
          go_wp2_with (refine wpList_store_df rfl _ _ rfl rfl (w.heap.size + 1) _ _ _ _ _ _ _ _ _ _ _ _ _ _ rfl rfl _ HR0.out ?_)
          refine bodyPost_ret (results_df1 rfl _ _ (w.heap.size + 1) _ _ _ _ _ _ _ _ (0, 0) rfl (setRow_heap _ _ _ _ _ _ HR0.out)) rfl ?_
          exact ⟨by rw [HF.out]; rfl, below_setRow HB0.out (by omega) _⟩
        · have he : (y.no == x) = false := beq_eq_false_iff_ne.2 hx
          have HX := Lib.hid (show (y.no == x) = false from beq_eq_false_iff_ne.2 hx)
          clear hx
          go_wp2
          exact ⟨⟨j + 1, by go_num, by omega, not_next (P := fun y => (y.no == x) = false) HY.out HX.out HQ.out, trivial⟩, by simp [intOf]; omega⟩
      · obtain rfl : j = d.F.length := by omega
        have HF := Lib.hid (HN.out.trans (find_none HQ.out))
        go_wp2_with (refine wpList_store_df rfl _ _ rfl rfl (w.heap.size + 1) _ _ _ _ _ _ _ _ _ _ _ _ _ _ rfl rfl _ HR0.out ?_)
        refine bodyPost_ret (results_df1 rfl _ _ (w.heap.size + 1) _ _ _ _ _ _ _ _ (0, 0) rfl (setRow_heap _ _ _ _ _ _ HR0.out)) rfl ?_
        exact ⟨by rw [HF.out]; rfl, below_setRow HB0.out (by omega) _⟩
  · have HN : Hid (byS s m x = none) := Lib.hid (by
      have e : msgAt s m = none := by
        unfold msgAt
        split
        · rfl
        · exact List.getElem?_eq_none (by omega)
      unfold byS
      rw [e]
      rfl)
    obtain ⟨v1, hv1⟩ : ∃ v, decide (m < 0) = v := ⟨_, rfl⟩
    obtain ⟨v2, hv2⟩ : ∃ v, decide ((s.M.length : Int) ≤ m) = v := ⟨_, rfl⟩
    have HV : Hid ((v1 || v2) = true) := Lib.hid (by rw [← hv1, ← hv2]; simp only [Bool.or_eq_true, decide_eq_true_eq]; omega)
    have hv3 : decide (m ≥ (s.M.length : Int)) = v2 := hv2
    clear hm
    cases v1 <;> cases v2
    · exact absurd HV.out (by simp)
    all_goals
      go_wp2_with (refine wpList_store_df rfl _ _ rfl rfl (w.heap.size + 1) _ _ _ _ _ _ _ _ _ _ _ _ _ _ rfl rfl _ hr0 ?_)
      refine bodyPost_ret (results_df1 rfl _ _ (w.heap.size + 1) _ _ _ _ _ _ _ _ (0, 0) rfl (setRow_heap _ _ _ _ _ _ hr0)) rfl ?_
      exact ⟨by rw [HN.out]; rfl, below_setRow HB0.out (by omega) _⟩
end Go.Proofs.YtjmcpfckcajnjaaGreatDoor
