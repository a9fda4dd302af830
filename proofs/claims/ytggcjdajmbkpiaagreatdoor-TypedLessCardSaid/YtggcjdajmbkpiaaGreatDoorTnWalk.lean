/-
  What a law that reads package-level variables needs beyond the rest: the given ties, and the condition on what is laid.
-/
import Derived.Test.YtggcjdajmbkpiaaGreatDoorCards
import Derived.Test.YtggcjdajmbkpiaaGreatDoorTie
import Derived.Test.YtggcjdajmbkpiaaGreatDoorTrSize
import Derived.Deep.DeepHandedRow
import Derived.Lib.LaidTab
import Derived.Lay
import Derived.MakeChecks
import Derived.Test.YtggcjdajmbkpiaaGreatDoorTokSkip
import Derived.Stop.LaidErr
import Derived.Deep.Strs
import Derived.Test.YtggcjdajmbkpiaaGreatDoorTyAwake
import Derived.Test.YtggcjdajmbkpiaaGreatDoorTyKeys
import Derived.Test.YtggcjdajmbkpiaaGreatDoorTokMath
import Derived.Deep.RegionLaw
import Derived.Test.YtggcjdajmbkpiaaGreatDoorTrOwn
import Derived.Deep.RegionHeld3
namespace Go.Proofs.YtggcjdajmbkpiaaGreatDoor
set_option maxRecDepth 100000

end Go.Proofs.YtggcjdajmbkpiaaGreatDoor
/-
  From what a row lists to what the contracts ask (where token's tables, strconv's errors and table's two tables are listed).
-/
namespace Go.Proofs.YtggcjdajmbkpiaaGreatDoor
set_option maxRecDepth 100000

open Go.RowKit

theorem arr_inv {H : Type} {enc : TypeId × Value → H} {P : Program} {w : World} {base : Nat} {sp : Nat → Bool} {held : Bool} {fuel : Nat} {t e : TypeId} {n : Nat} {cs : List Value} {ds : List (DataW H)} {p : List MemPlace}
    (ht : P.underlying t = some (.array n e)) (h : DataW.trod enc P w base sp held fuel t cs = some (.agg ds, p)) : cs.length = P.cellsOf t ∧ ∃ f, ∀ i d, i < n → ds[i]? = some d → ∃ q, DataW.trod enc P w base sp held f e ((cs.drop (i * P.cellsOf e)).take (P.cellsOf e)) = some (d, q) := by
  cases fuel with
  | zero => simp [DataW.trod] at h
  | succ fuel =>
    simp only [DataW.trod, ht] at h
    split at h
    · rename_i hl
      obtain ⟨xs, hm, hx⟩ := Option.map_eq_some_iff.1 h
      have hxs : xs.map (·.1) = ds := by
        have := congrArg Prod.fst hx
        simpa using this
      refine ⟨by simpa using hl, fuel, fun i d hi hd => ?_⟩
      obtain ⟨b, hb, hf⟩ := Lib.mapM_at hm i i (by simp [hi])
      rw [← hxs, List.getElem?_map, hb] at hd
      simp only [Option.map_some, Option.some.injEq] at hd
      subst hd
      exact ⟨b.2, hf⟩
    · cases h
section

variable {enc : TypeId × Value → Unit} {W : World} {n : Nat} {q : List MemPlace}

theorem elem_plain {cs : List Value} {x : List UInt8} {k : Int} (h : DataW.trod enc Tryz.prog W 0 (fun _ => true) false n 186 cs = some (.agg [.lit (.string x), .lit (.int .i64 k)], q)) : cs = [.string (txt x), .int .i64 k] := by
  obtain ⟨y0, y1, m, hx, hl, h0, h1⟩ := ChangeShapes.trod_struct2 Tryz.underlying186 h
  have k0 : Tryz.prog.cellsOf 186 = 2 := by kernel_rfl
  rw [k0] at hl
  obtain ⟨c0, c1, rfl⟩ : ∃ a b, cs = [a, b] := match cs, hl with | [a, b], _ => ⟨a, b, rfl⟩
  obtain ⟨s, e0, f0, -⟩ := DataW.trod_string Tryz.underlying9 h0
  obtain ⟨z, e1, f1, -⟩ := DataW.trod_int Tryz.underlying3 h1
  have k1 : Tryz.prog.cellsOf 9 = 1 := by kernel_rfl
  have k2 : Tryz.prog.cellsOf 3 = 1 := by kernel_rfl
  simp only [k1, k2] at e0 e1
  simp at e0 e1
  subst e0 e1 f0 f1
  simp only [Prod.mk.injEq, DataW.agg.injEq, List.cons.injEq, DataW.lit.injEq, Lit.string.injEq, Lit.int.injEq, and_true, true_and] at hx
  obtain ⟨⟨rfl, rfl⟩, -⟩ := hx
  rfl
theorem elem_stance {cs : List Value} {a b c : Bool} (h : DataW.trod enc Tryz.prog W 0 (fun _ => true) false n 244 cs = some (.agg [.lit (.bool a), .lit (.bool b), .lit (.bool c)], q)) : cs = [.bool a, .bool b, .bool c] := by
  obtain ⟨hl, m, hg⟩ := arr_inv Tryz.underlying244 h
  have k0 : Tryz.prog.cellsOf 244 = 3 := by kernel_rfl
  have k1 : Tryz.prog.cellsOf 4 = 1 := by kernel_rfl
  rw [k0] at hl
  rw [k1] at hg
  obtain ⟨c0, c1, c2, rfl⟩ : ∃ a b c, cs = [a, b, c] := match cs, hl with | [a, b, c], _ => ⟨a, b, c, rfl⟩
  obtain ⟨_, h0⟩ := hg 0 _ (by omega) rfl
  obtain ⟨_, h1⟩ := hg 1 _ (by omega) rfl
  obtain ⟨_, h2⟩ := hg 2 _ (by omega) rfl
  obtain ⟨s0, e0, f0⟩ := DataW.trod_bool Tryz.underlying4 h0
  obtain ⟨s1, e1, f1⟩ := DataW.trod_bool Tryz.underlying4 h1
  obtain ⟨s2, e2, f2⟩ := DataW.trod_bool Tryz.underlying4 h2
  simp at e0 e1 e2 f0 f1 f2
  obtain ⟨rfl, -⟩ := f0
  obtain ⟨rfl, -⟩ := f1
  obtain ⟨rfl, -⟩ := f2
  rw [e0, e1, e2]
end

theorem plains_of {W : World} {rest : List (String × DataW Unit)} (h : laidMet Tryz.prog (("truffle/table.plains", Rows.laid_truffle_table_plains) :: rest) W) : TabAt W 0 plainsC := by
  obtain ⟨ps, ⟨g', t', cs, fuel, p, q, hg', ht', hvar, hd, _, _⟩, _⟩ := h
  have hg : Tryz.prog.globalNamed "truffle/table.plains" = some 0 := by kernel_rfl
  have hty : (Tryz.prog.globals[0]?).map (·.type) = some 187 := by kernel_rfl
  obtain rfl := Option.some.inj (hg.symm.trans hg')
  obtain rfl := Option.some.inj (hty.symm.trans ht')
  refine TabAt.of_var hg ?_
  rw [hvar]
  obtain ⟨hl, m, hh⟩ := arr_inv (ds := [.agg [.lit (.string tInt64), .lit (.int .i64 0)], .agg [.lit (.string tSint64), .lit (.int .i64 1)], .agg [.lit (.string tUint32), .lit (.int .i64 2)], .agg [.lit (.string tBool), .lit (.int .i64 3)], .agg [.lit (.string tFixed32), .lit (.int .i64 4)], .agg [.lit (.string tSfixed64), .lit (.int .i64 5)], .agg [.lit (.string tString), .lit (.int .i64 7)], .agg [.lit (.string tBytes), .lit (.int .i64 8)]]) Tryz.underlying187 hd
  have k0 : Tryz.prog.cellsOf 187 = 16 := by kernel_rfl
  have k1 : Tryz.prog.cellsOf 186 = 2 := by kernel_rfl
  rw [k0] at hl
  rw [k1] at hh
  obtain ⟨cs⟩ := cs
  simp only at hl hh
  obtain ⟨c0, c1, c2, c3, c4, c5, c6, c7, c8, c9, c10, c11, c12, c13, c14, c15, rfl⟩ : ∃ a0 a1 a2 a3 a4 a5 a6 a7 a8 a9 a10 a11 a12 a13 a14 a15, cs = [a0, a1, a2, a3, a4, a5, a6, a7, a8, a9, a10, a11, a12, a13, a14, a15] := match cs, hl with | [a0, a1, a2, a3, a4, a5, a6, a7, a8, a9, a10, a11, a12, a13, a14, a15], _ => ⟨a0, a1, a2, a3, a4, a5, a6, a7, a8, a9, a10, a11, a12, a13, a14, a15, rfl⟩
  obtain ⟨_, h0⟩ := hh 0 _ (by omega) rfl
  obtain ⟨_, h1⟩ := hh 1 _ (by omega) rfl
  obtain ⟨_, h2⟩ := hh 2 _ (by omega) rfl
  obtain ⟨_, h3⟩ := hh 3 _ (by omega) rfl
  obtain ⟨_, h4⟩ := hh 4 _ (by omega) rfl
  obtain ⟨_, h5⟩ := hh 5 _ (by omega) rfl
  obtain ⟨_, h6⟩ := hh 6 _ (by omega) rfl
  obtain ⟨_, h7⟩ := hh 7 _ (by omega) rfl
  have e0 := elem_plain h0
  have e1 := elem_plain h1
  have e2 := elem_plain h2
  have e3 := elem_plain h3
  have e4 := elem_plain h4
  have e5 := elem_plain h5
  have e6 := elem_plain h6
  have e7 := elem_plain h7
  simp only [Nat.zero_mul, Nat.one_mul, Nat.reduceMul, List.drop_zero, List.drop_succ_cons, List.take_succ_cons, List.take_zero, List.cons.injEq, and_true] at e0 e1 e2 e3 e4 e5 e6 e7
  obtain ⟨rfl, rfl⟩ := e0
  obtain ⟨rfl, rfl⟩ := e1
  obtain ⟨rfl, rfl⟩ := e2
  obtain ⟨rfl, rfl⟩ := e3
  obtain ⟨rfl, rfl⟩ := e4
  obtain ⟨rfl, rfl⟩ := e5
  obtain ⟨rfl, rfl⟩ := e6
  obtain ⟨rfl, rfl⟩ := e7
  rfl
theorem stances_of {W : World} {rest : List (String × DataW Unit)} (h : laidMet Tryz.prog (("truffle/table.stances", Rows.laid_truffle_table_stances) :: rest) W) : TabAt W 2 stancesC := by
  obtain ⟨ps, ⟨g', t', cs, fuel, p, q, hg', ht', hvar, hd, _, _⟩, _⟩ := h
  have hg : Tryz.prog.globalNamed "truffle/table.stances" = some 2 := by kernel_rfl
  have hty : (Tryz.prog.globals[2]?).map (·.type) = some 245 := by kernel_rfl
  obtain rfl := Option.some.inj (hg.symm.trans hg')
  obtain rfl := Option.some.inj (hty.symm.trans ht')
  refine TabAt.of_var hg ?_
  rw [hvar]
  obtain ⟨hl, m, hh⟩ := arr_inv (ds := [.agg [.lit (.bool false), .lit (.bool false), .lit (.bool false)], .agg [.lit (.bool true), .lit (.bool false), .lit (.bool false)], .agg [.lit (.bool false), .lit (.bool true), .lit (.bool false)], .agg [.lit (.bool false), .lit (.bool false), .lit (.bool true)]]) Tryz.underlying245 hd
  have k0 : Tryz.prog.cellsOf 245 = 12 := by kernel_rfl
  have k1 : Tryz.prog.cellsOf 244 = 3 := by kernel_rfl
  rw [k0] at hl
  rw [k1] at hh
  obtain ⟨cs⟩ := cs
  simp only at hl hh
  obtain ⟨c0, c1, c2, c3, c4, c5, c6, c7, c8, c9, c10, c11, rfl⟩ : ∃ a0 a1 a2 a3 a4 a5 a6 a7 a8 a9 a10 a11, cs = [a0, a1, a2, a3, a4, a5, a6, a7, a8, a9, a10, a11] := match cs, hl with | [a0, a1, a2, a3, a4, a5, a6, a7, a8, a9, a10, a11], _ => ⟨a0, a1, a2, a3, a4, a5, a6, a7, a8, a9, a10, a11, rfl⟩
  obtain ⟨_, h0⟩ := hh 0 _ (by omega) rfl
  obtain ⟨_, h1⟩ := hh 1 _ (by omega) rfl
  obtain ⟨_, h2⟩ := hh 2 _ (by omega) rfl
  obtain ⟨_, h3⟩ := hh 3 _ (by omega) rfl
  have e0 := elem_stance h0
  have e1 := elem_stance h1
  have e2 := elem_stance h2
  have e3 := elem_stance h3
  simp only [Nat.zero_mul, Nat.one_mul, Nat.reduceMul, List.drop_zero, List.drop_succ_cons, List.take_succ_cons, List.take_zero, List.cons.injEq, and_true] at e0 e1 e2 e3
  obtain ⟨rfl, rfl, rfl⟩ := e0
  obtain ⟨rfl, rfl, rfl⟩ := e1
  obtain ⟨rfl, rfl, rfl⟩ := e2
  obtain ⟨rfl, rfl, rfl⟩ := e3
  rfl
theorem star : "*" ++ "errors.errorString" = "*errors.errorString" := by decide
/-- What the contracts ask of a world: token's tables, and table's. -/
structure LT (w : World) : Prop where
  laid : Laid w
  tabs : Tabs w
theorem LT.on {w w' : World} (h : LT w) (hb : Below w.heap.size w w') : LT w' := ⟨h.laid.on hb, h.tabs.on hb⟩
end Go.Proofs.YtggcjdajmbkpiaaGreatDoor
/-
  From what a row lists to what the contracts ask: table's two tables.
-/
namespace Go.Proofs.YtggcjdajmbkpiaaGreatDoor.T9
set_option maxRecDepth 100000
open Go.RowKit

theorem laid10 {W : World} (h : laidMetH Tryz.prog [("truffle/table.plains", Rows.laid_truffle_table_plains), ("truffle/table.stances", Rows.laid_truffle_table_stances)] W) : Tabs W := by
  rw [MakeChecks.laidMetH_plain _ _ _ (by kernel_rfl)] at h
  exact ⟨plains_of h, stances_of h.tail⟩
end Go.Proofs.YtggcjdajmbkpiaaGreatDoor.T9
/-
  A message without one of its slots: what it is when it is normal; and the row of the call's own that an element is taken out of.
-/
namespace Go.Proofs.YtggcjdajmbkpiaaGreatDoor.T9
set_option maxRecDepth 100000
open Go.RowKit

def lessM (x : Mg) (i : Nat) : Mg := .mk (x.F.take i ++ x.F.drop (i + 1))
theorem split_F {x : Mg} {i : Nat} {a : So} (h : x.F[i]? = some a) : x.F = x.F.take i ++ a :: x.F.drop (i + 1) := by
  obtain ⟨hi, rfl⟩ := List.getElem?_eq_some_iff.1 h
  rw [← List.drop_eq_getElem_cons hi, List.take_append_drop]
theorem less_sub (x : Mg) (i : Nat) : (lessM x i).F.Sublist x.F := by
  show (x.F.take i ++ x.F.drop (i + 1)).Sublist x.F
  conv => rhs; rw [← List.take_append_drop i x.F]
  refine List.Sublist.append (List.Sublist.refl _) ?_
  rw [show x.F.drop (i + 1) = (x.F.drop i).drop 1 by rw [List.drop_drop]]
  exact List.drop_sublist _ _
theorem isB_sub {s : Sc} {d : Nat} {m : Int} {x y : Mg} (h : isB s (d + 1) m x = true) (hs : y.F.Sublist x.F) : isB s (d + 1) m y = true := by
  have h1 : (decide (0 ≤ m ∧ m < s.M.length) && slotsG (byS s m) (fillG (isB s d)) [] x.F) = true := h
  show (decide (0 ≤ m ∧ m < s.M.length) && slotsG (byS s m) (fillG (isB s d)) [] y.F) = true
  rw [Bool.and_eq_true] at h1 ⊢
  exact ⟨h1.1, slots_sub h1.2 hs⟩
theorem isB_slots {s : Sc} {d : Nat} {m : Int} {x : Mg} (h : isB s (d + 1) m x = true) : slotsG (byS s m) (fillG (isB s d)) [] x.F = true := by
  have h1 : (decide (0 ≤ m ∧ m < s.M.length) && slotsG (byS s m) (fillG (isB s d)) [] x.F) = true := h
  rw [Bool.and_eq_true] at h1
  exact h1.2
theorem norF_nos (fd : Int → Option Df) (N : Int → Mg → Mg) (l : List So) : (norF fd N l).Pairwise fun a b => a.no ≠ b.no := (rise_norF fd N l).imp fun {a b} h e => by simp [ltNo, e] at h
theorem rise_putS {l : List So} {s : So} (h : Rise ltNo l) (hn : ∀ a ∈ l, a.no ≠ s.no) : Rise ltNo (putS l s) := by
  induction l with
  | nil => rw [putS_nil]; exact List.pairwise_singleton _ _
  | cons x l ih =>
    obtain ⟨h1, h2⟩ := List.pairwise_cons.1 h
    have hx := hn x (by simp)
    rw [putS_cons]
    split
    · rename_i hlt
      refine List.pairwise_cons.2 ⟨fun b hb => ?_, h⟩
      rcases List.mem_cons.1 hb with rfl | hb
      · exact decide_eq_true hlt
      · exact no_tr _ _ _ (show ltNo s x = true from decide_eq_true hlt) (h1 b hb)
    · rename_i hlt
      refine List.pairwise_cons.2 ⟨fun b hb => ?_, ih h2 fun a ha => hn a (by simp [ha])⟩
      rcases mem_putS.1 hb with rfl | hb
      · exact decide_eq_true (by omega)
      · exact h1 b hb
/-- With one slot gone: it is not there; and what was told of it, set again, makes it whole. -/
theorem less_is {s : Sc} (hk : KeysOk s) {m : Int} {x : Mg} {i : Nat} {a : So} (h : isB s 64 m x = true) (ha : x.F[i]? = some a) :
    getM (norB s 64 m (lessM x i)) a.no = none ∧
    (getM (norB s 64 m x) a.no = none ∧ norB s 64 m (lessM x i) = norB s 64 m x ∨
     ∃ b, getM (norB s 64 m x) a.no = some b ∧ setM (norB s 64 m (lessM x i)) b = norB s 64 m x ∧ cS b ≤ cS a) := by
  have hno := slots_no (isB_slots h)
  have hsub := less_sub x i
  have hno2 := hno.sublist hsub
  have hmem := List.mem_of_getElem? ha
  have e1 : (norB s 64 m x).F = norF (byS s m) (norB s 63) x.F := rfl
  have e2 : (norB s 64 m (lessM x i)).F = norF (byS s m) (norB s 63) (lessM x i).F := rfl
  have hsp := split_F ha
  have hap : ∀ c ∈ (lessM x i).F, c.no ≠ a.no := by
    intro c hc
    rw [hsp, List.pairwise_append, List.pairwise_cons] at hno
    rcases List.mem_append.1 (show c ∈ x.F.take i ++ x.F.drop (i + 1) from hc) with hc | hc
    · exact hno.2.2 c hc a (by simp)
    · exact fun e => hno.2.1.1 c hc e.symm
  have hk0 : ∀ c ∈ (norB s 64 m (lessM x i)).F, c.no ≠ a.no := by
    intro c hc
    rw [e2] at hc
    obtain ⟨c', hc', e⟩ := (mem_norF hno2).1 hc
    rw [norO_no e]
    exact hap c' hc'
  have hg0 : getM (norB s 64 m (lessM x i)) a.no = none := by
    unfold getM
    rw [List.find?_eq_none]
    intro c hc
    simpa using hk0 c hc
  refine ⟨hg0, ?_⟩
  have hmm : ∀ b, b ∈ norF (byS s m) (norB s 63) x.F ↔ (norO (byS s m) (norB s 63) a = some b ∨ b ∈ norF (byS s m) (norB s 63) (lessM x i).F) := by
    intro b
    rw [mem_norF hno, mem_norF hno2]
    constructor
    · rintro ⟨c, hc, e⟩
      rw [hsp] at hc
      rcases List.mem_append.1 hc with hc | hc
      · exact .inr ⟨c, List.mem_append.2 (.inl hc), e⟩
      · rcases List.mem_cons.1 hc with rfl | hc
        · exact .inl e
        · exact .inr ⟨c, List.mem_append.2 (.inr hc), e⟩
    · rintro (e | ⟨c, hc, e⟩)
      · exact ⟨a, hmem, e⟩
      · exact ⟨c, hsub.subset hc, e⟩
  cases ho : norO (byS s m) (norB s 63) a with
  | none =>
    left
    have e : norB s 64 m (lessM x i) = norB s 64 m x := by
      refine Mg.ext ?_
      rw [e1, e2]
      refine rise_unique' no_irr no_tr (rise_norF _ _ _) (rise_norF _ _ _) fun b => ?_
      rw [hmm b, ho]
      simp
    rw [e] at hg0
    exact ⟨hg0, e⟩
  | some b =>
    right
    obtain ⟨f, hf, ht, hb⟩ := norO_some ho
    obtain ⟨f', hf', hfl⟩ := (slots_iff.1 (isB_slots h)).1 a hmem
    rw [hf] at hf'
    obtain rfl := Option.some.inj hf'
    have gs := good_slot (norB_good hk 63) (hk m a.no f hf) hfl
    have hbn : b.no = a.no := norO_no ho
    have hbm : b ∈ (norB s 64 m x).F := by rw [e1, hmm b]; exact .inl ho
    refine ⟨b, ?_, ?_, by rw [hb]; exact gs.cnt⟩
    · unfold getM
      rw [← hbn, find_no (by rw [e1]; exact norF_nos _ _ _) hbm]
    · have hbv : b.V ≠ [] := by
        have h5 := gs.told ht
        rw [← hb] at h5
        exact told_ne h5
      have hrest : rest (norB s 64 m (lessM x i)).F b.no = (norB s 64 m (lessM x i)).F := by
        unfold rest
        rw [List.filter_eq_self]
        intro c hc
        rw [hbn]
        simpa using hk0 c hc
      refine Mg.ext ?_
      unfold setM
      rw [if_neg hbv, hrest]
      show putS _ b = _
      rw [e1]
      refine rise_unique' no_irr no_tr (rise_putS (rise_norF _ _ _) fun c hc => by rw [hbn]; exact hk0 c hc) (rise_norF _ _ _) fun c => ?_
      rw [mem_putS, e2, hmm c, ho]
      simp only [Option.some.injEq]
      rw [eq_comm]

/-! ### An element is taken out -/
theorem own_fewer {w : World} {b g n cap size : Nat} {e : TypeId} {xs : List Value} (h : w.ownsRow b e size (.slice (some ⟨g, 0, none⟩) n cap) n xs) {k : Nat} (hk : k ≤ n) : w.ownsRow b e size (.slice (some ⟨g, 0, none⟩) k cap) k (xs.take (k * size)) := by
  rcases h with ⟨hl, ⟨h1, -⟩ | ⟨g', cap', cur, h1, h2, h3, h4, h5, h6, h7⟩⟩
  · simp at h1
  · simp only [Value.slice.injEq, Option.some.injEq, Addr.mk.injEq, and_true, true_and] at h1
    obtain ⟨rfl, rfl⟩ := h1
    have hm := Nat.mul_le_mul_right size hk
    refine ⟨by rw [List.length_take]; omega, .inr ⟨g, cap, cur, rfl, h2, h3, Nat.le_trans hk h4, h5, h6, ?_⟩⟩
    rw [← h7, List.take_take, Nat.min_eq_left hm]
theorem Grow.erase {α : Type} {C : EC α} (hC : Mono C) (hlen : ∀ R a cs, C R a cs → cs.length = 3) {e : TypeId} {b g cap : Nat} {w : World} {l : List α} {zs : List Value} (h : Grow C e 3 b w (.slice (some ⟨g, 0, none⟩) l.length cap) l zs) {i : Nat} (hi : i < l.length) :
    Grow C e 3 b (w.setCells g (i * 3) (zs.drop ((i + 1) * 3))) (.slice (some ⟨g, 0, none⟩) (i + (l.length - (i + 1))) cap) (l.take i ++ l.drop (i + 1)) (zs.take (i * 3) ++ zs.drop ((i + 1) * 3)) ∧ w.grownBy (w.setCells g (i * 3) (zs.drop ((i + 1) * 3))) (some g) := by
  have hzl : zs.length = l.length * 3 := h.own.1
  obtain ⟨o1, o2⟩ := own_setCells (zs.drop ((i + 1) * 3)) (i * 3) zs w h.own
  refine ⟨⟨?_, ?_⟩, o2⟩
  · have o3 := own_fewer o1 (k := i + (l.length - (i + 1))) (by omega)
    rw [show (l.take i ++ l.drop (i + 1)).length = i + (l.length - (i + 1)) by rw [List.length_append, List.length_take, List.length_drop]; omega]
    have hs : setL zs (i * 3) (zs.drop ((i + 1) * 3)) = zs.take (i * 3) ++ (zs.drop ((i + 1) * 3) ++ (zs.drop (i * 3)).drop ((l.length - (i + 1)) * 3)) := by
      have hm := setL_mid (zs.drop ((i + 1) * 3)) ((zs.drop (i * 3)).take ((l.length - (i + 1)) * 3)) (zs.take (i * 3)) ((zs.drop (i * 3)).drop ((l.length - (i + 1)) * 3)) (by rw [List.length_take, List.length_drop, List.length_drop]; omega)
      rw [List.take_append_drop, List.take_append_drop, List.length_take, Nat.min_eq_left (by omega)] at hm
      exact hm
    rw [hs] at o3
    rwa [← List.append_assoc, List.take_append_of_le_length (by rw [List.length_append, List.length_take, List.length_drop]; omega), List.take_of_length_le (by rw [List.length_append, List.length_take, List.length_drop]; omega)] at o3
  · have hr : Rows (C (Ap b (some g) (w.setCells g (i * 3) (zs.drop ((i + 1) * 3))))) l zs := h.rows.imp (hC (Ap.grown o2 (.inl rfl)))
    exact (hr.take (fun a cs h => hlen _ a cs h) i).append (hr.drop (fun a cs h => hlen _ a cs h) (i + 1))
end Go.Proofs.YtggcjdajmbkpiaaGreatDoor.T9
/-
  What is normal is of its message, and normal again is the same; it is no deeper, and has no more values: the walk.
-/
namespace Go.Proofs.YtggcjdajmbkpiaaGreatDoor.T9.lawTypedNormal
set_option maxRecDepth 100000

open Go.ChangeShapes Go.WideShapes Go.ChangeAt Go.RowKit

open Go.Proofs.YtggcjdajmbkpiaaGreatDoor.T4

theorem sat_up {w w' : World} {s : Sc} {vM vE : Value} (h : SAt w.heap.size w s vM vE) (hb : Below w.heap.size w w') : SAt w'.heap.size w' s vM vE := SAt.mono (SAt.lo h hb (Nat.le_refl _)) hb.size
theorem may_parts {s : Sc} {m : Int} {x : Mg} (h : mayT s m x = true) : ScMay s ∧ isB s 64 m x = true := by
  unfold mayT at h
  rw [Bool.and_eq_true] at h
  exact ⟨(@decide_eq_true_iff _ (Classical.propDecidable _)).1 h.1, h.2⟩
theorem may_nor {s : Sc} {m : Int} {x : Mg} (h : mayT s m x = true) : mayT s m (norB s 64 m x) = true ∧ norB s 64 m (norB s 64 m x) = norB s 64 m x ∧ (norB s 64 m x).deep ≤ x.deep ∧ (norB s 64 m x).size ≤ x.size ∧ (norB s 64 m x).cnt ≤ x.cnt ∧ (MIn x → MIn (norB s 64 m x)) := by
  obtain ⟨h1, h2⟩ := may_parts h
  have g := norB_good (may_keys h1) 64
  refine ⟨?_, g.same _ _ h2, g.deep _ _ h2, g.size _ _ h2, g.cnt _ _ h2, g.in_ _ _ h2⟩
  unfold mayT
  rw [Bool.and_eq_true]
  exact ⟨(@decide_eq_true_iff _ (Classical.propDecidable _)).2 h1, g.is _ _ h2⟩
set_option maxRecDepth 1000000 in
set_option maxHeartbeats 8000000 in
theorem walk (w : World) (T : Tabs w) (s : Sc) (vM vE : Value) (hs0 : SAt w.heap.size w s vM vE) (hin : ScIn s) (m : Int) (hm1 : -9223372036854775808 ≤ m) (hm2 : m ≤ 9223372036854775807)
    (x : Mg) (ux : Value) (D : Nat) (hx0 : MAt (Rd w.heap.size w) D x [ux]) (hxi : MIn x) :
    Calls Tryz.prog 4 #[.agg #[vM, vE], .int .i64 m, .agg #[ux]] w fun e w' => e = .returned (.bool true) ∧ Below w.heap.size w w' := by
  obtain ⟨A1, q1, A2, q2, rfl, rfl⟩ := sat_shape hs0
  obtain ⟨Ax, cx, rfl⟩ := rd_shape hx0
  obtain ⟨X1, X2, LBD⟩ := two_boxes w (.cells #[.slice A1 s.M.length q1, .slice A2 s.E.length q2] 25) (.cells #[.slice Ax x.F.length cx] 28)
  have HS := Lib.hid (fun wx (h : Below w.heap.size w wx) => sat_up hs0 h)
  have HG := Lib.hid (fun wx (h : Below w.heap.size w wx) => MRd.mono h.size (MRd.low (Lo.below h (Nat.le_refl _)) hx0))
  have HT := Lib.hid T
  clear hx0 hs0 T hm1 hm2
  go_enter Tryz.func4, Tryz.ntmps4
  go_wp2_with fail
  refine (awake10_any _ (HT.out.on LBD)).mono ?_
  rintro e w1 ⟨rfl, hb1⟩
  have hb01 := below_then LBD hb1
  have Y1 := box_on X1 hb1
  have Y2 := box_on X2 hb1
  clear X1 X2 LBD hb1
  obtain ⟨y1, y2⟩ := box2' Y1
  have y0 := bx1 Y2
  go_wp2_with fail
  refine (few10_any _ D s _ _ x _ w1 (Nat.le_refl _) (HS.out _ hb01) (HG.out _ hb01)).mono ?_
  rintro e w2 ⟨r, rfl, hfit, hb2⟩
  have hb02 := below_then hb01 hb2
  have Y1 := box_on Y1 hb2
  have Y2 := box_on Y2 hb2
  cases r with
  | false =>
    clear y1 y2 y0
    go_wp2
    go_ret
    exact ⟨rfl, hb02⟩
  | true =>
    obtain ⟨hcx, hdx⟩ := hfit (by trivial)
    clear y1 y2 y0 hfit hb2
    obtain ⟨y1, y2⟩ := box2' Y1
    have y0 := bx1 Y2
    have HM := Lib.hid (fun wx (h : Below w.heap.size w wx) => tmay_any hin _ D _ _ m x _ wx (Nat.le_refl _) (HS.out _ h) (HG.out _ h) hxi (by omega) (HT.out.on h))
    have HN := Lib.hid (tnormal_any hin _ D _ _ m x _ w2 (Nat.le_refl _) (HS.out _ hb02) (HG.out _ hb02) hxi (by omega) (HT.out.on hb02))
    obtain ⟨d, hd⟩ : ∃ d, mayT s m x = d := ⟨_, rfl⟩
    rw [hd] at HN HM
    cases d with
    | false =>
      clear hd
      go_wp2_with fail
      refine HN.out.mono ?_
      rintro e w3 ⟨A, n, c, rfl, hnil, -, hb3⟩
      obtain ⟨rfl, rfl, rfl⟩ := hnil (by trivial)
      have N3 := below_new w3 (.cells #[.slice none 0 0] 28)
      have b3 := below_then hb3 N3
      have hb04 := below_then hb02 b3
      obtain ⟨z1, z2⟩ := box2' (box_on Y1 b3)
      have z0 := bx1 (box_on Y2 b3)
      have HM4 := Lib.hid (HM.out _ hb04)
      have T3 := heap_alloc_new w3 (.cells #[.slice none 0 0] 28)
      clear y1 y2 y0
      go_wp2_with fail
      refine HM4.out.mono ?_
      rintro e w5 ⟨rfl, hb5⟩
      have t0 := bx1 (box_on T3 hb5)
      go_wp2
      go_ret
      exact ⟨rfl, below_then hb04 hb5⟩
    | true =>
      obtain ⟨k1, k2, k3, k4, k5, k6⟩ := may_nor hd
      have HD := Lib.hid hd
      clear hd
      obtain ⟨nx, hnx⟩ : ∃ nx, norB s 64 m x = nx := ⟨_, rfl⟩
      rw [hnx] at k1 k2 k3 k4 k5 k6 HN
      go_wp2_with fail
      refine HN.out.mono ?_
      rintro e w3 ⟨A, n, c, rfl, -, hnr, hb3⟩
      have hnr := hnr (by trivial)
      obtain ⟨An, cn, hsh⟩ := rd_shape hnr
      rw [hsh] at hnr
      simp only [Value.slice.injEq] at hsh
      obtain ⟨rfl, rfl, rfl⟩ := hsh
      have N3 := below_new w3 (.cells #[.slice A nx.F.length c] 28)
      have T3 := heap_alloc_new w3 (.cells #[.slice A nx.F.length c] 28)
      have b3 := below_then hb3 N3
      have hb04 := below_then hb02 b3
      have Y1 := box_on Y1 b3
      have Y2 := box_on Y2 b3
      have hn4 := rd_up N3 hnr
      obtain ⟨z1, z2⟩ := box2' Y1
      have HN2 := Lib.hid (tnormal_any hin _ D _ _ m nx _ _ (Nat.le_refl _) (HS.out _ hb04) hn4 (k6 hxi) (by omega) (HT.out.on hb04))
      rw [k1, k2] at HN2
      clear y1 y2 y0 hnr
      go_wp2_with fail
      obtain ⟨W4, hW4⟩ : ∃ W, W = w3.alloc (.cells #[.slice A nx.F.length c] 28) := ⟨_, rfl⟩
      rw [← hW4] at N3 T3 b3 hb04 Y1 Y2 hn4 HN2 ⊢
      clear hW4 z1 z2
      refine HN2.out.mono ?_
      rintro e w5 ⟨A5, n5, c5, rfl, -, hkr, hb5⟩
      have hkr := hkr (by trivial)
      obtain ⟨Ak, ck, hsh⟩ := rd_shape hkr
      rw [hsh] at hkr
      simp only [Value.slice.injEq] at hsh
      obtain ⟨rfl, rfl, rfl⟩ := hsh
      have N5 := below_new w5 (.cells #[.slice A5 nx.F.length c5] 28)
      have T5 := heap_alloc_new w5 (.cells #[.slice A5 nx.F.length c5] 28)
      have b5 := below_then hb5 N5
      have hb06 := below_then hb04 b5
      have Y1 := box_on Y1 b5
      have Y2 := box_on Y2 b5
      have T3 := box_on T3 b5
      have hn6 := rd_up b5 hn4
      have hk6 := rd_up N5 hkr
      obtain ⟨W6, hW6⟩ : ∃ W, W = w5.alloc (.cells #[.slice A5 nx.F.length c5] 28) := ⟨_, rfl⟩
      rw [← hW6] at N5 T5 b5 hb06 Y1 Y2 T3 hn6 hk6
      have hD : Below W6.heap.size W6 W6.drew := (Below.refl _ _).drew
      have HSX : Hid (∀ wx, Below W6.heap.size W6 wx → (wx.cell? ⟨w.heap.size, 0, none⟩ = some (.slice A1 s.M.length q1) ∧ wx.cell? ⟨w.heap.size, 1, none⟩ = some (.slice A2 s.E.length q2)) ∧ wx.cell? ⟨w.heap.size + 1, 0, none⟩ = some (.slice Ax x.F.length cx) ∧ wx.cell? ⟨w3.heap.size, 0, none⟩ = some (.slice A nx.F.length c) ∧ wx.cell? ⟨w5.heap.size, 0, none⟩ = some (.slice A5 nx.F.length c5)) := Lib.hid (fun wx hx => ⟨box2' (box_on Y1 hx), bx1 (box_on Y2 hx), bx1 (box_on T3 hx), bx1 (box_on T5 hx)⟩)
      have HB := Lib.hid (fun wx (hx : Below W6.heap.size W6 wx) => below_then hb06 hx)
      have HNX := Lib.hid (fun wx (hx : Below W6.heap.size W6 wx) => rd_up hx hn6)
      have HKX := Lib.hid (fun wx (hx : Below W6.heap.size W6 wx) => rd_up hx hk6)
      have HI := Lib.hid (fun wx (hx : Below W6.heap.size W6 wx) => tis_any hin _ D _ _ m nx _ wx (Nat.le_refl _) (HS.out _ (HB.out _ hx)) (HNX.out _ hx) (k6 hxi) (by omega) (HT.out.on (HB.out _ hx)))
      rw [k1, k2, eqB_yes rfl] at HI
      have hsx := size_le_cnt x
      have HSA := Lib.hid (fun wx (hx : Below W6.heap.size W6 wx) => rsame_any9 _ D nx nx _ _ wx (Nat.le_refl _) (HKX.out _ hx) (HNX.out _ hx))
      rw [eqB_yes rfl] at HSA
      have HD1 := Lib.hid (fun wx (hx : Below W6.heap.size W6 wx) => deep_any _ D nx _ wx (Nat.le_refl _) (HNX.out _ hx) (by omega))
      have HD2 := Lib.hid (fun wx (hx : Below W6.heap.size W6 wx) => deep_any _ D x _ wx (Nat.le_refl _) (HG.out _ (HB.out _ hx)) (by omega))
      have HZ1 := Lib.hid (fun wx (hx : Below W6.heap.size W6 wx) => size_any _ D nx _ wx (Nat.le_refl _) (HNX.out _ hx) (by omega))
      have HZ2 := Lib.hid (fun wx (hx : Below W6.heap.size W6 wx) => size_any _ D x _ wx (Nat.le_refl _) (HG.out _ (HB.out _ hx)) (by omega))
      have HM6 := Lib.hid (fun wx (hx : Below W6.heap.size W6 wx) => HM.out wx (HB.out _ hx))
      have de1 : decide ((nx.deep : Int) ≤ (x.deep : Int)) = true := decide_eq_true (by omega)
      have de2 : decide (nx.deep ≤ x.deep) = true := decide_eq_true k3
      have de3 : decide ((nx.size : Int) ≤ (x.size : Int)) = true := decide_eq_true (by omega)
      have de4 : decide (nx.size ≤ x.size) = true := decide_eq_true k4
      clear k1 k2 k3 k4 k5 k6 hnx hn4 hkr hn6 hk6 Y1 Y2 T3 T5 b5 hb5 N5 N3 hb06
      go_wp2_with fail
      rw [← hW6]
      clear hW6
      refine wp_region_held_drew (S := (fun wx => (wx.cell? ⟨w.heap.size, 0, none⟩ = some (.slice A1 s.M.length q1) ∧ wx.cell? ⟨w.heap.size, 1, none⟩ = some (.slice A2 s.E.length q2)) ∧ wx.cell? ⟨w.heap.size + 1, 0, none⟩ = some (.slice Ax x.F.length cx) ∧ wx.cell? ⟨w3.heap.size, 0, none⟩ = some (.slice A nx.F.length c) ∧ wx.cell? ⟨w5.heap.size, 0, none⟩ = some (.slice A5 nx.F.length c5))) (by kernel_rfl) (HSX.out _ hD) (fun hHeld => ?_)
      refine wpAnyH_take (i := 0) (oi := { dst := some 51, op := Go.Op.load 25 (Go.Operand.tmp 3), type := 25, pos := "law.go:51", after := #[], guard := none }) (v := ?_) rfl (by kernel_rfl) (by kernel_rfl) (by kernel_rfl) (fun _ _ _ h => h) (Or.inl ⟨by rfl, ?_⟩) hHeld ?_
      rotate_left
      · intro w hSw
        (try dsimp only at hSw)
        go_simp
        all_goals with_reducible rfl
      (try simp only [Act.put, List.setIfInBounds_toArray, List.set_cons_zero, List.set_cons_succ])
      refine wpAnyH_take (i := 1) (oi := { dst := some 52, op := Go.Op.move (Go.Operand.tmp 1), type := 3, pos := "law.go:51", after := #[], guard := none }) (v := ?_) rfl (by kernel_rfl) (by kernel_rfl) (by kernel_rfl) (fun _ _ _ h => h) (Or.inl ⟨by rfl, ?_⟩) hHeld ?_
      rotate_left
      · intro w hSw
        (try dsimp only at hSw)
        go_simp
        all_goals with_reducible rfl
      (try simp only [Act.put, List.setIfInBounds_toArray, List.set_cons_zero, List.set_cons_succ])
      refine wpAnyH_take (i := 2) (oi := { dst := some 53, op := Go.Op.load 28 (Go.Operand.tmp 9), type := 28, pos := "law.go:51", after := #[], guard := none }) (v := ?_) rfl (by kernel_rfl) (by kernel_rfl) (by kernel_rfl) (fun _ _ _ h => h) (Or.inl ⟨by rfl, ?_⟩) hHeld ?_
      rotate_left
      · intro w hSw
        (try dsimp only at hSw)
        go_simp
        all_goals with_reducible rfl
      (try simp only [Act.put, List.setIfInBounds_toArray, List.set_cons_zero, List.set_cons_succ])
      refine wpAnyH_ready (rs := [3]) (by kernel_rfl) (by simp) ?_
      refine AllReadyH.cons (o := { dst := some 54, op := Go.Op.call { callee := Go.Callee.value (Go.Operand.func 23), args := #[Go.Operand.tmp 51, Go.Operand.tmp 52, Go.Operand.tmp 53], argTypes := #[25, 3, 28] }, type := 4, pos := "law.go:51", after := #[{ on := 0, ground := Go.Ground.data }, { on := 1, ground := Go.Ground.data }, { on := 2, ground := Go.Ground.data }], guard := none }) rfl (fun K hK => ?_) AllReadyH.nil
      go_simp
      (go_at_call 23; (with_reducible refine (HI.out _ hD).mono ?_); rintro e v1 ⟨rfl, hv1⟩; have L1 := below_then hD hv1)
      go_wp2_with fail
      refine hK.out _ _ (HSX.out _ L1) (fun hHeld => ?_)
      clear hK K
      (try simp only [Act.put, List.setIfInBounds_toArray, List.set_cons_zero, List.set_cons_succ])
      refine wpAnyH_take (i := 4) (oi := { dst := some 55, op := Go.Op.move (Go.Operand.tmp 54), type := 4, pos := "law.go:51", after := #[{ on := 3, ground := Go.Ground.data }, { on := 3, ground := Go.Ground.chain }], guard := none }) (v := ?_) rfl (by kernel_rfl) (by kernel_rfl) (by kernel_rfl) (fun _ _ _ h => h) (Or.inl ⟨by rfl, ?_⟩) hHeld ?_
      rotate_left
      · intro w hSw
        (try dsimp only at hSw)
        go_simp
        all_goals with_reducible rfl
      (try simp only [Act.put, List.setIfInBounds_toArray, List.set_cons_zero, List.set_cons_succ])
      refine wpAnyH_take (i := 5) (oi := { dst := some 56, op := Go.Op.move (Go.Operand.tmp 12), type := 4, pos := "law.go:51", after := #[{ on := 4, ground := Go.Ground.guard }], guard := some (4, true) }) (v := ?_) rfl (by kernel_rfl) (by kernel_rfl) (by kernel_rfl) (fun _ _ _ h => h) (Or.inl ⟨by rfl, ?_⟩) hHeld ?_
      rotate_left
      · intro w hSw
        (try dsimp only at hSw)
        go_simp
        all_goals with_reducible rfl
      (try simp only [Act.put, List.setIfInBounds_toArray, List.set_cons_zero, List.set_cons_succ])
      refine wpAnyH_take (i := 6) (oi := { dst := some 57, op := Go.Op.pick (Go.Operand.tmp 55) (Go.Operand.tmp 56) (Go.Operand.const (Go.Value.bool false)), type := 4, pos := "law.go:51", after := #[{ on := 4, ground := Go.Ground.data }, { on := 5, ground := Go.Ground.data }], guard := none }) (v := ?_) rfl (by kernel_rfl) (by kernel_rfl) (by kernel_rfl) (fun _ _ _ h => h) (Or.inl ⟨by rfl, ?_⟩) hHeld ?_
      rotate_left
      · intro w hSw
        (try dsimp only at hSw)
        go_simp
        all_goals with_reducible rfl
      (try simp only [Act.put, List.setIfInBounds_toArray, List.set_cons_zero, List.set_cons_succ])
      refine wpAnyH_take (i := 7) (oi := { dst := some 58, op := Go.Op.move (Go.Operand.tmp 57), type := 4, pos := "law.go:51", after := #[{ on := 6, ground := Go.Ground.data }, { on := 4, ground := Go.Ground.chain }], guard := none }) (v := ?_) rfl (by kernel_rfl) (by kernel_rfl) (by kernel_rfl) (fun _ _ _ h => h) (Or.inl ⟨by rfl, ?_⟩) hHeld ?_
      rotate_left
      · intro w hSw
        (try dsimp only at hSw)
        go_simp
        all_goals with_reducible rfl
      (try simp only [Act.put, List.setIfInBounds_toArray, List.set_cons_zero, List.set_cons_succ])
      refine wpAnyH_take (i := 8) (oi := { dst := some 59, op := Go.Op.load 28 (Go.Operand.tmp 11), type := 28, pos := "law.go:51", after := #[{ on := 7, ground := Go.Ground.guard }], guard := some (7, true) }) (v := ?_) rfl (by kernel_rfl) (by kernel_rfl) (by kernel_rfl) (fun _ _ _ h => h) (Or.inl ⟨by rfl, ?_⟩) hHeld ?_
      rotate_left
      · intro w hSw
        (try dsimp only at hSw)
        go_simp
        all_goals with_reducible rfl
      (try simp only [Act.put, List.setIfInBounds_toArray, List.set_cons_zero, List.set_cons_succ])
      refine wpAnyH_take (i := 9) (oi := { dst := some 60, op := Go.Op.load 28 (Go.Operand.tmp 9), type := 28, pos := "law.go:51", after := #[{ on := 7, ground := Go.Ground.guard }], guard := some (7, true) }) (v := ?_) rfl (by kernel_rfl) (by kernel_rfl) (by kernel_rfl) (fun _ _ _ h => h) (Or.inl ⟨by rfl, ?_⟩) hHeld ?_
      rotate_left
      · intro w hSw
        (try dsimp only at hSw)
        go_simp
        all_goals with_reducible rfl
      (try simp only [Act.put, List.setIfInBounds_toArray, List.set_cons_zero, List.set_cons_succ])
      refine wpAnyH_ready (rs := [10]) (by kernel_rfl) (by simp) ?_
      refine AllReadyH.cons (o := { dst := some 61, op := Go.Op.call { callee := Go.Callee.value (Go.Operand.func 20), args := #[Go.Operand.tmp 59, Go.Operand.tmp 60], argTypes := #[28, 28] }, type := 4, pos := "law.go:51", after := #[{ on := 8, ground := Go.Ground.data }, { on := 9, ground := Go.Ground.data }, { on := 7, ground := Go.Ground.chain }, { on := 7, ground := Go.Ground.guard }], guard := some (7, true) }) rfl (fun K hK => ?_) AllReadyH.nil
      go_simp
      (go_at_call 20; (with_reducible refine (HSA.out _ L1).mono ?_); rintro e v2 ⟨rfl, hv2⟩; have L2 := below_then L1 hv2)
      go_wp2_with fail
      refine hK.out _ _ (HSX.out _ L2) (fun hHeld => ?_)
      clear hK K
      (try simp only [Act.put, List.setIfInBounds_toArray, List.set_cons_zero, List.set_cons_succ])
      refine wpAnyH_take (i := 11) (oi := { dst := some 62, op := Go.Op.pick (Go.Operand.tmp 58) (Go.Operand.tmp 61) (Go.Operand.const (Go.Value.bool false)), type := 4, pos := "law.go:51", after := #[{ on := 7, ground := Go.Ground.data }, { on := 10, ground := Go.Ground.data }], guard := none }) (v := ?_) rfl (by kernel_rfl) (by kernel_rfl) (by kernel_rfl) (fun _ _ _ h => h) (Or.inl ⟨by rfl, ?_⟩) hHeld ?_
      rotate_left
      · intro w hSw
        (try dsimp only at hSw)
        go_simp
        all_goals with_reducible rfl
      (try simp only [Act.put, List.setIfInBounds_toArray, List.set_cons_zero, List.set_cons_succ])
      refine wpAnyH_take (i := 12) (oi := { dst := some 63, op := Go.Op.move (Go.Operand.tmp 62), type := 4, pos := "law.go:51", after := #[{ on := 11, ground := Go.Ground.data }, { on := 10, ground := Go.Ground.chain }], guard := none }) (v := ?_) rfl (by kernel_rfl) (by kernel_rfl) (by kernel_rfl) (fun _ _ _ h => h) (Or.inl ⟨by rfl, ?_⟩) hHeld ?_
      rotate_left
      · intro w hSw
        (try dsimp only at hSw)
        go_simp
        all_goals with_reducible rfl
      (try simp only [Act.put, List.setIfInBounds_toArray, List.set_cons_zero, List.set_cons_succ])
      refine wpAnyH_take (i := 13) (oi := { dst := some 64, op := Go.Op.load 28 (Go.Operand.tmp 9), type := 28, pos := "law.go:51", after := #[{ on := 12, ground := Go.Ground.guard }], guard := some (12, true) }) (v := ?_) rfl (by kernel_rfl) (by kernel_rfl) (by kernel_rfl) (fun _ _ _ h => h) (Or.inl ⟨by rfl, ?_⟩) hHeld ?_
      rotate_left
      · intro w hSw
        (try dsimp only at hSw)
        go_simp
        all_goals with_reducible rfl
      (try simp only [Act.put, List.setIfInBounds_toArray, List.set_cons_zero, List.set_cons_succ])
      refine wpAnyH_take (i := 15) (oi := { dst := some 66, op := Go.Op.load 28 (Go.Operand.tmp 5), type := 28, pos := "law.go:51", after := #[{ on := 12, ground := Go.Ground.guard }], guard := some (12, true) }) (v := ?_) rfl (by kernel_rfl) (by kernel_rfl) (by kernel_rfl) (fun _ _ _ h => h) (Or.inl ⟨by rfl, ?_⟩) hHeld ?_
      rotate_left
      · intro w hSw
        (try dsimp only at hSw)
        go_simp
        all_goals with_reducible rfl
      (try simp only [Act.put, List.setIfInBounds_toArray, List.set_cons_zero, List.set_cons_succ])
      refine wpAnyH_ready (rs := [14]) (by kernel_rfl) (by simp) ?_
      refine AllReadyH.cons (o := { dst := some 65, op := Go.Op.call { callee := Go.Callee.value (Go.Operand.func 27), args := #[Go.Operand.tmp 64], argTypes := #[28] }, type := 3, pos := "law.go:51", after := #[{ on := 13, ground := Go.Ground.data }, { on := 12, ground := Go.Ground.chain }, { on := 12, ground := Go.Ground.guard }], guard := some (12, true) }) rfl (fun K hK => ?_) AllReadyH.nil
      go_simp
      (go_at_call 27; (with_reducible refine (HD1.out _ L2).mono ?_); rintro e v3 ⟨rfl, hv3⟩; have L3 := below_then L2 hv3)
      go_wp2_with fail
      refine hK.out _ _ (HSX.out _ L3) (fun hHeld => ?_)
      clear hK K
      (try simp only [Act.put, List.setIfInBounds_toArray, List.set_cons_zero, List.set_cons_succ])
      refine wpAnyH_ready (rs := [16]) (by kernel_rfl) (by simp) ?_
      refine AllReadyH.cons (o := { dst := some 67, op := Go.Op.call { callee := Go.Callee.value (Go.Operand.func 27), args := #[Go.Operand.tmp 66], argTypes := #[28] }, type := 3, pos := "law.go:51", after := #[{ on := 15, ground := Go.Ground.data }, { on := 14, ground := Go.Ground.chain }, { on := 12, ground := Go.Ground.guard }], guard := some (12, true) }) rfl (fun K hK => ?_) AllReadyH.nil
      go_simp
      (go_at_call 27; (with_reducible refine (HD2.out _ L3).mono ?_); rintro e v4 ⟨rfl, hv4⟩; have L4 := below_then L3 hv4)
      go_wp2_with fail
      refine hK.out _ _ (HSX.out _ L4) (fun hHeld => ?_)
      clear hK K
      (try simp only [Act.put, List.setIfInBounds_toArray, List.set_cons_zero, List.set_cons_succ])
      refine wpAnyH_take (i := 17) (oi := { dst := some 68, op := Go.Op.binOp Go.BinOp.leq 3 (Go.Operand.tmp 65) (Go.Operand.tmp 67) 3, type := 4, pos := "law.go:51", after := #[{ on := 14, ground := Go.Ground.data }, { on := 16, ground := Go.Ground.data }, { on := 12, ground := Go.Ground.guard }], guard := some (12, true) }) (v := ?_) rfl (by kernel_rfl) (by kernel_rfl) (by kernel_rfl) (fun _ _ _ h => h) (Or.inl ⟨by rfl, ?_⟩) hHeld ?_
      rotate_left
      · intro w hSw
        (try dsimp only at hSw)
        go_simp
        all_goals with_reducible rfl
      (try simp only [Act.put, List.setIfInBounds_toArray, List.set_cons_zero, List.set_cons_succ])
      refine wpAnyH_take (i := 18) (oi := { dst := some 69, op := Go.Op.pick (Go.Operand.tmp 63) (Go.Operand.tmp 68) (Go.Operand.const (Go.Value.bool false)), type := 4, pos := "law.go:51", after := #[{ on := 12, ground := Go.Ground.data }, { on := 17, ground := Go.Ground.data }], guard := none }) (v := ?_) rfl (by kernel_rfl) (by kernel_rfl) (by kernel_rfl) (fun _ _ _ h => h) (Or.inl ⟨by rfl, ?_⟩) hHeld ?_
      rotate_left
      · intro w hSw
        (try dsimp only at hSw)
        go_simp
        all_goals with_reducible rfl
      (try simp only [Act.put, List.setIfInBounds_toArray, List.set_cons_zero, List.set_cons_succ])
      refine wpAnyH_take (i := 19) (oi := { dst := some 70, op := Go.Op.move (Go.Operand.tmp 69), type := 4, pos := "law.go:51", after := #[{ on := 18, ground := Go.Ground.data }, { on := 16, ground := Go.Ground.chain }], guard := none }) (v := ?_) rfl (by kernel_rfl) (by kernel_rfl) (by kernel_rfl) (fun _ _ _ h => h) (Or.inl ⟨by rfl, ?_⟩) hHeld ?_
      rotate_left
      · intro w hSw
        (try dsimp only at hSw)
        go_simp
        all_goals with_reducible rfl
      (try simp only [Act.put, List.setIfInBounds_toArray, List.set_cons_zero, List.set_cons_succ])
      refine wpAnyH_take (i := 20) (oi := { dst := some 71, op := Go.Op.load 28 (Go.Operand.tmp 9), type := 28, pos := "law.go:51", after := #[{ on := 19, ground := Go.Ground.guard }], guard := some (19, true) }) (v := ?_) rfl (by kernel_rfl) (by kernel_rfl) (by kernel_rfl) (fun _ _ _ h => h) (Or.inl ⟨by rfl, ?_⟩) hHeld ?_
      rotate_left
      · intro w hSw
        (try dsimp only at hSw)
        go_simp
        all_goals with_reducible rfl
      (try simp only [Act.put, List.setIfInBounds_toArray, List.set_cons_zero, List.set_cons_succ])
      refine wpAnyH_take (i := 22) (oi := { dst := some 73, op := Go.Op.load 28 (Go.Operand.tmp 5), type := 28, pos := "law.go:51", after := #[{ on := 19, ground := Go.Ground.guard }], guard := some (19, true) }) (v := ?_) rfl (by kernel_rfl) (by kernel_rfl) (by kernel_rfl) (fun _ _ _ h => h) (Or.inl ⟨by rfl, ?_⟩) hHeld ?_
      rotate_left
      · intro w hSw
        (try dsimp only at hSw)
        go_simp
        all_goals with_reducible rfl
      (try simp only [Act.put, List.setIfInBounds_toArray, List.set_cons_zero, List.set_cons_succ])
      refine wpAnyH_ready (rs := [21]) (by kernel_rfl) (by simp) ?_
      refine AllReadyH.cons (o := { dst := some 72, op := Go.Op.call { callee := Go.Callee.value (Go.Operand.func 28), args := #[Go.Operand.tmp 71], argTypes := #[28] }, type := 3, pos := "law.go:51", after := #[{ on := 20, ground := Go.Ground.data }, { on := 19, ground := Go.Ground.chain }, { on := 19, ground := Go.Ground.guard }], guard := some (19, true) }) rfl (fun K hK => ?_) AllReadyH.nil
      go_simp
      (go_at_call 28; (with_reducible refine (HZ1.out _ L4).mono ?_); rintro e v5 ⟨rfl, hv5⟩; have L5 := below_then L4 hv5)
      go_wp2_with fail
      refine hK.out _ _ (HSX.out _ L5) (fun hHeld => ?_)
      clear hK K
      (try simp only [Act.put, List.setIfInBounds_toArray, List.set_cons_zero, List.set_cons_succ])
      refine wpAnyH_ready (rs := [23]) (by kernel_rfl) (by simp) ?_
      refine AllReadyH.cons (o := { dst := some 74, op := Go.Op.call { callee := Go.Callee.value (Go.Operand.func 28), args := #[Go.Operand.tmp 73], argTypes := #[28] }, type := 3, pos := "law.go:51", after := #[{ on := 22, ground := Go.Ground.data }, { on := 21, ground := Go.Ground.chain }, { on := 19, ground := Go.Ground.guard }], guard := some (19, true) }) rfl (fun K hK => ?_) AllReadyH.nil
      go_simp
      (go_at_call 28; (with_reducible refine (HZ2.out _ L5).mono ?_); rintro e v6 ⟨rfl, hv6⟩; have L6 := below_then L5 hv6)
      go_wp2_with fail
      refine hK.out _ _ (HSX.out _ L6) (fun hHeld => ?_)
      clear hK K
      (try simp only [Act.put, List.setIfInBounds_toArray, List.set_cons_zero, List.set_cons_succ])
      refine wpAnyH_take (i := 24) (oi := { dst := some 75, op := Go.Op.binOp Go.BinOp.leq 3 (Go.Operand.tmp 72) (Go.Operand.tmp 74) 3, type := 4, pos := "law.go:51", after := #[{ on := 21, ground := Go.Ground.data }, { on := 23, ground := Go.Ground.data }, { on := 19, ground := Go.Ground.guard }], guard := some (19, true) }) (v := ?_) rfl (by kernel_rfl) (by kernel_rfl) (by kernel_rfl) (fun _ _ _ h => h) (Or.inl ⟨by rfl, ?_⟩) hHeld ?_
      rotate_left
      · intro w hSw
        (try dsimp only at hSw)
        go_simp
        all_goals with_reducible rfl
      (try simp only [Act.put, List.setIfInBounds_toArray, List.set_cons_zero, List.set_cons_succ])
      refine wpAnyH_take (i := 25) (oi := { dst := some 76, op := Go.Op.pick (Go.Operand.tmp 70) (Go.Operand.tmp 75) (Go.Operand.const (Go.Value.bool false)), type := 4, pos := "law.go:51", after := #[{ on := 19, ground := Go.Ground.data }, { on := 24, ground := Go.Ground.data }], guard := none }) (v := ?_) rfl (by kernel_rfl) (by kernel_rfl) (by kernel_rfl) (fun _ _ _ h => h) (Or.inl ⟨by rfl, ?_⟩) hHeld ?_
      rotate_left
      · intro w hSw
        (try dsimp only at hSw)
        go_simp
        all_goals with_reducible rfl
      (try simp only [Act.put, List.setIfInBounds_toArray, List.set_cons_zero, List.set_cons_succ])
      refine wpAnyH_take (i := 26) (oi := { dst := some 77, op := Go.Op.move (Go.Operand.tmp 76), type := 4, pos := "law.go:51", after := #[{ on := 25, ground := Go.Ground.data }, { on := 23, ground := Go.Ground.chain }], guard := none }) (v := ?_) rfl (by kernel_rfl) (by kernel_rfl) (by kernel_rfl) (fun _ _ _ h => h) (Or.inl ⟨by rfl, ?_⟩) hHeld ?_
      rotate_left
      · intro w hSw
        (try dsimp only at hSw)
        go_simp
        all_goals with_reducible rfl
      (try simp only [Act.put, List.setIfInBounds_toArray, List.set_cons_zero, List.set_cons_succ])
      refine wpAnyH_take (i := 27) (oi := { dst := some 78, op := Go.Op.load 25 (Go.Operand.tmp 3), type := 25, pos := "law.go:51", after := #[{ on := 26, ground := Go.Ground.guard }], guard := some (26, true) }) (v := ?_) rfl (by kernel_rfl) (by kernel_rfl) (by kernel_rfl) (fun _ _ _ h => h) (Or.inl ⟨by rfl, ?_⟩) hHeld ?_
      rotate_left
      · intro w hSw
        (try dsimp only at hSw)
        go_simp
        all_goals with_reducible rfl
      (try simp only [Act.put, List.setIfInBounds_toArray, List.set_cons_zero, List.set_cons_succ])
      refine wpAnyH_take (i := 28) (oi := { dst := some 79, op := Go.Op.move (Go.Operand.tmp 1), type := 3, pos := "law.go:51", after := #[{ on := 26, ground := Go.Ground.guard }], guard := some (26, true) }) (v := ?_) rfl (by kernel_rfl) (by kernel_rfl) (by kernel_rfl) (fun _ _ _ h => h) (Or.inl ⟨by rfl, ?_⟩) hHeld ?_
      rotate_left
      · intro w hSw
        (try dsimp only at hSw)
        go_simp
        all_goals with_reducible rfl
      (try simp only [Act.put, List.setIfInBounds_toArray, List.set_cons_zero, List.set_cons_succ])
      refine wpAnyH_take (i := 29) (oi := { dst := some 80, op := Go.Op.load 28 (Go.Operand.tmp 5), type := 28, pos := "law.go:51", after := #[{ on := 26, ground := Go.Ground.guard }], guard := some (26, true) }) (v := ?_) rfl (by kernel_rfl) (by kernel_rfl) (by kernel_rfl) (fun _ _ _ h => h) (Or.inl ⟨by rfl, ?_⟩) hHeld ?_
      rotate_left
      · intro w hSw
        (try dsimp only at hSw)
        go_simp
        all_goals with_reducible rfl
      (try simp only [Act.put, List.setIfInBounds_toArray, List.set_cons_zero, List.set_cons_succ])
      refine wpAnyH_ready (rs := [30]) (by kernel_rfl) (by simp) ?_
      refine AllReadyH.cons (o := { dst := some 81, op := Go.Op.call { callee := Go.Callee.value (Go.Operand.func 21), args := #[Go.Operand.tmp 78, Go.Operand.tmp 79, Go.Operand.tmp 80], argTypes := #[25, 3, 28] }, type := 4, pos := "law.go:51", after := #[{ on := 27, ground := Go.Ground.data }, { on := 28, ground := Go.Ground.data }, { on := 29, ground := Go.Ground.data }, { on := 26, ground := Go.Ground.chain }, { on := 26, ground := Go.Ground.guard }], guard := some (26, true) }) rfl (fun K hK => ?_) AllReadyH.nil
      go_simp
      (go_at_call 21; (with_reducible refine (HM6.out _ L6).mono ?_); rintro e v7 ⟨rfl, hv7⟩; have L7 := below_then L6 hv7)
      go_wp2_with fail
      refine hK.out _ _ (HSX.out _ L7) (fun hHeld => ?_)
      clear hK K
      (try simp only [Act.put, List.setIfInBounds_toArray, List.set_cons_zero, List.set_cons_succ])
      refine wpAnyH_take (i := 31) (oi := { dst := some 82, op := Go.Op.pick (Go.Operand.tmp 77) (Go.Operand.tmp 81) (Go.Operand.const (Go.Value.bool false)), type := 4, pos := "law.go:51", after := #[{ on := 26, ground := Go.Ground.data }, { on := 30, ground := Go.Ground.data }], guard := none }) (v := ?_) rfl (by kernel_rfl) (by kernel_rfl) (by kernel_rfl) (fun _ _ _ h => h) (Or.inl ⟨by rfl, ?_⟩) hHeld ?_
      rotate_left
      · intro w hSw
        (try dsimp only at hSw)
        go_simp
        all_goals with_reducible rfl
      (try simp only [Act.put, List.setIfInBounds_toArray, List.set_cons_zero, List.set_cons_succ])
      refine wpAnyH_take (i := 32) (oi := { dst := some 6, op := Go.Op.assign (Go.Operand.tmp 82), type := 4, pos := "law.go:51", after := #[{ on := 31, ground := Go.Ground.data }, { on := 30, ground := Go.Ground.chain }, { on := 0, ground := Go.Ground.phase }, { on := 1, ground := Go.Ground.phase }, { on := 2, ground := Go.Ground.phase }, { on := 3, ground := Go.Ground.phase }, { on := 4, ground := Go.Ground.phase }, { on := 5, ground := Go.Ground.phase }, { on := 6, ground := Go.Ground.phase }, { on := 7, ground := Go.Ground.phase }, { on := 8, ground := Go.Ground.phase }, { on := 9, ground := Go.Ground.phase }, { on := 10, ground := Go.Ground.phase }, { on := 11, ground := Go.Ground.phase }, { on := 12, ground := Go.Ground.phase }, { on := 13, ground := Go.Ground.phase }, { on := 14, ground := Go.Ground.phase }, { on := 15, ground := Go.Ground.phase }, { on := 16, ground := Go.Ground.phase }, { on := 17, ground := Go.Ground.phase }, { on := 18, ground := Go.Ground.phase }, { on := 19, ground := Go.Ground.phase }, { on := 20, ground := Go.Ground.phase }, { on := 21, ground := Go.Ground.phase }, { on := 22, ground := Go.Ground.phase }, { on := 23, ground := Go.Ground.phase }, { on := 24, ground := Go.Ground.phase }, { on := 25, ground := Go.Ground.phase }, { on := 26, ground := Go.Ground.phase }, { on := 27, ground := Go.Ground.phase }, { on := 28, ground := Go.Ground.phase }, { on := 29, ground := Go.Ground.phase }, { on := 30, ground := Go.Ground.phase }, { on := 31, ground := Go.Ground.phase }], guard := none }) (v := ?_) rfl (by kernel_rfl) (by kernel_rfl) (by kernel_rfl) (fun _ _ _ h => h) (Or.inl ⟨by rfl, ?_⟩) hHeld ?_
      rotate_left
      · intro w hSw
        (try dsimp only at hSw)
        go_simp
        all_goals with_reducible rfl
      (try simp only [Act.put, List.setIfInBounds_toArray, List.set_cons_zero, List.set_cons_succ])
      refine wpAnyH_done (by kernel_rfl) ?_ _
      go_wp2
      go_ret
      exact ⟨rfl, HB.out _ L7⟩
end Go.Proofs.YtggcjdajmbkpiaaGreatDoor.T9.lawTypedNormal
