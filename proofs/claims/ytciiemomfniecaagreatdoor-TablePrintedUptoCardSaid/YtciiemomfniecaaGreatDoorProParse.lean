/-
  What a byte begins: the contract of the function that lays it in a map of functions.
-/
import Derived.Test.YtciiemomfniecaaGreatDoorTokRead
import Derived.Maps.OwnSet
import Derived.Deep.RegionHeldLaw
import Derived.Deep.QuietTactic
import Derived.Test.YtciiemomfniecaaGreatDoorProOnes
namespace Go.Proofs.YtciiemomfniecaaGreatDoor
set_option maxRecDepth 100000

open Go.RowKit Go.Maps

/-- A function as an element of a map. -/
def fnElem (v : Value) : Option (DataW Unit × List MemPlace) := match v with
  | .func (.func k) a b => if a = #[] ∧ b = #[] then some (.lit (.int .i64 k), []) else none
  | .nilFunc => some (.lit (.int .i64 (-1)), [])
  | _ => none
def fv (k : Nat) : Value := .func (.func k) #[] #[]
theorem fnElem_fv (k : Nat) : fnElem (fv k) = some (.lit (.int .i64 k), []) := by simp [fnElem, fv]
theorem fnElem_nil : fnElem .nilFunc = some (.lit (.int .i64 (-1)), []) := rfl
theorem fnElem_inv {v : Value} {k : Nat} {ps : List MemPlace} (h : fnElem v = some (.lit (.int .i64 k), ps)) : v = fv k := by
  unfold fnElem at h
  split at h
  · split at h
    · rename_i k' a b hab
      simp only [Option.some.injEq, Prod.mk.injEq, DataW.lit.injEq, Lit.int.injEq, true_and] at h
      obtain ⟨h1, _⟩ := h
      have : k' = k := Int.ofNat_inj.1 h1
      subst this
      rw [hab.1, hab.2]; rfl
    · cases h
  · simp only [Option.some.injEq, Prod.mk.injEq, DataW.lit.injEq, Lit.int.injEq, true_and] at h
    omega
  · cases h
def ky (c : UInt8) : Lit := .int .u8 (c.toNat : Int)
theorem ky_ne {a b : UInt8} (h : a ≠ b) : ky a ≠ ky b := by
  intro e
  simp only [ky, Lit.int.injEq, true_and] at e
  exact h (UInt8.toNat_inj.1 (by omega))
theorem ky_key (c : UInt8) : keyOf Tryz.prog 5 (.int .u8 (c.toNat : Int)) = some (ky c) := by
  have := c.toNat_lt
  exact keyOf_int_mk Tryz.underlying5 (by simp only [Lit.wf, Bool.and_eq_true, decide_eq_true_eq]; exact ⟨by show (0 : Int) ≤ _; omega, by show _ ≤ (255 : Int); omega⟩)
theorem ky_lit (c : UInt8) : WideAt.IsKeyLit (ky c) := by
  unfold ky
  trivial
def Knows (D : DataW Unit) (f : UInt8 → Option Nat) : Prop := IsMap D ∧ ∀ c, has D (ky c) = (f c).isSome ∧ ∀ k, f c = some k → D.atKey (ky c) (.lit (.int .i64 (-1))) = .lit (.int .i64 k)
def put1 (c : UInt8) (k : Nat) (f : UInt8 → Option Nat) : UInt8 → Option Nat := fun x => if x = c then some k else f x
theorem Knows.put {D : DataW Unit} {f : UInt8 → Option Nat} (h : Knows D f) (c : UInt8) (k : Nat) (hm : IsMap (D.put (ky c) (.lit (.int .i64 k)))) : Knows (D.put (ky c) (.lit (.int .i64 k))) (put1 c k f) := by
  refine ⟨hm, fun x => ?_⟩
  by_cases hx : x = c
  · subst hx
    rw [has_put_same h.1 (ky_lit x), atKey_put_same h.1 (ky_lit x)]
    simp [put1]
  · rw [has_put_other (ky_ne hx), atKey_put_other (ky_ne hx)]
    simp only [put1, hx, if_false]
    exact h.2 x
def MapIs (w : World) (b n : Nat) (f : UInt8 → Option Nat) : Prop := ∃ D, w.ownsMap Tryz.prog 5 fnElem b n D ∧ Knows D f
theorem MapIs.on {w w' : World} {b n : Nat} {f : UInt8 → Option Nat} (h : MapIs w b n f) (hb : Below w.heap.size w w') : MapIs w' b n f := by
  obtain ⟨D, ⟨es, clock, h1, h2⟩, h3⟩ := h
  exact ⟨D, ⟨es, clock, (hb.block b (Array.getElem?_eq_some_iff.1 h1).1).trans h1, h2⟩, h3⟩
theorem key_law : Keyed Tryz.prog 5 := int_keyed Tryz.underlying5
/-- What the map tells of a byte. -/
theorem MapIs.look {w : World} {b n : Nat} {f : UInt8 → Option Nat} (h : MapIs w b n f) (c : UInt8) :
    ∃ v, (Instr.lookup 176 (.map (some b)) (.int .u8 (c.toNat : Int)) true).run Tryz.prog w = .ok (.tuple #[v, .bool (f c).isSome]) w ∧ ∀ k, f c = some k → v = fv k := by
  obtain ⟨D, ho, hk⟩ := h
  have hz : ∀ w, (zeroValue 180).run Tryz.prog w = .ok .nilFunc w := fun w => by kernel_rfl
  obtain ⟨v, ps, hrun, hv⟩ := ho.look_ok key_law Tryz.underlying176 (hz _) fnElem_nil (ky_key c)
  obtain ⟨h1, h2⟩ := hk.2 c
  rw [h1] at hrun
  refine ⟨v, hrun, fun k hf => ?_⟩
  rw [h2 k hf] at hv
  exact fnElem_inv hv

theorem wpList_insert_own {H : Type} {P : Program} (w : World) {ops : Array Oper} {rest : List Oper} {o : Oper} {a : Act} {Q : Exit → Act → World → Prop}
    (hg : o.guard = none) (m x v : Operand) (t : TypeId) (hop : o.op = Op.insert t m x v)
    (k e : TypeId) (K : Keyed P k) (ht : P.underlying t = some (.map k e)) (R : Value → Option (DataW H × List MemPlace)) (b n : Nat) (D : DataW H)
    (hm : a.eval m = .map (some b)) (hown : w.ownsMap P k R b n D) (hn : n < maxLen) (key val : Value) (kl : Lit) (hx : a.eval x = key) (hv : a.eval v = val) (hkey : keyOf P k key = some kl)
    (d : DataW H) (ps : List MemPlace) (hval : R val = some (d, ps))
    (hK : ∀ w', w'.ownsMap P k R b (n + 1) (D.put kl d) → w.grownBy w' (some b) → wpList P ops Q rest (a.put o.dst undef) w') :
    wpList P ops Q (o :: rest) a w := by
  refine wpList_plain hg fun K' hK' => ?_
  obtain ⟨w', hrun, r1, r2⟩ := hown.update K ht hn hkey hval
  unfold Oper.wp
  simp [execOp, hop, hm, hx, hv, hrun, Result.andThen]
  exact hK' _ _ (hK w' r1 r2)
/-- .. stored: in the words of this text. -/
theorem wpList_insert_fn {w : World} {ops : Array Oper} {rest : List Oper} {o : Oper} {a : Act} {Q : Exit → Act → World → Prop}
    (hg : o.guard = none) (m x v : Operand) (hop : o.op = Op.insert 176 m x v) (b n : Nat) (f : UInt8 → Option Nat) (hm : a.eval m = .map (some b)) (hown : MapIs w b n f) (hn : n < 1000)
    (c : UInt8) (k : Nat) (hx : a.eval x = .int .u8 (c.toNat : Int)) (hv : a.eval v = fv k)
    (hK : ∀ w', MapIs w' b (n + 1) (put1 c k f) → w.grownBy w' (some b) → wpList Tryz.prog ops Q rest (a.put o.dst undef) w') : wpList Tryz.prog ops Q (o :: rest) a w := by
  obtain ⟨D, ho, hk⟩ := hown
  refine wpList_insert_own w hg m x v 176 hop 5 180 key_law Tryz.underlying176 fnElem b n D hm ho (by unfold maxLen; omega) _ _ (ky c) hx hv (ky_key c) _ [] (fnElem_fv k) ?_
  intro w' h1 h2
  exact hK w' ⟨_, h1, hk.put c k h1.isMap⟩ h2
theorem wpList_update_fn {w : World} {ops : Array Oper} {rest : List Oper} {o : Oper} {a : Act} {Q : Exit → Act → World → Prop}
    (hg : o.guard = none) (m x v : Operand) (hop : o.op = Op.mapUpdate 176 m x v) (b n : Nat) (f : UInt8 → Option Nat) (hm : a.eval m = .map (some b)) (hown : MapIs w b n f) (hn : n < 1000)
    (c : UInt8) (k : Nat) (hx : a.eval x = .int .u8 (c.toNat : Int)) (hv : a.eval v = fv k)
    (hK : ∀ w', MapIs w' b (n + 1) (put1 c k f) → w.grownBy w' (some b) → wpList Tryz.prog ops Q rest (a.put o.dst undef) w') : wpList Tryz.prog ops Q (o :: rest) a w := by
  obtain ⟨D, ho, hk⟩ := hown
  refine wpList_mapUpdate_own w hg m x v 176 hop 5 180 key_law Tryz.underlying176 fnElem b n D hm ho (by unfold maxLen; omega) _ _ (ky c) hx hv (ky_key c) _ [] (fnElem_fv k) ?_
  intro w' h1 h2
  exact hK w' ⟨_, h1, hk.put c k h1.isMap⟩ h2
theorem MapIs.mono {w : World} {b n n' : Nat} {f : UInt8 → Option Nat} (h : MapIs w b n f) (hn : n ≤ n') : MapIs w b n' f := by
  obtain ⟨D, ho, hk⟩ := h
  exact ⟨D, ho.mono hn, hk⟩
theorem MapIs.made (w : World) : MapIs (w.alloc (.map #[] 0)) w.heap.size 0 (fun _ => none) :=
  ⟨.map [], World.ownsMap_made w _ _ _, ⟨[], rfl⟩, fun c => ⟨rfl, fun k h => by cases h⟩⟩
/-- Bytes that are put for one function, one behind the other. -/
def puts (l : List UInt8) (k : Nat) (f : UInt8 → Option Nat) : UInt8 → Option Nat := fun x => if x ∈ l then some k else f x
theorem puts_snoc (l : List UInt8) (c : UInt8) (k : Nat) (f : UInt8 → Option Nat) : put1 c k (puts l k f) = puts (l ++ [c]) k f := by
  funext x
  simp only [put1, puts, List.mem_append, List.mem_singleton]
  by_cases h1 : x = c
  · simp [h1]
  · simp [h1]
theorem puts_nil (k : Nat) (f : UInt8 → Option Nat) : puts [] k f = f := by funext x; simp [puts]
def firstS : ByteArray := ⟨#[65, 66, 67, 68, 69, 70, 71, 72, 73, 74, 75, 76, 77, 78, 79, 80, 81, 82, 83, 84, 85, 86, 87, 88, 89, 90, 97, 98, 99, 100, 101, 102, 103, 104, 105, 106, 107, 108, 109, 110, 111, 112, 113, 114, 115, 116, 117, 118, 119, 120, 121, 122, 95]⟩
def readF : UInt8 → Option Nat :=
  puts signS.data.toList 136 (puts firstS.data.toList 135 (puts tenS.data.toList 134 (put1 45 134 (put1 34 133 fun _ => none))))
theorem take_next {l : List UInt8} {k : Nat} {c : UInt8} (h : l[k]? = some c) : l.take k ++ [c] = l.take (k + 1) := by
  rw [List.take_add_one, h]; rfl

set_option maxRecDepth 1000000 in
set_option maxHeartbeats 1000000 in
theorem readers_any (w : World) : Calls Tryz.prog 113 #[] w fun e w' => ∃ b, e = .returned (.map (some b)) ∧ MapIs w' b 100 readF ∧ Below w.heap.size w w' := by
  obtain ⟨S1, hS1⟩ : ∃ s, s = tenS := ⟨_, rfl⟩
  obtain ⟨S2, hS2⟩ : ∃ s, s = firstS := ⟨_, rfl⟩
  obtain ⟨S3, hS3⟩ : ∃ s, s = signS := ⟨_, rfl⟩
  have h1 : S1.size = 10 := by rw [hS1]; rfl
  have h2 : S2.size = 53 := by rw [hS2]; rfl
  have h3 : S3.size = 12 := by rw [hS3]; rfl
  have hR : readF = puts S3.data.toList 136 (puts S2.data.toList 135 (puts S1.data.toList 134 (put1 45 134 (put1 34 133 fun _ => none)))) := by
    rw [hS1, hS2, hS3]; rfl
  rw [hR]
  have G1 := Lib.hid (at_list S1)
  have G2 := Lib.hid (at_list S2)
  have G3 := Lib.hid (at_list S3)
  have l1 : S1.data.toList.length = S1.size := by simp
  have l2 : S2.data.toList.length = S2.size := by simp
  have l3 : S3.data.toList.length = S3.size := by simp
  generalize S1.data.toList = L1 at *
  generalize S2.data.toList = L2 at *
  generalize S3.data.toList = L3 at *
  have LL1 := Lib.hid l1
  have LL2 := Lib.hid l2
  have LL3 := Lib.hid l3
  clear hR l1 l2 l3
  have e1 : (⟨#[48, 49, 50, 51, 52, 53, 54, 55, 56, 57]⟩ : ByteArray) = S1 := hS1.symm
  have e2 : (⟨#[65, 66, 67, 68, 69, 70, 71, 72, 73, 74, 75, 76, 77, 78, 79, 80, 81, 82, 83, 84, 85, 86, 87, 88, 89, 90, 97, 98, 99, 100, 101, 102, 103, 104, 105, 106, 107, 108, 109, 110, 111, 112, 113, 114, 115, 116, 117, 118, 119, 120, 121, 122, 95]⟩ : ByteArray) = S2 := hS2.symm
  have e3 : (⟨#[123, 125, 40, 41, 91, 93, 60, 62, 61, 59, 44, 46]⟩ : ByteArray) = S3 := hS3.symm
  clear hS1 hS2 hS3
  have hmm := @run_makeMap Tryz.prog
  go_enter Tryz.func113, Tryz.ntmps113
  simp only [e1, e2, e3]
  clear e1 e2 e3
  go_wp2_with (first
    | (refine wpList_insert_fn rfl _ _ _ rfl w.heap.size 0 _ rfl (MapIs.made w) (by omega) 34 133 rfl rfl ?_; intro w1 hm1 hg1)
    | (refine wpList_insert_fn rfl _ _ _ rfl w.heap.size 1 _ rfl hm1 (by omega) 45 134 rfl rfl ?_; intro w2 hm2 hg2))
  have hb1 : Below w.heap.size w w1 := (below_new w (.map #[] 0)).grown hg1 (by simp) (fun k hk => by injection hk with hk; omega)
  have hb2 : Below w.heap.size w w2 := hb1.grown hg2 hb1.size (fun k hk => by injection hk with hk; omega)
  generalize hF0 : put1 45 134 (put1 34 133 fun _ => none) = F0 at *
  have HF0 := Lib.hid hF0
  clear hF0 hm1 hg1 hg2 hb1
  go_loopw [7] (fun i wr => ∃ k : Nat, i = .int .i64 k ∧ k ≤ 10 ∧ MapIs wr w.heap.size (2 + k) (puts (L1.take k) 134 F0) ∧ Below w.heap.size w wr) (fun i _ => 10 - (intOf i).toNat)
  case atStart => exact ⟨0, rfl, by omega, by rw [List.take_zero, puts_nil]; exact hm2, hb2⟩
  case round =>
    obtain ⟨k, rfl, hk, hm, hb⟩ := hrel
    by_cases g1 : k < 10
    · have g1' : k < S1.size := by omega
      have HT := Lib.hid (take_next (G1.out k g1'))
      go_wp2_with (refine wpList_update_fn rfl _ _ _ rfl w.heap.size (2 + k) _ rfl hm (by omega) (S1[k]'g1') 134 rfl rfl ?_; intro w3 hm3 hg3)
      rw [puts_snoc, HT.out] at hm3
      exact ⟨⟨k + 1, by go_num, by omega, by rw [show 2 + (k + 1) = 2 + k + 1 by omega]; exact hm3, hb.grown hg3 hb.size (fun q hq => by injection hq with hq; omega)⟩, by simp [intOf]; omega⟩
    · obtain rfl : k = 10 := by omega
      rw [List.take_of_length_le (by rw [LL1.out]; omega)] at hm
      generalize hF1 : puts L1 134 F0 = F1 at *
      have HF1 := Lib.hid hF1
      clear hF1
      go_wp2
      go_loopw [14] (fun i w5 => ∃ k : Nat, i = .int .i64 k ∧ k ≤ 53 ∧ MapIs w5 w.heap.size (12 + k) (puts (L2.take k) 135 F1) ∧ Below w.heap.size w w5) (fun i _ => 53 - (intOf i).toNat)
      case atStart => exact ⟨0, rfl, by omega, by rw [List.take_zero, puts_nil]; exact hm, hb⟩
      case round =>
        obtain ⟨k, rfl, hk, hm, hb⟩ := hrel
        by_cases g1 : k < 53
        · have g1' : k < S2.size := by omega
          have HT := Lib.hid (take_next (G2.out k g1'))
          go_wp2_with (refine wpList_update_fn rfl _ _ _ rfl w.heap.size (12 + k) _ rfl hm (by omega) (S2[k]'g1') 135 rfl rfl ?_; intro w3 hm3 hg3)
          rw [puts_snoc, HT.out] at hm3
          exact ⟨⟨_, _, _, _, _, _, _, _, ⟨k + 1, rfl, by omega, by rw [show 12 + (k + 1) = 12 + k + 1 by omega]; exact hm3, hb.grown hg3 hb.size (fun q hq => by injection hq with hq; omega)⟩, rfl⟩, by simp [intOf]; omega⟩
        · obtain rfl : k = 53 := by omega
          rw [List.take_of_length_le (by rw [LL2.out]; omega)] at hm
          generalize hF2 : puts L2 135 F1 = F2 at *
          have HF2 := Lib.hid hF2
          clear hF2
          go_wp2
          go_loopw [21] (fun i w5 => ∃ k : Nat, i = .int .i64 k ∧ k ≤ 12 ∧ MapIs w5 w.heap.size (65 + k) (puts (L3.take k) 136 F2) ∧ Below w.heap.size w w5) (fun i _ => 12 - (intOf i).toNat)
          case atStart => exact ⟨0, rfl, by omega, by rw [List.take_zero, puts_nil]; exact hm, hb⟩
          case round =>
            obtain ⟨k, rfl, hk, hm, hb⟩ := hrel
            by_cases g1 : k < 12
            · have g1' : k < S3.size := by omega
              have HT := Lib.hid (take_next (G3.out k g1'))
              go_wp2_with (refine wpList_update_fn rfl _ _ _ rfl w.heap.size (65 + k) _ rfl hm (by omega) (S3[k]'g1') 136 rfl rfl ?_; intro w3 hm3 hg3)
              rw [puts_snoc, HT.out] at hm3
              exact ⟨⟨_, _, _, _, _, _, _, _, ⟨k + 1, rfl, by omega, by rw [show 65 + (k + 1) = 65 + k + 1 by omega]; exact hm3, hb.grown hg3 hb.size (fun q hq => by injection hq with hq; omega)⟩, rfl⟩, by simp [intOf]; omega⟩
            · obtain rfl : k = 12 := by omega
              rw [List.take_of_length_le (by rw [LL3.out]; omega)] at hm
              generalize hF3 : puts L3 136 F2 = F3 at *
              have HF3 := Lib.hid hF3
              clear hF3
              go_wp2
              go_ret
              exact ⟨w.heap.size, rfl, by rw [HF0.out, HF1.out, HF2.out, HF3.out]; exact MapIs.mono (n := 65 + 12) hm (by omega), hb⟩
end Go.Proofs.YtciiemomfniecaaGreatDoor
/-
  Whatever a byte begins is read: one contract for the functions that lie in the map.
-/
namespace Go.Proofs.YtciiemomfniecaaGreatDoor
set_option maxRecDepth 100000

open Go.RowKit

/-- How a token begins, by its first byte. -/
theorem readF_cases (c : UInt8) :
    (readF c = none → isFirst c = false ∧ isDigit c = false ∧ c ≠ 45 ∧ c ≠ 34 ∧ isSign c = false) ∧
    (∀ k, readF c = some k → (k = 135 ∧ isFirst c = true) ∨ (k = 134 ∧ (c = 45 ∨ isDigit c = true)) ∨ (k = 133 ∧ c = 34) ∨
      (k = 136 ∧ isFirst c = false ∧ isDigit c = false ∧ c ≠ 45 ∧ c ≠ 34 ∧ isSign c = true)) := by
  have h : ∀ k : Fin 256, (match readF (UInt8.ofNat k.val) with
      | none => isFirst (UInt8.ofNat k.val) = false ∧ isDigit (UInt8.ofNat k.val) = false ∧ UInt8.ofNat k.val ≠ 45 ∧ UInt8.ofNat k.val ≠ 34 ∧ isSign (UInt8.ofNat k.val) = false
      | some f => (f = 135 ∧ isFirst (UInt8.ofNat k.val) = true) ∨ (f = 134 ∧ (UInt8.ofNat k.val = 45 ∨ isDigit (UInt8.ofNat k.val) = true)) ∨ (f = 133 ∧ UInt8.ofNat k.val = 34) ∨
        (f = 136 ∧ isFirst (UInt8.ofNat k.val) = false ∧ isDigit (UInt8.ofNat k.val) = false ∧ UInt8.ofNat k.val ≠ 45 ∧ UInt8.ofNat k.val ≠ 34 ∧ isSign (UInt8.ofNat k.val) = true) : Bool) = true := by decide +kernel
  have := h ⟨c.toNat, c.toNat_lt⟩
  simp only [UInt8.ofNat_toNat] at this
  constructor
  · intro hn
    rw [hn] at this
    simpa using this
  · intro k hk
    rw [hk] at this
    simpa using this
theorem tk_other {l : List UInt8} {c : UInt8} {r : List UInt8} (hd : l = c :: r) (h1 : isFirst c = false) (h2 : isDigit c = false) (h3 : c ≠ 45) (h4 : c ≠ 34) : tk Lib.itoa l = if isSign c then some ⟨3, [c], 0, 0⟩ else none := by
  subst hd
  have e3 : (c == 45) = false := by simpa using h3
  have e4 : (c == 34) = false := by simpa using h4
  simp only [tk, h1, h2, e3, e4, Bool.or_self, Bool.false_eq_true, if_false]
theorem tk_none {l : List UInt8} {c : UInt8} {r : List UInt8} (hd : l = c :: r) (h : readF c = none) : tk Lib.itoa l = none := by
  obtain ⟨h1, h2, h3, h4, h5⟩ := (readF_cases c).1 h
  rw [tk_other hd h1 h2 h3 h4, h5]; rfl
theorem tk_string {l : List UInt8} {r : List UInt8} (hd : l = 34 :: r) : tk Lib.itoa l = strT r := by
  subst hd
  simp only [tk, show isFirst 34 = false from rfl, show (isDigit 34 || (34 : UInt8) == 45) = false from rfl, Bool.false_eq_true, if_false, beq_self_eq_true, if_true]
  rfl
theorem read_any (s : ByteArray) (hs : s.size ≤ 1000000) (p : Nat) (c : UInt8) (hc : s.data.toList[p]? = some c) (k : Nat) (hk : readF c = some k) (w : World) (L : Laid w) :
    Calls Tryz.prog k #[.string s, .int .i64 p] w fun e w' => e = .returned (SV (tk Lib.itoa (s.data.toList.drop p)) p) ∧ Below w.heap.size w w' := by
  have hp : p < s.size := by have := (List.getElem?_eq_some_iff.1 hc).1; simpa using this
  have hd := drop_cons hc
  rcases (readF_cases c).2 k hk with ⟨rfl, h⟩ | ⟨rfl, h⟩ | ⟨rfl, rfl⟩ | ⟨rfl, h1, h2, h3, h4, h5⟩
  · exact name_any s hs p c hc h w
  · exact num_any s hs p c hc h w L
  · rw [tk_string hd]
    exact str_any s hs p hp w
  · refine sign_any s hs p c hc ?_ w
    rw [tk_other hd h1 h2 h3 h4, h5]; rfl
theorem read_enters (c : UInt8) (k : Nat) (hk : readF c = some k) : ∀ args w, (callFunc k args).run Tryz.prog w = .ok (.enter k args) w := by
  rcases (readF_cases c).2 k hk with ⟨rfl, h⟩ | ⟨rfl, h⟩ | ⟨rfl, rfl⟩ | ⟨rfl, h1, h2, h3, h4, h5⟩
  · exact enters_of Tryz.func135 (by kernel_rfl) rfl
  · exact enters_of Tryz.func134 (by kernel_rfl) rfl
  · exact enters_of Tryz.func133 (by kernel_rfl) rfl
  · exact enters_of Tryz.func136 (by kernel_rfl) rfl
end Go.Proofs.YtciiemomfniecaaGreatDoor
/-
  What a string means, by the document's own function: its contract.
-/
namespace Go.Proofs.YtciiemomfniecaaGreatDoor
set_option maxRecDepth 100000

open Go.RowKit

/-- What the document tells of a string. -/
def DV (o : Option (List UInt8 × Nat)) (p : Nat) : Value := match o with
  | none => .tuple #[.string ⟨#[]⟩, .int .i64 (-1)]
  | some x => .tuple #[.string (txt x.1), .int .i64 ((p + 1 + x.2 : Nat) : Int)]
theorem StrRel.stopD {L : List UInt8} {p k : Nat} {pre : List UInt8} (h : StrRel L p k pre) (hs : strB 0 (L.drop k) = none) : strB 0 (L.drop (p + 1)) = none := by
  unfold StrRel at h
  rw [h, hs]; rfl
theorem StrRel.doneD {L : List UInt8} {p k : Nat} {pre : List UInt8} (h : StrRel L p k pre) (hk : p < k) (hs : strB 0 (L.drop k) = some ([], 1)) : strB 0 (L.drop (p + 1)) = some (pre, k - p) := by
  unfold StrRel at h
  rw [h, hs]
  simp; omega
theorem ret_dtext {o : Option (List UInt8 × Nat)} {t : List UInt8} {m p : Nat} {x y : Value} (h : o = some (t, m)) (hx : x = .string (txt t)) (hy : y = .int .i64 ((p + 1 + m : Nat) : Int)) : Ending.returned (.tuple #[x, y]) = .returned (DV o p) := by
  subst h hx hy; rfl
theorem ret_nodtext {o : Option (List UInt8 × Nat)} {p : Nat} (h : o = none) : Ending.returned (.tuple #[.string ⟨#[]⟩, .int .i64 (-1)]) = .returned (DV o p) := by
  subst h; rfl
/-- What stands in a string, by the sorts that the document tells apart. -/
theorem str_plain {l : List UInt8} {k : Nat} {c : UInt8} (h : l[k]? = some c) (h34 : c ≠ 34) (h92 : c ≠ 92) :
    ((c.toNat < 32 ∨ c.toNat = 127) → strB 0 (l.drop k) = none) ∧ (¬ (c.toNat < 32 ∨ c.toNat = 127) → strB 0 (l.drop k) = (strB 0 (l.drop (k + 0 + 1))).map fun y => (c :: y.1, y.2 + 0 + 1)) := by
  have e34 : (c == 34) = false := by simpa using h34
  have hat := str_at h
  rw [e34, ws_at h, meant_plain h92] at hat
  rw [ws_at h]
  simp only [Bool.false_eq_true, if_false] at hat
  have hlt := c.toNat_lt
  constructor
  · intro hc
    have : (isPlain c || decide (128 ≤ c.toNat)) = false := by simp only [isPlain, Bool.or_eq_false_iff, Bool.and_eq_false_iff, decide_eq_false_iff_not]; omega
    rw [this] at hat
    exact hat
  · intro hc
    have : (isPlain c || decide (128 ≤ c.toNat)) = true := by simp only [isPlain, Bool.or_eq_true, Bool.and_eq_true, decide_eq_true_eq]; omega
    rw [this] at hat
    exact hat

set_option maxRecDepth 1000000 in
set_option maxHeartbeats 2000000 in
theorem rtext_any (s : ByteArray) (hs : s.size ≤ 1000000) (p : Nat) (hp : p < s.size) (w : World) :
    Calls Tryz.prog 160 #[.string s, .int .i64 p] w fun e w' => e = .returned (DV (strB 0 (s.data.toList.drop (p + 1))) p) ∧ Below w.heap.size w w' := by
  obtain ⟨i0, hi, hz0, hz1, hz2⟩ := info_parts info_u8
  have hsl : s.data.toList.length = s.size := by simp
  have hsg := at_list s
  generalize s.data.toList = L at *
  have HSL := Lib.hid hsl
  have HSG := Lib.hid hsg
  clear hsl hsg
  go_enter Tryz.func160, Tryz.ntmps160
  go_wp2_with fail
  go_loopw [6, 7] (fun v i wr => ∃ (k : Nat) (pre : List UInt8), i = .int .i64 k ∧ p < k ∧ k ≤ s.size ∧ pre.length ≤ k ∧ wr.ownsRow w.heap.size 5 1 v pre.length (bs pre) ∧ StrRel L p k pre ∧ Below w.heap.size w wr) (fun _ i _ => s.size - (intOf i).toNat)
  case atStart => exact ⟨p + 1, [], by simp, by omega, by omega, by simp, World.ownsRow_nil _ _ _ _, by unfold StrRel; cases strB 0 (L.drop (p + 1)) <;> simp, Below.refl _ _⟩
  case round =>
    obtain ⟨k, pre, rfl, hpk, hk, hpl, hown, hrel, hb⟩ := hrel
    have HR := Lib.hid hrel
    clear hrel
    by_cases h1 : k < s.size
    · have HX := Lib.hid (HSG.out k h1)
      obtain ⟨c, hc⟩ : ∃ c, c = s[k] := ⟨_, rfl⟩
      rw [← hc] at HX
      have HC := hc.symm
      clear hc
      have e34 : ((c.toNat : Int) == 34) = (c == 34) := u8_eq c 34 (by decide)
      have e92 : ((c.toNat : Int) == 92) = (c == 92) := u8_eq c 92 (by decide)
      have hsz := hb.size
      by_cases h34 : c = 34
      · have b1 : ((c.toNat : Int) != 34) = false := by rw [bne, e34, h34]; rfl
        have hat := str_at HX.out
        have HT := Lib.hid (HR.out.doneD hpk (by rw [hat, h34]; rfl))
        obtain ⟨A, cp, rfl, hr⟩ := SlB.of_own hown
        have hcv := run_str_of_bytes (P := Tryz.prog) wr 106 9 5 Tryz.underlying106 Tryz.underlying5 Tryz.underlying9 A cp pre hr
        obtain ⟨X, hX⟩ : ∃ X, X = txt pre := ⟨_, rfl⟩
        rw [← hX] at hcv
        have HXX := Lib.hid hX
        clear hat hX hr hown e34 e92 h34
        go_wp2
        go_ret2
        exact ⟨ret_dtext HT.out (by rw [← HXX.out]; rfl) (congrArg (Value.int .i64) (by simp; omega)), hb⟩
      · have b1 : ((c.toNat : Int) != 34) = true := by rw [bne, e34]; simpa using h34
        by_cases h92 : c = 92
        · have b2 : ((c.toNat : Int) != 92) = false := by rw [bne, e92, h92]; rfl
          have b3 : decide ((c.toNat : Int) < 32) = false := by rw [h92]; rfl
          have b4 : ((c.toNat : Int) == 127) = false := by rw [h92]; rfl
          have HXL := Lib.hid (ws_at HX.out)
          subst h92
          have hat := str_at HX.out
          simp only [show ((92 : UInt8) == 34) = false from rfl, Bool.false_eq_true, if_false] at hat
          clear e34 e92 h34
          by_cases h2 : k + 1 < s.size
          · have HY := Lib.hid (HSG.out (k + 1) h2)
            have d2 : decide ((s.size : Int) ≤ (k : Int) + 1) = false := by rw [decide_eq_false_iff_not]; omega
            obtain ⟨d, hd⟩ : ∃ d, d = s[k + 1]'h2 := ⟨_, rfl⟩
            rw [← hd] at HY
            have HDD := hd.symm
            clear hd
            have HXY : Hid (L.drop k = 92 :: d :: L.drop (k + 2)) := Lib.hid (by rw [HXL.out, ws_at HY.out])
            obtain ⟨m1, m2, m3⟩ := meant_mark HXY.out
            have e34 : ((d.toNat : Int) == 34) = (d == 34) := u8_eq d 34 (by decide)
            have e92 : ((d.toNat : Int) == 92) = (d == 92) := u8_eq d 92 (by decide)
            have e110 : ((d.toNat : Int) == 110) = (d == 110) := u8_eq d 110 (by decide)
            have e120 : ((d.toNat : Int) == 120) = (d == 120) := u8_eq d 120 (by decide)
            by_cases hA : (d == 34 || d == 92) = true
            · rw [m1 hA] at hat
              simp only at hat
              have HN := Lib.hid (HR.out.next (j := 1) (b := d) hpk hat)
              have E1 := Lib.hid (bs_snoc pre d)
              have E2 : Hid (pre.length + 1 = (pre ++ [d]).length) := Lib.hid (by simp)
              have hor : d = 34 ∨ d = 92 := by simpa using hA
              clear m1 m2 m3 hat e34 e92 e110 e120 hA
              rcases hor with rfl | rfl
              · have c1 : (((34 : UInt8).toNat : Int) == 120) = false := rfl
                have c2 : (((34 : UInt8).toNat : Int) != 110) = true := rfl
                have c3 : (((34 : UInt8).toNat : Int) != 92) = true := rfl
                have c4 : (((34 : UInt8).toNat : Int) != 34) = false := rfl
                have c5 : (((34 : UInt8).toNat : Int) == 110) = false := rfl
                go_wp2_with (at_builtin; refine wpList_app1 rfl _ _ 106 rfl w.heap.size 5 i0 (.int .u8 0) 1 Tryz.underlying106 hi hz0 hz1 hz2 rfl _ pre.length (bs pre) rfl (hown.alloc _) wr.heap.size 1 _ rfl (World.cell?_alloc_at _ _ _ _ rfl) rfl (by unfold maxLen; omega) (by omega) (by simp; omega) ?_; intro v3 w3 hown3 hg3)
                refine ⟨⟨k + 2, pre ++ [34], by go_num, by omega, by omega, by simp; omega, ?_, HN.out, (below_lit hb _).grown hg3 (by simp; omega) (own_ge hown)⟩, by simp [intOf]; omega⟩
                rw [← E1.out, ← E2.out]
                exact hown3
              · have c1 : (((92 : UInt8).toNat : Int) == 120) = false := rfl
                have c2 : (((92 : UInt8).toNat : Int) != 110) = true := rfl
                have c3 : (((92 : UInt8).toNat : Int) != 92) = false := rfl
                have c5 : (((92 : UInt8).toNat : Int) == 110) = false := rfl
                go_wp2_with (at_builtin; refine wpList_app1 rfl _ _ 106 rfl w.heap.size 5 i0 (.int .u8 0) 1 Tryz.underlying106 hi hz0 hz1 hz2 rfl _ pre.length (bs pre) rfl (hown.alloc _) wr.heap.size 1 _ rfl (World.cell?_alloc_at _ _ _ _ rfl) rfl (by unfold maxLen; omega) (by omega) (by simp; omega) ?_; intro v3 w3 hown3 hg3)
                refine ⟨⟨k + 2, pre ++ [92], by go_num, by omega, by omega, by simp; omega, ?_, HN.out, (below_lit hb _).grown hg3 (by simp; omega) (own_ge hown)⟩, by simp [intOf]; omega⟩
                rw [← E1.out, ← E2.out]
                exact hown3
            · have hA' : (d == 34 || d == 92) = false := by simpa using hA
              obtain ⟨a1, a2⟩ : (d == 34) = false ∧ (d == 92) = false := by simpa only [Bool.or_eq_false_iff] using hA'
              have c3 : ((d.toNat : Int) != 92) = true := by rw [bne, e92, a2]; rfl
              have c4 : ((d.toNat : Int) != 34) = true := by rw [bne, e34, a1]; rfl
              clear m1 e34 e92 a1 a2 hA
              by_cases h3 : d = 110
              · rw [m2 hA' h3] at hat
                simp only at hat
                have HN := Lib.hid (HR.out.next (j := 1) (b := 10) hpk hat)
                have E1 := Lib.hid (bs_snoc pre 10)
                have E2 : Hid (pre.length + 1 = (pre ++ [(10 : UInt8)]).length) := Lib.hid (by simp)
                have c1 : ((d.toNat : Int) == 120) = false := by rw [e120, h3]; rfl
                have c2 : ((d.toNat : Int) != 110) = false := by rw [bne, e110, h3]; rfl
                have c5 : ((d.toNat : Int) == 110) = true := by rw [e110, h3]; rfl
                clear m2 m3 hat e110 e120 hA' h3
                go_wp2_with (at_builtin; refine wpList_app1 rfl _ _ 106 rfl w.heap.size 5 i0 (.int .u8 0) 1 Tryz.underlying106 hi hz0 hz1 hz2 rfl _ pre.length (bs pre) rfl (hown.alloc _) wr.heap.size 1 _ rfl (World.cell?_alloc_at _ _ _ _ rfl) rfl (by unfold maxLen; omega) (by omega) (by simp; omega) ?_; intro v3 w3 hown3 hg3)
                refine ⟨⟨k + 2, pre ++ [10], by go_num, by omega, by omega, by simp; omega, ?_, HN.out, (below_lit hb _).grown hg3 (by simp; omega) (own_ge hown)⟩, by simp [intOf]; omega⟩
                rw [← E1.out, ← E2.out]
                exact hown3
              · have c2 : ((d.toNat : Int) != 110) = true := by rw [bne, e110]; simpa using h3
                by_cases h4 : d = 120
                · have c1 : ((d.toNat : Int) == 120) = true := by rw [e120, h4]; rfl
                  clear m2 m3 e110 e120 hA'
                  by_cases h5 : k + 3 < s.size
                  · have d3 : decide ((k : Int) + 3 < (s.size : Int)) = true := by rw [decide_eq_true_eq]; omega
                    have h6 : k + 2 < s.size := by omega
                    have HZ := Lib.hid (HSG.out (k + 2) h6)
                    have HU := Lib.hid (HSG.out (k + 3) h5)
                    obtain ⟨g, hg⟩ : ∃ g, g = s[k + 2]'h6 := ⟨_, rfl⟩
                    obtain ⟨f, hf⟩ : ∃ f, f = s[k + 3]'h5 := ⟨_, rfl⟩
                    rw [← hg] at HZ
                    rw [← hf] at HU
                    have HGG := hg.symm
                    have HFF := hf.symm
                    clear hg hf
                    have hm : meant (L.drop k) = match hexv g, hexv f with | some a, some b => some (UInt8.ofNat (16 * a + b), 3) | _, _ => none := by
                      rw [HXY.out, h4, ws_at HZ.out, ws_at HU.out]; rfl
                    rw [hm] at hat
                    clear hm h4 h3
                    cases hg : hexv g with
                    | none =>
                      rw [hg] at hat
                      simp only at hat
                      have HT := Lib.hid (HR.out.stopD hat)
                      have HI := Lib.hid (hexI_none hg)
                      clear hat hg hown
                      go_wp2_with fail
                      refine (rhex_any g _).mono ?_
                      rw [HI.out]
                      rintro e w2 ⟨rfl, rfl⟩
                      go_wp2
                      go_ret2
                      exact ⟨ret_nodtext HT.out, hb⟩
                    | some a =>
                      obtain ⟨ha, ha16⟩ := hexI_some hg
                      have HI := Lib.hid ha
                      have q1 : decide ((0 : Int) ≤ (a : Int)) = true := by simp
                      cases hf : hexv f with
                      | none =>
                        rw [hg, hf] at hat
                        simp only at hat
                        have HT := Lib.hid (HR.out.stopD hat)
                        have HJ := Lib.hid (hexI_none hf)
                        clear hat hg hf hown ha
                        go_wp2_with fail
                        refine (rhex_any g _).mono ?_
                        rw [HI.out]
                        rintro e w2 ⟨rfl, rfl⟩
                        go_wp2_with fail
                        refine (rhex_any f _).mono ?_
                        rw [HJ.out]
                        rintro e w2 ⟨rfl, rfl⟩
                        go_wp2
                        go_ret2
                        exact ⟨ret_nodtext HT.out, hb⟩
                      | some b =>
                        obtain ⟨hbb, hb16⟩ := hexI_some hf
                        have HJ := Lib.hid hbb
                        have q2 : decide ((0 : Int) ≤ (b : Int)) = true := by simp
                        rw [hg, hf] at hat
                        simp only at hat
                        have HN := Lib.hid (HR.out.next (j := 3) (b := UInt8.ofNat (16 * a + b)) hpk hat)
                        clear hat hg hf ha hbb
                        go_wp2_with fail
                        refine (rhex_any g _).mono ?_
                        rw [HI.out]
                        rintro e w2 ⟨rfl, rfl⟩
                        go_wp2_with fail
                        refine (rhex_any f _).mono ?_
                        rw [HJ.out]
                        rintro e w2 ⟨rfl, rfl⟩
                        go_wp2_with fail
                        have E1 := Lib.hid (bs_snoc pre (UInt8.ofNat (16 * a + b)))
                        have E2 : Hid (pre.length + 1 = (pre ++ [UInt8.ofNat (16 * a + b)]).length) := Lib.hid (by simp)
                        have hown2 : wr.drew.ownsRow w.heap.size 5 1 u6 pre.length (bs pre) := hown
                        have hb2 : Below w.heap.size w wr.drew := hb.drew
                        have hsz2 : w.heap.size ≤ wr.drew.heap.size := hsz
                        have hgx : ∀ w, Calls Tryz.prog 182 #[.int .u8 (g.toNat : Int)] w fun e w' => e = .returned (.int .i64 (a : Int)) ∧ w' = w := fun w => (rhex_any g w).mono fun _ _ ⟨he, hw⟩ => ⟨by rw [he, HI.out], hw.symm⟩
                        have hfx : ∀ w, Calls Tryz.prog 182 #[.int .u8 (f.toNat : Int)] w fun e w' => e = .returned (.int .i64 (b : Int)) ∧ w' = w := fun w => (rhex_any f w).mono fun _ _ ⟨he, hw⟩ => ⟨by rw [he, HJ.out], hw.symm⟩
                        have ew2 : IntKind.i64.wrap ((k : Int) + 2) = (k : Int) + 2 := by simp [IntKind.wrap, IntKind.signed, IntKind.bits]; omega
                        have ew3 : IntKind.i64.wrap ((k : Int) + 3) = (k : Int) + 3 := by simp [IntKind.wrap, IntKind.signed, IntKind.bits]; omega
                        have ew4 : IntKind.i64.wrap (16 * (a : Int)) = 16 * (a : Int) := by simp [IntKind.wrap, IntKind.signed, IntKind.bits]; omega
                        have ew5 : IntKind.i64.wrap (16 * (a : Int) + (b : Int)) = 16 * (a : Int) + (b : Int) := by simp [IntKind.wrap, IntKind.signed, IntKind.bits]; omega
                        have ew6 : IntKind.u8.wrap (16 * (a : Int) + (b : Int)) = ((UInt8.ofNat (16 * a + b)).toNat : Int) := by simp [IntKind.wrap, IntKind.signed, IntKind.bits]
                        have et2 : ((k : Int) + 2).toNat = k + 2 := by omega
                        have et3 : ((k : Int) + 3).toNat = k + 3 := by omega
                        generalize UInt8.ofNat (16 * a + b) = X at *
                        go_region_held_law (fun _ => True) (trivial)
                          (first
                            | (refine step_append_lies _ rfl _ _ 106 rfl w.heap.size 5 i0 (.int .u8 0) 1 1 Tryz.underlying106 hi hz0 hz1 hz2 rfl (by decide) u6 pre.length (bs pre) (by simp [Act.eval, Act.put]) (hown.alloc _) ⟨wr.heap.size, 0, none⟩ 1 1 [.int .u8 (X.toNat : Int)] (by simp [Act.eval, Act.put]) rfl (World.news_of_block (heap_alloc_new _ _)) (by intro u hu; rw [List.mem_singleton.1 hu]; rfl) (by decide) (by unfold maxLen; omega) (by omega) (by simp; omega) wr.heap.size.succ (by simp) ?_; intro g3 cap3 w3 hown3 hg3 hat3 hlt3)
                            | (go_at_call_of 182 (Value.int IntKind.u8 (g.toNat : Int)); refine (hgx _).mono ?_; rintro e w2 ⟨rfl, rfl⟩)
                            | (go_at_call_of 182 (Value.int IntKind.u8 (f.toNat : Int)); refine (hfx _).mono ?_; rintro e w2 ⟨rfl, rfl⟩))
                        all_goals
                          go_wp2
                          refine ⟨⟨k + 4, pre ++ [X], by go_num, by omega, by omega, by simp; omega, ?_, HN.out, (below_lit hb _).drew.grown hg3 (by simp; omega) (own_ge hown)⟩, by simp [intOf]; omega⟩
                          rw [← E1.out, ← E2.out]
                          exact hown3
                  · have d3 : decide ((k : Int) + 3 < (s.size : Int)) = false := by rw [decide_eq_false_iff_not]; omega
                    have hm : meant (L.drop k) = none := by
                      rw [HXY.out, h4]
                      match hr : L.drop (k + 2) with
                      | [] => rfl
                      | [a] => rfl
                      | a :: b :: r =>
                        have := congrArg List.length hr
                        rw [List.length_drop, HSL.out] at this
                        simp at this
                        omega
                    rw [hm] at hat
                    have HT := Lib.hid (HR.out.stopD hat)
                    clear hat hown hm h4 h3
                    go_wp2
                    go_ret2
                    exact ⟨ret_nodtext HT.out, hb⟩
                · have c1 : ((d.toNat : Int) == 120) = false := by rw [e120]; simpa using h4
                  rw [m3 hA' h3 h4] at hat
                  have HT := Lib.hid (HR.out.stopD hat)
                  clear m2 m3 hat e110 e120 hA' h3 h4 hown
                  go_wp2
                  go_ret2
                  exact ⟨ret_nodtext HT.out, hb⟩
          · have d2 : decide ((s.size : Int) ≤ (k : Int) + 1) = true := by rw [decide_eq_true_eq]; omega
            have hm : meant (L.drop k) = none := by
              rw [HXL.out, List.drop_of_length_le (by rw [HSL.out]; omega)]; rfl
            rw [hm] at hat
            have HT := Lib.hid (HR.out.stopD hat)
            clear hat hown hm
            go_wp2
            go_ret2
            exact ⟨ret_nodtext HT.out, hb⟩
        · have b2 : ((c.toNat : Int) != 92) = true := by rw [bne, e92]; simpa using h92
          obtain ⟨hno, hyes⟩ := str_plain HX.out h34 h92
          clear e34 e92 h34 h92
          by_cases hn : c.toNat < 32 ∨ c.toNat = 127
          · have HT := Lib.hid (HR.out.stopD (hno hn))
            clear hno hyes hown
            cases b3 : decide ((c.toNat : Int) < 32)
            · have b4 : ((c.toNat : Int) == 127) = true := by
                rw [decide_eq_false_iff_not] at b3
                rw [beq_iff_eq]; omega
              clear hn
              go_wp2
              go_ret2
              exact ⟨ret_nodtext HT.out, hb⟩
            · clear hn
              go_wp2
              go_ret2
              exact ⟨ret_nodtext HT.out, hb⟩
          · have HN := Lib.hid (HR.out.next (j := 0) (b := c) hpk (hyes hn))
            have b3 : decide ((c.toNat : Int) < 32) = false := by rw [decide_eq_false_iff_not]; omega
            have b4 : ((c.toNat : Int) == 127) = false := by rw [beq_eq_false_iff_ne]; omega
            have E1 := Lib.hid (bs_snoc pre c)
            have E2 : Hid (pre.length + 1 = (pre ++ [c]).length) := Lib.hid (by simp)
            clear hno hyes hn
            go_wp2_with (at_builtin; refine wpList_app1 rfl _ _ 106 rfl w.heap.size 5 i0 (.int .u8 0) 1 Tryz.underlying106 hi hz0 hz1 hz2 rfl _ pre.length (bs pre) rfl (hown.alloc _) wr.heap.size 1 _ rfl (World.cell?_alloc_at _ _ _ _ rfl) rfl (by unfold maxLen; omega) (by omega) (by simp; omega) ?_; intro v3 w3 hown3 hg3)
            refine ⟨⟨k + 1, pre ++ [c], by go_num, by omega, by omega, by simp; omega, ?_, HN.out, (below_lit hb _).grown hg3 (by simp; omega) (own_ge hown)⟩, by simp [intOf]; omega⟩
            rw [← E1.out, ← E2.out]
            exact hown3
    · have HT := Lib.hid (HR.out.stopD (str_end (by rw [HSL.out]; omega)))
      clear hown
      go_wp2
      go_ret2
      exact ⟨ret_nodtext HT.out, hb⟩
end Go.Proofs.YtciiemomfniecaaGreatDoor
/-
  The token that begins at a place, by the document's own function: its contract.
-/
namespace Go.Proofs.YtciiemomfniecaaGreatDoor
set_option maxRecDepth 100000

open Go.RowKit

def OnePost (o : Option Tk) (p : Nat) (w : World) (e : Ending) (w' : World) : Prop :=
  (match o with
    | none => ∃ (k n q : Int) (s : ByteArray), e = .returned (.tuple #[.agg #[.int .i64 k, .string s, .int .i64 n, .int .i64 q], .int .i64 (-1)])
    | some t => e = .returned (.tuple #[TokV t.kind (txt t.text) t.num p, .int .i64 ((p + t.more + 1 : Nat) : Int)])) ∧ Below w.heap.size w w'
theorem OnePost.no {o : Option Tk} {p : Nat} {w w' : World} {k n q : Int} {s : ByteArray} (h : o = none) (hb : Below w.heap.size w w') : OnePost o p w (.returned (.tuple #[.agg #[.int .i64 k, .string s, .int .i64 n, .int .i64 q], .int .i64 (-1)])) w' := by
  subst h; exact ⟨⟨k, n, q, s, rfl⟩, hb⟩
theorem OnePost.yes {o : Option Tk} {t : Tk} {p : Nat} {w w' : World} {x y : Value} (h : o = some t) (hx : x = TokV t.kind (txt t.text) t.num p) (hy : y = .int .i64 ((p + t.more + 1 : Nat) : Int)) (hb : Below w.heap.size w w') : OnePost o p w (.returned (.tuple #[x, y])) w' := by
  subst h hx hy; exact ⟨rfl, hb⟩
theorem tk_first {l : List UInt8} {c : UInt8} {r T : List UInt8} (hd : l = c :: r) (hc : isFirst c = true) (hT : T = c :: r.take (span isNext r)) : tk Lib.itoa l = some ⟨0, T, 0, span isNext r⟩ := by
  subst hd hT; simp [tk, hc]
theorem tk_str {l : List UInt8} {c : UInt8} {r : List UInt8} (hd : l = c :: r) (hc : c = 34) : tk Lib.itoa l = strT r := by
  subst hd hc
  simp only [tk, show isFirst 34 = false from rfl, show (isDigit 34 || (34 : UInt8) == 45) = false from rfl, Bool.false_eq_true, if_false, beq_self_eq_true, if_true]
  rfl
theorem tk_sign {l : List UInt8} {c : UInt8} {r : List UInt8} (hd : l = c :: r) (h1 : isFirst c = false) (h2 : (isDigit c || c == 45) = false) (h3 : (c == 34) = false) : tk Lib.itoa l = if isSign c then some ⟨3, [c], 0, 0⟩ else none := by
  subst hd
  simp only [tk, h1, h2, h3, Bool.false_eq_true, if_false]

set_option maxRecDepth 1000000 in
set_option maxHeartbeats 2000000 in
theorem rone_any (s : ByteArray) (hs : s.size ≤ 1000000) (p : Nat) (hp : p < s.size) (w : World) :
    Calls Tryz.prog 124 #[.string s, .int .i64 p] w fun e w' => OnePost (tk Lib.itoa (s.data.toList.drop p)) p w e w' := by
  have hsl : s.data.toList.length = s.size := by simp
  have hsg := at_list s
  have hpart := fun q => show s.extract p q = txt ((s.data.toList.drop p).take (q - p)) by rw [← part_list, txt_of]
  have htx := fun w => rtext_any s hs p hp w
  have hd := drop_cons (hsg p hp)
  generalize s.data.toList = L at *
  have HSL := Lib.hid hsl
  have HSG := Lib.hid hsg
  have HPA := Lib.hid hpart
  have HTX := Lib.hid htx
  obtain ⟨c, hc⟩ : ∃ c, c = s[p] := ⟨_, rfl⟩
  rw [← hc] at hd
  have HD := Lib.hid hd
  have HC := hc.symm
  clear hsl hsg hpart htx hd hc
  by_cases h1 : isFirst c = true
  · have ht := tk_first HD.out h1 rfl
    have hle := span_le isNext (L.drop (p + 1))
    rw [List.length_drop, HSL.out] at hle
    have hE : ∀ E, E = p + 1 + span isNext (L.drop (p + 1)) → (L.drop p).take (E - p) = c :: (L.drop (p + 1)).take (span isNext (L.drop (p + 1))) := by
      rintro E rfl
      rw [HD.out, show p + 1 + span isNext (L.drop (p + 1)) - p = span isNext (L.drop (p + 1)) + 1 by omega, List.take_succ_cons]
    generalize tk Lib.itoa (L.drop p) = O at *
    generalize c :: (L.drop (p + 1)).take (span isNext (L.drop (p + 1))) = T at *
    obtain ⟨E, hEE⟩ : ∃ E, E = p + 1 + span isNext (L.drop (p + 1)) := ⟨_, rfl⟩
    have hEs : E ≤ s.size := by omega
    have hEp : p + 1 ≤ E := by omega
    have hT := hE E hEE
    have hX : s.extract p E = txt T := by rw [HPA.out, hT]
    have ht2 : O = some ⟨0, T, 0, E - p - 1⟩ := by rw [ht]; simp; omega
    obtain ⟨X, hXX⟩ : ∃ X, X = txt T := ⟨_, rfl⟩
    rw [← hXX] at hX
    have HX := Lib.hid hXX
    have HO := Lib.hid ht2
    have HE := Lib.hid hEE
    clear ht hle hE hT hXX ht2 hEE
    go_enter Tryz.func124, Tryz.ntmps124
    go_wp2_with fail
    refine (letter_any c _).mono ?_
    rw [h1]
    rintro e w1 ⟨rfl, rfl⟩
    go_wp2
    go_loopw [7] (fun i wr => ∃ k : Nat, i = .int .i64 k ∧ p < k ∧ k ≤ s.size ∧ E = k + span isNext (L.drop k) ∧ wr = w.alloc (.cells #[.int .i64 0, .string ⟨#[]⟩, .int .i64 0, .int .i64 0] 155)) (fun i _ => s.size - (intOf i).toNat)
    case atStart => exact ⟨p + 1, by simp, by omega, by omega, HE.out, rfl⟩
    case round =>
      obtain ⟨k, rfl, hpk, hk, hr, rfl⟩ := hrel
      have HR := Lib.hid hr
      clear hr
      by_cases g1 : k < s.size
      · have HZ := Lib.hid (HSG.out k g1)
        cases b1 : isFirst s[k]
        · cases b2 : isDigit s[k]
          · have HN := Lib.hid (span_stop HZ.out (f := isNext) (by simp [isNext, b1, b2]))
            have HB1 := Lib.hid b1
            have HB2 := Lib.hid b2
            clear b1 b2
            obtain rfl : E = k := by have := HR.out; rw [HN.out] at this; omega
            go_wp2_with fail
            refine (letter_any _ _).mono ?_
            rw [HB1.out]
            rintro e w2 ⟨rfl, rfl⟩
            go_wp2_with fail
            refine (digit_any _ _).mono ?_
            rw [HB2.out]
            rintro e w2 ⟨rfl, rfl⟩
            have hpE : p ≤ E := by omega
            have hg := heap_alloc_new w (.cells #[.int .i64 0, .string ⟨#[]⟩, .int .i64 0, .int .i64 0] 155)
            go_wp2_with (refine wpList_store_tok rfl _ _ rfl rfl w.heap.size _ _ _ _ _ _ _ _ rfl rfl _ hg ?_)
            refine bodyPost_ret (results_tok1 rfl _ _ w.heap.size _ _ _ _ _ (0, 0) rfl (setRow_heap _ _ _ _ _ _ hg)) rfl ?_
            exact OnePost.yes HO.out (by rw [HX.out]; rfl) (congrArg (Value.int .i64) (by simp; omega)) (below_setRow (below_new _ _) (Nat.le_refl _) _)
          · have HN := Lib.hid (span_next HZ.out (f := isNext) (by simp [isNext, b2]))
            have HB1 := Lib.hid b1
            have HB2 := Lib.hid b2
            clear b1 b2
            go_wp2_with fail
            refine (letter_any _ _).mono ?_
            rw [HB1.out]
            rintro e w2 ⟨rfl, rfl⟩
            go_wp2_with fail
            refine (digit_any _ _).mono ?_
            rw [HB2.out]
            rintro e w2 ⟨rfl, rfl⟩
            go_wp2
            exact ⟨⟨k + 1, by go_num, by omega, by omega, by rw [HR.out, HN.out]; omega, by first | rfl | trivial⟩, by simp [intOf]; omega⟩
        · have HN := Lib.hid (span_next HZ.out (f := isNext) (by simp [isNext, b1]))
          have HB1 := Lib.hid b1
          clear b1
          go_wp2_with fail
          refine (letter_any _ _).mono ?_
          rw [HB1.out]
          rintro e w2 ⟨rfl, rfl⟩
          go_wp2
          exact ⟨⟨k + 1, by go_num, by omega, by omega, by rw [HR.out, HN.out]; omega, by first | rfl | trivial⟩, by simp [intOf]; omega⟩
      · have HN := Lib.hid (span_end (f := isNext) (l := L) (k := k) (by rw [HSL.out]; omega))
        obtain rfl : E = k := by have := HR.out; rw [HN.out] at this; omega
        have hpE : p ≤ E := by omega
        have hg := heap_alloc_new w (.cells #[.int .i64 0, .string ⟨#[]⟩, .int .i64 0, .int .i64 0] 155)
        go_wp2_with (refine wpList_store_tok rfl _ _ rfl rfl w.heap.size _ _ _ _ _ _ _ _ rfl rfl _ hg ?_)
        refine bodyPost_ret (results_tok1 rfl _ _ w.heap.size _ _ _ _ _ (0, 0) rfl (setRow_heap _ _ _ _ _ _ hg)) rfl ?_
        exact OnePost.yes HO.out (by rw [HX.out]; rfl) (congrArg (Value.int .i64) (by simp; omega)) (below_setRow (below_new _ _) (Nat.le_refl _) _)
  · have h1 : isFirst c = false := by simpa using h1
    have H1 := Lib.hid h1
    by_cases h2 : isDigit c = true ∨ c = 45
    · have ht := num_none HD.out h2.symm rfl
      have hle := span_le isDigit (L.drop (p + 1))
      rw [List.length_drop, HSL.out] at hle
      have hnt : numText (c :: (L.drop (p + 1)).take (span isDigit (L.drop (p + 1)))) := ⟨c, _, rfl, h2.symm, fun d hd => span_all isDigit _ d hd⟩
      have hE : ∀ E, E = p + 1 + span isDigit (L.drop (p + 1)) → (L.drop p).take (E - p) = c :: (L.drop (p + 1)).take (span isDigit (L.drop (p + 1))) := by
        rintro E rfl
        rw [HD.out, show p + 1 + span isDigit (L.drop (p + 1)) - p = span isDigit (L.drop (p + 1)) + 1 by omega, List.take_succ_cons]
      generalize tk Lib.itoa (L.drop p) = O at *
      generalize c :: (L.drop (p + 1)).take (span isDigit (L.drop (p + 1))) = T at *
      obtain ⟨E, hEE⟩ : ∃ E, E = p + 1 + span isDigit (L.drop (p + 1)) := ⟨_, rfl⟩
      have hEs : E ≤ s.size := by omega
      have hEp : p + 1 ≤ E := by omega
      have hT := hE E hEE
      have hX : s.extract p E = txt T := by rw [HPA.out, hT]
      have ht2 : O = (numOf Lib.itoa T).map fun n => ⟨1, T, n, E - p - 1⟩ := by
        rw [ht, show E - p - 1 = span isDigit (L.drop (p + 1)) by omega]
      have hXs : (s.extract p E).size ≤ 1000000 := by simp; omega
      obtain ⟨X, hXX⟩ : ∃ X, X = txt T := ⟨_, rfl⟩
      have hnum := fun w => rnum_any X (by rw [hXX, ← hX]; exact hXs) (by rw [hXX, txt_list]; exact hnt) w
      rw [hXX, txt_list] at hnum
      rw [← hXX] at hX hnum
      have HX := Lib.hid hXX
      have HO := Lib.hid ht2
      have HE := Lib.hid hEE
      have HNU := Lib.hid hnum
      clear ht hle hE hT hXX ht2 hEE hnt hnum hXs
      generalize numOf Lib.itoa T = N at *
      have HB : Hid (isDigit c = true ∨ isDigit c = false ∧ ((c.toNat : Int) == 45) = true) := Lib.hid (by
        cases hd : isDigit c
        · rw [hd] at h2
          have : c = 45 := by simpa using h2
          right; subst this; exact ⟨rfl, rfl⟩
        · left; rfl)
      clear h1 h2
      go_enter Tryz.func124, Tryz.ntmps124
      go_wp2_with fail
      refine (letter_any c _).mono ?_
      rw [H1.out]
      rintro e w1 ⟨rfl, rfl⟩
      go_wp2_with fail
      refine (digit_any c _).mono ?_
      rintro e w1 ⟨rfl, rfl⟩
      rcases HB.out with hd | ⟨hd, hd45⟩
      all_goals
        rw [hd]
        have HDG := Lib.hid hd
        clear hd
        go_wp2
        go_loopw [7] (fun i wr => ∃ k : Nat, i = .int .i64 k ∧ p < k ∧ k ≤ s.size ∧ E = k + span isDigit (L.drop k) ∧ wr = w.alloc (.cells #[.int .i64 0, .string ⟨#[]⟩, .int .i64 0, .int .i64 0] 155)) (fun i _ => s.size - (intOf i).toNat)
        case atStart => exact ⟨p + 1, by simp, by omega, by omega, HE.out, rfl⟩
        case round =>
          obtain ⟨k, rfl, hpk, hk, hr, rfl⟩ := hrel
          have HR := Lib.hid hr
          clear hr
          by_cases g1 : k < s.size
          · have HZ := Lib.hid (HSG.out k g1)
            cases b1 : isDigit s[k]
            · have HN := Lib.hid (span_stop HZ.out (f := isDigit) b1)
              have HB1 := Lib.hid b1
              clear b1
              obtain rfl : E = k := by have := HR.out; rw [HN.out] at this; omega
              have hpE : p ≤ E := by omega
              go_wp2_with fail
              refine (digit_any _ _).mono ?_
              rw [HB1.out]
              rintro e w2 ⟨rfl, rfl⟩
              go_wp2_with fail
              refine (HNU.out _).mono ?_
              rintro e w3 ⟨v, rfl, hv, hb3⟩
              have hg := (hb3.block w.heap.size (by simp)).trans (heap_alloc_new w _)
              have HV := Lib.hid hv
              clear hv
              cases N with
              | none =>
                simp only [Option.isSome_none]
                go_wp2_with (refine wpList_store_tok rfl _ _ rfl rfl w.heap.size _ _ _ _ _ _ _ _ rfl rfl _ hg ?_)
                refine bodyPost_ret (results_tok1 rfl _ _ w.heap.size _ _ _ _ _ (0, 0) rfl (setRow_heap _ _ _ _ _ _ hg)) rfl ?_
                exact OnePost.no HO.out (below_setRow (below_then (below_new _ _) hb3) (Nat.le_refl _) _)
              | some x =>
                simp only [Option.isSome_some]
                go_wp2_with (refine wpList_store_tok rfl _ _ rfl rfl w.heap.size _ _ _ _ _ _ _ _ rfl rfl _ hg ?_)
                refine bodyPost_ret (results_tok1 rfl _ _ w.heap.size _ _ _ _ _ (0, 0) rfl (setRow_heap _ _ _ _ _ _ hg)) rfl ?_
                exact OnePost.yes HO.out (by rw [HX.out, HV.out x rfl]; rfl) (congrArg (Value.int .i64) (by simp; omega)) (below_setRow (below_then (below_new _ _) hb3) (Nat.le_refl _) _)
            · have HN := Lib.hid (span_next HZ.out (f := isDigit) b1)
              have HB1 := Lib.hid b1
              clear b1
              go_wp2_with fail
              refine (digit_any _ _).mono ?_
              rw [HB1.out]
              rintro e w2 ⟨rfl, rfl⟩
              go_wp2
              exact ⟨⟨k + 1, by go_num, by omega, by omega, by rw [HR.out, HN.out]; omega, by first | rfl | trivial⟩, by simp [intOf]; omega⟩
          · have HN := Lib.hid (span_end (f := isDigit) (l := L) (k := k) (by rw [HSL.out]; omega))
            obtain rfl : E = k := by have := HR.out; rw [HN.out] at this; omega
            have hpE : p ≤ E := by omega
            go_wp2_with fail
            refine (HNU.out _).mono ?_
            rintro e w3 ⟨v, rfl, hv, hb3⟩
            have hg := (hb3.block w.heap.size (by simp)).trans (heap_alloc_new w _)
            have HV := Lib.hid hv
            clear hv
            cases N with
            | none =>
              simp only [Option.isSome_none]
              go_wp2_with (refine wpList_store_tok rfl _ _ rfl rfl w.heap.size _ _ _ _ _ _ _ _ rfl rfl _ hg ?_)
              refine bodyPost_ret (results_tok1 rfl _ _ w.heap.size _ _ _ _ _ (0, 0) rfl (setRow_heap _ _ _ _ _ _ hg)) rfl ?_
              exact OnePost.no HO.out (below_setRow (below_then (below_new _ _) hb3) (Nat.le_refl _) _)
            | some x =>
              simp only [Option.isSome_some]
              go_wp2_with (refine wpList_store_tok rfl _ _ rfl rfl w.heap.size _ _ _ _ _ _ _ _ rfl rfl _ hg ?_)
              refine bodyPost_ret (results_tok1 rfl _ _ w.heap.size _ _ _ _ _ (0, 0) rfl (setRow_heap _ _ _ _ _ _ hg)) rfl ?_
              exact OnePost.yes HO.out (by rw [HX.out, HV.out x rfl]; rfl) (congrArg (Value.int .i64) (by simp; omega)) (below_setRow (below_then (below_new _ _) hb3) (Nat.le_refl _) _)
    · have h2d : isDigit c = false := by
        cases hd : isDigit c
        · rfl
        · exact absurd (Or.inl hd) h2
      have h245 : c ≠ 45 := fun e => h2 (Or.inr e)
      have b45 : ((c.toNat : Int) == 45) = false := by rw [show ((c.toNat : Int) == 45) = (c == 45) from u8_eq c 45 (by decide)]; simpa using h245
      have H2 := Lib.hid h2d
      by_cases h3 : c = 34
      · have ht := tk_str HD.out h3
        rw [ht]
        have b34 : ((c.toNat : Int) == 34) = true := by rw [h3]; rfl
        unfold strT
        obtain ⟨o, ho⟩ : ∃ o, o = strB 0 (L.drop (p + 1)) := ⟨_, rfl⟩
        rw [← ho] at HTX ⊢
        clear h1 h2 h2d h245 ht h3 ho
        go_enter Tryz.func124, Tryz.ntmps124
        go_wp2_with fail
        refine (letter_any c _).mono ?_
        rw [H1.out]
        rintro e w1 ⟨rfl, rfl⟩
        go_wp2_with fail
        refine (digit_any c _).mono ?_
        rw [H2.out]
        rintro e w1 ⟨rfl, rfl⟩
        go_wp2_with fail
        refine (HTX.out _).mono ?_
        rintro e w3 ⟨rfl, hb3⟩
        have hg := (hb3.block w.heap.size (by simp)).trans (heap_alloc_new w _)
        cases o with
        | none =>
          unfold DV
          go_wp2_with (refine wpList_store_tok rfl _ _ rfl rfl w.heap.size _ _ _ _ _ _ _ _ rfl rfl _ hg ?_)
          refine bodyPost_ret (results_tok1 rfl _ _ w.heap.size _ _ _ _ _ (0, 0) rfl (setRow_heap _ _ _ _ _ _ hg)) rfl ?_
          exact OnePost.no rfl (below_setRow (below_then (below_new _ _) hb3) (Nat.le_refl _) _)
        | some x =>
          obtain ⟨t, m⟩ := x
          unfold DV
          obtain ⟨X, hXX⟩ : ∃ X, X = txt t := ⟨_, rfl⟩
          simp only
          rw [← hXX]
          have HX := Lib.hid hXX
          clear hXX
          go_wp2_with (refine wpList_store_tok rfl _ _ rfl rfl w.heap.size _ _ _ _ _ _ _ _ rfl rfl _ hg ?_)
          refine bodyPost_ret (results_tok1 rfl _ _ w.heap.size _ _ _ _ _ (0, 0) rfl (setRow_heap _ _ _ _ _ _ hg)) rfl ?_
          exact OnePost.yes rfl (by rw [HX.out]; rfl) (congrArg (Value.int .i64) (by simp; omega)) (below_setRow (below_then (below_new _ _) hb3) (Nat.le_refl _) _)
      · have b34' : (c == 34) = false := by simpa using h3
        have b34 : ((c.toNat : Int) == 34) = false := by rw [show ((c.toNat : Int) == 34) = (c == 34) from u8_eq c 34 (by decide)]; exact b34'
        have ht := tk_sign HD.out h1 (by rw [h2d]; simpa using h245) b34'
        have hX : s.extract p (p + 1) = txt [c] := by rw [HPA.out, show p + 1 - p = 1 by omega, HD.out]; rfl
        obtain ⟨X, hXX⟩ : ∃ X, X = txt [c] := ⟨_, rfl⟩
        rw [← hXX] at hX
        have HX := Lib.hid hXX
        generalize tk Lib.itoa (L.drop p) = O at *
        cases hsg : isSign c
        · rw [hsg] at ht
          simp only [Bool.false_eq_true, if_false] at ht
          have HO := Lib.hid ht
          have H3 := Lib.hid hsg
          clear h1 h2 h2d h245 h3 b34' ht hXX hsg
          go_enter Tryz.func124, Tryz.ntmps124
          go_wp2_with fail
          refine (letter_any c _).mono ?_
          rw [H1.out]
          rintro e w1 ⟨rfl, rfl⟩
          go_wp2_with fail
          refine (digit_any c _).mono ?_
          rw [H2.out]
          rintro e w1 ⟨rfl, rfl⟩
          go_wp2_with fail
          refine (signed_any c _).mono ?_
          rw [H3.out]
          rintro e w3 ⟨rfl, hb3⟩
          have hg := (hb3.block w.heap.size (by simp)).trans (heap_alloc_new w _)
          go_wp2_with (refine wpList_store_tok rfl _ _ rfl rfl w.heap.size _ _ _ _ _ _ _ _ rfl rfl _ hg ?_)
          refine bodyPost_ret (results_tok1 rfl _ _ w.heap.size _ _ _ _ _ (0, 0) rfl (setRow_heap _ _ _ _ _ _ hg)) rfl ?_
          exact OnePost.no HO.out (below_setRow (below_then (below_new _ _) hb3) (Nat.le_refl _) _)
        · rw [hsg] at ht
          simp only [if_true] at ht
          have HO := Lib.hid ht
          have H3 := Lib.hid hsg
          have hsli : ∀ w', (Instr.slice 9 (.string s) (some (.int .i64 p)) (some (.int .i64 ((p : Int) + 1))) none).run Tryz.prog w' = .ok (.string X) w' := fun w' => by
            have hr := run_slice_string (P := Tryz.prog) (w := w') (t := 9) (s := s) (i := (p : Int)) (j := (p : Int) + 1) (k := .i64) (k' := .i64) Tryz.underlying9 (by omega) (by omega) (by omega)
            rw [Int.toNat_natCast, show ((p : Int) + 1).toNat = p + 1 by omega, hX] at hr
            exact hr
          clear h1 h2 h2d h245 h3 b34' ht hXX hsg
          go_enter Tryz.func124, Tryz.ntmps124
          go_wp2_with fail
          refine (letter_any c _).mono ?_
          rw [H1.out]
          rintro e w1 ⟨rfl, rfl⟩
          go_wp2_with fail
          refine (digit_any c _).mono ?_
          rw [H2.out]
          rintro e w1 ⟨rfl, rfl⟩
          go_wp2_with fail
          refine (signed_any c _).mono ?_
          rw [H3.out]
          rintro e w3 ⟨rfl, hb3⟩
          have hg := (hb3.block w.heap.size (by simp)).trans (heap_alloc_new w _)
          go_wp2_with (refine wpList_store_tok rfl _ _ rfl rfl w.heap.size _ _ _ _ _ _ _ _ rfl rfl _ hg ?_)
          refine bodyPost_ret (results_tok1 rfl _ _ w.heap.size _ _ _ _ _ (0, 0) rfl (setRow_heap _ _ _ _ _ _ hg)) rfl ?_
          exact OnePost.yes HO.out (by rw [HX.out]; rfl) (congrArg (Value.int .i64) (by simp)) (below_setRow (below_then (below_new _ _) hb3) (Nat.le_refl _) _)
end Go.Proofs.YtciiemomfniecaaGreatDoor
/-
  All tokens of a text: the contracts of the program's function and of the document's.
-/
namespace Go.Proofs.YtciiemomfniecaaGreatDoor
set_option maxRecDepth 100000

open Go.RowKit

theorem infoToks : (Tryz.prog.info? 155).map (fun i => (i.zero, i.size, i.bytes)) = some (some (.agg #[.int .i64 0, .string ⟨#[]⟩, .int .i64 0, .int .i64 0]), 4, 40) := by kernel_rfl
theorem lit_tok (w : World) (r : T) : Sl (w.alloc (.cells #[.int .i64 r.kind, .string (txt r.text), .int .i64 r.num, .int .i64 r.at_] 155)) (some ⟨w.heap.size, 0, none⟩) 1 1 4 (tv [r]) := by
  refine ⟨by simp [tv, TC], Nat.le_refl _, by unfold maxLen; omega, by simp, fun ad ha _ => ?_, fun ad ha k u hu => ?_⟩
  · obtain rfl := Option.some.inj ha
    simp
  · obtain rfl := Option.some.inj ha
    rw [Addr.add_lit, World.cell?_alloc_at _ _ _ _ rfl]
    simpa [tv, TC] using hu
theorem lit_tok2 (w : World) (o : Obj) (r : T) : Sl ((w.alloc o).alloc (.cells #[.int .i64 r.kind, .string (txt r.text), .int .i64 r.num, .int .i64 r.at_] 155)) (some ⟨w.heap.size + 1, 0, none⟩) 1 1 4 (tv [r]) := by
  have h := lit_tok (w.alloc o) r
  rwa [World.size_alloc] at h

/-- What has been read so far. -/
def AllRel (L : List UInt8) (X : List T × Option Nat) (q : Nat) (pre : List T) : Prop := X = (pre ++ (lex Lib.itoa 0 q (L.drop q)).1, (lex Lib.itoa 0 q (L.drop q)).2) ∧ (ws false (L.drop q) = 0 ∧ pre.length ≤ q ∧ pre.length ≤ 1000)
theorem AllRel.start (L : List UInt8) : AllRel L (lex Lib.itoa 0 0 L) (ws false L) [] := by
  refine ⟨?_, ws_drop _ _, by simp, by simp⟩
  rw [lex_ws]
  simp
theorem AllRel.no {L : List UInt8} {X : List T × Option Nat} {q : Nat} {pre : List T} (h : AllRel L X q pre) (hq : q < L.length) (ht : tk Lib.itoa (L.drop q) = none) : X = (pre, some q) ∧ pre.length ≤ 1000 := by
  obtain ⟨h1, h2, h3, h4⟩ := h
  rw [lex_none h2 ht (by intro e; have := congrArg List.length e; simp at this; omega)] at h1
  exact ⟨by simpa using h1, h4⟩
theorem AllRel.fin {L : List UInt8} {X : List T × Option Nat} {q : Nat} {pre : List T} (h : AllRel L X q pre) (hq : L.length ≤ q) : X = (pre, none) ∧ pre.length ≤ 1000 := by
  obtain ⟨h1, h2, h3, h4⟩ := h
  rw [List.drop_of_length_le hq] at h1
  simp only [lex, List.append_nil] at h1
  exact ⟨h1, h4⟩
theorem AllRel.yes {L : List UInt8} {X : List T × Option Nat} {q : Nat} {pre : List T} {t : Tk} (h : AllRel L X q pre) (hq : q < L.length) (ht : tk Lib.itoa (L.drop q) = some t) :
    q + t.more + 1 ≤ L.length ∧ (pre.length < 1000 → AllRel L X (q + t.more + 1 + ws false (L.drop (q + t.more + 1))) (pre ++ [⟨t.kind, t.text, t.num, q⟩])) ∧ (pre.length = 1000 → 1000 < X.1.length ∧ (X.1.getD 1000 default).at_ = q) := by
  obtain ⟨h1, h2, h3, h4⟩ := h
  have hm := tk_more ht
  rw [List.length_drop] at hm
  rw [lex_some h2 ht, List.drop_drop, show q + (t.more + 1) = q + t.more + 1 by omega] at h1
  refine ⟨by omega, fun hl => ⟨?_, by have := ws_drop false (L.drop (q + t.more + 1)); rw [List.drop_drop] at this; exact this, by simp; omega, by simp; omega⟩, fun hl => ?_⟩
  · rw [h1, lex_ws (q + t.more + 1) (L.drop (q + t.more + 1)), List.drop_drop]
    simp
  · rw [h1]
    constructor
    · simp; omega
    · simp only
      rw [List.getD_eq_getElem?_getD, List.getElem?_append_right (by omega), hl]
      rfl
theorem ans_none {X : List T × Option Nat} {n q : Nat} {pre : List T} (h : X = (pre, some q) ∧ pre.length ≤ 1000) : ansT X = [] ∧ ansAt n X = q ∧ ansE X = 4 := by
  obtain ⟨rfl, h⟩ := h
  have : ¬ 1000 < pre.length := by omega
  simp [ansT, ansAt, ansE, this]
theorem ans_end {X : List T × Option Nat} {n : Nat} {pre : List T} (h : X = (pre, none) ∧ pre.length ≤ 1000) : ansT X = pre ∧ ansAt n X = n ∧ ansE X = 0 := by
  obtain ⟨rfl, h⟩ := h
  have : ¬ 1000 < pre.length := by omega
  simp [ansT, ansAt, ansE, this]
theorem ans_long {X : List T × Option Nat} {n q : Nat} (h : 1000 < X.1.length ∧ (X.1.getD 1000 default).at_ = q) : ansT X = [] ∧ ansAt n X = q ∧ ansE X = 2 := by
  obtain ⟨h1, h2⟩ := h
  simp only [ansT, ansAt, ansE, if_pos h1, h2, and_self]
def AllPost (l : List T) (p e : Nat) (w : World) (r : Ending) (w' : World) : Prop :=
  ∃ v, r = .returned (.tuple #[v, .int .i64 p, .int .i64 e]) ∧ w'.ownsRow w.heap.size 155 4 v l.length (tv l) ∧ Below w.heap.size w w'
theorem AllPost.mk {l : List T} {p e : Nat} {w w' : World} {v : Value} (h : w'.ownsRow w.heap.size 155 4 v l.length (tv l)) (hb : Below w.heap.size w w') : AllPost l p e w (.returned (.tuple #[v, .int .i64 p, .int .i64 e])) w' := ⟨v, rfl, h, hb⟩
theorem AllPost.no {l : List T} {p e q x : Nat} {w w' : World} (h : l = [] ∧ p = q ∧ e = x) (hb : Below w.heap.size w w') : AllPost l p e w (.returned (.tuple #[.slice none 0 0, .int .i64 q, .int .i64 x])) w' := by
  obtain ⟨rfl, rfl, rfl⟩ := h
  exact ⟨_, rfl, World.ownsRow_nil _ _ _ _, hb⟩

set_option maxRecDepth 1000000 in
set_option maxHeartbeats 2000000 in
theorem rall_any (s : ByteArray) (hs : s.size ≤ 1000000) (w : World) :
    Calls Tryz.prog 93 #[.string s] w fun e w' => AllPost (allT Lib.itoa s.data.toList) (allAt Lib.itoa s.data.toList) (allE Lib.itoa s.data.toList) w e w' := by
  obtain ⟨i0, hi, hz0, hz1, hz2⟩ := info_parts infoToks
  have hsl : s.data.toList.length = s.size := by simp
  by_cases h5 : 5000 < s.size
  · have HA := Lib.hid (show allT Lib.itoa s.data.toList = [] ∧ allAt Lib.itoa s.data.toList = 0 ∧ allE Lib.itoa s.data.toList = 2 by
      simp only [allT, allAt, allE, hsl, if_pos h5, and_self])
    generalize allT Lib.itoa s.data.toList = X1 at *
    generalize allAt Lib.itoa s.data.toList = X2 at *
    generalize allE Lib.itoa s.data.toList = X3 at *
    clear hsl
    go_enter Tryz.func93, Tryz.ntmps93
    go_wp2_with fail
    go_ret3
    exact AllPost.no HA.out (Below.refl _ _)
  · have hA : allT Lib.itoa s.data.toList = ansT (lex Lib.itoa 0 0 s.data.toList) ∧ allAt Lib.itoa s.data.toList = ansAt s.size (lex Lib.itoa 0 0 s.data.toList) ∧ allE Lib.itoa s.data.toList = ansE (lex Lib.itoa 0 0 s.data.toList) := by
      simp only [allT, allAt, allE, hsl, if_neg h5, and_self]
    rw [hA.1, hA.2.1, hA.2.2]
    have hst := AllRel.start s.data.toList
    have hwl := ws_le false s.data.toList
    rw [hsl] at hwl
    have hbl := fun k hk w => blank_any s hs k hk w
    have hone := fun k hk w => rone_any s hs k hk w
    have hwd : ∀ k, ws false (s.data.toList.drop k) ≤ s.size - k := fun k => by
      have := ws_le false (s.data.toList.drop k)
      rwa [List.length_drop, hsl] at this
    have hno := fun q pre (h : AllRel s.data.toList (lex Lib.itoa 0 0 s.data.toList) q pre) hq ht => h.no hq ht
    have hyes := fun q pre (h : AllRel s.data.toList (lex Lib.itoa 0 0 s.data.toList) q pre) t hq ht => h.yes (t := t) hq ht
    have hfin := fun q pre (h : AllRel s.data.toList (lex Lib.itoa 0 0 s.data.toList) q pre) hq => h.fin hq
    have h0 := hbl 0 (by omega)
    simp only [List.drop_zero, Nat.zero_add, Int.cast_ofNat_Int] at h0
    generalize lex Lib.itoa 0 0 s.data.toList = X at *
    generalize s.data.toList = L at *
    generalize hW0 : ws false L = W0 at *
    have HSL := Lib.hid hsl
    have HBL := Lib.hid hbl
    have HON := Lib.hid hone
    have HWD := Lib.hid hwd
    have HNO := Lib.hid hno
    have HYE := Lib.hid hyes
    have HFI := Lib.hid hfin
    have HST := Lib.hid hst
    have HZ := Lib.hid h0
    clear hA hsl hbl hone hwd hno hyes hfin hst hW0 h0
    have h5' : s.size ≤ 5000 := by omega
    go_enter Tryz.func93, Tryz.ntmps93
    go_wp2_with fail
    refine (HZ.out _).mono ?_
    rintro e w1 ⟨rfl, rfl⟩
    go_wp2
    go_loopw [5, 6] (fun v i wr => ∃ (q : Nat) (pre : List T), i = .int .i64 q ∧ q ≤ s.size ∧ pre.length ≤ 1000 ∧ wr.ownsRow w.heap.size 155 4 v pre.length (tv pre) ∧ AllRel L X q pre ∧ Below w.heap.size w wr) (fun _ i _ => s.size - (intOf i).toNat)
    case atStart => exact ⟨W0, [], rfl, hwl, by simp, World.ownsRow_nil _ _ _ _, HST.out, Below.refl _ _⟩
    case round =>
      obtain ⟨q, pre, rfl, hq, hp1, hown, hrel, hb⟩ := hrel
      have HR := Lib.hid hrel
      clear hrel
      by_cases h1 : q < s.size
      · have hnn := HNO.out q pre HR.out (by rw [HSL.out]; exact h1)
        have hyy := fun t => HYE.out q pre HR.out t (by rw [HSL.out]; exact h1)
        rw [HSL.out] at hyy
        have HO := Lib.hid (HON.out q h1)
        generalize tk Lib.itoa (L.drop q) = O at *
        cases O with
        | none =>
          have HAN := Lib.hid (ans_none (n := s.size) (hnn rfl))
          clear hnn hyy hown
          go_wp2_with fail
          refine (HO.out _).mono ?_
          rintro e w2 ⟨⟨k, n, z, x, rfl⟩, hb2⟩
          go_wp2
          go_ret3
          exact AllPost.no HAN.out (below_lit (below_then hb hb2) _)
        | some t =>
          obtain ⟨hm, hlt, heq⟩ := hyy t rfl
          obtain ⟨A, c, rfl, -⟩ := SlT.of_own hown
          clear hnn hyy
          by_cases hk : pre.length = 1000
          · have HAN := Lib.hid (ans_long (n := s.size) (heq hk))
            clear hlt heq hown
            have d1 : decide ((1000 : Int) ≤ (pre.length : Int)) = true := by rw [decide_eq_true_eq]; omega
            go_wp2_with fail
            refine (HO.out _).mono ?_
            rintro e w2 ⟨rfl, hb2⟩
            unfold TokV
            go_wp2
            go_ret3
            exact AllPost.no HAN.out (below_lit (below_then hb hb2) _)
          · have HN := Lib.hid (hlt (by omega))
            have d1 : decide ((1000 : Int) ≤ (pre.length : Int)) = false := by rw [decide_eq_false_iff_not]; omega
            have hb7 := fun w => HBL.out (q + t.more + 1) hm w
            have hwd := HWD.out (q + t.more + 1)
            obtain ⟨kind, text, num, more⟩ := t
            simp only at hm hwd HN hb7
            have E1 : Hid (tv pre ++ tv [⟨kind, text, num, q⟩] = tv (pre ++ [⟨kind, text, num, q⟩])) := Lib.hid (by rw [tv_append])
            have E2 : Hid (pre.length + 1 = (pre ++ [(⟨kind, text, num, q⟩ : T)]).length) := Lib.hid (by simp)
            have HB7 := Lib.hid hb7
            clear hlt heq hb7
            go_wp2_with fail
            refine (HO.out _).mono ?_
            rintro e w2 ⟨rfl, hb2⟩
            unfold TokV
            have hown2 := own_below hown hb2
            have hb3 := below_then hb hb2
            simp only
            have hqq : q < q + more + 1 := by omega
            generalize q + more + 1 = q' at *
            go_wp2_with (at_builtin; refine wpList_app_sl rfl _ _ 109 rfl w.heap.size 155 i0 _ 4 40 Tryz.underlying109 hi hz0 hz1 hz2 rfl (by omega) (.slice A pre.length c) pre.length (tv pre) rfl ((hown2.alloc _).alloc _) _ 1 1 (tv [⟨kind, text, num, q⟩]) rfl (lit_tok2 _ _ ⟨kind, text, num, q⟩) (tv_one _) (by unfold maxLen; omega) (by omega) (by have := hb3.size; simp; omega) ?_; intro v3 w3 hown3 hg3; have hb4 : Below w.heap.size w w3 := (below_lit (below_lit hb3 _) _).grown hg3 (below_lit (below_lit hb3 _) _).size (own_ge hown2); rw [E1.out, E2.out] at hown3)
            refine (HB7.out _).mono ?_
            rintro e w4 ⟨rfl, rfl⟩
            go_wp2
            exact ⟨⟨q' + ws false (L.drop q'), pre ++ [⟨kind, text, num, q⟩], rfl, by omega, by simp; omega, hown3, HN.out, hb4⟩, by simp [intOf]; omega⟩
      · have HF := Lib.hid (ans_end (n := s.size) (HFI.out q pre HR.out (by rw [HSL.out]; omega)))
        go_wp2
        go_ret3
        obtain ⟨f1, f2, f3⟩ := HF.out
        rw [f1, f2, f3]
        exact AllPost.mk hown hb

set_option maxRecDepth 1000000 in
set_option maxHeartbeats 2000000 in
theorem all_any (s : ByteArray) (hs : s.size ≤ 1000000) (w : World) (LV : Laid w) :
    Calls Tryz.prog 60 #[.string s] w fun e w' => AllPost (allT Lib.itoa s.data.toList) (allAt Lib.itoa s.data.toList) (allE Lib.itoa s.data.toList) w e w' := by
  obtain ⟨i0, hi, hz0, hz1, hz2⟩ := info_parts infoToks
  have hsl : s.data.toList.length = s.size := by simp
  by_cases h5 : 5000 < s.size
  · have HA := Lib.hid (show allT Lib.itoa s.data.toList = [] ∧ allAt Lib.itoa s.data.toList = 0 ∧ allE Lib.itoa s.data.toList = 2 by
      simp only [allT, allAt, allE, hsl, if_pos h5, and_self])
    generalize allT Lib.itoa s.data.toList = X1 at *
    generalize allAt Lib.itoa s.data.toList = X2 at *
    generalize allE Lib.itoa s.data.toList = X3 at *
    clear hsl
    go_enter Tryz.func60, Tryz.ntmps60
    go_wp2_with fail
    go_ret3
    exact AllPost.no HA.out (Below.refl _ _)
  · have hA : allT Lib.itoa s.data.toList = ansT (lex Lib.itoa 0 0 s.data.toList) ∧ allAt Lib.itoa s.data.toList = ansAt s.size (lex Lib.itoa 0 0 s.data.toList) ∧ allE Lib.itoa s.data.toList = ansE (lex Lib.itoa 0 0 s.data.toList) := by
      simp only [allT, allAt, allE, hsl, if_neg h5, and_self]
    rw [hA.1, hA.2.1, hA.2.2]
    have hst := AllRel.start s.data.toList
    have hwl := ws_le false s.data.toList
    rw [hsl] at hwl
    have hbl := fun k hk w => skip_any s hs k hk w
    have hrd := fun k c (hc : s.data.toList[k]? = some c) f (hf : readF c = some f) w L => read_any s hs k c hc f hf w L
    have hsg := at_list s
    have htn := fun k c (hc : s.data.toList[k]? = some c) (hf : readF c = none) => tk_none (drop_cons hc) hf
    have hwd : ∀ k, ws false (s.data.toList.drop k) ≤ s.size - k := fun k => by
      have := ws_le false (s.data.toList.drop k)
      rwa [List.length_drop, hsl] at this
    have hno := fun q pre (h : AllRel s.data.toList (lex Lib.itoa 0 0 s.data.toList) q pre) hq ht => h.no hq ht
    have hyes := fun q pre (h : AllRel s.data.toList (lex Lib.itoa 0 0 s.data.toList) q pre) t hq ht => h.yes (t := t) hq ht
    have hfin := fun q pre (h : AllRel s.data.toList (lex Lib.itoa 0 0 s.data.toList) q pre) hq => h.fin hq
    have h0 := hbl 0 (by omega)
    simp only [List.drop_zero, Nat.zero_add, Int.cast_ofNat_Int] at h0
    generalize lex Lib.itoa 0 0 s.data.toList = X at *
    generalize s.data.toList = L at *
    generalize hW0 : ws false L = W0 at *
    have HSL := Lib.hid hsl
    have HBL := Lib.hid hbl
    have HRD := Lib.hid hrd
    have HSG := Lib.hid hsg
    have HTN := Lib.hid htn
    have HWD := Lib.hid hwd
    have HNO := Lib.hid hno
    have HYE := Lib.hid hyes
    have HFI := Lib.hid hfin
    have HST := Lib.hid hst
    have HZ := Lib.hid h0
    clear hA hsl hbl hrd hsg htn hwd hno hyes hfin hst hW0 h0
    have h5' : s.size ≤ 5000 := by omega
    go_enter Tryz.func60, Tryz.ntmps60
    go_wp2_with fail
    refine (readers_any _).mono ?_
    rintro e w0 ⟨b, rfl, hmap, hb0⟩
    go_wp2_with fail
    refine (HZ.out _).mono ?_
    rintro e w1 ⟨rfl, rfl⟩
    go_wp2
    go_loopw [7, 8] (fun v i wr => ∃ (q : Nat) (pre : List T), i = .int .i64 q ∧ q ≤ s.size ∧ pre.length ≤ 1000 ∧ wr.ownsRow w0.heap.size 155 4 v pre.length (tv pre) ∧ AllRel L X q pre ∧ Below w0.heap.size w0 wr) (fun _ i _ => s.size - (intOf i).toNat)
    case atStart => exact ⟨W0, [], rfl, hwl, by simp, World.ownsRow_nil _ _ _ _, HST.out, Below.refl _ _⟩
    case round =>
      obtain ⟨q, pre, rfl, hq, hp1, hown, hrel, hb⟩ := hrel
      have HR := Lib.hid hrel
      clear hrel
      have hbw := below_then hb0 hb
      by_cases h1 : q < s.size
      · have HX := Lib.hid (HSG.out q h1)
        have hnn := HNO.out q pre HR.out (by rw [HSL.out]; exact h1)
        have hyy := fun t => HYE.out q pre HR.out t (by rw [HSL.out]; exact h1)
        rw [HSL.out] at hyy
        obtain ⟨fvv, hlook, hfv⟩ := (hmap.on hb).look s[q]
        cases hf : readF s[q] with
        | none =>
          have HAN := Lib.hid (ans_none (n := s.size) (hnn (HTN.out q _ HX.out hf)))
          rw [hf] at hlook
          simp only [Option.isSome_none] at hlook
          clear hnn hyy hown hfv hf
          go_wp2
          go_ret3
          exact AllPost.no HAN.out hbw
        | some f =>
          obtain rfl := hfv f hf
          have hent := read_enters _ f hf
          rw [hf] at hlook
          simp only [Option.isSome_some] at hlook
          have HO := Lib.hid (HRD.out q _ HX.out f hf)
          clear hfv hf
          generalize tk Lib.itoa (L.drop q) = O at *
          unfold fv at hlook
          cases O with
          | none =>
            have HAN := Lib.hid (ans_none (n := s.size) (hnn rfl))
            clear hnn hyy hown
            go_wp2_with fail
            refine (HO.out _ (LV.on hbw)).mono ?_
            rintro e w2 ⟨rfl, hb2⟩
            unfold SV TokV
            go_wp2
            go_ret3
            exact AllPost.no HAN.out (below_lit (below_then hbw hb2) _)
          | some t =>
            obtain ⟨hm, hlt, heq⟩ := hyy t rfl
            obtain ⟨A, c, rfl, -⟩ := SlT.of_own hown
            clear hnn hyy
            by_cases hk : pre.length = 1000
            · have HAN := Lib.hid (ans_long (n := s.size) (heq hk))
              clear hlt heq hown
              have d1 : ((pre.length : Int) == 1000) = true := by rw [beq_iff_eq]; omega
              go_wp2_with fail
              refine (HO.out _ (LV.on hbw)).mono ?_
              rintro e w2 ⟨rfl, hb2⟩
              unfold SV TokV
              go_wp2
              go_ret3
              exact AllPost.no HAN.out (below_lit (below_then hbw hb2) _)
            · have HN := Lib.hid (hlt (by omega))
              have d1 : ((pre.length : Int) == 1000) = false := by rw [beq_eq_false_iff_ne]; omega
              have hb7 := fun w => HBL.out (q + t.more + 1) hm w
              have hwd := HWD.out (q + t.more + 1)
              obtain ⟨kind, text, num, more⟩ := t
              simp only at hm hwd HN hb7
              have E1 : Hid (tv pre ++ tv [⟨kind, text, num, q⟩] = tv (pre ++ [⟨kind, text, num, q⟩])) := Lib.hid (by rw [tv_append])
              have E2 : Hid (pre.length + 1 = (pre ++ [(⟨kind, text, num, q⟩ : T)]).length) := Lib.hid (by simp)
              have HB7 := Lib.hid hb7
              clear hlt heq hb7
              have hsz0 := hb.size
              go_wp2_with fail
              refine (HO.out _ (LV.on hbw)).mono ?_
              rintro e w2 ⟨rfl, hb2⟩
              unfold SV TokV
              have hown2 := own_below hown hb2
              have hb3 := below_then hb hb2
              simp only
              have hqq : q < q + more + 1 := by omega
              generalize q + more + 1 = q' at *
              go_wp2_with (at_builtin; refine wpList_app_sl rfl _ _ 109 rfl w0.heap.size 155 i0 _ 4 40 Tryz.underlying109 hi hz0 hz1 hz2 rfl (by omega) (.slice A pre.length c) pre.length (tv pre) rfl ((hown2.alloc _).alloc _) _ 1 1 (tv [⟨kind, text, num, q⟩]) rfl (lit_tok2 _ _ ⟨kind, text, num, q⟩) (tv_one _) (by unfold maxLen; omega) (by omega) (by have := hb3.size; simp; omega) ?_; intro v3 w3 hown3 hg3; have hb4 : Below w0.heap.size w0 w3 := (below_lit (below_lit hb3 _) _).grown hg3 (below_lit (below_lit hb3 _) _).size (own_ge hown2); rw [E1.out, E2.out] at hown3)
              refine (HB7.out _).mono ?_
              rintro e w4 ⟨rfl, rfl⟩
              go_wp2
              exact ⟨⟨q' + ws false (L.drop q'), pre ++ [⟨kind, text, num, q⟩], rfl, by omega, by simp; omega, hown3, HN.out, hb4⟩, by simp [intOf]; omega⟩
      · have HF := Lib.hid (ans_end (n := s.size) (HFI.out q pre HR.out (by rw [HSL.out]; omega)))
        go_wp2
        go_ret3
        obtain ⟨f1, f2, f3⟩ := HF.out
        rw [f1, f2, f3]
        exact AllPost.mk (own_mono hown hb0.size) hbw
end Go.Proofs.YtciiemomfniecaaGreatDoor
/-
  A text is parsed: the contract.
-/
namespace Go.Proofs.YtciiemomfniecaaGreatDoor
set_option maxRecDepth 100000

open Go.RowKit

/-- What is told of a text. -/
def toksOf (L : List UInt8) : List T := allT Lib.itoa L
def errOf (L : List UInt8) : Nat := allE Lib.itoa L
def parOK (L : List UInt8) : Bool := errOf L == 0 && okR (run c0 (toksOf L))
def parF (L : List UInt8) : Fl := if parOK L then (run c0 (toksOf L)).1.f else ⟨[], []⟩
def parAt (L : List UInt8) : Nat := if errOf L == 0 then (if okR (run c0 (toksOf L)) then L.length else S.place L.length ⟨(run c0 (toksOf L)).2, true⟩) else allAt Lib.itoa L
def parE (L : List UInt8) : Nat := if errOf L == 0 then (if okR (run c0 (toksOf L)) then 0 else 4) else errOf L
theorem toks_few (L : List UInt8) : (toksOf L).length ≤ 1000 := by
  unfold toksOf allT ansT
  split
  · simp
  · split
    · simp
    · split
      · simp
      · omega
def ParPost (F : Fl) (p e : Nat) (w : World) (r : Ending) (w' : World) : Prop := ∃ vM vE, r = .returned (.tuple #[.agg #[vM, vE], .int .i64 p, .int .i64 e]) ∧ FRead w' F vM vE ∧ Below w.heap.size w w'
theorem results_fl3 {fn : Func} {p u v : Tmp} (h : fn.results = #[.cell p 25, .tmp u, .tmp v]) (tmps : Array Value) (w : World) (g : Nat) (t : TypeId) (u0 u1 : Value) (fr : Nat × Nat)
    (hp : tmps.getD p undef = .pointer (some ⟨g, 0, none⟩)) (hg : w.heap[g]? = some (.cells #[u0, u1] t fr)) :
    (results fn tmps).run Tryz.prog w = .ok (.tuple #[.agg #[u0, u1], tmps.getD u undef, tmps.getD v undef]) w :=
  results_row_tmp2 h tmps w g t _ fr _ hp hg Tryz.underlying25 rfl infoFl
theorem Kp.below {B P : Nat} {a w : World} (h : Kp B P a w) (hP : a.heap.size ≤ P) (hB : a.heap.size ≤ B) : Below a.heap.size a w := ⟨h.os, h.tape, h.output, h.size, fun k hk => h.block k (by omega) (by omega)⟩

set_option maxHeartbeats 4000000 in
theorem parse_any (s : ByteArray) (hs : s.size ≤ 1000000) (w : World) (LV : Laid w) :
    Calls Tryz.prog 29 #[.string s] w (ParPost (parF s.data.toList) (parAt s.data.toList) (parE s.data.toList) w) := by
  have hsl : s.data.toList.length = s.size := by simp
  have hall := all_any s hs (w.alloc (.cells #[.slice none 0 0, .slice none 0 0] 25)) (LV.on (below_new _ _))
  have hfew := toks_few s.data.toList
  change Calls _ _ _ _ (fun e w' => AllPost (toksOf s.data.toList) (allAt Lib.itoa s.data.toList) (errOf s.data.toList) _ e w') at hall
  have hF : parF s.data.toList = if (errOf s.data.toList == 0 && okR (run c0 (toksOf s.data.toList))) then (run c0 (toksOf s.data.toList)).1.f else ⟨[], []⟩ := rfl
  have hA : parAt s.data.toList = if errOf s.data.toList == 0 then (if okR (run c0 (toksOf s.data.toList)) then s.data.toList.length else S.place s.data.toList.length ⟨(run c0 (toksOf s.data.toList)).2, true⟩) else allAt Lib.itoa s.data.toList := rfl
  have hE : parE s.data.toList = if errOf s.data.toList == 0 then (if okR (run c0 (toksOf s.data.toList)) then 0 else 4) else errOf s.data.toList := rfl
  rw [hsl] at hA
  have hfr := file_run s.size (toksOf s.data.toList)
  generalize parF s.data.toList = XF at *
  generalize parAt s.data.toList = XA at *
  generalize parE s.data.toList = XE at *
  generalize toksOf s.data.toList = l at *
  generalize allAt Lib.itoa s.data.toList = at0 at *
  generalize errOf s.data.toList = er at *
  have HALL := Lib.hid hall
  clear hall hsl
  by_cases h0 : er = 0
  · subst h0
    simp only [beq_self_eq_true, Bool.true_and, if_true] at hF hA hE
    have HF := Lib.hid hF
    have HA := Lib.hid hA
    have HE := Lib.hid hE
    have HFR := Lib.hid hfr
    clear hF hA hE hfr
    go_enter Tryz.func29, Tryz.ntmps29
    go_wp2_with fail
    refine HALL.out.mono ?_
    rintro e w1 ⟨v, rfl, hown, hb1⟩
    obtain ⟨A, c, rfl, hl⟩ := SlT.of_own hown
    have hlt1 := hown.lt
    have hs1 := hb1.size
    simp at hs1
    have HR1 := Lib.hid ((hb1.block w.heap.size (by simp)).trans (heap_alloc_new w _))
    have HB1 := Lib.hid (below_then (below_new w _) hb1)
    have HL := Lib.hid hl
    have HO := Lib.hid hown
    clear hl hown hb1
    go_wp2_with fail
    have hp1 : PSt (w1.alloc (.cells #[.slice A l.length c, .int .i64 s.size, .bool false] 116)) w1.heap.size s.size ⟨l, false⟩ := ⟨A, c, heap_alloc_new w1 _, HL.out.on (below_new _ _), fun ad ha => (hlt1 ad.block (by rw [ha]; rfl)).2⟩
    refine (file_any w1.heap.size s.size ⟨l, false⟩ _ hp1 (by simp [S.mu]; omega)).mono ?_
    rintro e w2 ⟨vM, vE, rfl, hf2, hp2, hg2⟩
    obtain ⟨AM, cM, rfl⟩ : ∃ AM cM, vM = .slice AM (fileF s.size ⟨l, false⟩ ⟨[], []⟩).2.M.length cM := by obtain ⟨xs, ys, r1, r2, r3, r4⟩ := hf2; obtain ⟨a, b, h, -⟩ := Sl.of_own r1; exact ⟨a, b, h⟩
    obtain ⟨AE, cE, rfl⟩ : ∃ AE cE, vE = .slice AE (fileF s.size ⟨l, false⟩ ⟨[], []⟩).2.E.length cE := by obtain ⟨xs, ys, r1, r2, r3, r4⟩ := hf2; obtain ⟨a, b, h, -⟩ := Sl.of_own r3; exact ⟨a, b, h⟩
    have hs2 := hg2.size
    simp at hs2
    have hb2 : Below w.heap.size w w2 := ((Kp.refl (w.heap.size + 1) w1.heap.size w1).alloc hs1 (.cells #[.slice A l.length c, .int .i64 s.size, .bool false] 116)).taken hg2 (by simp; omega) |> fun k => HB1.out.trans ⟨k.os, k.tape, k.output, k.size, fun i hi => k.block i (by omega) (by omega)⟩
    have hr2 := (hg2.block w.heap.size (by simp; omega) (by simp; omega)).trans ((Below.heap_alloc w1 (.cells #[.slice A l.length c, .int .i64 s.size, .bool false] 116) w.heap.size (by omega)).trans HR1.out)
    change PSt w2 w1.heap.size s.size (endF s.size l) at hp2
    obtain ⟨A2, q2, hpb, hpl, hpa⟩ := id hp2
    have c2 := heap_cell hpb 2
    simp at c2
    have hlt2 : w1.heap.size < w2.heap.size := by omega
    have HR2 := Lib.hid ((Below.heap_alloc w2 (.cells #[.slice AM (fileF s.size ⟨l, false⟩ ⟨[], []⟩).2.M.length cM, .slice AE (fileF s.size ⟨l, false⟩ ⟨[], []⟩).2.E.length cE] 25) w.heap.size (by omega)).trans hr2)
    have HB2 := Lib.hid (below_lit hb2 (.cells #[.slice AM (fileF s.size ⟨l, false⟩ ⟨[], []⟩).2.M.length cM, .slice AE (fileF s.size ⟨l, false⟩ ⟨[], []⟩).2.E.length cE] 25))
    have HFB := Lib.hid (heap_alloc_new w2 (.cells #[.slice AM (fileF s.size ⟨l, false⟩ ⟨[], []⟩).2.M.length cM, .slice AE (fileF s.size ⟨l, false⟩ ⟨[], []⟩).2.E.length cE] 25))
    have HF2 := Lib.hid (hf2.on (below_new w2 (.cells #[.slice AM (fileF s.size ⟨l, false⟩ ⟨[], []⟩).2.M.length cM, .slice AE (fileF s.size ⟨l, false⟩ ⟨[], []⟩).2.E.length cE] 25)))
    have HP2 := Lib.hid (hp2.alloc (.cells #[.slice AM (fileF s.size ⟨l, false⟩ ⟨[], []⟩).2.M.length cM, .slice AE (fileF s.size ⟨l, false⟩ ⟨[], []⟩).2.E.length cE] 25))
    have g3 : (Value.slice none 0 0).oneCell' = true := rfl
    obtain ⟨f1, f2, f3⟩ := HFR.out
    clear hr2 hb2 hpb hpl hpa hp2 hf2 hg2 hlt1
    cases hok : okR (run c0 l)
    · rw [hok] at f1
      rw [f1] at c2
      have hx1 : XF = ⟨[], []⟩ := by rw [HF.out, hok]; rfl
      have hx2 : XA = S.place s.size (endF s.size l) := by
        rw [HA.out, hok]
        simp only [Bool.false_eq_true, if_false]
        unfold S.place
        simp only [f2]
      have hx3 : XE = 4 := by rw [HE.out, hok]; rfl
      have HX := Lib.hid (show XF = ⟨[], []⟩ ∧ XA = S.place s.size (endF s.size l) ∧ XE = 4 from ⟨hx1, hx2, hx3⟩)
      clear hx1 hx2 hx3 f1 f2 f3 hok
      go_wp2_with fail
      refine (place_any w1.heap.size s.size (endF s.size l) _ HP2.out).mono ?_
      rintro e w3 ⟨rfl, rfl⟩
      go_wp2_with (refine wpList_store_fl rfl _ _ rfl rfl w.heap.size _ _ _ _ rfl rfl g3 g3 _ HR2.out ?_)
      refine bodyPost_ret (results_fl3 rfl _ _ w.heap.size _ _ _ (0, 0) rfl (setRow_heap _ _ _ _ _ _ HR2.out)) rfl ?_
      obtain ⟨rfl, rfl, rfl⟩ := HX.out
      exact ⟨_, _, rfl, FRead.nothing _, below_setRow HB2.out (Nat.le_refl _) _⟩
    · rw [hok] at f1
      rw [f1] at c2
      have hx1 := f3 hok
      have hx2 : XA = s.size := by rw [HA.out, hok]; rfl
      have hx3 : XE = 0 := by rw [HE.out, hok]; rfl
      have hx4 : XF = (run c0 l).1.f := by rw [HF.out, hok]; rfl
      have HX := Lib.hid (show XF = (fileF s.size ⟨l, false⟩ ⟨[], []⟩).2 ∧ XA = s.size ∧ XE = 0 from ⟨by rw [hx4, hx1], hx2, hx3⟩)
      clear hx1 hx2 hx3 hx4 f1 f2 f3 hok
      go_wp2_with (refine wpList_store_fl rfl _ _ rfl rfl w.heap.size _ _ _ _ rfl rfl rfl rfl _ HR2.out ?_)
      refine bodyPost_ret (results_fl3 rfl _ _ w.heap.size _ _ _ (0, 0) rfl (setRow_heap _ _ _ _ _ _ HR2.out)) rfl ?_
      obtain ⟨rfl, rfl, rfl⟩ := HX.out
      have hgr : (w2.alloc (.cells #[.slice AM (fileF s.size ⟨l, false⟩ ⟨[], []⟩).2.M.length cM, .slice AE (fileF s.size ⟨l, false⟩ ⟨[], []⟩).2.E.length cE] 25)).grownBy ((w2.alloc (.cells #[.slice AM (fileF s.size ⟨l, false⟩ ⟨[], []⟩).2.M.length cM, .slice AE (fileF s.size ⟨l, false⟩ ⟨[], []⟩).2.E.length cE] 25)).setRow w.heap.size #[.slice AM (fileF s.size ⟨l, false⟩ ⟨[], []⟩).2.M.length cM, .slice AE (fileF s.size ⟨l, false⟩ ⟨[], []⟩).2.E.length cE]) (some w.heap.size) := ⟨rfl, rfl, rfl, by simp, fun k _ hk => setRow_other _ _ _ _ (by simpa using hk)⟩
      have hlf := Leaf.grown hgr HR2.out rfl
      obtain ⟨xs', ys', r1, r2, r3, r4⟩ := HF2.out
      exact ⟨_, _, rfl, ⟨xs', ys', own_other r1 hgr HR2.out (by decide), r2.leaf hlf, own_other r3 hgr HR2.out (by decide), r4.leaf hlf⟩, below_setRow HB2.out (Nat.le_refl _) _⟩
  · have hb : (er == 0) = false := by simpa using h0
    have hbi : ((er : Int) != 0) = true := by rw [bne_iff_ne]; omega
    simp only [hb, Bool.false_and, Bool.false_eq_true, if_false] at hF hA hE
    have HX := Lib.hid (show XF = ⟨[], []⟩ ∧ XA = at0 ∧ XE = er from ⟨hF, hA, hE⟩)
    clear hF hA hE hfr h0 hb
    have g3 : (Value.slice none 0 0).oneCell' = true := rfl
    go_enter Tryz.func29, Tryz.ntmps29
    go_wp2_with fail
    refine HALL.out.mono ?_
    rintro e w1 ⟨v, rfl, hown, hb1⟩
    obtain ⟨A, c, rfl, hl⟩ := SlT.of_own hown
    have HR1 := Lib.hid ((hb1.block w.heap.size (by simp)).trans (heap_alloc_new w _))
    have HB1 := Lib.hid (below_then (below_new w _) hb1)
    clear hl hown hb1
    go_wp2_with (refine wpList_store_fl rfl _ _ rfl rfl w.heap.size _ _ _ _ rfl rfl g3 g3 _ HR1.out ?_)
    refine bodyPost_ret (results_fl3 rfl _ _ w.heap.size _ _ _ (0, 0) rfl (setRow_heap _ _ _ _ _ _ HR1.out)) rfl ?_
    obtain ⟨rfl, rfl, rfl⟩ := HX.out
    exact ⟨_, _, rfl, FRead.nothing _, below_setRow HB1.out (Nat.le_refl _) _⟩
end Go.Proofs.YtciiemomfniecaaGreatDoor
