/-
  What a byte begins: the contract of the function that lays it in a map of functions.
-/
import Derived.Test.YtceomdbahiimlaaDoorTokRead
import Derived.Maps.OwnSet
namespace Go.Proofs.YtceomdbahiimlaaDoor
set_option maxRecDepth 100000

open Go.RowKit Go.Maps

/-- A function as an element of a map. -/
def fnElem (v : Value) : Option (DataW Unit × List MemPlace) := match v with
  | .func (.func k) a b => if a = #[] ∧ b = #[] then some (.lit (.int .i64 k), []) else none
  | .nilFunc => some (.lit (.int .i64 (-1)), [])
  | _ => none
def fv (k : Nat) : Value := .func (.func k) #[] #[]
theorem fnElem_fv (k : Nat) : fnElem (fv k) = some (.lit (.int .i64 k), []) := by simp [fnElem, fv]
theorem fnElem_nil : fnElem .nilFunc = some (.lit (.int .i64 (-1)), []) := rfl
theorem fnElem_inv {v : Value} {k : Nat} {ps : List MemPlace} (h : fnElem v = some (.lit (.int .i64 k), ps)) : v = fv k := by
  unfold fnElem at h
  split at h
  · split at h
    · rename_i k' a b hab
      simp only [Option.some.injEq, Prod.mk.injEq, DataW.lit.injEq, Lit.int.injEq, true_and] at h
      obtain ⟨h1, _⟩ := h
      have : k' = k := Int.ofNat_inj.1 h1
      subst this
      rw [hab.1, hab.2]; rfl
    · cases h
  · simp only [Option.some.injEq, Prod.mk.injEq, DataW.lit.injEq, Lit.int.injEq, true_and] at h
    omega
  · cases h
def ky (c : UInt8) : Lit := .int .u8 (c.toNat : Int)
theorem ky_ne {a b : UInt8} (h : a ≠ b) : ky a ≠ ky b := by
  intro e
  simp only [ky, Lit.int.injEq, true_and] at e
  exact h (UInt8.toNat_inj.1 (by omega))
theorem ky_key (c : UInt8) : keyOf Tryd.prog 5 (.int .u8 (c.toNat : Int)) = some (ky c) := by
  have := c.toNat_lt
  exact keyOf_int_mk Tryd.underlying5 (by simp only [Lit.wf, Bool.and_eq_true, decide_eq_true_eq]; exact ⟨by show (0 : Int) ≤ _; omega, by show _ ≤ (255 : Int); omega⟩)
theorem ky_lit (c : UInt8) : WideAt.IsKeyLit (ky c) := by
  unfold ky
  trivial
def Knows (D : DataW Unit) (f : UInt8 → Option Nat) : Prop := IsMap D ∧ ∀ c, has D (ky c) = (f c).isSome ∧ ∀ k, f c = some k → D.atKey (ky c) (.lit (.int .i64 (-1))) = .lit (.int .i64 k)
def put1 (c : UInt8) (k : Nat) (f : UInt8 → Option Nat) : UInt8 → Option Nat := fun x => if x = c then some k else f x
theorem Knows.put {D : DataW Unit} {f : UInt8 → Option Nat} (h : Knows D f) (c : UInt8) (k : Nat) (hm : IsMap (D.put (ky c) (.lit (.int .i64 k)))) : Knows (D.put (ky c) (.lit (.int .i64 k))) (put1 c k f) := by
  refine ⟨hm, fun x => ?_⟩
  by_cases hx : x = c
  · subst hx
    rw [has_put_same h.1 (ky_lit x), atKey_put_same h.1 (ky_lit x)]
    simp [put1]
  · rw [has_put_other (ky_ne hx), atKey_put_other (ky_ne hx)]
    simp only [put1, hx, if_false]
    exact h.2 x
def MapIs (w : World) (b n : Nat) (f : UInt8 → Option Nat) : Prop := ∃ D, w.ownsMap Tryd.prog 5 fnElem b n D ∧ Knows D f
theorem MapIs.on {w w' : World} {b n : Nat} {f : UInt8 → Option Nat} (h : MapIs w b n f) (hb : Below w.heap.size w w') : MapIs w' b n f := by
  obtain ⟨D, ⟨es, clock, h1, h2⟩, h3⟩ := h
  exact ⟨D, ⟨es, clock, (hb.block b (Array.getElem?_eq_some_iff.1 h1).1).trans h1, h2⟩, h3⟩
theorem key_law : Keyed Tryd.prog 5 := int_keyed Tryd.underlying5
/-- What the map tells of a byte. -/
theorem MapIs.look {w : World} {b n : Nat} {f : UInt8 → Option Nat} (h : MapIs w b n f) (c : UInt8) :
    ∃ v, (Instr.lookup 57 (.map (some b)) (.int .u8 (c.toNat : Int)) true).run Tryd.prog w = .ok (.tuple #[v, .bool (f c).isSome]) w ∧ ∀ k, f c = some k → v = fv k := by
  obtain ⟨D, ho, hk⟩ := h
  have hz : ∀ w, (zeroValue 61).run Tryd.prog w = .ok .nilFunc w := fun w => by kernel_rfl
  obtain ⟨v, ps, hrun, hv⟩ := ho.look_ok key_law Tryd.underlying57 (hz _) fnElem_nil (ky_key c)
  obtain ⟨h1, h2⟩ := hk.2 c
  rw [h1] at hrun
  refine ⟨v, hrun, fun k hf => ?_⟩
  rw [h2 k hf] at hv
  exact fnElem_inv hv

theorem wpList_insert_own {H : Type} {P : Program} (w : World) {ops : Array Oper} {rest : List Oper} {o : Oper} {a : Act} {Q : Exit → Act → World → Prop}
    (hg : o.guard = none) (m x v : Operand) (t : TypeId) (hop : o.op = Op.insert t m x v)
    (k e : TypeId) (K : Keyed P k) (ht : P.underlying t = some (.map k e)) (R : Value → Option (DataW H × List MemPlace)) (b n : Nat) (D : DataW H)
    (hm : a.eval m = .map (some b)) (hown : w.ownsMap P k R b n D) (hn : n < maxLen) (key val : Value) (kl : Lit) (hx : a.eval x = key) (hv : a.eval v = val) (hkey : keyOf P k key = some kl)
    (d : DataW H) (ps : List MemPlace) (hval : R val = some (d, ps))
    (hK : ∀ w', w'.ownsMap P k R b (n + 1) (D.put kl d) → w.grownBy w' (some b) → wpList P ops Q rest (a.put o.dst undef) w') :
    wpList P ops Q (o :: rest) a w := by
  refine wpList_plain hg fun K' hK' => ?_
  obtain ⟨w', hrun, r1, r2⟩ := hown.update K ht hn hkey hval
  unfold Oper.wp
  simp [execOp, hop, hm, hx, hv, hrun, Result.andThen]
  exact hK' _ _ (hK w' r1 r2)
/-- .. stored: in the words of this text. -/
theorem wpList_insert_fn {w : World} {ops : Array Oper} {rest : List Oper} {o : Oper} {a : Act} {Q : Exit → Act → World → Prop}
    (hg : o.guard = none) (m x v : Operand) (hop : o.op = Op.insert 57 m x v) (b n : Nat) (f : UInt8 → Option Nat) (hm : a.eval m = .map (some b)) (hown : MapIs w b n f) (hn : n < 1000)
    (c : UInt8) (k : Nat) (hx : a.eval x = .int .u8 (c.toNat : Int)) (hv : a.eval v = fv k)
    (hK : ∀ w', MapIs w' b (n + 1) (put1 c k f) → w.grownBy w' (some b) → wpList Tryd.prog ops Q rest (a.put o.dst undef) w') : wpList Tryd.prog ops Q (o :: rest) a w := by
  obtain ⟨D, ho, hk⟩ := hown
  refine wpList_insert_own w hg m x v 57 hop 5 61 key_law Tryd.underlying57 fnElem b n D hm ho (by unfold maxLen; omega) _ _ (ky c) hx hv (ky_key c) _ [] (fnElem_fv k) ?_
  intro w' h1 h2
  exact hK w' ⟨_, h1, hk.put c k h1.isMap⟩ h2
theorem wpList_update_fn {w : World} {ops : Array Oper} {rest : List Oper} {o : Oper} {a : Act} {Q : Exit → Act → World → Prop}
    (hg : o.guard = none) (m x v : Operand) (hop : o.op = Op.mapUpdate 57 m x v) (b n : Nat) (f : UInt8 → Option Nat) (hm : a.eval m = .map (some b)) (hown : MapIs w b n f) (hn : n < 1000)
    (c : UInt8) (k : Nat) (hx : a.eval x = .int .u8 (c.toNat : Int)) (hv : a.eval v = fv k)
    (hK : ∀ w', MapIs w' b (n + 1) (put1 c k f) → w.grownBy w' (some b) → wpList Tryd.prog ops Q rest (a.put o.dst undef) w') : wpList Tryd.prog ops Q (o :: rest) a w := by
  obtain ⟨D, ho, hk⟩ := hown
  refine wpList_mapUpdate_own w hg m x v 57 hop 5 61 key_law Tryd.underlying57 fnElem b n D hm ho (by unfold maxLen; omega) _ _ (ky c) hx hv (ky_key c) _ [] (fnElem_fv k) ?_
  intro w' h1 h2
  exact hK w' ⟨_, h1, hk.put c k h1.isMap⟩ h2
theorem MapIs.mono {w : World} {b n n' : Nat} {f : UInt8 → Option Nat} (h : MapIs w b n f) (hn : n ≤ n') : MapIs w b n' f := by
  obtain ⟨D, ho, hk⟩ := h
  exact ⟨D, ho.mono hn, hk⟩
theorem MapIs.made (w : World) : MapIs (w.alloc (.map #[] 0)) w.heap.size 0 (fun _ => none) :=
  ⟨.map [], World.ownsMap_made w _ _ _, ⟨[], rfl⟩, fun c => ⟨rfl, fun k h => by cases h⟩⟩
/-- Bytes that are put for one function, one behind the other. -/
def puts (l : List UInt8) (k : Nat) (f : UInt8 → Option Nat) : UInt8 → Option Nat := fun x => if x ∈ l then some k else f x
theorem puts_snoc (l : List UInt8) (c : UInt8) (k : Nat) (f : UInt8 → Option Nat) : put1 c k (puts l k f) = puts (l ++ [c]) k f := by
  funext x
  simp only [put1, puts, List.mem_append, List.mem_singleton]
  by_cases h1 : x = c
  · simp [h1]
  · simp [h1]
theorem puts_nil (k : Nat) (f : UInt8 → Option Nat) : puts [] k f = f := by funext x; simp [puts]
def firstS : ByteArray := ⟨#[65, 66, 67, 68, 69, 70, 71, 72, 73, 74, 75, 76, 77, 78, 79, 80, 81, 82, 83, 84, 85, 86, 87, 88, 89, 90, 97, 98, 99, 100, 101, 102, 103, 104, 105, 106, 107, 108, 109, 110, 111, 112, 113, 114, 115, 116, 117, 118, 119, 120, 121, 122, 95]⟩
def readF : UInt8 → Option Nat :=
  puts signS.data.toList 48 (puts firstS.data.toList 47 (puts tenS.data.toList 46 (put1 45 46 (put1 34 45 fun _ => none))))
theorem take_next {l : List UInt8} {k : Nat} {c : UInt8} (h : l[k]? = some c) : l.take k ++ [c] = l.take (k + 1) := by
  rw [List.take_add_one, h]; rfl

set_option maxRecDepth 1000000 in
set_option maxHeartbeats 1000000 in
theorem readers_any (w : World) : Calls Tryd.prog 31 #[] w fun e w' => ∃ b, e = .returned (.map (some b)) ∧ MapIs w' b 100 readF ∧ Below w.heap.size w w' := by
  obtain ⟨S1, hS1⟩ : ∃ s, s = tenS := ⟨_, rfl⟩
  obtain ⟨S2, hS2⟩ : ∃ s, s = firstS := ⟨_, rfl⟩
  obtain ⟨S3, hS3⟩ : ∃ s, s = signS := ⟨_, rfl⟩
  have h1 : S1.size = 10 := by rw [hS1]; rfl
  have h2 : S2.size = 53 := by rw [hS2]; rfl
  have h3 : S3.size = 12 := by rw [hS3]; rfl
  have hR : readF = puts S3.data.toList 48 (puts S2.data.toList 47 (puts S1.data.toList 46 (put1 45 46 (put1 34 45 fun _ => none)))) := by
    rw [hS1, hS2, hS3]; rfl
  rw [hR]
  have G1 := Lib.hid (at_list S1)
  have G2 := Lib.hid (at_list S2)
  have G3 := Lib.hid (at_list S3)
  have l1 : S1.data.toList.length = S1.size := by simp
  have l2 : S2.data.toList.length = S2.size := by simp
  have l3 : S3.data.toList.length = S3.size := by simp
  generalize S1.data.toList = L1 at *
  generalize S2.data.toList = L2 at *
  generalize S3.data.toList = L3 at *
  have LL1 := Lib.hid l1
  have LL2 := Lib.hid l2
  have LL3 := Lib.hid l3
  clear hR l1 l2 l3
  have e1 : (⟨#[48, 49, 50, 51, 52, 53, 54, 55, 56, 57]⟩ : ByteArray) = S1 := hS1.symm
  have e2 : (⟨#[65, 66, 67, 68, 69, 70, 71, 72, 73, 74, 75, 76, 77, 78, 79, 80, 81, 82, 83, 84, 85, 86, 87, 88, 89, 90, 97, 98, 99, 100, 101, 102, 103, 104, 105, 106, 107, 108, 109, 110, 111, 112, 113, 114, 115, 116, 117, 118, 119, 120, 121, 122, 95]⟩ : ByteArray) = S2 := hS2.symm
  have e3 : (⟨#[123, 125, 40, 41, 91, 93, 60, 62, 61, 59, 44, 46]⟩ : ByteArray) = S3 := hS3.symm
  clear hS1 hS2 hS3
  have hmm := @run_makeMap Tryd.prog
  go_enter Tryd.func31, Tryd.ntmps31
  simp only [e1, e2, e3]
  clear e1 e2 e3
  go_wp2_with (first
    | (refine wpList_insert_fn rfl _ _ _ rfl w.heap.size 0 _ rfl (MapIs.made w) (by omega) 34 45 rfl rfl ?_; intro w1 hm1 hg1)
    | (refine wpList_insert_fn rfl _ _ _ rfl w.heap.size 1 _ rfl hm1 (by omega) 45 46 rfl rfl ?_; intro w2 hm2 hg2))
  have hb1 : Below w.heap.size w w1 := (below_new w (.map #[] 0)).grown hg1 (by simp) (fun k hk => by injection hk with hk; omega)
  have hb2 : Below w.heap.size w w2 := hb1.grown hg2 hb1.size (fun k hk => by injection hk with hk; omega)
  generalize hF0 : put1 45 46 (put1 34 45 fun _ => none) = F0 at *
  have HF0 := Lib.hid hF0
  clear hF0 hm1 hg1 hg2 hb1
  go_loopw [7] (fun i wr => ∃ k : Nat, i = .int .i64 k ∧ k ≤ 10 ∧ MapIs wr w.heap.size (2 + k) (puts (L1.take k) 46 F0) ∧ Below w.heap.size w wr) (fun i _ => 10 - (intOf i).toNat)
  case atStart => exact ⟨0, rfl, by omega, by rw [List.take_zero, puts_nil]; exact hm2, hb2⟩
  case round =>
    obtain ⟨k, rfl, hk, hm, hb⟩ := hrel
    by_cases g1 : k < 10
    · have g1' : k < S1.size := by omega
      have HT := Lib.hid (take_next (G1.out k g1'))
      go_wp2_with (refine wpList_update_fn rfl _ _ _ rfl w.heap.size (2 + k) _ rfl hm (by omega) (S1[k]'g1') 46 rfl rfl ?_; intro w3 hm3 hg3)
      rw [puts_snoc, HT.out] at hm3
      exact ⟨⟨k + 1, by go_num, by omega, by rw [show 2 + (k + 1) = 2 + k + 1 by omega]; exact hm3, hb.grown hg3 hb.size (fun q hq => by injection hq with hq; omega)⟩, by simp [intOf]; omega⟩
    · obtain rfl : k = 10 := by omega
      rw [List.take_of_length_le (by rw [LL1.out]; omega)] at hm
      generalize hF1 : puts L1 46 F0 = F1 at *
      have HF1 := Lib.hid hF1
      clear hF1
      go_wp2
      go_loopw [14] (fun i w5 => ∃ k : Nat, i = .int .i64 k ∧ k ≤ 53 ∧ MapIs w5 w.heap.size (12 + k) (puts (L2.take k) 47 F1) ∧ Below w.heap.size w w5) (fun i _ => 53 - (intOf i).toNat)
      case atStart => exact ⟨0, rfl, by omega, by rw [List.take_zero, puts_nil]; exact hm, hb⟩
      case round =>
        obtain ⟨k, rfl, hk, hm, hb⟩ := hrel
        by_cases g1 : k < 53
        · have g1' : k < S2.size := by omega
          have HT := Lib.hid (take_next (G2.out k g1'))
          go_wp2_with (refine wpList_update_fn rfl _ _ _ rfl w.heap.size (12 + k) _ rfl hm (by omega) (S2[k]'g1') 47 rfl rfl ?_; intro w3 hm3 hg3)
          rw [puts_snoc, HT.out] at hm3
          exact ⟨⟨_, _, _, _, _, _, _, _, ⟨k + 1, rfl, by omega, by rw [show 12 + (k + 1) = 12 + k + 1 by omega]; exact hm3, hb.grown hg3 hb.size (fun q hq => by injection hq with hq; omega)⟩, rfl⟩, by simp [intOf]; omega⟩
        · obtain rfl : k = 53 := by omega
          rw [List.take_of_length_le (by rw [LL2.out]; omega)] at hm
          generalize hF2 : puts L2 47 F1 = F2 at *
          have HF2 := Lib.hid hF2
          clear hF2
          go_wp2
          go_loopw [21] (fun i w5 => ∃ k : Nat, i = .int .i64 k ∧ k ≤ 12 ∧ MapIs w5 w.heap.size (65 + k) (puts (L3.take k) 48 F2) ∧ Below w.heap.size w w5) (fun i _ => 12 - (intOf i).toNat)
          case atStart => exact ⟨0, rfl, by omega, by rw [List.take_zero, puts_nil]; exact hm, hb⟩
          case round =>
            obtain ⟨k, rfl, hk, hm, hb⟩ := hrel
            by_cases g1 : k < 12
            · have g1' : k < S3.size := by omega
              have HT := Lib.hid (take_next (G3.out k g1'))
              go_wp2_with (refine wpList_update_fn rfl _ _ _ rfl w.heap.size (65 + k) _ rfl hm (by omega) (S3[k]'g1') 48 rfl rfl ?_; intro w3 hm3 hg3)
              rw [puts_snoc, HT.out] at hm3
              exact ⟨⟨_, _, _, _, _, _, _, _, ⟨k + 1, rfl, by omega, by rw [show 65 + (k + 1) = 65 + k + 1 by omega]; exact hm3, hb.grown hg3 hb.size (fun q hq => by injection hq with hq; omega)⟩, rfl⟩, by simp [intOf]; omega⟩
            · obtain rfl : k = 12 := by omega
              rw [List.take_of_length_le (by rw [LL3.out]; omega)] at hm
              generalize hF3 : puts L3 48 F2 = F3 at *
              have HF3 := Lib.hid hF3
              clear hF3
              go_wp2
              go_ret
              exact ⟨w.heap.size, rfl, by rw [HF0.out, HF1.out, HF2.out, HF3.out]; exact MapIs.mono (n := 65 + 12) hm (by omega), hb⟩
end Go.Proofs.YtceomdbahiimlaaDoor
/-
  Whatever a byte begins is read: one contract for the functions that lie in the map.
-/
namespace Go.Proofs.YtceomdbahiimlaaDoor
set_option maxRecDepth 100000

open Go.RowKit

/-- How a token begins, by its first byte. -/
theorem readF_cases (c : UInt8) :
    (readF c = none → isFirst c = false ∧ isDigit c = false ∧ c ≠ 45 ∧ c ≠ 34 ∧ isSign c = false) ∧
    (∀ k, readF c = some k → (k = 47 ∧ isFirst c = true) ∨ (k = 46 ∧ (c = 45 ∨ isDigit c = true)) ∨ (k = 45 ∧ c = 34) ∨
      (k = 48 ∧ isFirst c = false ∧ isDigit c = false ∧ c ≠ 45 ∧ c ≠ 34 ∧ isSign c = true)) := by
  have h : ∀ k : Fin 256, (match readF (UInt8.ofNat k.val) with
      | none => isFirst (UInt8.ofNat k.val) = false ∧ isDigit (UInt8.ofNat k.val) = false ∧ UInt8.ofNat k.val ≠ 45 ∧ UInt8.ofNat k.val ≠ 34 ∧ isSign (UInt8.ofNat k.val) = false
      | some f => (f = 47 ∧ isFirst (UInt8.ofNat k.val) = true) ∨ (f = 46 ∧ (UInt8.ofNat k.val = 45 ∨ isDigit (UInt8.ofNat k.val) = true)) ∨ (f = 45 ∧ UInt8.ofNat k.val = 34) ∨
        (f = 48 ∧ isFirst (UInt8.ofNat k.val) = false ∧ isDigit (UInt8.ofNat k.val) = false ∧ UInt8.ofNat k.val ≠ 45 ∧ UInt8.ofNat k.val ≠ 34 ∧ isSign (UInt8.ofNat k.val) = true) : Bool) = true := by decide +kernel
  have := h ⟨c.toNat, c.toNat_lt⟩
  simp only [UInt8.ofNat_toNat] at this
  constructor
  · intro hn
    rw [hn] at this
    simpa using this
  · intro k hk
    rw [hk] at this
    simpa using this
theorem tk_other {l : List UInt8} {c : UInt8} {r : List UInt8} (hd : l = c :: r) (h1 : isFirst c = false) (h2 : isDigit c = false) (h3 : c ≠ 45) (h4 : c ≠ 34) : tk Lib.itoa l = if isSign c then some ⟨3, [c], 0, 0⟩ else none := by
  subst hd
  have e3 : (c == 45) = false := by simpa using h3
  have e4 : (c == 34) = false := by simpa using h4
  simp only [tk, h1, h2, e3, e4, Bool.or_self, Bool.false_eq_true, if_false]
theorem tk_none {l : List UInt8} {c : UInt8} {r : List UInt8} (hd : l = c :: r) (h : readF c = none) : tk Lib.itoa l = none := by
  obtain ⟨h1, h2, h3, h4, h5⟩ := (readF_cases c).1 h
  rw [tk_other hd h1 h2 h3 h4, h5]; rfl
theorem tk_string {l : List UInt8} {r : List UInt8} (hd : l = 34 :: r) : tk Lib.itoa l = strT r := by
  subst hd
  simp only [tk, show isFirst 34 = false from rfl, show (isDigit 34 || (34 : UInt8) == 45) = false from rfl, Bool.false_eq_true, if_false, beq_self_eq_true, if_true]
  rfl
theorem read_any (s : ByteArray) (hs : s.size ≤ 1000000) (p : Nat) (c : UInt8) (hc : s.data.toList[p]? = some c) (k : Nat) (hk : readF c = some k) (w : World) (L : Laid w) :
    Calls Tryd.prog k #[.string s, .int .i64 p] w fun e w' => e = .returned (SV (tk Lib.itoa (s.data.toList.drop p)) p) ∧ Below w.heap.size w w' := by
  have hp : p < s.size := by have := (List.getElem?_eq_some_iff.1 hc).1; simpa using this
  have hd := drop_cons hc
  rcases (readF_cases c).2 k hk with ⟨rfl, h⟩ | ⟨rfl, h⟩ | ⟨rfl, rfl⟩ | ⟨rfl, h1, h2, h3, h4, h5⟩
  · exact name_any s hs p c hc h w
  · exact num_any s hs p c hc h w L
  · rw [tk_string hd]
    exact str_any s hs p hp w
  · refine sign_any s hs p c hc ?_ w
    rw [tk_other hd h1 h2 h3 h4, h5]; rfl
theorem read_enters (c : UInt8) (k : Nat) (hk : readF c = some k) : ∀ args w, (callFunc k args).run Tryd.prog w = .ok (.enter k args) w := by
  rcases (readF_cases c).2 k hk with ⟨rfl, h⟩ | ⟨rfl, h⟩ | ⟨rfl, rfl⟩ | ⟨rfl, h1, h2, h3, h4, h5⟩
  · exact enters_of Tryd.func47 (by kernel_rfl) rfl
  · exact enters_of Tryd.func46 (by kernel_rfl) rfl
  · exact enters_of Tryd.func45 (by kernel_rfl) rfl
  · exact enters_of Tryd.func48 (by kernel_rfl) rfl
end Go.Proofs.YtceomdbahiimlaaDoor
