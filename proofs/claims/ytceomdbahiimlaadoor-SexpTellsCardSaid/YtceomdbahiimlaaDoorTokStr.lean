/-
  A string's token: the contract of the function that reads it.
-/
import Derived.Test.YtceomdbahiimlaaDoorTokBox
namespace Go.Proofs.YtceomdbahiimlaaDoor
set_option maxRecDepth 100000

open Go.RowKit

theorem str_at {l : List UInt8} {k : Nat} {c : UInt8} (h : l[k]? = some c) : strB 0 (l.drop k) = if c == 34 then some ([], 1) else match meant (l.drop k) with | none => none | some x => (strB 0 (l.drop (k + x.2 + 1))).map fun y => (x.1 :: y.1, y.2 + x.2 + 1) := by
  rw [ws_at h]
  simp only [strB]
  cases hm : meant (c :: l.drop (k + 1)) with
  | none => rfl
  | some x =>
    obtain ⟨b, j⟩ := x
    simp only
    rw [strB_skip j, List.drop_drop, show k + 1 + j = k + j + 1 by omega]
    cases strB 0 (l.drop (k + j + 1)) <;> rfl
theorem str_end {l : List UInt8} {k : Nat} (h : l.length ≤ k) : strB 0 (l.drop k) = none := by
  rw [List.drop_of_length_le h]; rfl
/-- What has been read so far of a string. -/
def StrRel (L : List UInt8) (p k : Nat) (pre : List UInt8) : Prop := strB 0 (L.drop (p + 1)) = (strB 0 (L.drop k)).map fun x => (pre ++ x.1, x.2 + (k - (p + 1)))
theorem StrRel.next {L : List UInt8} {p k j : Nat} {pre : List UInt8} {b : UInt8} (h : StrRel L p k pre) (hk : p < k) (hs : strB 0 (L.drop k) = (strB 0 (L.drop (k + j + 1))).map fun y => (b :: y.1, y.2 + j + 1)) : StrRel L p (k + j + 1) (pre ++ [b]) := by
  unfold StrRel at *
  rw [h, hs]
  cases strB 0 (L.drop (k + j + 1)) with
  | none => rfl
  | some x => simp; omega
theorem StrRel.stop {L : List UInt8} {p k : Nat} {pre : List UInt8} (h : StrRel L p k pre) (hs : strB 0 (L.drop k) = none) : strT (L.drop (p + 1)) = none := by
  unfold StrRel at h
  unfold strT
  rw [h, hs]; rfl
theorem StrRel.done {L : List UInt8} {p k : Nat} {pre : List UInt8} (h : StrRel L p k pre) (hk : p < k) (hs : strB 0 (L.drop k) = some ([], 1)) : strT (L.drop (p + 1)) = some ⟨2, pre, 0, k - p⟩ := by
  unfold StrRel at h
  unfold strT
  rw [h, hs]
  simp; omega
theorem ret_tok {o : Option Tk} {t : Tk} {p : Nat} {x y z : Value} (h : o = some t) (hx : x = TokV t.kind (txt t.text) t.num p) (hy : y = .int .i64 ((p + t.more + 1 : Nat) : Int)) (hz : z = .bool true) : Ending.returned (.tuple #[x, y, z]) = .returned (SV o p) := by
  subst h hx hy hz; rfl
theorem ret_notok {o : Option Tk} {p : Nat} (h : o = none) : Ending.returned (.tuple #[.agg #[.int .i64 0, .string ⟨#[]⟩, .int .i64 0, .int .i64 0], .int .i64 0, .bool false]) = .returned (SV o p) := by
  subst h; rfl

set_option maxRecDepth 1000000 in
set_option maxHeartbeats 1000000 in
theorem str_any (s : ByteArray) (hs : s.size ≤ 1000000) (p : Nat) (hp : p < s.size) (w : World) :
    Calls Tryd.prog 45 #[.string s, .int .i64 p] w fun e w' => e = .returned (SV (strT (s.data.toList.drop (p + 1))) p) ∧ Below w.heap.size w w' := by
  obtain ⟨i0, hi, hz0, hz1, hz2⟩ := info_parts info_u8
  have hsl : s.data.toList.length = s.size := by simp
  have hsg := at_list s
  have hmk := fun k hk w => meant_any s hs k hk w
  generalize s.data.toList = L at *
  have HSL := Lib.hid hsl
  have HSG := Lib.hid hsg
  have HMK := Lib.hid hmk
  clear hsl hsg hmk
  go_enter Tryd.func45, Tryd.ntmps45
  go_wp2_with fail
  go_loopw [7, 8] (fun v i wr => ∃ (k : Nat) (pre : List UInt8), i = .int .i64 k ∧ p < k ∧ k ≤ s.size ∧ pre.length ≤ k ∧ wr.ownsRow (w.heap.size + 1) 5 1 v pre.length (bs pre) ∧ StrRel L p k pre ∧ wr.heap[w.heap.size]? = some (.cells #[.int .i64 0, .string ⟨#[]⟩, .int .i64 0, .int .i64 0] 45 (0, 0)) ∧ w.heap.size + 1 ≤ wr.heap.size ∧ Below w.heap.size w wr) (fun _ i _ => s.size - (intOf i).toNat)
  case atStart => exact ⟨p + 1, [], by simp, by omega, by omega, by simp, World.ownsRow_nil _ _ _ _, by unfold StrRel; cases strB 0 (L.drop (p + 1)) <;> simp, heap_alloc_new _ _, by simp, below_new _ _⟩
  case round =>
    obtain ⟨k, pre, rfl, hpk, hk, hpl, hown, hrel, hbox, hsz, hb⟩ := hrel
    have HR := Lib.hid hrel
    clear hrel
    by_cases h1 : k < s.size
    · have HX := Lib.hid (HSG.out k h1)
      have hat := str_at HX.out
      have e34 : ((s[k].toNat : Int) == 34) = (s[k] == 34) := u8_eq s[k] 34 (by decide)
      rw [← e34] at hat
      clear e34
      cases b1 : ((s[k].toNat : Int) == 34)
      · rw [b1] at hat
        simp only [Bool.false_eq_true, if_false] at hat
        have hm2 := fun x (h : meant (L.drop k) = some x) => meant_more (l := L.drop k) (b := x.1) (k := x.2) h
        have hmk := HMK.out k h1
        have hdl : (L.drop k).length = s.size - k := by rw [List.length_drop, HSL.out]
        rw [hdl] at hm2
        generalize hO : meant (L.drop k) = O at *
        clear hO hdl
        cases O with
        | none =>
          have HT := Lib.hid (HR.out.stop hat)
          clear hat hm2
          go_wp2_with fail
          refine (hmk _).mono ?_
          unfold MV
          rintro e w2 ⟨rfl, hb2⟩
          have hbox2 := (hb2.block w.heap.size (by omega)).trans hbox
          clear hbox hown
          have hb3 := below_then hb hb2
          go_wp2_with (refine wpList_store_tok rfl _ _ rfl rfl w.heap.size _ _ _ _ _ _ _ _ rfl rfl _ hbox2 ?_)
          refine bodyPost_ret (results_tok rfl _ _ w.heap.size _ _ _ _ _ (0, 0) rfl (setRow_heap _ _ _ _ _ _ hbox2)) rfl ?_
          exact ⟨ret_notok HT.out, below_setRow hb3 (Nat.le_refl _) _⟩
        | some x =>
          obtain ⟨b, j⟩ := x
          have hj := hm2 _ rfl
          simp only at hj hat
          have HN := Lib.hid (HR.out.next hpk hat)
          clear hat hm2
          go_wp2_with fail
          refine (hmk _).mono ?_
          unfold MV
          rintro e w2 ⟨rfl, hb2⟩
          have hbox2 := (hb2.block w.heap.size (by omega)).trans hbox
          have hown2 := own_below hown hb2
          have hsz2 := hb2.size
          have hb3 := below_then hb hb2
          clear hbox hown
          have E1 := Lib.hid (bs_snoc pre b)
          have E2 : Hid (pre.length + 1 = (pre ++ [b]).length) := Lib.hid (by simp)
          go_wp2_with (at_builtin; refine wpList_app1 rfl _ _ 53 rfl (w.heap.size + 1) 5 i0 (.int .u8 0) 1 Tryd.underlying53 hi hz0 hz1 hz2 rfl _ pre.length (bs pre) rfl (hown2.alloc _) w2.heap.size 1 _ rfl (World.cell?_alloc_at _ _ _ _ rfl) rfl (by unfold maxLen; omega) (by omega) (by simp; omega) ?_; intro v3 w3 hown3 hg3)
          have hz3 := hg3.size
          have hbox3 := box_grown ((Below.heap_alloc w2 (Obj.cells #[Value.int .u8 (b.toNat : Int)] 5) w.heap.size (by omega)).trans hbox2) hg3 (own_ge hown2) (by omega)
          have hb4 : Below w.heap.size w w3 := (below_lit hb3 _).grown hg3 (by simp; omega) (fun q hq => by have := own_ge hown2 q hq; omega)
          refine ⟨⟨k + j + 1, pre ++ [b], by go_num, by omega, by omega, by simp; omega, ?_, HN.out, hbox3, by simp at hz3; omega, hb4⟩, by simp [intOf]; omega⟩
          rw [← E1.out, ← E2.out]
          exact hown3
      · rw [b1] at hat
        simp only [if_true] at hat
        have HT := Lib.hid (HR.out.done hpk hat)
        obtain ⟨A, c, rfl, hr⟩ := SlB.of_own hown
        have hcv := run_str_of_bytes (P := Tryd.prog) wr 53 9 5 Tryd.underlying53 Tryd.underlying5 Tryd.underlying9 A c pre hr
        obtain ⟨X, hX⟩ : ∃ X, X = txt pre := ⟨_, rfl⟩
        rw [← hX] at hcv
        have HXX := Lib.hid hX
        clear hat hX hr hown
        go_wp2_with (refine wpList_store_tok rfl _ _ rfl rfl w.heap.size _ _ _ _ _ _ _ _ rfl rfl _ hbox ?_)
        refine bodyPost_ret (results_tok rfl _ _ w.heap.size _ _ _ _ _ (0, 0) rfl (setRow_heap _ _ _ _ _ _ hbox)) rfl ?_
        exact ⟨ret_tok HT.out (by rw [← HXX.out]; rfl) (congrArg (Value.int .i64) (by simp; omega)) rfl, below_setRow hb (Nat.le_refl _) _⟩
    · have HT := Lib.hid (HR.out.stop (str_end (by rw [HSL.out]; omega)))
      clear hown
      go_wp2_with (refine wpList_store_tok rfl _ _ rfl rfl w.heap.size _ _ _ _ _ _ _ _ rfl rfl _ hbox ?_)
      refine bodyPost_ret (results_tok rfl _ _ w.heap.size _ _ _ _ _ (0, 0) rfl (setRow_heap _ _ _ _ _ _ hbox)) rfl ?_
      exact ⟨ret_notok HT.out, below_setRow hb (Nat.le_refl _) _⟩
end Go.Proofs.YtceomdbahiimlaaDoor
