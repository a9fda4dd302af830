/-
  Strings that are quoted: the contracts of the program's functions and of the document's.
-/
import Derived.Test.YtceomdbahiimlaaDoorTokMark
import Derived.Test.YtceomdbahiimlaaDoorTokBox
import Derived.Deep.RegionHeldLaw
namespace Go.Proofs.YtceomdbahiimlaaDoor
set_option maxRecDepth 100000

open Go.RowKit

theorem lit_own (w : World) (u : Value) : (w.alloc (.cells #[u] 5)).ownsRow w.heap.size 5 1 (.slice (some ⟨w.heap.size, 0, none⟩) 1 1) 1 [u] :=
  ⟨rfl, .inr ⟨w.heap.size, 1, #[u], rfl, Nat.le_refl _, heap_alloc_new _ _, Nat.le_refl _, by unfold maxLen; omega, rfl, rfl⟩⟩
theorem q1_cases (c : UInt8) :
    ((c == 34 || c == 92) = true → q1 c = [92, c]) ∧ ((c == 34 || c == 92) = false → (c == 10) = true → q1 c = [92, 110]) ∧
    ((c == 34 || c == 92) = false → (c == 10) = false → isPlain c = true → q1 c = [c]) ∧ ((c == 34 || c == 92) = false → (c == 10) = false → isPlain c = false → q1 c = [92, 120, hexd (c.toNat / 16), hexd (c.toNat % 16)]) := by
  refine ⟨fun h => ?_, fun h h2 => ?_, fun h h2 h3 => ?_, fun h h2 h3 => ?_⟩
  · simp only [q1, h, if_true]
  · simp only [q1, h, h2, if_true, Bool.false_eq_true, if_false]
  · simp only [q1, h, h2, h3, if_true, Bool.false_eq_true, if_false]
  · simp only [q1, h, h2, h3, Bool.false_eq_true, if_false]
theorem q1_len (c : UInt8) : (q1 c).length ≤ 4 := by
  unfold q1
  split
  · simp
  · split
    · simp
    · split <;> simp
theorem half_get (k : Nat) (h : k < halfS.size) : halfS[k] = hexd k := by
  have hk : k < 16 := h
  have := at_list halfS k h
  have h2 : halfS.data.toList[k]? = some (hexd k) := by
    have : ∀ j : Fin 16, halfS.data.toList[j.val]? = some (hexd j.val) := by decide +kernel
    exact this ⟨k, hk⟩
  rw [h2] at this
  injection this with this
  exact this.symm
theorem bv_app (pre : List UInt8) (x : List UInt8) {l : List Value} (h : l = bs x) : bs pre ++ l = bs (pre ++ x) := by rw [h, bs_append]
theorem and15 (c : UInt8) : bits BinOp.and IntKind.u8 (c.toNat : Int) 15 = (c.toNat : Int) % 16 := by
  have h : ∀ x : Fin 256, bits BinOp.and IntKind.u8 (x.val : Int) 15 = (x.val : Int) % 16 := by decide +kernel
  exact h ⟨c.toNat, c.toNat_lt⟩

theorem half_index (k : Nat) (h : k < 16) (i : Int) (hi : i = k) (S : ByteArray) (hS : S = halfS) (w : World) : (Instr.index 9 (.string S) (.int .u8 i)).run Tryd.prog w = .ok (.int .u8 ((hexd k).toNat : Int)) w := by
  subst hS hi
  rw [run_index_string w 9 halfS .u8 (k : Int) Tryd.underlying9, dif_pos ⟨by omega, by show (k : Int) < 16; omega⟩]
  have := half_get k h
  simp only [Int.toNat_natCast]
  exact congrArg (fun x : UInt8 => Result.ok (Value.int .u8 (x.toNat : Int)) w) this
set_option maxRecDepth 1000000 in
set_option maxHeartbeats 1000000 in
theorem appq_any (base : Nat) (v : Value) (pre : List UInt8) (hpre : pre.length ≤ 10000000) (c : UInt8) (w : World) (hbase : base ≤ w.heap.size) (hown : w.ownsRow base 5 1 v pre.length (bs pre)) :
    Calls Tryd.prog 57 #[v, .int .u8 (c.toNat : Int)] w fun e w' => ∃ v', e = .returned v' ∧ w'.ownsRow base 5 1 v' (pre ++ q1 c).length (bs (pre ++ q1 c)) ∧ Below base w w' := by
  obtain ⟨i0, hi, hz0, hz1, hz2⟩ := info_parts info_u8
  obtain ⟨h1, h2, h3, h4⟩ := q1_cases c
  have e34 : ((c.toNat : Int) == 34) = (c == 34) := u8_eq c 34 (by decide)
  have e92 : ((c.toNat : Int) == 92) = (c == 92) := u8_eq c 92 (by decide)
  have e10 : ((c.toNat : Int) == 10) = (c == 10) := u8_eq c 10 (by decide)
  generalize q1 c = Q at *
  by_cases hA : (c == 34 || c == 92) = true
  · obtain rfl := h1 hA
    have E1 := Lib.hid (bv_app pre [92, c] (l := [.int .u8 92, .int .u8 (c.toNat : Int)]) rfl)
    have E2 : Hid (pre.length + 2 = (pre ++ [92, c]).length) := Lib.hid (by simp)
    have hor : ((c.toNat : Int) == 34) = true ∨ ((c.toNat : Int) == 34) = false ∧ ((c.toNat : Int) == 92) = true := by
      rw [e34, e92]
      cases h : c == 34
      · rw [h] at hA; right; exact ⟨rfl, by simpa using hA⟩
      · left; rfl
    clear h1 h2 h3 h4 e34 e92 e10 hA
    rcases hor with b1 | ⟨b1, b2⟩
    all_goals
      go_enter Tryd.func57, Tryd.ntmps57
      go_wp2_with (at_builtin; refine wpList_app_sl rfl _ _ 53 rfl base 5 i0 (.int .u8 0) 1 1 Tryd.underlying53 hi hz0 hz1 hz2 rfl (by omega) v pre.length (bs pre) rfl (hown.alloc _) _ 2 2 [.int .u8 92, .int .u8 (c.toNat : Int)] rfl (Sl.new w [.int .u8 92, .int .u8 (c.toNat : Int)] 5 (by unfold maxLen; simp)) (by intro u hu; simp at hu; rcases hu with rfl | rfl <;> rfl) (by unfold maxLen; omega) (by omega) (by simp; omega) ?_; intro v3 w3 hown3 hg3)
      go_ret
      rw [E1.out, E2.out] at hown3
      exact ⟨_, rfl, hown3, ((Below.refl base w).alloc hbase _).grown hg3 (by simp; omega) (own_ge hown)⟩
  · have hA' : (c == 34 || c == 92) = false := by simpa using hA
    obtain ⟨a1, a2⟩ : (c == 34) = false ∧ (c == 92) = false := by simpa only [Bool.or_eq_false_iff] using hA'
    have b1 : ((c.toNat : Int) == 34) = false := e34.trans a1
    have b2 : ((c.toNat : Int) == 92) = false := e92.trans a2
    cases hB : c == 10
    · have b3 : ((c.toNat : Int) == 10) = false := e10.trans hB
      cases hC : isPlain c
      · obtain rfl := h4 hA' hB hC
        have H3 := Lib.hid hC
        have hlt := c.toNat_lt
        have k1 : c.toNat / 16 < halfS.size := by show c.toNat / 16 < 16; omega
        have k2 : c.toNat % 16 < halfS.size := by show c.toNat % 16 < 16; omega
        have g1 := half_get _ k1
        have g2 := half_get _ k2
        have E1 := Lib.hid (bv_app pre [92, 120, hexd (c.toNat / 16), hexd (c.toNat % 16)] (l := [.int .u8 92, .int .u8 120, .int .u8 ((hexd (c.toNat / 16)).toNat : Int), .int .u8 ((hexd (c.toNat % 16)).toNat : Int)]) rfl)
        have E2 : Hid (pre.length + 4 = (pre ++ [92, 120, hexd (c.toNat / 16), hexd (c.toNat % 16)]).length) := Lib.hid (by simp)
        have e15 := and15 c
        have esh : (c.toNat : Int) / 16 = ((c.toNat / 16 : Nat) : Int) := by omega
        obtain ⟨S, hS⟩ : ∃ S, S = halfS := ⟨_, rfl⟩
        have hS' : (⟨#[48, 49, 50, 51, 52, 53, 54, 55, 56, 57, 97, 98, 99, 100, 101, 102]⟩ : ByteArray) = S := hS.symm
        have hx1 := half_index (c.toNat / 16) k1 ((c.toNat : Int) / 16) (by omega) S hS
        have hx2 := half_index (c.toNat % 16) k2 ((c.toNat : Int) % 16) (by omega) S hS
        generalize hexd (c.toNat / 16) = x1 at *
        generalize hexd (c.toNat % 16) = x2 at *
        clear hS g1 g2 k1 k2 esh
        clear h1 h2 h3 h4 e34 e92 e10 hA hA' a1 a2 hB hC
        go_enter Tryd.func57, Tryd.ntmps57
        go_wp2_with fail
        refine (plain_any c _).mono ?_
        rw [H3.out]
        rintro e w1 ⟨rfl, rfl⟩
        go_wp2_with fail
        simp only [hS']
        clear hS'
        go_region_held_law (fun _ => True) (trivial)
          (first
            | (refine step_append_lies _ rfl _ _ 53 rfl base 5 i0 (.int .u8 0) 1 1 Tryd.underlying53 hi hz0 hz1 hz2 rfl (by decide) v pre.length (bs pre) (by simp [Act.eval, Act.put]) (hown.alloc _) ⟨w.heap.size, 0, none⟩ 4 4 [.int .u8 92, .int .u8 120, .int .u8 (x1.toNat : Int), .int .u8 (x2.toNat : Int)] (by simp [Act.eval, Act.put]) rfl (World.news_of_block (heap_alloc_new _ _)) (by intro u hu; simp at hu; rcases hu with rfl | rfl | rfl | rfl <;> rfl) (by decide) (by unfold maxLen; omega) (by omega) (by simp; omega) w.heap.size.succ (by simp) ?_; intro g3 cap3 w3 hown3 hg3 hat3 hlt3))
        all_goals
          go_wp2
          go_ret
          rw [E1.out] at hown3
          refine ⟨_, rfl, ?_, ((Below.refl base w).alloc hbase _).drew.grown hg3 (by simp; omega) (own_ge hown)⟩
          first
            | exact hown3
            | (simpa using hown3)
      · obtain rfl := h3 hA' hB hC
        have H3 := Lib.hid hC
        have E1 := Lib.hid (bv_app pre [c] (l := [.int .u8 (c.toNat : Int)]) rfl)
        have E2 : Hid (pre.length + 1 = (pre ++ [c]).length) := Lib.hid (by simp)
        clear h1 h2 h3 h4 e34 e92 e10 hA hA' a1 a2 hB hC
        go_enter Tryd.func57, Tryd.ntmps57
        go_wp2_with fail
        refine (plain_any c _).mono ?_
        rw [H3.out]
        rintro e w1 ⟨rfl, rfl⟩
        go_wp2_with (at_builtin; refine wpList_app_sl rfl _ _ 53 rfl base 5 i0 (.int .u8 0) 1 1 Tryd.underlying53 hi hz0 hz1 hz2 rfl (by omega) v pre.length (bs pre) rfl (hown.alloc _) _ 1 1 [.int .u8 (c.toNat : Int)] rfl (Sl.new w [.int .u8 (c.toNat : Int)] 5 (by unfold maxLen; simp)) (by intro u hu; simp at hu; rcases hu with rfl; rfl) (by unfold maxLen; omega) (by omega) (by simp; omega) ?_; intro v3 w3 hown3 hg3)
        go_ret
        rw [E1.out, E2.out] at hown3
        exact ⟨_, rfl, hown3, ((Below.refl base w).alloc hbase _).grown hg3 (by simp; omega) (own_ge hown)⟩
    · have b3 : ((c.toNat : Int) == 10) = true := e10.trans hB
      obtain rfl := h2 hA' hB
      have E1 := Lib.hid (bv_app pre [92, 110] (l := [.int .u8 92, .int .u8 110]) rfl)
      have E2 : Hid (pre.length + 2 = (pre ++ [(92 : UInt8), 110]).length) := Lib.hid (by simp)
      clear h1 h2 h3 h4 e34 e92 e10 hA hA' a1 a2 hB
      go_enter Tryd.func57, Tryd.ntmps57
      go_wp2_with (at_builtin; refine wpList_app_sl rfl _ _ 53 rfl base 5 i0 (.int .u8 0) 1 1 Tryd.underlying53 hi hz0 hz1 hz2 rfl (by omega) v pre.length (bs pre) rfl (hown.alloc _) _ 2 2 [.int .u8 92, .int .u8 110] rfl (Sl.new w [.int .u8 92, .int .u8 110] 5 (by unfold maxLen; simp)) (by intro u hu; simp at hu; rcases hu with rfl | rfl <;> rfl) (by unfold maxLen; omega) (by omega) (by simp; omega) ?_; intro v3 w3 hown3 hg3)
      go_ret
      rw [E1.out, E2.out] at hown3
      exact ⟨_, rfl, hown3, ((Below.refl base w).alloc hbase _).grown hg3 (by simp; omega) (own_ge hown)⟩

/-- Quoted so far. -/
def qpre (L : List UInt8) (k : Nat) : List UInt8 := 34 :: (L.take k).flatMap q1
theorem qpre_next {L : List UInt8} {k : Nat} {c : UInt8} (h : L[k]? = some c) : qpre L (k + 1) = qpre L k ++ q1 c := by
  unfold qpre
  rw [List.take_add_one, h]
  simp
theorem qpre_len (L : List UInt8) (k : Nat) : (qpre L k).length ≤ 4 * k + 1 := by
  induction k with
  | zero => simp [qpre]
  | succ k ih =>
    cases h : L[k]? with
    | none =>
      have : qpre L (k + 1) = qpre L k := by unfold qpre; rw [List.take_add_one, h]; simp
      rw [this]; omega
    | some c =>
      rw [qpre_next h, List.length_append]
      have := q1_len c
      omega
theorem quote_eq (L : List UInt8) : qpre L L.length ++ [34] = quote L := by
  unfold qpre quote
  rw [List.take_length]; rfl
theorem quote_len (L : List UInt8) : (quote L).length ≤ 4 * L.length + 2 := by
  rw [← quote_eq, List.length_append]
  have := qpre_len L L.length
  simp; omega

set_option maxRecDepth 1000000 in
set_option maxHeartbeats 1000000 in
theorem quote_any (s : ByteArray) (hs : s.size ≤ 1000000) (w : World) :
    Calls Tryd.prog 42 #[.string s] w fun e w' => e = .returned (.string (txt (quote s.data.toList))) ∧ Below w.heap.size w w' := by
  obtain ⟨i0, hi, hz0, hz1, hz2⟩ := info_parts info_u8
  have hsl : s.data.toList.length = s.size := by simp
  have hsg := at_list s
  generalize s.data.toList = L at *
  have HSL := Lib.hid hsl
  have HSG := Lib.hid hsg
  clear hsl hsg
  go_enter Tryd.func42, Tryd.ntmps42
  go_wp2_with fail
  go_loopw [3, 8] (fun v i wr => ∃ k : Nat, i = .int .i64 k ∧ k ≤ s.size ∧ wr.ownsRow w.heap.size 5 1 v (qpre L k).length (bs (qpre L k)) ∧ Below w.heap.size w wr) (fun _ i _ => s.size - (intOf i).toNat)
  case atStart => exact ⟨0, rfl, by omega, lit_own w _, below_new _ _⟩
  case round =>
    obtain ⟨k, rfl, hk, hown, hb⟩ := hrel
    have hql := qpre_len L k
    have hsz := hb.size
    by_cases h1 : k < s.size
    · have HX := Lib.hid (HSG.out k h1)
      have HN := Lib.hid (qpre_next HX.out)
      go_wp2_with fail
      refine (appq_any w.heap.size _ _ (by omega) s[k] _ hsz hown).mono ?_
      rw [← HN.out]
      rintro e w2 ⟨v', rfl, hown2, hb2⟩
      go_wp2
      exact ⟨⟨k + 1, by go_num, by omega, hown2, hb.trans hb2⟩, by simp [intOf]; omega⟩
    · obtain rfl : k = s.size := by omega
      have HQ := Lib.hid (quote_eq L)
      rw [HSL.out] at HQ
      generalize qpre L s.size = P at *
      have E1 : Hid (bs P ++ [.int .u8 34] = bs (P ++ [34])) := Lib.hid (bs_snoc P 34)
      have E2 : Hid (P.length + 1 = (P ++ [(34 : UInt8)]).length) := Lib.hid (by simp)
      generalize P ++ [(34 : UInt8)] = R at *
      obtain ⟨X, hX⟩ : ∃ X, X = txt R := ⟨_, rfl⟩
      have HX := Lib.hid hX
      clear hX
      go_wp2_with (at_builtin; refine wpList_app1 rfl _ _ 53 rfl w.heap.size 5 i0 (.int .u8 0) 1 Tryd.underlying53 hi hz0 hz1 hz2 rfl _ P.length (bs P) rfl (hown.alloc _) wr.heap.size 1 _ rfl (World.cell?_alloc_at _ _ _ _ rfl) rfl (by unfold maxLen; omega) (by omega) (by simp; omega) ?_; intro v3 w3 hown3 hg3; replace hown3 : w3.ownsRow w.heap.size 5 1 v3 R.length (bs R) := (by rw [← E1.out, ← E2.out]; exact hown3); obtain ⟨A, cp, rfl, hr⟩ := SlB.of_own hown3; have hcv := run_str_of_bytes (P := Tryd.prog) w3 53 9 5 Tryd.underlying53 Tryd.underlying5 Tryd.underlying9 A cp _ hr; rw [← HX.out] at hcv)
      go_ret
      exact ⟨by rw [← HQ.out, ← HX.out]; rfl, (below_lit hb _).grown hg3 (by simp; omega) (own_ge hown)⟩
end Go.Proofs.YtceomdbahiimlaaDoor
