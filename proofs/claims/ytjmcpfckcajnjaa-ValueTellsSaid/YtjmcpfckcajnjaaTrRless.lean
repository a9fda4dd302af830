/-
  The document's own Less, of texts and of values.
-/
import Derived.Test.YtjmcpfckcajnjaaTrLess
import Derived.BigQuiet
import Derived.Deep.QuietTactic
namespace Go.Proofs.Ytjmcpfckcajnjaa.T9
set_option maxRecDepth 100000

open Go.RowKit

theorem bl_nil_r (a : List UInt8) : Op.bytesLess a [] = false := by cases a <;> rfl
theorem bl_nil_l (b : UInt8) (l : List UInt8) : Op.bytesLess [] (b :: l) = true := rfl
theorem bl_cons (a b : UInt8) (x y : List UInt8) : Op.bytesLess (a :: x) (b :: y) = (decide (a < b) || (a == b && Op.bytesLess x y)) := rfl

theorem bl_step {a b : List UInt8} {k : Nat} {x : UInt8} (hx : a[k]? = some x) (hy : b[k]? = some x) (h : Op.bytesLess a b = Op.bytesLess (a.drop k) (b.drop k)) : Op.bytesLess a b = Op.bytesLess (a.drop (k + 1)) (b.drop (k + 1)) := by
  obtain ⟨h1, e1⟩ := List.getElem?_eq_some_iff.1 hx
  obtain ⟨h2, e2⟩ := List.getElem?_eq_some_iff.1 hy
  rw [h, List.drop_eq_getElem_cons h1, List.drop_eq_getElem_cons h2, e1, e2, bl_cons]
  simp
theorem bl_stop {a b : List UInt8} {k : Nat} {x y : UInt8} (hx : a[k]? = some x) (hy : b[k]? = some y) (hne : x ≠ y) (h : Op.bytesLess a b = Op.bytesLess (a.drop k) (b.drop k)) : Op.bytesLess a b = decide (x.toNat < y.toNat) := by
  obtain ⟨h1, e1⟩ := List.getElem?_eq_some_iff.1 hx
  obtain ⟨h2, e2⟩ := List.getElem?_eq_some_iff.1 hy
  have hb : (x == y) = false := beq_eq_false_iff_ne.2 hne
  rw [h, List.drop_eq_getElem_cons h1, List.drop_eq_getElem_cons h2, e1, e2, bl_cons, hb, Bool.false_and, Bool.or_false, Bool.eq_iff_iff, decide_eq_true_eq, decide_eq_true_eq, UInt8.lt_iff_toNat_lt]
theorem bl_end {a b : List UInt8} {k : Nat} (hk : ¬ (k < a.length ∧ k < b.length)) (hka : k ≤ a.length) (hkb : k ≤ b.length) (h : Op.bytesLess a b = Op.bytesLess (a.drop k) (b.drop k)) : Op.bytesLess a b = decide (a.length < b.length) := by
  rw [h]
  by_cases h2 : k < b.length
  · rw [List.drop_of_length_le (by omega), List.drop_eq_getElem_cons h2, bl_nil_l, eq_comm, decide_eq_true_eq]
    omega
  · rw [List.drop_of_length_le (by omega : b.length ≤ k), bl_nil_r, eq_comm, decide_eq_false_iff_not]
    omega

set_option maxRecDepth 1000000 in
theorem rless_any (s t : ByteArray) (hs : s.size ≤ 140737488351232) (ht : t.size ≤ 140737488351232) (w : World) : Calls Try.prog 39 #[.string s, .string t] w fun e w' => e = .returned (.bool (Op.bytesLess s.data.toList t.data.toList)) ∧ Below w.heap.size w w' := by
  have hs' : s.data.toList.length = s.size := by simp
  have ht' : t.data.toList.length = t.size := by simp
  have hsg : ∀ k (h : k < s.size), s.data.toList[k]? = some (s[k]'h) := fun k h => by rw [List.getElem?_eq_getElem (by omega)]; simp [ByteArray.getElem_eq_getElem_data]
  have htg : ∀ k (h : k < t.size), t.data.toList[k]? = some (t[k]'h) := fun k h => by rw [List.getElem?_eq_getElem (by omega)]; simp [ByteArray.getElem_eq_getElem_data]
  generalize s.data.toList = S at *
  generalize t.data.toList = T at *
  have HSL := Lib.hid hs'
  have HTL := Lib.hid ht'
  have HSG := Lib.hid hsg
  have HTG := Lib.hid htg
  clear hs' ht' hsg htg
  go_enter Try.func39, Try.ntmps39
  go_wp2
  go_loopw [5] (fun i wr => ∃ k d : Nat, i = .int .i64 k ∧ k ≤ s.size ∧ k ≤ t.size ∧ Op.bytesLess S T = Op.bytesLess (S.drop k) (T.drop k) ∧ wr = w.drewN d) (fun i _ => s.size - (intOf i).toNat)
  case atStart => exact ⟨0, 0, rfl, by omega, by omega, rfl, rfl⟩
  case round =>
    obtain ⟨k, d, rfl, hks, hkt, hl, rfl⟩ := hrel
    have HB := Lib.hid hl
    clear hl
    by_cases h1 : k < s.size
    · by_cases h2 : k < t.size
      · have HX := Lib.hid (HSG.out k h1)
        have HY := Lib.hid (HTG.out k h2)
        by_cases he : s[k] = t[k]
        · have b1 : (((s[k]).toNat : Int) == ((t[k]).toNat : Int)) = true := by rw [he]; simp
          have HN := Lib.hid (bl_step HX.out (by rw [HY.out, he]) HB.out)
          clear he
          go_wp2
          go_quiet (fail)
          go_wp2
          exact ⟨⟨k + 1, d + nq, by go_num, by omega, by omega, HN.out, rfl⟩, by simp [intOf]; omega⟩
        · have b1 : (((s[k]).toNat : Int) == ((t[k]).toNat : Int)) = false := by
            rw [beq_eq_false_iff_ne]
            intro h
            exact he (UInt8.toNat_inj.1 (by omega))
          have HN := Lib.hid (bl_stop HX.out HY.out he HB.out)
          clear he
          go_wp2
          go_quiet (fail)
          go_wp2
          go_quiet (fail)
          go_wp2
          go_ret
          exact ⟨ret_bool HN.out.symm, (by repeat (first | exact Below.refl _ _ | assumption | refine below_draws ?_ _ | refine Below.drew ?_))⟩
      · have d2 : decide (k < t.size) = false := by simp; omega
        have HN := Lib.hid (bl_end (by rw [HSL.out, HTL.out]; omega) (by rw [HSL.out]; omega) (by rw [HTL.out]; omega) HB.out)
        rw [HSL.out, HTL.out] at HN
        go_wp2
        go_quiet (fail)
        go_wp2
        go_ret
        exact ⟨ret_bool HN.out.symm, (by repeat (first | exact Below.refl _ _ | assumption | refine below_draws ?_ _ | refine Below.drew ?_))⟩
    · have d2 : decide (k < s.size) = false := by simp; omega
      have HN := Lib.hid (bl_end (by rw [HSL.out, HTL.out]; omega) (by rw [HSL.out]; omega) (by rw [HTL.out]; omega) HB.out)
      rw [HSL.out, HTL.out] at HN
      go_wp2
      go_quiet (fail)
      go_wp2
      go_ret
      exact ⟨ret_bool HN.out.symm, (by repeat (first | exact Below.refl _ _ | assumption | refine below_draws ?_ _ | refine Below.drew ?_))⟩

theorem tx_size (s : List UInt8) : (tx s).size = s.length := by show s.toArray.size = _; simp
set_option maxRecDepth 1000000 in
set_option maxHeartbeats 4000000 in
theorem rlessV_any (a b : Vl') (u1 u2 : Value) (ha : a.s.length ≤ 140737488351232) (hb : b.s.length ≤ 140737488351232) (w : World) :
    Calls Try.prog 20 #[.agg #[.int .i64 a.n, .string (tx a.s), u1], .agg #[.int .i64 b.n, .string (tx b.s), u2]] w fun e w' => e = .returned (.bool (lessV a b)) ∧ Below w.heap.size w w' := by
  have HL := Lib.hid (fun wx => rless_any (tx a.s) (tx b.s) (by rw [tx_size]; exact ha) (by rw [tx_size]; exact hb) wx)
  have e1 : (tx a.s).data.toList = a.s := by simp [tx]
  have e2 : (tx b.s).data.toList = b.s := by simp [tx]
  rw [e1, e2] at HL
  clear e1 e2 ha hb
  unfold lessV
  obtain ⟨n1, hn1⟩ : ∃ n, a.n = n := ⟨_, rfl⟩
  obtain ⟨n2, hn2⟩ : ∃ n, b.n = n := ⟨_, rfl⟩
  obtain ⟨s1, hs1⟩ : ∃ n, a.s = n := ⟨_, rfl⟩
  obtain ⟨s2, hs2⟩ : ∃ n, b.s = n := ⟨_, rfl⟩
  rw [hs1, hs2] at HL
  rw [hn1, hn2, hs1, hs2]
  clear hn1 hn2 hs1 hs2
  obtain ⟨X1, X2, LBD⟩ := two_boxes w (.cells #[.int .i64 n1, .string (tx s1), u1] 30) (.cells #[.int .i64 n2, .string (tx s2), u2] 30)
  go_enter Try.func20, Try.ntmps20
  go_wp2_with fail
  refine (HL.out _).mono ?_
  rintro e w1 ⟨rfl, hb1⟩
  have k1 := (bx3 (box_on X1 hb1)).1
  have k2 := (bx3 (box_on X2 hb1)).1
  have HB := Lib.hid (below_then LBD hb1)
  obtain ⟨L, hL⟩ : ∃ L, Op.bytesLess s1 s2 = L := ⟨_, rfl⟩
  have HLL := Lib.hid hL
  rw [hL]
  clear X1 X2 LBD hb1 hL
  by_cases hn : n1 = n2
  · subst hn
    go_wp2
    go_ret
    exact ⟨by rw [HLL.out]; rfl, HB.out⟩
  · have h1 : (n1 == n2) = false := by simp [hn]
    by_cases hlt : n1 < n2
    · have h2 : decide (n1 < n2) = true := decide_eq_true hlt
      have HE := Lib.hid (show (if n1 = n2 then Op.bytesLess s1 s2 else decide (n1 < n2)) = true by rw [if_neg hn, h2])
      clear hn
      go_wp2
      go_ret
      exact ⟨by first | rfl | (rw [HE.out]; rfl), HB.out⟩
    · have HE := Lib.hid (show (if n1 = n2 then Op.bytesLess s1 s2 else decide (n1 < n2)) = false by rw [if_neg hn, decide_eq_false hlt])
      go_wp2
      go_ret
      exact ⟨by first | rfl | (rw [HE.out]; rfl), HB.out⟩
end Go.Proofs.Ytjmcpfckcajnjaa.T9
