/-
  Marks within a string: the contracts of the functions that tell what they mean.
-/
import Derived.Test.YtceomdbahiimlaaDoorTokRnum
import Derived.BigQuiet
import Derived.Deep.QuietTactic
namespace Go.Proofs.YtceomdbahiimlaaDoor
set_option maxRecDepth 100000

open Go.RowKit

def MV (o : Option (UInt8 × Nat)) : Value := match o with | none => .tuple #[.int .u8 0, .int .i64 0] | some (b, k) => .tuple #[.int .u8 (b.toNat : Int), .int .i64 ((k + 1 : Nat) : Int)]
def halfS : ByteArray := ⟨#[48, 49, 50, 51, 52, 53, 54, 55, 56, 57, 97, 98, 99, 100, 101, 102]⟩
theorem half_at (c : UInt8) : Lib.indexByte halfS.data.toList c = hexI c := by
  have h : ∀ k : Fin 256, Lib.indexByte halfS.data.toList (UInt8.ofNat k.val) = hexI (UInt8.ofNat k.val) := by decide +kernel
  have := h ⟨c.toNat, c.toNat_lt⟩
  simpa using this
theorem half_any (c : UInt8) (w : World) :
    Calls Tryd.prog 51 #[.string ⟨#[48, 49, 50, 51, 52, 53, 54, 55, 56, 57, 97, 98, 99, 100, 101, 102]⟩, .int .u8 (c.toNat : Int)] w fun e w' => e = .returned (.int .i64 (hexI c)) ∧ w = w' := by
  have := index_any halfS c w
  rw [half_at] at this
  exact this
theorem hexI_some {c : UInt8} {a : Nat} (h : hexv c = some a) : hexI c = a ∧ a < 16 := by
  have ha : a < 16 := by
    unfold hexv at h
    split at h
    · rename_i hd
      simp only [isDigit, Bool.and_eq_true, decide_eq_true_eq] at hd
      injection h with h
      omega
    · split at h
      · rename_i hd
        simp only [Bool.and_eq_true, decide_eq_true_eq] at hd
        injection h with h
        omega
      · cases h
  exact ⟨by unfold hexI; rw [h], ha⟩
theorem hexI_none {c : UInt8} (h : hexv c = none) : hexI c = -1 := by unfold hexI; rw [h]

theorem or_halves (a b : Nat) (ha : a < 16) (hb : b < 16) : bits BinOp.or IntKind.i64 ((a : Int) * 16) (b : Int) % 256 = ((UInt8.ofNat (16 * a + b)).toNat : Int) := by
  have h : ∀ x y : Fin 16, bits BinOp.or IntKind.i64 ((x.val : Int) * 16) (y.val : Int) % 256 = ((UInt8.ofNat (16 * x.val + y.val)).toNat : Int) := by decide +kernel
  exact h ⟨a, ha⟩ ⟨b, hb⟩
theorem ret_mark {o : Option (UInt8 × Nat)} {b : UInt8} {k : Nat} {x y : Value} (h : o = some (b, k)) (hx : x = .int .u8 (b.toNat : Int)) (hy : y = .int .i64 ((k + 1 : Nat) : Int)) : Ending.returned (.tuple #[x, y]) = .returned (MV o) := by
  subst h hx hy; rfl
theorem ret_nomark {o : Option (UInt8 × Nat)} {x y : Value} (h : o = none) (hx : x = .int .u8 0) (hy : y = .int .i64 0) : Ending.returned (.tuple #[x, y]) = .returned (MV o) := by
  subst h hx hy; rfl
set_option maxRecDepth 1000000 in
theorem bynum_any (s : ByteArray) (hs : s.size ≤ 1000000) (r : List UInt8) (hr : s.data.toList = 92 :: 120 :: r) (w : World) :
    Calls Tryd.prog 73 #[.string s] w fun e w' => e = .returned (MV (meant s.data.toList)) ∧ Below w.heap.size w w' := by
  have hsl : s.data.toList.length = s.size := by simp
  have hsg := at_list s
  rw [hr] at hsl hsg ⊢
  simp only [List.length_cons] at hsl
  match r with
  | [] =>
    have hm : meant [92, 120] = none := rfl
    rw [hm]
    have d0 : decide ((s.size : Int) < 4) = true := by simp at hsl; simp; omega
    clear hsg hr hsl
    go_enter Tryd.func73, Tryd.ntmps73
    go_wp2_with fail
    go_ret2
    exact ⟨rfl, (by repeat (first | exact Below.refl _ _ | assumption | refine below_draws ?_ _ | refine Below.drew ?_))⟩
  | [a] =>
    have hm : meant [92, 120, a] = none := rfl
    rw [hm]
    have d0 : decide ((s.size : Int) < 4) = true := by simp at hsl; simp; omega
    clear hsg hr hsl
    go_enter Tryd.func73, Tryd.ntmps73
    go_wp2_with fail
    go_ret2
    exact ⟨rfl, (by repeat (first | exact Below.refl _ _ | assumption | refine below_draws ?_ _ | refine Below.drew ?_))⟩
  | h :: k :: r =>
    simp only [List.length_cons] at hsl
    have h4 : 4 ≤ s.size := by omega
    have l2 : 2 < s.size := by omega
    have l3 : 3 < s.size := by omega
    have g2 : s[2]'l2 = h := by have := hsg 2 l2; simpa using this.symm
    have g3 : s[3]'l3 = k := by have := hsg 3 l3; simpa using this.symm
    have hm : meant (92 :: 120 :: h :: k :: r) = match hexv h, hexv k with | some a, some b => some (UInt8.ofNat (16 * a + b), 3) | _, _ => none := rfl
    rw [hm]
    clear hsg hr hsl hm
    have half : ∀ (c : UInt8) (v : Int), hexI c = v → ∀ w, Calls Tryd.prog 51 #[.string ⟨#[48, 49, 50, 51, 52, 53, 54, 55, 56, 57, 97, 98, 99, 100, 101, 102]⟩, .int .u8 (c.toNat : Int)] w fun e w' => e = .returned (.int .i64 v) ∧ w' = w := by
      rintro c v rfl w
      exact (half_any c w).mono fun _ _ ⟨he, hw⟩ => ⟨he, hw.symm⟩
    cases hh : hexv h with
    | none =>
      obtain ⟨v, hk⟩ : ∃ v, hexI k = v := ⟨_, rfl⟩
      have H1 := Lib.hid (half h _ (hexI_none hh))
      have H2 := Lib.hid (half k _ hk)
      clear half hh hk
      simp only
      go_enter Tryd.func73, Tryd.ntmps73
      go_wp2_with fail
      go_quiet (first
        | (go_at_call_of 51 (Value.int IntKind.u8 (h.toNat : Int)); refine Calls.quiet_of_same (H1.out _))
        | (go_at_call_of 51 (Value.int IntKind.u8 (k.toNat : Int)); refine Calls.quiet_of_same (H2.out _)))
      go_wp2
      go_ret2
      exact ⟨rfl, (by repeat (first | exact Below.refl _ _ | assumption | refine below_draws ?_ _ | refine Below.drew ?_))⟩
    | some a =>
      obtain ⟨ha, ha16⟩ := hexI_some hh
      have H1 := Lib.hid (half h _ ha)
      have b1 : decide ((a : Int) < 0) = false := by simp
      clear hh ha
      cases hk : hexv k with
      | none =>
        have H2 := Lib.hid (half k _ (hexI_none hk))
        clear half hk
        simp only
        go_enter Tryd.func73, Tryd.ntmps73
        go_wp2_with fail
        go_quiet (first
          | (go_at_call_of 51 (Value.int IntKind.u8 (h.toNat : Int)); refine Calls.quiet_of_same (H1.out _))
          | (go_at_call_of 51 (Value.int IntKind.u8 (k.toNat : Int)); refine Calls.quiet_of_same (H2.out _)))
        go_wp2
        go_ret2
        exact ⟨rfl, (by repeat (first | exact Below.refl _ _ | assumption | refine below_draws ?_ _ | refine Below.drew ?_))⟩
      | some b =>
        obtain ⟨hb, hb16⟩ := hexI_some hk
        have H2 := Lib.hid (half k _ hb)
        have b2 : decide ((b : Int) < 0) = false := by simp
        clear half hk hb
        simp only
        go_enter Tryd.func73, Tryd.ntmps73
        go_wp2_with fail
        go_quiet (first
          | (go_at_call_of 51 (Value.int IntKind.u8 (h.toNat : Int)); refine Calls.quiet_of_same (H1.out _))
          | (go_at_call_of 51 (Value.int IntKind.u8 (k.toNat : Int)); refine Calls.quiet_of_same (H2.out _)))
        go_wp2
        go_ret2
        exact ⟨ret_mark rfl (congrArg (Value.int .u8) (or_halves a b ha16 hb16)) rfl, (by repeat (first | exact Below.refl _ _ | assumption | refine below_draws ?_ _ | refine Below.drew ?_))⟩

theorem meant_mark {l : List UInt8} {d : UInt8} {r : List UInt8} (h : l = 92 :: d :: r) :
    ((d == 34 || d == 92) = true → meant l = some (d, 1)) ∧ ((d == 34 || d == 92) = false → d = 110 → meant l = some (10, 1)) ∧ ((d == 34 || d == 92) = false → d ≠ 110 → d ≠ 120 → meant l = none) := by
  subst h
  refine ⟨fun h => ?_, fun h h2 => ?_, fun h h2 h3 => ?_⟩
  · simp only [meant, h, beq_self_eq_true, if_true]
  · subst h2; rfl
  · have e2 : (d == 110) = false := by simpa using h2
    have e3 : (d == 120) = false := by simpa using h3
    simp only [meant, h, e2, e3, beq_self_eq_true, if_true, Bool.false_eq_true, if_false]
set_option maxRecDepth 1000000 in
theorem mark_any (s : ByteArray) (hs : s.size ≤ 1000000) (r : List UInt8) (hr : s.data.toList = 92 :: r) (w : World) :
    Calls Tryd.prog 67 #[.string s] w fun e w' => e = .returned (MV (meant s.data.toList)) ∧ Below w.heap.size w w' := by
  have hsl : s.data.toList.length = s.size := by simp
  have hsg := at_list s
  match r with
  | [] =>
    rw [hr] at hsl ⊢
    have hm : meant [92] = none := rfl
    rw [hm]
    have d0 : decide ((s.size : Int) < 2) = true := by simp at hsl; simp; omega
    clear hsg hr hsl
    go_enter Tryd.func67, Tryd.ntmps67
    go_wp2_with fail
    go_ret2
    exact ⟨rfl, (by repeat (first | exact Below.refl _ _ | assumption | refine below_draws ?_ _ | refine Below.drew ?_))⟩
  | d :: r =>
    have h2 : 2 ≤ s.size := by rw [hr] at hsl; simp at hsl; omega
    have l1 : 1 < s.size := by omega
    have g1 : s[1]'l1 = d := by have := hsg 1 l1; rw [hr] at this; simpa using this.symm
    have HBY : Hid (d = 120 → ∀ w, Calls Tryd.prog 73 #[.string s] w fun e w' => e = .returned (MV (meant s.data.toList)) ∧ Below w.heap.size w w') := Lib.hid (fun h w => bynum_any s hs r (by rw [hr, h]) w)
    obtain ⟨m1, m2, m3⟩ := meant_mark hr
    clear hr hsl hsg
    generalize hO : meant s.data.toList = O at *
    clear hO
    have e1 := u8_eq d 34 (by decide)
    have e2 := u8_eq d 92 (by decide)
    have e3 := u8_eq d 110 (by decide)
    have e4 := u8_eq d 120 (by decide)
    simp only [Int.cast_ofNat_Int] at e1 e2 e3 e4
    by_cases hA : (d == 34 || d == 92) = true
    · have HM := Lib.hid (m1 hA)
      clear m1 m2 m3 HBY e3 e4
      cases b1 : ((d.toNat : Int) == 34)
      · have b2 : ((d.toNat : Int) == 92) = true := by
          rw [b1] at e1
          have e1' : (d == 34) = false := e1.symm
          rw [e1', Bool.false_or] at hA
          rw [e2]; exact hA
        clear e1 e2 hA
        go_enter Tryd.func67, Tryd.ntmps67
        go_wp2_with fail
        go_ret2
        exact ⟨ret_mark HM.out rfl rfl, (by repeat (first | exact Below.refl _ _ | assumption | refine below_draws ?_ _ | refine Below.drew ?_))⟩
      · clear e1 e2 hA
        go_enter Tryd.func67, Tryd.ntmps67
        go_wp2_with fail
        go_ret2
        exact ⟨ret_mark HM.out rfl rfl, (by repeat (first | exact Below.refl _ _ | assumption | refine below_draws ?_ _ | refine Below.drew ?_))⟩
    · have hA' : (d == 34 || d == 92) = false := by simpa using hA
      obtain ⟨a1, a2⟩ : (d == 34) = false ∧ (d == 92) = false := by simpa only [Bool.or_eq_false_iff] using hA'
      have b1 : ((d.toNat : Int) == 34) = false := e1.trans a1
      have b2 : ((d.toNat : Int) == 92) = false := e2.trans a2
      clear m1 e1 e2 a1 a2 hA
      by_cases h3 : d = 110
      · have HM := Lib.hid (m2 hA' h3)
        have b3 : ((d.toNat : Int) == 110) = true := by rw [e3, h3]; rfl
        clear m2 m3 HBY e3 e4 hA' h3
        go_enter Tryd.func67, Tryd.ntmps67
        go_wp2_with fail
        go_ret2
        exact ⟨ret_mark HM.out rfl rfl, (by repeat (first | exact Below.refl _ _ | assumption | refine below_draws ?_ _ | refine Below.drew ?_))⟩
      · have b3 : ((d.toNat : Int) == 110) = false := by rw [e3]; simpa using h3
        by_cases h4 : d = 120
        · have b4 : ((d.toNat : Int) == 120) = true := by rw [e4, h4]; rfl
          have HB := Lib.hid (HBY.out h4)
          clear m2 m3 HBY e3 e4 hA' h3 h4
          go_enter Tryd.func67, Tryd.ntmps67
          go_wp2_with fail
          refine (HB.out _).mono ?_
          rintro e w1 ⟨rfl, hb⟩
          cases O with
          | none =>
            unfold MV
            go_wp2
            go_ret2
            exact ⟨rfl, hb⟩
          | some x =>
            obtain ⟨b, k⟩ := x
            unfold MV
            go_wp2
            go_ret2
            exact ⟨rfl, hb⟩
        · have b4 : ((d.toNat : Int) == 120) = false := by rw [e4]; simpa using h4
          have HM := Lib.hid (m3 hA' h3 h4)
          clear m2 m3 HBY e3 e4 hA' h3 h4
          go_enter Tryd.func67, Tryd.ntmps67
          go_wp2_with fail
          go_ret2
          exact ⟨ret_nomark HM.out rfl rfl, (by repeat (first | exact Below.refl _ _ | assumption | refine below_draws ?_ _ | refine Below.drew ?_))⟩
theorem meant_plain {c : UInt8} {r : List UInt8} (h : c ≠ 92) : meant (c :: r) = if isPlain c || decide (128 ≤ c.toNat) then some (c, 0) else none := by
  have e : (c == 92) = false := by simpa using h
  simp only [meant, e, Bool.false_eq_true, if_false]
set_option maxRecDepth 1000000 in
theorem meant_any (s : ByteArray) (hs : s.size ≤ 1000000) (p : Nat) (hp : p < s.size) (w : World) :
    Calls Tryd.prog 58 #[.string s, .int .i64 p] w fun e w' => e = .returned (MV (meant (s.data.toList.drop p))) ∧ Below w.heap.size w w' := by
  have hg := at_list s p hp
  have hd := ws_at hg
  have hfl := from_list s p
  have hmk := fun (h : s[p] = 92) w => mark_any (s.extract p s.size) (by rw [from_size]; omega) (s.data.toList.drop (p + 1)) (by rw [hfl, hd, h]) w
  rw [hfl] at hmk
  have hpl := fun (h : s[p] ≠ 92) => meant_plain (r := s.data.toList.drop (p + 1)) h
  rw [← hd] at hpl
  clear hfl hd
  generalize meant (s.data.toList.drop p) = O at *
  have HM := Lib.hid hmk
  have HP := Lib.hid hpl
  clear hmk hpl hg
  have e2 := u8_eq s[p] 92 (by decide)
  simp only [Int.cast_ofNat_Int] at e2
  by_cases h92 : s[p] = 92
  · have b2 : ((s[p].toNat : Int) == 92) = true := by rw [e2, h92]; rfl
    have HK := Lib.hid (HM.out h92)
    clear HM HP e2 h92
    go_enter Tryd.func58, Tryd.ntmps58
    go_wp2_with fail
    refine (HK.out _).mono ?_
    rintro e w1 ⟨rfl, hb⟩
    cases O with
    | none =>
      unfold MV
      go_wp2
      go_ret2
      exact ⟨rfl, hb⟩
    | some x =>
      obtain ⟨b, k⟩ := x
      unfold MV
      go_wp2
      go_ret2
      exact ⟨rfl, hb⟩
  · have b2 : ((s[p].toNat : Int) == 92) = false := by rw [e2]; simpa using h92
    have hp2 := HP.out h92
    clear HM HP e2 h92
    generalize hc : s[p] = c at *
    cases hpl : isPlain c
    · by_cases h128 : 128 ≤ c.toNat
      · have HO : Hid (O = some (c, 0)) := Lib.hid (by rw [hp2, hpl]; simp [h128])
        have d1 : decide (128 ≤ (c.toNat : Int)) = true := by simp; omega
        have HPL := Lib.hid hpl
        clear hp2 hpl
        go_enter Tryd.func58, Tryd.ntmps58
        go_wp2_with fail
        refine (plain_any c _).mono ?_
        rw [HPL.out]
        rintro e w1 ⟨rfl, rfl⟩
        go_wp2
        go_ret2
        exact ⟨ret_mark HO.out rfl rfl, (by repeat (first | exact Below.refl _ _ | assumption | refine below_draws ?_ _ | refine Below.drew ?_))⟩
      · have HO : Hid (O = none) := Lib.hid (by rw [hp2, hpl]; simp [h128])
        have d1 : decide (128 ≤ (c.toNat : Int)) = false := by simp; omega
        have HPL := Lib.hid hpl
        clear hp2 hpl
        go_enter Tryd.func58, Tryd.ntmps58
        go_wp2_with fail
        refine (plain_any c _).mono ?_
        rw [HPL.out]
        rintro e w1 ⟨rfl, rfl⟩
        go_wp2
        go_ret2
        exact ⟨ret_nomark HO.out rfl rfl, (by repeat (first | exact Below.refl _ _ | assumption | refine below_draws ?_ _ | refine Below.drew ?_))⟩
    · have HO : Hid (O = some (c, 0)) := Lib.hid (by rw [hp2, hpl]; simp)
      have HPL := Lib.hid hpl
      clear hp2 hpl
      go_enter Tryd.func58, Tryd.ntmps58
      go_wp2_with fail
      refine (plain_any c _).mono ?_
      rw [HPL.out]
      rintro e w1 ⟨rfl, rfl⟩
      go_wp2
      go_ret2
      exact ⟨ret_mark HO.out rfl rfl, (by repeat (first | exact Below.refl _ _ | assumption | refine below_draws ?_ _ | refine Below.drew ?_))⟩
end Go.Proofs.YtceomdbahiimlaaDoor
