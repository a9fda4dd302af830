/-
  Marks within a string: the contracts of the functions that tell what they mean.
-/
import Derived.Test.YtciiemomfniecaaGreatDoorTokRnum
import Derived.BigQuiet
import Derived.Deep.QuietTactic
import Derived.Great.BuildSlice
import Derived.Deep.WholeRow
import Derived.Laws.CopyOwn
import Derived.Test.YtciiemomfniecaaGreatDoorTabMath
import Derived.Deep.RegionLaw
namespace Go.Proofs.YtciiemomfniecaaGreatDoor
set_option maxRecDepth 100000

open Go.RowKit

def MV (o : Option (UInt8 × Nat)) : Value := match o with | none => .tuple #[.int .u8 0, .int .i64 0] | some (b, k) => .tuple #[.int .u8 (b.toNat : Int), .int .i64 ((k + 1 : Nat) : Int)]
def halfS : ByteArray := ⟨#[48, 49, 50, 51, 52, 53, 54, 55, 56, 57, 97, 98, 99, 100, 101, 102]⟩
theorem half_at (c : UInt8) : Lib.indexByte halfS.data.toList c = hexI c := by
  have h : ∀ k : Fin 256, Lib.indexByte halfS.data.toList (UInt8.ofNat k.val) = hexI (UInt8.ofNat k.val) := by decide +kernel
  have := h ⟨c.toNat, c.toNat_lt⟩
  simpa using this
theorem half_any (c : UInt8) (w : World) :
    Calls Tryz.prog 139 #[.string ⟨#[48, 49, 50, 51, 52, 53, 54, 55, 56, 57, 97, 98, 99, 100, 101, 102]⟩, .int .u8 (c.toNat : Int)] w fun e w' => e = .returned (.int .i64 (hexI c)) ∧ w = w' := by
  have := index_any halfS c w
  rw [half_at] at this
  exact this
theorem hexI_some {c : UInt8} {a : Nat} (h : hexv c = some a) : hexI c = a ∧ a < 16 := by
  have ha : a < 16 := by
    unfold hexv at h
    split at h
    · rename_i hd
      simp only [isDigit, Bool.and_eq_true, decide_eq_true_eq] at hd
      injection h with h
      omega
    · split at h
      · rename_i hd
        simp only [Bool.and_eq_true, decide_eq_true_eq] at hd
        injection h with h
        omega
      · cases h
  exact ⟨by unfold hexI; rw [h], ha⟩
theorem hexI_none {c : UInt8} (h : hexv c = none) : hexI c = -1 := by unfold hexI; rw [h]

theorem or_halves (a b : Nat) (ha : a < 16) (hb : b < 16) : bits BinOp.or IntKind.i64 ((a : Int) * 16) (b : Int) % 256 = ((UInt8.ofNat (16 * a + b)).toNat : Int) := by
  have h : ∀ x y : Fin 16, bits BinOp.or IntKind.i64 ((x.val : Int) * 16) (y.val : Int) % 256 = ((UInt8.ofNat (16 * x.val + y.val)).toNat : Int) := by decide +kernel
  exact h ⟨a, ha⟩ ⟨b, hb⟩
theorem ret_mark {o : Option (UInt8 × Nat)} {b : UInt8} {k : Nat} {x y : Value} (h : o = some (b, k)) (hx : x = .int .u8 (b.toNat : Int)) (hy : y = .int .i64 ((k + 1 : Nat) : Int)) : Ending.returned (.tuple #[x, y]) = .returned (MV o) := by
  subst h hx hy; rfl
theorem ret_nomark {o : Option (UInt8 × Nat)} {x y : Value} (h : o = none) (hx : x = .int .u8 0) (hy : y = .int .i64 0) : Ending.returned (.tuple #[x, y]) = .returned (MV o) := by
  subst h hx hy; rfl
set_option maxRecDepth 1000000 in
theorem bynum_any (s : ByteArray) (hs : s.size ≤ 1000000) (r : List UInt8) (hr : s.data.toList = 92 :: 120 :: r) (w : World) :
    Calls Tryz.prog 199 #[.string s] w fun e w' => e = .returned (MV (meant s.data.toList)) ∧ Below w.heap.size w w' := by
  have hsl : s.data.toList.length = s.size := by simp
  have hsg := at_list s
  rw [hr] at hsl hsg ⊢
  simp only [List.length_cons] at hsl
  match r with
  | [] =>
    have hm : meant [92, 120] = none := rfl
    rw [hm]
    have d0 : decide ((s.size : Int) < 4) = true := by simp at hsl; simp; omega
    clear hsg hr hsl
    go_enter Tryz.func199, Tryz.ntmps199
    go_wp2_with fail
    go_ret2
    exact ⟨rfl, (by repeat (first | exact Below.refl _ _ | assumption | refine below_draws ?_ _ | refine Below.drew ?_))⟩
  | [a] =>
    have hm : meant [92, 120, a] = none := rfl
    rw [hm]
    have d0 : decide ((s.size : Int) < 4) = true := by simp at hsl; simp; omega
    clear hsg hr hsl
    go_enter Tryz.func199, Tryz.ntmps199
    go_wp2_with fail
    go_ret2
    exact ⟨rfl, (by repeat (first | exact Below.refl _ _ | assumption | refine below_draws ?_ _ | refine Below.drew ?_))⟩
  | h :: k :: r =>
    simp only [List.length_cons] at hsl
    have h4 : 4 ≤ s.size := by omega
    have l2 : 2 < s.size := by omega
    have l3 : 3 < s.size := by omega
    have g2 : s[2]'l2 = h := by have := hsg 2 l2; simpa using this.symm
    have g3 : s[3]'l3 = k := by have := hsg 3 l3; simpa using this.symm
    have hm : meant (92 :: 120 :: h :: k :: r) = match hexv h, hexv k with | some a, some b => some (UInt8.ofNat (16 * a + b), 3) | _, _ => none := rfl
    rw [hm]
    clear hsg hr hsl hm
    have half : ∀ (c : UInt8) (v : Int), hexI c = v → ∀ w, Calls Tryz.prog 139 #[.string ⟨#[48, 49, 50, 51, 52, 53, 54, 55, 56, 57, 97, 98, 99, 100, 101, 102]⟩, .int .u8 (c.toNat : Int)] w fun e w' => e = .returned (.int .i64 v) ∧ w' = w := by
      rintro c v rfl w
      exact (half_any c w).mono fun _ _ ⟨he, hw⟩ => ⟨he, hw.symm⟩
    cases hh : hexv h with
    | none =>
      obtain ⟨v, hk⟩ : ∃ v, hexI k = v := ⟨_, rfl⟩
      have H1 := Lib.hid (half h _ (hexI_none hh))
      have H2 := Lib.hid (half k _ hk)
      clear half hh hk
      simp only
      go_enter Tryz.func199, Tryz.ntmps199
      go_wp2_with fail
      go_quiet (first
        | (go_at_call_of 139 (Value.int IntKind.u8 (h.toNat : Int)); refine Calls.quiet_of_same (H1.out _))
        | (go_at_call_of 139 (Value.int IntKind.u8 (k.toNat : Int)); refine Calls.quiet_of_same (H2.out _)))
      go_wp2
      go_ret2
      exact ⟨rfl, (by repeat (first | exact Below.refl _ _ | assumption | refine below_draws ?_ _ | refine Below.drew ?_))⟩
    | some a =>
      obtain ⟨ha, ha16⟩ := hexI_some hh
      have H1 := Lib.hid (half h _ ha)
      have b1 : decide ((a : Int) < 0) = false := by simp
      clear hh ha
      cases hk : hexv k with
      | none =>
        have H2 := Lib.hid (half k _ (hexI_none hk))
        clear half hk
        simp only
        go_enter Tryz.func199, Tryz.ntmps199
        go_wp2_with fail
        go_quiet (first
          | (go_at_call_of 139 (Value.int IntKind.u8 (h.toNat : Int)); refine Calls.quiet_of_same (H1.out _))
          | (go_at_call_of 139 (Value.int IntKind.u8 (k.toNat : Int)); refine Calls.quiet_of_same (H2.out _)))
        go_wp2
        go_ret2
        exact ⟨rfl, (by repeat (first | exact Below.refl _ _ | assumption | refine below_draws ?_ _ | refine Below.drew ?_))⟩
      | some b =>
        obtain ⟨hb, hb16⟩ := hexI_some hk
        have H2 := Lib.hid (half k _ hb)
        have b2 : decide ((b : Int) < 0) = false := by simp
        clear half hk hb
        simp only
        go_enter Tryz.func199, Tryz.ntmps199
        go_wp2_with fail
        go_quiet (first
          | (go_at_call_of 139 (Value.int IntKind.u8 (h.toNat : Int)); refine Calls.quiet_of_same (H1.out _))
          | (go_at_call_of 139 (Value.int IntKind.u8 (k.toNat : Int)); refine Calls.quiet_of_same (H2.out _)))
        go_wp2
        go_ret2
        exact ⟨ret_mark rfl (congrArg (Value.int .u8) (or_halves a b ha16 hb16)) rfl, (by repeat (first | exact Below.refl _ _ | assumption | refine below_draws ?_ _ | refine Below.drew ?_))⟩

theorem meant_mark {l : List UInt8} {d : UInt8} {r : List UInt8} (h : l = 92 :: d :: r) :
    ((d == 34 || d == 92) = true → meant l = some (d, 1)) ∧ ((d == 34 || d == 92) = false → d = 110 → meant l = some (10, 1)) ∧ ((d == 34 || d == 92) = false → d ≠ 110 → d ≠ 120 → meant l = none) := by
  subst h
  refine ⟨fun h => ?_, fun h h2 => ?_, fun h h2 h3 => ?_⟩
  · simp only [meant, h, beq_self_eq_true, if_true]
  · subst h2; rfl
  · have e2 : (d == 110) = false := by simpa using h2
    have e3 : (d == 120) = false := by simpa using h3
    simp only [meant, h, e2, e3, beq_self_eq_true, if_true, Bool.false_eq_true, if_false]
set_option maxRecDepth 1000000 in
theorem mark_any (s : ByteArray) (hs : s.size ≤ 1000000) (r : List UInt8) (hr : s.data.toList = 92 :: r) (w : World) :
    Calls Tryz.prog 187 #[.string s] w fun e w' => e = .returned (MV (meant s.data.toList)) ∧ Below w.heap.size w w' := by
  have hsl : s.data.toList.length = s.size := by simp
  have hsg := at_list s
  match r with
  | [] =>
    rw [hr] at hsl ⊢
    have hm : meant [92] = none := rfl
    rw [hm]
    have d0 : decide ((s.size : Int) < 2) = true := by simp at hsl; simp; omega
    clear hsg hr hsl
    go_enter Tryz.func187, Tryz.ntmps187
    go_wp2_with fail
    go_ret2
    exact ⟨rfl, (by repeat (first | exact Below.refl _ _ | assumption | refine below_draws ?_ _ | refine Below.drew ?_))⟩
  | d :: r =>
    have h2 : 2 ≤ s.size := by rw [hr] at hsl; simp at hsl; omega
    have l1 : 1 < s.size := by omega
    have g1 : s[1]'l1 = d := by have := hsg 1 l1; rw [hr] at this; simpa using this.symm
    have HBY : Hid (d = 120 → ∀ w, Calls Tryz.prog 199 #[.string s] w fun e w' => e = .returned (MV (meant s.data.toList)) ∧ Below w.heap.size w w') := Lib.hid (fun h w => bynum_any s hs r (by rw [hr, h]) w)
    obtain ⟨m1, m2, m3⟩ := meant_mark hr
    clear hr hsl hsg
    generalize hO : meant s.data.toList = O at *
    clear hO
    have e1 := u8_eq d 34 (by decide)
    have e2 := u8_eq d 92 (by decide)
    have e3 := u8_eq d 110 (by decide)
    have e4 := u8_eq d 120 (by decide)
    simp only [Int.cast_ofNat_Int] at e1 e2 e3 e4
    by_cases hA : (d == 34 || d == 92) = true
    · have HM := Lib.hid (m1 hA)
      clear m1 m2 m3 HBY e3 e4
      cases b1 : ((d.toNat : Int) == 34)
      · have b2 : ((d.toNat : Int) == 92) = true := by
          rw [b1] at e1
          have e1' : (d == 34) = false := e1.symm
          rw [e1', Bool.false_or] at hA
          rw [e2]; exact hA
        clear e1 e2 hA
        go_enter Tryz.func187, Tryz.ntmps187
        go_wp2_with fail
        go_ret2
        exact ⟨ret_mark HM.out rfl rfl, (by repeat (first | exact Below.refl _ _ | assumption | refine below_draws ?_ _ | refine Below.drew ?_))⟩
      · clear e1 e2 hA
        go_enter Tryz.func187, Tryz.ntmps187
        go_wp2_with fail
        go_ret2
        exact ⟨ret_mark HM.out rfl rfl, (by repeat (first | exact Below.refl _ _ | assumption | refine below_draws ?_ _ | refine Below.drew ?_))⟩
    · have hA' : (d == 34 || d == 92) = false := by simpa using hA
      obtain ⟨a1, a2⟩ : (d == 34) = false ∧ (d == 92) = false := by simpa only [Bool.or_eq_false_iff] using hA'
      have b1 : ((d.toNat : Int) == 34) = false := e1.trans a1
      have b2 : ((d.toNat : Int) == 92) = false := e2.trans a2
      clear m1 e1 e2 a1 a2 hA
      by_cases h3 : d = 110
      · have HM := Lib.hid (m2 hA' h3)
        have b3 : ((d.toNat : Int) == 110) = true := by rw [e3, h3]; rfl
        clear m2 m3 HBY e3 e4 hA' h3
        go_enter Tryz.func187, Tryz.ntmps187
        go_wp2_with fail
        go_ret2
        exact ⟨ret_mark HM.out rfl rfl, (by repeat (first | exact Below.refl _ _ | assumption | refine below_draws ?_ _ | refine Below.drew ?_))⟩
      · have b3 : ((d.toNat : Int) == 110) = false := by rw [e3]; simpa using h3
        by_cases h4 : d = 120
        · have b4 : ((d.toNat : Int) == 120) = true := by rw [e4, h4]; rfl
          have HB := Lib.hid (HBY.out h4)
          clear m2 m3 HBY e3 e4 hA' h3 h4
          go_enter Tryz.func187, Tryz.ntmps187
          go_wp2_with fail
          refine (HB.out _).mono ?_
          rintro e w1 ⟨rfl, hb⟩
          cases O with
          | none =>
            unfold MV
            go_wp2
            go_ret2
            exact ⟨rfl, hb⟩
          | some x =>
            obtain ⟨b, k⟩ := x
            unfold MV
            go_wp2
            go_ret2
            exact ⟨rfl, hb⟩
        · have b4 : ((d.toNat : Int) == 120) = false := by rw [e4]; simpa using h4
          have HM := Lib.hid (m3 hA' h3 h4)
          clear m2 m3 HBY e3 e4 hA' h3 h4
          go_enter Tryz.func187, Tryz.ntmps187
          go_wp2_with fail
          go_ret2
          exact ⟨ret_nomark HM.out rfl rfl, (by repeat (first | exact Below.refl _ _ | assumption | refine below_draws ?_ _ | refine Below.drew ?_))⟩
theorem meant_plain {c : UInt8} {r : List UInt8} (h : c ≠ 92) : meant (c :: r) = if isPlain c || decide (128 ≤ c.toNat) then some (c, 0) else none := by
  have e : (c == 92) = false := by simpa using h
  simp only [meant, e, Bool.false_eq_true, if_false]
set_option maxRecDepth 1000000 in
theorem meant_any (s : ByteArray) (hs : s.size ≤ 1000000) (p : Nat) (hp : p < s.size) (w : World) :
    Calls Tryz.prog 163 #[.string s, .int .i64 p] w fun e w' => e = .returned (MV (meant (s.data.toList.drop p))) ∧ Below w.heap.size w w' := by
  have hg := at_list s p hp
  have hd := ws_at hg
  have hfl := from_list s p
  have hmk := fun (h : s[p] = 92) w => mark_any (s.extract p s.size) (by rw [from_size]; omega) (s.data.toList.drop (p + 1)) (by rw [hfl, hd, h]) w
  rw [hfl] at hmk
  have hpl := fun (h : s[p] ≠ 92) => meant_plain (r := s.data.toList.drop (p + 1)) h
  rw [← hd] at hpl
  clear hfl hd
  generalize meant (s.data.toList.drop p) = O at *
  have HM := Lib.hid hmk
  have HP := Lib.hid hpl
  clear hmk hpl hg
  have e2 := u8_eq s[p] 92 (by decide)
  simp only [Int.cast_ofNat_Int] at e2
  by_cases h92 : s[p] = 92
  · have b2 : ((s[p].toNat : Int) == 92) = true := by rw [e2, h92]; rfl
    have HK := Lib.hid (HM.out h92)
    clear HM HP e2 h92
    go_enter Tryz.func163, Tryz.ntmps163
    go_wp2_with fail
    refine (HK.out _).mono ?_
    rintro e w1 ⟨rfl, hb⟩
    cases O with
    | none =>
      unfold MV
      go_wp2
      go_ret2
      exact ⟨rfl, hb⟩
    | some x =>
      obtain ⟨b, k⟩ := x
      unfold MV
      go_wp2
      go_ret2
      exact ⟨rfl, hb⟩
  · have b2 : ((s[p].toNat : Int) == 92) = false := by rw [e2]; simpa using h92
    have hp2 := HP.out h92
    clear HM HP e2 h92
    generalize hc : s[p] = c at *
    cases hpl : isPlain c
    · by_cases h128 : 128 ≤ c.toNat
      · have HO : Hid (O = some (c, 0)) := Lib.hid (by rw [hp2, hpl]; simp [h128])
        have d1 : decide (128 ≤ (c.toNat : Int)) = true := by simp; omega
        have HPL := Lib.hid hpl
        clear hp2 hpl
        go_enter Tryz.func163, Tryz.ntmps163
        go_wp2_with fail
        refine (plain_any c _).mono ?_
        rw [HPL.out]
        rintro e w1 ⟨rfl, rfl⟩
        go_wp2
        go_ret2
        exact ⟨ret_mark HO.out rfl rfl, (by repeat (first | exact Below.refl _ _ | assumption | refine below_draws ?_ _ | refine Below.drew ?_))⟩
      · have HO : Hid (O = none) := Lib.hid (by rw [hp2, hpl]; simp [h128])
        have d1 : decide (128 ≤ (c.toNat : Int)) = false := by simp; omega
        have HPL := Lib.hid hpl
        clear hp2 hpl
        go_enter Tryz.func163, Tryz.ntmps163
        go_wp2_with fail
        refine (plain_any c _).mono ?_
        rw [HPL.out]
        rintro e w1 ⟨rfl, rfl⟩
        go_wp2
        go_ret2
        exact ⟨ret_nomark HO.out rfl rfl, (by repeat (first | exact Below.refl _ _ | assumption | refine below_draws ?_ _ | refine Below.drew ?_))⟩
    · have HO : Hid (O = some (c, 0)) := Lib.hid (by rw [hp2, hpl]; simp)
      have HPL := Lib.hid hpl
      clear hp2 hpl
      go_enter Tryz.func163, Tryz.ntmps163
      go_wp2_with fail
      refine (plain_any c _).mono ?_
      rw [HPL.out]
      rintro e w1 ⟨rfl, rfl⟩
      go_wp2
      go_ret2
      exact ⟨ret_mark HO.out rfl rfl, (by repeat (first | exact Below.refl _ _ | assumption | refine below_draws ?_ _ | refine Below.drew ?_))⟩
end Go.Proofs.YtciiemomfniecaaGreatDoor
/-
  Tokens as they lie in memory: boxes of one token, results of which the first is one.
-/
namespace Go.Proofs.YtciiemomfniecaaGreatDoor
set_option maxRecDepth 100000

open Go.RowKit

theorem results_row_tmp2 {P : Program} {fn : Func} {p u v : Tmp} {ty : TypeId} (h : fn.results = #[.cell p ty, .tmp u, .tmp v]) (tmps : Array Value) (w : World) (g : Nat) (t : TypeId) (cs : Array Value) (fr : Nat × Nat) (d : TypeDesc)
    (hp : tmps.getD p undef = .pointer (some ⟨g, 0, none⟩)) (hg : w.heap[g]? = some (.cells cs t fr))
    (hu : P.underlying ty = some d) (hd : (match d with | .struct _ | .array _ _ => true | _ => false) = true) (hi : (P.info? ty).map (·.size) = some cs.size) :
    (results fn tmps).run P w = .ok (.tuple #[.agg cs, tmps.getD u undef, tmps.getD v undef]) w := by
  have hp' : tmps[p]?.getD undef = .pointer (some ⟨g, 0, none⟩) := by simpa using hp
  simp [results, h, hp', asAddr, run_loadVar_row w g t ty cs fr d hg hu hd hi]
theorem results_row_tmp1 {P : Program} {fn : Func} {p u : Tmp} {ty : TypeId} (h : fn.results = #[.cell p ty, .tmp u]) (tmps : Array Value) (w : World) (g : Nat) (t : TypeId) (cs : Array Value) (fr : Nat × Nat) (d : TypeDesc)
    (hp : tmps.getD p undef = .pointer (some ⟨g, 0, none⟩)) (hg : w.heap[g]? = some (.cells cs t fr))
    (hu : P.underlying ty = some d) (hd : (match d with | .struct _ | .array _ _ => true | _ => false) = true) (hi : (P.info? ty).map (·.size) = some cs.size) :
    (results fn tmps).run P w = .ok (.tuple #[.agg cs, tmps.getD u undef]) w := by
  have hp' : tmps[p]?.getD undef = .pointer (some ⟨g, 0, none⟩) := by simpa using hp
  simp [results, h, hp', asAddr, run_loadVar_row w g t ty cs fr d hg hu hd hi]

theorem own_mono {w : World} {base base' : Nat} {e : TypeId} {size : Nat} {v : Value} {n : Nat} {xs : List Value} (h : w.ownsRow base e size v n xs) (hb : base' ≤ base) : w.ownsRow base' e size v n xs := by
  rcases h with ⟨hl, ⟨rfl, rfl⟩ | ⟨g, cap, cur, rfl, h1, h2⟩⟩
  · exact ⟨hl, .inl ⟨rfl, rfl⟩⟩
  · exact ⟨hl, .inr ⟨g, cap, cur, rfl, Nat.le_trans hb h1, h2⟩⟩
/-- A row of the call's own stays where nothing old turns. -/
theorem own_below {w w' : World} {base : Nat} {e : TypeId} {size : Nat} {v : Value} {n : Nat} {xs : List Value} (h : w.ownsRow base e size v n xs) (hb : Below w.heap.size w w') : w'.ownsRow base e size v n xs := by
  rcases h with ⟨hl, ⟨rfl, rfl⟩ | ⟨g, cap, cur, rfl, h1, h2, h3⟩⟩
  · exact ⟨hl, .inl ⟨rfl, rfl⟩⟩
  · exact ⟨hl, .inr ⟨g, cap, cur, rfl, h1, (hb.block g (Array.getElem?_eq_some_iff.1 h2).1).trans h2, h3⟩⟩
theorem bs_snoc (a : List UInt8) (b : UInt8) : bs a ++ [Value.int .u8 (b.toNat : Int)] = bs (a ++ [b]) := by rw [bs_append]; rfl
/-- A box below a base stays where a row from that base on is written. -/
theorem box_grown {w w' : World} {g base : Nat} {o : Obj} {row : Option Nat} (h : w.heap[g]? = some o) (hg : w.grownBy w' row) (hr : ∀ k, row = some k → base ≤ k) (hlt : g < base) : w'.heap[g]? = some o := by
  have hlt2 := (Array.getElem?_eq_some_iff.1 h).1
  rw [hg.block g hlt2 (fun e => by have := hr g e.symm; omega)]
  exact h
theorem infoTok : (Tryz.prog.info? 155).map (·.size) = some 4 := by kernel_rfl
def TokV (kind : Nat) (text : ByteArray) (n : Int) (p : Nat) : Value := .agg #[.int .i64 kind, .string text, .int .i64 n, .int .i64 p]

/-- A token is stored where one lies. -/
theorem wpList_store_tok {ops : Array Oper} {rest : List Oper} {o : Oper} {a : Act} {w : World} {Q : Exit → Act → World → Prop} (hgd : o.guard = none) (x y : Operand) (ho : o.op = .store 155 x y)
    (hd : o.dst = none) (g : Nat) (k1 n1 p1 k0 n0 p0 : Int) (t1 t0 : ByteArray) (hx : a.eval x = .pointer (some ⟨g, 0, none⟩)) (hy : a.eval y = .agg #[.int .i64 k1, .string t1, .int .i64 n1, .int .i64 p1])
    (t : TypeId) (hg : w.heap[g]? = some (.cells #[.int .i64 k0, .string t0, .int .i64 n0, .int .i64 p0] t (0, 0)))
    (h : wpList Tryz.prog ops Q rest a (w.setRow g #[.int .i64 k1, .string t1, .int .i64 n1, .int .i64 p1])) : wpList Tryz.prog ops Q (o :: rest) a w :=
  wpList_store_rowTo hgd 155 x y ho hd g _ hx hy t _ hg infoTok rfl (by simp [Value.oneCell']) h
theorem results_tok {fn : Func} {p u v : Tmp} (h : fn.results = #[.cell p 155, .tmp u, .tmp v]) (tmps : Array Value) (w : World) (g : Nat) (t : TypeId) (k n q : Int) (s : ByteArray) (fr : Nat × Nat)
    (hp : tmps.getD p undef = .pointer (some ⟨g, 0, none⟩)) (hg : w.heap[g]? = some (.cells #[.int .i64 k, .string s, .int .i64 n, .int .i64 q] t fr)) :
    (results fn tmps).run Tryz.prog w = .ok (.tuple #[.agg #[.int .i64 k, .string s, .int .i64 n, .int .i64 q], tmps.getD u undef, tmps.getD v undef]) w :=
  results_row_tmp2 h tmps w g t _ fr _ hp hg Tryz.underlying155 rfl infoTok
theorem results_tok1 {fn : Func} {p u : Tmp} (h : fn.results = #[.cell p 155, .tmp u]) (tmps : Array Value) (w : World) (g : Nat) (t : TypeId) (k n q : Int) (s : ByteArray) (fr : Nat × Nat)
    (hp : tmps.getD p undef = .pointer (some ⟨g, 0, none⟩)) (hg : w.heap[g]? = some (.cells #[.int .i64 k, .string s, .int .i64 n, .int .i64 q] t fr)) :
    (results fn tmps).run Tryz.prog w = .ok (.tuple #[.agg #[.int .i64 k, .string s, .int .i64 n, .int .i64 q], tmps.getD u undef]) w :=
  results_row_tmp1 h tmps w g t _ fr _ hp hg Tryz.underlying155 rfl infoTok

/-- What is told of a token that begins at a place. -/
def SV (o : Option Tk) (p : Nat) : Value := match o with
  | none => .tuple #[TokV 0 ⟨#[]⟩ 0 0, .int .i64 0, .bool false]
  | some t => .tuple #[TokV t.kind (txt t.text) t.num p, .int .i64 ((p + t.more + 1 : Nat) : Int), .bool true]
def strT (l : List UInt8) : Option Tk := (strB 0 l).map fun x => ⟨2, x.1, 0, x.2⟩
end Go.Proofs.YtciiemomfniecaaGreatDoor
/-
  Slices of tokens that read as lists; the contract of the function that holds two of them against each other.
-/
namespace Go.Proofs.YtciiemomfniecaaGreatDoor
set_option maxRecDepth 100000

open Go.RowKit

/-- A token's cells. -/
def TC (t : T) : List Value := [.int .i64 t.kind, .string (txt t.text), .int .i64 t.num, .int .i64 t.at_]
def tv (l : List T) : List Value := l.flatMap TC
theorem tv_append (a b : List T) : tv (a ++ b) = tv a ++ tv b := by simp [tv]
theorem tv_cons (r : T) (l : List T) : tv (r :: l) = TC r ++ tv l := by simp [tv]
theorem tv_length (a : List T) : (tv a).length = a.length * 4 := by
  induction a with
  | nil => rfl
  | cons r a ih => rw [tv_cons, List.length_append, ih]; simp [TC]; omega
theorem tv_get : ∀ (l : List T) (k j : Nat) (r : T), l[k]? = some r → j < 4 → (tv l)[k * 4 + j]? = (TC r)[j]?
  | [], k, j, r, h, _ => by simp at h
  | x :: l, 0, j, r, h, hj => by
    obtain rfl : x = r := by simpa using h
    rw [tv_cons, Nat.zero_mul, Nat.zero_add, List.getElem?_append_left (by simp [TC]; omega)]
  | x :: l, k + 1, j, r, h, hj => by
    rw [tv_cons, List.getElem?_append_right (by simp [TC]; omega)]
    rw [show (k + 1) * 4 + j - (TC x).length = k * 4 + j by simp [TC]; omega]
    exact tv_get l k j r (by simpa using h) hj
theorem tv_one (a : List T) : ∀ u ∈ tv a, u.oneCell' = true := by
  intro u hu
  obtain ⟨r, _, hr⟩ := List.mem_flatMap.1 hu
  simp only [TC, List.mem_cons, List.not_mem_nil, or_false] at hr
  rcases hr with rfl | rfl | rfl | rfl <;> rfl
/-- A slice of tokens that reads as the list l. -/
def SlT (w : World) (A : Option Addr) (c : Nat) (l : List T) : Prop := Sl w A l.length c 4 (tv l)
theorem SlT.on {w w' : World} {A : Option Addr} {c : Nat} {l : List T} (h : SlT w A c l) (hb : Below w.heap.size w w') : SlT w' A c l := Sl.on h hb
theorem SlT.of_own {w : World} {base : Nat} {e : TypeId} {v : Value} {l : List T} (h : w.ownsRow base e 4 v l.length (tv l)) : ∃ A c, v = .slice A l.length c ∧ SlT w A c l := Sl.of_own h
/-- The token at k: its address, and its cells. -/
theorem SlT.at_ {w : World} {A : Option Addr} {c : Nat} {l : List T} (h : SlT w A c l) {k : Nat} (hk : k < l.length) : ∃ ad r, A = some ad ∧ ad.block < w.heap.size ∧ l[k]? = some r ∧
    w.cell? (ad.add (k * 4)) = some (.int .i64 r.kind) ∧ w.cell? ⟨(ad.add (k * 4)).block, (ad.add (k * 4)).off + 1, none⟩ = some (.string (txt r.text)) ∧ w.cell? ⟨(ad.add (k * 4)).block, (ad.add (k * 4)).off + 2, none⟩ = some (.int .i64 r.num) ∧
    w.cell? ⟨(ad.add (k * 4)).block, (ad.add (k * 4)).off + 3, none⟩ = some (.int .i64 r.at_) := by
  obtain ⟨ad, rfl, hb, hcell⟩ := Sl.there h (by omega)
  have hg : l[k]? = some l[k] := List.getElem?_eq_getElem hk
  have hadd : ∀ j : Nat, 0 < j → (⟨(ad.add (k * 4)).block, (ad.add (k * 4)).off + j, none⟩ : Addr) = ad.add (k * 4 + j) := fun j hj => by
    rw [← add_twice]
    cases j with
    | zero => omega
    | succ j => simp [Addr.add]
  refine ⟨ad, l[k], rfl, hb, hg, ?_, ?_, ?_, ?_⟩
  · exact hcell (k * 4) _ (by have := tv_get l k 0 _ hg (by omega); rw [Nat.add_zero] at this; rw [this]; rfl)
  · rw [hadd 1 (by omega)]; exact hcell _ _ (by rw [tv_get l k 1 _ hg (by omega)]; rfl)
  · rw [hadd 2 (by omega)]; exact hcell _ _ (by rw [tv_get l k 2 _ hg (by omega)]; rfl)
  · rw [hadd 3 (by omega)]; exact hcell _ _ (by rw [tv_get l k 3 _ hg (by omega)]; rfl)
theorem ttake_ne {l m : List T} {k : Nat} {x y : T} (hx : l[k]? = some x) (hy : m[k]? = some y) (hne : x ≠ y) : l ≠ m := by
  rintro rfl
  rw [hx] at hy
  exact hne (by injection hy)
theorem ttake_next {l m : List T} {k : Nat} {x : T} (hx : l[k]? = some x) (hy : m[k]? = some x) (h : l.take k = m.take k) : l.take (k + 1) = m.take (k + 1) := by
  rw [List.take_add_one, List.take_add_one, h, hx, hy]
instance : DecidableEq T := fun a b => by
  obtain ⟨a1, a2, a3, a4⟩ := a
  obtain ⟨b1, b2, b3, b4⟩ := b
  exact decidable_of_iff (a1 = b1 ∧ a2 = b2 ∧ a3 = b3 ∧ a4 = b4) (by simp)
theorem txt_ne {a b : List UInt8} (h : a ≠ b) : ((txt a).toList == (txt b).toList) = false := by
  rw [beq_eq_false_iff_ne, Lib.toList_data, Lib.toList_data, txt_list, txt_list]; exact h

end Go.Proofs.YtciiemomfniecaaGreatDoor
/-
  The parser as it lies in memory; the contracts of what only looks at it.
-/
namespace Go.Proofs.YtciiemomfniecaaGreatDoor
set_option maxRecDepth 100000

open Go.RowKit

/-- The parser's block: the tokens that are left, how many bytes the text has, whether it is stuck. -/
def PSt (w : World) (P E : Nat) (s : S) : Prop :=
  ∃ A c, w.heap[P]? = some (.cells #[.slice A s.l.length c, .int .i64 E, .bool s.st] 116 (0, 0)) ∧ SlT w A c s.l ∧ (∀ ad, A = some ad → ad.block < P)
theorem heap_cell {w : World} {g : Nat} {cs : Array Value} {t : TypeId} {fr : Nat × Nat} (h : w.heap[g]? = some (.cells cs t fr)) (j : Nat) : w.cell? ⟨g, j, none⟩ = cs[j]? := by simp [World.cell?, h]
theorem heap_free {w : World} {g : Nat} {cs : Array Value} {t : TypeId} (h : w.heap[g]? = some (.cells cs t (0, 0))) (j : Nat) : w.frozen? ⟨g, j, none⟩ = false := by simp [World.frozen?, h]
theorem heap_setCell_same {w : World} {g j : Nat} {cs : Array Value} {t : TypeId} {fr : Nat × Nat} (h : w.heap[g]? = some (.cells cs t fr)) (v : Value) : (w.setCell ⟨g, j, none⟩ v).heap[g]? = some (.cells (cs.setIfInBounds j v) t fr) := by
  rw [setCell_eq_setRow w g j cs t fr v h]
  exact setRow_heap w g cs _ t fr h
/-- As a slice of tokens stays where no block of its own is written. -/
theorem SlT.kept {w w' : World} {A : Option Addr} {c : Nat} {l : List T} (h : SlT w A c l) (hs : w.heap.size ≤ w'.heap.size) (hb : ∀ ad, A = some ad → w'.heap[ad.block]? = w.heap[ad.block]?) : SlT w' A c l := by
  refine ⟨h.len, h.le, h.cap, h.nil, fun ad ha hn => Nat.lt_of_lt_of_le (h.old ad ha hn) hs, fun ad ha k u hu => ?_⟩
  have hk : w'.heap[(ad.add k).block]? = w.heap[(ad.add k).block]? := by rw [add_same_block]; exact hb ad ha
  exact (World.cell?_of_block hk).trans (h.cell ad ha k u hu)
theorem PSt.kept {w w' : World} {P E : Nat} {s : S} (h : PSt w P E s) (hs : w.heap.size ≤ w'.heap.size) (hb : ∀ k, k ≤ P → w'.heap[k]? = w.heap[k]?) : PSt w' P E s := by
  obtain ⟨A, c, h1, h2, h3⟩ := h
  exact ⟨A, c, (hb P (Nat.le_refl _)).trans h1, h2.kept hs (fun ad ha => hb _ (Nat.le_of_lt (h3 ad ha))), h3⟩
theorem PSt.lt {w : World} {P E : Nat} {s : S} (h : PSt w P E s) : P < w.heap.size := by
  obtain ⟨A, c, h1, _⟩ := h
  exact (Array.getElem?_eq_some_iff.1 h1).1
theorem PSt.grown {w w' : World} {P E : Nat} {s : S} {g : Nat} (h : PSt w P E s) (hg : w.grownBy w' (some g)) (hP : P < g) : PSt w' P E s :=
  h.kept hg.size (fun k hk => hg.block k (by have := h.lt; omega) (by simp; omega))
theorem PSt.alloc {w : World} {P E : Nat} {s : S} (h : PSt w P E s) (o : Obj) : PSt (w.alloc o) P E s :=
  h.kept (by simp) (fun k hk => Below.heap_alloc w o k (by have := h.lt; omega))
theorem PSt.setCell {w : World} {P E : Nat} {s : S} (h : PSt w P E s) {a : Addr} (ha : P < a.block) (v : Value) : PSt (w.setCell a v) P E s :=
  h.kept (by simp [World.setCell]) (fun k hk => Below.heap_setCell w a v k (by omega))
theorem PSt.setRow {w : World} {P E : Nat} {s : S} (h : PSt w P E s) {g : Nat} (ha : P < g) (cs : Array Value) : PSt (w.setRow g cs) P E s :=
  h.kept (by simp) (fun k hk => setRow_other w g k cs (by omega))
/-- The first token, as it lies there. -/
theorem SlT.head {w : World} {A : Option Addr} {c : Nat} {t : T} {l : List T} (h : SlT w A c (t :: l)) : ∃ ad, A = some ad ∧ w.cell? ad = some (.int .i64 t.kind) ∧ w.cell? ⟨ad.block, ad.off + 1, none⟩ = some (.string (txt t.text)) ∧
    w.cell? ⟨ad.block, ad.off + 2, none⟩ = some (.int .i64 t.num) ∧ w.cell? ⟨ad.block, ad.off + 3, none⟩ = some (.int .i64 t.at_) := by
  obtain ⟨ad, r, rfl, hb, hr, p0, p1, p2, p3⟩ := SlT.at_ h (k := 0) (by simp)
  obtain rfl : t = r := by simpa using hr
  simp only [Nat.zero_mul, add_nothing] at p0 p1 p2 p3
  exact ⟨ad, rfl, p0, p1, p2, p3⟩
theorem SlT.second {w : World} {A : Option Addr} {c : Nat} {t u : T} {l : List T} (h : SlT w A c (t :: u :: l)) : ∃ ad, A = some ad ∧ w.cell? ⟨ad.block, ad.off + 4, none⟩ = some (.int .i64 u.kind) ∧ w.cell? ⟨ad.block, ad.off + 5, none⟩ = some (.string (txt u.text)) := by
  obtain ⟨ad, r, rfl, hb, hr, p0, p1, p2, p3⟩ := SlT.at_ h (k := 1) (by simp)
  obtain rfl : u = r := by simpa using hr
  simp only [Nat.one_mul] at p0 p1
  exact ⟨ad, rfl, p0, p1⟩

theorem ret_int_pl {k : IntKind} {a b : Int} (h : a = b) : Ending.returned (.int k a) = .returned (.int k b) := by rw [h]
theorem place_any (P E : Nat) (s : S) (w : World) (h : PSt w P E s) : Calls Tryz.prog 62 #[.pointer (some ⟨P, 0, none⟩)] w fun e w' => e = .returned (.int .i64 (s.place E)) ∧ w = w' := by
  obtain ⟨A, c, hp, hl, hlt⟩ := h
  obtain ⟨l, st⟩ := s
  simp only at hp hl
  have c0 := heap_cell hp 0
  have c1 := heap_cell hp 1
  simp at c0 c1
  cases l with
  | nil =>
    have HL := Lib.hid hl
    clear hl
    go_enter Tryz.func62, Tryz.ntmps62
    go_wp2
    go_ret
    exact ⟨rfl, rfl⟩
  | cons t l =>
    obtain ⟨ad, rfl, p0, p1, p2, p3⟩ := hl.head
    have HL := Lib.hid hl
    clear hl
    have hn : (((t :: l).length : Int) == 0) = false := by simp; omega
    go_enter Tryz.func62, Tryz.ntmps62
    go_wp2
    go_ret
    exact ⟨rfl, rfl⟩
end Go.Proofs.YtciiemomfniecaaGreatDoor
/-
  What the parser sees next: the contracts.
-/
namespace Go.Proofs.YtciiemomfniecaaGreatDoor
set_option maxRecDepth 100000

open Go.RowKit

theorem is_any (P E k : Nat) (s : S) (w : World) (h : PSt w P E s) : Calls Tryz.prog 140 #[.pointer (some ⟨P, 0, none⟩), .int .i64 k] w fun e w' => e = .returned (.bool (s.is k)) ∧ w = w' := by
  obtain ⟨A, c, hp, hl, hlt⟩ := h
  obtain ⟨l, st⟩ := s
  simp only at hp hl
  have c0 := heap_cell hp 0
  have c2 := heap_cell hp 2
  simp at c0 c2
  cases st with
  | true =>
    have HL := Lib.hid hl
    clear hl
    go_enter Tryz.func140, Tryz.ntmps140
    go_wp2
    go_ret
    exact ⟨rfl, rfl⟩
  | false =>
    cases l with
    | nil =>
      have HL := Lib.hid hl
      clear hl
      go_enter Tryz.func140, Tryz.ntmps140
      go_wp2
      go_ret
      exact ⟨rfl, rfl⟩
    | cons t l =>
      obtain ⟨ad, rfl, p0, p1, p2, p3⟩ := hl.head
      have HL := Lib.hid hl
      clear hl
      have hn : decide ((0 : Int) < ((t :: l).length : Int)) = true := by simp
      have hn2 : decide (0 < (t :: l).length) = true := by simp
      have hk : S.is ⟨t :: l, false⟩ k = ((t.kind : Int) == (k : Int)) := by
        rw [Bool.eq_iff_iff]; simp [S.is]; omega
      have HK := Lib.hid hk
      clear hk
      go_enter Tryz.func140, Tryz.ntmps140
      go_wp2
      go_ret
      exact ⟨by rw [HK.out]; rfl, rfl⟩
theorem sees_any (P E k : Nat) (x : ByteArray) (s : S) (w : World) (h : PSt w P E s) : Calls Tryz.prog 115 #[.pointer (some ⟨P, 0, none⟩), .int .i64 k, .string x] w fun e w' => e = .returned (.bool (s.sees k x.data.toList)) ∧ w = w' := by
  have hi := fun w h => is_any P E k s w h
  have h0 := h
  obtain ⟨A, c, hp, hl, hlt⟩ := h
  obtain ⟨l, st⟩ := s
  simp only at hp hl
  have c0 := heap_cell hp 0
  simp at c0
  have HI := Lib.hid (hi w h0)
  clear hi
  cases hb : S.is ⟨l, st⟩ k with
  | false =>
    have HS : Hid (S.sees ⟨l, st⟩ k x.data.toList = false) := Lib.hid (by simp [S.sees, hb])
    have HL := Lib.hid hl
    have HB := Lib.hid hb
    have H0 := Lib.hid h0
    clear hl hb h0
    go_enter Tryz.func115, Tryz.ntmps115
    go_wp2_with fail
    refine HI.out.mono ?_
    rw [HB.out]
    rintro e w' ⟨rfl, rfl⟩
    go_wp2
    go_ret
    exact ⟨by rw [HS.out]; rfl, rfl⟩
  | true =>
    obtain ⟨h1, t, r, h2, h3⟩ := S.is_l hb
    simp only at h1 h2
    subst h1 h2
    obtain ⟨ad, rfl, p0, p1, p2, p3⟩ := hl.head
    have HS : Hid (S.sees ⟨t :: r, false⟩ k x.data.toList = ((txt t.text).toList == x.toList)) := Lib.hid (by
      rw [S.sees, hb, Bool.true_and, Lib.toList_data, Lib.toList_data, txt_list]; rfl)
    have HL := Lib.hid hl
    have HB := Lib.hid hb
    have H0 := Lib.hid h0
    clear hl hb h0 h3
    have hn : decide ((0 : Int) < ((t :: r).length : Int)) = true := by simp
    have hn2 : decide (0 < (t :: r).length) = true := by simp
    go_enter Tryz.func115, Tryz.ntmps115
    go_wp2_with fail
    refine HI.out.mono ?_
    rw [HB.out]
    rintro e w' ⟨rfl, rfl⟩
    go_wp2
    go_ret
    exact ⟨by rw [HS.out]; rfl, rfl⟩
theorem inside_any (P E : Nat) (s : S) (w : World) (h : PSt w P E s) : Calls Tryz.prog 144 #[.pointer (some ⟨P, 0, none⟩)] w fun e w' => e = .returned (.bool s.inside) ∧ w = w' := by
  have HI := Lib.hid (sees_any P E 3 ⟨#[125]⟩ s w h)
  obtain ⟨A, c, hp, hl, hlt⟩ := h
  have c2 := heap_cell hp 2
  simp at c2
  have HL := Lib.hid hl
  clear hl
  cases hs : s.st with
  | true =>
    have HS : Hid (s.inside = false) := Lib.hid (by simp [S.inside, hs])
    rw [hs] at c2
    clear hp
    have H2 := Lib.hid hs
    clear hs
    go_enter Tryz.func144, Tryz.ntmps144
    go_wp2
    go_ret
    exact ⟨by rw [HS.out]; rfl, rfl⟩
  | false =>
    have HS : Hid (s.inside = !(s.sees 3 [125])) := Lib.hid (by simp [S.inside, hs])
    rw [hs] at c2
    clear hp
    have H2 := Lib.hid hs
    clear hs
    go_enter Tryz.func144, Tryz.ntmps144
    go_wp2_with fail
    refine HI.out.mono ?_
    rintro e w' ⟨rfl, rfl⟩
    go_wp2
    go_ret
    exact ⟨by rw [HS.out]; rfl, rfl⟩
end Go.Proofs.YtciiemomfniecaaGreatDoor
/-
  The parser takes tokens: the contracts of what takes one, and of a name with its number.
-/
namespace Go.Proofs.YtciiemomfniecaaGreatDoor
set_option maxRecDepth 100000

open Go.RowKit

theorem map2_any (P E : Nat) (s : S) (w : World) (h : PSt w P E s) : Calls Tryz.prog 173 #[.pointer (some ⟨P, 0, none⟩)] w fun e w' => e = .returned (.bool s.map2) ∧ w = w' := by
  have HI := Lib.hid (sees_any P E 0 ⟨#[109, 97, 112]⟩ s w h)
  obtain ⟨A, c, hp, hl, hlt⟩ := h
  obtain ⟨l, st⟩ := s
  simp only at hp hl
  have c0 := heap_cell hp 0
  simp at c0
  cases hb : S.sees ⟨l, st⟩ 0 wMap with
  | false =>
    have HS : Hid (S.map2 ⟨l, st⟩ = false) := Lib.hid (by simp [S.map2, hb])
    have HL := Lib.hid hl
    have HB := Lib.hid (show S.sees ⟨l, st⟩ 0 (⟨#[109, 97, 112]⟩ : ByteArray).data.toList = false from hb)
    clear hl hb hp
    go_enter Tryz.func173, Tryz.ntmps173
    go_wp2_with fail
    refine HI.out.mono ?_
    rw [HB.out]
    rintro e w' ⟨rfl, rfl⟩
    go_wp2
    go_ret
    exact ⟨by rw [HS.out]; rfl, rfl⟩
  | true =>
    obtain ⟨h1, t, r, h2, h3⟩ := S.sees_l hb
    simp only at h1 h2
    subst h1 h2
    cases r with
    | nil =>
      have HS : Hid (S.map2 ⟨[t], false⟩ = false) := Lib.hid (by simp [S.map2])
      have HL := Lib.hid hl
      have HB := Lib.hid (show S.sees ⟨[t], false⟩ 0 (⟨#[109, 97, 112]⟩ : ByteArray).data.toList = true from hb)
      clear hl hb hp h3
      go_enter Tryz.func173, Tryz.ntmps173
      go_wp2_with fail
      refine HI.out.mono ?_
      rw [HB.out]
      rintro e w' ⟨rfl, rfl⟩
      go_wp2
      go_ret
      exact ⟨by rw [HS.out]; rfl, rfl⟩
    | cons u r =>
      obtain ⟨ad, rfl, p0, p1⟩ := hl.second
      have hm : S.map2 ⟨t :: u :: r, false⟩ = (((u.kind : Int) == 3) && ((txt u.text).toList == [60])) := by
        rw [S.map2, hb, Lib.toList_data, txt_list]
        have e : ((u.kind : Int) == 3) = (u.kind == 3) := by rw [Bool.eq_iff_iff]; simp; omega
        rw [e]
        simp
      have HL := Lib.hid hl
      have HB := Lib.hid (show S.sees ⟨t :: u :: r, false⟩ 0 (⟨#[109, 97, 112]⟩ : ByteArray).data.toList = true from hb)
      have HM := Lib.hid hm
      clear hl hb hp h3 hm
      have hn : decide ((1 : Int) < ((t :: u :: r).length : Int)) = true := by simp; omega
      have hn2 : decide (1 < (t :: u :: r).length) = true := by simp
      go_enter Tryz.func173, Tryz.ntmps173
      go_wp2_with fail
      refine HI.out.mono ?_
      rw [HB.out]
      rintro e w' ⟨rfl, rfl⟩
      cases hk : ((u.kind : Int) == 3)
      all_goals
        go_wp2
        go_ret
        exact ⟨by rw [HM.out, hk]; rfl, rfl⟩

theorem SlT.none_left {w : World} {A : Option Addr} {c : Nat} (hc : c ≤ maxLen) (hA : A = none → c = 0) : SlT w A c [] :=
  ⟨by simp [tv], Nat.zero_le _, hc, hA, by simp, by simp [tv]⟩
theorem SlT.tail {w : World} {ad : Addr} {c : Nat} {t : T} {l : List T} (h : SlT w (some ad) c (t :: l)) : SlT w (some (ad.add 4)) (c - 1) l := by
  cases l with
  | nil => exact SlT.none_left (by have := h.cap; omega) (by simp)
  | cons u l =>
    obtain ⟨ad', ha, h2⟩ := Sl.from_ (k := 1) h (by simp)
    obtain rfl := Option.some.inj ha
    simpa [SlT, tv_cons, TC] using h2
def TokE (t : T) : Value := TokV t.kind (txt t.text) t.num t.at_
theorem results_tok0 {fn : Func} {p : Tmp} (h : fn.results = #[.cell p 155]) (tmps : Array Value) (w : World) (g : Nat) (t : TypeId) (k n q : Int) (s : ByteArray) (fr : Nat × Nat)
    (hp : tmps.getD p undef = .pointer (some ⟨g, 0, none⟩)) (hg : w.heap[g]? = some (.cells #[.int .i64 k, .string s, .int .i64 n, .int .i64 q] t fr)) :
    (results fn tmps).run Tryz.prog w = .ok (.agg #[.int .i64 k, .string s, .int .i64 n, .int .i64 q]) w :=
  results_cell_row h tmps w g t _ fr _ hp hg Tryz.underlying155 rfl infoTok
theorem grown_set (w : World) (P j : Nat) (v : Value) : w.grownBy (w.setCell ⟨P, j, none⟩ v) (some P) := ⟨rfl, rfl, rfl, by simp [World.setCell], fun k _ hk => Below.heap_setCell w _ v k (by simpa using hk)⟩
theorem grown_lit {w w' : World} {row : Option Nat} (h : w.grownBy w' row) (o : Obj) : w.grownBy (w'.alloc o) row := h.trans (World.grownBy_alloc w' o row)
theorem PSt.lay {w w' : World} {P E : Nat} {s : S} {A : Option Addr} {c : Nat} (hg : w.grownBy w' (some P)) (hp : w'.heap[P]? = some (.cells #[.slice A s.l.length c, .int .i64 E, .bool s.st] 116 (0, 0))) (hl : SlT w A c s.l) (hlt : ∀ ad, A = some ad → ad.block < P) (hP : P < w.heap.size) : PSt w' P E s :=
  ⟨A, c, hp, hl.kept hg.size (fun ad ha => hg.block _ (by have := hlt ad ha; omega) (by have := hlt ad ha; simp; omega)), hlt⟩
/-- A cell behind a new block. -/
theorem up {w : World} {a : Addr} {v : Value} (h : w.cell? a = some v) (o : Obj) : (w.alloc o).cell? a = some v := (World.cell?_of_block (Below.heap_alloc w o a.block (World.block_lt_of_cell? w a h))).trans h
theorem take_no (P E : Nat) (s : S) (w : World) (h : PSt w P E s) : Calls Tryz.prog 168 #[.pointer (some ⟨P, 0, none⟩), .bool false] w fun e w' => e = .returned (TokE default) ∧ PSt w' P E (s.eat false) ∧ w.grownBy w' (some P) := by
  obtain ⟨A, c, hp, hl, hlt⟩ := h
  have hf := heap_free hp 2
  have c2 := heap_cell hp 2
  simp at c2
  have hPl := (Array.getElem?_eq_some_iff.1 hp).1
  have HL := Lib.hid hl
  have HP := Lib.hid hp
  clear hl hp
  go_enter Tryz.func168, Tryz.ntmps168
  go_wp2_with fail
  refine bodyPost_ret (results_tok0 rfl _ _ w.heap.size _ _ _ _ _ (0, 0) rfl (by have := heap_alloc_new (w.setCell ⟨P, 2, none⟩ (.bool true)) (.cells #[.int .i64 0, .string ⟨#[]⟩, .int .i64 0, .int .i64 0] 155); simpa [World.setCell] using this)) rfl ?_
  have hg : w.grownBy ((w.setCell ⟨P, 2, none⟩ (.bool true)).alloc (.cells #[.int .i64 0, .string ⟨#[]⟩, .int .i64 0, .int .i64 0] 155)) (some P) := grown_lit (grown_set w P 2 _) _
  exact ⟨rfl, PSt.lay hg ((Below.heap_alloc _ _ _ (by simpa [World.setCell] using hPl)).trans (heap_setCell_same HP.out _)) HL.out hlt hPl, hg⟩
theorem heap_first (w : World) (o o' : Obj) {g : Nat} (hg : g = w.heap.size) : ((w.alloc o).alloc o').heap[g]? = some o := by
  subst hg
  rw [Below.heap_alloc _ _ _ (by simp)]
  exact heap_alloc_new w o
theorem take_end {w : World} {P E : Nat} {t : T} {l : List T} {st : Bool} {A A' : Option Addr} {n c c' : Nat} {o o' : Obj} (hp : w.heap[P]? = some (.cells #[.slice A n c, .int .i64 E, .bool st] 116 (0, 0))) (hl : SlT w A' c' l) (hlt : ∀ ad, A' = some ad → ad.block < P) (hP : P < w.heap.size) :
    Ending.returned (.agg #[.int .i64 t.kind, .string (txt t.text), .int .i64 t.num, .int .i64 t.at_]) = .returned (TokE t) ∧ PSt (((w.setCell ⟨P, 0, none⟩ (.slice A' l.length c')).alloc o).alloc o') P E ⟨l, st⟩ ∧ w.grownBy (((w.setCell ⟨P, 0, none⟩ (.slice A' l.length c')).alloc o).alloc o') (some P) := by
  have hg : w.grownBy (((w.setCell ⟨P, 0, none⟩ (.slice A' l.length c')).alloc o).alloc o') (some P) := grown_lit (grown_lit (grown_set w P 0 _) _) _
  refine ⟨rfl, PSt.lay hg ?_ hl hlt hP, hg⟩
  rw [Below.heap_alloc _ _ _ (by simp [World.setCell]; omega), Below.heap_alloc _ _ _ (by simpa [World.setCell] using hP)]
  exact heap_setCell_same hp _
set_option maxHeartbeats 1000000 in
theorem take_yes (P E : Nat) (t : T) (l : List T) (st : Bool) (w : World) (h : PSt w P E ⟨t :: l, st⟩) : Calls Tryz.prog 168 #[.pointer (some ⟨P, 0, none⟩), .bool true] w fun e w' => e = .returned (TokE t) ∧ PSt w' P E ⟨l, st⟩ ∧ w.grownBy w' (some P) := by
  obtain ⟨A, c, hp, hl, hlt⟩ := h
  simp only at hp hl
  have hf := heap_free hp 0
  have c0 := heap_cell hp 0
  simp at c0
  obtain ⟨ad, rfl, p0, p1, p2, p3⟩ := hl.head
  have q0 := fun o => up p0 o
  have q1 := fun o => up p1 o
  have q2 := fun o => up p2 o
  have q3 := fun o => up p3 o
  have hPl := (Array.getElem?_eq_some_iff.1 hp).1
  have hle := hl.le
  have hcm := hl.cap
  have hadP := hlt ad rfl
  unfold maxLen at hcm
  simp only [List.length_cons] at hle
  have HL := Lib.hid hl
  have HP := Lib.hid hp
  clear hl hp
  go_enter Tryz.func168, Tryz.ntmps168
  go_wp2_with fail
  · have hl0 : l = [] := List.eq_nil_of_length_eq_zero (by omega)
    subst hl0
    refine bodyPost_ret (results_tok0 rfl _ _ w.heap.size _ _ _ _ _ (0, 0) rfl (heap_first _ _ _ (by simp [World.setCell]))) rfl ?_
    exact take_end (A' := some ad) (c' := 0) HP.out (SlT.none_left (by unfold maxLen; omega) (by simp)) hlt hPl
  · refine bodyPost_ret (results_tok0 rfl _ _ w.heap.size _ _ _ _ _ (0, 0) rfl (heap_first _ _ _ (by simp [World.setCell]))) rfl ?_
    refine take_end (A' := some ⟨ad.block, ad.off + 4, none⟩) (c' := c - 1) HP.out ?_ (by intro a ha; injection ha with ha; subst ha; exact hadP) hPl
    have := HL.out.tail
    simpa [Addr.add] using this
/-- One token is taken, if it fits. -/
theorem take_any (P E : Nat) (s : S) (b : Bool) (hb : b = true → s.l ≠ []) (w : World) (h : PSt w P E s) : Calls Tryz.prog 168 #[.pointer (some ⟨P, 0, none⟩), .bool b] w fun e w' => e = .returned (TokE (s.tok b)) ∧ PSt w' P E (s.eat b) ∧ w.grownBy w' (some P) := by
  obtain ⟨l, st⟩ := s
  cases b with
  | false => exact take_no P E _ w h
  | true =>
    cases l with
    | nil => exact absurd rfl (hb rfl)
    | cons t l => exact take_yes P E t l st w h
theorem fld_text (a c d : Int) (x : ByteArray) (w : World) : (Instr.field 155 (.agg #[.int .i64 a, .string x, .int .i64 c, .int .i64 d]) 1).run Tryz.prog w = .ok (.string x) w := by kernel_rfl
theorem fld_num (a c d : Int) (x : ByteArray) (w : World) : (Instr.field 155 (.agg #[.int .i64 a, .string x, .int .i64 c, .int .i64 d]) 2).run Tryz.prog w = .ok (.int .i64 c) w := by kernel_rfl
theorem name_any7 (P E : Nat) (s : S) (w : World) (h : PSt w P E s) : Calls Tryz.prog 142 #[.pointer (some ⟨P, 0, none⟩)] w fun e w' => e = .returned (.string (txt s.nameT)) ∧ PSt w' P E s.name ∧ w.grownBy w' (some P) := by
  have HI := Lib.hid (is_any P E 0 s w h)
  have HT := Lib.hid (take_any P E s (s.is 0) (fun hb => (S.is_ne hb).2) w h)
  have HX : Hid ((s.tok (s.is 0)).text = s.nameT) := Lib.hid (by unfold S.nameT S.tok; split <;> rfl)
  go_enter Tryz.func142, Tryz.ntmps142
  go_wp2_with fail
  refine HI.out.mono ?_
  rintro e w' ⟨rfl, rfl⟩
  go_wp2_with fail
  refine HT.out.mono ?_
  rintro e w' ⟨rfl, hp, hg⟩
  unfold TokE TokV
  have hf := fld_text
  go_wp2
  go_ret
  exact ⟨by rw [← HX.out]; rfl, hp, hg⟩
theorem num_any7 (P E : Nat) (s : S) (w : World) (h : PSt w P E s) : Calls Tryz.prog 169 #[.pointer (some ⟨P, 0, none⟩)] w fun e w' => e = .returned (.int .i64 s.numV) ∧ PSt w' P E s.num ∧ w.grownBy w' (some P) := by
  have HI := Lib.hid (is_any P E 1 s w h)
  have HT := Lib.hid (take_any P E s (s.is 1) (fun hb => (S.is_ne hb).2) w h)
  have HX : Hid ((s.tok (s.is 1)).num = s.numV) := Lib.hid (by unfold S.numV S.tok; split <;> rfl)
  go_enter Tryz.func169, Tryz.ntmps169
  go_wp2_with fail
  refine HI.out.mono ?_
  rintro e w' ⟨rfl, rfl⟩
  go_wp2_with fail
  refine HT.out.mono ?_
  rintro e w' ⟨rfl, hp, hg⟩
  unfold TokE TokV
  have hf := fld_num
  go_wp2
  go_ret
  exact ⟨by rw [← HX.out]; rfl, hp, hg⟩
theorem sign_any7 (P E : Nat) (s : S) (x : ByteArray) (w : World) (h : PSt w P E s) : Calls Tryz.prog 143 #[.pointer (some ⟨P, 0, none⟩), .string x] w fun e w' => e = .returned (.tuple #[]) ∧ PSt w' P E (s.sign x.data.toList) ∧ w.grownBy w' (some P) := by
  have HI := Lib.hid (sees_any P E 3 x s w h)
  have HT := Lib.hid (take_any P E s (s.sees 3 x.data.toList) (fun hb => (S.sees_ne hb).2) w h)
  go_enter Tryz.func143, Tryz.ntmps143
  go_wp2_with fail
  refine HI.out.mono ?_
  rintro e w' ⟨rfl, rfl⟩
  go_wp2_with fail
  refine HT.out.mono ?_
  rintro e w' ⟨rfl, hp, hg⟩
  go_wp2
  refine bodyPost_end (results_none rfl _ _ _) rfl ?_
  exact ⟨rfl, hp, hg⟩
theorem word_any7 (P E : Nat) (s : S) (x : ByteArray) (w : World) (h : PSt w P E s) : Calls Tryz.prog 141 #[.pointer (some ⟨P, 0, none⟩), .string x] w fun e w' => e = .returned (.tuple #[]) ∧ PSt w' P E (s.word x.data.toList) ∧ w.grownBy w' (some P) := by
  have HI := Lib.hid (sees_any P E 0 x s w h)
  have HT := Lib.hid (take_any P E s (s.sees 0 x.data.toList) (fun hb => (S.sees_ne hb).2) w h)
  go_enter Tryz.func141, Tryz.ntmps141
  go_wp2_with fail
  refine HI.out.mono ?_
  rintro e w' ⟨rfl, rfl⟩
  go_wp2_with fail
  refine HT.out.mono ?_
  rintro e w' ⟨rfl, hp, hg⟩
  go_wp2
  refine bodyPost_end (results_none rfl _ _ _) rfl ?_
  exact ⟨rfl, hp, hg⟩
/-- A name and its number. -/
theorem nbd_any7 (P E : Nat) (s : S) (w : World) (h : PSt w P E s) : Calls Tryz.prog 145 #[.pointer (some ⟨P, 0, none⟩)] w fun e w' => e = .returned (.tuple #[.string (txt s.nameT), .int .i64 s.nbdNo]) ∧ PSt w' P E s.nbd ∧ w.grownBy w' (some P) := by
  have H1 := Lib.hid (name_any7 P E s w h)
  have H2 := Lib.hid (fun w h => sign_any7 P E s.name ⟨#[61]⟩ w h)
  have H3 := Lib.hid (fun w h => num_any7 P E (s.name.sign [61]) w h)
  have H4 := Lib.hid (fun w h => sign_any7 P E (s.name.sign [61]).num ⟨#[59]⟩ w h)
  go_enter Tryz.func145, Tryz.ntmps145
  go_wp2_with fail
  refine H1.out.mono ?_
  rintro e w1 ⟨rfl, hp1, hg1⟩
  go_wp2_with fail
  refine (H2.out w1 hp1).mono ?_
  rintro e w2 ⟨rfl, hp2, hg2⟩
  go_wp2_with fail
  refine (H3.out w2 hp2).mono ?_
  rintro e w3 ⟨rfl, hp3, hg3⟩
  go_wp2_with fail
  refine (H4.out w3 hp3).mono ?_
  rintro e w4 ⟨rfl, hp4, hg4⟩
  go_wp2
  go_ret2
  exact ⟨rfl, hp4, ((hg1.trans hg2).trans hg3).trans hg4⟩
end Go.Proofs.YtciiemomfniecaaGreatDoor
/-
  A field is read: the contract.
-/
namespace Go.Proofs.YtciiemomfniecaaGreatDoor
set_option maxRecDepth 100000

open Go.RowKit

/-- A field's cells. -/
def FC (d : Fd) : List Value := [.string (txt d.type), .string (txt d.key), .bool d.rep, .int .i64 d.one, .string (txt d.name), .int .i64 d.no, .int .i64 d.at_]
def FdV (d : Fd) : Value := .agg (FC d).toArray
theorem infoFd : (Tryz.prog.info? 53).map (·.size) = some 7 := by kernel_rfl
theorem wpList_store_fd {ops : Array Oper} {rest : List Oper} {o : Oper} {a : Act} {w : World} {Q : Exit → Act → World → Prop} (hgd : o.guard = none) (x y : Operand) (ho : o.op = .store 53 x y)
    (hd : o.dst = none) (g : Nat) (b0 b1 b4 : ByteArray) (b2 : Bool) (b3 b5 b6 : Int) (u0 u1 u2 u3 u4 u5 u6 : Value) (hx : a.eval x = .pointer (some ⟨g, 0, none⟩)) (hy : a.eval y = .agg #[.string b0, .string b1, .bool b2, .int .i64 b3, .string b4, .int .i64 b5, .int .i64 b6])
    (t : TypeId) (hg : w.heap[g]? = some (.cells #[u0, u1, u2, u3, u4, u5, u6] t (0, 0)))
    (h : wpList Tryz.prog ops Q rest a (w.setRow g #[.string b0, .string b1, .bool b2, .int .i64 b3, .string b4, .int .i64 b5, .int .i64 b6])) : wpList Tryz.prog ops Q (o :: rest) a w :=
  wpList_store_rowTo hgd 53 x y ho hd g _ hx hy t _ hg infoFd rfl (by simp [Value.oneCell']) h
theorem wpList_load_fd {ops : Array Oper} {rest : List Oper} {o : Oper} {a : Act} {w : World} {Q : Exit → Act → World → Prop} (hgd : o.guard = none) (x : Operand) (ho : o.op = .load 53 x)
    (g : Nat) (u0 u1 u2 u3 u4 u5 u6 : Value) (hx : a.eval x = .pointer (some ⟨g, 0, none⟩)) (t : TypeId) (fr : Nat × Nat) (hg : w.heap[g]? = some (.cells #[u0, u1, u2, u3, u4, u5, u6] t fr))
    (h : wpList Tryz.prog ops Q rest (a.put o.dst (.agg #[u0, u1, u2, u3, u4, u5, u6])) w) : wpList Tryz.prog ops Q (o :: rest) a w :=
  wpList_load_row hgd 53 x ho g hx t _ fr _ hg Tryz.underlying53 rfl infoFd h
theorem results_fd {fn : Func} {p : Tmp} (h : fn.results = #[.cell p 53]) (tmps : Array Value) (w : World) (g : Nat) (t : TypeId) (u0 u1 u2 u3 u4 u5 u6 : Value) (fr : Nat × Nat)
    (hp : tmps.getD p undef = .pointer (some ⟨g, 0, none⟩)) (hg : w.heap[g]? = some (.cells #[u0, u1, u2, u3, u4, u5, u6] t fr)) :
    (results fn tmps).run Tryz.prog w = .ok (.agg #[u0, u1, u2, u3, u4, u5, u6]) w :=
  results_cell_row h tmps w g t _ fr _ hp hg Tryz.underlying53 rfl infoFd
/-- A block that is younger than the parser stays when the parser takes. -/
theorem stays {w w' : World} {P g : Nat} {o : Obj} (h : w.heap[g]? = some o) (hg : w.grownBy w' (some P)) (hP : P < g) : w'.heap[g]? = some o :=
  (hg.block g (Array.getElem?_eq_some_iff.1 h).1 (by simp; omega)).trans h

/-- Below block B nothing but block P has turned. -/
structure Kp (B P : Nat) (w w' : World) : Prop where
  os : w'.os = w.os
  tape : w'.tape = w.tape
  output : w'.output = w.output
  size : w.heap.size ≤ w'.heap.size
  block : ∀ k, k < B → k ≠ P → w'.heap[k]? = w.heap[k]?
theorem Kp.refl (B P : Nat) (w : World) : Kp B P w w := ⟨rfl, rfl, rfl, Nat.le_refl _, fun _ _ _ => rfl⟩
theorem Kp.trans {B P : Nat} {a b c : World} (h : Kp B P a b) (k : Kp B P b c) : Kp B P a c :=
  ⟨k.os.trans h.os, k.tape.trans h.tape, k.output.trans h.output, Nat.le_trans h.size k.size, fun i hi hp => (k.block i hi hp).trans (h.block i hi hp)⟩
theorem Kp.alloc {B P : Nat} {a w : World} (h : Kp B P a w) (hB : B ≤ w.heap.size) (o : Obj) : Kp B P a (w.alloc o) :=
  h.trans ⟨rfl, rfl, rfl, by simp, fun k hk _ => Below.heap_alloc _ _ _ (by omega)⟩
theorem Kp.setCell {B P : Nat} {a w : World} (h : Kp B P a w) {p : Addr} (hp : B ≤ p.block) (u : Value) : Kp B P a (w.setCell p u) :=
  h.trans ⟨rfl, rfl, rfl, by simp [World.setCell], fun k hk _ => Below.heap_setCell _ _ _ _ (by omega)⟩
theorem Kp.setRow {B P : Nat} {a w : World} (h : Kp B P a w) {g : Nat} (hp : B ≤ g) (cs : Array Value) : Kp B P a (w.setRow g cs) :=
  h.trans ⟨rfl, rfl, rfl, by simp, fun k hk _ => setRow_other _ _ _ _ (by omega)⟩
theorem Kp.taken {B P : Nat} {a w w' : World} (h : Kp B P a w) (hg : w.grownBy w' (some P)) (hB : B ≤ w.heap.size) : Kp B P a w' :=
  h.trans ⟨hg.os, hg.tape, hg.output, hg.size, fun k hk hp => hg.block k (by omega) (by simpa using hp)⟩
theorem Kp.grown {B P : Nat} {a w w' : World} {row : Option Nat} (h : Kp B P a w) (hg : w.grownBy w' row) (hB : B ≤ w.heap.size) (hr : ∀ k, row = some k → B ≤ k) : Kp B P a w' :=
  h.trans ⟨hg.os, hg.tape, hg.output, hg.size, fun k hk _ => hg.block k (by omega) (fun e => by have := hr k e.symm; omega)⟩
theorem Kp.drew {B P : Nat} {a w : World} (h : Kp B P a w) (n : Nat) : Kp B P a (w.drewN n) := h.trans ⟨rfl, rfl, rfl, Nat.le_refl _, fun _ _ _ => rfl⟩
theorem Kp.mono {B B' P : Nat} {a w : World} (h : Kp B P a w) (hB : B' ≤ B) : Kp B' P a w := ⟨h.os, h.tape, h.output, h.size, fun k hk hp => h.block k (by omega) hp⟩
theorem Kp.out {P : Nat} {w w' : World} (h : Kp w.heap.size P w w') : w.grownBy w' (some P) :=
  ⟨h.os, h.tape, h.output, h.size, fun k hk hp => h.block k hk (by simpa using hp)⟩
theorem heap_second (w : World) (o o' : Obj) : ((w.alloc o).alloc o').heap[w.heap.size + 1]? = some o' := by
  have := heap_alloc_new (w.alloc o) o'
  simpa using this
set_option maxHeartbeats 1000000 in
theorem field_any (P E : Nat) (s : S) (w : World) (h : PSt w P E s) : Calls Tryz.prog 193 #[.pointer (some ⟨P, 0, none⟩)] w fun e w' => e = .returned (FdV (s.fld E)) ∧ PSt w' P E s.fldS ∧ w.grownBy w' (some P) := by
  have H1 := Lib.hid (fun w h => place_any P E s w h)
  have H2 := Lib.hid (fun w h => name_any7 P E s w h)
  have H3 := Lib.hid (fun w h => nbd_any7 P E s.name w h)
  have hP := h.lt
  have HX : Hid (FdV (s.fld E) = .agg #[.string (txt s.nameT), .string ⟨#[]⟩, .bool false, .int .i64 0, .string (txt s.name.nameT), .int .i64 s.name.nbdNo, .int .i64 (s.place E)]) := Lib.hid rfl
  go_enter Tryz.func193, Tryz.ntmps193
  go_wp2_with fail
  refine (H1.out _ (h.alloc _)).mono ?_
  rintro e w1 ⟨rfl, rfl⟩
  go_wp2_with fail
  refine (H2.out _ ((h.alloc _).alloc _)).mono ?_
  rintro e w1 ⟨rfl, hp1, hg1⟩
  have hs1 := hg1.size
  simp at hs1
  have hR1 := stays (heap_first w _ _ rfl) hg1 hP
  have hB1 := stays (heap_second w _ _) hg1 (by omega)
  have c0 := heap_cell hB1 0
  have f0 := heap_free hB1 0
  simp at c0
  have HR1 := Lib.hid hR1
  have HB1 := Lib.hid hB1
  clear hR1 hB1
  go_wp2_with fail
  refine (H3.out _ (hp1.setCell (by simp; omega) _)).mono ?_
  rintro e w2 ⟨rfl, hp2, hg2⟩
  have hs2 := hg2.size
  simp [World.setCell] at hs2
  have hB2 := stays (heap_setCell_same HB1.out _) hg2 (by omega)
  have hR2 := stays ((Below.heap_setCell w1 _ _ _ (by simp)).trans HR1.out) hg2 hP
  simp at hB2
  have c4 := heap_cell hB2 4
  have f4 := heap_free hB2 4
  have c5 := heap_cell hB2 5
  have f5 := heap_free hB2 5
  simp at c4 c5
  have hB3 := fun u v => heap_setCell_same (heap_setCell_same hB2 (j := 4) u) (j := 5) v
  simp at hB3
  have hR3 := fun u v => ((Below.heap_setCell (w2.setCell ⟨w.heap.size + 1, 4, none⟩ u) ⟨w.heap.size + 1, 5, none⟩ v _ (by simp)).trans (Below.heap_setCell w2 ⟨w.heap.size + 1, 4, none⟩ u _ (by simp))).trans hR2
  have HB2 := Lib.hid hB2
  have HR2 := Lib.hid hR2
  clear hB2 hR2
  go_wp2_with (refine wpList_load_fd rfl _ rfl (w.heap.size + 1) _ _ _ _ _ _ _ rfl _ _ (hB3 _ _) ?_; refine wpList_store_fd rfl _ _ rfl rfl w.heap.size _ _ _ _ _ _ _ _ _ _ _ _ _ _ rfl rfl _ (hR3 _ _) ?_)
  refine bodyPost_ret (results_fd rfl _ _ w.heap.size _ _ _ _ _ _ _ _ (0, 0) rfl (setRow_heap _ _ _ _ _ _ (hR3 _ _))) rfl ?_
  exact ⟨by rw [HX.out], ((hp2.setCell (by simp; omega) _).setCell (by simp; omega) _).setRow hP _, (((((((Kp.refl w.heap.size P w).alloc (Nat.le_refl _) _).alloc (by simp) _).taken hg1 (by simp; omega)).setCell (by simp) _).taken hg2 (by simp [World.setCell]; omega)).setCell (by simp) _).setCell (by simp) _ |>.setRow (Nat.le_refl _) _ |>.out⟩
end Go.Proofs.YtciiemomfniecaaGreatDoor
/-
  A message as it is read: its block and its rows; items of one field: the contracts.
-/
namespace Go.Proofs.YtciiemomfniecaaGreatDoor
set_option maxRecDepth 100000

open Go.RowKit

def fdv (l : List Fd) : List Value := l.flatMap FC
def strv (l : List (List UInt8)) : List Value := l.map fun x => .string (txt x)
def intv (l : List Int) : List Value := l.map fun n => .int .i64 n
theorem fdv_append (a b : List Fd) : fdv (a ++ b) = fdv a ++ fdv b := by simp [fdv]
theorem fdv_one (d : Fd) : fdv [d] = FC d := by simp [fdv]
theorem fdv_cells (l : List Fd) : ∀ u ∈ fdv l, u.oneCell' = true := by
  intro u hu
  obtain ⟨r, _, hr⟩ := List.mem_flatMap.1 hu
  simp only [FC, List.mem_cons, List.not_mem_nil, or_false] at hr
  rcases hr with rfl | rfl | rfl | rfl | rfl | rfl | rfl <;> rfl
/-- A message under way: its block M, and its rows, which are younger. -/
def MBox (w : World) (M : Nat) (m : Ms) : Prop :=
  ∃ vF vO vR, w.heap[M]? = some (.cells #[.string (txt m.name), vF, vO, vR, .int .i64 m.at_] 51 (0, 0)) ∧ w.ownsRow (M + 1) 53 7 vF m.F.length (fdv m.F) ∧
    w.ownsRow (M + 1) 9 1 vO m.ones.length (strv m.ones) ∧ w.ownsRow (M + 1) 2 1 vR m.res.length (intv m.res)
theorem own_kept {w w' : World} {base B P : Nat} {e : TypeId} {size : Nat} {v : Value} {n : Nat} {xs : List Value} (h : w.ownsRow base e size v n xs) (hk : ∀ k, base ≤ k → k < w.heap.size → w'.heap[k]? = w.heap[k]?) : w'.ownsRow base e size v n xs := by
  rcases h with ⟨hl, ⟨rfl, rfl⟩ | ⟨g, cap, cur, rfl, h1, h2, h3⟩⟩
  · exact ⟨hl, .inl ⟨rfl, rfl⟩⟩
  · exact ⟨hl, .inr ⟨g, cap, cur, rfl, h1, (hk g h1 (Array.getElem?_eq_some_iff.1 h2).1).trans h2, h3⟩⟩
theorem infoFds : (Tryz.prog.info? 53).map (fun i => (i.zero, i.size, i.bytes)) = some (some (.agg #[.string ⟨#[]⟩, .string ⟨#[]⟩, .bool false, .int .i64 0, .string ⟨#[]⟩, .int .i64 0, .int .i64 0]), 7, 80) := by kernel_rfl

theorem PSt.drew {w : World} {P E : Nat} {s : S} (h : PSt w P E s) : PSt w.drew P E s := h.kept (Nat.le_refl _) (fun _ _ => rfl)
theorem heap_second' (w : World) (o o' : Obj) : ((w.alloc o).drew.alloc o').heap[w.heap.size + 1]? = some o' := heap_second w o o'
theorem own_apart {w : World} {b b' : Nat} {e e' : TypeId} {size size' : Nat} {v v' : Value} {n n' : Nat} {xs xs' : List Value} (h : w.ownsRow b e size v n xs) (h' : w.ownsRow b' e' size' v' n' xs') (hne : e ≠ e') : v.ownBlock = none ∨ v.ownBlock ≠ v'.ownBlock := by
  rcases h.2 with ⟨rfl, _⟩ | ⟨g, cap, cur, rfl, h1, h2, _⟩
  · exact .inl rfl
  · right
    rcases h'.2 with ⟨rfl, _⟩ | ⟨g', cap', cur', rfl, h1', h2', _⟩
    · simp [Value.ownBlock]
    · intro he
      simp only [Value.ownBlock, Option.some.injEq] at he
      subst he
      rw [h2] at h2'
      simp only [Option.some.injEq, Obj.cells.injEq] at h2'
      exact hne h2'.2.1
theorem own_set {w : World} {base : Nat} {e : TypeId} {size : Nat} {v : Value} {n : Nat} {xs : List Value} (h : w.ownsRow base e size v n xs) {a : Addr} (ha : a.block < base) (u : Value) : (w.setCell a u).ownsRow base e size v n xs := ownsRow_setCell_below h ha u
/-- What is known of a message's block and rows behind a step that lets them be. -/
structure MRow (w : World) (M : Nat) (m : Ms) (vF vO vR : Value) : Prop where
  box : w.heap[M]? = some (.cells #[.string (txt m.name), vF, vO, vR, .int .i64 m.at_] 51 (0, 0))
  f : w.ownsRow (M + 1) 53 7 vF m.F.length (fdv m.F)
  o : w.ownsRow (M + 1) 9 1 vO m.ones.length (strv m.ones)
  r : w.ownsRow (M + 1) 2 1 vR m.res.length (intv m.res)
theorem MRow.lt {w : World} {M : Nat} {m : Ms} {vF vO vR : Value} (h : MRow w M m vF vO vR) : M < w.heap.size := (Array.getElem?_eq_some_iff.1 h.box).1
theorem MBox.open_ {w : World} {M : Nat} {m : Ms} (h : MBox w M m) : ∃ vF vO vR, MRow w M m vF vO vR := by
  obtain ⟨vF, vO, vR, h1, h2, h3, h4⟩ := h
  exact ⟨vF, vO, vR, ⟨h1, h2, h3, h4⟩⟩
theorem MRow.shut {w : World} {M : Nat} {m : Ms} {vF vO vR : Value} (h : MRow w M m vF vO vR) : MBox w M m := ⟨vF, vO, vR, h.box, h.f, h.o, h.r⟩
theorem MRow.kept {w w' : World} {M : Nat} {m : Ms} {vF vO vR : Value} (h : MRow w M m vF vO vR) (hk : ∀ k, M ≤ k → k < w.heap.size → w'.heap[k]? = w.heap[k]?) : MRow w' M m vF vO vR :=
  ⟨(hk M (Nat.le_refl _) h.lt).trans h.box, own_kept (B := 0) (P := 0) h.f (fun k hk1 hk2 => hk k (by omega) hk2), own_kept (B := 0) (P := 0) h.o (fun k hk1 hk2 => hk k (by omega) hk2), own_kept (B := 0) (P := 0) h.r (fun k hk1 hk2 => hk k (by omega) hk2)⟩
theorem MRow.taken {w w' : World} {P M : Nat} {m : Ms} {vF vO vR : Value} (h : MRow w M m vF vO vR) (hg : w.grownBy w' (some P)) (hP : P < M) : MRow w' M m vF vO vR :=
  h.kept fun k hk1 hk2 => hg.block k hk2 (by simp; omega)
theorem MBox.taken {w w' : World} {P M : Nat} {m : Ms} (h : MBox w M m) (hg : w.grownBy w' (some P)) (hP : P < M) : MBox w' M m := by
  obtain ⟨vF, vO, vR, h⟩ := h.open_
  exact (h.taken hg hP).shut
theorem MRow.alloc {w : World} {M : Nat} {m : Ms} {vF vO vR : Value} (h : MRow w M m vF vO vR) (o : Obj) : MRow (w.alloc o) M m vF vO vR :=
  h.kept fun k _ hk2 => Below.heap_alloc w o k hk2
theorem MRow.drew {w : World} {M : Nat} {m : Ms} {vF vO vR : Value} (h : MRow w M m vF vO vR) : MRow w.drew M m vF vO vR := ⟨h.box, h.f, h.o, h.r⟩
theorem MBox.alloc {w : World} {M : Nat} {m : Ms} (h : MBox w M m) (o : Obj) : MBox (w.alloc o) M m := by
  obtain ⟨vF, vO, vR, h⟩ := h.open_
  exact (h.alloc o).shut
theorem own_M {w : World} {M : Nat} {e : TypeId} {size : Nat} {v : Value} {n : Nat} {xs : List Value} (h : w.ownsRow (M + 1) e size v n xs) : ∀ k, v.ownBlock = some k → M < k := fun k hk => (h.lt k hk).1
/-- A row has been appended to; then its slice is stored. -/
theorem MRow.addF {w w' : World} {M : Nat} {m : Ms} {vF vO vR v : Value} {d : Fd} (h : MRow w M m vF vO vR) (hg : w.grownBy w' vF.ownBlock) (hown : w'.ownsRow (M + 1) 53 7 v (m.F.length + 1) (fdv m.F ++ FC d)) :
    MBox (w'.setCell ⟨M, 1, none⟩ v) M (m.add d) := by
  have hb : w'.heap[M]? = _ := (hg.block M h.lt (fun e => by have := own_M h.f M e.symm; omega)).trans h.box
  refine ⟨v, vO, vR, ?_, ?_, ?_, ?_⟩
  · have := heap_setCell_same hb (j := 1) v
    simpa [Ms.add] using this
  · have := own_set hown (a := ⟨M, 1, none⟩) (by simp) v
    simpa [Ms.add, fdv_append, fdv_one] using this
  · exact own_set (h.o.kept hg (own_apart h.o h.f (by decide))) (by simp) v
  · exact own_set (h.r.kept hg (own_apart h.r h.f (by decide))) (by simp) v
theorem MRow.addO {w w' : World} {M : Nat} {m : Ms} {vF vO vR v : Value} {x : List UInt8} (h : MRow w M m vF vO vR) (hg : w.grownBy w' vO.ownBlock) (hown : w'.ownsRow (M + 1) 9 1 v (m.ones.length + 1) (strv m.ones ++ [.string (txt x)])) :
    MBox (w'.setCell ⟨M, 2, none⟩ v) M { m with ones := m.ones ++ [x] } := by
  have hb : w'.heap[M]? = _ := (hg.block M h.lt (fun e => by have := own_M h.o M e.symm; omega)).trans h.box
  refine ⟨vF, v, vR, ?_, ?_, ?_, ?_⟩
  · have := heap_setCell_same hb (j := 2) v
    simpa using this
  · exact own_set (h.f.kept hg (own_apart h.f h.o (by decide))) (by simp) v
  · have := own_set hown (a := ⟨M, 2, none⟩) (by simp) v
    simpa [strv] using this
  · exact own_set (h.r.kept hg (own_apart h.r h.o (by decide))) (by simp) v
theorem MRow.addR {w w' : World} {M : Nat} {m : Ms} {vF vO vR v : Value} {x : Int} (h : MRow w M m vF vO vR) (hg : w.grownBy w' vR.ownBlock) (hown : w'.ownsRow (M + 1) 2 1 v (m.res.length + 1) (intv m.res ++ [.int .i64 x])) :
    MBox (w'.setCell ⟨M, 3, none⟩ v) M { m with res := m.res ++ [x] } := by
  have hb : w'.heap[M]? = _ := (hg.block M h.lt (fun e => by have := own_M h.r M e.symm; omega)).trans h.box
  refine ⟨vF, vO, v, ?_, ?_, ?_, ?_⟩
  · have := heap_setCell_same hb (j := 3) v
    simpa using this
  · exact own_set (h.f.kept hg (own_apart h.f h.r (by decide))) (by simp) v
  · exact own_set (h.o.kept hg (own_apart h.o h.r (by decide))) (by simp) v
  · have := own_set hown (a := ⟨M, 3, none⟩) (by simp) v
    simpa [intv] using this
/-- The parser beside it. -/
theorem PSt.past {w w' : World} {P E M : Nat} {s : S} {e : TypeId} {size : Nat} {v0 v : Value} {n : Nat} {xs : List Value} (h : PSt w P E s) (hP : P < M) (h0 : w.ownsRow (M + 1) e size v0 n xs) (hg : w.grownBy w' v0.ownBlock) (j : Nat) : PSt (w'.setCell ⟨M, j, none⟩ v) P E s :=
  PSt.setCell (h.kept hg.size (fun k hk => hg.block k (by have := h.lt; omega) (fun e => by have := own_M h0 k e.symm; omega))) hP _
theorem Kp.past {a w w' : World} {P M : Nat} {e : TypeId} {size : Nat} {v0 v : Value} {n : Nat} {xs : List Value} (h : Kp M P a w) (hM : M ≤ w.heap.size) (h0 : w.ownsRow (M + 1) e size v0 n xs) (hg : w.grownBy w' v0.ownBlock) (j : Nat) : Kp M P a (w'.setCell ⟨M, j, none⟩ v) :=
  (h.grown hg hM (fun k hk => by have := own_M h0 k hk; omega)).setCell (Nat.le_refl _) _

set_option maxHeartbeats 1000000 in
theorem single_any (P E M : Nat) (s : S) (m : Ms) (w : World) (hp : PSt w P E s) (hm : MBox w M m) (hPM : P < M) (hn : m.F.length ≤ 100000) :
    Calls Tryz.prog 175 #[.pointer (some ⟨P, 0, none⟩), .pointer (some ⟨M, 0, none⟩)] w fun e w' => e = .returned (.tuple #[]) ∧ PSt w' P E (singleF E s m).1 ∧ MBox w' M (singleF E s m).2 ∧ Kp M P w w' := by
  obtain ⟨i0, hi, hz0, hz1, hz2⟩ := info_parts infoFds
  obtain ⟨vF, vO, vR, hr⟩ := hm.open_
  have c1 := heap_cell hr.box 1
  simp at c1
  have hM := hr.lt
  have HR := Lib.hid (show MRow w.drew M m vF vO vR from ⟨hr.box, hr.f, hr.o, hr.r⟩)
  have HK := Lib.hid (show Kp M P w w.drew from (Kp.refl M P w).drew 1)
  obtain ⟨d, hd⟩ : ∃ d, d = s.fld E := ⟨_, rfl⟩
  have h1 := field_any P E s w.drew hp.drew
  rw [← hd] at h1
  have HX : Hid (FdV d = .agg #[.string (txt d.type), .string (txt d.key), .bool d.rep, .int .i64 d.one, .string (txt d.name), .int .i64 d.no, .int .i64 d.at_]) := Lib.hid rfl
  have HS : Hid (singleF E s m = (s.fldS, m.add d)) := Lib.hid (by rw [hd]; rfl)
  have H1 := Lib.hid h1
  clear hr hd h1 hm hp
  go_enter Tryz.func175, Tryz.ntmps175
  go_wp2_with fail
  go_region_law
    (first
      | (refine step_append_lies _ rfl _ _ 47 rfl (M + 1) 53 i0 _ 7 80 Tryz.underlying47 hi hz0 hz1 hz2 rfl (by decide) vF m.F.length (fdv m.F) (by simp [Act.eval, Act.put]) (HR1.out.alloc _).f ⟨w1.heap.size, 0, none⟩ 1 1 (FC d) (by simp [Act.eval, Act.put]) rfl (World.news_of_block (heap_alloc_new _ _)) (by intro u hu; exact fdv_cells [d] u (by rw [fdv_one]; exact hu)) (by decide) (by unfold maxLen; omega) (by omega) (by simp; omega) w1.heap.size.succ (by simp) ?_; intro g3 cap3 w3 hown3 hg3 hat3 hlt3; have hb3 := (hg3.block M (HR1.out.alloc _).lt (fun e => by have := own_M HR1.out.f M e.symm; omega)).trans (HR1.out.alloc _).box; have c3 := heap_cell hb3 1; have f3 := heap_free hb3 1; simp at c3; have HB3 := Lib.hid hb3; clear hb3)
      | (go_simp; refine H1.out.mono ?_; rw [HX.out]; rintro e w1 ⟨rfl, hp1, hg1⟩; have hr1 := HR.out.taken hg1 hPM; have hk1 := HK.out.taken hg1 (by show M ≤ w.heap.size; omega); have c1' := heap_cell hr1.box 1; simp at c1'; have HR1 := Lib.hid hr1; have hM1 := hr1.lt; clear hr1))
  all_goals
    go_wp2
    refine bodyPost_end (results_none rfl _ _ _) rfl ?_
    rw [HS.out]
    exact ⟨rfl, (hp1.alloc _).past hPM (HR1.out.alloc _).f hg3 1, (HR1.out.alloc _).addF hg3 hown3, (hk1.alloc (Nat.le_of_lt hM1) _).past (by simp; omega) (HR1.out.alloc _).f hg3 1⟩

set_option maxHeartbeats 1000000 in
theorem repeated_any (P E M : Nat) (s : S) (m : Ms) (w : World) (hp : PSt w P E s) (hm : MBox w M m) (hPM : P < M) (hn : m.F.length ≤ 100000) :
    Calls Tryz.prog 170 #[.pointer (some ⟨P, 0, none⟩), .pointer (some ⟨M, 0, none⟩)] w fun e w' => e = .returned (.tuple #[]) ∧ PSt w' P E (repF E s m).1 ∧ MBox w' M (repF E s m).2 ∧ Kp M P w w' := by
  obtain ⟨i0, hi, hz0, hz1, hz2⟩ := info_parts infoFds
  obtain ⟨vF, vO, vR, hr⟩ := hm.open_
  have hM := hr.lt
  have HR := Lib.hid hr
  obtain ⟨d, hd⟩ : ∃ d, d = (s.word wRepeated).fld E := ⟨_, rfl⟩
  obtain ⟨d', hd'⟩ : ∃ d', d' = { d with rep := true, at_ := s.place E } := ⟨_, rfl⟩
  have H0 := Lib.hid (place_any P E s w hp)
  have H1 := Lib.hid (word_any7 P E s ⟨#[114, 101, 112, 101, 97, 116, 101, 100]⟩ w hp)
  have h2 := fun w h => field_any P E (s.word wRepeated) w h
  rw [← hd] at h2
  have HX : Hid (FdV d = .agg #[.string (txt d.type), .string (txt d.key), .bool d.rep, .int .i64 d.one, .string (txt d.name), .int .i64 d.no, .int .i64 d.at_]) := Lib.hid rfl
  have HC : Hid (FC d' = [.string (txt d.type), .string (txt d.key), .bool true, .int .i64 d.one, .string (txt d.name), .int .i64 d.no, .int .i64 (s.place E)]) := Lib.hid (by rw [hd']; rfl)
  have HS : Hid (repF E s m = ((s.word wRepeated).fldS, m.add d')) := Lib.hid (by rw [hd', hd]; rfl)
  have H2 := Lib.hid h2
  clear hr hd hd' h2 hm hp
  go_enter Tryz.func170, Tryz.ntmps170
  go_wp2_with fail
  refine H0.out.mono ?_
  rintro e w0 ⟨rfl, rfl⟩
  go_wp2_with fail
  refine H1.out.mono ?_
  rintro e w1 ⟨rfl, hp1, hg1⟩
  have HR1 := Lib.hid (HR.out.taken hg1 hPM)
  have hs1 := hg1.size
  go_wp2_with fail
  refine (H2.out w1 hp1).mono ?_
  rw [HX.out]
  rintro e w2 ⟨rfl, hp2, hg2⟩
  have hs2 := hg2.size
  have hr2 := HR1.out.taken hg2 hPM
  have hk2 := ((Kp.refl M P w).taken hg1 (by omega)).taken hg2 (by omega)
  have c1 := heap_cell hr2.box 1
  simp at c1
  have HR2 := Lib.hid hr2
  have hM2 := hr2.lt
  clear hr2
  go_wp2_with fail
  go_region_law
    (refine step_append_lies _ rfl _ _ 47 rfl (M + 1) 53 i0 _ 7 80 Tryz.underlying47 hi hz0 hz1 hz2 rfl (by decide) vF m.F.length (fdv m.F) (by simp [Act.eval, Act.put]) ((HR2.out.alloc _).alloc _).f ⟨w2.heap.size + 1, 0, none⟩ 1 1 (FC d') (by simp [Act.eval, Act.put]) rfl (by rw [HC.out]; exact World.news_of_block (heap_second' w2 _ _)) (by intro u hu; exact fdv_cells [d'] u (by rw [fdv_one]; exact hu)) (by decide) (by unfold maxLen; omega) (by omega) (by simp; omega) (w2.heap.size + 2) (by simp) ?_; intro g3 cap3 w3 hown3 hg3 hat3 hlt3; have hb3 := (hg3.block M ((HR2.out.alloc _).alloc _).lt (fun e => by have := own_M HR2.out.f M e.symm; omega)).trans ((HR2.out.alloc _).alloc _).box; have c3 := heap_cell hb3 1; have f3 := heap_free hb3 1; simp at c3; have HB3 := Lib.hid hb3; clear hb3)
  all_goals
    go_wp2
    refine bodyPost_end (results_none rfl _ _ _) rfl ?_
    rw [HS.out]
    exact ⟨rfl, ((hp2.alloc _).alloc _).drew.past hPM ((HR2.out.alloc _).alloc _).drew.f hg3 1, ((HR2.out.alloc _).alloc _).drew.addF hg3 hown3, (((hk2.alloc (Nat.le_of_lt hM2) _).alloc (by simp; omega) _).drew 1).past (by simp; omega) ((HR2.out.alloc _).alloc _).drew.f hg3 1⟩
end Go.Proofs.YtciiemomfniecaaGreatDoor
/-
  A map is read: the contract.
-/
namespace Go.Proofs.YtciiemomfniecaaGreatDoor
set_option maxRecDepth 100000

open Go.RowKit

theorem MRow.far {w w' : World} {P M : Nat} {m : Ms} {vF vO vR : Value} (h : MRow w M m vF vO vR) (hk : Kp w.heap.size P w w') (hP : P < M) : MRow w' M m vF vO vR :=
  h.kept fun k hk1 hk2 => hk.block k hk2 (by omega)
theorem heap_new_set (w : World) (a b : Addr) (u v : Value) (o : Obj) : ((((w.setCell a u).setCell b v).alloc o).drew).heap[w.heap.size]? = some o := by
  have := heap_alloc_new ((w.setCell a u).setCell b v) o
  simpa [World.setCell, World.drew] using this
set_option maxHeartbeats 2000000 in
theorem pairs_any (P E M : Nat) (s : S) (m : Ms) (w : World) (hp : PSt w P E s) (hm : MBox w M m) (hPM : P < M) (hn : m.F.length ≤ 100000) :
    Calls Tryz.prog 174 #[.pointer (some ⟨P, 0, none⟩), .pointer (some ⟨M, 0, none⟩)] w fun e w' => e = .returned (.tuple #[]) ∧ PSt w' P E (pairsF E s m).1 ∧ MBox w' M (pairsF E s m).2 ∧ Kp M P w w' := by
  obtain ⟨i0, hi, hz0, hz1, hz2⟩ := info_parts infoFds
  obtain ⟨vF, vO, vR, hr⟩ := hm.open_
  have hM := hr.lt
  have hPl : P < w.heap.size := by omega
  have HR := Lib.hid hr
  have HM0 := Lib.hid hm
  obtain ⟨d, hd⟩ : ∃ d : Fd, d = ⟨(mapS2 s).nameT, (mapS1 s).nameT, false, 0, (mapS3 s).nameT, (mapS3 s).nbdNo, s.place E⟩ := ⟨_, rfl⟩
  have H0 := Lib.hid (place_any P E s w hp)
  have H1 := Lib.hid (fun w h => word_any7 P E s ⟨#[109, 97, 112]⟩ w h)
  have H2 := Lib.hid (fun w h => sign_any7 P E (s.word wMap) ⟨#[60]⟩ w h)
  have H3 := Lib.hid (fun w h => name_any7 P E (mapS1 s) w h)
  have H4 := Lib.hid (fun w h => sign_any7 P E (mapS1 s).name ⟨#[44]⟩ w h)
  have H5 := Lib.hid (fun w h => name_any7 P E (mapS2 s) w h)
  have H6 := Lib.hid (fun w h => sign_any7 P E (mapS2 s).name ⟨#[62]⟩ w h)
  have H7 := Lib.hid (fun w h => nbd_any7 P E (mapS3 s) w h)
  have HC : Hid (FC d = [.string (txt (mapS2 s).nameT), .string (txt (mapS1 s).nameT), .bool false, .int .i64 0, .string (txt (mapS3 s).nameT), .int .i64 (mapS3 s).nbdNo, .int .i64 (s.place E)]) := Lib.hid (by rw [hd]; rfl)
  have HS : Hid (pairsF E s m = ((mapS3 s).nbd, m.add d)) := Lib.hid (by rw [hd]; rfl)
  have HP := Lib.hid hp
  clear hr hd hm hp
  go_enter Tryz.func174, Tryz.ntmps174
  go_wp2_with fail
  refine H0.out.mono ?_
  rintro e w0 ⟨rfl, rfl⟩
  go_wp2_with fail
  refine (H1.out _ (HP.out.alloc _)).mono ?_
  rintro e w1 ⟨rfl, hp1, hg1⟩
  have hs1 := hg1.size
  simp at hs1
  have HK1 := Lib.hid (((Kp.refl w.heap.size P w).alloc (Nat.le_refl _) _).taken hg1 (by simp))
  have HB1 := Lib.hid (stays (heap_alloc_new w _) hg1 hPl)
  clear hg1
  go_wp2_with fail
  refine (H2.out w1 hp1).mono ?_
  rintro e w2 ⟨rfl, hp2, hg2⟩
  have hs2 := hg2.size
  have HK2 := Lib.hid (HK1.out.taken hg2 (by omega))
  have HB2 := Lib.hid (stays HB1.out hg2 hPl)
  clear hg2 HK1 HB1
  go_wp2_with fail
  refine (H3.out w2 hp2).mono ?_
  rintro e w3 ⟨rfl, hp3, hg3⟩
  have hs3 := hg3.size
  have HK3 := Lib.hid (HK2.out.taken hg3 (by omega))
  have HB3 := Lib.hid (stays HB2.out hg3 hPl)
  have c1 := heap_cell HB3.out 1
  have f1 := heap_free HB3.out 1
  simp at c1
  clear hg3 HK2 HB2
  go_wp2_with fail
  refine (H4.out _ (hp3.setCell hPl _)).mono ?_
  rintro e w4 ⟨rfl, hp4, hg4⟩
  have hs4 := hg4.size
  simp [World.setCell] at hs4
  have HK4 := Lib.hid ((HK3.out.setCell (by simp) _).taken hg4 (by simp [World.setCell]; omega))
  have hb4 := stays (heap_setCell_same HB3.out _) hg4 hPl
  simp at hb4
  have HB4 := Lib.hid hb4
  clear hg4 HK3 HB3 hb4 c1 f1
  go_wp2_with fail
  refine (H5.out w4 hp4).mono ?_
  rintro e w5 ⟨rfl, hp5, hg5⟩
  have hs5 := hg5.size
  have HK5 := Lib.hid (HK4.out.taken hg5 (by omega))
  have HB5 := Lib.hid (stays HB4.out hg5 hPl)
  have c0 := heap_cell HB5.out 0
  have f0 := heap_free HB5.out 0
  simp at c0
  clear hg5 HK4 HB4
  go_wp2_with fail
  refine (H6.out _ (hp5.setCell hPl _)).mono ?_
  rintro e w6 ⟨rfl, hp6, hg6⟩
  have hs6 := hg6.size
  simp [World.setCell] at hs6
  have HK6 := Lib.hid ((HK5.out.setCell (by simp) _).taken hg6 (by simp [World.setCell]; omega))
  have hb6 := stays (heap_setCell_same HB5.out _) hg6 hPl
  simp at hb6
  have HB6 := Lib.hid hb6
  clear hg6 HK5 HB5 hb6 c0 f0
  go_wp2_with fail
  refine (H7.out w6 hp6).mono ?_
  rintro e w7 ⟨rfl, hp7, hg7⟩
  have hs7 := hg7.size
  have HK7 := Lib.hid (HK6.out.taken hg7 (by omega))
  have hb7 := stays HB6.out hg7 hPl
  have c0 := heap_cell hb7 0
  have c1 := heap_cell hb7 1
  have c2 := heap_cell hb7 2
  have c3 := heap_cell hb7 3
  have c4 := heap_cell hb7 4
  have c5 := heap_cell hb7 5
  have c6 := heap_cell hb7 6
  have f4 := heap_free hb7 4
  have f5 := heap_free hb7 5
  simp at c0 c1 c2 c3 c4 c5 c6
  have HB7 := Lib.hid hb7
  have hr7 := HR.out.far HK7.out hPM
  have cM := heap_cell hr7.box 1
  simp at cM
  have hM7 := hr7.lt
  have HR7 := Lib.hid ((HR.out.far ((HK7.out.setCell (p := ⟨w.heap.size, 4, none⟩) (by simp) (.string (txt (mapS3 s).nameT))).setCell (p := ⟨w.heap.size, 5, none⟩) (by simp) (.int .i64 (mapS3 s).nbdNo)) hPM).alloc (.cells #[.string (txt (mapS2 s).nameT), .string (txt (mapS1 s).nameT), .bool false, .int .i64 0, .string (txt (mapS3 s).nameT), .int .i64 (mapS3 s).nbdNo, .int .i64 (s.place E)] 53)).drew
  clear hg7 HK6 HB6 hb7 hr7
  go_wp2_with fail
  go_region_law
    (refine step_append_lies _ rfl _ _ 47 rfl (M + 1) 53 i0 _ 7 80 Tryz.underlying47 hi hz0 hz1 hz2 rfl (by decide) vF m.F.length (fdv m.F) (by simp [Act.eval, Act.put]) HR7.out.f ⟨w7.heap.size, 0, none⟩ 1 1 (FC d) (by simp [Act.eval, Act.put]) rfl (by rw [HC.out]; exact World.news_of_block (heap_new_set w7 _ _ _ _ _)) (by intro u hu; exact fdv_cells [d] u (by rw [fdv_one]; exact hu)) (by decide) (by unfold maxLen; omega) (by omega) (by simp [World.setCell]; omega) (w7.heap.size + 1) (by simp [World.setCell]) ?_; intro g8 cap8 w8 hown8 hg8 hat8 hlt8; have hb8 := (hg8.block M HR7.out.lt (fun e => by have := own_M HR7.out.f M e.symm; omega)).trans HR7.out.box; have cM8 := heap_cell hb8 1; have fM8 := heap_free hb8 1; simp at cM8; have HB8 := Lib.hid hb8; clear hb8)
  all_goals
    go_wp2
    refine bodyPost_end (results_none rfl _ _ _) rfl ?_
    rw [HS.out]
    exact ⟨rfl, (((hp7.setCell hPl _).setCell hPl _).alloc _).drew.past hPM HR7.out.f hg8 1, HR7.out.addF hg8 hown8, (((((HK7.out.setCell (by simp) _).setCell (by simp) _).alloc (by simp [World.setCell]; omega) _).drew 1).mono (Nat.le_of_lt hM)).past (by simp [World.setCell]; omega) HR7.out.f hg8 1⟩
end Go.Proofs.YtciiemomfniecaaGreatDoor
/-
  A oneof is read, and reserved numbers: the contracts.
-/
namespace Go.Proofs.YtciiemomfniecaaGreatDoor
set_option maxRecDepth 100000

open Go.RowKit

theorem infoStrs : (Tryz.prog.info? 9).map (fun i => (i.zero, i.size, i.bytes)) = some (some (.string ⟨#[]⟩), 1, 16) := by kernel_rfl
theorem infoI64s : (Tryz.prog.info? 2).map (fun i => (i.zero, i.size, i.bytes)) = some (some (.int .i64 0), 1, 8) := by kernel_rfl
/-- How far the parser is from its end, as it lies there. -/
def muW (w : World) (P : Nat) : Nat := match w.heap[P]? with
  | some (Obj.cells cs _ _) => (match (cs[0]? : Option Value) with | some (.slice _ n _) => n | _ => 0) + (match (cs[2]? : Option Value) with | some (.bool b) => (if b then 0 else 1) | _ => 0)
  | _ => 0
theorem PSt.mu {w : World} {P E : Nat} {s : S} (h : PSt w P E s) : muW w P = s.mu := by
  obtain ⟨A, c, h1, h2, h3⟩ := h
  simp [muW, h1, S.mu]
/-- Where the loop over a oneof's fields is. -/
def OnesRel (P E M : Nat) (w : World) (X : S × Ms) (K : Nat) (wr : World) : Prop := ∃ s m, PSt wr P E s ∧ MBox wr M m ∧ Kp M P w wr ∧ onesF E s m = X ∧ m.wt + s.mu ≤ K
theorem onesF_in (E : Nat) (s : S) (m : Ms) (h : s.inside = true) : onesF E s m = onesF E s.fldS (m.add { s.fld E with one := m.ones.length }) := by rw [onesF, dif_pos h]
theorem resF_in (s : S) (m : Ms) (h : s.sees 3 [44] = true) : resF s m = resF (s.sign [44]).num { m with res := m.res ++ [(s.sign [44]).numV] } := by rw [resF, dif_pos h]
theorem wt_le (m : Ms) : m.F.length ≤ m.wt ∧ m.ones.length ≤ m.wt ∧ m.res.length ≤ m.wt := by unfold Ms.wt; omega

/-- Where the loop over reserved numbers is. -/
def ResRel (P E M : Nat) (w : World) (X : S × Ms) (K : Nat) (wr : World) : Prop := ∃ s m, PSt wr P E s ∧ MBox wr M m ∧ Kp M P w wr ∧ resF s m = X ∧ m.wt + s.mu ≤ K
set_option maxHeartbeats 2000000 in
theorem oneof_any (P E M : Nat) (s : S) (m : Ms) (w : World) (hp : PSt w P E s) (hm : MBox w M m) (hPM : P < M) (hst : s.st = false) (hn : m.wt + s.mu ≤ 100000) :
    Calls Tryz.prog 171 #[.pointer (some ⟨P, 0, none⟩), .pointer (some ⟨M, 0, none⟩)] w fun e w' => e = .returned (.tuple #[]) ∧ PSt w' P E (oneofF E s m).1 ∧ MBox w' M (oneofF E s m).2 ∧ Kp M P w w' := by
  obtain ⟨i0, hi, hz0, hz1, hz2⟩ := info_parts infoFds
  obtain ⟨j0, hj, hy0, hy1, hy2⟩ := info_parts infoStrs
  obtain ⟨vF, vO, vR, hr⟩ := hm.open_
  have hM := hr.lt
  have hPl : P < w.heap.size := by omega
  have HR := Lib.hid hr
  have hmu1 := oneofS_mu s hst
  have hwt1 := oneofM_wt s m
  have hwl := wt_le m
  have H1 := Lib.hid (word_any7 P E s ⟨#[111, 110, 101, 111, 102]⟩ w hp)
  have H2 := Lib.hid (fun w h => name_any7 P E (s.word wOneof) w h)
  have H3 := Lib.hid (fun w h => sign_any7 P E (s.word wOneof).name ⟨#[123]⟩ w h)
  have HS : Hid (oneofF E s m = ((onesF E (oneofS s) (oneofM s m)).1.sign [125], (onesF E (oneofS s) (oneofM s m)).2)) := Lib.hid rfl
  have HM : Hid (oneofM s m = { m with ones := m.ones ++ [(s.word wOneof).nameT] }) := Lib.hid rfl
  have HMU := Lib.hid hmu1
  have HWT := Lib.hid hwt1
  obtain ⟨x, hx⟩ : ∃ x, x = (s.word wOneof).nameT := ⟨_, rfl⟩
  rw [← hx] at H2 HM
  clear hr hm hp hmu1 hwt1 hst hx
  go_enter Tryz.func171, Tryz.ntmps171
  go_wp2_with fail
  refine H1.out.mono ?_
  rintro e w1 ⟨rfl, hp1, hg1⟩
  have hs1 := hg1.size
  have hr1 := HR.out.taken hg1 hPM
  have hk1 := (Kp.refl M P w).taken hg1 (by omega)
  have c1 := heap_cell hr1.box 2
  simp at c1
  have HR1 := Lib.hid hr1.drew
  have HK1 := Lib.hid (hk1.drew 1)
  have hM1 := hr1.lt
  clear hr1 hk1
  go_wp2_with fail
  go_region_law
    (first
      | (refine step_append_lies _ rfl _ _ 48 rfl (M + 1) 9 j0 _ 1 16 Tryz.underlying48 hj hy0 hy1 hy2 rfl (by decide) vO m.ones.length (strv m.ones) (by simp [Act.eval, Act.put]) (HR2.out.alloc _).o ⟨w2.heap.size, 0, none⟩ 1 1 [.string (txt x)] (by simp [Act.eval, Act.put]) rfl (World.news_of_block (heap_alloc_new _ _)) (by intro u hu; rw [List.mem_singleton.1 hu]; rfl) (by decide) (by unfold maxLen; omega) (by omega) (by simp; omega) w2.heap.size.succ (by simp) ?_; intro g3 cap3 w3 hown3 hg3 hat3 hlt3; have hb3 := (hg3.block M (HR2.out.alloc _).lt (fun e => by have := own_M HR2.out.o M e.symm; omega)).trans (HR2.out.alloc _).box; have c3 := heap_cell hb3 2; have f3 := heap_free hb3 2; simp at c3; have HB3 := Lib.hid hb3; clear hb3)
      | (go_simp; refine (H2.out _ hp1.drew).mono ?_; rintro e w2 ⟨rfl, hp2, hg2⟩; have hs2 : w1.heap.size ≤ w2.heap.size := hg2.size; have hr2 := HR1.out.taken hg2 hPM; have hk2 := HK1.out.taken hg2 (by show M ≤ w1.heap.size; omega); have c2 := heap_cell hr2.box 2; simp at c2; have HR2 := Lib.hid hr2; have HK2 := Lib.hid hk2; have hM2 := hr2.lt; clear hr2 hk2))
  all_goals
    have hsz3 := hg3.size
    simp at hsz3
    have hp3 := (hp2.alloc (.cells #[.string (txt x)] 9)).past (v := .slice (some ⟨g3, 0, none⟩) (m.ones.length + 1) cap3) hPM (HR2.out.alloc _).o hg3 2
    have hm3 := (HR2.out.alloc (.cells #[.string (txt x)] 9)).addO hg3 hown3
    have HK3 := Lib.hid ((HK2.out.alloc (Nat.le_of_lt hM2) (.cells #[.string (txt x)] 9)).past (v := .slice (some ⟨g3, 0, none⟩) (m.ones.length + 1) cap3) (by simp; omega) (HR2.out.alloc _).o hg3 2)
    rw [← HM.out] at hm3
    have HM3 := Lib.hid hm3
    clear hm3
    go_wp2_with fail
    refine (H3.out _ hp3).mono ?_
    rintro e w4 ⟨rfl, hp4, hg4⟩
    have hs4 := hg4.size
    simp [World.setCell] at hs4
    have HK4 := Lib.hid (HK3.out.taken hg4 (by simp [World.setCell]; omega))
    have HM4 := Lib.hid (HM3.out.taken hg4 hPM)
    have HS4 : Hid (PSt w4 P E (oneofS s)) := Lib.hid hp4
    generalize hX : onesF E (oneofS s) (oneofM s m) = X at *
    have HX := Lib.hid hX
    clear hX
    go_wp2
    go_loopw [4] (fun _ wr => OnesRel P E M w X 100000 wr) (fun _ wr => muW wr P)
    case atStart => exact ⟨oneofS s, oneofM s m, HS4.out, HM4.out, HK4.out, HX.out, by have := HMU.out; have := HWT.out; omega⟩
    case round =>
      obtain ⟨s5, m5, hp5, hm5, hk5, hx5, hw5⟩ := hrel
      have HX5 := Lib.hid hx5
      have HM5 := Lib.hid hm5
      have HK5 := Lib.hid hk5
      have HP5 := Lib.hid hp5
      have hmu5 := hp5.mu
      have hI := inside_any P E s5 _ hp5
      clear hx5 hm5 hk5 hp5
      cases hin : s5.inside
      · rw [hin] at hI
        have HI := Lib.hid hI
        have HE : Hid (X = (s5, m5)) := Lib.hid (by rw [← HX5.out, onesF, dif_neg (by rw [hin]; decide)])
        clear hI hin
        have HMU5 := Lib.hid hmu5
        clear hmu5
        go_wp2_with fail
        refine HI.out.mono ?_
        rintro e w6 ⟨rfl, rfl⟩
        go_wp2_with fail
        refine (sign_any7 P E s5 ⟨#[125]⟩ _ HP5.out).mono ?_
        rintro e w7 ⟨rfl, hp7, hg7⟩
        have hM7 := HM5.out.taken hg7 hPM
        have hk7 := HK5.out.taken hg7 (by have := HK5.out.size; omega)
        go_wp2
        refine bodyPost_end (results_none rfl _ _ _) rfl ?_
        rw [HS.out, HE.out]
        exact ⟨rfl, hp7, hM7, hk7⟩
      · rw [hin] at hI
        have HI := Lib.hid hI
        have HIN := Lib.hid hin
        clear hI hin
        have HMU5 := Lib.hid hmu5
        clear hmu5
        go_wp2_with fail
        refine HI.out.mono ?_
        rintro e w6 ⟨rfl, rfl⟩
        go_wp2_with fail
        have h6 := field_any P E s5 wr HP5.out
        have hM5 := HM5.out.taken (P := P) (w' := wr) ⟨rfl, rfl, rfl, Nat.le_refl _, fun _ _ _ => rfl⟩ hPM
        obtain ⟨d, hd⟩ : ∃ d, d = s5.fld E := ⟨_, rfl⟩
        rw [← hd] at h6
        have HD := Lib.hid hd
        have HX6 : Hid (FdV d = .agg #[.string (txt d.type), .string (txt d.key), .bool d.rep, .int .i64 d.one, .string (txt d.name), .int .i64 d.no, .int .i64 d.at_]) := Lib.hid rfl
        refine h6.mono ?_
        rw [HX6.out]
        rintro e w7 ⟨rfl, hp7, hg7⟩
        obtain ⟨wF, wO, wR, hr7⟩ := (hM5.taken hg7 hPM).open_
        have hs7 := hg7.size
        have hk7 := HK5.out.taken hg7 (by have := HK5.out.size; omega)
        obtain ⟨A7, q7, rfl, -⟩ := Sl.of_own hr7.o
        have c7 := heap_cell hr7.box 2
        have e7 := heap_cell hr7.box 1
        simp at c7 e7
        have HR7 := Lib.hid hr7
        have HK7 := Lib.hid hk7
        have hM7 := hr7.lt
        obtain ⟨d', hd'⟩ : ∃ d', d' = { d with one := m5.ones.length } := ⟨_, rfl⟩
        have HC : Hid (FC d' = [.string (txt d.type), .string (txt d.key), .bool d.rep, .int .i64 m5.ones.length, .string (txt d.name), .int .i64 d.no, .int .i64 d.at_]) := Lib.hid (by rw [hd']; rfl)
        have HN : Hid (onesF E s5.fldS (m5.add d') = X) := Lib.hid (by rw [← HX5.out, onesF_in E s5 m5 HIN.out, hd', hd])
        have hmu7 := (S.fldS_mu s5).2 (S.inside_st HIN.out)
        have hwl5 := (wt_le m5).1
        have hwd5 := Ms.add_wt m5 d'
        have HWD5 := Lib.hid hwd5
        clear hr7 hk7 hd hd' h6 hM5 hwd5
        go_wp2_with fail
        go_region_law
          (refine step_append_lies _ rfl _ _ 47 rfl (M + 1) 53 i0 _ 7 80 Tryz.underlying47 hi hz0 hz1 hz2 rfl (by decide) wF m5.F.length (fdv m5.F) (by simp [Act.eval, Act.put]) ((HR7.out.alloc _).alloc _).f ⟨w7.heap.size + 1, 0, none⟩ 1 1 (FC d') (by simp [Act.eval, Act.put]) rfl (by rw [HC.out]; exact World.news_of_block (heap_second' w7 _ _)) (by intro u hu; exact fdv_cells [d'] u (by rw [fdv_one]; exact hu)) (by decide) (by unfold maxLen; omega) (by omega) (by simp; omega) (w7.heap.size + 2) (by simp) ?_; intro g8 cap8 w8 hown8 hg8 hat8 hlt8; have hb8 := (hg8.block M ((HR7.out.alloc _).alloc _).lt (fun e => by have := own_M HR7.out.f M e.symm; omega)).trans ((HR7.out.alloc _).alloc _).box; have c8 := heap_cell hb8 1; have f8 := heap_free hb8 1; simp at c8; have HB8 := Lib.hid hb8; clear hb8)
        all_goals
          have hp9 := ((hp7.alloc (.cells #[.string (txt d.type), .string (txt d.key), .bool d.rep, .int .i64 m5.ones.length, .string (txt d.name), .int .i64 d.no, .int .i64 d.at_] 53)).alloc (.cells #[.string (txt d.type), .string (txt d.key), .bool d.rep, .int .i64 m5.ones.length, .string (txt d.name), .int .i64 d.no, .int .i64 d.at_] 53)).drew.past (v := .slice (some ⟨g8, 0, none⟩) (m5.F.length + 1) cap8) hPM ((HR7.out.alloc _).alloc _).drew.f hg8 1
          go_wp2
          refine ⟨⟨s5.fldS, m5.add d', hp9, ((HR7.out.alloc _).alloc _).drew.addF hg8 hown8, (((HK7.out.alloc (Nat.le_of_lt hM7) _).alloc (by simp; omega) _).drew 1).past (by simp; omega) ((HR7.out.alloc _).alloc _).drew.f hg8 1, HN.out, by have := HWD5.out; omega⟩, ?_⟩
          rw [hp9.mu, HMU5.out]
          omega
end Go.Proofs.YtciiemomfniecaaGreatDoor
