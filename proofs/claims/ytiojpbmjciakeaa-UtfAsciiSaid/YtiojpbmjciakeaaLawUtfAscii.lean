/-
  Bytes below 128 are fine, wherever they stand; one from 245 on, or 192, or 193, never is: the statement UtfAscii, for every slice of bytes, place and byte.
-/
import Derived.Test.YtiojpbmjciakeaaUtfLess
import Derived.Test.YtiojpbmjciakeaaVarMath
namespace Go.Proofs.Ytiojpbmjciakeaa.lawUtfAscii
open Go.ChangeShapes Go.WideShapes Go.ChangeAt Go.RowKit

def low (l : List UInt8) : List UInt8 := l.map fun b => UInt8.ofNat (b.toNat % 128)
theorem low_length (l : List UInt8) : (low l).length = l.length := by simp [low]
theorem low_snoc (l : List UInt8) {k : Nat} {b : UInt8} (h : l[k]? = some b) : low (l.take (k + 1)) = low (l.take k) ++ [UInt8.ofNat (b.toNat % 128)] := by
  unfold low
  rw [List.take_add_one, h]
  simp
theorem low_first (l : List UInt8) : first (low l) = (low l).length := by
  refine first_low _ fun b hb => ?_
  obtain ⟨c, _, rfl⟩ := List.mem_map.1 hb
  rw [ofNat_toNat (by omega)]
  omega
theorem own_slice {w : World} {base : Nat} {e : TypeId} {size : Nat} {v : Value} {n : Nat} {xs : List Value} (h : w.ownsRow base e size v n xs) (hn : 0 < n) (hs : 0 < size) : ∃ g cap, v = .slice (some ⟨g, 0, none⟩) n cap ∧ base ≤ g := by
  rcases h.2 with ⟨rfl, rfl⟩ | ⟨g, cap, cur, rfl, hb, _⟩
  · have := h.1
    simp at this
    omega
  · exact ⟨g, cap, rfl, hb⟩
theorem bs_set (l : List UInt8) (i n : Nat) (hn : n < 256) : (bs l).set i (.int .u8 (n : Int)) = bs (l.set i (UInt8.ofNat n)) := by
  unfold bs
  rw [List.map_set]
  unfold BV
  rw [ofNat_toNat hn]
theorem first_set {l : List UInt8} {i n : Nat} (hi : i < l.length) (hn : n < 256) (hb : badN n) : first (l.set i (UInt8.ofNat n)) ≤ i := by
  refine first_bad (by rw [List.length_set]; exact hi) ?_
  unfold by'
  rw [List.getD_eq_getElem?_getD, List.getElem?_set_self hi, Option.getD_some, ofNat_toNat hn]
  exact hb
theorem fine_whole (l : List UInt8) : fineB l 0 (l.length : Int) = (first l == l.length) := by
  unfold fineB
  rw [decide_eq_true (by omega), Bool.true_and]
  simp

def LowRel (w : World) (l : List UInt8) (i : Value) (w' : World) : Prop :=
  ∃ k : Nat, i = .int .i64 k ∧ k ≤ l.length ∧ w'.ownsRow w.heap.size 5 1 (.slice (some ⟨w.heap.size, 0, none⟩) l.length l.length) l.length (bs (low (l.take k) ++ List.replicate (l.length - k) 0)) ∧ Below w.heap.size w w'

set_option maxRecDepth 100000 in
set_option maxHeartbeats 1000000 in
theorem walk (w : World) (A : Option Addr) (c : Nat) (l : List UInt8) (hr : SlB w A c l) (a : Int) (ha1 : -9223372036854775808 ≤ a) (ha2 : a ≤ 9223372036854775807) (x : Nat) (hx : x < 256) :
    Calls Try.prog 5 #[.slice A l.length c, .int .i64 a, .int .u8 x] w fun e w' => e = .returned (.bool true) ∧ Below w.heap.size w w' := by
  have hml := hr.small.1
  obtain ⟨i0, hi, hz0, hz1, hz2⟩ := info_parts info_u8
  by_cases h1 : l.length ≤ 3000
  · by_cases h2 : 0 ≤ a
    · by_cases h3 : a < l.length
      · obtain ⟨i, rfl⟩ := Int.eq_ofNat_of_zero_le h2
        have hil : i < l.length := by omega
        have d0 : decide ((i : Int) < 0) = false := by simp
        have d1 : decide (l.length ≤ i) = false := by simp; omega
        go_enter Try.func5, Try.ntmps5
        go_wp2_with fail
        refine (awake_any _).mono ?_
        rintro e w1 ⟨rfl, hb1⟩
        have hr1 := hr.on hb1
        clear hr
        go_wp2_with (at_make; refine wpList_make_full _ rfl _ _ 22 rfl w1.heap.size 5 i0 (.int .u8 0) 1 Try.underlying22 hi hz0 hz1 .i64 .i64 _ _ l.length rfl rfl rfl rfl (by rw [hz2]; omega) (by unfold maxLen; omega) (Nat.le_refl _) ?_; intro w2 hown0 hgrow0)
        go_loopw [9] (fun i wr => LowRel w1 l i wr) (fun i _ => l.length - (intOf i).toNat)
        case atStart =>
          refine ⟨0, rfl, by omega, ?_, (Below.refl _ _).grown hgrow0 (Nat.le_refl _) (by simp)⟩
          have e : (madeCells (Value.int IntKind.u8 0).cells (l.length * 1)).toList = bs (low (l.take 0) ++ List.replicate (l.length - 0) 0) := by
            rw [show (Value.int IntKind.u8 0).cells = #[Value.int IntKind.u8 0] from rfl, toList_madeCells_one]
            simp [bs, low, BV]
          rw [← e]; exact hown0
        case round =>
          obtain ⟨k, rfl, hk, hown, hb⟩ := hrel
          by_cases hlt : k < l.length
          · obtain ⟨ad, x0, rfl, hold, hx0, hc⟩ := hr1.at_ hlt
            have hc' := hb.cell (p := ad.add k) (by rw [add_same_block]; exact hold)
            rw [hc] at hc'
            have hsn := low_snoc l hx0
            have hcell : wr.cell? ⟨w1.heap.size, k, none⟩ = some (BV 0) := by
              rw [hown.cellAt k (by omega), bs_get, List.getElem?_append_right (by rw [low_length, List.length_take]; omega), low_length, List.length_take]
              simp [show k - min k l.length = 0 by omega, show 0 < l.length - k by omega]
            have hfz := hown.frozenAt k
            have hst := hown.stored k (.int .u8 ((x0.toNat : Int) % 128))
            have hx0l := x0.toNat_lt
            have he : (bs (low (l.take k) ++ List.replicate (l.length - k) 0)).set k (.int .u8 ((x0.toNat : Int) % 128)) = bs (low (l.take (k + 1)) ++ List.replicate (l.length - (k + 1)) 0) := by
              rw [hsn, show l.length - k = (l.length - (k + 1)) + 1 by omega, List.replicate_succ]
              simp only [bs, List.map_append, List.map_cons, List.append_assoc]
              rw [List.set_append_right _ _ (by simp [low_length]; omega)]
              simp only [List.length_map, low_length, List.length_take, show k - min k l.length = 0 by omega, List.set_cons_zero, List.map_nil, List.cons_append, List.nil_append]
              congr 2
              unfold BV
              rw [ofNat_toNat (by omega)]
              congr 1
            have HE := Lib.hid he
            have HST := Lib.hid hst
            clear he hst hown0 hown hx0 hsn hc
            go_wp2
            exact ⟨⟨k + 1, by go_num, by omega, by rw [← HE.out]; exact HST.out.1, hb.setCell (by simp) _⟩, by simp [intOf]; omega⟩
          · obtain rfl : k = l.length := by omega
            clear hown0
            have hown' : wr.ownsRow w1.heap.size 5 1 (.slice (some ⟨w1.heap.size, 0, none⟩) (low l).length (low l).length) (low l).length (bs (low l)) := by
              rw [low_length]; simpa using hown
            have HL := Lib.hid (low_length l)
            have hrl : SlB wr (some ⟨w1.heap.size, 0, none⟩) (low l).length (low l) := by
              obtain ⟨A9, c9, hv9, hr9⟩ := SlB.of_own hown'
              obtain ⟨rfl, _, rfl⟩ := Value.slice.inj hv9
              exact hr9
            have H1 := fine_any _ _ (low l) (by rw [HL.out]; omega) 0 (low l).length wr hrl
            rw [fine_whole, low_first, HL.out, beq_self_eq_true] at H1
            have HH1 := Lib.hid H1
            have hr2 := hr1.on hb
            have HX11 : Hid ((245 : Int) + (x : Int) % 11 = ((245 + x % 11 : Nat) : Int)) := Lib.hid (by omega)
            have HX2 : Hid ((192 : Int) + (x : Int) % 2 = ((192 + x % 2 : Nat) : Int)) := Lib.hid (by omega)
            have HD1 := Lib.hid (first_set (l := l) (i := i) (n := 245 + x % 11) hil (by omega) (Or.inl (by omega)))
            have HE1 := Lib.hid (first_set (l := l) (i := i) (n := 192 + x % 2) hil (by omega) (by unfold badN; omega))
            clear H1 hown hown' hrl hr1
            go_wp2_with fail
            refine (HH1.out).mono ?_
            rintro e w5 ⟨rfl, hb5⟩
            have hr5 := hr2.on hb5
            clear hr2
            have HBS := Lib.hid (bs_set l i (245 + x % 11) (by omega))
            have HBE := Lib.hid (bs_set l i (192 + x % 2) (by omega))
            obtain ⟨bi, hbi⟩ : ∃ bi, (bs l)[i]? = some bi := ⟨_, List.getElem?_eq_getElem (by rw [bs_length]; exact hil)⟩
            have HBI := Lib.hid hbi
            have hb15 := below_then (below_then hb1 hb) hb5
            clear hbi
            go_wp2_with (first
              | (at_builtin; have hz := hown6; refine wpList_app_sl rfl _ _ 22 rfl (w6.setCell ⟨g6, i, none⟩ (.int .u8 (245 + (x : Int) % 11))).heap.size 5 i0 (.int .u8 0) 1 1 Try.underlying22 hi hz0 hz1 hz2 rfl (by omega) (.slice none 0 0) 0 [] rfl (World.ownsRow_nil _ _ _ _) A l.length c (bs l) rfl (hr5.on (hb6.setCell hg6b _)) (bs_one l) (by unfold maxLen; omega) (by omega) (Nat.le_refl _) ?_; intro v3 w7 hown7 hg7; obtain ⟨g7, c7, rfl, hg7b⟩ := own_slice hown7 (by omega) (by omega); have hc7 := (hown7.cellAt i (by omega)).trans HBI.out; have hf7 := hown7.frozenAt i)
              | (at_builtin; refine wpList_app_sl rfl _ _ 22 rfl w5.heap.size 5 i0 (.int .u8 0) 1 1 Try.underlying22 hi hz0 hz1 hz2 rfl (by omega) (.slice none 0 0) 0 [] rfl (World.ownsRow_nil _ _ _ _) A l.length c (bs l) rfl hr5 (bs_one l) (by unfold maxLen; omega) (by omega) (Nat.le_refl _) ?_; intro v2 w6 hown6 hg6; obtain ⟨g6, c6, rfl, hg6b⟩ := own_slice hown6 (by omega) (by omega); have hc6 := (hown6.cellAt i (by omega)).trans HBI.out; have hf6 := hown6.frozenAt i; have hb6 : Below w5.heap.size w5 w6 := (Below.refl _ _).grown hg6 (Nat.le_refl _) (by intro k hk; cases hk)))
            have hd6 := (hown6.stored i (.int .u8 (245 + (x : Int) % 11))).1
            have he7 := (hown7.stored i (.int .u8 (192 + (x : Int) % 2))).1
            have hgz : g6 < w6.heap.size := by
              rcases hown6.2 with ⟨h, _⟩ | ⟨g, cap, cur, h, _, hh, _⟩
              · cases h
              · obtain ⟨h, _, _⟩ := Value.slice.inj h
                obtain rfl : g6 = g := by simpa using h
                exact (Array.getElem?_eq_some_iff.1 hh).1
            have hb67 : Below (w6.setCell ⟨g6, i, none⟩ (.int .u8 (245 + (x : Int) % 11))).heap.size (w6.setCell ⟨g6, i, none⟩ (.int .u8 (245 + (x : Int) % 11))) w7 := (Below.refl _ _).grown hg7 (Nat.le_refl _) (by intro k hk; cases hk)
            have hb77 := hb67.setCell (p := ⟨g7, i, none⟩) hg7b (.int .u8 (192 + (x : Int) % 2))
            have hb57 := below_then (hb6.setCell (p := ⟨g6, i, none⟩) hg6b (.int .u8 (245 + (x : Int) % 11))) hb77
            simp only [List.nil_append, HX11.out, HX2.out, HBS.out, HBE.out] at hd6 he7
            obtain ⟨D, hD⟩ : ∃ D, D = l.set i (UInt8.ofNat (245 + x % 11)) := ⟨_, rfl⟩
            obtain ⟨E, hE⟩ : ∃ E, E = l.set i (UInt8.ofNat (192 + x % 2)) := ⟨_, rfl⟩
            have hDl : D.length = l.length := by rw [hD, List.length_set]
            have hEl : E.length = l.length := by rw [hE, List.length_set]
            rw [← hD] at hd6 HD1
            rw [← hE] at he7 HE1
            rw [Nat.zero_add, ← hDl] at hd6
            rw [Nat.zero_add, ← hEl] at he7
            have hrd : SlB (w6.setCell ⟨g6, i, none⟩ (.int .u8 ((245 + x % 11 : Nat) : Int))) (some ⟨g6, 0, none⟩) c6 D := by
              obtain ⟨A9, c9, hv9, hr9⟩ := SlB.of_own hd6
              obtain ⟨rfl, _, rfl⟩ := Value.slice.inj hv9
              exact hr9
            have hre : SlB (w7.setCell ⟨g7, i, none⟩ (.int .u8 ((192 + x % 2 : Nat) : Int))) (some ⟨g7, 0, none⟩) c7 E := by
              obtain ⟨A9, c9, hv9, hr9⟩ := SlB.of_own he7
              obtain ⟨rfl, _, rfl⟩ := Value.slice.inj hv9
              exact hr9
            rw [← HX11.out] at hrd
            rw [← HX2.out] at hre
            have hrd := hrd.on hb77
            have HFD := Lib.hid (fine_any _ _ D (by omega) 0 D.length _ hrd)
            rw [fine_whole, show (first D == D.length) = false by rw [beq_eq_false_iff_ne]; have := HD1.out; omega, hDl] at HFD
            have HGD := fun W (h : Below _ _ W) => fine_any _ _ E (by omega) 0 E.length W (hre.on h)
            rw [fine_whole, show (first E == E.length) = false by rw [beq_eq_false_iff_ne]; have := HE1.out; omega, hEl] at HGD
            have HGD := Lib.hid HGD
            have HFI := fun W (h : Below _ _ W) => first_any _ _ D (by omega) W (hrd.on h)
            rw [hDl] at HFI
            have HFI := Lib.hid HFI
            have hfd : first D ≤ i := HD1.out
            have d5 : decide ((first D : Int) ≤ (i : Int)) = true := by simp; omega
            have d6 : decide (first D ≤ i) = true := by simp; omega
            clear hD hE hDl hEl hd6 he7 hc6 hf6 hc7 hf7 hown6 hown7
            refine (HFD.out).mono ?_
            rintro e w8 ⟨rfl, hb8⟩
            go_wp2_with fail
            refine (HGD.out _ hb8).mono ?_
            rintro e w9 ⟨rfl, hb9⟩
            go_wp2_with fail
            refine (HFI.out _ (below_then hb8 hb9)).mono ?_
            rintro e w10 ⟨rfl, hb10⟩
            go_wp2
            go_ret
            exact ⟨rfl, below_then (below_then (below_then (below_then hb15 hb57) hb8) hb9) hb10⟩
      · have d0 : decide (a < 0) = false := by simp; omega
        have d3 : decide ((l.length : Int) ≤ a) = true := by simp; omega
        go_enter Try.func5, Try.ntmps5
        go_wp2_with fail
        refine (awake_any _).mono ?_
        rintro e w1 ⟨rfl, hb1⟩
        go_wp2
        go_ret
        exact ⟨rfl, hb1⟩
    · have d0 : decide (a < 0) = true := by simp; omega
      go_enter Try.func5, Try.ntmps5
      go_wp2_with fail
      refine (awake_any _).mono ?_
      rintro e w1 ⟨rfl, hb1⟩
      go_wp2
      go_ret
      exact ⟨rfl, hb1⟩
  · have d3 : decide ((3000 : Int) < l.length) = true := by simp; omega
    go_enter Try.func5, Try.ntmps5
    go_wp2_with fail
    refine (awake_any _).mono ?_
    rintro e w1 ⟨rfl, hb1⟩
    go_wp2
    go_ret
    exact ⟨rfl, hb1⟩

set_option maxRecDepth 100000 in
theorem lifted (os : Os) (started : os.Started) (H : Type) (enc : TypeId × Value → H) :
    ReturnsInHanded {} Try.checked os 5 .any (Rows.utfAsciiSpec.pre6 enc Try.prog Try.f5 Rows.utfAsciiRow.domain false) (Rows.utfAsciiSpec.post enc Try.prog Try.f5 false true false false) := by
  refine returnsInHanded_of_change (C := Try.checked) own started (by kernel_rfl) Try.func5
    (ChangeSpec.witness6 (enc := enc) (C := Try.checked) false ⟨#[], #[.slice none 0 0, .int .i64 0, .int .u8 0], []⟩ 8 (by kernel_rfl) (by kernel_rfl) (by kernel_rfl) (by kernel_rfl)) ?_
  intro W base args ds gs before hval0 hW hcnd _
  have hval : ∀ (j : Nat) t v, Try.f5.params[j]? = some t → args[j]? = some v → Value.okWide Try.prog W .any base t v := hval0
  have hW2 := hW
  obtain ⟨p, q, hA0, hV, rfl, hfz, hnd⟩ := hW
  have hA : DataW.TrodAll enc Try.prog W 0 (fun _ => true) true Try.f5.params.toList args.toList ds p := hA0
  rw [Try.params5] at hA hval
  obtain ⟨v0, vs0, d0, ds0, p0, q0, hargs, rfl, rfl, h0, r0⟩ := trodAll_cons hA
  obtain ⟨v1, vs1, d1, ds1, p1, q1, rfl, rfl, rfl, h1, r1⟩ := trodAll_cons r0
  obtain ⟨v2, vs2, d2, ds2, p2, q2, rfl, rfl, rfl, h2, r2⟩ := trodAll_cons r1
  obtain ⟨rfl, rfl, rfl⟩ := trodAll_nil r2
  obtain rfl : args = #[v0, v1, v2] := by cases args; simp_all
  obtain ⟨rfl, rfl⟩ := trodVars_none hV
  obtain ⟨A0, c0, l0, rfl, rd0⟩ := open_bytes (hval 0 22 v0 rfl rfl) h0
  obtain ⟨i1, rfl, b1, c1⟩ := open_i64 (hval 1 3 v1 rfl rfl) h1
  obtain ⟨n2, rfl, b2⟩ := open_u8 (hval 2 5 v2 rfl rfl) h2
  refine (walk W A0 c0 l0 rd0 i1 b1 c1 n2 b2).mono fun e W2 ⟨he, hb⟩ => ?_
  subst he
  exact ⟨_, rfl, law_post (by kernel_rfl) rfl rfl (by decide +kernel) hW2 hb⟩
theorem proved : Rows.UtfAsciiSaid :=
  OpenClaim.holds_of_wide 5 Try.f5 rfl rfl rfl rfl rfl rfl rfl ⟨rfl, rfl, rfl, rfl, rfl⟩ rfl rfl rfl rfl rfl (by kernel_rfl) Try.func5 (by kernel_rfl)
    (of_decide_eq_true (by kernel_rfl)) (by unfold Func.isWrapper; first | (rw [if_pos (by decide +kernel)]; kernel_rfl) | (rw [if_neg (by decide +kernel)]; exact ⟨rfl, rfl⟩))
    (fun os started H enc _ => lifted os started H enc)
end Go.Proofs.Ytiojpbmjciakeaa.lawUtfAscii
