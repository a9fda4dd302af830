/-
  A field that is found by its name, or number; a message by its name: the contracts.
-/
import Derived.Test.YtciiemomfniecaaGreatDoorTabMay
import Derived.Test.YtciiemomfniecaaGreatDoorTabRes
import Derived.Test.YtciiemomfniecaaGreatDoorTabFacts
import Derived.Test.YtciiemomfniecaaGreatDoorProParse
import Derived.Test.YtciiemomfniecaaGreatDoorTokNum
namespace Go.Proofs.YtciiemomfniecaaGreatDoor
set_option maxRecDepth 100000

open Go.RowKit Go.Maps

/-- What a search tells: the element, or a zero one. -/
def foundV (o : Option Df) : Value := .tuple #[.agg (DC (o.getD df0)).toArray, .bool o.isSome]
theorem find_first {l : List Df} {p : Df → Bool} {k : Nat} {d : Df} (h : ∀ j y, j < k → l[j]? = some y → p y = false) (hd : l[k]? = some d) (hp : p d = true) : l.find? p = some d := by
  rw [List.find?_eq_some_iff_getElem]
  obtain ⟨hk, rfl⟩ := List.getElem?_eq_some_iff.1 hd
  exact ⟨hp, k, hk, rfl, fun j hj => by rw [h j _ hj (List.getElem?_eq_getElem (by omega))]; rfl⟩
theorem find_none {l : List Df} {p : Df → Bool} (h : ∀ j y, j < l.length → l[j]? = some y → p y = false) : l.find? p = none := by
  rw [List.find?_eq_none]
  intro y hy
  obtain ⟨j, hj⟩ := List.mem_iff_getElem?.1 hy
  rw [h j y (List.getElem?_eq_some_iff.1 hj).1 hj]
  simp
theorem clo_name (d : Df) (x : List UInt8) (P : Nat) (W : World) (hc : W.heap[P]? = some (.cells #[.string (txt x)] 9 (0, 0))) :
    Calls Tryz.prog 42 #[.agg #[.int .i64 d.no, .string (txt d.name), .int .i64 d.kind, .int .i64 d.ref, .bool d.rep, .int .i64 d.key, .int .i64 d.one], .pointer (some ⟨P, 0, none⟩)] W fun e w' => e = .returned (.bool (d.name == x)) ∧ Below W.heap.size W w' := by
  have c0 := heap_cell hc 0
  simp at c0
  have hlt := (Array.getElem?_eq_some_iff.1 hc).1
  have H : Hid ((d.name == x) = ((txt d.name).toList == (txt x).toList)) := Lib.hid (by rw [Lib.toList_data, Lib.toList_data, txt_list, txt_list])
  clear hc
  go_enter Tryz.func42, Tryz.ntmps42
  go_wp2
  go_ret
  exact ⟨by rw [H.out]; rfl, below_new _ _⟩
theorem clo_no (d : Df) (x : Int) (P : Nat) (W : World) (hc : W.heap[P]? = some (.cells #[.int .i64 x] 3 (0, 0))) :
    Calls Tryz.prog 43 #[.agg #[.int .i64 d.no, .string (txt d.name), .int .i64 d.kind, .int .i64 d.ref, .bool d.rep, .int .i64 d.key, .int .i64 d.one], .pointer (some ⟨P, 0, none⟩)] W fun e w' => e = .returned (.bool (d.no == x)) ∧ Below W.heap.size W w' := by
  have c0 := heap_cell hc 0
  simp at c0
  have hlt := (Array.getElem?_eq_some_iff.1 hc).1
  clear hc
  go_enter Tryz.func43, Tryz.ntmps43
  go_wp2
  go_ret
  exact ⟨rfl, below_new _ _⟩
set_option maxRecDepth 1000000 in
set_option maxHeartbeats 4000000 in
theorem indexN_any (P : Nat) (x : List UInt8) (A : Option Addr) (c : Nat) (l : List Df) (w : World) (hs : Sl w A l.length c 7 (dfv l)) (hc : w.heap[P]? = some (.cells #[.string (txt x)] 9 (0, 0))) :
    Calls Tryz.prog 99 #[.slice A l.length c, .func (.func 42) #[] #[.pointer (some ⟨P, 0, none⟩)]] w fun e w' => ∃ r : Int, e = .returned (.int .i64 r) ∧ ((r = -1 ∧ l.find? (fun d => d.name == x) = none) ∨ ∃ (k : Nat) (d : Df), r = k ∧ l[k]? = some d ∧ l.find? (fun d => d.name == x) = some d) ∧ Below w.heap.size w w' := by
  have hsm : l.length ≤ 9223372036854775807 := by have h1 := hs.le; have h2 := hs.cap; unfold maxLen at h2; omega
  have HS := Lib.hid hs
  have HC := Lib.hid hc
  clear hs hc
  go_enter Tryz.func99, Tryz.ntmps99
  go_wp2
  go_loopw [8] (fun i wr => ∃ k : Nat, i = .int .i64 k ∧ k ≤ l.length ∧ (∀ j y, j < k → l[j]? = some y → (y.name == x) = false) ∧ Below w.heap.size w wr) (fun i _ => l.length - (intOf i).toNat)
  case atStart => exact ⟨0, rfl, by omega, fun j y hj => by omega, Below.refl _ _⟩
  case round =>
    obtain ⟨k, rfl, hk, herr, hb⟩ := hrel
    have HQ := Lib.hid herr
    clear herr
    by_cases hlt : k < l.length
    · obtain ⟨d, hd0⟩ : ∃ d, l[k]? = some d := ⟨_, List.getElem?_eq_getElem hlt⟩
      obtain ⟨ad, rfl, hg, c0, c1, c2, c3, c4, c5, c6⟩ := dfr_at (HS.out.on hb) hd0
      have HCL := clo_name d x P wr ((hb.block P (Array.getElem?_eq_some_iff.1 HC.out).1).trans HC.out)
      have HD0 := Lib.hid hd0
      clear hd0
      obtain ⟨v, hv⟩ : ∃ v, (d.name == x) = v := ⟨_, rfl⟩
      rw [hv] at HCL
      have HV := Lib.hid hv
      have HCL2 := Lib.hid HCL
      clear hv HCL
      cases v with
      | true =>
        go_wp2_with (go_at_call 42; refine HCL2.out.mono ?_; rintro e w1 ⟨rfl, hb1⟩)
        go_ret
        exact ⟨k, rfl, .inr ⟨k, d, rfl, HD0.out, find_first HQ.out HD0.out HV.out⟩, hb.trans (hb1.mono hb.size)⟩
      | false =>
        go_wp2_with (go_at_call 42; refine HCL2.out.mono ?_; rintro e w1 ⟨rfl, hb1⟩)
        refine ⟨⟨k + 1, by go_num, by omega, fun j y hj hy => ?_, hb.trans (hb1.mono hb.size)⟩, by simp [intOf]; omega⟩
        by_cases hj2 : j < k
        · exact HQ.out j y hj2 hy
        · obtain rfl : j = k := by omega
          rw [HD0.out] at hy
          obtain rfl := Option.some.inj hy
          exact HV.out
    · obtain rfl : k = l.length := by omega
      go_wp2
      go_ret
      exact ⟨-1, rfl, .inl ⟨rfl, find_none HQ.out⟩, hb⟩
set_option maxRecDepth 1000000 in
set_option maxHeartbeats 4000000 in
theorem firstN_any (B : Nat) (s : Sc) (vM vE : Value) (m : Int) (P : Nat) (x : List UInt8) (w : World) (hB : B ≤ w.heap.size) (hs : SAt B w s vM vE) (hc : w.heap[P]? = some (.cells #[.string (txt x)] 9 (0, 0))) :
    Calls Tryz.prog 41 #[.agg #[vM, vE], .int .i64 m, .func (.func 42) #[] #[.pointer (some ⟨P, 0, none⟩)]] w fun e w' => e = .returned (foundV (findS s m x)) ∧ Below w.heap.size w w' := by
  obtain ⟨xs, ys, ⟨A1, q1, rfl, s1, b1⟩, h2, ⟨A2, q2, rfl, s2, b2⟩, h4⟩ := hs
  have hb0 : Below w.heap.size w ((w.alloc (.cells #[.slice A1 s.M.length q1, .slice A2 s.E.length q2] 29)).alloc (.cells #[.int .i64 0, .string ⟨#[]⟩, .int .i64 0, .int .i64 0, .bool false, .int .i64 0, .int .i64 0] 39)) := below_lit (below_new _ _) _
  have hx0 : ((w.alloc (.cells #[.slice A1 s.M.length q1, .slice A2 s.E.length q2] 29)).alloc (.cells #[.int .i64 0, .string ⟨#[]⟩, .int .i64 0, .int .i64 0, .bool false, .int .i64 0, .int .i64 0] 39)).heap[w.heap.size]? = some (.cells #[.slice A1 s.M.length q1, .slice A2 s.E.length q2] 29 (0, 0)) := ((below_new _ _).block _ (by simp)).trans (heap_alloc_new w _)
  have hr0 := heap_second w (.cells #[.slice A1 s.M.length q1, .slice A2 s.E.length q2] 29) (.cells #[.int .i64 0, .string ⟨#[]⟩, .int .i64 0, .int .i64 0, .bool false, .int .i64 0, .int .i64 0] 39)
  have hs0 : ((w.alloc (.cells #[.slice A1 s.M.length q1, .slice A2 s.E.length q2] 29)).alloc (.cells #[.int .i64 0, .string ⟨#[]⟩, .int .i64 0, .int .i64 0, .bool false, .int .i64 0, .int .i64 0] 39)).heap.size = w.heap.size + 2 := by simp
  have hsm : s.M.length ≤ 9223372036854775807 := by have h1 := s1.le; have h2 := s1.cap; unfold maxLen at h2; omega
  have HM := Lib.hid s1
  have HMA := Lib.hid h2
  have HC := Lib.hid ((hb0.block P (Array.getElem?_eq_some_iff.1 hc).1).trans hc)
  clear s1 h2 s2 h4 hc
  by_cases hm : 0 ≤ m ∧ m < s.M.length
  · obtain ⟨k, rfl⟩ : ∃ k : Nat, m = k := ⟨m.toNat, by omega⟩
    have hlt : k < s.M.length := by omega
    obtain ⟨d, hd0⟩ : ∃ d, s.M[k]? = some d := ⟨_, List.getElem?_eq_getElem hlt⟩
    have hn : findS s (k : Int) x = d.F.find? (fun y => y.name == x) := by
      have e : msgAt s (k : Int) = some d := by unfold msgAt; rw [if_neg (by omega), Int.toNat_natCast, hd0]
      unfold findS
      rw [e]
      rfl
    obtain ⟨ad, vF, rfl, hg, hmr, c0, c1⟩ := mdr_at (HM.out.low b1 (Low.below hb0 hB)) (HMA.out.low (Low.below hb0 hB)) hd0
    have HR := Lib.hid hmr
    obtain ⟨AF, cF, hvF, sF, aF⟩ := id hmr
    subst hvF
    have HIX := Lib.hid (indexN_any P x AF cF d.F _ sF HC.out)
    have HN := Lib.hid hn
    have HSF := Lib.hid sF
    have HD0 := Lib.hid hd0
    clear hm hn hmr sF hd0
    have h1 : decide ((k : Int) < 0) = false := by rw [decide_eq_false_iff_not]; omega
    have h2 : decide ((s.M.length : Int) ≤ (k : Int)) = false := by rw [decide_eq_false_iff_not]; omega
    have h3 : decide ((k : Int) ≥ (s.M.length : Int)) = false := by rw [decide_eq_false_iff_not]; omega
    go_enter Tryz.func41, Tryz.ntmps41
    go_wp2_with fail
    refine HIX.out.mono ?_
    rintro e w1 ⟨r, rfl, hr, hb1⟩
    have hx1 := (hb1.block _ (by rw [hs0]; omega)).trans hx0
    have hr1 := (hb1.block _ (by rw [hs0]; omega)).trans hr0
    have hbw1 := below_then hb0 hb1
    rcases hr with ⟨rfl, hf⟩ | ⟨i, y, rfl, hy, hf⟩
    · have HF := Lib.hid (HN.out.trans hf)
      clear hf
      go_wp2_with (refine wpList_store_df rfl _ _ rfl rfl (w.heap.size + 1) _ _ _ _ _ _ _ _ _ _ _ _ _ _ rfl rfl _ hr1 ?_)
      refine bodyPost_ret (results_df1 rfl _ _ (w.heap.size + 1) _ _ _ _ _ _ _ _ (0, 0) rfl (setRow_heap _ _ _ _ _ _ hr1)) rfl ?_
      exact ⟨by rw [HF.out]; rfl, below_setRow hbw1 (by omega) _⟩
    · have HF := Lib.hid (HN.out.trans hf)
      obtain ⟨ad2, vF2, had, hg2, hmr2, g0, g1⟩ := mdr_at (HM.out.low b1 (Low.below hbw1 hB)) (HMA.out.low (Low.below hbw1 hB)) HD0.out
      obtain rfl := Option.some.inj had
      have hcc := (hb1.cell (p := ⟨(ad.add (k * 2)).block, (ad.add (k * 2)).off + 1, none⟩) (by show (ad.add (k * 2)).block < _; rw [add_same_block]; exact hg)).trans c1
      obtain ⟨ad3, had3, hg3, k0, k1, k2, k3, k4, k5, k6⟩ := dfr_at (HSF.out.on hb1) hy
      subst had3
      have y0 := heap_cell hx1 0
      simp at y0
      have hi1 : decide ((i : Int) < 0) = false := by rw [decide_eq_false_iff_not]; omega
      have hil := (List.getElem?_eq_some_iff.1 hy).1
      clear hf hy g0 g1 hmr2
      go_wp2_with (refine wpList_store_df rfl _ _ rfl rfl (w.heap.size + 1) _ _ _ _ _ _ _ _ _ _ _ _ _ _ rfl rfl _ hr1 ?_)
      refine bodyPost_ret (results_df1 rfl _ _ (w.heap.size + 1) _ _ _ _ _ _ _ _ (0, 0) rfl (setRow_heap _ _ _ _ _ _ hr1)) rfl ?_
      exact ⟨by rw [HF.out]; rfl, below_setRow hbw1 (by omega) _⟩
  · have HN : Hid (findS s m x = none) := Lib.hid (by
      have e : msgAt s m = none := by
        unfold msgAt
        split
        · rfl
        · exact List.getElem?_eq_none (by omega)
      unfold findS
      rw [e]
      rfl)
    obtain ⟨v1, hv1⟩ : ∃ v, decide (m < 0) = v := ⟨_, rfl⟩
    obtain ⟨v2, hv2⟩ : ∃ v, decide ((s.M.length : Int) ≤ m) = v := ⟨_, rfl⟩
    have HV : Hid ((v1 || v2) = true) := Lib.hid (by rw [← hv1, ← hv2]; simp only [Bool.or_eq_true, decide_eq_true_eq]; omega)
    have hv3 : decide (m ≥ (s.M.length : Int)) = v2 := hv2
    clear hm
    cases v1 <;> cases v2
    · exact absurd HV.out (by simp)
    all_goals
      go_enter Tryz.func41, Tryz.ntmps41
      go_wp2_with (refine wpList_store_df rfl _ _ rfl rfl (w.heap.size + 1) _ _ _ _ _ _ _ _ _ _ _ _ _ _ rfl rfl _ hr0 ?_)
      refine bodyPost_ret (results_df1 rfl _ _ (w.heap.size + 1) _ _ _ _ _ _ _ _ (0, 0) rfl (setRow_heap _ _ _ _ _ _ hr0)) rfl ?_
      exact ⟨by rw [HN.out]; rfl, below_setRow hb0 (by omega) _⟩
set_option maxRecDepth 1000000 in
set_option maxHeartbeats 4000000 in
theorem Find_any (B : Nat) (s : Sc) (vM vE : Value) (m : Int) (x : List UInt8) (w : World) (hB : B ≤ w.heap.size) (hs : SAt B w s vM vE) :
    Calls Tryz.prog 17 #[.agg #[vM, vE], .int .i64 m, .string (txt x)] w fun e w' => e = .returned (foundV (findS s m x)) ∧ Below w.heap.size w w' := by
  obtain ⟨xs, ys, ⟨A1, q1, hv1, s1, b1⟩, h2, ⟨A2, q2, hv2, s2, b2⟩, h4⟩ := id hs
  subst hv1 hv2
  clear s1 h2 s2 h4
  have hb0 : Below w.heap.size w (((w.alloc (.cells #[.slice A1 s.M.length q1, .slice A2 s.E.length q2] 29)).alloc (.cells #[.string (txt x)] 9)).alloc (.cells #[.int .i64 0, .string ⟨#[]⟩, .int .i64 0, .int .i64 0, .bool false, .int .i64 0, .int .i64 0] 39)) := below_lit (below_lit (below_new _ _) _) _
  have hc0 : (((w.alloc (.cells #[.slice A1 s.M.length q1, .slice A2 s.E.length q2] 29)).alloc (.cells #[.string (txt x)] 9)).alloc (.cells #[.int .i64 0, .string ⟨#[]⟩, .int .i64 0, .int .i64 0, .bool false, .int .i64 0, .int .i64 0] 39)).heap[w.heap.size + 1]? = some (.cells #[.string (txt x)] 9 (0, 0)) := ((below_new _ _).block _ (by simp)).trans (heap_second w _ _)
  have hr0 : (((w.alloc (.cells #[.slice A1 s.M.length q1, .slice A2 s.E.length q2] 29)).alloc (.cells #[.string (txt x)] 9)).alloc (.cells #[.int .i64 0, .string ⟨#[]⟩, .int .i64 0, .int .i64 0, .bool false, .int .i64 0, .int .i64 0] 39)).heap[w.heap.size + 1 + 1]? = some (.cells #[.int .i64 0, .string ⟨#[]⟩, .int .i64 0, .int .i64 0, .bool false, .int .i64 0, .int .i64 0] 39 (0, 0)) := by
    have := heap_second (w.alloc (.cells #[.slice A1 s.M.length q1, .slice A2 s.E.length q2] 29)) (.cells #[.string (txt x)] 9) (.cells #[.int .i64 0, .string ⟨#[]⟩, .int .i64 0, .int .i64 0, .bool false, .int .i64 0, .int .i64 0] 39)
    rw [World.size_alloc] at this
    exact this
  have HF := Lib.hid (firstN_any B s (.slice A1 s.M.length q1) (.slice A2 s.E.length q2) m (w.heap.size + 1) x _ (Nat.le_trans hB hb0.size) (hs.low (Low.below hb0 hB)) hc0)
  clear hs hc0
  go_enter Tryz.func17, Tryz.ntmps17
  go_wp2_with fail
  refine HF.out.mono ?_
  rintro e w1 ⟨rfl, hb1⟩
  have hr1 := (hb1.block _ (by simp)).trans hr0
  unfold foundV
  simp only [DC]
  go_wp2_with (refine wpList_store_df rfl _ _ rfl rfl (w.heap.size + 1 + 1) _ _ _ _ _ _ _ _ _ _ _ _ _ _ rfl rfl _ hr1 ?_)
  refine bodyPost_ret (results_df1 rfl _ _ (w.heap.size + 1 + 1) _ _ _ _ _ _ _ _ (0, 0) rfl (setRow_heap _ _ _ _ _ _ hr1)) rfl ?_
  exact ⟨rfl, below_setRow (below_then hb0 hb1) (by omega) _⟩
set_option maxRecDepth 1000000 in
set_option maxHeartbeats 4000000 in
theorem indexI_any (P : Nat) (x : Int) (A : Option Addr) (c : Nat) (l : List Df) (w : World) (hs : Sl w A l.length c 7 (dfv l)) (hc : w.heap[P]? = some (.cells #[.int .i64 x] 3 (0, 0))) :
    Calls Tryz.prog 99 #[.slice A l.length c, .func (.func 43) #[] #[.pointer (some ⟨P, 0, none⟩)]] w fun e w' => ∃ r : Int, e = .returned (.int .i64 r) ∧ ((r = -1 ∧ l.find? (fun d => d.no == x) = none) ∨ ∃ (k : Nat) (d : Df), r = k ∧ l[k]? = some d ∧ l.find? (fun d => d.no == x) = some d) ∧ Below w.heap.size w w' := by
  have hsm : l.length ≤ 9223372036854775807 := by have h1 := hs.le; have h2 := hs.cap; unfold maxLen at h2; omega
  have HS := Lib.hid hs
  have HC := Lib.hid hc
  clear hs hc
  go_enter Tryz.func99, Tryz.ntmps99
  go_wp2
  go_loopw [8] (fun i wr => ∃ k : Nat, i = .int .i64 k ∧ k ≤ l.length ∧ (∀ j y, j < k → l[j]? = some y → (y.no == x) = false) ∧ Below w.heap.size w wr) (fun i _ => l.length - (intOf i).toNat)
  case atStart => exact ⟨0, rfl, by omega, fun j y hj => by omega, Below.refl _ _⟩
  case round =>
    obtain ⟨k, rfl, hk, herr, hb⟩ := hrel
    have HQ := Lib.hid herr
    clear herr
    by_cases hlt : k < l.length
    · obtain ⟨d, hd0⟩ : ∃ d, l[k]? = some d := ⟨_, List.getElem?_eq_getElem hlt⟩
      obtain ⟨ad, rfl, hg, c0, c1, c2, c3, c4, c5, c6⟩ := dfr_at (HS.out.on hb) hd0
      have HCL := clo_no d x P wr ((hb.block P (Array.getElem?_eq_some_iff.1 HC.out).1).trans HC.out)
      have HD0 := Lib.hid hd0
      clear hd0
      obtain ⟨v, hv⟩ : ∃ v, (d.no == x) = v := ⟨_, rfl⟩
      rw [hv] at HCL
      have HV := Lib.hid hv
      have HCL2 := Lib.hid HCL
      clear hv HCL
      cases v with
      | true =>
        go_wp2_with (go_at_call 43; refine HCL2.out.mono ?_; rintro e w1 ⟨rfl, hb1⟩)
        go_ret
        exact ⟨k, rfl, .inr ⟨k, d, rfl, HD0.out, find_first HQ.out HD0.out HV.out⟩, hb.trans (hb1.mono hb.size)⟩
      | false =>
        go_wp2_with (go_at_call 43; refine HCL2.out.mono ?_; rintro e w1 ⟨rfl, hb1⟩)
        refine ⟨⟨k + 1, by go_num, by omega, fun j y hj hy => ?_, hb.trans (hb1.mono hb.size)⟩, by simp [intOf]; omega⟩
        by_cases hj2 : j < k
        · exact HQ.out j y hj2 hy
        · obtain rfl : j = k := by omega
          rw [HD0.out] at hy
          obtain rfl := Option.some.inj hy
          exact HV.out
    · obtain rfl : k = l.length := by omega
      go_wp2
      go_ret
      exact ⟨-1, rfl, .inl ⟨rfl, find_none HQ.out⟩, hb⟩
set_option maxRecDepth 1000000 in
set_option maxHeartbeats 4000000 in
theorem firstI_any (B : Nat) (s : Sc) (vM vE : Value) (m : Int) (P : Nat) (x : Int) (w : World) (hB : B ≤ w.heap.size) (hs : SAt B w s vM vE) (hc : w.heap[P]? = some (.cells #[.int .i64 x] 3 (0, 0))) :
    Calls Tryz.prog 41 #[.agg #[vM, vE], .int .i64 m, .func (.func 43) #[] #[.pointer (some ⟨P, 0, none⟩)]] w fun e w' => e = .returned (foundV (byS s m x)) ∧ Below w.heap.size w w' := by
  obtain ⟨xs, ys, ⟨A1, q1, rfl, s1, b1⟩, h2, ⟨A2, q2, rfl, s2, b2⟩, h4⟩ := hs
  have hb0 : Below w.heap.size w ((w.alloc (.cells #[.slice A1 s.M.length q1, .slice A2 s.E.length q2] 29)).alloc (.cells #[.int .i64 0, .string ⟨#[]⟩, .int .i64 0, .int .i64 0, .bool false, .int .i64 0, .int .i64 0] 39)) := below_lit (below_new _ _) _
  have hx0 : ((w.alloc (.cells #[.slice A1 s.M.length q1, .slice A2 s.E.length q2] 29)).alloc (.cells #[.int .i64 0, .string ⟨#[]⟩, .int .i64 0, .int .i64 0, .bool false, .int .i64 0, .int .i64 0] 39)).heap[w.heap.size]? = some (.cells #[.slice A1 s.M.length q1, .slice A2 s.E.length q2] 29 (0, 0)) := ((below_new _ _).block _ (by simp)).trans (heap_alloc_new w _)
  have hr0 := heap_second w (.cells #[.slice A1 s.M.length q1, .slice A2 s.E.length q2] 29) (.cells #[.int .i64 0, .string ⟨#[]⟩, .int .i64 0, .int .i64 0, .bool false, .int .i64 0, .int .i64 0] 39)
  have hs0 : ((w.alloc (.cells #[.slice A1 s.M.length q1, .slice A2 s.E.length q2] 29)).alloc (.cells #[.int .i64 0, .string ⟨#[]⟩, .int .i64 0, .int .i64 0, .bool false, .int .i64 0, .int .i64 0] 39)).heap.size = w.heap.size + 2 := by simp
  have hsm : s.M.length ≤ 9223372036854775807 := by have h1 := s1.le; have h2 := s1.cap; unfold maxLen at h2; omega
  have HM := Lib.hid s1
  have HMA := Lib.hid h2
  have HC := Lib.hid ((hb0.block P (Array.getElem?_eq_some_iff.1 hc).1).trans hc)
  clear s1 h2 s2 h4 hc
  by_cases hm : 0 ≤ m ∧ m < s.M.length
  · obtain ⟨k, rfl⟩ : ∃ k : Nat, m = k := ⟨m.toNat, by omega⟩
    have hlt : k < s.M.length := by omega
    obtain ⟨d, hd0⟩ : ∃ d, s.M[k]? = some d := ⟨_, List.getElem?_eq_getElem hlt⟩
    have hn : byS s (k : Int) x = d.F.find? (fun y => y.no == x) := by
      have e : msgAt s (k : Int) = some d := by unfold msgAt; rw [if_neg (by omega), Int.toNat_natCast, hd0]
      unfold byS
      rw [e]
      rfl
    obtain ⟨ad, vF, rfl, hg, hmr, c0, c1⟩ := mdr_at (HM.out.low b1 (Low.below hb0 hB)) (HMA.out.low (Low.below hb0 hB)) hd0
    have HR := Lib.hid hmr
    obtain ⟨AF, cF, hvF, sF, aF⟩ := id hmr
    subst hvF
    have HIX := Lib.hid (indexI_any P x AF cF d.F _ sF HC.out)
    have HN := Lib.hid hn
    have HSF := Lib.hid sF
    have HD0 := Lib.hid hd0
    clear hm hn hmr sF hd0
    have h1 : decide ((k : Int) < 0) = false := by rw [decide_eq_false_iff_not]; omega
    have h2 : decide ((s.M.length : Int) ≤ (k : Int)) = false := by rw [decide_eq_false_iff_not]; omega
    have h3 : decide ((k : Int) ≥ (s.M.length : Int)) = false := by rw [decide_eq_false_iff_not]; omega
    go_enter Tryz.func41, Tryz.ntmps41
    go_wp2_with fail
    refine HIX.out.mono ?_
    rintro e w1 ⟨r, rfl, hr, hb1⟩
    have hx1 := (hb1.block _ (by rw [hs0]; omega)).trans hx0
    have hr1 := (hb1.block _ (by rw [hs0]; omega)).trans hr0
    have hbw1 := below_then hb0 hb1
    rcases hr with ⟨rfl, hf⟩ | ⟨i, y, rfl, hy, hf⟩
    · have HF := Lib.hid (HN.out.trans hf)
      clear hf
      go_wp2_with (refine wpList_store_df rfl _ _ rfl rfl (w.heap.size + 1) _ _ _ _ _ _ _ _ _ _ _ _ _ _ rfl rfl _ hr1 ?_)
      refine bodyPost_ret (results_df1 rfl _ _ (w.heap.size + 1) _ _ _ _ _ _ _ _ (0, 0) rfl (setRow_heap _ _ _ _ _ _ hr1)) rfl ?_
      exact ⟨by rw [HF.out]; rfl, below_setRow hbw1 (by omega) _⟩
    · have HF := Lib.hid (HN.out.trans hf)
      obtain ⟨ad2, vF2, had, hg2, hmr2, g0, g1⟩ := mdr_at (HM.out.low b1 (Low.below hbw1 hB)) (HMA.out.low (Low.below hbw1 hB)) HD0.out
      obtain rfl := Option.some.inj had
      have hcc := (hb1.cell (p := ⟨(ad.add (k * 2)).block, (ad.add (k * 2)).off + 1, none⟩) (by show (ad.add (k * 2)).block < _; rw [add_same_block]; exact hg)).trans c1
      obtain ⟨ad3, had3, hg3, k0, k1, k2, k3, k4, k5, k6⟩ := dfr_at (HSF.out.on hb1) hy
      subst had3
      have y0 := heap_cell hx1 0
      simp at y0
      have hi1 : decide ((i : Int) < 0) = false := by rw [decide_eq_false_iff_not]; omega
      have hil := (List.getElem?_eq_some_iff.1 hy).1
      clear hf hy g0 g1 hmr2
      go_wp2_with (refine wpList_store_df rfl _ _ rfl rfl (w.heap.size + 1) _ _ _ _ _ _ _ _ _ _ _ _ _ _ rfl rfl _ hr1 ?_)
      refine bodyPost_ret (results_df1 rfl _ _ (w.heap.size + 1) _ _ _ _ _ _ _ _ (0, 0) rfl (setRow_heap _ _ _ _ _ _ hr1)) rfl ?_
      exact ⟨by rw [HF.out]; rfl, below_setRow hbw1 (by omega) _⟩
  · have HN : Hid (byS s m x = none) := Lib.hid (by
      have e : msgAt s m = none := by
        unfold msgAt
        split
        · rfl
        · exact List.getElem?_eq_none (by omega)
      unfold byS
      rw [e]
      rfl)
    obtain ⟨v1, hv1⟩ : ∃ v, decide (m < 0) = v := ⟨_, rfl⟩
    obtain ⟨v2, hv2⟩ : ∃ v, decide ((s.M.length : Int) ≤ m) = v := ⟨_, rfl⟩
    have HV : Hid ((v1 || v2) = true) := Lib.hid (by rw [← hv1, ← hv2]; simp only [Bool.or_eq_true, decide_eq_true_eq]; omega)
    have hv3 : decide (m ≥ (s.M.length : Int)) = v2 := hv2
    clear hm
    cases v1 <;> cases v2
    · exact absurd HV.out (by simp)
    all_goals
      go_enter Tryz.func41, Tryz.ntmps41
      go_wp2_with (refine wpList_store_df rfl _ _ rfl rfl (w.heap.size + 1) _ _ _ _ _ _ _ _ _ _ _ _ _ _ rfl rfl _ hr0 ?_)
      refine bodyPost_ret (results_df1 rfl _ _ (w.heap.size + 1) _ _ _ _ _ _ _ _ (0, 0) rfl (setRow_heap _ _ _ _ _ _ hr0)) rfl ?_
      exact ⟨by rw [HN.out]; rfl, below_setRow hb0 (by omega) _⟩
set_option maxRecDepth 1000000 in
set_option maxHeartbeats 4000000 in
theorem By_any (B : Nat) (s : Sc) (vM vE : Value) (m : Int) (x : Int) (w : World) (hB : B ≤ w.heap.size) (hs : SAt B w s vM vE) :
    Calls Tryz.prog 19 #[.agg #[vM, vE], .int .i64 m, .int .i64 x] w fun e w' => e = .returned (foundV (byS s m x)) ∧ Below w.heap.size w w' := by
  obtain ⟨xs, ys, ⟨A1, q1, hv1, s1, b1⟩, h2, ⟨A2, q2, hv2, s2, b2⟩, h4⟩ := id hs
  subst hv1 hv2
  clear s1 h2 s2 h4
  have hb0 : Below w.heap.size w (((w.alloc (.cells #[.slice A1 s.M.length q1, .slice A2 s.E.length q2] 29)).alloc (.cells #[.int .i64 x] 3)).alloc (.cells #[.int .i64 0, .string ⟨#[]⟩, .int .i64 0, .int .i64 0, .bool false, .int .i64 0, .int .i64 0] 39)) := below_lit (below_lit (below_new _ _) _) _
  have hc0 : (((w.alloc (.cells #[.slice A1 s.M.length q1, .slice A2 s.E.length q2] 29)).alloc (.cells #[.int .i64 x] 3)).alloc (.cells #[.int .i64 0, .string ⟨#[]⟩, .int .i64 0, .int .i64 0, .bool false, .int .i64 0, .int .i64 0] 39)).heap[w.heap.size + 1]? = some (.cells #[.int .i64 x] 3 (0, 0)) := ((below_new _ _).block _ (by simp)).trans (heap_second w _ _)
  have hr0 : (((w.alloc (.cells #[.slice A1 s.M.length q1, .slice A2 s.E.length q2] 29)).alloc (.cells #[.int .i64 x] 3)).alloc (.cells #[.int .i64 0, .string ⟨#[]⟩, .int .i64 0, .int .i64 0, .bool false, .int .i64 0, .int .i64 0] 39)).heap[w.heap.size + 1 + 1]? = some (.cells #[.int .i64 0, .string ⟨#[]⟩, .int .i64 0, .int .i64 0, .bool false, .int .i64 0, .int .i64 0] 39 (0, 0)) := by
    have := heap_second (w.alloc (.cells #[.slice A1 s.M.length q1, .slice A2 s.E.length q2] 29)) (.cells #[.int .i64 x] 3) (.cells #[.int .i64 0, .string ⟨#[]⟩, .int .i64 0, .int .i64 0, .bool false, .int .i64 0, .int .i64 0] 39)
    rw [World.size_alloc] at this
    exact this
  have HF := Lib.hid (firstI_any B s (.slice A1 s.M.length q1) (.slice A2 s.E.length q2) m (w.heap.size + 1) x _ (Nat.le_trans hB hb0.size) (hs.low (Low.below hb0 hB)) hc0)
  clear hs hc0
  go_enter Tryz.func19, Tryz.ntmps19
  go_wp2_with fail
  refine HF.out.mono ?_
  rintro e w1 ⟨rfl, hb1⟩
  have hr1 := (hb1.block _ (by simp)).trans hr0
  unfold foundV
  simp only [DC]
  go_wp2_with (refine wpList_store_df rfl _ _ rfl rfl (w.heap.size + 1 + 1) _ _ _ _ _ _ _ _ _ _ _ _ _ _ rfl rfl _ hr1 ?_)
  refine bodyPost_ret (results_df1 rfl _ _ (w.heap.size + 1 + 1) _ _ _ _ _ _ _ _ (0, 0) rfl (setRow_heap _ _ _ _ _ _ hr1)) rfl ?_
  exact ⟨rfl, below_setRow (below_then hb0 hb1) (by omega) _⟩
set_option maxRecDepth 1000000 in
set_option maxHeartbeats 4000000 in
theorem root_any (B : Nat) (s : Sc) (vM vE : Value) (x : List UInt8) (w : World) (hB : B ≤ w.heap.size) (hs : SAt B w s vM vE) :
    Calls Tryz.prog 21 #[.agg #[vM, vE], .string (txt x)] w fun e w' => e = .returned (.tuple #[.int .i64 (((rootS s x).getD 0 : Nat) : Int), .bool (rootS s x).isSome]) ∧ Below w.heap.size w w' := by
  obtain ⟨xs, ys, ⟨A1, q1, rfl, s1, b1⟩, h2, ⟨A2, q2, rfl, s2, b2⟩, h4⟩ := hs
  have hsm : s.M.length ≤ 9223372036854775807 := by have h1 := s1.le; have h2 := s1.cap; unfold maxLen at h2; omega
  have hb0 := below_new w (.cells #[.slice A1 s.M.length q1, .slice A2 s.E.length q2] 29)
  have HM := Lib.hid s1
  have HMA := Lib.hid h2
  clear s1 h2 s2 h4
  go_enter Tryz.func21, Tryz.ntmps21
  go_wp2
  go_loopw [11] (fun i wr => ∃ k : Nat, i = .int .i64 k ∧ k ≤ s.M.length ∧ (∀ j y, j < k → s.M[j]? = some y → y.name ≠ x) ∧ Below w.heap.size w wr) (fun i _ => s.M.length - (intOf i).toNat)
  case atStart => exact ⟨0, rfl, by omega, fun j y hj => by omega, hb0⟩
  case round =>
    obtain ⟨k, rfl, hk, herr, hb⟩ := hrel
    have HQ := Lib.hid herr
    clear herr
    by_cases hlt : k < s.M.length
    · obtain ⟨d, hd0⟩ : ∃ d, s.M[k]? = some d := ⟨_, List.getElem?_eq_getElem hlt⟩
      obtain ⟨ad, vF, rfl, hg, hmr, c0, c1⟩ := mdr_at (HM.out.low b1 (Low.below hb hB)) (HMA.out.low (Low.below hb hB)) hd0
      obtain ⟨AF, cF, rfl, -, -⟩ := hmr
      have HD0 := Lib.hid hd0
      clear hd0
      by_cases hx : d.name = x
      · have he : ((txt d.name).toList == (txt x).toList) = true := by rw [hx]; simp
        have HR : Hid (rootS s x = some k) := Lib.hid (by
          unfold rootS
          have hi : (s.M.map (·.name)).idxOf x = k := by
            have h1 : (s.M.map (·.name))[k]? = some x := by rw [List.getElem?_map, HD0.out]; simp [hx]
            obtain ⟨hk1, hk2⟩ := List.getElem?_eq_some_iff.1 h1
            have hle : (s.M.map (·.name)).idxOf x ≤ k := by
              rcases Nat.lt_or_ge k ((s.M.map (·.name)).idxOf x) with h | h
              · exact absurd hk2 (List.not_of_lt_findIdx (p := (· == x)) h |> fun h' => by simpa using h')
              · exact h
            rcases Nat.lt_or_ge ((s.M.map (·.name)).idxOf x) k with h | h
            · have hl2 : (s.M.map (·.name)).idxOf x < s.M.length := by omega
              have h3 : (s.M.map (·.name))[(s.M.map (·.name)).idxOf x]'(by simpa using hl2) = x := List.getElem_idxOf (by simpa using hl2)
              rw [List.getElem_map] at h3
              exact absurd h3 (HQ.out _ _ h (List.getElem?_eq_getElem hl2))
            · omega
          rw [hi, if_pos hlt])
        clear hx
        go_wp2
        go_ret2
        exact ⟨by rw [HR.out]; rfl, hb.trans ((below_new _ _).mono hb.size)⟩
      · have he : ((txt d.name).toList == (txt x).toList) = false := by
          rw [beq_eq_false_iff_ne, Lib.toList_data, Lib.toList_data, txt_list, txt_list]; exact hx
        have HX := Lib.hid hx
        clear hx
        go_wp2
        refine ⟨⟨k + 1, by go_num, by omega, fun j y hj hy => ?_, hb.trans ((below_new _ _).mono hb.size)⟩, by simp [intOf]; omega⟩
        by_cases hj2 : j < k
        · exact HQ.out j y hj2 hy
        · obtain rfl : j = k := by omega
          rw [HD0.out] at hy
          obtain rfl := Option.some.inj hy
          exact HX.out
    · obtain rfl : k = s.M.length := by omega
      have HR : Hid (rootS s x = none) := Lib.hid (by
        unfold rootS
        rw [if_neg]
        intro h
        have h3 : (s.M.map (·.name))[(s.M.map (·.name)).idxOf x]'(by simpa using h) = x := List.getElem_idxOf (by simpa using h)
        rw [List.getElem_map] at h3
        exact HQ.out _ _ h (List.getElem?_eq_getElem h) h3)
      go_wp2
      go_ret2
      exact ⟨by rw [HR.out]; rfl, hb⟩
end Go.Proofs.YtciiemomfniecaaGreatDoor
/-
  The chapter's example of layer 8: its file, and its schema.
-/
namespace Go.Proofs.YtciiemomfniecaaGreatDoor
set_option maxRecDepth 100000

def ex8 : List UInt8 := [109, 101, 115, 115, 97, 103, 101, 32, 65, 32, 123, 32, 65, 32, 97, 32, 61, 32, 50, 59, 32, 105, 110, 116, 54, 52, 32, 98, 32, 61, 32, 49, 59, 32, 125]
def ex8T : List T := [⟨0, [109, 101, 115, 115, 97, 103, 101], 0, 0⟩, ⟨0, [65], 0, 8⟩, ⟨3, [123], 0, 10⟩, ⟨0, [65], 0, 12⟩, ⟨0, [97], 0, 14⟩, ⟨3, [61], 0, 16⟩, ⟨1, [50], 2, 18⟩, ⟨3, [59], 0, 19⟩, ⟨0, [105, 110, 116, 54, 52], 0, 21⟩, ⟨0, [98], 0, 27⟩, ⟨3, [61], 0, 29⟩, ⟨1, [49], 1, 31⟩, ⟨3, [59], 0, 32⟩, ⟨3, [125], 0, 34⟩]
def ex8A : Fd := ⟨[65], [], false, 0, [97], 2, 12⟩
def ex8B : Fd := ⟨[105, 110, 116, 54, 52], [], false, 0, [98], 1, 21⟩
def ex8M : Ms := ⟨[65], [ex8A, ex8B], [], [], 0⟩
def ex8F : Fl := ⟨[ex8M], []⟩
def ex8S : Sc := ⟨[⟨[65], [⟨1, [98], 0, 0, false, -1, 0⟩, ⟨2, [97], 9, 0, false, -1, 0⟩]⟩], []⟩
theorem itoa_d (k : Nat) (h : k < 10) : Lib.itoa k = [UInt8.ofNat (48 + k)] := by
  rw [itoa_nonneg _ (by omega), Int.toNat_natCast, Lib.decDigits_one h]
theorem num_d1 : numOf Lib.itoa [49] = some 1 := by
  have h := numOf_itoa (n := 1) (by omega) (by omega)
  have e : Lib.itoa 1 = [49] := itoa_d 1 (by omega)
  rwa [e] at h
theorem num_d2 : numOf Lib.itoa [50] = some 2 := by
  have h := numOf_itoa (n := 2) (by omega) (by omega)
  have e : Lib.itoa 2 = [50] := itoa_d 2 (by omega)
  rwa [e] at h
theorem ex8_lex (it : Int → List UInt8) (h1 : numOf it [49] = some 1) (h2 : numOf it [50] = some 2) : lex it 0 0 ex8 = (ex8T, none) := by
  have a1 : lex it 0 0 ex8 = (ex8T.take 6 ++ (lex it 0 18 [50, 59, 32, 105, 110, 116, 54, 52, 32, 98, 32, 61, 32, 49, 59, 32, 125]).1, (lex it 0 18 [50, 59, 32, 105, 110, 116, 54, 52, 32, 98, 32, 61, 32, 49, 59, 32, 125]).2) := rfl
  have a2 : tk it [50, 59, 32, 105, 110, 116, 54, 52, 32, 98, 32, 61, 32, 49, 59, 32, 125] = some ⟨1, [50], 2, 0⟩ := by
    have : tk it [50, 59, 32, 105, 110, 116, 54, 52, 32, 98, 32, 61, 32, 49, 59, 32, 125] = (numOf it [50]).map fun n => ⟨1, [50], n, 0⟩ := rfl
    rw [this, h2]; rfl
  have a3 : lex it 0 (18 + 0 + 1) ([50, 59, 32, 105, 110, 116, 54, 52, 32, 98, 32, 61, 32, 49, 59, 32, 125].drop (0 + 1)) = ((ex8T.drop 7).take 4 ++ (lex it 0 31 [49, 59, 32, 125]).1, (lex it 0 31 [49, 59, 32, 125]).2) := rfl
  have a4 : tk it [49, 59, 32, 125] = some ⟨1, [49], 1, 0⟩ := by
    have : tk it [49, 59, 32, 125] = (numOf it [49]).map fun n => ⟨1, [49], n, 0⟩ := rfl
    rw [this, h1]; rfl
  rw [a1, lex_some rfl a2]
  dsimp only
  rw [a3, lex_some rfl a4]
  rfl
theorem ex8_all : toksOf ex8 = ex8T ∧ errOf ex8 = 0 := by
  have h := ex8_lex Lib.itoa num_d1 num_d2
  simp only [toksOf, errOf, allT, allE, h]
  exact ⟨rfl, rfl⟩
theorem ex8_run : run c0 ex8T = ({ pc := .top, f := ex8F }, []) := rfl
theorem ex8_par : parF ex8 = ex8F ∧ parAt ex8 = 35 ∧ parE ex8 = 0 := by
  simp only [parF, parAt, parE, parOK, ex8_all.1, ex8_all.2, ex8_run]
  exact ⟨rfl, rfl, rfl⟩
theorem ex8_err : errR ex8F = none := by decide +kernel
theorem ex8_sch : schF ex8F = ex8S := by decide +kernel
theorem ex8_tab : tabS ex8F = ex8S ∧ tabE ex8F = 0 := by
  unfold tabS tabE
  rw [ex8_err]
  exact ⟨ex8_sch, rfl⟩
end Go.Proofs.YtciiemomfniecaaGreatDoor
