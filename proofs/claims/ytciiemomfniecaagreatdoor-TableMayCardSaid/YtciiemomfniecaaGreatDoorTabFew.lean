/-
  A field that is found by its name, or number; a message by its name: the contracts.
-/
import Derived.Test.YtciiemomfniecaaGreatDoorTabMay
import Derived.Test.YtciiemomfniecaaGreatDoorTabRes
import Derived.Test.YtciiemomfniecaaGreatDoorBytes
import Derived.Test.YtciiemomfniecaaGreatDoorProParse
import Derived.Test.YtciiemomfniecaaGreatDoorTokPlaces
import Derived.Test.YtciiemomfniecaaGreatDoorTabDrop
namespace Go.Proofs.YtciiemomfniecaaGreatDoor
set_option maxRecDepth 100000

open Go.RowKit Go.Maps

/-- What a search tells: the element, or a zero one. -/
def foundV (o : Option Df) : Value := .tuple #[.agg (DC (o.getD df0)).toArray, .bool o.isSome]
theorem find_first {l : List Df} {p : Df → Bool} {k : Nat} {d : Df} (h : ∀ j y, j < k → l[j]? = some y → p y = false) (hd : l[k]? = some d) (hp : p d = true) : l.find? p = some d := by
  rw [List.find?_eq_some_iff_getElem]
  obtain ⟨hk, rfl⟩ := List.getElem?_eq_some_iff.1 hd
  exact ⟨hp, k, hk, rfl, fun j hj => by rw [h j _ hj (List.getElem?_eq_getElem (by omega))]; rfl⟩
theorem find_none {l : List Df} {p : Df → Bool} (h : ∀ j y, j < l.length → l[j]? = some y → p y = false) : l.find? p = none := by
  rw [List.find?_eq_none]
  intro y hy
  obtain ⟨j, hj⟩ := List.mem_iff_getElem?.1 hy
  rw [h j y (List.getElem?_eq_some_iff.1 hj).1 hj]
  simp
theorem clo_name (d : Df) (x : List UInt8) (P : Nat) (W : World) (hc : W.heap[P]? = some (.cells #[.string (txt x)] 9 (0, 0))) :
    Calls Tryz.prog 42 #[.agg #[.int .i64 d.no, .string (txt d.name), .int .i64 d.kind, .int .i64 d.ref, .bool d.rep, .int .i64 d.key, .int .i64 d.one], .pointer (some ⟨P, 0, none⟩)] W fun e w' => e = .returned (.bool (d.name == x)) ∧ Below W.heap.size W w' := by
  have c0 := heap_cell hc 0
  simp at c0
  have hlt := (Array.getElem?_eq_some_iff.1 hc).1
  have H : Hid ((d.name == x) = ((txt d.name).toList == (txt x).toList)) := Lib.hid (by rw [Lib.toList_data, Lib.toList_data, txt_list, txt_list])
  clear hc
  go_enter Tryz.func42, Tryz.ntmps42
  go_wp2
  go_ret
  exact ⟨by rw [H.out]; rfl, below_new _ _⟩
theorem clo_no (d : Df) (x : Int) (P : Nat) (W : World) (hc : W.heap[P]? = some (.cells #[.int .i64 x] 3 (0, 0))) :
    Calls Tryz.prog 43 #[.agg #[.int .i64 d.no, .string (txt d.name), .int .i64 d.kind, .int .i64 d.ref, .bool d.rep, .int .i64 d.key, .int .i64 d.one], .pointer (some ⟨P, 0, none⟩)] W fun e w' => e = .returned (.bool (d.no == x)) ∧ Below W.heap.size W w' := by
  have c0 := heap_cell hc 0
  simp at c0
  have hlt := (Array.getElem?_eq_some_iff.1 hc).1
  clear hc
  go_enter Tryz.func43, Tryz.ntmps43
  go_wp2
  go_ret
  exact ⟨rfl, below_new _ _⟩
set_option maxRecDepth 1000000 in
set_option maxHeartbeats 4000000 in
theorem indexN_any (P : Nat) (x : List UInt8) (A : Option Addr) (c : Nat) (l : List Df) (w : World) (hs : Sl w A l.length c 7 (dfv l)) (hc : w.heap[P]? = some (.cells #[.string (txt x)] 9 (0, 0))) :
    Calls Tryz.prog 99 #[.slice A l.length c, .func (.func 42) #[] #[.pointer (some ⟨P, 0, none⟩)]] w fun e w' => ∃ r : Int, e = .returned (.int .i64 r) ∧ ((r = -1 ∧ l.find? (fun d => d.name == x) = none) ∨ ∃ (k : Nat) (d : Df), r = k ∧ l[k]? = some d ∧ l.find? (fun d => d.name == x) = some d) ∧ Below w.heap.size w w' := by
  have hsm : l.length ≤ 9223372036854775807 := by have h1 := hs.le; have h2 := hs.cap; unfold maxLen at h2; omega
  have HS := Lib.hid hs
  have HC := Lib.hid hc
  clear hs hc
  go_enter Tryz.func99, Tryz.ntmps99
  go_wp2
  go_loopw [8] (fun i wr => ∃ k : Nat, i = .int .i64 k ∧ k ≤ l.length ∧ (∀ j y, j < k → l[j]? = some y → (y.name == x) = false) ∧ Below w.heap.size w wr) (fun i _ => l.length - (intOf i).toNat)
  case atStart => exact ⟨0, rfl, by omega, fun j y hj => by omega, Below.refl _ _⟩
  case round =>
    obtain ⟨k, rfl, hk, herr, hb⟩ := hrel
    have HQ := Lib.hid herr
    clear herr
    by_cases hlt : k < l.length
    · obtain ⟨d, hd0⟩ : ∃ d, l[k]? = some d := ⟨_, List.getElem?_eq_getElem hlt⟩
      obtain ⟨ad, rfl, hg, c0, c1, c2, c3, c4, c5, c6⟩ := dfr_at (HS.out.on hb) hd0
      have HCL := clo_name d x P wr ((hb.block P (Array.getElem?_eq_some_iff.1 HC.out).1).trans HC.out)
      have HD0 := Lib.hid hd0
      clear hd0
      obtain ⟨v, hv⟩ : ∃ v, (d.name == x) = v := ⟨_, rfl⟩
      rw [hv] at HCL
      have HV := Lib.hid hv
      have HCL2 := Lib.hid HCL
      clear hv HCL
      cases v with
      | true =>
        go_wp2_with (go_at_call 42; refine HCL2.out.mono ?_; rintro e w1 ⟨rfl, hb1⟩)
        go_ret
        exact ⟨k, rfl, .inr ⟨k, d, rfl, HD0.out, find_first HQ.out HD0.out HV.out⟩, hb.trans (hb1.mono hb.size)⟩
      | false =>
        go_wp2_with (go_at_call 42; refine HCL2.out.mono ?_; rintro e w1 ⟨rfl, hb1⟩)
        refine ⟨⟨k + 1, by go_num, by omega, fun j y hj hy => ?_, hb.trans (hb1.mono hb.size)⟩, by simp [intOf]; omega⟩
        by_cases hj2 : j < k
        · exact HQ.out j y hj2 hy
        · obtain rfl : j = k := by omega
          rw [HD0.out] at hy
          obtain rfl := Option.some.inj hy
          exact HV.out
    · obtain rfl : k = l.length := by omega
      go_wp2
      go_ret
      exact ⟨-1, rfl, .inl ⟨rfl, find_none HQ.out⟩, hb⟩
set_option maxRecDepth 1000000 in
set_option maxHeartbeats 4000000 in
theorem firstN_any (B : Nat) (s : Sc) (vM vE : Value) (m : Int) (P : Nat) (x : List UInt8) (w : World) (hB : B ≤ w.heap.size) (hs : SAt B w s vM vE) (hc : w.heap[P]? = some (.cells #[.string (txt x)] 9 (0, 0))) :
    Calls Tryz.prog 41 #[.agg #[vM, vE], .int .i64 m, .func (.func 42) #[] #[.pointer (some ⟨P, 0, none⟩)]] w fun e w' => e = .returned (foundV (findS s m x)) ∧ Below w.heap.size w w' := by
  obtain ⟨xs, ys, ⟨A1, q1, rfl, s1, b1⟩, h2, ⟨A2, q2, rfl, s2, b2⟩, h4⟩ := hs
  have hb0 : Below w.heap.size w ((w.alloc (.cells #[.slice A1 s.M.length q1, .slice A2 s.E.length q2] 29)).alloc (.cells #[.int .i64 0, .string ⟨#[]⟩, .int .i64 0, .int .i64 0, .bool false, .int .i64 0, .int .i64 0] 39)) := below_lit (below_new _ _) _
  have hx0 : ((w.alloc (.cells #[.slice A1 s.M.length q1, .slice A2 s.E.length q2] 29)).alloc (.cells #[.int .i64 0, .string ⟨#[]⟩, .int .i64 0, .int .i64 0, .bool false, .int .i64 0, .int .i64 0] 39)).heap[w.heap.size]? = some (.cells #[.slice A1 s.M.length q1, .slice A2 s.E.length q2] 29 (0, 0)) := ((below_new _ _).block _ (by simp)).trans (heap_alloc_new w _)
  have hr0 := heap_second w (.cells #[.slice A1 s.M.length q1, .slice A2 s.E.length q2] 29) (.cells #[.int .i64 0, .string ⟨#[]⟩, .int .i64 0, .int .i64 0, .bool false, .int .i64 0, .int .i64 0] 39)
  have hs0 : ((w.alloc (.cells #[.slice A1 s.M.length q1, .slice A2 s.E.length q2] 29)).alloc (.cells #[.int .i64 0, .string ⟨#[]⟩, .int .i64 0, .int .i64 0, .bool false, .int .i64 0, .int .i64 0] 39)).heap.size = w.heap.size + 2 := by simp
  have hsm : s.M.length ≤ 9223372036854775807 := by have h1 := s1.le; have h2 := s1.cap; unfold maxLen at h2; omega
  have HM := Lib.hid s1
  have HMA := Lib.hid h2
  have HC := Lib.hid ((hb0.block P (Array.getElem?_eq_some_iff.1 hc).1).trans hc)
  clear s1 h2 s2 h4 hc
  by_cases hm : 0 ≤ m ∧ m < s.M.length
  · obtain ⟨k, rfl⟩ : ∃ k : Nat, m = k := ⟨m.toNat, by omega⟩
    have hlt : k < s.M.length := by omega
    obtain ⟨d, hd0⟩ : ∃ d, s.M[k]? = some d := ⟨_, List.getElem?_eq_getElem hlt⟩
    have hn : findS s (k : Int) x = d.F.find? (fun y => y.name == x) := by
      have e : msgAt s (k : Int) = some d := by unfold msgAt; rw [if_neg (by omega), Int.toNat_natCast, hd0]
      unfold findS
      rw [e]
      rfl
    obtain ⟨ad, vF, rfl, hg, hmr, c0, c1⟩ := mdr_at (HM.out.low b1 (Low.below hb0 hB)) (HMA.out.low (Low.below hb0 hB)) hd0
    have HR := Lib.hid hmr
    obtain ⟨AF, cF, hvF, sF, aF⟩ := id hmr
    subst hvF
    have HIX := Lib.hid (indexN_any P x AF cF d.F _ sF HC.out)
    have HN := Lib.hid hn
    have HSF := Lib.hid sF
    have HD0 := Lib.hid hd0
    clear hm hn hmr sF hd0
    have h1 : decide ((k : Int) < 0) = false := by rw [decide_eq_false_iff_not]; omega
    have h2 : decide ((s.M.length : Int) ≤ (k : Int)) = false := by rw [decide_eq_false_iff_not]; omega
    have h3 : decide ((k : Int) ≥ (s.M.length : Int)) = false := by rw [decide_eq_false_iff_not]; omega
    go_enter Tryz.func41, Tryz.ntmps41
    go_wp2_with fail
    refine HIX.out.mono ?_
    rintro e w1 ⟨r, rfl, hr, hb1⟩
    have hx1 := (hb1.block _ (by rw [hs0]; omega)).trans hx0
    have hr1 := (hb1.block _ (by rw [hs0]; omega)).trans hr0
    have hbw1 := below_then hb0 hb1
    rcases hr with ⟨rfl, hf⟩ | ⟨i, y, rfl, hy, hf⟩
    · have HF := Lib.hid (HN.out.trans hf)
      clear hf
      go_wp2_with (refine wpList_store_df rfl _ _ rfl rfl (w.heap.size + 1) _ _ _ _ _ _ _ _ _ _ _ _ _ _ rfl rfl _ hr1 ?_)
      refine bodyPost_ret (results_df1 rfl _ _ (w.heap.size + 1) _ _ _ _ _ _ _ _ (0, 0) rfl (setRow_heap _ _ _ _ _ _ hr1)) rfl ?_
      exact ⟨by rw [HF.out]; rfl, below_setRow hbw1 (by omega) _⟩
    · have HF := Lib.hid (HN.out.trans hf)
      obtain ⟨ad2, vF2, had, hg2, hmr2, g0, g1⟩ := mdr_at (HM.out.low b1 (Low.below hbw1 hB)) (HMA.out.low (Low.below hbw1 hB)) HD0.out
      obtain rfl := Option.some.inj had
      have hcc := (hb1.cell (p := ⟨(ad.add (k * 2)).block, (ad.add (k * 2)).off + 1, none⟩) (by show (ad.add (k * 2)).block < _; rw [add_same_block]; exact hg)).trans c1
      obtain ⟨ad3, had3, hg3, k0, k1, k2, k3, k4, k5, k6⟩ := dfr_at (HSF.out.on hb1) hy
      subst had3
      have y0 := heap_cell hx1 0
      simp at y0
      have hi1 : decide ((i : Int) < 0) = false := by rw [decide_eq_false_iff_not]; omega
      have hil := (List.getElem?_eq_some_iff.1 hy).1
      clear hf hy g0 g1 hmr2
      go_wp2_with (refine wpList_store_df rfl _ _ rfl rfl (w.heap.size + 1) _ _ _ _ _ _ _ _ _ _ _ _ _ _ rfl rfl _ hr1 ?_)
      refine bodyPost_ret (results_df1 rfl _ _ (w.heap.size + 1) _ _ _ _ _ _ _ _ (0, 0) rfl (setRow_heap _ _ _ _ _ _ hr1)) rfl ?_
      exact ⟨by rw [HF.out]; rfl, below_setRow hbw1 (by omega) _⟩
  · have HN : Hid (findS s m x = none) := Lib.hid (by
      have e : msgAt s m = none := by
        unfold msgAt
        split
        · rfl
        · exact List.getElem?_eq_none (by omega)
      unfold findS
      rw [e]
      rfl)
    obtain ⟨v1, hv1⟩ : ∃ v, decide (m < 0) = v := ⟨_, rfl⟩
    obtain ⟨v2, hv2⟩ : ∃ v, decide ((s.M.length : Int) ≤ m) = v := ⟨_, rfl⟩
    have HV : Hid ((v1 || v2) = true) := Lib.hid (by rw [← hv1, ← hv2]; simp only [Bool.or_eq_true, decide_eq_true_eq]; omega)
    have hv3 : decide (m ≥ (s.M.length : Int)) = v2 := hv2
    clear hm
    cases v1 <;> cases v2
    · exact absurd HV.out (by simp)
    all_goals
      go_enter Tryz.func41, Tryz.ntmps41
      go_wp2_with (refine wpList_store_df rfl _ _ rfl rfl (w.heap.size + 1) _ _ _ _ _ _ _ _ _ _ _ _ _ _ rfl rfl _ hr0 ?_)
      refine bodyPost_ret (results_df1 rfl _ _ (w.heap.size + 1) _ _ _ _ _ _ _ _ (0, 0) rfl (setRow_heap _ _ _ _ _ _ hr0)) rfl ?_
      exact ⟨by rw [HN.out]; rfl, below_setRow hb0 (by omega) _⟩
set_option maxRecDepth 1000000 in
set_option maxHeartbeats 4000000 in
theorem Find_any (B : Nat) (s : Sc) (vM vE : Value) (m : Int) (x : List UInt8) (w : World) (hB : B ≤ w.heap.size) (hs : SAt B w s vM vE) :
    Calls Tryz.prog 17 #[.agg #[vM, vE], .int .i64 m, .string (txt x)] w fun e w' => e = .returned (foundV (findS s m x)) ∧ Below w.heap.size w w' := by
  obtain ⟨xs, ys, ⟨A1, q1, hv1, s1, b1⟩, h2, ⟨A2, q2, hv2, s2, b2⟩, h4⟩ := id hs
  subst hv1 hv2
  clear s1 h2 s2 h4
  have hb0 : Below w.heap.size w (((w.alloc (.cells #[.slice A1 s.M.length q1, .slice A2 s.E.length q2] 29)).alloc (.cells #[.string (txt x)] 9)).alloc (.cells #[.int .i64 0, .string ⟨#[]⟩, .int .i64 0, .int .i64 0, .bool false, .int .i64 0, .int .i64 0] 39)) := below_lit (below_lit (below_new _ _) _) _
  have hc0 : (((w.alloc (.cells #[.slice A1 s.M.length q1, .slice A2 s.E.length q2] 29)).alloc (.cells #[.string (txt x)] 9)).alloc (.cells #[.int .i64 0, .string ⟨#[]⟩, .int .i64 0, .int .i64 0, .bool false, .int .i64 0, .int .i64 0] 39)).heap[w.heap.size + 1]? = some (.cells #[.string (txt x)] 9 (0, 0)) := ((below_new _ _).block _ (by simp)).trans (heap_second w _ _)
  have hr0 : (((w.alloc (.cells #[.slice A1 s.M.length q1, .slice A2 s.E.length q2] 29)).alloc (.cells #[.string (txt x)] 9)).alloc (.cells #[.int .i64 0, .string ⟨#[]⟩, .int .i64 0, .int .i64 0, .bool false, .int .i64 0, .int .i64 0] 39)).heap[w.heap.size + 1 + 1]? = some (.cells #[.int .i64 0, .string ⟨#[]⟩, .int .i64 0, .int .i64 0, .bool false, .int .i64 0, .int .i64 0] 39 (0, 0)) := by
    have := heap_second (w.alloc (.cells #[.slice A1 s.M.length q1, .slice A2 s.E.length q2] 29)) (.cells #[.string (txt x)] 9) (.cells #[.int .i64 0, .string ⟨#[]⟩, .int .i64 0, .int .i64 0, .bool false, .int .i64 0, .int .i64 0] 39)
    rw [World.size_alloc] at this
    exact this
  have HF := Lib.hid (firstN_any B s (.slice A1 s.M.length q1) (.slice A2 s.E.length q2) m (w.heap.size + 1) x _ (Nat.le_trans hB hb0.size) (hs.low (Low.below hb0 hB)) hc0)
  clear hs hc0
  go_enter Tryz.func17, Tryz.ntmps17
  go_wp2_with fail
  refine HF.out.mono ?_
  rintro e w1 ⟨rfl, hb1⟩
  have hr1 := (hb1.block _ (by simp)).trans hr0
  unfold foundV
  simp only [DC]
  go_wp2_with (refine wpList_store_df rfl _ _ rfl rfl (w.heap.size + 1 + 1) _ _ _ _ _ _ _ _ _ _ _ _ _ _ rfl rfl _ hr1 ?_)
  refine bodyPost_ret (results_df1 rfl _ _ (w.heap.size + 1 + 1) _ _ _ _ _ _ _ _ (0, 0) rfl (setRow_heap _ _ _ _ _ _ hr1)) rfl ?_
  exact ⟨rfl, below_setRow (below_then hb0 hb1) (by omega) _⟩
set_option maxRecDepth 1000000 in
set_option maxHeartbeats 4000000 in
theorem indexI_any (P : Nat) (x : Int) (A : Option Addr) (c : Nat) (l : List Df) (w : World) (hs : Sl w A l.length c 7 (dfv l)) (hc : w.heap[P]? = some (.cells #[.int .i64 x] 3 (0, 0))) :
    Calls Tryz.prog 99 #[.slice A l.length c, .func (.func 43) #[] #[.pointer (some ⟨P, 0, none⟩)]] w fun e w' => ∃ r : Int, e = .returned (.int .i64 r) ∧ ((r = -1 ∧ l.find? (fun d => d.no == x) = none) ∨ ∃ (k : Nat) (d : Df), r = k ∧ l[k]? = some d ∧ l.find? (fun d => d.no == x) = some d) ∧ Below w.heap.size w w' := by
  have hsm : l.length ≤ 9223372036854775807 := by have h1 := hs.le; have h2 := hs.cap; unfold maxLen at h2; omega
  have HS := Lib.hid hs
  have HC := Lib.hid hc
  clear hs hc
  go_enter Tryz.func99, Tryz.ntmps99
  go_wp2
  go_loopw [8] (fun i wr => ∃ k : Nat, i = .int .i64 k ∧ k ≤ l.length ∧ (∀ j y, j < k → l[j]? = some y → (y.no == x) = false) ∧ Below w.heap.size w wr) (fun i _ => l.length - (intOf i).toNat)
  case atStart => exact ⟨0, rfl, by omega, fun j y hj => by omega, Below.refl _ _⟩
  case round =>
    obtain ⟨k, rfl, hk, herr, hb⟩ := hrel
    have HQ := Lib.hid herr
    clear herr
    by_cases hlt : k < l.length
    · obtain ⟨d, hd0⟩ : ∃ d, l[k]? = some d := ⟨_, List.getElem?_eq_getElem hlt⟩
      obtain ⟨ad, rfl, hg, c0, c1, c2, c3, c4, c5, c6⟩ := dfr_at (HS.out.on hb) hd0
      have HCL := clo_no d x P wr ((hb.block P (Array.getElem?_eq_some_iff.1 HC.out).1).trans HC.out)
      have HD0 := Lib.hid hd0
      clear hd0
      obtain ⟨v, hv⟩ : ∃ v, (d.no == x) = v := ⟨_, rfl⟩
      rw [hv] at HCL
      have HV := Lib.hid hv
      have HCL2 := Lib.hid HCL
      clear hv HCL
      cases v with
      | true =>
        go_wp2_with (go_at_call 43; refine HCL2.out.mono ?_; rintro e w1 ⟨rfl, hb1⟩)
        go_ret
        exact ⟨k, rfl, .inr ⟨k, d, rfl, HD0.out, find_first HQ.out HD0.out HV.out⟩, hb.trans (hb1.mono hb.size)⟩
      | false =>
        go_wp2_with (go_at_call 43; refine HCL2.out.mono ?_; rintro e w1 ⟨rfl, hb1⟩)
        refine ⟨⟨k + 1, by go_num, by omega, fun j y hj hy => ?_, hb.trans (hb1.mono hb.size)⟩, by simp [intOf]; omega⟩
        by_cases hj2 : j < k
        · exact HQ.out j y hj2 hy
        · obtain rfl : j = k := by omega
          rw [HD0.out] at hy
          obtain rfl := Option.some.inj hy
          exact HV.out
    · obtain rfl : k = l.length := by omega
      go_wp2
      go_ret
      exact ⟨-1, rfl, .inl ⟨rfl, find_none HQ.out⟩, hb⟩
set_option maxRecDepth 1000000 in
set_option maxHeartbeats 4000000 in
theorem firstI_any (B : Nat) (s : Sc) (vM vE : Value) (m : Int) (P : Nat) (x : Int) (w : World) (hB : B ≤ w.heap.size) (hs : SAt B w s vM vE) (hc : w.heap[P]? = some (.cells #[.int .i64 x] 3 (0, 0))) :
    Calls Tryz.prog 41 #[.agg #[vM, vE], .int .i64 m, .func (.func 43) #[] #[.pointer (some ⟨P, 0, none⟩)]] w fun e w' => e = .returned (foundV (byS s m x)) ∧ Below w.heap.size w w' := by
  obtain ⟨xs, ys, ⟨A1, q1, rfl, s1, b1⟩, h2, ⟨A2, q2, rfl, s2, b2⟩, h4⟩ := hs
  have hb0 : Below w.heap.size w ((w.alloc (.cells #[.slice A1 s.M.length q1, .slice A2 s.E.length q2] 29)).alloc (.cells #[.int .i64 0, .string ⟨#[]⟩, .int .i64 0, .int .i64 0, .bool false, .int .i64 0, .int .i64 0] 39)) := below_lit (below_new _ _) _
  have hx0 : ((w.alloc (.cells #[.slice A1 s.M.length q1, .slice A2 s.E.length q2] 29)).alloc (.cells #[.int .i64 0, .string ⟨#[]⟩, .int .i64 0, .int .i64 0, .bool false, .int .i64 0, .int .i64 0] 39)).heap[w.heap.size]? = some (.cells #[.slice A1 s.M.length q1, .slice A2 s.E.length q2] 29 (0, 0)) := ((below_new _ _).block _ (by simp)).trans (heap_alloc_new w _)
  have hr0 := heap_second w (.cells #[.slice A1 s.M.length q1, .slice A2 s.E.length q2] 29) (.cells #[.int .i64 0, .string ⟨#[]⟩, .int .i64 0, .int .i64 0, .bool false, .int .i64 0, .int .i64 0] 39)
  have hs0 : ((w.alloc (.cells #[.slice A1 s.M.length q1, .slice A2 s.E.length q2] 29)).alloc (.cells #[.int .i64 0, .string ⟨#[]⟩, .int .i64 0, .int .i64 0, .bool false, .int .i64 0, .int .i64 0] 39)).heap.size = w.heap.size + 2 := by simp
  have hsm : s.M.length ≤ 9223372036854775807 := by have h1 := s1.le; have h2 := s1.cap; unfold maxLen at h2; omega
  have HM := Lib.hid s1
  have HMA := Lib.hid h2
  have HC := Lib.hid ((hb0.block P (Array.getElem?_eq_some_iff.1 hc).1).trans hc)
  clear s1 h2 s2 h4 hc
  by_cases hm : 0 ≤ m ∧ m < s.M.length
  · obtain ⟨k, rfl⟩ : ∃ k : Nat, m = k := ⟨m.toNat, by omega⟩
    have hlt : k < s.M.length := by omega
    obtain ⟨d, hd0⟩ : ∃ d, s.M[k]? = some d := ⟨_, List.getElem?_eq_getElem hlt⟩
    have hn : byS s (k : Int) x = d.F.find? (fun y => y.no == x) := by
      have e : msgAt s (k : Int) = some d := by unfold msgAt; rw [if_neg (by omega), Int.toNat_natCast, hd0]
      unfold byS
      rw [e]
      rfl
    obtain ⟨ad, vF, rfl, hg, hmr, c0, c1⟩ := mdr_at (HM.out.low b1 (Low.below hb0 hB)) (HMA.out.low (Low.below hb0 hB)) hd0
    have HR := Lib.hid hmr
    obtain ⟨AF, cF, hvF, sF, aF⟩ := id hmr
    subst hvF
    have HIX := Lib.hid (indexI_any P x AF cF d.F _ sF HC.out)
    have HN := Lib.hid hn
    have HSF := Lib.hid sF
    have HD0 := Lib.hid hd0
    clear hm hn hmr sF hd0
    have h1 : decide ((k : Int) < 0) = false := by rw [decide_eq_false_iff_not]; omega
    have h2 : decide ((s.M.length : Int) ≤ (k : Int)) = false := by rw [decide_eq_false_iff_not]; omega
    have h3 : decide ((k : Int) ≥ (s.M.length : Int)) = false := by rw [decide_eq_false_iff_not]; omega
    go_enter Tryz.func41, Tryz.ntmps41
    go_wp2_with fail
    refine HIX.out.mono ?_
    rintro e w1 ⟨r, rfl, hr, hb1⟩
    have hx1 := (hb1.block _ (by rw [hs0]; omega)).trans hx0
    have hr1 := (hb1.block _ (by rw [hs0]; omega)).trans hr0
    have hbw1 := below_then hb0 hb1
    rcases hr with ⟨rfl, hf⟩ | ⟨i, y, rfl, hy, hf⟩
    · have HF := Lib.hid (HN.out.trans hf)
      clear hf
      go_wp2_with (refine wpList_store_df rfl _ _ rfl rfl (w.heap.size + 1) _ _ _ _ _ _ _ _ _ _ _ _ _ _ rfl rfl _ hr1 ?_)
      refine bodyPost_ret (results_df1 rfl _ _ (w.heap.size + 1) _ _ _ _ _ _ _ _ (0, 0) rfl (setRow_heap _ _ _ _ _ _ hr1)) rfl ?_
      exact ⟨by rw [HF.out]; rfl, below_setRow hbw1 (by omega) _⟩
    · have HF := Lib.hid (HN.out.trans hf)
      obtain ⟨ad2, vF2, had, hg2, hmr2, g0, g1⟩ := mdr_at (HM.out.low b1 (Low.below hbw1 hB)) (HMA.out.low (Low.below hbw1 hB)) HD0.out
      obtain rfl := Option.some.inj had
      have hcc := (hb1.cell (p := ⟨(ad.add (k * 2)).block, (ad.add (k * 2)).off + 1, none⟩) (by show (ad.add (k * 2)).block < _; rw [add_same_block]; exact hg)).trans c1
      obtain ⟨ad3, had3, hg3, k0, k1, k2, k3, k4, k5, k6⟩ := dfr_at (HSF.out.on hb1) hy
      subst had3
      have y0 := heap_cell hx1 0
      simp at y0
      have hi1 : decide ((i : Int) < 0) = false := by rw [decide_eq_false_iff_not]; omega
      have hil := (List.getElem?_eq_some_iff.1 hy).1
      clear hf hy g0 g1 hmr2
      go_wp2_with (refine wpList_store_df rfl _ _ rfl rfl (w.heap.size + 1) _ _ _ _ _ _ _ _ _ _ _ _ _ _ rfl rfl _ hr1 ?_)
      refine bodyPost_ret (results_df1 rfl _ _ (w.heap.size + 1) _ _ _ _ _ _ _ _ (0, 0) rfl (setRow_heap _ _ _ _ _ _ hr1)) rfl ?_
      exact ⟨by rw [HF.out]; rfl, below_setRow hbw1 (by omega) _⟩
  · have HN : Hid (byS s m x = none) := Lib.hid (by
      have e : msgAt s m = none := by
        unfold msgAt
        split
        · rfl
        · exact List.getElem?_eq_none (by omega)
      unfold byS
      rw [e]
      rfl)
    obtain ⟨v1, hv1⟩ : ∃ v, decide (m < 0) = v := ⟨_, rfl⟩
    obtain ⟨v2, hv2⟩ : ∃ v, decide ((s.M.length : Int) ≤ m) = v := ⟨_, rfl⟩
    have HV : Hid ((v1 || v2) = true) := Lib.hid (by rw [← hv1, ← hv2]; simp only [Bool.or_eq_true, decide_eq_true_eq]; omega)
    have hv3 : decide (m ≥ (s.M.length : Int)) = v2 := hv2
    clear hm
    cases v1 <;> cases v2
    · exact absurd HV.out (by simp)
    all_goals
      go_enter Tryz.func41, Tryz.ntmps41
      go_wp2_with (refine wpList_store_df rfl _ _ rfl rfl (w.heap.size + 1) _ _ _ _ _ _ _ _ _ _ _ _ _ _ rfl rfl _ hr0 ?_)
      refine bodyPost_ret (results_df1 rfl _ _ (w.heap.size + 1) _ _ _ _ _ _ _ _ (0, 0) rfl (setRow_heap _ _ _ _ _ _ hr0)) rfl ?_
      exact ⟨by rw [HN.out]; rfl, below_setRow hb0 (by omega) _⟩
set_option maxRecDepth 1000000 in
set_option maxHeartbeats 4000000 in
theorem By_any (B : Nat) (s : Sc) (vM vE : Value) (m : Int) (x : Int) (w : World) (hB : B ≤ w.heap.size) (hs : SAt B w s vM vE) :
    Calls Tryz.prog 19 #[.agg #[vM, vE], .int .i64 m, .int .i64 x] w fun e w' => e = .returned (foundV (byS s m x)) ∧ Below w.heap.size w w' := by
  obtain ⟨xs, ys, ⟨A1, q1, hv1, s1, b1⟩, h2, ⟨A2, q2, hv2, s2, b2⟩, h4⟩ := id hs
  subst hv1 hv2
  clear s1 h2 s2 h4
  have hb0 : Below w.heap.size w (((w.alloc (.cells #[.slice A1 s.M.length q1, .slice A2 s.E.length q2] 29)).alloc (.cells #[.int .i64 x] 3)).alloc (.cells #[.int .i64 0, .string ⟨#[]⟩, .int .i64 0, .int .i64 0, .bool false, .int .i64 0, .int .i64 0] 39)) := below_lit (below_lit (below_new _ _) _) _
  have hc0 : (((w.alloc (.cells #[.slice A1 s.M.length q1, .slice A2 s.E.length q2] 29)).alloc (.cells #[.int .i64 x] 3)).alloc (.cells #[.int .i64 0, .string ⟨#[]⟩, .int .i64 0, .int .i64 0, .bool false, .int .i64 0, .int .i64 0] 39)).heap[w.heap.size + 1]? = some (.cells #[.int .i64 x] 3 (0, 0)) := ((below_new _ _).block _ (by simp)).trans (heap_second w _ _)
  have hr0 : (((w.alloc (.cells #[.slice A1 s.M.length q1, .slice A2 s.E.length q2] 29)).alloc (.cells #[.int .i64 x] 3)).alloc (.cells #[.int .i64 0, .string ⟨#[]⟩, .int .i64 0, .int .i64 0, .bool false, .int .i64 0, .int .i64 0] 39)).heap[w.heap.size + 1 + 1]? = some (.cells #[.int .i64 0, .string ⟨#[]⟩, .int .i64 0, .int .i64 0, .bool false, .int .i64 0, .int .i64 0] 39 (0, 0)) := by
    have := heap_second (w.alloc (.cells #[.slice A1 s.M.length q1, .slice A2 s.E.length q2] 29)) (.cells #[.int .i64 x] 3) (.cells #[.int .i64 0, .string ⟨#[]⟩, .int .i64 0, .int .i64 0, .bool false, .int .i64 0, .int .i64 0] 39)
    rw [World.size_alloc] at this
    exact this
  have HF := Lib.hid (firstI_any B s (.slice A1 s.M.length q1) (.slice A2 s.E.length q2) m (w.heap.size + 1) x _ (Nat.le_trans hB hb0.size) (hs.low (Low.below hb0 hB)) hc0)
  clear hs hc0
  go_enter Tryz.func19, Tryz.ntmps19
  go_wp2_with fail
  refine HF.out.mono ?_
  rintro e w1 ⟨rfl, hb1⟩
  have hr1 := (hb1.block _ (by simp)).trans hr0
  unfold foundV
  simp only [DC]
  go_wp2_with (refine wpList_store_df rfl _ _ rfl rfl (w.heap.size + 1 + 1) _ _ _ _ _ _ _ _ _ _ _ _ _ _ rfl rfl _ hr1 ?_)
  refine bodyPost_ret (results_df1 rfl _ _ (w.heap.size + 1 + 1) _ _ _ _ _ _ _ _ (0, 0) rfl (setRow_heap _ _ _ _ _ _ hr1)) rfl ?_
  exact ⟨rfl, below_setRow (below_then hb0 hb1) (by omega) _⟩
set_option maxRecDepth 1000000 in
set_option maxHeartbeats 4000000 in
theorem root_any (B : Nat) (s : Sc) (vM vE : Value) (x : List UInt8) (w : World) (hB : B ≤ w.heap.size) (hs : SAt B w s vM vE) :
    Calls Tryz.prog 21 #[.agg #[vM, vE], .string (txt x)] w fun e w' => e = .returned (.tuple #[.int .i64 (((rootS s x).getD 0 : Nat) : Int), .bool (rootS s x).isSome]) ∧ Below w.heap.size w w' := by
  obtain ⟨xs, ys, ⟨A1, q1, rfl, s1, b1⟩, h2, ⟨A2, q2, rfl, s2, b2⟩, h4⟩ := hs
  have hsm : s.M.length ≤ 9223372036854775807 := by have h1 := s1.le; have h2 := s1.cap; unfold maxLen at h2; omega
  have hb0 := below_new w (.cells #[.slice A1 s.M.length q1, .slice A2 s.E.length q2] 29)
  have HM := Lib.hid s1
  have HMA := Lib.hid h2
  clear s1 h2 s2 h4
  go_enter Tryz.func21, Tryz.ntmps21
  go_wp2
  go_loopw [11] (fun i wr => ∃ k : Nat, i = .int .i64 k ∧ k ≤ s.M.length ∧ (∀ j y, j < k → s.M[j]? = some y → y.name ≠ x) ∧ Below w.heap.size w wr) (fun i _ => s.M.length - (intOf i).toNat)
  case atStart => exact ⟨0, rfl, by omega, fun j y hj => by omega, hb0⟩
  case round =>
    obtain ⟨k, rfl, hk, herr, hb⟩ := hrel
    have HQ := Lib.hid herr
    clear herr
    by_cases hlt : k < s.M.length
    · obtain ⟨d, hd0⟩ : ∃ d, s.M[k]? = some d := ⟨_, List.getElem?_eq_getElem hlt⟩
      obtain ⟨ad, vF, rfl, hg, hmr, c0, c1⟩ := mdr_at (HM.out.low b1 (Low.below hb hB)) (HMA.out.low (Low.below hb hB)) hd0
      obtain ⟨AF, cF, rfl, -, -⟩ := hmr
      have HD0 := Lib.hid hd0
      clear hd0
      by_cases hx : d.name = x
      · have he : ((txt d.name).toList == (txt x).toList) = true := by rw [hx]; simp
        have HR : Hid (rootS s x = some k) := Lib.hid (by
          unfold rootS
          have hi : (s.M.map (·.name)).idxOf x = k := by
            have h1 : (s.M.map (·.name))[k]? = some x := by rw [List.getElem?_map, HD0.out]; simp [hx]
            obtain ⟨hk1, hk2⟩ := List.getElem?_eq_some_iff.1 h1
            have hle : (s.M.map (·.name)).idxOf x ≤ k := by
              rcases Nat.lt_or_ge k ((s.M.map (·.name)).idxOf x) with h | h
              · exact absurd hk2 (List.not_of_lt_findIdx (p := (· == x)) h |> fun h' => by simpa using h')
              · exact h
            rcases Nat.lt_or_ge ((s.M.map (·.name)).idxOf x) k with h | h
            · have hl2 : (s.M.map (·.name)).idxOf x < s.M.length := by omega
              have h3 : (s.M.map (·.name))[(s.M.map (·.name)).idxOf x]'(by simpa using hl2) = x := List.getElem_idxOf (by simpa using hl2)
              rw [List.getElem_map] at h3
              exact absurd h3 (HQ.out _ _ h (List.getElem?_eq_getElem hl2))
            · omega
          rw [hi, if_pos hlt])
        clear hx
        go_wp2
        go_ret2
        exact ⟨by rw [HR.out]; rfl, hb.trans ((below_new _ _).mono hb.size)⟩
      · have he : ((txt d.name).toList == (txt x).toList) = false := by
          rw [beq_eq_false_iff_ne, Lib.toList_data, Lib.toList_data, txt_list, txt_list]; exact hx
        have HX := Lib.hid hx
        clear hx
        go_wp2
        refine ⟨⟨k + 1, by go_num, by omega, fun j y hj hy => ?_, hb.trans ((below_new _ _).mono hb.size)⟩, by simp [intOf]; omega⟩
        by_cases hj2 : j < k
        · exact HQ.out j y hj2 hy
        · obtain rfl : j = k := by omega
          rw [HD0.out] at hy
          obtain rfl := Option.some.inj hy
          exact HX.out
    · obtain rfl : k = s.M.length := by omega
      have HR : Hid (rootS s x = none) := Lib.hid (by
        unfold rootS
        rw [if_neg]
        intro h
        have h3 : (s.M.map (·.name))[(s.M.map (·.name)).idxOf x]'(by simpa using h) = x := List.getElem_idxOf (by simpa using h)
        rw [List.getElem_map] at h3
        exact HQ.out _ _ h (List.getElem?_eq_getElem h) h3)
      go_wp2
      go_ret2
      exact ⟨by rw [HR.out]; rfl, hb⟩
end Go.Proofs.YtciiemomfniecaaGreatDoor
/-
  The chapter's example of layer 8: its file, and its schema.
-/
namespace Go.Proofs.YtciiemomfniecaaGreatDoor
set_option maxRecDepth 100000

def ex8 : List UInt8 := [109, 101, 115, 115, 97, 103, 101, 32, 65, 32, 123, 32, 65, 32, 97, 32, 61, 32, 50, 59, 32, 105, 110, 116, 54, 52, 32, 98, 32, 61, 32, 49, 59, 32, 125]
def ex8T : List T := [⟨0, [109, 101, 115, 115, 97, 103, 101], 0, 0⟩, ⟨0, [65], 0, 8⟩, ⟨3, [123], 0, 10⟩, ⟨0, [65], 0, 12⟩, ⟨0, [97], 0, 14⟩, ⟨3, [61], 0, 16⟩, ⟨1, [50], 2, 18⟩, ⟨3, [59], 0, 19⟩, ⟨0, [105, 110, 116, 54, 52], 0, 21⟩, ⟨0, [98], 0, 27⟩, ⟨3, [61], 0, 29⟩, ⟨1, [49], 1, 31⟩, ⟨3, [59], 0, 32⟩, ⟨3, [125], 0, 34⟩]
def ex8A : Fd := ⟨[65], [], false, 0, [97], 2, 12⟩
def ex8B : Fd := ⟨[105, 110, 116, 54, 52], [], false, 0, [98], 1, 21⟩
def ex8M : Ms := ⟨[65], [ex8A, ex8B], [], [], 0⟩
def ex8F : Fl := ⟨[ex8M], []⟩
def ex8S : Sc := ⟨[⟨[65], [⟨1, [98], 0, 0, false, -1, 0⟩, ⟨2, [97], 9, 0, false, -1, 0⟩]⟩], []⟩
theorem itoa_d (k : Nat) (h : k < 10) : Lib.itoa k = [UInt8.ofNat (48 + k)] := by
  rw [itoa_nonneg _ (by omega), Int.toNat_natCast, Lib.decDigits_one h]
theorem num_d1 : numOf Lib.itoa [49] = some 1 := by
  have h := numOf_itoa (n := 1) (by omega) (by omega)
  have e : Lib.itoa 1 = [49] := itoa_d 1 (by omega)
  rwa [e] at h
theorem num_d2 : numOf Lib.itoa [50] = some 2 := by
  have h := numOf_itoa (n := 2) (by omega) (by omega)
  have e : Lib.itoa 2 = [50] := itoa_d 2 (by omega)
  rwa [e] at h
theorem ex8_lex (it : Int → List UInt8) (h1 : numOf it [49] = some 1) (h2 : numOf it [50] = some 2) : lex it 0 0 ex8 = (ex8T, none) := by
  have a1 : lex it 0 0 ex8 = (ex8T.take 6 ++ (lex it 0 18 [50, 59, 32, 105, 110, 116, 54, 52, 32, 98, 32, 61, 32, 49, 59, 32, 125]).1, (lex it 0 18 [50, 59, 32, 105, 110, 116, 54, 52, 32, 98, 32, 61, 32, 49, 59, 32, 125]).2) := rfl
  have a2 : tk it [50, 59, 32, 105, 110, 116, 54, 52, 32, 98, 32, 61, 32, 49, 59, 32, 125] = some ⟨1, [50], 2, 0⟩ := by
    have : tk it [50, 59, 32, 105, 110, 116, 54, 52, 32, 98, 32, 61, 32, 49, 59, 32, 125] = (numOf it [50]).map fun n => ⟨1, [50], n, 0⟩ := rfl
    rw [this, h2]; rfl
  have a3 : lex it 0 (18 + 0 + 1) ([50, 59, 32, 105, 110, 116, 54, 52, 32, 98, 32, 61, 32, 49, 59, 32, 125].drop (0 + 1)) = ((ex8T.drop 7).take 4 ++ (lex it 0 31 [49, 59, 32, 125]).1, (lex it 0 31 [49, 59, 32, 125]).2) := rfl
  have a4 : tk it [49, 59, 32, 125] = some ⟨1, [49], 1, 0⟩ := by
    have : tk it [49, 59, 32, 125] = (numOf it [49]).map fun n => ⟨1, [49], n, 0⟩ := rfl
    rw [this, h1]; rfl
  rw [a1, lex_some rfl a2]
  dsimp only
  rw [a3, lex_some rfl a4]
  rfl
theorem ex8_all : toksOf ex8 = ex8T ∧ errOf ex8 = 0 := by
  have h := ex8_lex Lib.itoa num_d1 num_d2
  simp only [toksOf, errOf, allT, allE, h]
  exact ⟨rfl, rfl⟩
theorem ex8_run : run c0 ex8T = ({ pc := .top, f := ex8F }, []) := rfl
theorem ex8_par : parF ex8 = ex8F ∧ parAt ex8 = 35 ∧ parE ex8 = 0 := by
  simp only [parF, parAt, parE, parOK, ex8_all.1, ex8_all.2, ex8_run]
  exact ⟨rfl, rfl, rfl⟩
theorem ex8_err : errR ex8F = none := by decide +kernel
theorem ex8_sch : schF ex8F = ex8S := by decide +kernel
theorem ex8_tab : tabS ex8F = ex8S ∧ tabE ex8F = 0 := by
  unfold tabS tabE
  rw [ex8_err]
  exact ⟨ex8_sch, rfl⟩
end Go.Proofs.YtciiemomfniecaaGreatDoor
/-
  The chapter's example: the contract of the statements' own first call.
-/
namespace Go.Proofs.YtciiemomfniecaaGreatDoor
set_option maxRecDepth 100000

open Go.RowKit Go.Maps

theorem ex8_read : readS ex8 = ex8S ∧ readAt ex8 = 0 ∧ readE ex8 = 0 := by
  unfold readS readAt readE
  rw [ex8_par.2.2, ex8_par.1]
  refine ⟨ex8_tab.1, ?_, ex8_tab.2⟩
  unfold tabAt
  rw [if_pos rfl, ex8_err]
  rfl
theorem ex8_in : FlIn ex8F := by
  refine ⟨fun m hm => ?_, fun e he => by cases he⟩
  obtain rfl : m = ex8M := by simpa [ex8F] using hm
  refine ⟨by decide, fun d hd => ?_, fun x hx => (by cases hx), fun n hn => (by cases hn), by unfold inr; decide⟩
  have : d = ex8A ∨ d = ex8B := by simpa [ex8M] using hd
  rcases this with rfl | rfl <;> (constructor <;> first | decide | (unfold inr; decide))
theorem ex8_scin : ScIn ex8S := by
  refine ⟨fun m hm => ?_, fun e he => by cases he⟩
  obtain rfl : m = ⟨[65], [⟨1, [98], 0, 0, false, -1, 0⟩, ⟨2, [97], 9, 0, false, -1, 0⟩]⟩ := by simpa [ex8S] using hm
  refine ⟨by decide, fun d hd => ?_⟩
  have : d = ⟨1, [98], 0, 0, false, -1, 0⟩ ∨ d = ⟨2, [97], 9, 0, false, -1, 0⟩ := by simpa using hd
  rcases this with rfl | rfl <;> exact ⟨by unfold inr; decide, by decide, by unfold inr; decide, by unfold inr; decide, by unfold inr; decide, by unfold inr; decide⟩
theorem ex8_good : errR ex8F = none := ex8_err
theorem ex8_may : ScMay ex8S := by rw [← ex8_sch]; exact sch_may ((good_iff _).1 ex8_err)
theorem ex8_find : findS ex8S 0 [97] = some ⟨2, [97], 9, 0, false, -1, 0⟩ ∧ byS ex8S 0 1 = some ⟨1, [98], 0, 0, false, -1, 0⟩ := ⟨by decide, by decide⟩
/-- A struct is loaded behind a guard that holds. -/
theorem wpList_load_row_g {P : Program} {ops : Array Oper} {rest : List Oper} {o : Oper} {a : Act} {w : World} {Q : Exit → Act → World → Prop} (hw : Region.wanted o (yielded ops a.tmps) = true) (ty : TypeId) (x : Operand) (ho : o.op = .load ty x)
    (g : Nat) (hx : a.eval x = .pointer (some ⟨g, 0, none⟩)) (t : TypeId) (cs : Array Value) (fr : Nat × Nat) (d : TypeDesc) (hg : w.heap[g]? = some (.cells cs t fr))
    (hu : P.underlying ty = some d) (hd : (match d with | .struct _ | .array _ _ => true | _ => false) = true) (hi : (P.info? ty).map (·.size) = some cs.size)
    (h : wpList P ops Q rest (a.put o.dst (.agg cs)) w) : wpList P ops Q (o :: rest) a w := by
  refine wpList_step fun K hK => ?_
  rw [if_pos hw]
  exact wp_load_row ty x ho g hx t cs fr d hg hu hd hi (hK _ _ h)
theorem wpList_load_scg {ops : Array Oper} {rest : List Oper} {o : Oper} {a : Act} {w : World} {Q : Exit → Act → World → Prop} (hw : Region.wanted o (yielded ops a.tmps) = true) (x : Operand) (ho : o.op = .load 29 x)
    (g : Nat) (u0 u1 : Value) (hx : a.eval x = .pointer (some ⟨g, 0, none⟩)) (t : TypeId) (fr : Nat × Nat) (hg : w.heap[g]? = some (.cells #[u0, u1] t fr))
    (h : wpList Tryz.prog ops Q rest (a.put o.dst (.agg #[u0, u1])) w) : wpList Tryz.prog ops Q (o :: rest) a w :=
  wpList_load_row_g hw 29 x ho g hx t _ fr _ hg Tryz.underlying29 rfl infoSc h
set_option maxHeartbeats 4000000 in
theorem awake8_any (w : World) (L : LT w) : Calls Tryz.prog 9 #[] w fun e w' => e = .returned (.bool true) ∧ Below w.heap.size w w' := by
  obtain ⟨s, hs⟩ : ∃ s, s = txt ex8 := ⟨_, rfl⟩
  have hs' : (⟨#[109, 101, 115, 115, 97, 103, 101, 32, 65, 32, 123, 32, 65, 32, 97, 32, 61, 32, 50, 59, 32, 105, 110, 116, 54, 52, 32, 98, 32, 61, 32, 49, 59, 32, 125]⟩ : ByteArray) = s := hs.symm
  have hrd := fun wx (hx : LT wx) => readT_any s (by rw [hs]; decide) wx hx (by rw [hs, txt_list, ex8_par.1]; exact ex8_in)
  rw [hs, txt_list, ex8_read.1, ex8_read.2.1, ex8_read.2.2, ← hs] at hrd
  have HRD := Lib.hid hrd
  have HL := Lib.hid L
  clear hrd hs L
  go_enter Tryz.func9, Tryz.ntmps9
  simp only [hs']
  clear hs'
  go_wp2_with fail
  refine (HRD.out _ HL.out).mono ?_
  rintro e w1 ⟨vM, vE, rfl, hsr, hb1⟩
  have HB1 := Lib.hid hb1
  have HSA := Lib.hid hsr.at
  obtain ⟨xs, ys, g1, g2, g3, g4⟩ := hsr
  obtain ⟨A1, q1, rfl, s1⟩ := Sl.of_own g1
  obtain ⟨A2, q2, rfl, -⟩ := Sl.of_own g3
  obtain ⟨ad, vF, rfl, hgd, hrF, c0, c1⟩ := mdr_at (k := 0) s1 (MdsAt.of_own g2) rfl
  obtain ⟨AF, qF, rfl, -, -⟩ := hrF
  have e1 : ex8S.M.length = 1 := rfl
  have e2 : ex8S.E.length = 0 := rfl
  have HF1 := Lib.hid (fun w2 (hb2 : Below w1.heap.size w1 w2) => Find_any w1.heap.size ex8S _ _ 0 [97] w2 hb2.size (HSA.out.low (Low.below hb2 (Nat.le_refl _))))
  have HF2 := Lib.hid (fun w2 (hb2 : Below w1.heap.size w1 w2) => By_any w1.heap.size ex8S _ _ 0 1 w2 hb2.size (HSA.out.low (Low.below hb2 (Nat.le_refl _))))
  have HMY := Lib.hid (fun w2 (hb2 : Below w1.heap.size w1 w2) => may_any w1.heap.size ex8S _ _ w2 hb2.size (HSA.out.low (Low.below hb2 (Nat.le_refl _))) ex8_scin (HL.out.tabs.on (below_then HB1.out hb2)))
  rw [ex8_find.1, e1, e2] at HF1
  rw [ex8_find.2, e1, e2] at HF2
  rw [e1, e2] at HMY
  rw [e1, e2]
  clear g1 g2 g3 g4 hb1 s1
  go_wp2_with fail
  have HB2 := Lib.hid (below_lit HB1.out (.cells #[.slice (some ad) 1 q1, .slice A2 0 q2] 29))
  have hbx := below_new w1 (.cells #[.slice (some ad) 1 q1, .slice A2 0 q2] 29)
  have hbo : (w1.alloc (.cells #[.slice (some ad) 1 q1, .slice A2 0 q2] 29)).heap[w1.heap.size]? = some (.cells #[.slice (some ad) 1 q1, .slice A2 0 q2] 29 (0, 0)) := heap_alloc_new w1 _
  refine (HF1.out _ hbx).mono ?_
  rintro e w2 ⟨rfl, hb2⟩
  have hbo2 := (hb2.block _ (by simp)).trans hbo
  have hbx2 := below_then hbx hb2
  unfold foundV
  simp only [DC, Option.getD_some, Option.isSome_some]
  have hbo3 := ((below_new w2 (.cells #[.int .i64 2, .string (txt [97]), .int .i64 9, .int .i64 0, .bool false, .int .i64 (-1), .int .i64 0] 39)).block _ (Array.getElem?_eq_some_iff.1 hbo2).1).trans hbo2
  clear hbo2 hbo hbx
  go_wp2_with (refine wpList_load_sc rfl _ rfl w1.heap.size _ _ rfl _ _ hbo3 ?_)
  refine (HF2.out _ (below_lit hbx2 _)).mono ?_
  rintro e w3 ⟨rfl, hb3⟩
  have hb4 := below_then (below_lit hbx2 (.cells #[.int .i64 2, .string (txt [97]), .int .i64 9, .int .i64 0, .bool false, .int .i64 (-1), .int .i64 0] 39)) hb3
  have hf0 : (w2.alloc (.cells #[.int .i64 2, .string (txt [97]), .int .i64 9, .int .i64 0, .bool false, .int .i64 (-1), .int .i64 0] 39)).heap[w2.heap.size]? = some (.cells #[.int .i64 2, .string (txt [97]), .int .i64 9, .int .i64 0, .bool false, .int .i64 (-1), .int .i64 0] 39 (0, 0)) := heap_alloc_new w2 _
  have hf3 := (hb3.block _ (by simp)).trans hf0
  have hbo4 := (hb3.block _ (Array.getElem?_eq_some_iff.1 hbo3).1).trans hbo3
  unfold foundV
  simp only [DC, Option.getD_some, Option.isSome_some]
  clear hbo3 hf0 hb3 hb2
  rw [show txt [98] = ⟨#[98]⟩ from rfl]
  have hgx := below_new w3 (.cells #[.int .i64 1, .string ⟨#[98]⟩, .int .i64 0, .int .i64 0, .bool false, .int .i64 (-1), .int .i64 0] 39)
  have hg5 : (w3.alloc (.cells #[.int .i64 1, .string ⟨#[98]⟩, .int .i64 0, .int .i64 0, .bool false, .int .i64 (-1), .int .i64 0] 39)).heap[w3.heap.size]? = some (.cells #[.int .i64 1, .string ⟨#[98]⟩, .int .i64 0, .int .i64 0, .bool false, .int .i64 (-1), .int .i64 0] 39 (0, 0)) := heap_alloc_new w3 _
  have hbo5 := (hgx.block _ (Array.getElem?_eq_some_iff.1 hbo4).1).trans hbo4
  have hf5 := (hgx.block _ (Array.getElem?_eq_some_iff.1 hf3).1).trans hf3
  have hb5 := below_then hb4 hgx
  have d0 := heap_cell hbo5 0
  have f2 := heap_cell hf5 2
  have f0 := heap_cell hf5 0
  have c5 := (hb5.cell (by cases ad; exact hgd)).trans c1
  simp at d0 f2 f0
  simp only [Nat.zero_mul, List.length_cons, List.length_nil, Nat.reduceAdd] at c5
  rw [show ad.add 0 = ad from rfl] at c5
  have HB5 := Lib.hid hb5
  have HBW := Lib.hid (below_then HB1.out hb5)
  clear hf3 hbo4 hf5 hg5 hgx hb4 hb5 c0 c1 e1 e2 hbx2
  go_wp2_with (first
    | (refine wpList_load_scg rfl _ rfl w1.heap.size _ _ rfl _ _ hbo5 ?_)
    | (go_at_call 25; refine (HMY.out _ HB5.out).mono ?_; rintro e w6 ⟨b, rfl, hbb, hb6⟩))
  go_ret
  exact ⟨by rw [hbb.2 ex8_may]; rfl, below_then HBW.out hb6⟩
end Go.Proofs.YtciiemomfniecaaGreatDoor
/-
  Is a file, or a schema, not too great: the contracts.
-/
namespace Go.Proofs.YtciiemomfniecaaGreatDoor
set_option maxRecDepth 100000

open Go.RowKit

def fewM (m : Ms) : Bool := decide (m.F.length ≤ 40) && decide (m.ones.length ≤ 40) && decide (m.res.length ≤ 40)
def fewE (e : En) : Bool := decide (e.V.length ≤ 40)
def fewF (f : Fl) : Bool := decide (f.M.length ≤ 30) && decide (f.E.length ≤ 30) && f.M.all fewM && f.E.all fewE
theorem all_next {α : Type} {g : α → Bool} {l : List α} {k : Nat} {x : α} (h : l[k]? = some x) : (l.take (k + 1)).all g = ((l.take k).all g && g x) := by
  rw [List.take_add_one, h]; simp [List.all_append]
theorem all_part {α : Type} {g : α → Bool} {l : List α} {k : Nat} (h : (l.take k).all g = false) : l.all g = false := by
  rw [← List.take_append_drop k l, List.all_append, h, Bool.false_and]
theorem few_end {α : Type} {g : α → Bool} {c : Bool} {l : List α} {k : Nat} (h : false = (c && (l.take k).all g)) : (c && l.all g) = false := by
  cases c with
  | false => rfl
  | true =>
    rw [Bool.true_and] at h ⊢
    exact all_part h.symm
set_option maxRecDepth 1000000 in
set_option maxHeartbeats 4000000 in
theorem few_any (B : Nat) (f : Fl) (vM vE : Value) (w : World) (hB : B ≤ w.heap.size) (hf : FAt B w f vM vE) :
    Calls Tryz.prog 10 #[.agg #[vM, vE]] w fun e w' => e = .returned (.bool (fewF f)) ∧ Below w.heap.size w w' := by
  obtain ⟨xs, ys, ⟨A1, q1, rfl, s1, b1⟩, h2, ⟨A2, q2, rfl, s2, b2⟩, h4⟩ := hf
  obtain ⟨M, E⟩ := f
  simp only at s1 s2 h2 h4 b1 b2
  have HS : Hid (fewF ⟨M, E⟩ = ((decide (M.length ≤ 30) && decide (E.length ≤ 30)) && M.all fewM && E.all fewE)) := Lib.hid rfl
  have hlow := Low.alloc w (.cells #[.slice A1 M.length q1, .slice A2 E.length q2] 25) hB
  have HM := Lib.hid (s1.low b1 hlow)
  have HMA := Lib.hid (h2.low hlow)
  have HE := Lib.hid (s2.low b2 hlow)
  have HEA := Lib.hid (h4.low hlow)
  have hbox := heap_alloc_new w (.cells #[.slice A1 M.length q1, .slice A2 E.length q2] 25)
  have hbw := below_new w (.cells #[.slice A1 M.length q1, .slice A2 E.length q2] 25)
  by_cases hsm : M.length ≤ 30 ∧ E.length ≤ 30
  · have d1 : decide ((M.length : Int) ≤ 30) = true := by rw [decide_eq_true_eq]; omega
    have d2 : decide ((E.length : Int) ≤ 30) = true := by rw [decide_eq_true_eq]; omega
    have HS1 : Hid (fewF ⟨M, E⟩ = (M.all fewM && E.all fewE)) := Lib.hid (by rw [HS.out, decide_eq_true hsm.1, decide_eq_true hsm.2]; simp)
    have hml := hsm.1
    have hel := hsm.2
    clear hsm
    go_enter Tryz.func10, Tryz.ntmps10
    go_wp2_with fail
    generalize w.alloc (.cells #[.slice A1 M.length q1, .slice A2 E.length q2] 25) = W at *
    have HBW := Lib.hid hbw
    have b0 := heap_cell hbox 0
    have b1 := heap_cell hbox 1
    simp at b0 b1
    clear hbw hbox
    go_wp2
    go_loopw [3, 4] (fun o i wr => ∃ (k : Nat) (b : Bool), i = .int .i64 k ∧ o = .bool b ∧ k ≤ M.length ∧ b = (M.take k).all fewM ∧ wr = W) (fun _ i _ => M.length - (intOf i).toNat)
    case atStart => exact ⟨0, true, rfl, rfl, by omega, by simp, rfl⟩
    case round =>
      obtain ⟨k, b, rfl, rfl, hk, hb, rfl⟩ := hrel
      have HB := Lib.hid hb
      clear hb
      by_cases hlt : k < M.length
      · cases b with
        | true =>
          obtain ⟨m, hm⟩ : ∃ m, M[k]? = some m := ⟨_, List.getElem?_eq_getElem hlt⟩
          obtain ⟨ad, vF, vO, vR, rfl, hg, hmr, c0, c1, c2, c3, c4⟩ := msr_at HM.out HMA.out hm
          obtain ⟨AF, cF, rfl, -, -⟩ := hmr.f
          obtain ⟨AO, cO, rfl, -, -⟩ := hmr.o
          obtain ⟨AR, cR, rfl, -, -⟩ := hmr.r
          have HN := Lib.hid (all_next (g := fewM) hm)
          have HF : Hid (fewM m = (decide ((m.F.length : Int) ≤ 40) && decide ((m.ones.length : Int) ≤ 40) && decide ((m.res.length : Int) ≤ 40))) := Lib.hid (by
            unfold fewM
            have e : ∀ n : Nat, decide (n ≤ 40) = decide ((n : Int) ≤ 40) := fun n => by congr 1; apply propext; omega
            rw [e, e, e])
          clear hm hmr c0 c4
          obtain ⟨a1, ha1⟩ : ∃ a, decide ((m.F.length : Int) ≤ 40) = a := ⟨_, rfl⟩
          obtain ⟨a2, ha2⟩ : ∃ a, decide ((m.ones.length : Int) ≤ 40) = a := ⟨_, rfl⟩
          rw [ha1, ha2] at HF
          cases a1 <;> cases a2
          all_goals
            go_wp2
            refine ⟨⟨k + 1, _, by go_num, rfl, by omega, ?_, trivial⟩, by simp [intOf]; omega⟩
            have h := HB.out
            rw [HN.out, ← h, HF.out]
            simp
        | false =>
          obtain ⟨c, hc⟩ : ∃ c, c = false := ⟨_, rfl⟩
          have HS2 : Hid (fewF ⟨M, E⟩ = (c && E.all fewE)) := Lib.hid (by rw [HS1.out, hc, all_part HB.out.symm])
          go_wp2
          go_loopw [3, 5] (fun o i wx => ∃ (k : Nat) (b : Bool), i = .int .i64 k ∧ o = .bool b ∧ k ≤ E.length ∧ b = (c && (E.take k).all fewE) ∧ wx = wr) (fun _ i _ => E.length - (intOf i).toNat)
          case atStart => exact ⟨0, c, rfl, by rw [hc], by omega, by simp, rfl⟩
          case round =>
            obtain ⟨k, b, rfl, rfl, hk2, hb2, rfl⟩ := hrel
            have HB2 := Lib.hid hb2
            clear hb2
            by_cases hlt2 : k < E.length
            · cases b with
              | false =>
                go_wp2
                go_ret
                exact ⟨by rw [HS2.out, few_end HB2.out]; rfl, HBW.out⟩
              | true =>
                obtain ⟨e, he⟩ : ∃ e, E[k]? = some e := ⟨_, List.getElem?_eq_getElem hlt2⟩
                obtain ⟨ad2, vV, rfl, hg2, hmr2, g0, g1, g2⟩ := enr_at HE.out HEA.out he
                obtain ⟨AV, cV, rfl, -, -⟩ := hmr2
                have HN2 := Lib.hid (all_next (g := fewE) he)
                have HV : Hid (fewE e = decide ((e.V.length : Int) ≤ 40)) := Lib.hid (by unfold fewE; congr 1; apply propext; omega)
                clear he g0 g2
                go_wp2
                refine ⟨⟨k + 1, _, by go_num, rfl, by omega, ?_, trivial⟩, by simp [intOf]; omega⟩
                have h := HB2.out
                rw [HN2.out, ← Bool.and_assoc, ← h, Bool.true_and, HV.out]
            · obtain rfl : k = E.length := by omega
              go_wp2
              go_ret
              exact ⟨by rw [HS2.out]; have h := HB2.out; rw [List.take_length] at h; rw [← h]; rfl, HBW.out⟩
      · obtain rfl : k = M.length := by omega
        have HS2 : Hid (fewF ⟨M, E⟩ = (b && E.all fewE)) := Lib.hid (by rw [HS1.out]; have h := HB.out; rw [List.take_length] at h; rw [h])
        obtain ⟨c, hc⟩ : ∃ c, c = b := ⟨_, rfl⟩
        rw [← hc] at HS2
        clear HB
        go_wp2
        go_loopw [3, 5] (fun o i wx => ∃ (k : Nat) (b : Bool), i = .int .i64 k ∧ o = .bool b ∧ k ≤ E.length ∧ b = (c && (E.take k).all fewE) ∧ wx = wr) (fun _ i _ => E.length - (intOf i).toNat)
        case atStart => exact ⟨0, c, rfl, by rw [hc], by omega, by simp, rfl⟩
        case round =>
          obtain ⟨k, b, rfl, rfl, hk2, hb2, rfl⟩ := hrel
          have HB2 := Lib.hid hb2
          clear hb2
          by_cases hlt2 : k < E.length
          · cases b with
            | false =>
              go_wp2
              go_ret
              exact ⟨by rw [HS2.out, few_end HB2.out]; rfl, HBW.out⟩
            | true =>
              obtain ⟨e, he⟩ : ∃ e, E[k]? = some e := ⟨_, List.getElem?_eq_getElem hlt2⟩
              obtain ⟨ad2, vV, rfl, hg2, hmr2, g0, g1, g2⟩ := enr_at HE.out HEA.out he
              obtain ⟨AV, cV, rfl, -, -⟩ := hmr2
              have HN2 := Lib.hid (all_next (g := fewE) he)
              have HV : Hid (fewE e = decide ((e.V.length : Int) ≤ 40)) := Lib.hid (by unfold fewE; congr 1; apply propext; omega)
              clear he g0 g2
              go_wp2
              refine ⟨⟨k + 1, _, by go_num, rfl, by omega, ?_, trivial⟩, by simp [intOf]; omega⟩
              have h := HB2.out
              rw [HN2.out, ← Bool.and_assoc, ← h, Bool.true_and, HV.out]
          · obtain rfl : k = E.length := by omega
            go_wp2
            go_ret
            exact ⟨by rw [HS2.out]; have h := HB2.out; rw [List.take_length] at h; rw [← h]; rfl, HBW.out⟩
  · have HF : Hid (fewF ⟨M, E⟩ = false) := Lib.hid (by
      rw [HS.out]
      by_cases h1 : M.length ≤ 30
      · have h2 : ¬ E.length ≤ 30 := fun h => hsm ⟨h1, h⟩
        simp [h2]
      · simp [h1])
    have hor : decide ((M.length : Int) ≤ 30) = false ∨ (decide ((M.length : Int) ≤ 30) = true ∧ decide ((E.length : Int) ≤ 30) = false) := by
      by_cases h1 : M.length ≤ 30
      · right
        have h2 : ¬ E.length ≤ 30 := fun h => hsm ⟨h1, h⟩
        exact ⟨by rw [decide_eq_true_eq]; omega, by rw [decide_eq_false_iff_not]; omega⟩
      · left
        rw [decide_eq_false_iff_not]; omega
    have HBW := Lib.hid hbw
    clear hsm HS HM HMA HE HEA hbw
    rcases hor with d1 | ⟨d1, d2⟩
    all_goals
      go_enter Tryz.func10, Tryz.ntmps10
      go_wp2_with fail
      generalize w.alloc (.cells #[.slice A1 M.length q1, .slice A2 E.length q2] 25) = W at *
      have b0 := heap_cell hbox 0
      have b1 := heap_cell hbox 1
      simp at b0 b1
      clear hbox
      go_wp2
      go_loopw [3, 4] (fun o i wr => ∃ k : Nat, i = .int .i64 k ∧ o = .bool false ∧ k ≤ M.length ∧ wr = W) (fun _ _ _ => 0)
      case atStart => exact ⟨0, rfl, rfl, by omega, rfl⟩
      case round =>
        obtain ⟨k, rfl, rfl, hk, rfl⟩ := hrel
        by_cases hlt : k < M.length
        all_goals
          go_wp2
          go_loopw [3, 5] (fun o i wx => ∃ k : Nat, i = .int .i64 k ∧ o = .bool false ∧ k ≤ E.length ∧ wx = wr) (fun _ _ _ => 0)
          case atStart => exact ⟨0, rfl, rfl, by omega, rfl⟩
          case round =>
            obtain ⟨k2, rfl, rfl, hk2, rfl⟩ := hrel
            by_cases hlt2 : k2 < E.length
            all_goals
              go_wp2
              go_ret
              exact ⟨by rw [HF.out]; rfl, HBW.out⟩
end Go.Proofs.YtciiemomfniecaaGreatDoor
