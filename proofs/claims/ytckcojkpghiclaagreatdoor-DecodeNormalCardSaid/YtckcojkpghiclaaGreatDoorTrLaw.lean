/-
 A schema under way: its block, and its rows.
-/
import Derived.Test.YtckcojkpghiclaaGreatDoorTabMay
import Derived.Test.YtckcojkpghiclaaGreatDoorDecSlot2
import Derived.Test.YtckcojkpghiclaaGreatDoorTrAwake
import Derived.Lib.ConvBytes
import Derived.Deep.QuietTactic
namespace Go.Proofs.YtckcojkpghiclaaGreatDoor
set_option maxRecDepth 100000
open Go.RowKit Go.Maps
end Go.Proofs.YtckcojkpghiclaaGreatDoor
/-
 A file that is resolved: the contract.
-/
namespace Go.Proofs.YtckcojkpghiclaaGreatDoor
set_option maxRecDepth 100000
open Go.RowKit Go.Maps
end Go.Proofs.YtckcojkpghiclaaGreatDoor
/-
 A field that is found by its name, or number; a message by its name: the contracts.
-/
namespace Go.Proofs.YtckcojkpghiclaaGreatDoor
set_option maxRecDepth 100000
open Go.RowKit Go.Maps
def foundV (o : Option Df) : Value := .tuple #[.agg (DC (o.getD df0)).toArray, .bool o.isSome]
theorem find_first {l : List Df} {p : Df → Bool} {k : Nat} {d : Df} (h : ∀ j y, j < k → l[j]? = some y → p y = false) (hd : l[k]? = some d) (hp : p d = true) : l.find? p = some d := by
 rw [List.find?_eq_some_iff_getElem]
 obtain ⟨hk, rfl⟩ := List.getElem?_eq_some_iff.1 hd
 exact ⟨hp, k, hk, rfl, fun j hj => by rw [h j _ hj (List.getElem?_eq_getElem (by omega))]; rfl⟩
theorem find_none {l : List Df} {p : Df → Bool} (h : ∀ j y, j < l.length → l[j]? = some y → p y = false) : l.find? p = none := by
 rw [List.find?_eq_none]
 intro y hy
 obtain ⟨j, hj⟩ := List.mem_iff_getElem?.1 hy
 rw [h j y (List.getElem?_eq_some_iff.1 hj).1 hj]
 simp
theorem clo_no (d : Df) (x : Int) (P : Nat) (W : World) (hc : W.heap[P]? = some (.cells #[.int .i64 x] 3 (0, 0))) :
  Calls Tryz.prog 120 #[.agg #[.int .i64 d.no, .string (txt d.name), .int .i64 d.kind, .int .i64 d.ref, .bool d.rep, .int .i64 d.key, .int .i64 d.one], .pointer (some ⟨P, 0, none⟩)] W fun e w' => e = .returned (.bool (d.no == x)) ∧ Below W.heap.size W w' := by
 have c0 := heap_cell hc 0
 simp at c0
 have hlt := (Array.getElem?_eq_some_iff.1 hc).1
 clear hc
 go_enter Tryz.func120, Tryz.ntmps120
 go_wp2
 go_ret
 exact ⟨rfl, below_new _ _⟩
set_option maxRecDepth 1000000 in
set_option maxHeartbeats 4000000 in
theorem indexI_any (P : Nat) (x : Int) (A : Option Addr) (c : Nat) (l : List Df) (w : World) (hs : Sl w A l.length c 7 (dfv l)) (hc : w.heap[P]? = some (.cells #[.int .i64 x] 3 (0, 0))) :
  Calls Tryz.prog 167 #[.slice A l.length c, .func (.func 120) #[] #[.pointer (some ⟨P, 0, none⟩)]] w fun e w' => ∃ r : Int, e = .returned (.int .i64 r) ∧ ((r = -1 ∧ l.find? (fun d => d.no == x) = none) ∨ ∃ (k : Nat) (d : Df), r = k ∧ l[k]? = some d ∧ l.find? (fun d => d.no == x) = some d) ∧ Below w.heap.size w w' := by
 have hsm : l.length ≤ 9223372036854775807 := by have h1 := hs.le; have h2 := hs.cap; unfold maxLen at h2; omega
 have HS := Lib.hid hs
 have HC := Lib.hid hc
 clear hs hc
 go_enter Tryz.func167, Tryz.ntmps167
 go_wp2
 go_loopw [8] (fun i wr => ∃ k : Nat, i = .int .i64 k ∧ k ≤ l.length ∧ (∀ j y, j < k → l[j]? = some y → (y.no == x) = false) ∧ Below w.heap.size w wr) (fun i _ => l.length - (intOf i).toNat)
 case atStart => exact ⟨0, rfl, by omega, fun j y hj => by omega, Below.refl _ _⟩
 case round =>
  obtain ⟨k, rfl, hk, herr, hb⟩ := hrel
  have HQ := Lib.hid herr
  clear herr
  by_cases hlt : k < l.length
  ·obtain ⟨d, hd0⟩ : ∃ d, l[k]? = some d := ⟨_, List.getElem?_eq_getElem hlt⟩
   obtain ⟨ad, rfl, hg, c0, c1, c2, c3, c4, c5, c6⟩ := dfr_at (HS.out.on hb) hd0
   have HCL := clo_no d x P wr ((hb.block P (Array.getElem?_eq_some_iff.1 HC.out).1).trans HC.out)
   have HD0 := Lib.hid hd0
   clear hd0
   obtain ⟨v, hv⟩ : ∃ v, (d.no == x) = v := ⟨_, rfl⟩
   rw [hv] at HCL
   have HV := Lib.hid hv
   have HCL2 := Lib.hid HCL
   clear hv HCL
   cases v with
   | true =>
    go_wp2_with (go_at_call 120; refine HCL2.out.mono ?_; rintro e w1 ⟨rfl, hb1⟩)
    go_ret
    exact ⟨k, rfl, .inr ⟨k, d, rfl, HD0.out, find_first HQ.out HD0.out HV.out⟩, hb.trans (hb1.mono hb.size)⟩
   | false =>
    go_wp2_with (go_at_call 120; refine HCL2.out.mono ?_; rintro e w1 ⟨rfl, hb1⟩)
    refine ⟨⟨k + 1, by go_num, by omega, fun j y hj hy => ?_, hb.trans (hb1.mono hb.size)⟩, by simp [intOf]; omega⟩
    by_cases hj2 : j < k
    ·exact HQ.out j y hj2 hy
    ·obtain rfl : j = k := by omega
     rw [HD0.out] at hy
     obtain rfl := Option.some.inj hy
     exact HV.out
  ·obtain rfl : k = l.length := by omega
   go_wp2
   go_ret
   exact ⟨-1, rfl, .inl ⟨rfl, find_none HQ.out⟩, hb⟩
set_option maxRecDepth 1000000 in
set_option maxHeartbeats 4000000 in
theorem firstI_any (B : Nat) (s : Sc) (vM vE : Value) (m : Int) (P : Nat) (x : Int) (w : World) (hB : B ≤ w.heap.size) (hs : SAt B w s vM vE) (hc : w.heap[P]? = some (.cells #[.int .i64 x] 3 (0, 0))) :
  Calls Tryz.prog 119 #[.agg #[vM, vE], .int .i64 m, .func (.func 120) #[] #[.pointer (some ⟨P, 0, none⟩)]] w fun e w' => e = .returned (foundV (byS s m x)) ∧ Below w.heap.size w w' := by
 obtain ⟨xs, ys, ⟨A1, q1, rfl, s1, b1⟩, h2, ⟨A2, q2, rfl, s2, b2⟩, h4⟩ := hs
 have hb0 : Below w.heap.size w ((w.alloc (.cells #[.slice A1 s.M.length q1, .slice A2 s.E.length q2] 25)).alloc (.cells #[.int .i64 0, .string ⟨#[]⟩, .int .i64 0, .int .i64 0, .bool false, .int .i64 0, .int .i64 0] 45)) := below_lit (below_new _ _) _
 have hx0 : ((w.alloc (.cells #[.slice A1 s.M.length q1, .slice A2 s.E.length q2] 25)).alloc (.cells #[.int .i64 0, .string ⟨#[]⟩, .int .i64 0, .int .i64 0, .bool false, .int .i64 0, .int .i64 0] 45)).heap[w.heap.size]? = some (.cells #[.slice A1 s.M.length q1, .slice A2 s.E.length q2] 25 (0, 0)) := ((below_new _ _).block _ (by simp)).trans (heap_alloc_new w _)
 have hr0 := heap_second w (.cells #[.slice A1 s.M.length q1, .slice A2 s.E.length q2] 25) (.cells #[.int .i64 0, .string ⟨#[]⟩, .int .i64 0, .int .i64 0, .bool false, .int .i64 0, .int .i64 0] 45)
 have hs0 : ((w.alloc (.cells #[.slice A1 s.M.length q1, .slice A2 s.E.length q2] 25)).alloc (.cells #[.int .i64 0, .string ⟨#[]⟩, .int .i64 0, .int .i64 0, .bool false, .int .i64 0, .int .i64 0] 45)).heap.size = w.heap.size + 2 := by simp
 have hsm : s.M.length ≤ 9223372036854775807 := by have h1 := s1.le; have h2 := s1.cap; unfold maxLen at h2; omega
 have HM := Lib.hid s1
 have HMA := Lib.hid h2
 have HC := Lib.hid ((hb0.block P (Array.getElem?_eq_some_iff.1 hc).1).trans hc)
 clear s1 h2 s2 h4 hc
 by_cases hm : 0 ≤ m ∧ m < s.M.length
 ·obtain ⟨k, rfl⟩ : ∃ k : Nat, m = k := ⟨m.toNat, by omega⟩
  have hlt : k < s.M.length := by omega
  obtain ⟨d, hd0⟩ : ∃ d, s.M[k]? = some d := ⟨_, List.getElem?_eq_getElem hlt⟩
  have hn : byS s (k : Int) x = d.F.find? (fun y => y.no == x) := by
   have e : msgAt s (k : Int) = some d := by unfold msgAt; rw [if_neg (by omega), Int.toNat_natCast, hd0]
   unfold byS
   rw [e]
   rfl
  obtain ⟨ad, vF, rfl, hg, hmr, c0, c1⟩ := mdr_at (HM.out.low b1 (Low.below hb0 hB)) (HMA.out.low (Low.below hb0 hB)) hd0
  have HR := Lib.hid hmr
  obtain ⟨AF, cF, hvF, sF, aF⟩ := id hmr
  subst hvF
  have HIX := Lib.hid (indexI_any P x AF cF d.F _ sF HC.out)
  have HN := Lib.hid hn
  have HSF := Lib.hid sF
  have HD0 := Lib.hid hd0
  clear hm hn hmr sF hd0
  have h1 : decide ((k : Int) < 0) = false := by rw [decide_eq_false_iff_not]; omega
  have h2 : decide ((s.M.length : Int) ≤ (k : Int)) = false := by rw [decide_eq_false_iff_not]; omega
  have h3 : decide ((k : Int) ≥ (s.M.length : Int)) = false := by rw [decide_eq_false_iff_not]; omega
  go_enter Tryz.func119, Tryz.ntmps119
  go_wp2_with fail
  refine HIX.out.mono ?_
  rintro e w1 ⟨r, rfl, hr, hb1⟩
  have hx1 := (hb1.block _ (by rw [hs0]; omega)).trans hx0
  have hr1 := (hb1.block _ (by rw [hs0]; omega)).trans hr0
  have hbw1 := below_then hb0 hb1
  rcases hr with ⟨rfl, hf⟩ | ⟨i, y, rfl, hy, hf⟩
  ·have HF := Lib.hid (HN.out.trans hf)
   clear hf
   go_wp2_with (refine wpList_store_df rfl _ _ rfl rfl (w.heap.size + 1) _ _ _ _ _ _ _ _ _ _ _ _ _ _ rfl rfl _ hr1 ?_)
   refine bodyPost_ret (results_df1 rfl _ _ (w.heap.size + 1) _ _ _ _ _ _ _ _ (0, 0) rfl (setRow_heap _ _ _ _ _ _ hr1)) rfl ?_
   exact ⟨by rw [HF.out]; rfl, below_setRow hbw1 (by omega) _⟩
  ·have HF := Lib.hid (HN.out.trans hf)
   obtain ⟨ad2, vF2, had, hg2, hmr2, g0, g1⟩ := mdr_at (HM.out.low b1 (Low.below hbw1 hB)) (HMA.out.low (Low.below hbw1 hB)) HD0.out
   obtain rfl := Option.some.inj had
   have hcc := (hb1.cell (p := ⟨(ad.add (k * 2)).block, (ad.add (k * 2)).off + 1, none⟩) (by show (ad.add (k * 2)).block < _; rw [add_same_block]; exact hg)).trans c1
   obtain ⟨ad3, had3, hg3, k0, k1, k2, k3, k4, k5, k6⟩ := dfr_at (HSF.out.on hb1) hy
   subst had3
   have y0 := heap_cell hx1 0
   simp at y0
   have hi1 : decide ((i : Int) < 0) = false := by rw [decide_eq_false_iff_not]; omega
   have hil := (List.getElem?_eq_some_iff.1 hy).1
   clear hf hy g0 g1 hmr2
   go_wp2_with (refine wpList_store_df rfl _ _ rfl rfl (w.heap.size + 1) _ _ _ _ _ _ _ _ _ _ _ _ _ _ rfl rfl _ hr1 ?_)
   refine bodyPost_ret (results_df1 rfl _ _ (w.heap.size + 1) _ _ _ _ _ _ _ _ (0, 0) rfl (setRow_heap _ _ _ _ _ _ hr1)) rfl ?_
   exact ⟨by rw [HF.out]; rfl, below_setRow hbw1 (by omega) _⟩
 ·have HN : Hid (byS s m x = none) := Lib.hid (by
   have e : msgAt s m = none := by
    unfold msgAt
    split
    ·rfl
    ·exact List.getElem?_eq_none (by omega)
   unfold byS
   rw [e]
   rfl)
  obtain ⟨v1, hv1⟩ : ∃ v, decide (m < 0) = v := ⟨_, rfl⟩
  obtain ⟨v2, hv2⟩ : ∃ v, decide ((s.M.length : Int) ≤ m) = v := ⟨_, rfl⟩
  have HV : Hid ((v1 || v2) = true) := Lib.hid (by rw [← hv1, ← hv2]; simp only [Bool.or_eq_true, decide_eq_true_eq]; omega)
  have hv3 : decide (m ≥ (s.M.length : Int)) = v2 := hv2
  clear hm
  cases v1 <;> cases v2
  ·exact absurd HV.out (by simp)
  all_goals
   go_enter Tryz.func119, Tryz.ntmps119
   go_wp2_with (refine wpList_store_df rfl _ _ rfl rfl (w.heap.size + 1) _ _ _ _ _ _ _ _ _ _ _ _ _ _ rfl rfl _ hr0 ?_)
   refine bodyPost_ret (results_df1 rfl _ _ (w.heap.size + 1) _ _ _ _ _ _ _ _ (0, 0) rfl (setRow_heap _ _ _ _ _ _ hr0)) rfl ?_
   exact ⟨by rw [HN.out]; rfl, below_setRow hb0 (by omega) _⟩
set_option maxRecDepth 1000000 in
set_option maxHeartbeats 4000000 in
theorem By_any (B : Nat) (s : Sc) (vM vE : Value) (m : Int) (x : Int) (w : World) (hB : B ≤ w.heap.size) (hs : SAt B w s vM vE) :
  Calls Tryz.prog 86 #[.agg #[vM, vE], .int .i64 m, .int .i64 x] w fun e w' => e = .returned (foundV (byS s m x)) ∧ Below w.heap.size w w' := by
 obtain ⟨xs, ys, ⟨A1, q1, hv1, s1, b1⟩, h2, ⟨A2, q2, hv2, s2, b2⟩, h4⟩ := id hs
 subst hv1 hv2
 clear s1 h2 s2 h4
 have hb0 : Below w.heap.size w (((w.alloc (.cells #[.slice A1 s.M.length q1, .slice A2 s.E.length q2] 25)).alloc (.cells #[.int .i64 x] 3)).alloc (.cells #[.int .i64 0, .string ⟨#[]⟩, .int .i64 0, .int .i64 0, .bool false, .int .i64 0, .int .i64 0] 45)) := below_lit (below_lit (below_new _ _) _) _
 have hc0 : (((w.alloc (.cells #[.slice A1 s.M.length q1, .slice A2 s.E.length q2] 25)).alloc (.cells #[.int .i64 x] 3)).alloc (.cells #[.int .i64 0, .string ⟨#[]⟩, .int .i64 0, .int .i64 0, .bool false, .int .i64 0, .int .i64 0] 45)).heap[w.heap.size + 1]? = some (.cells #[.int .i64 x] 3 (0, 0)) := ((below_new _ _).block _ (by simp)).trans (heap_second w _ _)
 have hr0 : (((w.alloc (.cells #[.slice A1 s.M.length q1, .slice A2 s.E.length q2] 25)).alloc (.cells #[.int .i64 x] 3)).alloc (.cells #[.int .i64 0, .string ⟨#[]⟩, .int .i64 0, .int .i64 0, .bool false, .int .i64 0, .int .i64 0] 45)).heap[w.heap.size + 1 + 1]? = some (.cells #[.int .i64 0, .string ⟨#[]⟩, .int .i64 0, .int .i64 0, .bool false, .int .i64 0, .int .i64 0] 45 (0, 0)) := by
  have := heap_second (w.alloc (.cells #[.slice A1 s.M.length q1, .slice A2 s.E.length q2] 25)) (.cells #[.int .i64 x] 3) (.cells #[.int .i64 0, .string ⟨#[]⟩, .int .i64 0, .int .i64 0, .bool false, .int .i64 0, .int .i64 0] 45)
  rw [World.size_alloc] at this
  exact this
 have HF := Lib.hid (firstI_any B s (.slice A1 s.M.length q1) (.slice A2 s.E.length q2) m (w.heap.size + 1) x _ (Nat.le_trans hB hb0.size) (hs.low (Low.below hb0 hB)) hc0)
 clear hs hc0
 go_enter Tryz.func86, Tryz.ntmps86
 go_wp2_with fail
 refine HF.out.mono ?_
 rintro e w1 ⟨rfl, hb1⟩
 have hr1 := (hb1.block _ (by simp)).trans hr0
 unfold foundV
 simp only [DC]
 go_wp2_with (refine wpList_store_df rfl _ _ rfl rfl (w.heap.size + 1 + 1) _ _ _ _ _ _ _ _ _ _ _ _ _ _ rfl rfl _ hr1 ?_)
 refine bodyPost_ret (results_df1 rfl _ _ (w.heap.size + 1 + 1) _ _ _ _ _ _ _ _ (0, 0) rfl (setRow_heap _ _ _ _ _ _ hr1)) rfl ?_
 exact ⟨rfl, below_setRow (below_then hb0 hb1) (by omega) _⟩
end Go.Proofs.YtckcojkpghiclaaGreatDoor
/-
 What is asked of values: the contracts of isMap, isMany, isUtf, and of the closures that asks makes.
-/
namespace Go.Proofs.YtckcojkpghiclaaGreatDoor.T9
set_option maxRecDepth 100000
open Go.Proofs.YtckcojkpghiclaaGreatDoor.T4
open Go.RowKit Go.Maps
theorem isMap_any (f : Df) (w : World) :
  Calls Tryz.prog 130 #[.agg #[.int .i64 f.no, .string (txt f.name), .int .i64 f.kind, .int .i64 f.ref, .bool f.rep, .int .i64 f.key, .int .i64 f.one]] w fun e w' => e = .returned (.bool (f.key != -1)) ∧ Below w.heap.size w w' := by
 go_enter Tryz.func130, Tryz.ntmps130
 go_wp2
 go_ret
 exact ⟨rfl, below_new _ _⟩
set_option maxRecDepth 1000000 in
set_option maxHeartbeats 2000000 in
theorem isMany_any (f : Df) (k v : Nat) (w : World) :
  Calls Tryz.prog 175 #[.agg #[.int .i64 f.no, .string (txt f.name), .int .i64 f.kind, .int .i64 f.ref, .bool f.rep, .int .i64 f.key, .int .i64 f.one], .int .i64 k, .int .i64 v] w fun e w' => e = .returned (.bool (manyB f k v)) ∧ Below w.heap.size w w' := by
 have LBD := below_new w (dC f)
 have X1 := heap_alloc_new w (dC f)
 have HB : Hid (manyB f k v = if f.key = -1 then (k == 0) && (f.rep || v == 1) else k == v) := Lib.hid rfl
 have H1 := isMap_any f (w.alloc (dC f))
 obtain ⟨d, hd⟩ : ∃ d, (f.key != -1) = d := ⟨_, rfl⟩
 rw [hd] at H1
 cases d with
 | true =>
  rw [if_neg (by simpa using hd)] at HB
  clear hd
  have HE : Hid ((k == v) = ((k : Int) == (v : Int))) := Lib.hid (by rw [Bool.eq_iff_iff]; simp; omega)
  go_enter Tryz.func175, Tryz.ntmps175
  go_wp2_with (go_at_call 130; refine H1.mono ?_; rintro e w1 ⟨rfl, hb1⟩)
  go_ret
  exact ⟨by rw [HB.out, HE.out]; rfl, below_then LBD hb1⟩
 | false =>
  rw [if_pos (by simpa using hd)] at HB
  clear hd
  have HE : Hid ((k == 0) = ((k : Int) == 0)) := Lib.hid (by rw [Bool.eq_iff_iff]; simp)
  have HV : Hid ((v == 1) = ((v : Int) == 1)) := Lib.hid (by rw [Bool.eq_iff_iff]; simp; omega)
  rw [HE.out, HV.out] at HB
  obtain ⟨d1, hd1⟩ : ∃ d, ((k : Int) == 0) = d := ⟨_, rfl⟩
  obtain ⟨d2, hd2⟩ : ∃ d, f.rep = d := ⟨_, rfl⟩
  obtain ⟨d3, hd3⟩ : ∃ d, ((v : Int) == 1) = d := ⟨_, rfl⟩
  rw [hd1, hd2, hd3] at HB
  have HX : ∀ w1, Below (w.alloc (dC f)).heap.size (w.alloc (dC f)) w1 → w1.cell? ⟨w.heap.size, 4, none⟩ = some (.bool d2) := fun w1 hb1 => by
   have := heap_cell (box_on X1 hb1) 4
   rw [← hd2]
   simpa using this
  have HX := Lib.hid HX
  clear HE HV hd2
  go_enter Tryz.func175, Tryz.ntmps175
  cases d1 <;> cases d2 <;> cases d3
  all_goals
   go_wp2_with (go_at_call 130; refine H1.mono ?_; rintro e w1 ⟨rfl, hb1⟩; have d4 := HX.out _ hb1)
   go_ret
   exact ⟨by rw [HB.out]; rfl, below_then LBD hb1⟩
theorem below_bytes (w : World) (e : TypeId) (s : ByteArray) : Below w.heap.size w (Lib.bytesWorld w e s) :=
 ⟨rfl, rfl, rfl, by rw [Lib.bytesWorld_size]; omega, fun k hk => Lib.bytesWorld_at_old w e s k hk⟩
theorem bytes_sl (w : World) (e : TypeId) (l : List UInt8) (hl : l.length ≤ maxLen) : SlB (Lib.bytesWorld w e (txt l)) (some ⟨w.heap.size, 0, none⟩) (grownCap w l.length 0 e) l := by
 refine ⟨by simp [bs], grownCap_ge w _ 0 e, grownCap_le_maxLen w _ 0 e hl, by simp, fun ad ha _ => ?_, fun ad ha k u hu => ?_⟩
 ·obtain rfl := Option.some.inj ha
  rw [Lib.bytesWorld_size]
  exact Nat.lt_succ_self _
 ·obtain rfl := Option.some.inj ha
  rw [Addr.add_lit, Nat.zero_add]
  have hk : k < l.length := by
   have := (List.getElem?_eq_some_iff.1 hu).1
   simpa [bs] using this
  rw [Lib.bytesWorld_cell w e (txt l) k (by simpa [txt, ByteArray.size] using hk), txt_list]
  rw [← hu]
  simp [bs, hk]
  rfl
set_option maxRecDepth 1000000 in
set_option maxHeartbeats 2000000 in
theorem isUtf_any (l : List UInt8) (hl : l.length ≤ 140737488351232) (w : World) :
  Calls Tryz.prog 203 #[.string (tx l)] w fun e w' => e = .returned (.bool (utfB l)) ∧ Below w.heap.size w w' := by
 show Calls Tryz.prog 203 #[.string (txt l)] w _
 have hcv := Lib.run_convert_string_bytes (P := Tryz.prog) w 9 26 5 (txt l) Tryz.underlying9 Tryz.underlying26 Tryz.underlying5
 rw [txt_size] at hcv
 have hsl := bytes_sl w 5 l (by unfold maxLen; omega)
 have HF := Lib.hid (fine_any _ _ l hl 0 l.length _ hsl)
 have hbb := below_bytes w 5 (txt l)
 have hsz : ((txt l).size : Int) = l.length := by rw [txt_size]
 have HB : Hid (utfB l = fineB l 0 l.length) := Lib.hid rfl
 clear hsl
 go_enter Tryz.func203, Tryz.ntmps203
 go_wp2_with fail
 refine HF.out.mono ?_
 rintro e w1 ⟨rfl, hb1⟩
 go_wp2
 go_ret
 exact ⟨by rw [HB.out]; rfl, below_then hbb hb1⟩
theorem emp_len {α : Type} (l : List α) : l.isEmpty = ((l.length : Int) == 0) := by
 cases l with
 | nil => rfl
 | cons x l => rw [Bool.eq_iff_iff]; simp; omega
theorem emp_str (l : List UInt8) : l.isEmpty = (tx l).toList.isEmpty := by
 rw [show tx l = txt l from rfl, Lib.toList_data, txt_list]
set_option maxRecDepth 1000000 in
set_option maxHeartbeats 2000000 in
theorem ask1_any (G : Int → Mg → Bool) (r : Int) (v : Vl') (A : Option Addr) (c : Nat) (w : World) (hl : v.s.length ≤ 140737488351232) :
  Calls Tryz.prog 202 #[.agg #[.int .i64 v.n, .string (tx v.s), .slice A v.M.length c]] w fun e w' => e = .returned (.bool (askG G 7 r v)) ∧ Below w.heap.size w w' := by
 have LBD := below_new w (.cells #[.int .i64 v.n, .string (tx v.s), .slice A v.M.length c] 81)
 have X1 := heap_alloc_new w (.cells #[.int .i64 v.n, .string (tx v.s), .slice A v.M.length c] 81)
 have HB : Hid (askG G 7 r v = ((v.n == 0) && (utfB v.s && ((v.M.length : Int) == 0)))) := Lib.hid (by unfold askG; rw [if_pos rfl, emp_len])
 have HU := Lib.hid (isUtf_any v.s hl (w.alloc (.cells #[.int .i64 v.n, .string (tx v.s), .slice A v.M.length c] 81)))
 obtain ⟨d1, hd1⟩ : ∃ d, (v.n == 0) = d := ⟨_, rfl⟩
 obtain ⟨d2, hd2⟩ : ∃ d, utfB v.s = d := ⟨_, rfl⟩
 obtain ⟨d3, hd3⟩ : ∃ d, ((v.M.length : Int) == 0) = d := ⟨_, rfl⟩
 rw [hd1, hd2, hd3] at HB
 rw [hd2] at HU
 clear hd2
 cases d1 with
 | false =>
  go_enter Tryz.func202, Tryz.ntmps202
  go_wp2
  go_ret
  exact ⟨by rw [HB.out]; rfl, LBD⟩
 | true =>
  cases d2 <;> cases d3
  all_goals
   go_enter Tryz.func202, Tryz.ntmps202
   go_wp2_with (go_at_call 203; refine HU.out.mono ?_; rintro e w1 ⟨rfl, hb1⟩; have d4 := (bx3 (box_on X1 hb1)).2.2)
   go_ret
   exact ⟨by rw [HB.out]; rfl, below_then LBD hb1⟩
set_option maxRecDepth 1000000 in
set_option maxHeartbeats 2000000 in
theorem ask2_any (G : Int → Mg → Bool) (r : Int) (v : Vl') (A : Option Addr) (c : Nat) (w : World) :
  Calls Tryz.prog 204 #[.agg #[.int .i64 v.n, .string (tx v.s), .slice A v.M.length c]] w fun e w' => e = .returned (.bool (askG G 8 r v)) ∧ Below w.heap.size w w' := by
 have LBD := below_new w (.cells #[.int .i64 v.n, .string (tx v.s), .slice A v.M.length c] 81)
 have HB : Hid (askG G 8 r v = ((v.n == 0) && ((v.M.length : Int) == 0))) := Lib.hid (by unfold askG; rw [if_neg (by decide), if_pos rfl, emp_len])
 obtain ⟨d1, hd1⟩ : ∃ d, (v.n == 0) = d := ⟨_, rfl⟩
 obtain ⟨d3, hd3⟩ : ∃ d, ((v.M.length : Int) == 0) = d := ⟨_, rfl⟩
 rw [hd1, hd3] at HB
 cases d1 <;> cases d3
 all_goals
  go_enter Tryz.func204, Tryz.ntmps204
  go_wp2
  go_ret
  exact ⟨by rw [HB.out]; rfl, LBD⟩
set_option maxRecDepth 1000000 in
set_option maxHeartbeats 2000000 in
theorem ask4_any (G : Int → Mg → Bool) (k r : Int) (h7 : k ≠ 7) (h8 : k ≠ 8) (h9 : k ≠ 9) (v : Vl') (A : Option Addr) (c P : Nat) (w : World) (hP : w.heap[P]? = some (.cells #[.int .i64 k] 3 (0, 0))) :
  Calls Tryz.prog 206 #[.agg #[.int .i64 v.n, .string (tx v.s), .slice A v.M.length c], .pointer (some ⟨P, 0, none⟩)] w fun e w' => e = .returned (.bool (askG G k r v)) ∧ Below w.heap.size w w' := by
 have LBD := below_new w (.cells #[.int .i64 v.n, .string (tx v.s), .slice A v.M.length c] 81)
 have X1 := heap_alloc_new w (.cells #[.int .i64 v.n, .string (tx v.s), .slice A v.M.length c] 81)
 have X0 := bx1 (box_on hP LBD)
 have HB : Hid (askG G k r v = (fitsB k v.n && ((tx v.s).toList.isEmpty && ((v.M.length : Int) == 0)))) := Lib.hid (by unfold askG; rw [if_neg h7, if_neg h8, if_neg h9, emp_str v.s, emp_len v.M])
 have HU := Lib.hid (fits_any k v.n (w.alloc (.cells #[.int .i64 v.n, .string (tx v.s), .slice A v.M.length c] 81)))
 obtain ⟨d1, hd1⟩ : ∃ d, fitsB k v.n = d := ⟨_, rfl⟩
 obtain ⟨d2, hd2⟩ : ∃ d, (tx v.s).toList.isEmpty = d := ⟨_, rfl⟩
 obtain ⟨d3, hd3⟩ : ∃ d, ((v.M.length : Int) == 0) = d := ⟨_, rfl⟩
 rw [hd1, hd2, hd3] at HB
 rw [hd1] at HU
 clear hd1 h7 h8 h9
 cases d1 <;> cases d2 <;> cases d3
 all_goals
  go_enter Tryz.func206, Tryz.ntmps206
  go_wp2_with (go_at_call 207; refine HU.out.mono ?_; rintro e w1 ⟨rfl, hb1⟩; obtain ⟨-, d5, d6⟩ := bx3 (box_on X1 hb1))
  go_ret
  exact ⟨by rw [HB.out]; rfl, below_then LBD hb1⟩
end Go.Proofs.YtckcojkpghiclaaGreatDoor.T9
/-
 The document's own: a slot's values, those of K first.
-/
namespace Go.Proofs.YtckcojkpghiclaaGreatDoor.T9
set_option maxRecDepth 100000
open Go.RowKit
theorem below_app {w w' : World} {B : Nat} {e : TypeId} {size : Nat} {v : Value} {n : Nat} {xs : List Value} (h : w.ownsRow B e size v n xs) (hg : w.grownBy w' v.ownBlock) (hs : B ≤ w.heap.size) : Below B w w' := below_rows h hg hs
end Go.Proofs.YtckcojkpghiclaaGreatDoor.T9
/-
 The document's own: is a tree not too great (truffleref09.Few)?
-/
namespace Go.Proofs.YtckcojkpghiclaaGreatDoor.T9
set_option maxRecDepth 100000
open Go.RowKit
end Go.Proofs.YtckcojkpghiclaaGreatDoor.T9
/-
 The document's own count of a tree, and whether it is not too great (truffleref09.count, Few).
-/
namespace Go.Proofs.YtckcojkpghiclaaGreatDoor.T9
set_option maxRecDepth 100000
open Go.RowKit
end Go.Proofs.YtckcojkpghiclaaGreatDoor.T9
/-
 Is a tree not too great: the document's own Few, and the laws' own few.
-/
namespace Go.Proofs.YtckcojkpghiclaaGreatDoor.T9
set_option maxRecDepth 100000
open Go.RowKit
end Go.Proofs.YtckcojkpghiclaaGreatDoor.T9
/-
 What the laws of layer 9 share: rows that are written out, slots that are set and read.
-/
namespace Go.Proofs.YtckcojkpghiclaaGreatDoor.T9
set_option maxRecDepth 100000
open Go.RowKit
theorem lit_row {w : World} {g B n size : Nat} {xs : List Value} {t : TypeId} {fr : Nat × Nat} (h : w.heap[g]? = some (.cells xs.toArray t fr)) (hl : xs.length = n * size) (hn : n ≤ 1000000) (hB : g < B) (e : TypeId) : Rd B w e size (.slice (some ⟨g, 0, none⟩) n n) n xs := by
 refine ⟨⟨some ⟨g, 0, none⟩, n, rfl, ⟨hl, Nat.le_refl _, by unfold maxLen; omega, by simp, fun ad ha _ => ?_, fun ad ha k u hu => ?_⟩, fun ad ha _ => ?_⟩, by omega⟩
 ·obtain rfl := Option.some.inj ha
  exact box_lt h
 ·obtain rfl := Option.some.inj ha
  rw [Addr.add_lit, Nat.zero_add, box_cell h]
  simpa using hu
 ·obtain rfl := Option.some.inj ha
  exact hB
theorem msg_shape {b D : Nat} {w : World} {m : Mg} {x : Value} (h : MAt (Ow b w) D m [x]) : ∃ A c, x = .slice A m.F.length c := by
 cases D with
 | zero => exact h.elim
 | succ D =>
  obtain ⟨u, hu, xs, ⟨hown, -⟩, -⟩ := h
  obtain rfl : x = u := by simpa using hu
  obtain ⟨A, c, rfl, -⟩ := Sl.of_own hown
  exact ⟨A, c, rfl⟩
theorem rd_shape {B D : Nat} {w : World} {m : Mg} {x : Value} (h : MRd B w D m x) : ∃ A c, x = .slice A m.F.length c := by
 cases D with
 | zero => exact h.elim
 | succ D =>
  obtain ⟨u, hu, hl⟩ := h
  obtain rfl : x = u := by simpa using hu
  obtain ⟨A, c, xs, rfl, -⟩ := hl.open_
  exact ⟨A, c, rfl⟩
theorem slot_shape {B D : Nat} {w : World} {s : So} {x y z : Value} (h : SAt' (Rd B w) D s [x, y, z]) : ∃ A1 c1 A2 c2, x = .int .i64 s.no ∧ y = .slice A1 s.K.length c1 ∧ z = .slice A2 s.V.length c2 := by
 obtain ⟨u1, u2, hu, hk, hv⟩ := h
 simp only [List.cons.injEq, and_true] at hu
 obtain ⟨rfl, rfl, rfl⟩ := hu
 obtain ⟨A1, c1, _, rfl, -⟩ := hk.open_
 obtain ⟨A2, c2, _, rfl, -⟩ := hv.open_
 exact ⟨A1, c1, A2, c2, rfl, rfl, rfl⟩
theorem own_rd {b D : Nat} {w : World} {m : Mg} {x : Value} (h : MAt (Ow b w) D m [x]) : MRd w.heap.size w D m x := MAt.imp (fun e size v n xs h => Rd.of_own e size v n xs h) D _ _ h
theorem rd_up {D : Nat} {w w' : World} {m : Mg} {x : Value} (hb : Below w.heap.size w w') (h : MRd w.heap.size w D m x) : MRd w'.heap.size w' D m x := MRd.mono hb.size (MRd.low (Lo.below hb (Nat.le_refl _)) h)
end Go.Proofs.YtckcojkpghiclaaGreatDoor.T9
