/-
 The document's own Find and By: the contracts.
-/
import Derived.Test.YtckcojkpghiclaaGreatDoorRtRoot
import Derived.Test.YtckcojkpghiclaaGreatDoorRecPut
import Derived.Deep.Fields
import Derived.Test.YtckcojkpghiclaaGreatDoorUtfFine
import Derived.SizedLaws
import Derived.Test.YtckcojkpghiclaaGreatDoorDecUnk
namespace Go.Proofs.YtckcojkpghiclaaGreatDoor
set_option maxRecDepth 100000
open Go.RowKit
set_option maxRecDepth 1000000 in
set_option maxHeartbeats 4000000 in
theorem rBy_any (B : Nat) (s : Sc) (vM vE : Value) (m : Int) (x : Int) (w : World) (hB : B ≤ w.heap.size) (hs : SAt B w s vM vE) :
  Calls Tryz.prog 18 #[.agg #[vM, vE], .int .i64 m, .int .i64 x] w fun e w' => e = .returned (foundV (byS s m x)) ∧ Below w.heap.size w w' := by
 obtain ⟨xs, ys, ⟨A1, q1, rfl, s1, b1⟩, h2, ⟨A2, q2, rfl, s2, b2⟩, h4⟩ := hs
 have hb0 : Below w.heap.size w ((w.alloc (.cells #[.slice A1 s.M.length q1, .slice A2 s.E.length q2] 25)).alloc (.cells #[.int .i64 0, .string ⟨#[]⟩, .int .i64 0, .int .i64 0, .bool false, .int .i64 0, .int .i64 0] 45)) := below_lit (below_new _ _) _
 have hx0 : ((w.alloc (.cells #[.slice A1 s.M.length q1, .slice A2 s.E.length q2] 25)).alloc (.cells #[.int .i64 0, .string ⟨#[]⟩, .int .i64 0, .int .i64 0, .bool false, .int .i64 0, .int .i64 0] 45)).heap[w.heap.size]? = some (.cells #[.slice A1 s.M.length q1, .slice A2 s.E.length q2] 25 (0, 0)) := ((below_new _ _).block _ (by simp)).trans (heap_alloc_new w _)
 have hr0 := heap_second w (.cells #[.slice A1 s.M.length q1, .slice A2 s.E.length q2] 25) (.cells #[.int .i64 0, .string ⟨#[]⟩, .int .i64 0, .int .i64 0, .bool false, .int .i64 0, .int .i64 0] 45)
 have hsm : s.M.length ≤ 9223372036854775807 := by have h1 := s1.le; have h2 := s1.cap; unfold maxLen at h2; omega
 have HM := Lib.hid (s1.low b1 (Low.below hb0 hB))
 have HMA := Lib.hid (h2.low (Low.below hb0 hB))
 have HB0 := Lib.hid hb0
 clear s1 h2 s2 h4 hB b1 b2
 go_enter Tryz.func18, Tryz.ntmps18
 go_upto_region 1 with fail
 obtain ⟨W0, hW0⟩ : ∃ W, W = ((w.alloc (.cells #[.slice A1 s.M.length q1, .slice A2 s.E.length q2] 25)).alloc (.cells #[.int .i64 0, .string ⟨#[]⟩, .int .i64 0, .int .i64 0, .bool false, .int .i64 0, .int .i64 0] 45)) := ⟨_, rfl⟩
 rw [← hW0] at HM HMA HB0 hx0 hr0 ⊢
 clear hW0 hb0
 have v0 := heap_cell hx0 0
 simp at v0
 by_cases hm : 0 ≤ m ∧ m < s.M.length
 ·obtain ⟨k, rfl⟩ : ∃ k : Nat, m = k := ⟨m.toNat, by omega⟩
  have hlt : k < s.M.length := by omega
  obtain ⟨d, hd0⟩ : ∃ d, s.M[k]? = some d := ⟨_, List.getElem?_eq_getElem hlt⟩
  have hn : byS s (k : Int) x = d.F.find? (fun y => y.no == x) := by
   have e : msgAt s (k : Int) = some d := by unfold msgAt; rw [if_neg (by omega), Int.toNat_natCast, hd0]
   unfold byS
   rw [e]
   rfl
  obtain ⟨ad, vF, rfl, hg, hmr, c0, c1⟩ := mdr_at HM.out HMA.out hd0
  obtain ⟨AF, cF, rfl, sF, aF⟩ := hmr
  have hfl : d.F.length ≤ 9223372036854775807 := by have h1 := sF.le; have h2 := sF.cap; unfold maxLen at h2; omega
  have HSF := Lib.hid sF
  have HN := Lib.hid hn
  have HX0 := Lib.hid hx0
  have HR0 := Lib.hid hr0
  have h1 : decide ((k : Int) < 0) = false := by rw [decide_eq_false_iff_not]; omega
  have h2 : decide ((s.M.length : Int) ≤ (k : Int)) = false := by rw [decide_eq_false_iff_not]; omega
  have h3 : decide ((k : Int) ≥ (s.M.length : Int)) = false := by rw [decide_eq_false_iff_not]; omega
  clear hm hn sF hd0 hx0 hr0
  go_wp2
  go_loopw [8] (fun i wr => ∃ j : Nat, i = .int .i64 j ∧ j ≤ d.F.length ∧ (∀ i y, i < j → d.F[i]? = some y → (y.no == x) = false) ∧ wr = W0) (fun i _ => d.F.length - (intOf i).toNat)
  case atStart => exact ⟨0, rfl, by omega, fun j y hj => by omega, rfl⟩
  case round =>
   obtain ⟨j, rfl, hj, herr, rfl⟩ := hrel
   have HQ := Lib.hid herr
   clear herr
   by_cases hlj : j < d.F.length
   ·obtain ⟨y, hy⟩ : ∃ d', d.F[j]? = some d' := ⟨_, List.getElem?_eq_getElem hlj⟩
    obtain ⟨ad3, rfl, hg3, k0, k1, k2, k3, k4, k5, k6⟩ := dfr_at HSF.out hy
    have HY := Lib.hid hy
    clear hy
    skip
    by_cases hx : y.no = x
    ·have he : (y.no == x) = true := beq_iff_eq.2 hx
     have HF := Lib.hid (HN.out.trans (find_first HQ.out HY.out (beq_iff_eq.2 hx)))
     clear hx
     go_wp2_with (refine wpList_store_df rfl _ _ rfl rfl (w.heap.size + 1) _ _ _ _ _ _ _ _ _ _ _ _ _ _ rfl rfl _ HR0.out ?_)
     refine bodyPost_ret (results_df1 rfl _ _ (w.heap.size + 1) _ _ _ _ _ _ _ _ (0, 0) rfl (setRow_heap _ _ _ _ _ _ HR0.out)) rfl ?_
     exact ⟨by rw [HF.out]; rfl, below_setRow HB0.out (by omega) _⟩
    ·have he : (y.no == x) = false := beq_eq_false_iff_ne.2 hx
     have HX := Lib.hid (show (y.no == x) = false from beq_eq_false_iff_ne.2 hx)
     clear hx
     go_wp2
     exact ⟨⟨j + 1, by go_num, by omega, not_next (P := fun y => (y.no == x) = false) HY.out HX.out HQ.out, trivial⟩, by simp [intOf]; omega⟩
   ·obtain rfl : j = d.F.length := by omega
    have HF := Lib.hid (HN.out.trans (find_none HQ.out))
    go_wp2_with (refine wpList_store_df rfl _ _ rfl rfl (w.heap.size + 1) _ _ _ _ _ _ _ _ _ _ _ _ _ _ rfl rfl _ HR0.out ?_)
    refine bodyPost_ret (results_df1 rfl _ _ (w.heap.size + 1) _ _ _ _ _ _ _ _ (0, 0) rfl (setRow_heap _ _ _ _ _ _ HR0.out)) rfl ?_
    exact ⟨by rw [HF.out]; rfl, below_setRow HB0.out (by omega) _⟩
 ·have HN : Hid (byS s m x = none) := Lib.hid (by
   have e : msgAt s m = none := by
    unfold msgAt
    split
    ·rfl
    ·exact List.getElem?_eq_none (by omega)
   unfold byS
   rw [e]
   rfl)
  obtain ⟨v1, hv1⟩ : ∃ v, decide (m < 0) = v := ⟨_, rfl⟩
  obtain ⟨v2, hv2⟩ : ∃ v, decide ((s.M.length : Int) ≤ m) = v := ⟨_, rfl⟩
  have HV : Hid ((v1 || v2) = true) := Lib.hid (by rw [← hv1, ← hv2]; simp only [Bool.or_eq_true, decide_eq_true_eq]; omega)
  have hv3 : decide (m ≥ (s.M.length : Int)) = v2 := hv2
  clear hm
  cases v1 <;> cases v2
  ·exact absurd HV.out (by simp)
  all_goals
   go_wp2_with (refine wpList_store_df rfl _ _ rfl rfl (w.heap.size + 1) _ _ _ _ _ _ _ _ _ _ _ _ _ _ rfl rfl _ hr0 ?_)
   refine bodyPost_ret (results_df1 rfl _ _ (w.heap.size + 1) _ _ _ _ _ _ _ _ (0, 0) rfl (setRow_heap _ _ _ _ _ _ hr0)) rfl ?_
   exact ⟨by rw [HN.out]; rfl, below_setRow HB0.out (by omega) _⟩
end Go.Proofs.YtckcojkpghiclaaGreatDoor
/-
 A record that comes in as an argument is five numbers.
-/
namespace Go.Proofs.YtckcojkpghiclaaGreatDoor
set_option maxRecDepth 100000
open Go.ChangeShapes Go.WideShapes Go.ChangeAt Go.RowKit Go.Deep
theorem cellsRec : Tryz.prog.cellsOf 41 = 5 := by kernel_rfl
def RecOk (a b : Int) (n : Nat) (f u : Int) : Prop := (-9223372036854775808 ≤ a ∧ a ≤ 9223372036854775807) ∧ (-9223372036854775808 ≤ b ∧ b ≤ 9223372036854775807) ∧ n < 18446744073709551616 ∧ (-9223372036854775808 ≤ f ∧ f ≤ 9223372036854775807) ∧ (-9223372036854775808 ≤ u ∧ u ≤ 9223372036854775807)
theorem open_rec {H : Type} {enc : TypeId × Value → H} {W : World} {base : Nat} {v : Value} {d : DataW H} {ps : List MemPlace}
  (hval : Value.okWide Tryz.prog W .any base 41 v) (h : DataW.Trod enc Tryz.prog W 0 (fun _ => true) true 41 v d ps) :
  ∃ (a b : Int) (n : Nat) (f u : Int), v = .agg #[.int .i64 a, .int .i64 b, .int .u64 n, .int .i64 f, .int .i64 u] ∧ RecOk a b n f u := by
 obtain ⟨cs, rfl, hsz⟩ := okWide_struct Tryz.underlying41 hval
 obtain ⟨l⟩ := cs
 have c3 : Tryz.prog.cellsOf 3 = 1 := by kernel_rfl
 have c23 : Tryz.prog.cellsOf 39 = 1 := by kernel_rfl
 obtain ⟨fuel, hf⟩ := h
 obtain ⟨xs, n, -, -, -, hxl, hg⟩ := DataW.trod_struct Tryz.underlying41 hf
 have hl : l.length = 5 := by simpa [cellsRec] using hsz
 have hx5 : xs.length = 5 := hxl
 obtain ⟨x0, x1, x2, x3, x4, rfl⟩ : ∃ x0 x1 x2 x3 x4, xs = [x0, x1, x2, x3, x4] := by
  match xs, hx5 with
  | [x0, x1, x2, x3, x4], _ => exact ⟨x0, x1, x2, x3, x4, rfl⟩
 obtain ⟨v0, v1, v2, v3, v4, rfl⟩ : ∃ v0 v1 v2 v3 v4, l = [v0, v1, v2, v3, v4] := by
  match l, hl with
  | [v0, v1, v2, v3, v4], _ => exact ⟨v0, v1, v2, v3, v4, rfl⟩
 have g0 : DataW.trod enc Tryz.prog W 0 (fun _ => true) true n 3 (List.take (Tryz.prog.cellsOf 3) [v0, v1, v2, v3, v4]) = some x0 := hg 0 _ rfl
 rw [c3] at g0
 have g1 : DataW.trod enc Tryz.prog W 0 (fun _ => true) true n 3 (List.take (Tryz.prog.cellsOf 3) [v1, v2, v3, v4]) = some x1 := hg 1 _ rfl
 rw [c3] at g1
 have g2 : DataW.trod enc Tryz.prog W 0 (fun _ => true) true n 39 (List.take (Tryz.prog.cellsOf 39) [v2, v3, v4]) = some x2 := hg 2 _ rfl
 rw [c23] at g2
 have g3 : DataW.trod enc Tryz.prog W 0 (fun _ => true) true n 3 (List.take (Tryz.prog.cellsOf 3) [v3, v4]) = some x3 := hg 3 _ rfl
 rw [c3] at g3
 have g4 : DataW.trod enc Tryz.prog W 0 (fun _ => true) true n 3 (List.take (Tryz.prog.cellsOf 3) [v4]) = some x4 := hg 4 _ rfl
 rw [c3] at g4
 obtain ⟨a, ha, -, wa⟩ := DataW.trod_int Tryz.underlying3 g0
 obtain ⟨b, hb, -, wb⟩ := DataW.trod_int Tryz.underlying3 g1
 obtain ⟨m, hm, -, wm⟩ := DataW.trod_int Tryz.underlying39 g2
 obtain ⟨f, hf', -, wf⟩ := DataW.trod_int Tryz.underlying3 g3
 obtain ⟨u, hu, -, wu⟩ := DataW.trod_int Tryz.underlying3 g4
 obtain rfl : v0 = _ := by simpa using ha
 obtain rfl : v1 = _ := by simpa using hb
 obtain rfl : v2 = _ := by simpa using hm
 obtain rfl : v3 = _ := by simpa using hf'
 obtain rfl : v4 = _ := by simpa using hu
 have bm := bounds_u64 wm
 obtain ⟨k, rfl⟩ := Int.eq_ofNat_of_zero_le bm.1
 exact ⟨a, b, k, f, u, rfl, bounds_i64 wa, bounds_i64 wb, by omega, bounds_i64 wf, bounds_i64 wu⟩
end Go.Proofs.YtckcojkpghiclaaGreatDoor
/-
 A slice of bytes that comes in takes at most as many bytes as the form says.
-/
namespace Go.Proofs.YtckcojkpghiclaaGreatDoor
set_option maxRecDepth 100000
open Go.ChangeShapes Go.WideShapes Go.ChangeAt Go.RowKit
theorem bytes_u8 : Tryz.prog.bytesOf 5 = 1 := by kernel_rfl
theorem open_bytes_sized {H : Type} {enc : TypeId × Value → H} {W : World} {base : Nat} {v : Value} {d : DataW H} {ps : List MemPlace}
  (hval : Value.okWide Tryz.prog W .any base 26 v) (h : DataW.Trod enc Tryz.prog W 0 (fun _ => true) true 26 v d ps)
  (hsz : ∀ es sp, d = .slice es sp → (es.length + sp.length) * Tryz.prog.bytesOf 5 ≤ reachBytes) :
  ∃ (A : Option Addr) (c : Nat) (l : List UInt8), v = .slice A l.length c ∧ SlB W A c l ∧ l.length ≤ 140737488351232 := by
 obtain ⟨A, c, l, rfl, hr⟩ := open_bytes hval h
 refine ⟨A, c, l, rfl, hr, ?_⟩
 obtain ⟨fuel, hf⟩ := h
 rcases open_ints Tryz.underlying26 Tryz.underlying5 cells_u8 hf with ⟨hcs, hx⟩ | ⟨a, len', cap', zs, hcs, _, hl, hm, hz, hx, hcell, hwz⟩
 ·simp [Value.cells] at hcs
  have := hcs.2.1
  subst this
  simp
 ·simp [Value.cells] at hcs
  obtain ⟨_, h2, _⟩ := hcs
  simp only [Prod.mk.injEq] at hx
  have := hsz _ _ hx.1
  rw [bytes_u8] at this
  simp only [lits, List.length_map, List.length_take, List.length_drop, reachBytes] at this
  simp only [if_true] at hz
  omega
end Go.Proofs.YtckcojkpghiclaaGreatDoor
/-
 A record that no field has, put between records, changes nothing of what is told: facts on lists.
-/
namespace Go.Proofs.YtckcojkpghiclaaGreatDoor.T11
set_option maxRecDepth 100000
open Go.Proofs.YtckcojkpghiclaaGreatDoor.T9 Go.Proofs.YtckcojkpghiclaaGreatDoor.T4 Go.Proofs.YtckcojkpghiclaaGreatDoor.T12
theorem runs_take (l : List UInt8) (u : Nat) (hu : u ≤ l.length) : ∀ (f a k : Nat), u - a ≤ f → a ≤ u → k ≤ (recs l u a).1.length →
  a ≤ ends a ((recs l u a).1.take k) ∧ ends a ((recs l u a).1.take k) ≤ u ∧ Runs ((l.drop a).take (ends a ((recs l u a).1.take k) - a))
 | f, a, 0, _, ha, _ => by
  rw [List.take_zero]
  show a ≤ a ∧ a ≤ u ∧ Runs ((l.drop a).take (a - a))
  rw [Nat.sub_self, List.take_zero]
  exact ⟨Nat.le_refl _, ha, Runs.nil⟩
 | f, a, k + 1, hf, ha, hk => by
  by_cases hau : a < u
  ·rcases recs_fst (l := l) hau with ⟨r, p, hn, hr⟩ | ⟨e, _, hr⟩
   ·have hw := next_win l a u ha hu
    rw [hn] at hw
    obtain ⟨r0, p0, e0, hw0⟩ : ∃ r p e, wnext ((l.drop a).take (u - a)) = (r, p, e) := ⟨_, _, _, rfl⟩
    rw [hw0] at hw
    unfold shR at hw
    by_cases he : e0 = 0
    ·subst he
     simp only [if_true] at hw
     obtain ⟨rfl, rfl, -⟩ := by simpa only [Prod.mk.injEq] using hw
     obtain ⟨g1, g2, g3, g4, g5⟩ := wnext_le hw0
     rw [List.length_take, List.length_drop] at g2
     have hp : a + p0 ≤ u := by omega
     rw [hr] at hk ⊢
     rw [List.take_succ_cons]
     simp only [ends]
     rw [g3]
     cases f with
     | zero => omega
     | succ f =>
      obtain ⟨i1, i2, i3⟩ := runs_take l u hu f (a + p0) k (by omega) hp (by simpa using hk)
      refine ⟨by omega, i2, ?_⟩
      generalize ends (a + p0) ((recs l u (a + p0)).1.take k) = E at *
      have h1 : (l.drop a).take (E - a) = (l.drop a).take p0 ++ ((l.drop a).drop p0).take (E - a - p0) := by
       conv => lhs; rw [show E - a = p0 + (E - a - p0) by omega, List.take_add]
      have h2 : ((l.drop a).take (u - a)).take p0 = (l.drop a).take p0 := by rw [List.take_take, Nat.min_eq_left (by omega)]
      have h3 := wnext_local hw0 (((l.drop a).drop p0).take (E - a - p0))
      rw [h2] at h3
      refine Runs.step (r := r0) (p := p0) (by rw [h1]; exact h3) ?_
      rw [h1, List.drop_left' (by rw [List.length_take, List.length_drop]; omega), List.drop_drop, show E - a - p0 = E - (a + p0) by omega]
      exact i3
    ·rw [if_neg he] at hw
     simp only [Prod.mk.injEq] at hw
     exact absurd hw.2.2.symm he
   ·rw [hr] at hk
    simp at hk
  ·rw [recs_end hau] at hk
   simp at hk
theorem unk_told (s : Sc) (m : Int) (l run : List UInt8) {no wire num : Nat} (hp : putB no wire = true) (hn : num < 18446744073709551616) (hr : run.length < 18446744073709551616) (hby : byS s m no = none) {k : Nat} (hk : k ≤ (recs l l.length 0).1.length) :
  toldE s m (l.take (ends 0 ((recs l l.length 0).1.take k)) ++ recL no wire num run ++ l.drop (ends 0 ((recs l l.length 0).1.take k))) = toldE s m l ∧ ends 0 ((recs l l.length 0).1.take k) ≤ l.length := by
 obtain ⟨-, h2, h3⟩ := runs_take l l.length (Nat.le_refl _) l.length 0 k (by omega) (Nat.zero_le _) hk
 generalize ends 0 ((recs l l.length 0).1.take k) = E at *
 rw [List.drop_zero, Nat.sub_zero] at h3
 refine ⟨?_, h2⟩
 by_cases hv : ScMay s ∧ 0 ≤ m ∧ m < s.M.length
 ·have hw := wnext_put hp hn hr []
  rw [List.append_nil] at hw
  have h : decM s 64 m (l.take E ++ recL no wire num run ++ l.drop E) (.mk []) = decM s 64 m l (.mk []) := by
   rw [List.append_assoc, decM_bind s 63 m _ h3]
   conv => rhs; rw [← List.take_append_drop E l, decM_bind s 63 m _ h3]
   cases decM s 64 m (l.take E) (.mk []) with
   | error e => rfl
   | ok y => exact decM_skip s 63 m hw hby _ y
  rw [told_of hv, told_of hv, h]
 ·rw [told_not hv, told_not hv]
theorem ends_at {xs : List Rc} {k : Nat} {r : Rc} (h : xs[k]? = some r) : ends 0 (xs.take (k + 1)) = r.upto := ends_take h
end Go.Proofs.YtckcojkpghiclaaGreatDoor.T11
