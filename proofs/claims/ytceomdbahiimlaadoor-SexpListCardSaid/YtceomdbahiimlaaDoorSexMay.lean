/-
  Whether a node may be: sexp's May.
-/
import Derived.RangeFuncNested
import Derived.RangeFuncLeaves
import Derived.Shelf.Abstract
import Derived.WalkKit
import Derived.OwnWalkIn
import Derived.TacticsInMore
import Derived.LoopNIn
import Derived.LoopIn
import Derived.Test.YtceomdbahiimlaaDoorSexHand
import Derived.Test.YtceomdbahiimlaaDoorSexSame
namespace Go.Proofs.YtceomdbahiimlaaDoor.T14
set_option maxRecDepth 100000

open Go.RowKit Go.Shelf

attribute [local go_sem] Oper.semAt_some

theorem each14_any (k num at_ : Int) (t : List UInt8) (A : Option Addr) (l c : Nat) (w : World) :
    Calls Tryd.prog 25 #[.agg #[.int .i64 k, .string (tx t), .int .i64 num, .int .i64 at_, .slice A l c]] w fun e w' =>
      e = .returned (.func (.func 39) #[] #[.pointer (some ⟨w.heap.size, 0, none⟩)]) ∧ w' = w.alloc (.cells #[.int .i64 k, .string (tx t), .int .i64 num, .int .i64 at_, .slice A l c] 24) := by
  have hmf : ∀ (fn : Fn) (first cap : Array Value) (w : World), (Instr.makeFunc fn first cap).run Tryd.prog w = .ok (.func fn first cap) w := fun _ _ _ _ => rfl
  go_enter Tryd.func25, Tryd.ntmps25
  go_wp2
  go_ret
  exact ⟨rfl, rfl⟩
/-- A node's box. -/
def NBox (W : World) (B : Nat) (e : Value) : Prop := ∃ k t n a A l c, e = .agg #[.int .i64 k, .string t, .int .i64 n, .int .i64 a, .slice A l c] ∧ W.heap[B]? = some (.cells #[.int .i64 k, .string t, .int .i64 n, .int .i64 a, .slice A l c] 24 (0, 0))
theorem nbox_own (B B0 : Nat) (e : Value) : OwnFrom B0 (fun (_ : Unit) W => NBox W B e) := by
  rintro _ X Y row ⟨k, t, n, a, A, l, c, h1, h2⟩ hg hr
  refine ⟨k, t, n, a, A, l, c, h1, (hg.block B (Array.getElem?_eq_some_iff.1 h2).1 (fun e' => ?_)).trans h2⟩
  obtain ⟨-, o, ho, hc⟩ := hr B e'.symm
  rw [h2] at ho
  cases ho
  cases hc
set_option maxRecDepth 1000000 in
set_option maxHeartbeats 4000000 in
theorem may14_any (d : Nat) (x : Nd) (u : Value) (w : World) (hd : d ≤ 1000000) (hx : NAt (Rd w.heap.size w) d x [.int .i64 x.kind, .string (tx x.text), .int .i64 x.num, .int .i64 x.at_, u]) (hsm : ∀ y ∈ x.pre 0, y.1.text.length ≤ 1000000) (LV : Laid w) :
    Calls Tryd.prog 14 #[.agg #[.int .i64 x.kind, .string (tx x.text), .int .i64 x.num, .int .i64 x.at_, u]] w fun e w' => e = .returned (.bool (mayB Lib.itoa x)) ∧ Below w.heap.size w w' := by
  obtain ⟨A, c, rfl⟩ := NAt.shape hx
  refine (callsIn_wide (n := 8)).1 ?_
  refine callsIn_of_wp_marks Tryd.func14 rfl trivial ?_ rfl
  simp only [Tryd.ntmps14, List.size_toArray, List.length_cons, List.length_nil, Nat.reduceAdd, Nat.reduceSub, Array.replicate_succ, Array.replicate_zero, List.push_toArray, List.append_toArray, List.nil_append, List.cons_append]
  obtain ⟨X1, X2, LBD⟩ := two_boxes w (.cells #[.int .i64 x.kind, .string (tx x.text), .int .i64 x.num, .int .i64 x.at_, .slice A x.l.length c] 24) (.cells #[.bool false] 4)
  have hsz : ((w.alloc (.cells #[.int .i64 x.kind, .string (tx x.text), .int .i64 x.num, .int .i64 x.at_, .slice A x.l.length c] 24)).alloc (.cells #[.bool false] 4)).heap.size = w.heap.size + 2 := by simp
  have bR : Boxed ((w.alloc (.cells #[.int .i64 x.kind, .string (tx x.text), .int .i64 x.num, .int .i64 x.at_, .slice A x.l.length c] 24)).alloc (.cells #[.bool false] 4)) (w.heap.size + 1) 4 (.bool false) := X2
  obtain ⟨n0, n1, n2, n3, n4⟩ := five_cells X1
  obtain ⟨w1, hw1⟩ : ∃ w1, (w.alloc (.cells #[.int .i64 x.kind, .string (tx x.text), .int .i64 x.num, .int .i64 x.at_, .slice A x.l.length c] 24)).alloc (.cells #[.bool false] 4) = w1 := ⟨_, rfl⟩
  rw [hw1] at n0 n1 n2 n3 n4 X1 X2 LBD hsz bR
  have HC := Lib.hid (each14_any x.kind x.num x.at_ x.text A x.l.length c w1)
  have HX := Lib.hid hx
  clear hx
  gi_wp2
  refine ⟨trivial, (callsIn_wide.2 HC.out).mono ?_⟩
  rintro e W00 ⟨rfl, hW00⟩
  gi_wp2
  have hX0 : (w1.alloc (.cells #[.int .i64 x.kind, .string (tx x.text), .int .i64 x.num, .int .i64 x.at_, .slice A x.l.length c] 24)).heap[w.heap.size + 2]? = some (.cells #[.int .i64 x.kind, .string (tx x.text), .int .i64 x.num, .int .i64 x.at_, .slice A x.l.length c] 24 (0, 0)) := by rw [← hsz]; exact heap_alloc_new w1 _
  have bR0 := bR.alloc (.cells #[.int .i64 x.kind, .string (tx x.text), .int .i64 x.num, .int .i64 x.at_, .slice A x.l.length c] 24)
  have hB0 : Below w.heap.size w (w1.alloc (.cells #[.int .i64 x.kind, .string (tx x.text), .int .i64 x.num, .int .i64 x.at_, .slice A x.l.length c] 24)) := LBD.trans ((below_new w1 (.cells #[.int .i64 x.kind, .string (tx x.text), .int .i64 x.num, .int .i64 x.at_, .slice A x.l.length c] 24)).mono LBD.size)
  have hs0 : (w1.alloc (.cells #[.int .i64 x.kind, .string (tx x.text), .int .i64 x.num, .int .i64 x.at_, .slice A x.l.length c] 24)).heap.size = w.heap.size + 3 := by simp [hsz]
  obtain ⟨W0, hW0⟩ : ∃ W0, w1.alloc (.cells #[.int .i64 x.kind, .string (tx x.text), .int .i64 x.num, .int .i64 x.at_, .slice A x.l.length c] 24) = W0 := ⟨_, rfl⟩
  rw [hW0] at hX0 bR0 hB0 hs0 ⊢
  have hxW : NAt (Rd w.heap.size W0) d x [.int .i64 x.kind, .string (tx x.text), .int .i64 x.num, .int .i64 x.at_, .slice A x.l.length c] := NRd.low (Lo.below hB0 (Nat.le_refl _)) HX.out
  have LV0 : Laid W0 := LV.on hB0
  clear hW0 hW00 n0 n1 n2 n3 n4 X1 X2 hw1 HC bR
  refine wpIn_rangeFunc_ownH rfl (by omega) (gf := 39) (lb := #[.pointer (some ⟨w.heap.size + 2, 0, none⟩)]) rfl trivial (enters_of Tryd.func39 (by kernel_rfl) rfl)
    (each14_stops 7 (w.heap.size + 2) w.heap.size d x _ W0 hd (by omega) (by omega) hX0 hxW hsm _ (Nat.le_refl _)) (fun h1 h2 => h1.trans h2) (fun W l o o' hl h h1 h2 => KpH.put (by omega) W l o o' hl h h1 h2) (Below.refl _ _) (fun _ => rfl)
    (fun pre W => ((∀ y ∈ pre, fitB Lib.itoa (HandT.pr y).1 (HandT.pr y).2 = true) ∧ Boxed W (w.heap.size + 1) 4 (.bool false)) ∧ Below w.heap.size W0 W)
    (fun k pre W => ((k = .ret ∧ ∃ y ∈ pre, fitB Lib.itoa (HandT.pr y).1 (HandT.pr y).2 = false) ∧ Boxed W (w.heap.size + 1) 4 (.bool false)) ∧ Below w.heap.size W0 W)
    (OwnFrom.and (OwnFrom.and (ownFrom_pure _ _) (Own.from (boxed_own _ _ _) _)) (ownFrom_below (by omega) (by omega)))
    (fun k => OwnFrom.and (OwnFrom.and (ownFrom_pure _ _) (Own.from (boxed_own _ _ _) _)) (ownFrom_below (by omega) (by omega)))
    ⟨⟨by simp, bR0⟩, Below.refl _ _⟩
    (fun y a' W => ∃ Bx, w.heap.size + 1 < Bx ∧ NBox W Bx (.agg #[.int .i64 y.1.1.kind, .string (tx y.1.1.text), .int .i64 y.1.1.num, .int .i64 y.1.1.at_, y.1.2.1]) ∧ a' = { tmps := #[.agg #[.int .i64 x.kind, .string (tx x.text), .int .i64 x.num, .int .i64 x.at_, .slice A x.l.length c], .pointer (some ⟨w.heap.size, 0, none⟩), .pointer (some ⟨w.heap.size + 1, 0, none⟩), .pointer (some ⟨Bx, 0, none⟩), .int .i64 y.1.2.2, .agg #[.int .i64 x.kind, .string (tx x.text), .int .i64 x.num, .int .i64 x.at_, .slice A x.l.length c], .func (.func 39) #[] #[.pointer (some ⟨w.heap.size + 2, 0, none⟩)], (.agg #[.int .i64 y.1.1.kind, .string (tx y.1.1.text), .int .i64 y.1.1.num, .int .i64 y.1.1.at_, y.1.2.1]), .int .i64 y.1.2.2, undef, undef, undef, undef], defers := [] })
    (fun y a' _ X Y row hs hg hr => by obtain ⟨Bx, e1, e2, e3⟩ := hs; exact ⟨Bx, e1, nbox_own Bx _ _ () X Y row e2 hg hr, e3⟩)
    ?assign ?body ?done ?stop
  case assign =>
    rintro l pre ⟨⟨y, v, i⟩, ⟨dy, hy⟩, hty⟩ W K ⟨⟨hp, bR1⟩, hB1⟩ hK
    obtain ⟨Ay, cy, hv⟩ := NAt.shape hy
    have hv' : v = .slice Ay y.l.length cy := hv
    clear hv
    subst hv'
    simp only [HandT.enc]
    gi_wp2
    exact hK _ _ ((KeepsOthers.alloc _ _).from _) (KpH.of_below ((below_new W _)) (by have := hB1.size; omega) rfl) ⟨⟨hp, bR1.alloc _⟩, hB1.alloc (Nat.le_trans (by omega) hB1.size) _⟩ ⟨W.heap.size, bR1.lt, ⟨_, _, _, _, _, _, _, rfl, World.alloc_heap_new W _⟩, rfl⟩
  case body =>
    rintro l pre ⟨⟨y, v, i⟩, ⟨dy, hy⟩, hty⟩ a' W hl ⟨r, hr⟩ ⟨⟨hp, bR1⟩, hB1⟩ ⟨Bx, hBx, ⟨k, t, nn, aa, Ak, lk, ck, e1, bX⟩, rfl⟩ hlt
    obtain ⟨Ay, cy, hv⟩ := NAt.shape hy
    have hv' : v = .slice Ay y.l.length cy := hv
    clear hv
    subst hv'
    have e2 : Value.agg #[.int .i64 y.kind, .string (tx y.text), .int .i64 y.num, .int .i64 y.at_, .slice Ay y.l.length cy] = .agg #[.int .i64 k, .string t, .int .i64 nn, .int .i64 aa, .slice Ak lk ck] := e1
    clear e1
    simp only [Value.agg.injEq, Array.mk.injEq, List.cons.injEq, Value.int.injEq, Value.string.injEq, Value.slice.injEq, true_and, and_true] at e2
    obtain ⟨rfl, rfl, rfl, rfl, rfl, rfl, rfl⟩ := e2
    obtain ⟨q0, q1, q2, q3, q4⟩ := five_cells bX
    have hBW : Below w.heap.size w W := hB0.trans hB1
    have hyW := NRd.low (Lo.of hB1) hy
    have HF := Lib.hid (fits_any dy y _ i w.heap.size W hyW hty (LV.on hBW))
    have HY := Lib.hid hy
    have HYW := Lib.hid hyW
    obtain ⟨rb, hrb⟩ : ∃ rb, fitB Lib.itoa y i = rb := ⟨_, rfl⟩
    rw [hrb] at HF
    clear hyW
    have h1' : 1 ≤ 8 - 1 - 1 := by omega
    gi_wp2
    refine ⟨trivial, (CallsIn.inRound l (callsIn_wide.2 HF.out)).mono ?_⟩
    rintro e W4 ⟨rfl, hb4⟩
    have hsW := hB1.size
    have bR4 : Boxed W4 (w.heap.size + 1) 4 (.bool false) := (hb4.block _ bR1.lt).trans bR1
    have hKF : KeepsFrom W0.heap.size W W4 := ⟨hb4.size, fun k o _ hk _ => (hb4.block k (Array.getElem?_eq_some_iff.1 hk).1).trans hk⟩
    have hB4 : Below w.heap.size W0 W4 := hB1.trans (hb4.mono (by omega))
    have cR := bR4.cell
    have fR := bR4.frozen
    cases rb with
    | false =>
      gi_wp2
      exact ⟨hKF.trans ((KeepsOthers.setCell _ _ _).from _), ⟨⟨rfl, _, List.mem_append.2 (.inr (List.mem_singleton.2 rfl)), hrb⟩, bR4.set _⟩, hB4.setCell (p := ⟨w.heap.size + 1, 0, none⟩) (by simp) _⟩
    | true =>
      gi_wp2
      exact ⟨hKF, KpH.of_below hb4 (by omega) rfl, ⟨fun z hz => (List.mem_append.1 hz).elim (hp z) (fun e => by obtain rfl := List.mem_singleton.1 e; exact hrb), bR4⟩, hB4⟩
  case done =>
    rintro D zs W hD hz ⟨⟨hp, bR1⟩, hB1⟩ hK
    have cR := bR1.cell
    have fR := bR1.frozen
    have hm : mayB Lib.itoa x = true := by
      rw [mayB, ← hz, List.all_eq_true]
      intro q hq
      obtain ⟨z, hz1, rfl⟩ := List.mem_map.1 hq
      exact hp z hz1
    have HM := Lib.hid hm
    clear hm
    gi_wp2
    have hK' := (KeepsOthers.setCell W ⟨w.heap.size + 1, 0, none⟩ (.bool true)).same D _ hK rfl
    refine ⟨by simp, .inl ⟨_, _, rfl, run_takeDeferred hK', ?_⟩⟩
    have hc5 := cell_kept (bR1.set (.bool true)).cell (grownBy_putObj' _ D (.deferred none)) (fun r e => by cases e; exact ⟨_, hK', rfl⟩)
    refine ⟨.bool true, ?_, by rw [HM.out], (hB0.trans (hB1.setCell (p := ⟨w.heap.size + 1, 0, none⟩) (by simp) _)).trans (belowK_b (w := w) (Nat.le_refl _) _ D _ _ (by omega) hK' rfl rfl)⟩
    simp [results, Tryd.func14, go_sem, hc5]
  case stop =>
    rintro D k pre W hD hpre ⟨⟨⟨rfl, z, hz, hzf⟩, bR1⟩, hB1⟩ hK
    have hm : mayB Lib.itoa x = false := by
      rw [mayB, Bool.eq_false_iff]
      intro h
      have h1 := List.all_eq_true.1 h (HandT.pr z) (hpre.subset (List.mem_map.2 ⟨z, hz, rfl⟩))
      rw [hzf] at h1
      cases h1
    have HM := Lib.hid hm
    clear hm
    gi_wp2
    refine ⟨by simp, .inl ⟨_, _, rfl, run_takeDeferred hK, ?_⟩⟩
    have hc5 := cell_kept bR1.cell (grownBy_putObj' _ D (.deferred none)) (fun r e => by cases e; exact ⟨_, hK, rfl⟩)
    refine ⟨.bool false, ?_, by rw [HM.out], (hB0.trans hB1).trans (belowK_b (w := w) (Nat.le_refl _) W D _ _ (by omega) hK rfl rfl)⟩
    simp [results, Tryd.func14, go_sem, hc5]
end Go.Proofs.YtceomdbahiimlaaDoor.T14
