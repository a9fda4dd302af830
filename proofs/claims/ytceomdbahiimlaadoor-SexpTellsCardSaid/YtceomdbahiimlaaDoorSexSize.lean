/-
  Whether a node may be: sexp's May.
-/
import Derived.RangeFuncNested
import Derived.RangeFuncLeaves
import Derived.Shelf.Abstract
import Derived.WalkKit
import Derived.OwnWalkIn
import Derived.TacticsInMore
import Derived.LoopNIn
import Derived.LoopIn
import Derived.Test.YtceomdbahiimlaaDoorSexHand
import Derived.Test.YtceomdbahiimlaaDoorSexSame
import Derived.Lib.AppendStr
import Derived.Test.YtceomdbahiimlaaDoorTokQuote
import Derived.Test.YtceomdbahiimlaaDoorSexApp
namespace Go.Proofs.YtceomdbahiimlaaDoor.T14
set_option maxRecDepth 100000

open Go.RowKit Go.Shelf

attribute [local go_sem] Oper.semAt_some

theorem each14_any (k num at_ : Int) (t : List UInt8) (A : Option Addr) (l c : Nat) (w : World) :
    Calls Tryd.prog 25 #[.agg #[.int .i64 k, .string (tx t), .int .i64 num, .int .i64 at_, .slice A l c]] w fun e w' =>
      e = .returned (.func (.func 39) #[] #[.pointer (some ⟨w.heap.size, 0, none⟩)]) ∧ w' = w.alloc (.cells #[.int .i64 k, .string (tx t), .int .i64 num, .int .i64 at_, .slice A l c] 24) := by
  have hmf : ∀ (fn : Fn) (first cap : Array Value) (w : World), (Instr.makeFunc fn first cap).run Tryd.prog w = .ok (.func fn first cap) w := fun _ _ _ _ => rfl
  go_enter Tryd.func25, Tryd.ntmps25
  go_wp2
  go_ret
  exact ⟨rfl, rfl⟩
/-- A node's box. -/
def NBox (W : World) (B : Nat) (e : Value) : Prop := ∃ k t n a A l c, e = .agg #[.int .i64 k, .string t, .int .i64 n, .int .i64 a, .slice A l c] ∧ W.heap[B]? = some (.cells #[.int .i64 k, .string t, .int .i64 n, .int .i64 a, .slice A l c] 24 (0, 0))
theorem nbox_own (B B0 : Nat) (e : Value) : OwnFrom B0 (fun (_ : Unit) W => NBox W B e) := by
  rintro _ X Y row ⟨k, t, n, a, A, l, c, h1, h2⟩ hg hr
  refine ⟨k, t, n, a, A, l, c, h1, (hg.block B (Array.getElem?_eq_some_iff.1 h2).1 (fun e' => ?_)).trans h2⟩
  obtain ⟨-, o, ho, hc⟩ := hr B e'.symm
  rw [h2] at ho
  cases ho
  cases hc
set_option maxRecDepth 1000000 in
set_option maxHeartbeats 4000000 in
theorem may14_any (d : Nat) (x : Nd) (u : Value) (w : World) (hd : d ≤ 1000000) (hx : NAt (Rd w.heap.size w) d x [.int .i64 x.kind, .string (tx x.text), .int .i64 x.num, .int .i64 x.at_, u]) (hsm : ∀ y ∈ x.pre 0, y.1.text.length ≤ 1000000) (LV : Laid w) :
    Calls Tryd.prog 14 #[.agg #[.int .i64 x.kind, .string (tx x.text), .int .i64 x.num, .int .i64 x.at_, u]] w fun e w' => e = .returned (.bool (mayB Lib.itoa x)) ∧ Below w.heap.size w w' := by
  obtain ⟨A, c, rfl⟩ := NAt.shape hx
  refine (callsIn_wide (n := 8)).1 ?_
  refine callsIn_of_wp_marks Tryd.func14 rfl trivial ?_ rfl
  simp only [Tryd.ntmps14, List.size_toArray, List.length_cons, List.length_nil, Nat.reduceAdd, Nat.reduceSub, Array.replicate_succ, Array.replicate_zero, List.push_toArray, List.append_toArray, List.nil_append, List.cons_append]
  obtain ⟨X1, X2, LBD⟩ := two_boxes w (.cells #[.int .i64 x.kind, .string (tx x.text), .int .i64 x.num, .int .i64 x.at_, .slice A x.l.length c] 24) (.cells #[.bool false] 4)
  have hsz : ((w.alloc (.cells #[.int .i64 x.kind, .string (tx x.text), .int .i64 x.num, .int .i64 x.at_, .slice A x.l.length c] 24)).alloc (.cells #[.bool false] 4)).heap.size = w.heap.size + 2 := by simp
  have bR : Boxed ((w.alloc (.cells #[.int .i64 x.kind, .string (tx x.text), .int .i64 x.num, .int .i64 x.at_, .slice A x.l.length c] 24)).alloc (.cells #[.bool false] 4)) (w.heap.size + 1) 4 (.bool false) := X2
  obtain ⟨n0, n1, n2, n3, n4⟩ := five_cells X1
  obtain ⟨w1, hw1⟩ : ∃ w1, (w.alloc (.cells #[.int .i64 x.kind, .string (tx x.text), .int .i64 x.num, .int .i64 x.at_, .slice A x.l.length c] 24)).alloc (.cells #[.bool false] 4) = w1 := ⟨_, rfl⟩
  rw [hw1] at n0 n1 n2 n3 n4 X1 X2 LBD hsz bR
  have HC := Lib.hid (each14_any x.kind x.num x.at_ x.text A x.l.length c w1)
  have HX := Lib.hid hx
  clear hx
  gi_wp2
  refine ⟨trivial, (callsIn_wide.2 HC.out).mono ?_⟩
  rintro e W00 ⟨rfl, hW00⟩
  gi_wp2
  have hX0 : (w1.alloc (.cells #[.int .i64 x.kind, .string (tx x.text), .int .i64 x.num, .int .i64 x.at_, .slice A x.l.length c] 24)).heap[w.heap.size + 2]? = some (.cells #[.int .i64 x.kind, .string (tx x.text), .int .i64 x.num, .int .i64 x.at_, .slice A x.l.length c] 24 (0, 0)) := by rw [← hsz]; exact heap_alloc_new w1 _
  have bR0 := bR.alloc (.cells #[.int .i64 x.kind, .string (tx x.text), .int .i64 x.num, .int .i64 x.at_, .slice A x.l.length c] 24)
  have hB0 : Below w.heap.size w (w1.alloc (.cells #[.int .i64 x.kind, .string (tx x.text), .int .i64 x.num, .int .i64 x.at_, .slice A x.l.length c] 24)) := LBD.trans ((below_new w1 (.cells #[.int .i64 x.kind, .string (tx x.text), .int .i64 x.num, .int .i64 x.at_, .slice A x.l.length c] 24)).mono LBD.size)
  have hs0 : (w1.alloc (.cells #[.int .i64 x.kind, .string (tx x.text), .int .i64 x.num, .int .i64 x.at_, .slice A x.l.length c] 24)).heap.size = w.heap.size + 3 := by simp [hsz]
  obtain ⟨W0, hW0⟩ : ∃ W0, w1.alloc (.cells #[.int .i64 x.kind, .string (tx x.text), .int .i64 x.num, .int .i64 x.at_, .slice A x.l.length c] 24) = W0 := ⟨_, rfl⟩
  rw [hW0] at hX0 bR0 hB0 hs0 ⊢
  have hxW : NAt (Rd w.heap.size W0) d x [.int .i64 x.kind, .string (tx x.text), .int .i64 x.num, .int .i64 x.at_, .slice A x.l.length c] := NRd.low (Lo.below hB0 (Nat.le_refl _)) HX.out
  have LV0 : Laid W0 := LV.on hB0
  clear hW0 hW00 n0 n1 n2 n3 n4 X1 X2 hw1 HC bR
  refine wpIn_rangeFunc_ownH rfl (by omega) (gf := 39) (lb := #[.pointer (some ⟨w.heap.size + 2, 0, none⟩)]) rfl trivial (enters_of Tryd.func39 (by kernel_rfl) rfl)
    (each14_stops 7 (w.heap.size + 2) w.heap.size d x _ W0 hd (by omega) (by omega) hX0 hxW hsm _ (Nat.le_refl _)) (fun h1 h2 => h1.trans h2) (fun W l o o' hl h h1 h2 => KpH.put (by omega) W l o o' hl h h1 h2) (Below.refl _ _) (fun _ => rfl)
    (fun pre W => ((∀ y ∈ pre, fitB Lib.itoa (HandT.pr y).1 (HandT.pr y).2 = true) ∧ Boxed W (w.heap.size + 1) 4 (.bool false)) ∧ Below w.heap.size W0 W)
    (fun k pre W => ((k = .ret ∧ ∃ y ∈ pre, fitB Lib.itoa (HandT.pr y).1 (HandT.pr y).2 = false) ∧ Boxed W (w.heap.size + 1) 4 (.bool false)) ∧ Below w.heap.size W0 W)
    (OwnFrom.and (OwnFrom.and (ownFrom_pure _ _) (Own.from (boxed_own _ _ _) _)) (ownFrom_below (by omega) (by omega)))
    (fun k => OwnFrom.and (OwnFrom.and (ownFrom_pure _ _) (Own.from (boxed_own _ _ _) _)) (ownFrom_below (by omega) (by omega)))
    ⟨⟨by simp, bR0⟩, Below.refl _ _⟩
    (fun y a' W => ∃ Bx, w.heap.size + 1 < Bx ∧ NBox W Bx (.agg #[.int .i64 y.1.1.kind, .string (tx y.1.1.text), .int .i64 y.1.1.num, .int .i64 y.1.1.at_, y.1.2.1]) ∧ a' = { tmps := #[.agg #[.int .i64 x.kind, .string (tx x.text), .int .i64 x.num, .int .i64 x.at_, .slice A x.l.length c], .pointer (some ⟨w.heap.size, 0, none⟩), .pointer (some ⟨w.heap.size + 1, 0, none⟩), .pointer (some ⟨Bx, 0, none⟩), .int .i64 y.1.2.2, .agg #[.int .i64 x.kind, .string (tx x.text), .int .i64 x.num, .int .i64 x.at_, .slice A x.l.length c], .func (.func 39) #[] #[.pointer (some ⟨w.heap.size + 2, 0, none⟩)], (.agg #[.int .i64 y.1.1.kind, .string (tx y.1.1.text), .int .i64 y.1.1.num, .int .i64 y.1.1.at_, y.1.2.1]), .int .i64 y.1.2.2, undef, undef, undef, undef], defers := [] })
    (fun y a' _ X Y row hs hg hr => by obtain ⟨Bx, e1, e2, e3⟩ := hs; exact ⟨Bx, e1, nbox_own Bx _ _ () X Y row e2 hg hr, e3⟩)
    ?assign ?body ?done ?stop
  case assign =>
    rintro l pre ⟨⟨y, v, i⟩, ⟨dy, hy⟩, hty⟩ W K ⟨⟨hp, bR1⟩, hB1⟩ hK
    obtain ⟨Ay, cy, hv⟩ := NAt.shape hy
    have hv' : v = .slice Ay y.l.length cy := hv
    clear hv
    subst hv'
    simp only [HandT.enc]
    gi_wp2
    exact hK _ _ ((KeepsOthers.alloc _ _).from _) (KpH.of_below ((below_new W _)) (by have := hB1.size; omega) rfl) ⟨⟨hp, bR1.alloc _⟩, hB1.alloc (Nat.le_trans (by omega) hB1.size) _⟩ ⟨W.heap.size, bR1.lt, ⟨_, _, _, _, _, _, _, rfl, World.alloc_heap_new W _⟩, rfl⟩
  case body =>
    rintro l pre ⟨⟨y, v, i⟩, ⟨dy, hy⟩, hty⟩ a' W hl ⟨r, hr⟩ ⟨⟨hp, bR1⟩, hB1⟩ ⟨Bx, hBx, ⟨k, t, nn, aa, Ak, lk, ck, e1, bX⟩, rfl⟩ hlt
    obtain ⟨Ay, cy, hv⟩ := NAt.shape hy
    have hv' : v = .slice Ay y.l.length cy := hv
    clear hv
    subst hv'
    have e2 : Value.agg #[.int .i64 y.kind, .string (tx y.text), .int .i64 y.num, .int .i64 y.at_, .slice Ay y.l.length cy] = .agg #[.int .i64 k, .string t, .int .i64 nn, .int .i64 aa, .slice Ak lk ck] := e1
    clear e1
    simp only [Value.agg.injEq, Array.mk.injEq, List.cons.injEq, Value.int.injEq, Value.string.injEq, Value.slice.injEq, true_and, and_true] at e2
    obtain ⟨rfl, rfl, rfl, rfl, rfl, rfl, rfl⟩ := e2
    obtain ⟨q0, q1, q2, q3, q4⟩ := five_cells bX
    have hBW : Below w.heap.size w W := hB0.trans hB1
    have hyW := NRd.low (Lo.of hB1) hy
    have HF := Lib.hid (fits_any dy y _ i w.heap.size W hyW hty (LV.on hBW))
    have HY := Lib.hid hy
    have HYW := Lib.hid hyW
    obtain ⟨rb, hrb⟩ : ∃ rb, fitB Lib.itoa y i = rb := ⟨_, rfl⟩
    rw [hrb] at HF
    clear hyW
    have h1' : 1 ≤ 8 - 1 - 1 := by omega
    gi_wp2
    refine ⟨trivial, (CallsIn.inRound l (callsIn_wide.2 HF.out)).mono ?_⟩
    rintro e W4 ⟨rfl, hb4⟩
    have hsW := hB1.size
    have bR4 : Boxed W4 (w.heap.size + 1) 4 (.bool false) := (hb4.block _ bR1.lt).trans bR1
    have hKF : KeepsFrom W0.heap.size W W4 := ⟨hb4.size, fun k o _ hk _ => (hb4.block k (Array.getElem?_eq_some_iff.1 hk).1).trans hk⟩
    have hB4 : Below w.heap.size W0 W4 := hB1.trans (hb4.mono (by omega))
    have cR := bR4.cell
    have fR := bR4.frozen
    cases rb with
    | false =>
      gi_wp2
      exact ⟨hKF.trans ((KeepsOthers.setCell _ _ _).from _), ⟨⟨rfl, _, List.mem_append.2 (.inr (List.mem_singleton.2 rfl)), hrb⟩, bR4.set _⟩, hB4.setCell (p := ⟨w.heap.size + 1, 0, none⟩) (by simp) _⟩
    | true =>
      gi_wp2
      exact ⟨hKF, KpH.of_below hb4 (by omega) rfl, ⟨fun z hz => (List.mem_append.1 hz).elim (hp z) (fun e => by obtain rfl := List.mem_singleton.1 e; exact hrb), bR4⟩, hB4⟩
  case done =>
    rintro D zs W hD hz ⟨⟨hp, bR1⟩, hB1⟩ hK
    have cR := bR1.cell
    have fR := bR1.frozen
    have hm : mayB Lib.itoa x = true := by
      rw [mayB, ← hz, List.all_eq_true]
      intro q hq
      obtain ⟨z, hz1, rfl⟩ := List.mem_map.1 hq
      exact hp z hz1
    have HM := Lib.hid hm
    clear hm
    gi_wp2
    have hK' := (KeepsOthers.setCell W ⟨w.heap.size + 1, 0, none⟩ (.bool true)).same D _ hK rfl
    refine ⟨by simp, .inl ⟨_, _, rfl, run_takeDeferred hK', ?_⟩⟩
    have hc5 := cell_kept (bR1.set (.bool true)).cell (grownBy_putObj' _ D (.deferred none)) (fun r e => by cases e; exact ⟨_, hK', rfl⟩)
    refine ⟨.bool true, ?_, by rw [HM.out], (hB0.trans (hB1.setCell (p := ⟨w.heap.size + 1, 0, none⟩) (by simp) _)).trans (belowK_b (w := w) (Nat.le_refl _) _ D _ _ (by omega) hK' rfl rfl)⟩
    simp [results, Tryd.func14, go_sem, hc5]
  case stop =>
    rintro D k pre W hD hpre ⟨⟨⟨rfl, z, hz, hzf⟩, bR1⟩, hB1⟩ hK
    have hm : mayB Lib.itoa x = false := by
      rw [mayB, Bool.eq_false_iff]
      intro h
      have h1 := List.all_eq_true.1 h (HandT.pr z) (hpre.subset (List.mem_map.2 ⟨z, hz, rfl⟩))
      rw [hzf] at h1
      cases h1
    have HM := Lib.hid hm
    clear hm
    gi_wp2
    refine ⟨by simp, .inl ⟨_, _, rfl, run_takeDeferred hK, ?_⟩⟩
    have hc5 := cell_kept bR1.cell (grownBy_putObj' _ D (.deferred none)) (fun r e => by cases e; exact ⟨_, hK, rfl⟩)
    refine ⟨.bool false, ?_, by rw [HM.out], (hB0.trans hB1).trans (belowK_b (w := w) (Nat.le_refl _) W D _ _ (by omega) hK rfl rfl)⟩
    simp [results, Tryd.func14, go_sem, hc5]
end Go.Proofs.YtceomdbahiimlaaDoor.T14
/-
  A node's text, appended to a row of bytes of one's own: sexp's appendNode and appendList.
-/
namespace Go.Proofs.YtceomdbahiimlaaDoor.T14
set_option maxRecDepth 100000

open Go.RowKit

theorem cells_bs (s : ByteArray) : Lib.strCells s = bs s.data.toList := by unfold Lib.strCells bs; simp; intro a _; rfl
theorem cells_tx (l : List UInt8) : Lib.strCells (tx l) = bs l := by rw [cells_bs, tx_list]
theorem size_tx (l : List UInt8) : (tx l).size = l.length := by simp [tx, ByteArray.size]
/-- A row of bytes of one's own. -/
abbrev OwnB (b : Nat) (w : World) (v : Value) (l : List UInt8) : Prop := w.ownsRow b 5 1 v l.length (bs l)
theorem OwnB.more {b : Nat} {w : World} {v : Value} {pre l : List UInt8} {n : Nat} {zs : List Value} (h : w.ownsRow b 5 1 v n zs) (hn : n = pre.length + l.length) (hz : zs = bs pre ++ bs l) : OwnB b w v (pre ++ l) := by
  subst hn hz
  unfold OwnB
  rw [List.length_append, bs_append]
  exact h
theorem sepB_next (l : List (List UInt8)) (x : List UInt8) (h : l ≠ []) : sepB (l ++ [x]) = sepB l ++ 32 :: x := by
  induction l with
  | nil => exact absurd rfl h
  | cons y l ih =>
    cases l with
    | nil => rfl
    | cons z l =>
      show y ++ 32 :: sepB (z :: l ++ [x]) = y ++ 32 :: sepB (z :: l) ++ 32 :: x
      rw [ih (by simp)]
      simp
/-- appendNode's contract at a depth. -/
def PrH (B d : Nat) : Prop := ∀ (x : Nd) (u v : Value) (pre : List UInt8) (b : Nat) (w : World), B ≤ b → b ≤ w.heap.size → NAt (Rd B w) d x [.int .i64 x.kind, .string (tx x.text), .int .i64 x.num, .int .i64 x.at_, u] →
  (∀ y ∈ x.pre 0, y.1.text.length ≤ 1000000) → pre.length + x.str.length ≤ 100000000000 → OwnB b w v pre →
  Calls Tryd.prog 28 #[v, .agg #[.int .i64 x.kind, .string (tx x.text), .int .i64 x.num, .int .i64 x.at_, u]] w fun e w' => ∃ v', e = .returned v' ∧ OwnB b w' v' (pre ++ x.str) ∧ Below b w w'
set_option maxRecDepth 1000000 in
set_option maxHeartbeats 4000000 in
/-- A node, its list's contract given. -/
theorem pr_node {B d : Nat} (x : Nd) (u v : Value) (pre : List UInt8) (b : Nat) (w : World) (hB : B ≤ b) (hb : b ≤ w.heap.size) (hx : NAt (Rd B w) d x [.int .i64 x.kind, .string (tx x.text), .int .i64 x.num, .int .i64 x.at_, u])
    (hs : x.text.length ≤ 1000000) (hn : pre.length + x.str.length ≤ 100000000000) (hown : OwnB b w v pre)
    (HL : x.kind = 4 → ∀ w1, Below w.heap.size w w1 → Calls Tryd.prog 43 #[v, u] w1 fun e w' => ∃ v', e = .returned v' ∧ OwnB b w' v' (pre ++ 40 :: (sepB (x.l.map Nd.str) ++ [41])) ∧ Below b w1 w') :
    Calls Tryd.prog 28 #[v, .agg #[.int .i64 x.kind, .string (tx x.text), .int .i64 x.num, .int .i64 x.at_, u]] w fun e w' => ∃ v', e = .returned v' ∧ OwnB b w' v' (pre ++ x.str) ∧ Below b w w' := by
  obtain ⟨i0, hi, hz0, hz1, hz2⟩ := info_parts info_u8
  obtain ⟨A, c, rfl⟩ := NAt.shape hx
  have hX1 := heap_alloc_new w (.cells #[.int .i64 x.kind, .string (tx x.text), .int .i64 x.num, .int .i64 x.at_, .slice A x.l.length c] 24)
  obtain ⟨n0, n1, n2, n3, n4⟩ := five_cells hX1
  have hB1 := below_new w (.cells #[.int .i64 x.kind, .string (tx x.text), .int .i64 x.num, .int .i64 x.at_, .slice A x.l.length c] 24)
  obtain ⟨w1, hw1⟩ : ∃ w1, w.alloc (.cells #[.int .i64 x.kind, .string (tx x.text), .int .i64 x.num, .int .i64 x.at_, .slice A x.l.length c] 24) = w1 := ⟨_, rfl⟩
  rw [hw1] at n0 n1 n2 n3 n4 hB1
  have hown1 : OwnB b w1 v pre := by rw [← hw1]; exact World.ownsRow.alloc hown _
  have hQ := Lib.hid (quote_any (tx x.text) (by rw [size_tx]; exact hs) w1)
  have HL1 := Lib.hid (fun h => HL h w1 hB1)
  rw [Nd.str_eq] at hn ⊢
  clear hX1 hx HL hown
  have hb1 : b ≤ w1.heap.size := Nat.le_trans hb hB1.size
  have HB := Lib.hid (hB1.mono hb)
  obtain ⟨ks, hks⟩ : ∃ k, x.kind = k := ⟨_, rfl⟩
  rw [hks] at HL1 n0 hn hw1 ⊢
  by_cases k2 : ks = 2
  · subst k2
    rw [if_pos rfl] at hn ⊢
    go_enter Tryd.func28, Tryd.ntmps28
    have HQ2 := Lib.hid (fun w2 (h : Below w1.heap.size w1 w2) => own_kept hown1 (fun k _ hk => h.block k hk))
    obtain ⟨qs, hqs⟩ : ∃ q, q = quote x.text := ⟨_, rfl⟩
    rw [tx_list, ← hqs] at hQ
    rw [← hqs] at hn ⊢
    clear hqs
    go_wp2_with (first
      | (go_at_call 42; refine hQ.out.mono ?_; rintro e w2 ⟨rfl, hb2⟩)
      | (at_builtin; go_loud (refine Lib.wpList_append_own_string _ rfl _ _ 53 9 rfl b 5 i0 Tryd.underlying53 Tryd.underlying9 hi hz0 hz1 hz2 v pre.length (bs pre) rfl (HQ2.out _ hb2) (tx qs) rfl (by rw [size_tx]; unfold maxLen; omega) (by rw [size_tx]; omega) (Nat.le_trans hb1 hb2.size) ?_; intro v3 w3 hown3 hg3 _)))
    go_ret
    exact ⟨_, rfl, OwnB.more hown3 (by rw [size_tx]) (by rw [cells_tx]), (HB.out.trans (hb2.mono hb1)).grown hg3 (Nat.le_trans hb1 hb2.size) (own_ge (HQ2.out _ hb2))⟩
  · by_cases k4 : ks = 4
    · subst k4
      rw [if_neg (by decide), if_pos rfl]
      have HLL := Lib.hid (HL1.out rfl)
      clear HL1 k2
      go_enter Tryd.func28, Tryd.ntmps28
      go_wp2_with (go_at_call 43; refine HLL.out.mono ?_; rintro e w2 ⟨v', rfl, hw2, hb2⟩)
      go_ret
      exact ⟨_, rfl, hw2, HB.out.trans hb2⟩
    · rw [if_neg k2, if_neg k4] at hn ⊢
      have e2 : (ks == 2) = false := beq_eq_false_iff_ne.2 k2
      have e4 : (ks == 4) = false := beq_eq_false_iff_ne.2 k4
      clear HL1 k2 k4
      go_enter Tryd.func28, Tryd.ntmps28
      go_wp2_with (at_builtin; go_loud (refine Lib.wpList_append_own_string _ rfl _ _ 53 9 rfl b 5 i0 Tryd.underlying53 Tryd.underlying9 hi hz0 hz1 hz2 v pre.length (bs pre) rfl hown1 (tx x.text) rfl (by rw [size_tx]; unfold maxLen; omega) (by rw [size_tx]; omega) hb1 ?_; intro v3 w3 hown3 hg3 _))
      go_ret
      exact ⟨_, rfl, OwnB.more hown3 (by rw [size_tx]) (by rw [cells_tx]), HB.out.grown hg3 hb1 (own_ge hown1)⟩
theorem sepB_len (l : List Nd) (k : Nat) : (sepB ((l.take k).map Nd.str)).length ≤ (sepB (l.map Nd.str)).length := by
  have h : ∀ (a b : List (List UInt8)), (sepB a).length ≤ (sepB (a ++ b)).length := by
    intro a
    induction a with
    | nil => intro b; simp [sepB]
    | cons x a ih =>
      intro b
      cases a with
      | nil => cases b <;> simp [sepB]
      | cons y a =>
        have := ih b
        simp only [sepB, List.cons_append, List.length_append, List.length_cons] at this ⊢
        omega
  have e : l.map Nd.str = (l.take k).map Nd.str ++ (l.drop k).map Nd.str := by rw [← List.map_append, List.take_append_drop]
  rw [e]
  exact h _ _
theorem sepB_step (l : List Nd) (k : Nat) (a : Nd) (h : l[k]? = some a) : sepB ((l.take (k + 1)).map Nd.str) = (if k = 0 then [] else sepB ((l.take k).map Nd.str) ++ [32]) ++ a.str := by
  rw [List.take_add_one, h, List.map_append]
  by_cases hk : k = 0
  · subst hk
    rw [if_pos rfl]
    rfl
  · rw [if_neg hk]
    have hl := (List.getElem?_eq_some_iff.1 h).1
    have hne : (l.take k).map Nd.str ≠ [] := by
      intro e
      have := congrArg List.length e
      simp only [List.length_map, List.length_take, List.length_nil] at this
      omega
    show sepB ((l.take k).map Nd.str ++ [a.str]) = _
    rw [sepB_next _ _ hne]
    simp
set_option maxRecDepth 1000000 in
set_option maxHeartbeats 4000000 in
theorem pr_list {B d : Nat} (H : PrH B d) (l : List Nd) (u v : Value) (pre : List UInt8) (b : Nat) (w : World) (hB : B ≤ b) (hb : b ≤ w.heap.size) (hl : LsAt (Rd B w) 24 5 (NAt (Rd B w) d) l u)
    (hs : ∀ x ∈ l, ∀ y ∈ x.pre 0, y.1.text.length ≤ 1000000) (hn : pre.length + ((sepB (l.map Nd.str)).length + 2) ≤ 100000000000) (hown : OwnB b w v pre) :
    Calls Tryd.prog 43 #[v, u] w fun e w' => ∃ v', e = .returned v' ∧ OwnB b w' v' (pre ++ 40 :: (sepB (l.map Nd.str) ++ [41])) ∧ Below b w w' := by
  obtain ⟨i0, hi, hz0, hz1, hz2⟩ := info_parts info_u8
  obtain ⟨A, c, xs, rfl, hsl, hbl, hr, hnl⟩ := hl.open_
  have HS := Lib.hid hsl
  have HBL := Lib.hid hbl
  have HR := Lib.hid hr
  have HN := Lib.hid hn
  have HSM := Lib.hid hs
  have hpl : pre.length + 1 ≤ 100000000000 := by omega
  clear hsl hbl hr hl hn hs
  go_enter Tryd.func43, Tryd.ntmps43
  go_wp2_with (at_builtin; refine Lib.wpList_append_own_string _ rfl _ _ 53 9 rfl b 5 i0 Tryd.underlying53 Tryd.underlying9 hi hz0 hz1 hz2 v pre.length (bs pre) rfl hown (tx [40]) rfl (by rw [size_tx]; unfold maxLen; simp; omega) (by rw [size_tx]; simp; omega) hb ?_; intro v1 w1 hown1 hg1 _)
  have hw1 : OwnB b w1 v1 (pre ++ [40]) := OwnB.more hown1 (by rw [size_tx]) (by rw [cells_tx])
  have hb1 : Below b w w1 := (Below.refl b w).grown hg1 hb (own_ge hown)
  clear hown1 hg1
  go_loopw [0, 11] (fun o i wr => ∃ k : Nat, i = .int .i64 k ∧ k ≤ l.length ∧ OwnB b wr o (pre ++ [40] ++ sepB ((l.take k).map Nd.str)) ∧ Below b w wr) (fun _ i _ => l.length - (intOf i).toNat)
  case atStart => exact ⟨0, rfl, Nat.zero_le _, by simpa [sepB] using hw1, hb1⟩
  case round =>
    obtain ⟨k, rfl, hk, hok, hbk⟩ := hrel
    by_cases hlt : k < l.length
    · obtain ⟨a, ha⟩ : ∃ a, l[k]? = some a := ⟨_, List.getElem?_eq_getElem hlt⟩
      have hlo : Lo B w wr := Lo.of (hbk.mono hB)
      obtain ⟨ad, u, rfl, hg1, hc1, p0, p1, p2, p3, p4⟩ := row5e (sl_low HS.out HBL.out hlo) (HR.out.imp fun a cs h => NRd.low hlo h) ha
      obtain ⟨Au, cu, hu⟩ := NAt.shape hc1
      obtain ⟨nu, hnu⟩ : ∃ q, a.l.length = q := ⟨_, rfl⟩
      rw [hnu] at hu
      subst hu
      clear hnu
      have hbr : b ≤ wr.heap.size := Nat.le_trans hb hbk.size
      have hlen := sepB_len l (k + 1)
      rw [sepB_step l k a ha] at hlen
      have hE : pre ++ [40] ++ sepB ((l.take (k + 1)).map Nd.str) = (if k = 0 then pre ++ [40] ++ sepB ((l.take k).map Nd.str) else pre ++ [40] ++ sepB ((l.take k).map Nd.str) ++ [32]) ++ a.str := by
        rw [sepB_step l k a ha]
        by_cases h0 : k = 0
        · subst h0; simp [sepB]
        · rw [if_neg h0, if_neg h0]; simp
      have HE := Lib.hid hE
      have HC := Lib.hid (fun (o' : Value) (P : List UInt8) (W : World) (h1 : Below b wr W) (h2 : P.length + a.str.length ≤ 100000000000) (h3 : OwnB b W o' P) => H a _ o' P b W hB (Nat.le_trans hbr h1.size) (NRd.low (Lo.of (h1.mono hB)) hc1) (HSM.out a (List.mem_of_getElem? ha)) h2 h3)
      have hn := HN.out
      have hP0 : k = 0 → (pre ++ [40] ++ sepB ((l.take k).map Nd.str)).length + a.str.length ≤ 100000000000 := fun h0 => by
        subst h0
        simp only [if_true, List.nil_append] at hlen
        simp [sepB]
        omega
      have hP1 : k ≠ 0 → (pre ++ [40] ++ sepB ((l.take k).map Nd.str) ++ [32]).length + a.str.length ≤ 100000000000 := fun h0 => by
        rw [if_neg h0] at hlen
        simp only [List.length_append, List.length_cons, List.length_nil] at hlen ⊢
        omega
      have HP := Lib.hid (And.intro hP0 hP1)
      clear hP0 hP1 hn hlen hE hc1 ha hlo
      generalize pre ++ [40] ++ sepB ((l.take k).map Nd.str) = P at *
      have hBx : Below b wr (wr.alloc (.cells #[.int .i64 a.kind, .string (tx a.text), .int .i64 a.num, .int .i64 a.at_, .slice Au nu cu] 24)) := (below_new _ _).mono hbr
      have hox := World.ownsRow.alloc hok (.cells #[.int .i64 a.kind, .string (tx a.text), .int .i64 a.num, .int .i64 a.at_, .slice Au nu cu] 24)
      have hsx : (wr.alloc (.cells #[.int .i64 a.kind, .string (tx a.text), .int .i64 a.num, .int .i64 a.at_, .slice Au nu cu] 24)).heap.size = wr.heap.size + 1 := by simp
      by_cases h0 : k = 0
      · have HC0 := Lib.hid (HC.out _ P _ hBx (HP.out.1 h0) hox)
        have HE0 : Hid (pre ++ [40] ++ sepB ((l.take (k + 1)).map Nd.str) = P ++ a.str) := Lib.hid (by have := HE.out; rwa [if_pos h0] at this)
        have e0 : ¬ (0 : Int) < (k : Int) := by omega
        have e1 : decide ((0 : Int) < (k : Int)) = false := decide_eq_false e0
        clear HC hox HE HP h0
        go_wp2_with (go_at_call 28; refine HC0.out.mono ?_; rintro e w6 ⟨v6, rfl, hw6, hb6⟩)
        refine ⟨⟨k + 1, ?_, by omega, by rw [HE0.out]; exact hw6, hbk.trans (hBx.trans hb6)⟩, by simp [intOf]; omega⟩
        go_num
      · have HE0 : Hid (pre ++ [40] ++ sepB ((l.take (k + 1)).map Nd.str) = P ++ [32] ++ a.str) := Lib.hid (by have := HE.out; rwa [if_neg h0] at this)
        have e0 : (0 : Int) < (k : Int) := by omega
        have e1 : decide ((0 : Int) < (k : Int)) = true := decide_eq_true e0
        have hP2 := HP.out.2 h0
        have hP3 : P.length + 1 ≤ 100000000000 := by simp only [List.length_append, List.length_cons, List.length_nil] at hP2; omega
        have HP2 := Lib.hid hP2
        clear HE HP h0 hP2
        go_wp2_with (first
          | (go_at_call 28; refine (HC.out _ (P ++ [32]) _ hb3 HP2.out ho3).mono ?_; rintro e w6 ⟨v6, rfl, hw6, hb6⟩)
          | (at_builtin; go_loud (refine wpList_app1 rfl _ _ 53 rfl b 5 i0 (.int .u8 0) 1 Tryd.underlying53 hi hz0 hz1 hz2 rfl _ P.length (bs P) rfl (hox.alloc _) (wr.heap.size + 1) 1 _ rfl (World.cell?_alloc_at _ _ _ _ (by simp)) rfl (by unfold maxLen; omega) (by omega) (by simp; omega) ?_); intro v3 w3 hown3 hg3; obtain ⟨r0, r1, r2, r3, r4⟩ := five_cells (show w3.heap[wr.heap.size]? = some (.cells #[.int .i64 a.kind, .string (tx a.text), .int .i64 a.num, .int .i64 a.at_, .slice Au nu cu] 24 (0, 0)) from (hg3.block wr.heap.size (by simp; omega) (fun e => by have := (own_blk hok _ e.symm).2; omega)).trans (((below_new (wr.alloc (.cells #[.int .i64 a.kind, .string (tx a.text), .int .i64 a.num, .int .i64 a.at_, .slice Au nu cu] 24)) _).block _ (by simp)).trans (heap_alloc_new wr _))); have ho3 : OwnB b w3 v3 (P ++ [32]) := OwnB.more hown3 (by simp) rfl; have hb3 : Below b wr w3 := (hBx.alloc (Nat.le_trans hbr (by simp)) _).grown hg3 (by simp; omega) (own_ge hox)))
        refine ⟨⟨k + 1, ?_, by omega, by rw [HE0.out]; exact hw6, hbk.trans (hb3.trans hb6)⟩, by simp [intOf]; omega⟩
        go_num
    · obtain rfl : k = l.length := by omega
      rw [List.take_length] at hok
      have hn := HN.out
      have hl2 : (pre ++ [40] ++ sepB (l.map Nd.str)).length + 1 ≤ 100000000000 := by simp; omega
      have hbr : b ≤ wr.heap.size := Nat.le_trans hb hbk.size
      have HE : Hid (pre ++ 40 :: (sepB (l.map Nd.str) ++ [41]) = pre ++ [40] ++ sepB (l.map Nd.str) ++ [41]) := Lib.hid (by simp)
      clear hn
      generalize pre ++ [40] ++ sepB (l.map Nd.str) = P at *
      go_wp2_with (at_builtin; refine Lib.wpList_append_own_string _ rfl _ _ 53 9 rfl b 5 i0 Tryd.underlying53 Tryd.underlying9 hi hz0 hz1 hz2 _ P.length (bs P) rfl hok (tx [41]) rfl (by rw [size_tx]; unfold maxLen; simp; omega) (by rw [size_tx]; simp; omega) hbr ?_; intro v3 w3 hown3 hg3 _)
      go_ret
      exact ⟨_, rfl, by rw [HE.out]; exact OwnB.more hown3 (by rw [size_tx]) (by rw [cells_tx]), hbk.grown hg3 hbr (own_ge hok)⟩
theorem pre_fst : ∀ x : Nd, ∀ i j, (x.pre i).map Prod.fst = (x.pre j).map Prod.fst := by
  refine Nd.ind fun x ih i j => ?_
  rw [Nd.pre_eq, Nd.pre_eq, List.map_cons, List.map_cons, List.map_flatten, List.map_flatten, List.map_map, List.map_map]
  congr 2
  exact List.map_congr_left fun y hy => ih y hy _ _
theorem pr_step {B d : Nat} (H : PrH B d) : PrH B (d + 1) := by
  intro x u v pre b w hB hb hx hs hn hown
  have hx0 := hx
  obtain ⟨u', hu, hl⟩ := hx0
  obtain rfl : u = u' := by simpa using hu
  refine pr_node x u v pre b w hB hb hx (hs (x, 0) (by rw [Nd.pre_eq]; exact List.mem_cons_self ..)) hn hown ?_
  intro h4 w1 hb1
  refine pr_list H x.l u v pre b w1 hB (Nat.le_trans hb hb1.size) (hl.low (Lo.below hb1 (Nat.le_trans hB hb)) fun a cs h => NRd.low (Lo.below hb1 (Nat.le_trans hB hb)) h) ?_ ?_ (own_kept hown fun k _ hk => hb1.block k hk)
  · intro y hy z hz
    have h1 : z.1 ∈ (y.pre 1).map Prod.fst := by rw [pre_fst y 1 0]; exact List.mem_map_of_mem hz
    obtain ⟨z2, hz2, e⟩ := List.mem_map.1 h1
    rw [← e]
    exact hs z2 (by rw [Nd.pre_eq]; exact List.mem_cons_of_mem _ (List.mem_flatten.2 ⟨_, List.mem_map.2 ⟨y, hy, rfl⟩, hz2⟩))
  · rw [Nd.str_eq, if_neg (by omega), if_pos h4] at hn
    simp only [List.length_cons, List.length_append, List.length_nil] at hn
    omega
theorem pr_any (B : Nat) : ∀ d, PrH B d
  | 0 => fun _ _ _ _ _ _ _ _ h => h.elim
  | d + 1 => pr_step (pr_any B d)
theorem tx_txt (l : List UInt8) : tx l = txt l := rfl
set_option maxRecDepth 1000000 in
set_option maxHeartbeats 4000000 in
/-- Print. -/
theorem print14_any (d : Nat) (x : Nd) (u : Value) (w : World) (hd : d ≤ 1000000) (hx : NAt (Rd w.heap.size w) d x [.int .i64 x.kind, .string (tx x.text), .int .i64 x.num, .int .i64 x.at_, u]) (hsm : ∀ y ∈ x.pre 0, y.1.text.length ≤ 1000000) (hn : x.str.length ≤ 100000000000) (LV : Laid w) :
    Calls Tryd.prog 16 #[.agg #[.int .i64 x.kind, .string (tx x.text), .int .i64 x.num, .int .i64 x.at_, u]] w fun e w' => e = .returned (.string (tx (printB Lib.itoa x))) ∧ Below w.heap.size w w' := by
  obtain ⟨A, c, rfl⟩ := NAt.shape hx
  have hX1 := heap_alloc_new w (.cells #[.int .i64 x.kind, .string (tx x.text), .int .i64 x.num, .int .i64 x.at_, .slice A x.l.length c] 24)
  have hB1 := below_new w (.cells #[.int .i64 x.kind, .string (tx x.text), .int .i64 x.num, .int .i64 x.at_, .slice A x.l.length c] 24)
  obtain ⟨n0, n1, n2, n3, n4⟩ := five_cells hX1
  have hx1 := NRd.low (Lo.below hB1 (Nat.le_refl _)) hx
  have HM := Lib.hid (may14_any d x _ _ hd (NRd.mono hB1.size hx1) hsm (LV.on hB1))
  have HA := Lib.hid (fun w2 (h : Below w.heap.size w w2) => pr_any w.heap.size d x _ (.slice none 0 0) [] w2.heap.size w2 h.size (Nat.le_refl _) (NRd.low (Lo.of h) hx) hsm (by simpa using hn) (World.ownsRow_nil _ _ _ _))
  have HB1 := Lib.hid hB1
  have hw1 : (w.alloc (.cells #[.int .i64 x.kind, .string (tx x.text), .int .i64 x.num, .int .i64 x.at_, .slice A x.l.length c] 24)).heap.size = w.heap.size + 1 := by simp
  obtain ⟨rm, hrm⟩ : ∃ r, mayB Lib.itoa x = r := ⟨_, rfl⟩
  rw [hrm] at HM
  have HP : Hid (printB Lib.itoa x = if rm = true then x.str else []) := Lib.hid (by rw [printB, hrm])
  have HX1 := Lib.hid hX1
  clear hx hx1 hsm LV hn hB1 hX1 hrm
  cases rm with
  | false =>
    go_enter Tryd.func16, Tryd.ntmps16
    go_wp2_with (go_at_call 14; refine HM.out.mono ?_; rintro e w2 ⟨rfl, hb2⟩)
    go_ret
    exact ⟨by rw [HP.out]; rfl, HB1.out.trans (hb2.mono (by omega))⟩
  | true =>
    go_enter Tryd.func16, Tryd.ntmps16
    go_wp2_with (first
      | (go_at_call 14; refine HM.out.mono ?_; rintro e w2 ⟨rfl, hb2⟩; have hB2 : Below w.heap.size w w2 := HB1.out.trans (hb2.mono (by omega)); obtain ⟨r0, r1, r2, r3, r4⟩ := five_cells ((hb2.block w.heap.size (by omega)).trans HX1.out))
      | (go_at_call 28; refine (HA.out _ hB2).mono ?_; rintro e w3 ⟨v3, rfl, ho3, hb3⟩; rw [List.nil_append] at ho3; obtain ⟨A3, c3, rfl, hr3⟩ := SlB.of_own ho3; have hcv := run_str_of_bytes (P := Tryd.prog) w3 53 9 5 Tryd.underlying53 Tryd.underlying5 Tryd.underlying9 A3 c3 _ hr3))
    go_ret
    exact ⟨by rw [HP.out]; rfl, hB2.trans (hb3.mono hB2.size)⟩
end Go.Proofs.YtceomdbahiimlaaDoor.T14
/-
  A node of one's own, as what is read.
-/
namespace Go.Proofs.YtceomdbahiimlaaDoor.T14
set_option maxRecDepth 100000

open Go.RowKit

theorem rows_flat14 {α β : Type} {C : β → List Value → Prop} (f : α → β) (g : α → List Value) : ∀ (l : List α), (∀ a ∈ l, C (f a) (g a)) → Rows C (l.map f) (l.flatMap g)
  | [], _ => rfl
  | a :: l, h => ⟨g a, l.flatMap g, rfl, h a (List.mem_cons_self ..), rows_flat14 f g l fun b hb => h b (List.mem_cons_of_mem _ hb)⟩
theorem LN.rows_pos (x : LN) : 0 < x.rows.length := by rw [LN.rows_eq]; simp
theorem LN.rows_sub {x y : LN} (h : y ∈ x.l) : y.rows.length < x.rows.length ∧ ∀ r ∈ y.rows, r ∈ x.rows := by
  rw [LN.rows_eq x]
  refine ⟨?_, fun r hr => List.mem_cons_of_mem _ (List.mem_flatten.2 ⟨y.rows, List.mem_map_of_mem h, hr⟩)⟩
  obtain ⟨a, b, e⟩ := List.append_of_mem h
  rw [e, rowsL_append, rowsL_cons]
  simp only [List.length_cons, List.length_append]
  omega
/-- A node of one's own, as what is read. -/
theorem LN.nat {b K : Nat} {w : World} (hK : K ≤ 10000000000000) : ∀ (D : Nat) (x : LN), x.rows.length ≤ D → (∀ r ∈ x.rows, w.ownsRow b r.e r.size r.v r.n r.xs ∧ r.n ≤ K) → NAt (Ow b w) D x.bare x.cells
  | 0, x, hd, _ => by have := x.rows_pos; omega
  | D + 1, x, hd, h => by
    obtain ⟨h1, h2⟩ := h (rwN x) (by rw [LN.rows_eq]; exact List.mem_cons_self ..)
    rw [LN.bare_eq]
    refine ⟨x.g, rfl, x.l.flatMap LN.cells, ⟨?_, Nat.le_trans (show (x.l.map LN.bare).length ≤ K by rw [List.length_map]; exact h2) hK⟩, rows_flat14 LN.bare LN.cells x.l fun y hy => ?_⟩
    · show w.ownsRow b _ 5 x.g (x.l.map LN.bare).length _
      rw [List.length_map]
      exact h1
    · obtain ⟨h3, h4⟩ := LN.rows_sub hy
      exact LN.nat hK D y (by omega) fun r hr => h r (h4 r hr)
/-- Read, at any place. -/
theorem LN.natR {b K : Nat} {w : World} (hK : K ≤ 10000000000000) (x : LN) (h : Lies b K w x.rows) : NAt (Rd w.heap.size w) x.rows.length x.bare x.cells :=
  NAt.imp (fun e size v n xs h => Rd.of_own e size v n xs h) _ _ _ (LN.nat hK _ x (Nat.le_refl _) h.own)
/-- As many rows as there are nodes. -/
theorem LN.rows_pre : ∀ x : LN, ∀ i, (x.bare.pre i).length = x.rows.length := by
  refine LN.ind fun x ih i => ?_
  rw [LN.rows_eq, Nd.pre_eq, x.bare_eq, List.length_cons, List.length_cons, rowsL, List.length_flatten, List.length_flatten]
  congr 2
  show List.map _ (List.map _ (x.l.map LN.bare)) = _
  simp only [List.map_map]
  exact List.map_congr_left fun y hy => ih y hy (i + 1)
end Go.Proofs.YtceomdbahiimlaaDoor.T14
/-
  How long the texts of a parsed node are, and how deep one is that may be.
-/
namespace Go.Proofs.YtceomdbahiimlaaDoor.T14
set_option maxRecDepth 100000

open Go.RowKit

section

variable {it : Int → List UInt8}

theorem strB_len : ∀ (l : List UInt8) (k : Nat) (x : List UInt8 × Nat), strB k l = some x → x.1.length ≤ l.length
  | [], k, x, h => by cases k <;> simp [strB] at h
  | c :: r, k + 1, x, h => by
    simp only [strB, Option.map_eq_some_iff] at h
    obtain ⟨y, hy, rfl⟩ := h
    have := strB_len r k y hy
    simp only [List.length_cons]
    omega
  | c :: r, 0, x, h => by
    simp only [strB] at h
    split at h
    · injection h with h
      subst h
      simp
    · split at h
      · cases h
      · simp only [Option.map_eq_some_iff] at h
        obtain ⟨y, hy, rfl⟩ := h
        have := strB_len r _ y hy
        simp only [List.length_cons]
        omega
theorem tk_len {L : List UInt8} {t : Tk} (h : tk it L = some t) : t.text.length ≤ L.length := by
  cases L with
  | nil => simp [tk] at h
  | cons c r =>
    simp only [tk] at h
    split at h
    · injection h with h
      subst h
      simp only [List.length_cons, List.length_take]
      omega
    · split at h
      · simp only [Option.map_eq_some_iff] at h
        obtain ⟨n, _, rfl⟩ := h
        simp only [List.length_cons, List.length_take]
        omega
      · split at h
        · simp only [Option.map_eq_some_iff] at h
          obtain ⟨x, hx, rfl⟩ := h
          have := strB_len r 0 x hx
          simp only [List.length_cons]
          omega
        · split at h
          · injection h with h
            subst h
            simp
          · cases h
theorem lex_small : ∀ (l : List UInt8) (k p : Nat), ∀ t ∈ (lex it k p l).1, t.text.length ≤ l.length
  | [], k, p, t, h => by cases k <;> simp [lex] at h
  | c :: r, k + 1, p, t, h => by
    simp only [lex] at h
    have := lex_small r k (p + 1) t h
    simp only [List.length_cons]
    omega
  | c :: r, 0, p, t, h => by
    simp only [lex] at h
    split at h
    · have := lex_small r _ (p + 1) t h
      simp only [List.length_cons]
      omega
    · split at h
      · simp at h
      · rename_i x hx
        rcases List.mem_cons.1 h with rfl | h
        · exact tk_len hx
        · have := lex_small r x.more (p + 1) t h
          simp only [List.length_cons]
          omega
theorem all_small {L : List UInt8} {t : T} (h : t ∈ allT it L) : t.text.length ≤ 5000 := Nat.le_trans (lex_small L 0 0 t (allT_lex h).2) (allT_lex h).1
/-- No text in it is longer. -/
def Sm (N : Nat) (x : Nd) : Prop := ∀ y ∈ x.pre 0, y.1.text.length ≤ N
theorem Sm.at {N : Nat} {x : Nd} (h : Sm N x) (i : Nat) : ∀ y ∈ x.pre i, y.1.text.length ≤ N := fun z hz => by
  have h1 : z.1 ∈ (x.pre 0).map Prod.fst := by rw [pre_fst x 0 i]; exact List.mem_map_of_mem hz
  obtain ⟨z2, hz2, e⟩ := List.mem_map.1 h1
  rw [← e]
  exact h z2 hz2
theorem Sm.intro {N : Nat} {x : Nd} (h : x.text.length ≤ N) (hl : ∀ y ∈ x.l, Sm N y) : Sm N x := by
  intro y hy
  rw [Nd.pre_eq] at hy
  rcases List.mem_cons.1 hy with rfl | hy
  · exact h
  · obtain ⟨s, hs, hy⟩ := List.mem_flatten.1 hy
    obtain ⟨z, hz, rfl⟩ := List.mem_map.1 hs
    exact (hl z hz).at 1 y hy
theorem Sm.below {N : Nat} {x : Nd} (h : Sm N x) {y : Nd} (hy : y ∈ x.l) : Sm N y := fun z hz => by
  have h1 : z.1 ∈ (y.pre 1).map Prod.fst := by rw [pre_fst y 1 0]; exact List.mem_map_of_mem hz
  obtain ⟨z2, hz2, e⟩ := List.mem_map.1 h1
  rw [← e]
  exact h z2 (by rw [Nd.pre_eq]; exact List.mem_cons_of_mem _ (List.mem_flatten.2 ⟨_, List.mem_map.2 ⟨y, hy, rfl⟩, hz2⟩))
theorem Sm.head {N : Nat} {x : Nd} (h : Sm N x) : x.text.length ≤ N := h (x, 0) (by rw [Nd.pre_eq]; exact List.mem_cons_self ..)
theorem Sm.mono {N M : Nat} {x : Nd} (h : Sm N x) (hN : N ≤ M) : Sm M x := fun y hy => Nat.le_trans (h y hy) hN
def SmP (N : Nat) (p : Ps) : Prop := (∀ x ∈ p.o, Sm N x) ∧ ∀ x, p.w = some x → Sm N x
theorem put_sm {N : Nat} {o : List Nd} {n : Nd} (ho : ∀ x ∈ o, Sm N x) (hn : Sm N n) : SmP N (putP o n) := by
  cases o with
  | nil => exact ⟨fun x h => (by cases h), fun x e => by cases e; exact hn⟩
  | cons q r =>
    refine ⟨fun x hx => ?_, fun x e => by cases e⟩
    rcases List.mem_cons.1 hx with rfl | hx
    · refine Sm.intro (ho q (List.mem_cons_self ..)).head fun y hy => ?_
      rcases List.mem_append.1 (show y ∈ q.l ++ [n] from hy) with hy | hy
      · exact (ho q (List.mem_cons_self ..)).below hy
      · obtain rfl := List.mem_singleton.1 hy
        exact hn
    · exact ho x (List.mem_cons_of_mem _ hx)
theorem step_sm {N : Nat} {t : T} {p q : Ps} (ht : t.text.length ≤ N) (hp : SmP N p) (h : stepP t p = .ok q) : SmP N q := by
  have hl : Sm N (leaf t) := Sm.intro ht (fun y hy => by cases hy)
  unfold stepP at h
  split at h
  · cases h
  · split at h
    · injection h with h
      subst h
      exact put_sm hp.1 hl
    · split at h
      · split at h
        · cases h
        · injection h with h
          subst h
          refine ⟨fun x hx => ?_, fun x e => by cases e⟩
          rcases List.mem_cons.1 hx with rfl | hx
          · exact Sm.intro (Nat.zero_le _) (fun y hy => by cases hy)
          · exact hp.1 x hx
      · split at h
        · split at h
          · cases h
          · rename_i q r ho
            injection h with h
            subst h
            have h0 := hp.1
            rw [ho] at h0
            exact put_sm (fun x hx => h0 x (List.mem_cons_of_mem _ hx)) (h0 q (List.mem_cons_self ..))
        · cases h
theorem run_sm {N : Nat} : ∀ (l : List T) (p q : Ps), (∀ t ∈ l, t.text.length ≤ N) → SmP N p → runP l p = .ok q → SmP N q
  | [], p, q, _, hp, h => by
    injection h with h
    subst h
    exact hp
  | t :: l, p, q, ht, hp, h => by
    unfold runP at h
    split at h
    · cases h
    · rename_i q' hq
      exact run_sm l q' q (fun t h => ht t (List.mem_cons_of_mem _ h)) (step_sm (ht t (List.mem_cons_self ..)) hp hq) h
theorem zero_sm (N : Nat) : Sm N Nd.zero := Sm.intro (Nat.zero_le _) (fun y hy => by cases hy)
theorem par_small (L : List UInt8) : Sm 5000 (parR it L).1 := by
  unfold parR
  split
  · exact zero_sm _
  · unfold endP
    split
    · exact zero_sm _
    · rename_i p hp
      split
      · rename_i x hx
        exact (run_sm (allT it L) ⟨[], none⟩ p (fun t ht => all_small ht) ⟨fun x h => (by cases h), fun x e => by cases e⟩ hp).2 x hx
      · exact zero_sm _
/-- One that may be is no deeper than 17. -/
theorem nat_fit {R : RP} : ∀ (D : Nat) (x : Nd) (cs : List Value) (i : Nat), i ≤ 16 → FitN it x i → NAt R D x cs → NAt R (17 - i) x cs
  | 0, _, _, _, _, _, h => h.elim
  | D + 1, x, cs, i, hi, hf, ⟨u, h1, xs, h2, h3⟩ => by
    have e : 17 - i = (16 - i) + 1 := by omega
    rw [e]
    refine ⟨u, h1, xs, h2, h3.imp_mem fun y hy cs hc => ?_⟩
    have hh := hf.head
    have hi2 : i < 16 := by
      unfold fitB at hh
      split at hh
      · simp only [Bool.and_eq_true, decide_eq_true_eq] at hh
        exact hh.2
      · unfold leafB at hh
        simp only [Bool.and_eq_true, List.isEmpty_iff] at hh
        rw [hh.1] at hy
        cases hy
    have := nat_fit D y cs (i + 1) (by omega) (hf.below hy) hc
    rwa [show 17 - (i + 1) = 16 - i by omega] at this
end

theorem nat_may {R : RP} {D : Nat} {x : Nd} {cs : List Value} (hm : mayB Lib.itoa x = true) (h : NAt R D x cs) : NAt R 17 x cs := nat_fit D x cs 0 (by omega) (may_iff.1 hm) h
theorem nat_zero {R : RP} {D : Nat} {cs : List Value} (h : NAt R D Nd.zero cs) : NAt R 17 Nd.zero cs := by
  cases D with
  | zero => exact h.elim
  | succ D =>
    obtain ⟨u, h1, xs, h2, h3⟩ := h
    exact ⟨u, h1, xs, h2, h3.imp_mem fun y hy => by cases hy⟩
theorem nat_par {R : RP} {D : Nat} {L : List UInt8} {cs : List Value} (h : NAt R D (parR Lib.itoa L).1 cs) : NAt R 17 (parR Lib.itoa L).1 cs := by
  by_cases he : (parR Lib.itoa L).2.2 = 0
  · exact nat_may (par_may he) h
  · have hz := (par_err he).1
    rw [hz] at h ⊢
    exact nat_zero h
/-- Parse, as what is read. -/
theorem parse14_rd (s : ByteArray) (hs : s.size ≤ 1000000) (w : World) (LV : Laid w) :
    Calls Tryd.prog 11 #[.string s] w fun e w' => ∃ g, e = .returned (.tuple #[.agg #[.int .i64 (parR Lib.itoa s.data.toList).1.kind, .string (tx (parR Lib.itoa s.data.toList).1.text), .int .i64 (parR Lib.itoa s.data.toList).1.num, .int .i64 (parR Lib.itoa s.data.toList).1.at_, g], .int .i64 (parR Lib.itoa s.data.toList).2.1, .int .i64 (parR Lib.itoa s.data.toList).2.2]) ∧
      NAt (Rd w'.heap.size w') 17 (parR Lib.itoa s.data.toList).1 [.int .i64 (parR Lib.itoa s.data.toList).1.kind, .string (tx (parR Lib.itoa s.data.toList).1.text), .int .i64 (parR Lib.itoa s.data.toList).1.num, .int .i64 (parR Lib.itoa s.data.toList).1.at_, g] ∧ Below w.heap.size w w' := by
  refine (parse14_any s hs w LV).mono ?_
  rintro e w' ⟨X, rfl, hX, hl, hb⟩
  have hn := LN.natR (by decide) X hl
  rw [hX] at hn
  have hn := nat_par hn
  have e1 : X.kind = (parR Lib.itoa s.data.toList).1.kind := by rw [← hX, LN.bare_eq]; rfl
  have e2 : X.text = (parR Lib.itoa s.data.toList).1.text := by rw [← hX, LN.bare_eq]; rfl
  have e3 : X.num = (parR Lib.itoa s.data.toList).1.num := by rw [← hX, LN.bare_eq]; rfl
  have e4 : X.at_ = (parR Lib.itoa s.data.toList).1.at_ := by rw [← hX, LN.bare_eq]; rfl
  refine ⟨X.g, ?_, ?_, hb⟩
  · rw [LN.val, e1, e2, e3, e4]
  · rw [LN.cells, e1, e2, e3, e4] at hn
    exact hn
end Go.Proofs.YtceomdbahiimlaaDoor.T14
