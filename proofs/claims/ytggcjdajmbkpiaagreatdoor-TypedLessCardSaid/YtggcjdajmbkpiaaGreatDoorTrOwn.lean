/-
  How deep a message is: value's Deep, and the greatest numbers below it.
-/
import Derived.Test.YtggcjdajmbkpiaaGreatDoorTrSize
import Derived.Deep.MidRow
import Derived.OwnWalk
import Derived.Deep.RegionHeldLaw
namespace Go.Proofs.YtggcjdajmbkpiaaGreatDoor.T9
set_option maxRecDepth 100000

open Go.RowKit

/-- The premise: what is told of an element. -/
def greatestmsgP (B d : Nat) (w : World) (l : List Mg) : Prop := ∀ a ∈ l, ∀ x wr, Below w.heap.size w wr → MAt (Rd B wr) d a [x] → Calls Tryz.prog 27 #[.agg #[x]] wr fun e w' => e = .returned (.int .i64 (Mg.deep a : Nat)) ∧ Below wr.heap.size wr w'
set_option maxRecDepth 1000000 in
set_option maxHeartbeats 4000000 in
theorem greatest_msg (B d : Nat) (l : List Mg) (u : Value) (w : World) (hB : B ≤ w.heap.size) (hl : LsAt (Rd B w) 28 1 (MAt (Rd B w) d) l u) (hg : greatestmsgP B d w l) (hsm : mx (l.map Mg.deep) ≤ 1000000000000) :
    Calls Tryz.prog 171 #[u, .func (.func 27) #[] #[]] w fun e w' => e = .returned (.int .i64 (mx (l.map Mg.deep) : Nat)) ∧ Below w.heap.size w w' := by
  obtain ⟨A, c, xs, rfl, hs, hb, hr, hn⟩ := hl.open_
  have HS := Lib.hid hs
  have HR := Lib.hid hr
  have HG := Lib.hid hg
  have HSM := Lib.hid hsm
  have HBB := Lib.hid hb
  clear hs hr hg hl hsm hb
  go_enter Tryz.func171, Tryz.ntmps171
  go_wp2
  go_loopw [5, 9] (fun n i wr => ∃ k : Nat, i = .int .i64 k ∧ k ≤ l.length ∧ n = .int .i64 (mx ((l.take k).map Mg.deep) : Nat) ∧ Below w.heap.size w wr) (fun _ i _ => l.length - (intOf i).toNat)
  case atStart => exact ⟨0, rfl, by omega, rfl, Below.refl _ _⟩
  case round =>
    obtain ⟨k, rfl, hk, rfl, hbw⟩ := hrel
    by_cases hlt : k < l.length
    · obtain ⟨a, ha⟩ : ∃ a, l[k]? = some a := ⟨_, List.getElem?_eq_getElem hlt⟩
      obtain ⟨ad, x, rfl, hg, hc, c0⟩ := row1 MAt.len (sl_low HS.out HBB.out (Lo.below hbw hB)) (HR.out.imp fun a cs h => MRd.low (Lo.below hbw hB) h) ha
      have HC := Lib.hid (HG.out a (List.mem_of_getElem? ha) _ wr hbw hc)
      have HN := Lib.hid (mx_take_next Mg.deep ha)
      have HB2 := Lib.hid hbw
      have hle : mx ((l.take (k + 1)).map Mg.deep) ≤ 1000000000000 := Nat.le_trans (mx_take_le l (k + 1) Mg.deep) HSM.out
      rw [HN.out] at hle
      obtain ⟨p, hp⟩ : ∃ p, mx ((l.take k).map Mg.deep) = p := ⟨_, rfl⟩
      obtain ⟨q, hq⟩ : ∃ q, Mg.deep a = q := ⟨_, rfl⟩
      rw [hp, hq] at hle
      rw [hp, hq] at HN
      rw [hp]
      rw [hq] at HC
      clear hc hbw ha hp hq
      go_wp2_with (go_at_call 27; refine HC.out.mono ?_; rintro e w1 ⟨rfl, hb1⟩)
      refine ⟨⟨k + 1, by go_num, by omega, ?_, HB2.out.trans (hb1.mono HB2.out.size)⟩, by simp [intOf]; omega⟩
      rw [HN.out]
      go_num
    · obtain rfl : k = l.length := by omega
      have e : l.take l.length = l := List.take_length
      rw [e]
      go_wp2
      go_ret
      exact ⟨rfl, hbw⟩
/-- The premise: what is told of an element. -/
def greatestvalP (B d : Nat) (w : World) (l : List Vl') : Prop := ∀ a ∈ l, ∀ x y z wr, Below w.heap.size w wr → VAt (Rd B wr) d a [x, y, z] → Calls Tryz.prog 118 #[.agg #[x, y, z]] wr fun e w' => e = .returned (.int .i64 (dV a : Nat)) ∧ Below wr.heap.size wr w'
set_option maxRecDepth 1000000 in
set_option maxHeartbeats 4000000 in
theorem greatest_val (B d : Nat) (l : List Vl') (u : Value) (w : World) (hB : B ≤ w.heap.size) (hl : LsAt (Rd B w) 31 3 (VAt (Rd B w) d) l u) (hg : greatestvalP B d w l) (hsm : mx (l.map dV) ≤ 1000000000000) :
    Calls Tryz.prog 117 #[u, .func (.func 118) #[] #[]] w fun e w' => e = .returned (.int .i64 (mx (l.map dV) : Nat)) ∧ Below w.heap.size w w' := by
  obtain ⟨A, c, xs, rfl, hs, hb, hr, hn⟩ := hl.open_
  have HS := Lib.hid hs
  have HR := Lib.hid hr
  have HG := Lib.hid hg
  have HSM := Lib.hid hsm
  have HBB := Lib.hid hb
  clear hs hr hg hl hsm hb
  go_enter Tryz.func117, Tryz.ntmps117
  go_wp2
  go_loopw [5, 9] (fun n i wr => ∃ k : Nat, i = .int .i64 k ∧ k ≤ l.length ∧ n = .int .i64 (mx ((l.take k).map dV) : Nat) ∧ Below w.heap.size w wr) (fun _ i _ => l.length - (intOf i).toNat)
  case atStart => exact ⟨0, rfl, by omega, rfl, Below.refl _ _⟩
  case round =>
    obtain ⟨k, rfl, hk, rfl, hbw⟩ := hrel
    by_cases hlt : k < l.length
    · obtain ⟨a, ha⟩ : ∃ a, l[k]? = some a := ⟨_, List.getElem?_eq_getElem hlt⟩
      obtain ⟨ad, x, y, z, rfl, hg, hc, c0, c1, c2⟩ := row3 vAt.len (sl_low HS.out HBB.out (Lo.below hbw hB)) (HR.out.imp fun a cs h => VRd.low (Lo.below hbw hB) h) ha
      have HC := Lib.hid (HG.out a (List.mem_of_getElem? ha) _ _ _ wr hbw hc)
      have HN := Lib.hid (mx_take_next dV ha)
      have HB2 := Lib.hid hbw
      have hle : mx ((l.take (k + 1)).map dV) ≤ 1000000000000 := Nat.le_trans (mx_take_le l (k + 1) dV) HSM.out
      rw [HN.out] at hle
      obtain ⟨p, hp⟩ : ∃ p, mx ((l.take k).map dV) = p := ⟨_, rfl⟩
      obtain ⟨q, hq⟩ : ∃ q, dV a = q := ⟨_, rfl⟩
      rw [hp, hq] at hle
      rw [hp, hq] at HN
      rw [hp]
      rw [hq] at HC
      clear hc hbw ha hp hq
      go_wp2_with (go_at_call 118; refine HC.out.mono ?_; rintro e w1 ⟨rfl, hb1⟩)
      refine ⟨⟨k + 1, by go_num, by omega, ?_, HB2.out.trans (hb1.mono HB2.out.size)⟩, by simp [intOf]; omega⟩
      rw [HN.out]
      go_num
    · obtain rfl : k = l.length := by omega
      have e : l.take l.length = l := List.take_length
      rw [e]
      go_wp2
      go_ret
      exact ⟨rfl, hbw⟩
/-- The premise: what is told of an element. -/
def greatestslotP (B d : Nat) (w : World) (l : List So) : Prop := ∀ a ∈ l, ∀ x y z wr, Below w.heap.size w wr → SAt' (Rd B wr) d a [x, y, z] → Calls Tryz.prog 58 #[.agg #[x, y, z]] wr fun e w' => e = .returned (.int .i64 (dS a : Nat)) ∧ Below wr.heap.size wr w'
set_option maxRecDepth 1000000 in
set_option maxHeartbeats 4000000 in
theorem greatest_slot (B d : Nat) (l : List So) (u : Value) (w : World) (hB : B ≤ w.heap.size) (hl : LsAt (Rd B w) 36 3 (SAt' (Rd B w) d) l u) (hg : greatestslotP B d w l) (hsm : mx (l.map dS) ≤ 1000000000000) :
    Calls Tryz.prog 57 #[u, .func (.func 58) #[] #[]] w fun e w' => e = .returned (.int .i64 (mx (l.map dS) : Nat)) ∧ Below w.heap.size w w' := by
  obtain ⟨A, c, xs, rfl, hs, hb, hr, hn⟩ := hl.open_
  have HS := Lib.hid hs
  have HR := Lib.hid hr
  have HG := Lib.hid hg
  have HSM := Lib.hid hsm
  have HBB := Lib.hid hb
  clear hs hr hg hl hsm hb
  go_enter Tryz.func57, Tryz.ntmps57
  go_wp2
  go_loopw [5, 9] (fun n i wr => ∃ k : Nat, i = .int .i64 k ∧ k ≤ l.length ∧ n = .int .i64 (mx ((l.take k).map dS) : Nat) ∧ Below w.heap.size w wr) (fun _ i _ => l.length - (intOf i).toNat)
  case atStart => exact ⟨0, rfl, by omega, rfl, Below.refl _ _⟩
  case round =>
    obtain ⟨k, rfl, hk, rfl, hbw⟩ := hrel
    by_cases hlt : k < l.length
    · obtain ⟨a, ha⟩ : ∃ a, l[k]? = some a := ⟨_, List.getElem?_eq_getElem hlt⟩
      obtain ⟨ad, x, y, z, rfl, hg, hc, c0, c1, c2⟩ := row3 sAt.len (sl_low HS.out HBB.out (Lo.below hbw hB)) (HR.out.imp fun a cs h => SRd.low (Lo.below hbw hB) h) ha
      have HC := Lib.hid (HG.out a (List.mem_of_getElem? ha) _ _ _ wr hbw hc)
      have HN := Lib.hid (mx_take_next dS ha)
      have HB2 := Lib.hid hbw
      have hle : mx ((l.take (k + 1)).map dS) ≤ 1000000000000 := Nat.le_trans (mx_take_le l (k + 1) dS) HSM.out
      rw [HN.out] at hle
      obtain ⟨p, hp⟩ : ∃ p, mx ((l.take k).map dS) = p := ⟨_, rfl⟩
      obtain ⟨q, hq⟩ : ∃ q, dS a = q := ⟨_, rfl⟩
      rw [hp, hq] at hle
      rw [hp, hq] at HN
      rw [hp]
      rw [hq] at HC
      clear hc hbw ha hp hq
      go_wp2_with (go_at_call 58; refine HC.out.mono ?_; rintro e w1 ⟨rfl, hb1⟩)
      refine ⟨⟨k + 1, by go_num, by omega, ?_, HB2.out.trans (hb1.mono HB2.out.size)⟩, by simp [intOf]; omega⟩
      rw [HN.out]
      go_num
    · obtain rfl : k = l.length := by omega
      have e : l.take l.length = l := List.take_length
      rw [e]
      go_wp2
      go_ret
      exact ⟨rfl, hbw⟩

/-- Deep, of messages within so many levels. -/
def DeepH (B d : Nat) : Prop := ∀ (m : Mg) (u : Value) (w : World), B ≤ w.heap.size → MRd B w d m u → m.deep ≤ 1000000000000 → Calls Tryz.prog 27 #[.agg #[u]] w fun e w' => e = .returned (.int .i64 (m.deep : Nat)) ∧ Below w.heap.size w w'
theorem deepVal_any {B d : Nat} (H : DeepH B d) (v : Vl') (u : Value) (w : World) (hB : B ≤ w.heap.size) (hv : VAt (Rd B w) d v [.int .i64 v.n, .string (tx v.s), u]) (hsm : dV v ≤ 1000000000000) :
    Calls Tryz.prog 118 #[.agg #[.int .i64 v.n, .string (tx v.s), u]] w fun e w' => e = .returned (.int .i64 (dV v : Nat)) ∧ Below w.heap.size w w' := by
  obtain ⟨u', hu, hl⟩ := hv
  simp only [List.cons.injEq, and_true, true_and] at hu
  subst hu
  have hbw := below_new w (.cells #[.int .i64 v.n, .string (tx v.s), u] 31)
  have hT := greatest_msg B d v.M u _ (Nat.le_trans hB hbw.size) (hl.low (Lo.below hbw hB) fun a cs h => MRd.low (Lo.below hbw hB) h)
    (fun a ha x wr hw hr => H a x wr (Nat.le_trans (Nat.le_trans hB hbw.size) hw.size) hr (by have := mem_le_mx (g := Mg.deep) ha; unfold dV at hsm; omega)) (by unfold dV at hsm; omega)
  have hz : dV v = mx (v.M.map Mg.deep) := rfl
  obtain ⟨q, hq⟩ : ∃ q, mx (v.M.map Mg.deep) = q := ⟨_, rfl⟩
  rw [hz, hq] at hsm ⊢
  rw [hq] at hT
  have HT := Lib.hid hT
  clear hT hl hz hq H
  go_enter Tryz.func118, Tryz.ntmps118
  go_wp2_with (go_at_call 171; refine HT.out.mono ?_; rintro e w1 ⟨rfl, hb1⟩)
  go_ret
  exact ⟨by go_num, hbw.trans (hb1.mono hbw.size)⟩
theorem dvalP {B d : Nat} (H : DeepH B d) {w : World} (hB : B ≤ w.heap.size) {l : List Vl'} (hsm : mx (l.map dV) ≤ 1000000000000) : greatestvalP B d w l := fun a ha x y z wr hw hr => by
  have hr' := hr
  obtain ⟨u, hu, _⟩ := hr
  simp only [List.cons.injEq, and_true] at hu
  obtain ⟨rfl, rfl, rfl⟩ := hu
  exact deepVal_any H a z wr (Nat.le_trans hB hw.size) hr' (by have := mem_le_mx (g := dV) ha; omega)
set_option maxRecDepth 1000000 in
set_option maxHeartbeats 4000000 in
theorem deepSlot_any {B d : Nat} (H : DeepH B d) (s : So) (u1 u2 : Value) (w : World) (hB : B ≤ w.heap.size) (hs : SAt' (Rd B w) d s [.int .i64 s.no, u1, u2]) (hsm : dS s ≤ 1000000000000) :
    Calls Tryz.prog 58 #[.agg #[.int .i64 s.no, u1, u2]] w fun e w' => e = .returned (.int .i64 (dS s : Nat)) ∧ Below w.heap.size w w' := by
  obtain ⟨u1', u2', hu, hk, hv⟩ := hs
  simp only [List.cons.injEq, and_true, true_and] at hu
  obtain ⟨rfl, rfl⟩ := hu
  have H1 := Lib.hid (fun wx (hx : Below w.heap.size w wx) => greatest_val B d s.K u1 wx (Nat.le_trans hB hx.size) (hk.low (Lo.below hx hB) fun a cs h => VRd.low (Lo.below hx hB) h) (dvalP H (Nat.le_trans hB hx.size) (by unfold dS at hsm; omega)) (by unfold dS at hsm; omega))
  have H2 := Lib.hid (fun wx (hx : Below w.heap.size w wx) => greatest_val B d s.V u2 wx (Nat.le_trans hB hx.size) (hv.low (Lo.below hx hB) fun a cs h => VRd.low (Lo.below hx hB) h) (dvalP H (Nat.le_trans hB hx.size) (by unfold dS at hsm; omega)) (by unfold dS at hsm; omega))
  have hz : dS s = max (mx (s.K.map dV)) (mx (s.V.map dV)) := rfl
  obtain ⟨p, hp⟩ : ∃ p, mx (s.K.map dV) = p := ⟨_, rfl⟩
  obtain ⟨q, hq⟩ : ∃ q, mx (s.V.map dV) = q := ⟨_, rfl⟩
  rw [hz, hp, hq] at hsm ⊢
  rw [hp] at H1
  rw [hq] at H2
  have LBD : Below w.heap.size w ((w.alloc (.cells #[.int .i64 s.no, u1, u2] 36)).drew) := (below_new w _).trans (Below.refl _ _).drew
  have h0 : Bx w.heap.size (.cells #[.int .i64 s.no, u1, u2] 36 (0, 0)) u1 u2 ((w.alloc (.cells #[.int .i64 s.no, u1, u2] 36)).drew) := ⟨heap_alloc_new w _, (bx3 (heap_alloc_new w (.cells #[.int .i64 s.no, u1, u2] 36))).2.1, (bx3 (heap_alloc_new w (.cells #[.int .i64 s.no, u1, u2] 36))).2.2⟩
  have HW : Hid (max (p : Int) (q : Int) = ((max p q : Nat) : Int)) := Lib.hid (by omega)
  clear hz hp hq H hk hv
  go_enter Tryz.func58, Tryz.ntmps58
  go_wp2_with fail
  go_region_held3 (fun w' => w'.heap[w.heap.size]? = some (.cells #[.int .i64 s.no, u1, u2] 36 (0, 0)) ∧ w'.cell? ⟨w.heap.size, 1, none⟩ = some u1 ∧ w'.cell? ⟨w.heap.size, 2, none⟩ = some u2)
    (first | exact h0 | exact Bx.on h0 ‹_› | exact Bx.on (Bx.on h0 hbK) hbV | exact Bx.on (Bx.on h0 hbV) hbK | go_keep)
    ((first
      | (go_at_call 117; with_reducible refine (H1.out _ (by first | exact LBD | exact LBD.trans (hbV.mono LBD.size))).mono ?_; rintro e wK ⟨rfl, hbK⟩)
      | (go_at_call 117; with_reducible refine (H2.out _ (by first | exact LBD | exact LBD.trans (hbK.mono LBD.size))).mono ?_; rintro e wV ⟨rfl, hbV⟩)))
  all_goals go_wp2
  all_goals go_ret
  all_goals exact ⟨by first | (show _ = Ending.returned (.int .i64 ((max p q : Nat) : Int)); rw [← HW.out]; rfl) | (rw [show max p q = q by omega]; rfl) | (rw [show max p q = p by omega]; rfl), by first | exact below_then (below_then LBD hbK) hbV | exact below_then (below_then LBD hbV) hbK⟩
theorem dslotP {B d : Nat} (H : DeepH B d) {w : World} (hB : B ≤ w.heap.size) {l : List So} (hsm : mx (l.map dS) ≤ 1000000000000) : greatestslotP B d w l := fun a ha x y z wr hw hr => by
  have hr' := hr
  obtain ⟨u1, u2, hu, _⟩ := hr
  simp only [List.cons.injEq, and_true] at hu
  obtain ⟨rfl, rfl, rfl⟩ := hu
  exact deepSlot_any H a y z wr (Nat.le_trans hB hw.size) hr' (by have := mem_le_mx (g := dS) ha; omega)
theorem deep_step {B d : Nat} (H : DeepH B d) : DeepH B (d + 1) := by
  rintro m u w hB ⟨u', hu, hl⟩ hsm
  simp only [List.cons.injEq, and_true] at hu
  subst hu
  have hbw := below_new w (.cells #[u] 28)
  rw [m.deep_eq] at hsm ⊢
  have hT := greatest_slot B d m.F u _ (Nat.le_trans hB hbw.size) (hl.low (Lo.below hbw hB) fun a cs h => SRd.low (Lo.below hbw hB) h) (dslotP H (Nat.le_trans hB hbw.size) (by omega)) (by omega)
  obtain ⟨q, hq⟩ : ∃ q, mx (m.F.map dS) = q := ⟨_, rfl⟩
  rw [hq] at hT hsm ⊢
  have HT := Lib.hid hT
  clear hT hl hq H
  go_enter Tryz.func27, Tryz.ntmps27
  go_wp2_with (go_at_call 57; refine HT.out.mono ?_; rintro e w1 ⟨rfl, hb1⟩)
  go_ret
  exact ⟨rfl, hbw.trans (hb1.mono hbw.size)⟩
/-- value.Deep, of any message. -/
theorem deep_any (B : Nat) : ∀ d, DeepH B d
  | 0 => fun _ _ _ _ h _ => h.elim
  | d + 1 => deep_step (deep_any B d)
end Go.Proofs.YtggcjdajmbkpiaaGreatDoor.T9
/-
  Whether two messages are the same: value's Same, and the comparisons below it.
-/
namespace Go.Proofs.YtggcjdajmbkpiaaGreatDoor.T9
set_option maxRecDepth 100000

open Go.RowKit

/-- Are two the same? -/
noncomputable def eqB {α : Type} (a b : α) : Bool := @decide (a = b) (Classical.propDecidable _)
theorem eqB_iff {α : Type} {a b : α} : eqB a b = true ↔ a = b := by unfold eqB; exact @decide_eq_true_iff _ (Classical.propDecidable _)
theorem eqB_yes {α : Type} {a b : α} (h : a = b) : eqB a b = true := eqB_iff.2 h
theorem eqB_no {α : Type} {a b : α} (h : ¬ a = b) : eqB a b = false := by unfold eqB; exact @decide_eq_false _ (Classical.propDecidable _) h
theorem cell_on {w w' : World} {a : Addr} {v : Value} (hb : Below w.heap.size w w') (h : w.cell? a = some v) : w'.cell? a = some v := (hb.cell (World.block_lt_of_cell? w _ h)).trans h
theorem eqB_false {α : Type} {a b : α} (h : eqB a b = false) : ¬ a = b := fun e => by rw [eqB_yes e] at h; cases h
theorem eq_take_next {α : Type} {l m : List α} {k : Nat} {x : α} (hx : l[k]? = some x) (hy : m[k]? = some x) (h : l.take k = m.take k) : l.take (k + 1) = m.take (k + 1) := by
  rw [List.take_add_one, List.take_add_one, hx, hy, h]
theorem eq_ne_at {α : Type} {l m : List α} {k : Nat} {x y : α} (hx : l[k]? = some x) (hy : m[k]? = some y) (hne : ¬ x = y) : ¬ l = m := fun e => by
  rw [e, hy] at hx
  exact hne (Option.some.inj hx).symm
theorem eqB_slot (a b : So) : eqB a b = (decide (a.no = b.no) && (eqB a.K b.K && eqB a.V b.V)) := by
  rw [Bool.eq_iff_iff, eqB_iff]
  simp only [Bool.and_eq_true, decide_eq_true_eq, eqB_iff]
  obtain ⟨n, k, v⟩ := a
  obtain ⟨n', k', v'⟩ := b
  simp
theorem eqB_val (a b : Vl') : eqB a b = (decide (a.n = b.n) && (decide (a.s = b.s) && eqB a.M b.M)) := by
  rw [Bool.eq_iff_iff, eqB_iff]
  simp only [Bool.and_eq_true, decide_eq_true_eq, eqB_iff]
  obtain ⟨n, k, v⟩ := a
  obtain ⟨n', k', v'⟩ := b
  simp
theorem eqB_msg (a b : Mg) : eqB a b = eqB a.F b.F := by
  rw [Bool.eq_iff_iff, eqB_iff, eqB_iff]
  exact ⟨fun h => by rw [h], Mg.ext⟩

/-- The premise: what is told of two elements. -/
def samemsgP (B d : Nat) (w : World) (l m : List Mg) : Prop := ∀ (k : Nat) a b, l[k]? = some a → m[k]? = some b → ∀ x1 x2 wr, Below w.heap.size w wr → MAt (Rd B wr) d a [x1] → MAt (Rd B wr) d b [x2] → Calls Tryz.prog 54 #[.agg #[x1], .agg #[x2]] wr fun e w' => e = .returned (.bool (eqB a b)) ∧ Below wr.heap.size wr w'
set_option maxRecDepth 1000000 in
set_option maxHeartbeats 4000000 in
theorem same_msg (B d : Nat) (l m : List Mg) (u1 u2 : Value) (w : World) (hB : B ≤ w.heap.size) (hl : LsAt (Rd B w) 28 1 (MAt (Rd B w) d) l u1) (hm : LsAt (Rd B w) 28 1 (MAt (Rd B w) d) m u2) (hg : samemsgP B d w l m) :
    Calls Tryz.prog 202 #[u1, u2, .func (.func 54) #[] #[]] w fun e w' => e = .returned (.bool (eqB l m)) ∧ Below w.heap.size w w' := by
  obtain ⟨A1, d1, xs1, rfl, hs1, hb1, hr1, hn1⟩ := hl.open_
  obtain ⟨A2, d2, xs2, rfl, hs2, hb2, hr2, hn2⟩ := hm.open_
  have HS1 := Lib.hid hs1
  have HR1 := Lib.hid hr1
  have HB1 := Lib.hid hb1
  have HS2 := Lib.hid hs2
  have HR2 := Lib.hid hr2
  have HB2 := Lib.hid hb2
  have HG := Lib.hid hg
  clear hs1 hr1 hs2 hr2 hg hl hm hb1 hb2
  by_cases hlen : l.length = m.length
  · have HLEN := Lib.hid hlen
    rw [← hlen]
    clear hlen
    go_enter Tryz.func202, Tryz.ntmps202
    go_wp2
    go_loopw [15] (fun i wr => ∃ k : Nat, i = .int .i64 k ∧ k ≤ l.length ∧ l.take k = m.take k ∧ Below w.heap.size w wr) (fun i _ => l.length - (intOf i).toNat)
    case atStart => exact ⟨0, rfl, by omega, rfl, Below.refl _ _⟩
    case round =>
      obtain ⟨k, rfl, hk, htk, hbw⟩ := hrel
      have HTK := Lib.hid htk
      clear htk
      by_cases hlt : k < l.length
      · have hlt2 : k < m.length := by rw [← HLEN.out]; exact hlt
        obtain ⟨a, ha⟩ : ∃ a, l[k]? = some a := ⟨_, List.getElem?_eq_getElem hlt⟩
        obtain ⟨b, hb⟩ : ∃ b, m[k]? = some b := ⟨_, List.getElem?_eq_getElem hlt2⟩
        obtain ⟨ad1, x1, rfl, hg1, hc1, p0⟩ := row1 MAt.len (sl_low HS1.out HB1.out (Lo.below hbw hB)) (HR1.out.imp fun a cs h => MRd.low (Lo.below hbw hB) h) ha
        obtain ⟨ad2, x2, rfl, hg2, hc2, q0⟩ := row1 MAt.len (sl_low HS2.out HB2.out (Lo.below hbw hB)) (HR2.out.imp fun a cs h => MRd.low (Lo.below hbw hB) h) hb
        have HC := Lib.hid (HG.out k a b ha hb _ _ wr.drew (hbw.trans (Below.refl _ _).drew) (MRd.low (Lo.below (Below.refl _ _).drew (Nat.le_trans hB hbw.size)) hc1) (MRd.low (Lo.below (Below.refl _ _).drew (Nat.le_trans hB hbw.size)) hc2))
        have HBW := Lib.hid hbw
        have HA := Lib.hid ha
        have HBb := Lib.hid hb
        obtain ⟨r, hr⟩ : ∃ r, eqB a b = r := ⟨_, rfl⟩
        rw [hr] at HC
        have HRR := Lib.hid hr
        have hS : wr.cell? (ad1.add k) = some x1 ∧ wr.cell? (ad2.add k) = some x2 := ⟨p0, q0⟩
        clear hc1 hc2 hbw ha hb hr
        go_wp2_with fail
        go_region_held3 (fun wy => wy.cell? (ad1.add k) = some x1 ∧ wy.cell? (ad2.add k) = some x2)
          (first | exact hS | exact ⟨cell_on hb1 p0, cell_on hb1 q0⟩ | go_keep)
          ((go_at_call 54; refine HC.out.mono ?_; rintro e w1 ⟨rfl, hb1⟩))
        cases r with
        | true =>
          go_wp2
          obtain rfl := eqB_iff.1 HRR.out
          refine ⟨⟨k + 1, ?_, by omega, eq_take_next HA.out HBb.out HTK.out, HBW.out.trans ((Below.refl _ _).drew.trans (hb1.mono HBW.out.size))⟩, ?_⟩
          · go_num
          · simp [intOf]; omega
        | false =>
          go_wp2
          go_ret
          exact ⟨by rw [eqB_no (eq_ne_at HA.out HBb.out (eqB_false HRR.out))]; rfl, HBW.out.trans ((Below.refl _ _).drew.trans (hb1.mono HBW.out.size))⟩
      · obtain rfl : k = l.length := by omega
        go_wp2
        go_ret
        have e : l = m := by
          have h := HTK.out
          rwa [List.take_length, HLEN.out, List.take_length] at h
        exact ⟨by rw [eqB_yes e]; rfl, hbw⟩
  · have hne : ((l.length : Int) == (m.length : Int)) = false := by rw [beq_eq_false_iff_ne]; omega
    have HE := Lib.hid (eqB_no (fun e : l = m => hlen (by rw [e])))
    go_enter Tryz.func202, Tryz.ntmps202
    go_wp2
    go_ret
    exact ⟨by rw [HE.out]; rfl, Below.refl _ _⟩
/-- The premise: what is told of two elements. -/
def samevalP (B d : Nat) (w : World) (l m : List Vl') : Prop := ∀ (k : Nat) a b, l[k]? = some a → m[k]? = some b → ∀ x1 y1 z1 x2 y2 z2 wr, Below w.heap.size w wr → VAt (Rd B wr) d a [x1, y1, z1] → VAt (Rd B wr) d b [x2, y2, z2] → Calls Tryz.prog 166 #[.agg #[x1, y1, z1], .agg #[x2, y2, z2]] wr fun e w' => e = .returned (.bool (eqB a b)) ∧ Below wr.heap.size wr w'
set_option maxRecDepth 1000000 in
set_option maxHeartbeats 4000000 in
theorem same_val (B d : Nat) (l m : List Vl') (u1 u2 : Value) (w : World) (hB : B ≤ w.heap.size) (hl : LsAt (Rd B w) 31 3 (VAt (Rd B w) d) l u1) (hm : LsAt (Rd B w) 31 3 (VAt (Rd B w) d) m u2) (hg : samevalP B d w l m) :
    Calls Tryz.prog 165 #[u1, u2, .func (.func 166) #[] #[]] w fun e w' => e = .returned (.bool (eqB l m)) ∧ Below w.heap.size w w' := by
  obtain ⟨A1, d1, xs1, rfl, hs1, hb1, hr1, hn1⟩ := hl.open_
  obtain ⟨A2, d2, xs2, rfl, hs2, hb2, hr2, hn2⟩ := hm.open_
  have HS1 := Lib.hid hs1
  have HR1 := Lib.hid hr1
  have HB1 := Lib.hid hb1
  have HS2 := Lib.hid hs2
  have HR2 := Lib.hid hr2
  have HB2 := Lib.hid hb2
  have HG := Lib.hid hg
  clear hs1 hr1 hs2 hr2 hg hl hm hb1 hb2
  by_cases hlen : l.length = m.length
  · have HLEN := Lib.hid hlen
    rw [← hlen]
    clear hlen
    go_enter Tryz.func165, Tryz.ntmps165
    go_wp2
    go_loopw [15] (fun i wr => ∃ k : Nat, i = .int .i64 k ∧ k ≤ l.length ∧ l.take k = m.take k ∧ Below w.heap.size w wr) (fun i _ => l.length - (intOf i).toNat)
    case atStart => exact ⟨0, rfl, by omega, rfl, Below.refl _ _⟩
    case round =>
      obtain ⟨k, rfl, hk, htk, hbw⟩ := hrel
      have HTK := Lib.hid htk
      clear htk
      by_cases hlt : k < l.length
      · have hlt2 : k < m.length := by rw [← HLEN.out]; exact hlt
        obtain ⟨a, ha⟩ : ∃ a, l[k]? = some a := ⟨_, List.getElem?_eq_getElem hlt⟩
        obtain ⟨b, hb⟩ : ∃ b, m[k]? = some b := ⟨_, List.getElem?_eq_getElem hlt2⟩
        obtain ⟨ad1, x1, y1, z1, rfl, hg1, hc1, p0, p1, p2⟩ := row3 vAt.len (sl_low HS1.out HB1.out (Lo.below hbw hB)) (HR1.out.imp fun a cs h => VRd.low (Lo.below hbw hB) h) ha
        obtain ⟨ad2, x2, y2, z2, rfl, hg2, hc2, q0, q1, q2⟩ := row3 vAt.len (sl_low HS2.out HB2.out (Lo.below hbw hB)) (HR2.out.imp fun a cs h => VRd.low (Lo.below hbw hB) h) hb
        have HC := Lib.hid (HG.out k a b ha hb _ _ _ _ _ _ wr.drew (hbw.trans (Below.refl _ _).drew) (VRd.low (Lo.below (Below.refl _ _).drew (Nat.le_trans hB hbw.size)) hc1) (VRd.low (Lo.below (Below.refl _ _).drew (Nat.le_trans hB hbw.size)) hc2))
        have HBW := Lib.hid hbw
        have HA := Lib.hid ha
        have HBb := Lib.hid hb
        obtain ⟨r, hr⟩ : ∃ r, eqB a b = r := ⟨_, rfl⟩
        rw [hr] at HC
        have HRR := Lib.hid hr
        have hS : wr.cell? (ad1.add (k * 3)) = some x1 ∧ wr.cell? ⟨(ad1.add (k * 3)).block, (ad1.add (k * 3)).off + 1, none⟩ = some y1 ∧ wr.cell? ⟨(ad1.add (k * 3)).block, (ad1.add (k * 3)).off + 2, none⟩ = some z1 ∧ wr.cell? (ad2.add (k * 3)) = some x2 ∧ wr.cell? ⟨(ad2.add (k * 3)).block, (ad2.add (k * 3)).off + 1, none⟩ = some y2 ∧ wr.cell? ⟨(ad2.add (k * 3)).block, (ad2.add (k * 3)).off + 2, none⟩ = some z2 := ⟨p0, p1, p2, q0, q1, q2⟩
        clear hc1 hc2 hbw ha hb hr
        go_wp2_with fail
        go_region_held3 (fun wy => wy.cell? (ad1.add (k * 3)) = some x1 ∧ wy.cell? ⟨(ad1.add (k * 3)).block, (ad1.add (k * 3)).off + 1, none⟩ = some y1 ∧ wy.cell? ⟨(ad1.add (k * 3)).block, (ad1.add (k * 3)).off + 2, none⟩ = some z1 ∧ wy.cell? (ad2.add (k * 3)) = some x2 ∧ wy.cell? ⟨(ad2.add (k * 3)).block, (ad2.add (k * 3)).off + 1, none⟩ = some y2 ∧ wy.cell? ⟨(ad2.add (k * 3)).block, (ad2.add (k * 3)).off + 2, none⟩ = some z2)
          (first | exact hS | exact ⟨cell_on hb1 p0, cell_on hb1 p1, cell_on hb1 p2, cell_on hb1 q0, cell_on hb1 q1, cell_on hb1 q2⟩ | go_keep)
          ((go_at_call 166; refine HC.out.mono ?_; rintro e w1 ⟨rfl, hb1⟩))
        cases r with
        | true =>
          go_wp2
          obtain rfl := eqB_iff.1 HRR.out
          refine ⟨⟨k + 1, ?_, by omega, eq_take_next HA.out HBb.out HTK.out, HBW.out.trans ((Below.refl _ _).drew.trans (hb1.mono HBW.out.size))⟩, ?_⟩
          · go_num
          · simp [intOf]; omega
        | false =>
          go_wp2
          go_ret
          exact ⟨by rw [eqB_no (eq_ne_at HA.out HBb.out (eqB_false HRR.out))]; rfl, HBW.out.trans ((Below.refl _ _).drew.trans (hb1.mono HBW.out.size))⟩
      · obtain rfl : k = l.length := by omega
        go_wp2
        go_ret
        have e : l = m := by
          have h := HTK.out
          rwa [List.take_length, HLEN.out, List.take_length] at h
        exact ⟨by rw [eqB_yes e]; rfl, hbw⟩
  · have hne : ((l.length : Int) == (m.length : Int)) = false := by rw [beq_eq_false_iff_ne]; omega
    have HE := Lib.hid (eqB_no (fun e : l = m => hlen (by rw [e])))
    go_enter Tryz.func165, Tryz.ntmps165
    go_wp2
    go_ret
    exact ⟨by rw [HE.out]; rfl, Below.refl _ _⟩
/-- The premise: what is told of two elements. -/
def sameslotP (B d : Nat) (w : World) (l m : List So) : Prop := ∀ (k : Nat) a b, l[k]? = some a → m[k]? = some b → ∀ x1 y1 z1 x2 y2 z2 wr, Below w.heap.size w wr → SAt' (Rd B wr) d a [x1, y1, z1] → SAt' (Rd B wr) d b [x2, y2, z2] → Calls Tryz.prog 109 #[.agg #[x1, y1, z1], .agg #[x2, y2, z2]] wr fun e w' => e = .returned (.bool (eqB a b)) ∧ Below wr.heap.size wr w'
set_option maxRecDepth 1000000 in
set_option maxHeartbeats 4000000 in
theorem same_slot (B d : Nat) (l m : List So) (u1 u2 : Value) (w : World) (hB : B ≤ w.heap.size) (hl : LsAt (Rd B w) 36 3 (SAt' (Rd B w) d) l u1) (hm : LsAt (Rd B w) 36 3 (SAt' (Rd B w) d) m u2) (hg : sameslotP B d w l m) :
    Calls Tryz.prog 108 #[u1, u2, .func (.func 109) #[] #[]] w fun e w' => e = .returned (.bool (eqB l m)) ∧ Below w.heap.size w w' := by
  obtain ⟨A1, d1, xs1, rfl, hs1, hb1, hr1, hn1⟩ := hl.open_
  obtain ⟨A2, d2, xs2, rfl, hs2, hb2, hr2, hn2⟩ := hm.open_
  have HS1 := Lib.hid hs1
  have HR1 := Lib.hid hr1
  have HB1 := Lib.hid hb1
  have HS2 := Lib.hid hs2
  have HR2 := Lib.hid hr2
  have HB2 := Lib.hid hb2
  have HG := Lib.hid hg
  clear hs1 hr1 hs2 hr2 hg hl hm hb1 hb2
  by_cases hlen : l.length = m.length
  · have HLEN := Lib.hid hlen
    rw [← hlen]
    clear hlen
    go_enter Tryz.func108, Tryz.ntmps108
    go_wp2
    go_loopw [15] (fun i wr => ∃ k : Nat, i = .int .i64 k ∧ k ≤ l.length ∧ l.take k = m.take k ∧ Below w.heap.size w wr) (fun i _ => l.length - (intOf i).toNat)
    case atStart => exact ⟨0, rfl, by omega, rfl, Below.refl _ _⟩
    case round =>
      obtain ⟨k, rfl, hk, htk, hbw⟩ := hrel
      have HTK := Lib.hid htk
      clear htk
      by_cases hlt : k < l.length
      · have hlt2 : k < m.length := by rw [← HLEN.out]; exact hlt
        obtain ⟨a, ha⟩ : ∃ a, l[k]? = some a := ⟨_, List.getElem?_eq_getElem hlt⟩
        obtain ⟨b, hb⟩ : ∃ b, m[k]? = some b := ⟨_, List.getElem?_eq_getElem hlt2⟩
        obtain ⟨ad1, x1, y1, z1, rfl, hg1, hc1, p0, p1, p2⟩ := row3 sAt.len (sl_low HS1.out HB1.out (Lo.below hbw hB)) (HR1.out.imp fun a cs h => SRd.low (Lo.below hbw hB) h) ha
        obtain ⟨ad2, x2, y2, z2, rfl, hg2, hc2, q0, q1, q2⟩ := row3 sAt.len (sl_low HS2.out HB2.out (Lo.below hbw hB)) (HR2.out.imp fun a cs h => SRd.low (Lo.below hbw hB) h) hb
        have HC := Lib.hid (HG.out k a b ha hb _ _ _ _ _ _ wr.drew (hbw.trans (Below.refl _ _).drew) (SRd.low (Lo.below (Below.refl _ _).drew (Nat.le_trans hB hbw.size)) hc1) (SRd.low (Lo.below (Below.refl _ _).drew (Nat.le_trans hB hbw.size)) hc2))
        have HBW := Lib.hid hbw
        have HA := Lib.hid ha
        have HBb := Lib.hid hb
        obtain ⟨r, hr⟩ : ∃ r, eqB a b = r := ⟨_, rfl⟩
        rw [hr] at HC
        have HRR := Lib.hid hr
        have hS : wr.cell? (ad1.add (k * 3)) = some x1 ∧ wr.cell? ⟨(ad1.add (k * 3)).block, (ad1.add (k * 3)).off + 1, none⟩ = some y1 ∧ wr.cell? ⟨(ad1.add (k * 3)).block, (ad1.add (k * 3)).off + 2, none⟩ = some z1 ∧ wr.cell? (ad2.add (k * 3)) = some x2 ∧ wr.cell? ⟨(ad2.add (k * 3)).block, (ad2.add (k * 3)).off + 1, none⟩ = some y2 ∧ wr.cell? ⟨(ad2.add (k * 3)).block, (ad2.add (k * 3)).off + 2, none⟩ = some z2 := ⟨p0, p1, p2, q0, q1, q2⟩
        clear hc1 hc2 hbw ha hb hr
        go_wp2_with fail
        go_region_held3 (fun wy => wy.cell? (ad1.add (k * 3)) = some x1 ∧ wy.cell? ⟨(ad1.add (k * 3)).block, (ad1.add (k * 3)).off + 1, none⟩ = some y1 ∧ wy.cell? ⟨(ad1.add (k * 3)).block, (ad1.add (k * 3)).off + 2, none⟩ = some z1 ∧ wy.cell? (ad2.add (k * 3)) = some x2 ∧ wy.cell? ⟨(ad2.add (k * 3)).block, (ad2.add (k * 3)).off + 1, none⟩ = some y2 ∧ wy.cell? ⟨(ad2.add (k * 3)).block, (ad2.add (k * 3)).off + 2, none⟩ = some z2)
          (first | exact hS | exact ⟨cell_on hb1 p0, cell_on hb1 p1, cell_on hb1 p2, cell_on hb1 q0, cell_on hb1 q1, cell_on hb1 q2⟩ | go_keep)
          ((go_at_call 109; refine HC.out.mono ?_; rintro e w1 ⟨rfl, hb1⟩))
        cases r with
        | true =>
          go_wp2
          obtain rfl := eqB_iff.1 HRR.out
          refine ⟨⟨k + 1, ?_, by omega, eq_take_next HA.out HBb.out HTK.out, HBW.out.trans ((Below.refl _ _).drew.trans (hb1.mono HBW.out.size))⟩, ?_⟩
          · go_num
          · simp [intOf]; omega
        | false =>
          go_wp2
          go_ret
          exact ⟨by rw [eqB_no (eq_ne_at HA.out HBb.out (eqB_false HRR.out))]; rfl, HBW.out.trans ((Below.refl _ _).drew.trans (hb1.mono HBW.out.size))⟩
      · obtain rfl : k = l.length := by omega
        go_wp2
        go_ret
        have e : l = m := by
          have h := HTK.out
          rwa [List.take_length, HLEN.out, List.take_length] at h
        exact ⟨by rw [eqB_yes e]; rfl, hbw⟩
  · have hne : ((l.length : Int) == (m.length : Int)) = false := by rw [beq_eq_false_iff_ne]; omega
    have HE := Lib.hid (eqB_no (fun e : l = m => hlen (by rw [e])))
    go_enter Tryz.func108, Tryz.ntmps108
    go_wp2
    go_ret
    exact ⟨by rw [HE.out]; rfl, Below.refl _ _⟩

/-- Same, of messages within so many levels. -/
def SameH (B d : Nat) : Prop := ∀ (a b : Mg) (u1 u2 : Value) (w : World), B ≤ w.heap.size → MRd B w d a u1 → MRd B w d b u2 → Calls Tryz.prog 54 #[.agg #[u1], .agg #[u2]] w fun e w' => e = .returned (.bool (eqB a b)) ∧ Below w.heap.size w w'
theorem two_boxes (w : World) (o1 o2 : Obj) : ((w.alloc o1).alloc o2).heap[w.heap.size]? = some o1 ∧ ((w.alloc o1).alloc o2).heap[w.heap.size + 1]? = some o2 ∧ Below w.heap.size w ((w.alloc o1).alloc o2) := by
  have h1 := heap_alloc_new w o1
  have hs : (w.alloc o1).heap.size = w.heap.size + 1 := by simp
  have h2 := heap_alloc_new (w.alloc o1) o2
  rw [hs] at h2
  exact ⟨box_on h1 (below_new _ _), h2, below_lit (below_new w o1) o2⟩
theorem msgsP {B d : Nat} (H : SameH B d) {w : World} (hB : B ≤ w.heap.size) (l m : List Mg) : samemsgP B d w l m := fun k a b ha hb x1 x2 wr hw h1 h2 => H a b x1 x2 wr (Nat.le_trans hB hw.size) h1 h2
set_option maxRecDepth 1000000 in
set_option maxHeartbeats 4000000 in
theorem sameVal_any {B d : Nat} (H : SameH B d) (a b : Vl') (a1 b1 : Value) (w : World) (hB : B ≤ w.heap.size) (ha : VAt (Rd B w) d a [.int .i64 a.n, .string (tx a.s), a1]) (hb : VAt (Rd B w) d b [.int .i64 b.n, .string (tx b.s), b1]) :
    Calls Tryz.prog 166 #[.agg #[.int .i64 a.n, .string (tx a.s), a1], .agg #[.int .i64 b.n, .string (tx b.s), b1]] w fun e w' => e = .returned (.bool (eqB a b)) ∧ Below w.heap.size w w' := by
  obtain ⟨u1, hu1, hl⟩ := ha
  obtain ⟨u2, hu2, hm⟩ := hb
  simp only [List.cons.injEq, and_true, true_and] at hu1 hu2
  subst hu1 hu2
  have HM := Lib.hid (fun wx (hx : Below w.heap.size w wx) => same_msg B d a.M b.M a1 b1 wx (Nat.le_trans hB hx.size) (hl.low (Lo.below hx hB) fun a cs h => MRd.low (Lo.below hx hB) h) (hm.low (Lo.below hx hB) fun a cs h => MRd.low (Lo.below hx hB) h) (msgsP H (Nat.le_trans hB hx.size) _ _))
  rw [eqB_val]
  obtain ⟨r, hr⟩ : ∃ r, eqB a.M b.M = r := ⟨_, rfl⟩
  rw [hr] at HM ⊢
  obtain ⟨n1, hn1⟩ : ∃ n, a.n = n := ⟨_, rfl⟩
  obtain ⟨n2, hn2⟩ : ∃ n, b.n = n := ⟨_, rfl⟩
  obtain ⟨s1, hs1⟩ : ∃ n, a.s = n := ⟨_, rfl⟩
  obtain ⟨s2, hs2⟩ : ∃ n, b.s = n := ⟨_, rfl⟩
  rw [hn1, hn2, hs1, hs2]
  clear hn1 hn2 hs1 hs2 hr hl hm H
  obtain ⟨X1, X2, LBD⟩ := two_boxes w (.cells #[.int .i64 n1, .string (tx s1), a1] 31) (.cells #[.int .i64 n2, .string (tx s2), b1] 31)
  by_cases hn : n1 = n2
  · subst hn
    by_cases hs : s1 = s2
    · subst hs
      go_enter Tryz.func166, Tryz.ntmps166
      go_wp2_with (go_at_call 202; refine (HM.out _ LBD).mono ?_; rintro e wK ⟨rfl, hbK⟩)
      all_goals
        go_ret
        exact ⟨by simp, below_then LBD hbK⟩
    · have h : ((tx s1).toList == (tx s2).toList) = false := by
        rw [beq_eq_false_iff_ne, ByteArray.toList_eq, ByteArray.toList_eq, tx_list, tx_list]
        exact hs
      have h2 : decide (s1 = s2) = false := by simp [hs]
      rw [h2]
      clear hs h2
      go_enter Tryz.func166, Tryz.ntmps166
      go_wp2
      go_ret
      exact ⟨by simp, LBD⟩
  · have h2 : decide (n1 = n2) = false := by simp [hn]
    rw [h2]
    have h3 : (n1 == n2) = false := by simp [hn]
    go_enter Tryz.func166, Tryz.ntmps166
    go_wp2
    go_ret
    exact ⟨by simp, LBD⟩
theorem valsP {B d : Nat} (H : SameH B d) {w : World} (hB : B ≤ w.heap.size) (l m : List Vl') : samevalP B d w l m := fun k a b ha hb x1 y1 z1 x2 y2 z2 wr hw h1 h2 => by
  have h1' := h1
  have h2' := h2
  obtain ⟨u, hu, _⟩ := h1
  obtain ⟨u', hu', _⟩ := h2
  simp only [List.cons.injEq, and_true] at hu hu'
  obtain ⟨rfl, rfl, rfl⟩ := hu
  obtain ⟨rfl, rfl, rfl⟩ := hu'
  exact sameVal_any H a b z1 z2 wr (Nat.le_trans hB hw.size) h1' h2'
set_option maxRecDepth 1000000 in
set_option maxHeartbeats 4000000 in
theorem sameSlot_any {B d : Nat} (H : SameH B d) (a b : So) (a1 a2 b1 b2 : Value) (w : World) (hB : B ≤ w.heap.size) (ha : SAt' (Rd B w) d a [.int .i64 a.no, a1, a2]) (hb : SAt' (Rd B w) d b [.int .i64 b.no, b1, b2]) :
    Calls Tryz.prog 109 #[.agg #[.int .i64 a.no, a1, a2], .agg #[.int .i64 b.no, b1, b2]] w fun e w' => e = .returned (.bool (eqB a b)) ∧ Below w.heap.size w w' := by
  obtain ⟨u1, u2, hu, hk1, hv1⟩ := ha
  obtain ⟨u3, u4, hu', hk2, hv2⟩ := hb
  simp only [List.cons.injEq, and_true, true_and] at hu hu'
  obtain ⟨rfl, rfl⟩ := hu
  obtain ⟨rfl, rfl⟩ := hu'
  have HK := Lib.hid (fun wx (hx : Below w.heap.size w wx) => same_val B d a.K b.K a1 b1 wx (Nat.le_trans hB hx.size) (hk1.low (Lo.below hx hB) fun a cs h => VRd.low (Lo.below hx hB) h) (hk2.low (Lo.below hx hB) fun a cs h => VRd.low (Lo.below hx hB) h) (valsP H (Nat.le_trans hB hx.size) _ _))
  have HV := Lib.hid (fun wx (hx : Below w.heap.size w wx) => same_val B d a.V b.V a2 b2 wx (Nat.le_trans hB hx.size) (hv1.low (Lo.below hx hB) fun a cs h => VRd.low (Lo.below hx hB) h) (hv2.low (Lo.below hx hB) fun a cs h => VRd.low (Lo.below hx hB) h) (valsP H (Nat.le_trans hB hx.size) _ _))
  rw [eqB_slot]
  obtain ⟨rk, hrk⟩ : ∃ r, eqB a.K b.K = r := ⟨_, rfl⟩
  obtain ⟨rv, hrv⟩ : ∃ r, eqB a.V b.V = r := ⟨_, rfl⟩
  rw [hrk] at HK ⊢
  rw [hrv] at HV ⊢
  obtain ⟨n1, hn1⟩ : ∃ n, a.no = n := ⟨_, rfl⟩
  obtain ⟨n2, hn2⟩ : ∃ n, b.no = n := ⟨_, rfl⟩
  rw [hn1, hn2]
  clear hn1 hn2 hrk hrv hk1 hk2 hv1 hv2 H
  obtain ⟨X1, X2, LBD⟩ := two_boxes w (.cells #[.int .i64 n1, a1, a2] 36) (.cells #[.int .i64 n2, b1, b2] 36)
  by_cases hn : n1 = n2
  · subst hn
    cases rk with
    | true =>
      go_enter Tryz.func109, Tryz.ntmps109
      go_wp2_with (go_at_call 165; first
        | (with_reducible refine (HK.out _ LBD).mono ?_; rintro e wK ⟨rfl, hbK⟩; have y1 : wK.cell? ⟨w.heap.size, 2, none⟩ = some a2 := (bx3 (box_on X1 hbK)).2.2; have y2 : wK.cell? ⟨w.heap.size + 1, 2, none⟩ = some b2 := (bx3 (box_on X2 hbK)).2.2)
        | (with_reducible refine (HV.out _ (below_then LBD hbK)).mono ?_; rintro e wV ⟨rfl, hbV⟩))
      all_goals
        go_ret
        exact ⟨by simp, below_then (below_then LBD hbK) hbV⟩
    | false =>
      go_enter Tryz.func109, Tryz.ntmps109
      go_wp2_with (go_at_call 165; with_reducible refine (HK.out _ LBD).mono ?_; rintro e wK ⟨rfl, hbK⟩)
      go_ret
      exact ⟨by simp, below_then LBD hbK⟩
  · have h2 : decide (n1 = n2) = false := by simp [hn]
    rw [h2]
    have h3 : (n1 == n2) = false := by simp [hn]
    go_enter Tryz.func109, Tryz.ntmps109
    go_wp2
    go_ret
    exact ⟨by simp, LBD⟩
theorem slotsP {B d : Nat} (H : SameH B d) {w : World} (hB : B ≤ w.heap.size) (l m : List So) : sameslotP B d w l m := fun k a b ha hb x1 y1 z1 x2 y2 z2 wr hw h1 h2 => by
  have h1' := h1
  have h2' := h2
  obtain ⟨u, v, hu, _⟩ := h1
  obtain ⟨u', v', hu', _⟩ := h2
  simp only [List.cons.injEq, and_true] at hu hu'
  obtain ⟨rfl, rfl, rfl⟩ := hu
  obtain ⟨rfl, rfl, rfl⟩ := hu'
  exact sameSlot_any H a b y1 z1 y2 z2 wr (Nat.le_trans hB hw.size) h1' h2'
theorem same_step {B d : Nat} (H : SameH B d) : SameH B (d + 1) := by
  rintro a b u1 u2 w hB ⟨u, hu, hl⟩ ⟨u', hu', hm⟩
  simp only [List.cons.injEq, and_true] at hu hu'
  subst hu hu'
  obtain ⟨X1, X2, LBD⟩ := two_boxes w (.cells #[u1] 28) (.cells #[u2] 28)
  have hT := same_slot B d a.F b.F u1 u2 _ (Nat.le_trans hB LBD.size) (hl.low (Lo.below LBD hB) fun a cs h => SRd.low (Lo.below LBD hB) h) (hm.low (Lo.below LBD hB) fun a cs h => SRd.low (Lo.below LBD hB) h) (slotsP H (Nat.le_trans hB LBD.size) _ _)
  rw [eqB_msg]
  obtain ⟨q, hq⟩ : ∃ q, eqB a.F b.F = q := ⟨_, rfl⟩
  rw [hq] at hT ⊢
  have HT := Lib.hid hT
  clear hT hl hm hq H
  go_enter Tryz.func54, Tryz.ntmps54
  go_wp2_with (go_at_call 108; refine HT.out.mono ?_; rintro e w1 ⟨rfl, hb1⟩)
  go_ret
  exact ⟨rfl, LBD.trans (hb1.mono LBD.size)⟩
/-- value.Same, of any two messages. -/
theorem same_any9 (B : Nat) : ∀ d, SameH B d
  | 0 => fun _ _ _ _ _ _ h _ => h.elim
  | d + 1 => same_step (same_any9 B d)
end Go.Proofs.YtggcjdajmbkpiaaGreatDoor.T9
/-
  A message of one's own: value's Own, and the copies below it.
-/
namespace Go.Proofs.YtggcjdajmbkpiaaGreatDoor.T9
set_option maxRecDepth 100000

open Go.RowKit

/-! ### Rows of the call's own -/

theorem own_hi {w w' : World} {b : Nat} {e : TypeId} {size : Nat} {v : Value} {n : Nat} {xs : List Value} (h : w.ownsRow b e size v n xs) (hk : ∀ k, b ≤ k → k < w.heap.size → w'.heap[k]? = w.heap[k]?) : w'.ownsRow b e size v n xs := by
  rcases h with ⟨hl, ⟨rfl, rfl⟩ | ⟨g, cap, cur, rfl, h1, h2, h3⟩⟩
  · exact ⟨hl, .inl ⟨rfl, rfl⟩⟩
  · exact ⟨hl, .inr ⟨g, cap, cur, rfl, h1, (hk g h1 (box_lt h2)).trans h2, h3⟩⟩
theorem own_less {w : World} {b b' : Nat} {e : TypeId} {size : Nat} {v : Value} {n : Nat} {xs : List Value} (h : w.ownsRow b e size v n xs) (hb : b' ≤ b) : w.ownsRow b' e size v n xs := by
  rcases h with ⟨hl, ⟨rfl, rfl⟩ | ⟨g, cap, cur, rfl, h1, h2⟩⟩
  · exact ⟨hl, .inl ⟨rfl, rfl⟩⟩
  · exact ⟨hl, .inr ⟨g, cap, cur, rfl, Nat.le_trans hb h1, h2⟩⟩
theorem Ow.hi {w w' : World} {b : Nat} (hk : ∀ k, b ≤ k → k < w.heap.size → w'.heap[k]? = w.heap[k]?) (e : TypeId) (size : Nat) (v : Value) (n : Nat) (xs : List Value) (h : Ow b w e size v n xs) : Ow b w' e size v n xs := ⟨own_hi h.1 hk, h.2⟩
theorem Ow.less {w : World} {b b' : Nat} (hb : b' ≤ b) (e : TypeId) (size : Nat) (v : Value) (n : Nat) (xs : List Value) (h : Ow b w e size v n xs) : Ow b' w e size v n xs := ⟨own_less h.1 hb, h.2⟩
theorem Ow.hi' {w w' : World} {b b' : Nat} (hk : ∀ k, b ≤ k → k < w.heap.size → w'.heap[k]? = w.heap[k]?) (hb : b' ≤ b) (e : TypeId) (size : Nat) (v : Value) (n : Nat) (xs : List Value) (h : Ow b w e size v n xs) : Ow b' w' e size v n xs := ⟨own_less (own_hi h.1 hk) hb, h.2⟩
theorem hi_below {w w' : World} (b : Nat) (h : Below w.heap.size w w') : ∀ k, b ≤ k → k < w.heap.size → w'.heap[k]? = w.heap[k]? := fun k _ hk => h.block k hk
theorem hi_grown {w w' : World} {b g : Nat} (h : w.grownBy w' (some g)) (hg : g < b) : ∀ k, b ≤ k → k < w.heap.size → w'.heap[k]? = w.heap[k]? := fun k hk hk2 => h.block k hk2 (by simp; omega)
def setL : List Value → Nat → List Value → List Value
  | xs, _, [] => xs
  | xs, o, v :: r => setL (xs.set o v) (o + 1) r
theorem setL_mid : ∀ (vs old pre post : List Value), old.length = vs.length → setL (pre ++ (old ++ post)) pre.length vs = pre ++ (vs ++ post)
  | [], [], pre, post, _ => rfl
  | [], u :: old, pre, post, h => by simp at h
  | v :: r, old, pre, post, h => by
    cases old with
    | nil => simp at h
    | cons u old =>
      have h1 : (pre ++ (u :: old ++ post)).set pre.length v = (pre ++ [v]) ++ (old ++ post) := by simp
      have h2 := setL_mid r old (pre ++ [v]) post (by simpa using h)
      rw [setL, h1]
      rw [show (pre ++ [v]).length = pre.length + 1 by simp] at h2
      rw [h2]
      simp
theorem own_setCells {base : Nat} {e : TypeId} {size g n cap : Nat} : ∀ (vs : List Value) (o : Nat) (xs : List Value) (w : World), w.ownsRow base e size (.slice (some ⟨g, 0, none⟩) n cap) n xs →
    (w.setCells g o vs).ownsRow base e size (.slice (some ⟨g, 0, none⟩) n cap) n (setL xs o vs) ∧ w.grownBy (w.setCells g o vs) (some g)
  | [], _, _, w, h => ⟨h, World.grownBy.refl w _⟩
  | v :: r, o, xs, w, h => by
    obtain ⟨h1, h2⟩ := h.stored o v
    obtain ⟨h3, h4⟩ := own_setCells r (o + 1) _ _ h1
    exact ⟨h3, ⟨h4.os.trans h2.os, h4.tape.trans h2.tape, h4.output.trans h2.output, Nat.le_trans h2.size h4.size, fun k hk hn => (h4.block k (Nat.lt_of_lt_of_le hk h2.size) hn).trans (h2.block k hk hn)⟩⟩
theorem own_there {w : World} {base : Nat} {e : TypeId} {size g n cap : Nat} {xs : List Value} (h : w.ownsRow base e size (.slice (some ⟨g, 0, none⟩) n cap) n xs) {o m : Nat} (hm : o + m ≤ n * size) : w.there g o m := fun j hj => by
  refine ⟨?_, h.frozenAt _⟩
  rw [h.cellAt (o + j) (by omega), List.getElem?_eq_getElem (by rw [h.1]; omega)]
  rfl
theorem below_own {w w' : World} {B g : Nat} (h : w.grownBy w' (some g)) (hB : B ≤ g) (hs : B ≤ w.heap.size) : Below B w w' := ⟨h.os, h.tape, h.output, h.size, fun k hk => h.block k (by omega) (by simp; omega)⟩
theorem below_none {w w' : World} (h : w.grownBy w' none) : Below w.heap.size w w' := ⟨h.os, h.tape, h.output, h.size, fun k hk => h.block k hk (by simp)⟩
theorem vAt.oneO {b : Nat} {w : World} {G : Mg → List Value → Prop} (v : Vl') (cs : List Value) (h : vAt (Ow b w) G v cs) : ∀ u ∈ cs, u.oneCell' = true := by
  obtain ⟨u, rfl, xs, h1, h2⟩ := h
  exact vAt.one (B := w.heap.size) (w := w) (G := G) v _ ⟨u, rfl, xs, Rd.of_own _ _ _ _ _ h1, h2⟩
theorem sAt.oneO {b : Nat} {w : World} {G : Mg → List Value → Prop} (v : So) (cs : List Value) (h : sAt (Ow b w) G v cs) : ∀ u ∈ cs, u.oneCell' = true := by
  obtain ⟨u1, u2, rfl, ⟨xs, h1, _⟩, ys, h2, _⟩ := h
  intro x hx
  simp only [List.mem_cons, List.not_mem_nil, or_false] at hx
  rcases hx with rfl | rfl | rfl
  · rfl
  · exact (Rd.of_own _ _ _ _ _ h1).one
  · exact (Rd.of_own _ _ _ _ _ h2).one
theorem MAt.oneO {b : Nat} {w : World} {d : Nat} (m : Mg) (cs : List Value) (h : MAt (Ow b w) d m cs) : ∀ u ∈ cs, u.oneCell' = true := MAt.one m cs (MAt.imp (fun e size v n xs h => Rd.of_own e size v n xs h) d m cs h)
theorem info_slot : (Tryz.prog.info? 36).map (fun i => (i.zero, i.size, i.bytes)) = some (some (.agg #[.int .i64 0, .slice none 0 0, .slice none 0 0]), 3, 56) := by kernel_rfl
theorem info_val : (Tryz.prog.info? 31).map (fun i => (i.zero, i.size, i.bytes)) = some (some (.agg #[.int .i64 0, .string ⟨#[]⟩, .slice none 0 0]), 3, 48) := by kernel_rfl
theorem info_msg : (Tryz.prog.info? 28).map (fun i => (i.zero, i.size, i.bytes)) = some (some (.agg #[.slice none 0 0]), 1, 24) := by kernel_rfl
theorem sz_slot : (Tryz.prog.info? 36).map (·.size) = some 3 := by kernel_rfl
theorem sz_val : (Tryz.prog.info? 31).map (·.size) = some 3 := by kernel_rfl
theorem sz_msg : (Tryz.prog.info? 28).map (·.size) = some 1 := by kernel_rfl
/-- The premise: what is made of an element. -/
def ownmsgP (B d : Nat) (w : World) (l : List Mg) : Prop := ∀ a ∈ l, ∀ x wr, Below w.heap.size w wr → MAt (Rd B wr) d a [x] → ∀ b, b ≤ wr.heap.size → Calls Tryz.prog 68 #[.agg #[x]] wr fun e w' => ∃ x1, e = .returned (.agg #[x1]) ∧ MAt (Ow b w') d a [x1] ∧ Below wr.heap.size wr w'
set_option maxRecDepth 1000000 in
set_option maxHeartbeats 4000000 in
theorem own_msg (B b d : Nat) (l : List Mg) (u : Value) (w : World) (hB : B ≤ w.heap.size) (hbw : b ≤ w.heap.size) (hl : LsAt (Rd B w) 28 1 (MAt (Rd B w) d) l u) (hg : ownmsgP B d w l) (hsm : l.length ≤ 1000000000) :
    Calls Tryz.prog 173 #[u, .func (.func 68) #[] #[]] w fun e w' => ∃ v, e = .returned v ∧ LsAt (Ow b w') 28 1 (MAt (Ow b w') d) l v ∧ Below w.heap.size w w' := by
  obtain ⟨A, c, xs, rfl, hs, hb, hr, hn⟩ := hl.open_
  obtain ⟨i0, hi, hz0, hz1, hz2⟩ := info_parts info_msg
  have HS := Lib.hid hs
  have HR := Lib.hid hr
  have HG := Lib.hid hg
  have HBB := Lib.hid hb
  clear hs hr hg hl hb hn
  by_cases h0 : l = []
  · subst h0
    go_enter Tryz.func173, Tryz.ntmps173
    go_wp2
    go_ret
    exact ⟨_, rfl, ⟨[], ⟨World.ownsRow_nil _ _ _ _, by simp⟩, rfl⟩, Below.refl _ _⟩
  · have hpos : 0 < l.length := List.length_pos_iff.2 h0
    have hne : ((l.length : Int) == 0) = false := by rw [beq_eq_false_iff_ne]; omega
    clear h0
    go_enter Tryz.func173, Tryz.ntmps173
    go_wp2_with (at_make; refine wpList_make_full _ rfl _ _ 29 rfl b 28 i0 (.agg #[.slice none 0 0]) 1 Tryz.underlying29 hi hz0 hz1 .i64 .i64 _ _ l.length rfl rfl rfl rfl (by rw [hz2]; omega) (by unfold maxLen; omega) hbw ?_; intro w2 hown hg2)
    have hB2 := below_none hg2
    have hw2 : w.heap.size < w2.heap.size := by
      obtain ⟨-, ⟨h, -⟩ | ⟨g, cap, cur, h, -, h2, -⟩⟩ := hown
      · simp at h
      · have := box_lt h2
        simp only [Value.slice.injEq, Option.some.injEq, Addr.mk.injEq] at h
        rw [← h.1.1] at this
        exact this
    obtain ⟨zs, hzs⟩ : ∃ zs, (madeCells (.agg #[.slice none 0 0] : Value).cells (l.length * 1)).toList = zs := ⟨_, rfl⟩
    rw [hzs] at hown
    clear hzs hg2
    have HO := Lib.hid hown
    clear hown
    go_wp2
    go_loopw [15] (fun i wr => ∃ (k : Nat) (front tail : List Value), i = .int .i64 k ∧ k ≤ l.length ∧ wr.ownsRow b 28 1 (.slice (some ⟨w.heap.size, 0, none⟩) l.length l.length) l.length (front ++ tail) ∧ Rows (MAt (Ow w2.heap.size wr) d) (l.take k) front ∧ front.length = k * 1 ∧ Below w.heap.size w wr ∧ w2.heap.size ≤ wr.heap.size) (fun i _ => l.length - (intOf i).toNat)
    case atStart => exact ⟨0, [], zs, rfl, by omega, HO.out, rfl, by simp, hB2, Nat.le_refl _⟩
    case round =>
      obtain ⟨k, front, tail, rfl, hk, hown, hrows, hfl, hbr, hsz⟩ := hrel
      by_cases hlt : k < l.length
      · obtain ⟨a, ha⟩ : ∃ a, l[k]? = some a := ⟨_, List.getElem?_eq_getElem hlt⟩
        obtain ⟨ad, x, rfl, hg, hc, c0⟩ := row1 MAt.len (sl_low HS.out HBB.out (Lo.below hbr hB)) (HR.out.imp fun a cs h => MRd.low (Lo.below hbr hB) h) ha
        have HC := Lib.hid (HG.out a (List.mem_of_getElem? ha) _ wr hbr hc w2.heap.size hsz)
        have HOWN := Lib.hid hown
        have HROWS := Lib.hid hrows
        have HA := Lib.hid ha
        have HBR := Lib.hid hbr
        have HFL := Lib.hid hfl
        clear hown hrows ha hbr hc hfl
        go_wp2_with (first
          | (go_at_call 68; refine HC.out.mono ?_; rintro e w3 ⟨x1, rfl, ho, hb3⟩; have hown3 := own_hi HOWN.out (hi_below b hb3))
          | (refine wpList_store_mid rfl 28 _ _ rfl w.heap.size (k) #[x1] rfl rfl (own_there hown3 (show k + 1 ≤ l.length * 1 by omega)) sz_msg (all_oneCell_toArray (MAt.oneO a [x1] ho)) ?_))
        obtain ⟨hs4, hg4⟩ := own_setCells [x1] (k) _ _ hown3
        have htl : (front ++ tail).length = l.length * 1 := hown3.1
        rw [List.length_append, HFL.out] at htl
        have hfo : front.length = k := by have := HFL.out; omega
        have hset : setL (front ++ tail) (k) [x1] = (front ++ [x1]) ++ tail.drop 1 := by
          have h := setL_mid [x1] (tail.take 1) front (tail.drop 1) (by rw [List.length_take]; show min 1 tail.length = 1; omega)
          rw [hfo, List.take_append_drop] at h
          rw [h, List.append_assoc]
        rw [hset] at hs4
        have hhi := hi_grown hg4 hw2
        refine ⟨⟨k + 1, front ++ [x1], tail.drop 1, by go_num, by omega, hs4, ?_, by rw [List.length_append, HFL.out]; show k * 1 + 1 = (k + 1) * 1; omega, ?_, ?_⟩, by simp [intOf]; omega⟩
        · refine Rows.snoc MAt.len ?_ HA.out ?_
          · exact HROWS.out.imp fun a cs h => MAt.imp (Ow.hi hhi) d _ _ (MAt.imp (Ow.hi (hi_below _ hb3)) d _ _ h)
          · exact MAt.imp (Ow.hi hhi) d _ _ ho
        · exact (HBR.out.trans (hb3.mono HBR.out.size)).trans (below_own hg4 (Nat.le_refl _) (Nat.le_trans HBR.out.size hb3.size))
        · exact Nat.le_trans hsz (Nat.le_trans hb3.size hg4.size)
      · obtain rfl : k = l.length := by omega
        have e : l.take l.length = l := List.take_length
        rw [e] at hrows
        go_wp2
        go_ret
        have htl : tail = [] := by
          have h1 := hown.1
          rw [List.length_append, hfl] at h1
          exact List.eq_nil_of_length_eq_zero (by omega)
        rw [htl, List.append_nil] at hown
        exact ⟨_, rfl, ⟨front, ⟨hown, by omega⟩, hrows.imp fun a cs h => MAt.imp (fun e size v n xs h => Ow.less (Nat.le_trans hbw (Nat.le_of_lt hw2)) e size v n xs h) d _ _ h⟩, hbr⟩

/-- A box of three cells that may be written. -/
def Wr3 (g : Nat) (a b c : Value) (w : World) : Prop := (w.cell? ⟨g, 0, none⟩ = some a ∧ w.cell? ⟨g, 1, none⟩ = some b ∧ w.cell? ⟨g, 2, none⟩ = some c) ∧ w.frozen? ⟨g, 0, none⟩ = false ∧ w.frozen? ⟨g, 1, none⟩ = false ∧ w.frozen? ⟨g, 2, none⟩ = false
theorem wr3 {w : World} {g : Nat} {a b c : Value} {t : TypeId} (h : w.heap[g]? = some (.cells #[a, b, c] t (0, 0))) : Wr3 g a b c w := ⟨bx3 h, by simp [World.frozen?, h], by simp [World.frozen?, h], by simp [World.frozen?, h]⟩
theorem three_set {w : World} {g : Nat} {a b c : Value} {t : TypeId} (h : w.heap[g]? = some (.cells #[a, b, c] t (0, 0))) (x y z : Value) :
    (((w.setCell ⟨g, 0, none⟩ x).setCell ⟨g, 1, none⟩ y).setCell ⟨g, 2, none⟩ z).heap[g]? = some (.cells #[x, y, z] t (0, 0)) ∧ w.grownBy (((w.setCell ⟨g, 0, none⟩ x).setCell ⟨g, 1, none⟩ y).setCell ⟨g, 2, none⟩ z) (some g) := by
  have h1 := heap_setCell_same w g 0 #[a, b, c] t x h
  have h2 := heap_setCell_same _ g 1 _ t y h1
  have h3 := heap_setCell_same _ g 2 _ t z h2
  refine ⟨h3, ⟨rfl, rfl, rfl, by simp, fun k _ hk => ?_⟩⟩
  have hne : k ≠ g := fun e => hk (by rw [e])
  rw [heap_setCell_other _ ⟨g, 2, none⟩ k z hne, heap_setCell_other _ ⟨g, 1, none⟩ k y hne, heap_setCell_other _ ⟨g, 0, none⟩ k x hne]
theorem two_boxesD (w : World) (o1 o2 : Obj) : ((w.alloc o1).alloc o2).drew.heap[w.heap.size]? = some o1 ∧ ((w.alloc o1).alloc o2).drew.heap[w.heap.size + 1]? = some o2 ∧ Below w.heap.size w ((w.alloc o1).alloc o2).drew := by
  obtain ⟨h1, h2, h3⟩ := two_boxes w o1 o2
  exact ⟨h1, h2, h3.trans (Below.refl _ _).drew⟩
/-- Own, of messages within so many levels. -/
def OwnH (B d : Nat) : Prop := ∀ (m : Mg) (u : Value) (w : World), B ≤ w.heap.size → MRd B w d m u → m.cnt ≤ 1000000000 → ∀ b, b ≤ w.heap.size → Calls Tryz.prog 68 #[.agg #[u]] w fun e w' => ∃ x1, e = .returned (.agg #[x1]) ∧ MAt (Ow b w') d m [x1] ∧ Below w.heap.size w w'
theorem omsgP {B d : Nat} (H : OwnH B d) {w : World} (hB : B ≤ w.heap.size) {l : List Mg} (hsm : ∀ x ∈ l, x.cnt ≤ 1000000000) : ownmsgP B d w l := fun a ha x wr hw hr b hb => H a x wr (Nat.le_trans hB hw.size) hr (hsm a ha) b hb
set_option maxRecDepth 1000000 in
set_option maxHeartbeats 4000000 in
theorem ownVal_any {B d : Nat} (H : OwnH B d) (v : Vl') (u : Value) (w : World) (hB : B ≤ w.heap.size) (hv : VAt (Rd B w) d v [.int .i64 v.n, .string (tx v.s), u]) (hsm : cV v ≤ 1000000000) (b : Nat) (hb : b ≤ w.heap.size) :
    Calls Tryz.prog 122 #[.agg #[.int .i64 v.n, .string (tx v.s), u]] w fun e w' => ∃ x1 x2 x3, e = .returned (.agg #[x1, x2, x3]) ∧ VAt (Ow b w') d v [x1, x2, x3] ∧ Below w.heap.size w w' := by
  obtain ⟨u', hu, hl⟩ := hv
  simp only [List.cons.injEq, and_true, true_and] at hu
  subst hu
  obtain ⟨X1, X2, LBD⟩ := two_boxesD w (.cells #[.int .i64 v.n, .string (tx v.s), u] 31) (.cells #[.int .i64 0, .string ⟨#[]⟩, .slice none 0 0] 31)
  have hM := cV_M v
  have HT := Lib.hid (own_msg B _ d v.M u _ (Nat.le_trans hB LBD.size) (Nat.le_refl _) (hl.low (Lo.below LBD hB) fun a cs h => MRd.low (Lo.below LBD hB) h)
    (omsgP H (Nat.le_trans hB LBD.size) fun x hx => by have := cnt_le hx; omega) (by omega))
  clear hl H
  go_enter Tryz.func122, Tryz.ntmps122
  go_wp2_with fail
  have hS := bx3 X1
  go_region_held3 (fun w' => w'.cell? ⟨w.heap.size, 0, none⟩ = some (.int .i64 v.n) ∧ w'.cell? ⟨w.heap.size, 1, none⟩ = some (.string (tx v.s)) ∧ w'.cell? ⟨w.heap.size, 2, none⟩ = some u)
    (first | exact hS | exact bx3 (box_on X1 hbK) | go_keep)
    ((first | (go_at_call 173; refine HT.out.mono ?_; rintro e wK ⟨q, rfl, ho, hbK⟩; obtain ⟨zs, ⟨hown, hzl⟩, hrz⟩ := id ho; obtain ⟨A', c', rfl, -⟩ := Sl.of_own hown; obtain ⟨⟨y0, y1, y2⟩, y3, y4, y5⟩ := wr3 (box_on X2 hbK))))
  obtain ⟨Z1, Z2⟩ := three_set (box_on X2 hbK) (.int .i64 v.n) (.string (tx v.s)) (.slice A' v.M.length c')
  have hg : w.heap.size + 1 < ((w.alloc (.cells #[.int .i64 v.n, .string (tx v.s), u] 31)).alloc (.cells #[.int .i64 0, .string ⟨#[]⟩, .slice none 0 0] 31)).drew.heap.size := box_lt X2
  have hhi := hi_grown Z2 hg
  have hb4 := below_own Z2 (Nat.le_succ _) (Nat.le_trans LBD.size hbK.size)
  obtain ⟨w4, hw4⟩ : ∃ w4, (((wK.setCell ⟨w.heap.size + 1, 0, none⟩ (.int .i64 v.n)).setCell ⟨w.heap.size + 1, 1, none⟩ (.string (tx v.s))).setCell ⟨w.heap.size + 1, 2, none⟩ (.slice A' v.M.length c')) = w4 := ⟨_, rfl⟩
  rw [hw4] at Z1 hhi hb4 ⊢
  clear hw4 Z2 y0 y1 y2 y3 y4 y5
  go_wp2
  refine bodyPost_ret (results_cell_row rfl _ _ (w.heap.size + 1) _ _ (0, 0) _ rfl Z1 Tryz.underlying31 rfl sz_val) rfl ?_
  refine ⟨_, _, _, rfl, ⟨_, rfl, ho.imp (Ow.hi' hhi (Nat.le_trans hb LBD.size)) fun m cs h => MAt.imp (Ow.hi' hhi (Nat.le_trans hb LBD.size)) d m cs h⟩, (LBD.trans (hbK.mono LBD.size)).trans hb4⟩
/-- The premise: what is made of an element. -/
def ownvalP (B d : Nat) (w : World) (l : List Vl') : Prop := ∀ a ∈ l, ∀ x y z wr, Below w.heap.size w wr → VAt (Rd B wr) d a [x, y, z] → ∀ b, b ≤ wr.heap.size → Calls Tryz.prog 122 #[.agg #[x, y, z]] wr fun e w' => ∃ x1 x2 x3, e = .returned (.agg #[x1, x2, x3]) ∧ VAt (Ow b w') d a [x1, x2, x3] ∧ Below wr.heap.size wr w'
set_option maxRecDepth 1000000 in
set_option maxHeartbeats 4000000 in
theorem own_val (B b d : Nat) (l : List Vl') (u : Value) (w : World) (hB : B ≤ w.heap.size) (hbw : b ≤ w.heap.size) (hl : LsAt (Rd B w) 31 3 (VAt (Rd B w) d) l u) (hg : ownvalP B d w l) (hsm : l.length ≤ 1000000000) :
    Calls Tryz.prog 121 #[u, .func (.func 122) #[] #[]] w fun e w' => ∃ v, e = .returned v ∧ LsAt (Ow b w') 31 3 (VAt (Ow b w') d) l v ∧ Below w.heap.size w w' := by
  obtain ⟨A, c, xs, rfl, hs, hb, hr, hn⟩ := hl.open_
  obtain ⟨i0, hi, hz0, hz1, hz2⟩ := info_parts info_val
  have HS := Lib.hid hs
  have HR := Lib.hid hr
  have HG := Lib.hid hg
  have HBB := Lib.hid hb
  clear hs hr hg hl hb hn
  by_cases h0 : l = []
  · subst h0
    go_enter Tryz.func121, Tryz.ntmps121
    go_wp2
    go_ret
    exact ⟨_, rfl, ⟨[], ⟨World.ownsRow_nil _ _ _ _, by simp⟩, rfl⟩, Below.refl _ _⟩
  · have hpos : 0 < l.length := List.length_pos_iff.2 h0
    have hne : ((l.length : Int) == 0) = false := by rw [beq_eq_false_iff_ne]; omega
    clear h0
    go_enter Tryz.func121, Tryz.ntmps121
    go_wp2_with (at_make; refine wpList_make_full _ rfl _ _ 34 rfl b 31 i0 (.agg #[.int .i64 0, .string ⟨#[]⟩, .slice none 0 0]) 3 Tryz.underlying34 hi hz0 hz1 .i64 .i64 _ _ l.length rfl rfl rfl rfl (by rw [hz2]; omega) (by unfold maxLen; omega) hbw ?_; intro w2 hown hg2)
    have hB2 := below_none hg2
    have hw2 : w.heap.size < w2.heap.size := by
      obtain ⟨-, ⟨h, -⟩ | ⟨g, cap, cur, h, -, h2, -⟩⟩ := hown
      · simp at h
      · have := box_lt h2
        simp only [Value.slice.injEq, Option.some.injEq, Addr.mk.injEq] at h
        rw [← h.1.1] at this
        exact this
    obtain ⟨zs, hzs⟩ : ∃ zs, (madeCells (.agg #[.int .i64 0, .string ⟨#[]⟩, .slice none 0 0] : Value).cells (l.length * 3)).toList = zs := ⟨_, rfl⟩
    rw [hzs] at hown
    clear hzs hg2
    have HO := Lib.hid hown
    clear hown
    go_wp2
    go_loopw [15] (fun i wr => ∃ (k : Nat) (front tail : List Value), i = .int .i64 k ∧ k ≤ l.length ∧ wr.ownsRow b 31 3 (.slice (some ⟨w.heap.size, 0, none⟩) l.length l.length) l.length (front ++ tail) ∧ Rows (VAt (Ow w2.heap.size wr) d) (l.take k) front ∧ front.length = k * 3 ∧ Below w.heap.size w wr ∧ w2.heap.size ≤ wr.heap.size) (fun i _ => l.length - (intOf i).toNat)
    case atStart => exact ⟨0, [], zs, rfl, by omega, HO.out, rfl, by simp, hB2, Nat.le_refl _⟩
    case round =>
      obtain ⟨k, front, tail, rfl, hk, hown, hrows, hfl, hbr, hsz⟩ := hrel
      by_cases hlt : k < l.length
      · obtain ⟨a, ha⟩ : ∃ a, l[k]? = some a := ⟨_, List.getElem?_eq_getElem hlt⟩
        obtain ⟨ad, x, y, z, rfl, hg, hc, c0, c1, c2⟩ := row3 vAt.len (sl_low HS.out HBB.out (Lo.below hbr hB)) (HR.out.imp fun a cs h => VRd.low (Lo.below hbr hB) h) ha
        have HC := Lib.hid (HG.out a (List.mem_of_getElem? ha) _ _ _ wr hbr hc w2.heap.size hsz)
        have HOWN := Lib.hid hown
        have HROWS := Lib.hid hrows
        have HA := Lib.hid ha
        have HBR := Lib.hid hbr
        have HFL := Lib.hid hfl
        clear hown hrows ha hbr hc hfl
        go_wp2_with (first
          | (go_at_call 122; refine HC.out.mono ?_; rintro e w3 ⟨x1, x2, x3, rfl, ho, hb3⟩; have hown3 := own_hi HOWN.out (hi_below b hb3))
          | (refine wpList_store_mid rfl 31 _ _ rfl w.heap.size (k * 3) #[x1, x2, x3] rfl rfl (own_there hown3 (show k * 3 + 3 ≤ l.length * 3 by omega)) sz_val (all_oneCell_toArray (vAt.oneO a [x1, x2, x3] ho)) ?_))
        obtain ⟨hs4, hg4⟩ := own_setCells [x1, x2, x3] (k * 3) _ _ hown3
        have htl : (front ++ tail).length = l.length * 3 := hown3.1
        rw [List.length_append, HFL.out] at htl
        have hfo : front.length = k * 3 := by have := HFL.out; omega
        have hset : setL (front ++ tail) (k * 3) [x1, x2, x3] = (front ++ [x1, x2, x3]) ++ tail.drop 3 := by
          have h := setL_mid [x1, x2, x3] (tail.take 3) front (tail.drop 3) (by rw [List.length_take]; show min 3 tail.length = 3; omega)
          rw [hfo, List.take_append_drop] at h
          rw [h, List.append_assoc]
        rw [hset] at hs4
        have hhi := hi_grown hg4 hw2
        refine ⟨⟨k + 1, front ++ [x1, x2, x3], tail.drop 3, by go_num, by omega, hs4, ?_, by rw [List.length_append, HFL.out]; show k * 3 + 3 = (k + 1) * 3; omega, ?_, ?_⟩, by simp [intOf]; omega⟩
        · refine Rows.snoc vAt.len ?_ HA.out ?_
          · exact HROWS.out.imp fun a cs h => vAt.imp (Ow.hi hhi) (fun m cs h => MAt.imp (Ow.hi hhi) d m cs h) _ _ (vAt.imp (Ow.hi (hi_below _ hb3)) (fun m cs h => MAt.imp (Ow.hi (hi_below _ hb3)) d m cs h) _ _ h)
          · exact vAt.imp (Ow.hi hhi) (fun m cs h => MAt.imp (Ow.hi hhi) d m cs h) _ _ ho
        · exact (HBR.out.trans (hb3.mono HBR.out.size)).trans (below_own hg4 (Nat.le_refl _) (Nat.le_trans HBR.out.size hb3.size))
        · exact Nat.le_trans hsz (Nat.le_trans hb3.size hg4.size)
      · obtain rfl : k = l.length := by omega
        have e : l.take l.length = l := List.take_length
        rw [e] at hrows
        go_wp2
        go_ret
        have htl : tail = [] := by
          have h1 := hown.1
          rw [List.length_append, hfl] at h1
          exact List.eq_nil_of_length_eq_zero (by omega)
        rw [htl, List.append_nil] at hown
        exact ⟨_, rfl, ⟨front, ⟨hown, by omega⟩, hrows.imp fun a cs h => vAt.imp (fun e size v n xs h => Ow.less (Nat.le_trans hbw (Nat.le_of_lt hw2)) e size v n xs h) (fun m cs h => MAt.imp (fun e size v n xs h => Ow.less (Nat.le_trans hbw (Nat.le_of_lt hw2)) e size v n xs h) d m cs h) _ _ h⟩, hbr⟩

theorem ovalP {B d : Nat} (H : OwnH B d) {w : World} (hB : B ≤ w.heap.size) {l : List Vl'} (hsm : ∀ x ∈ l, cV x ≤ 1000000000) : ownvalP B d w l := fun a ha x y z wr hw hr b hb => by
  have hr' := hr
  obtain ⟨u, hu, _⟩ := hr
  simp only [List.cons.injEq, and_true] at hu
  obtain ⟨rfl, rfl, rfl⟩ := hu
  exact ownVal_any H a z wr (Nat.le_trans hB hw.size) hr' (hsm a ha) b hb
theorem two_size (w : World) (o1 o2 : Obj) : w.heap.size + 2 ≤ ((w.alloc o1).alloc o2).drew.heap.size := by
  have := box_lt (two_boxesD w o1 o2).2.1
  omega
theorem ownSlot_end {w wl : World} {d b : Nat} {s : So} {q1 q2 : Value} {t : TypeId} {u0 u1 u2 : Value} (hb : b ≤ w.heap.size) (X : wl.heap[w.heap.size + 1]? = some (.cells #[u0, u1, u2] t (0, 0)))
    (hk : LsAt (Ow (w.heap.size + 2) wl) 31 3 (VAt (Ow (w.heap.size + 2) wl) d) s.K q1) (hv : LsAt (Ow (w.heap.size + 2) wl) 31 3 (VAt (Ow (w.heap.size + 2) wl) d) s.V q2) (hB : Below w.heap.size w wl) :
    ∃ w4, (((wl.setCell ⟨w.heap.size + 1, 0, none⟩ (.int .i64 s.no)).setCell ⟨w.heap.size + 1, 1, none⟩ q1).setCell ⟨w.heap.size + 1, 2, none⟩ q2) = w4 ∧ w4.heap[w.heap.size + 1]? = some (.cells #[.int .i64 s.no, q1, q2] t (0, 0)) ∧
      SAt' (Ow b w4) d s [.int .i64 s.no, q1, q2] ∧ Below w.heap.size w w4 := by
  obtain ⟨Z1, Z2⟩ := three_set X (.int .i64 s.no) q1 q2
  have hhi := hi_grown Z2 (Nat.lt_succ_self (w.heap.size + 1))
  have hb2 : b ≤ w.heap.size + 2 := by omega
  refine ⟨_, rfl, Z1, ⟨q1, q2, rfl, ?_, ?_⟩, hB.trans (below_own Z2 (Nat.le_succ _) hB.size)⟩
  · exact hk.imp (Ow.hi' hhi hb2) fun a cs h => vAt.imp (Ow.hi' hhi hb2) (fun m cs h => MAt.imp (Ow.hi' hhi hb2) d m cs h) _ _ h
  · exact hv.imp (Ow.hi' hhi hb2) fun a cs h => vAt.imp (Ow.hi' hhi hb2) (fun m cs h => MAt.imp (Ow.hi' hhi hb2) d m cs h) _ _ h
theorem vals_on {w w' : World} {b d : Nat} {l : List Vl'} {q : Value} (hb : Below w.heap.size w w') (h : LsAt (Ow b w) 31 3 (VAt (Ow b w) d) l q) : LsAt (Ow b w') 31 3 (VAt (Ow b w') d) l q :=
  h.imp (Ow.hi (hi_below b hb)) fun a cs h => vAt.imp (Ow.hi (hi_below b hb)) (fun m cs h => MAt.imp (Ow.hi (hi_below b hb)) d m cs h) _ _ h
set_option maxRecDepth 1000000 in
set_option maxHeartbeats 4000000 in
theorem ownSlot_any {B d : Nat} (H : OwnH B d) (s : So) (u1 u2 : Value) (w : World) (hB : B ≤ w.heap.size) (hs : SAt' (Rd B w) d s [.int .i64 s.no, u1, u2]) (hsm : cS s ≤ 1000000000) (b : Nat) (hb : b ≤ w.heap.size) :
    Calls Tryz.prog 63 #[.agg #[.int .i64 s.no, u1, u2]] w fun e w' => ∃ x1 x2 x3, e = .returned (.agg #[x1, x2, x3]) ∧ SAt' (Ow b w') d s [x1, x2, x3] ∧ Below w.heap.size w w' := by
  obtain ⟨u1', u2', hu, hk, hv⟩ := hs
  simp only [List.cons.injEq, and_true, true_and] at hu
  obtain ⟨rfl, rfl⟩ := hu
  obtain ⟨X1, X2, LBD⟩ := two_boxesD w (.cells #[.int .i64 s.no, u1, u2] 36) (.cells #[.int .i64 0, .slice none 0 0, .slice none 0 0] 36)
  have LSZ := two_size w (.cells #[.int .i64 s.no, u1, u2] 36) (.cells #[.int .i64 0, .slice none 0 0, .slice none 0 0] 36)
  have hln := cS_len (s := s)
  have HK := Lib.hid (fun wx (hx : Below w.heap.size w wx) (hz : w.heap.size + 2 ≤ wx.heap.size) => own_val B (w.heap.size + 2) d s.K u1 wx (Nat.le_trans hB hx.size) hz (hk.low (Lo.below hx hB) fun a cs h => VRd.low (Lo.below hx hB) h) (ovalP H (Nat.le_trans hB hx.size) fun x hx => by have := cV_le (s := s) (.inl hx); omega) (by omega))
  have HV := Lib.hid (fun wx (hx : Below w.heap.size w wx) (hz : w.heap.size + 2 ≤ wx.heap.size) => own_val B (w.heap.size + 2) d s.V u2 wx (Nat.le_trans hB hx.size) hz (hv.low (Lo.below hx hB) fun a cs h => VRd.low (Lo.below hx hB) h) (ovalP H (Nat.le_trans hB hx.size) fun x hx => by have := cV_le (s := s) (.inr hx); omega) (by omega))
  clear hk hv H hsm hln
  go_enter Tryz.func63, Tryz.ntmps63
  go_wp2_with fail
  have hS := bx3 X1
  go_region_held3 (fun w' => w'.cell? ⟨w.heap.size, 0, none⟩ = some (.int .i64 s.no) ∧ w'.cell? ⟨w.heap.size, 1, none⟩ = some u1 ∧ w'.cell? ⟨w.heap.size, 2, none⟩ = some u2)
    (first | exact hS | exact bx3 (box_on (box_on X1 hbK) hbV) | exact bx3 (box_on (box_on X1 hbV) hbK) | exact bx3 (box_on X1 hbK) | exact bx3 (box_on X1 hbV) | go_keep)
    ((first
      | (go_at_call 121; (with_reducible refine (HK.out _ (by first | exact LBD | exact LBD.trans (hbV.mono LBD.size)) (by first | exact LSZ | exact Nat.le_trans LSZ hbV.size)).mono ?_); rintro e wK ⟨qK, rfl, hoK, hbK⟩; obtain ⟨zK, ⟨hownK, hzK⟩, hrK⟩ := id hoK; obtain ⟨AK, cK, rfl, -⟩ := Sl.of_own hownK; clear hownK hzK hrK; have X3 : wK.heap[w.heap.size + 1]? = some (.cells #[.int .i64 0, .slice none 0 0, .slice none 0 0] 36 (0, 0)) := (by first | exact box_on X2 hbK | exact box_on (box_on X2 hbV) hbK); obtain ⟨⟨y0, y1, y2⟩, y3, y4, y5⟩ := wr3 X3)
      | (go_at_call 121; (with_reducible refine (HV.out _ (by first | exact LBD | exact LBD.trans (hbK.mono LBD.size)) (by first | exact LSZ | exact Nat.le_trans LSZ hbK.size)).mono ?_); rintro e wV ⟨qV, rfl, hoV, hbV⟩; obtain ⟨zV', ⟨hownV, hzV⟩, hrV⟩ := id hoV; obtain ⟨AV, cV', rfl, -⟩ := Sl.of_own hownV; clear hownV hzV hrV; have X3 : wV.heap[w.heap.size + 1]? = some (.cells #[.int .i64 0, .slice none 0 0, .slice none 0 0] 36 (0, 0)) := (by first | exact box_on X2 hbV | exact box_on (box_on X2 hbK) hbV); obtain ⟨⟨y0, y1, y2⟩, y3, y4, y5⟩ := wr3 X3)))
  all_goals
    obtain ⟨w4, hw4, Z1, hat, hb4⟩ : ∃ w4, _ = w4 ∧ _ := by
      first
        | exact ownSlot_end hb (box_on (box_on X2 hbK) hbV) (vals_on hbV hoK) hoV (below_then (below_then LBD hbK) hbV)
        | exact ownSlot_end hb (box_on (box_on X2 hbV) hbK) hoK (vals_on hbK hoV) (below_then (below_then LBD hbV) hbK)
    rw [hw4]
    clear hw4
    go_wp2
    refine bodyPost_ret (results_cell_row rfl _ _ (w.heap.size + 1) _ _ (0, 0) _ rfl Z1 Tryz.underlying36 rfl sz_slot) rfl ?_
    exact ⟨_, _, _, rfl, hat, hb4⟩
/-- The premise: what is made of an element. -/
def ownslotP (B d : Nat) (w : World) (l : List So) : Prop := ∀ a ∈ l, ∀ x y z wr, Below w.heap.size w wr → SAt' (Rd B wr) d a [x, y, z] → ∀ b, b ≤ wr.heap.size → Calls Tryz.prog 63 #[.agg #[x, y, z]] wr fun e w' => ∃ x1 x2 x3, e = .returned (.agg #[x1, x2, x3]) ∧ SAt' (Ow b w') d a [x1, x2, x3] ∧ Below wr.heap.size wr w'
set_option maxRecDepth 1000000 in
set_option maxHeartbeats 4000000 in
theorem own_slot (B b d : Nat) (l : List So) (u : Value) (w : World) (hB : B ≤ w.heap.size) (hbw : b ≤ w.heap.size) (hl : LsAt (Rd B w) 36 3 (SAt' (Rd B w) d) l u) (hg : ownslotP B d w l) (hsm : l.length ≤ 1000000000) :
    Calls Tryz.prog 125 #[u, .func (.func 63) #[] #[]] w fun e w' => ∃ v, e = .returned v ∧ LsAt (Ow b w') 36 3 (SAt' (Ow b w') d) l v ∧ Below w.heap.size w w' := by
  obtain ⟨A, c, xs, rfl, hs, hb, hr, hn⟩ := hl.open_
  obtain ⟨i0, hi, hz0, hz1, hz2⟩ := info_parts info_slot
  have HS := Lib.hid hs
  have HR := Lib.hid hr
  have HG := Lib.hid hg
  have HBB := Lib.hid hb
  clear hs hr hg hl hb hn
  by_cases h0 : l = []
  · subst h0
    go_enter Tryz.func125, Tryz.ntmps125
    go_wp2
    go_ret
    exact ⟨_, rfl, ⟨[], ⟨World.ownsRow_nil _ _ _ _, by simp⟩, rfl⟩, Below.refl _ _⟩
  · have hpos : 0 < l.length := List.length_pos_iff.2 h0
    have hne : ((l.length : Int) == 0) = false := by rw [beq_eq_false_iff_ne]; omega
    clear h0
    go_enter Tryz.func125, Tryz.ntmps125
    go_wp2_with (at_make; refine wpList_make_full _ rfl _ _ 26 rfl b 36 i0 (.agg #[.int .i64 0, .slice none 0 0, .slice none 0 0]) 3 Tryz.underlying26 hi hz0 hz1 .i64 .i64 _ _ l.length rfl rfl rfl rfl (by rw [hz2]; omega) (by unfold maxLen; omega) hbw ?_; intro w2 hown hg2)
    have hB2 := below_none hg2
    have hw2 : w.heap.size < w2.heap.size := by
      obtain ⟨-, ⟨h, -⟩ | ⟨g, cap, cur, h, -, h2, -⟩⟩ := hown
      · simp at h
      · have := box_lt h2
        simp only [Value.slice.injEq, Option.some.injEq, Addr.mk.injEq] at h
        rw [← h.1.1] at this
        exact this
    obtain ⟨zs, hzs⟩ : ∃ zs, (madeCells (.agg #[.int .i64 0, .slice none 0 0, .slice none 0 0] : Value).cells (l.length * 3)).toList = zs := ⟨_, rfl⟩
    rw [hzs] at hown
    clear hzs hg2
    have HO := Lib.hid hown
    clear hown
    go_wp2
    go_loopw [15] (fun i wr => ∃ (k : Nat) (front tail : List Value), i = .int .i64 k ∧ k ≤ l.length ∧ wr.ownsRow b 36 3 (.slice (some ⟨w.heap.size, 0, none⟩) l.length l.length) l.length (front ++ tail) ∧ Rows (SAt' (Ow w2.heap.size wr) d) (l.take k) front ∧ front.length = k * 3 ∧ Below w.heap.size w wr ∧ w2.heap.size ≤ wr.heap.size) (fun i _ => l.length - (intOf i).toNat)
    case atStart => exact ⟨0, [], zs, rfl, by omega, HO.out, rfl, by simp, hB2, Nat.le_refl _⟩
    case round =>
      obtain ⟨k, front, tail, rfl, hk, hown, hrows, hfl, hbr, hsz⟩ := hrel
      by_cases hlt : k < l.length
      · obtain ⟨a, ha⟩ : ∃ a, l[k]? = some a := ⟨_, List.getElem?_eq_getElem hlt⟩
        obtain ⟨ad, x, y, z, rfl, hg, hc, c0, c1, c2⟩ := row3 sAt.len (sl_low HS.out HBB.out (Lo.below hbr hB)) (HR.out.imp fun a cs h => SRd.low (Lo.below hbr hB) h) ha
        have HC := Lib.hid (HG.out a (List.mem_of_getElem? ha) _ _ _ wr hbr hc w2.heap.size hsz)
        have HOWN := Lib.hid hown
        have HROWS := Lib.hid hrows
        have HA := Lib.hid ha
        have HBR := Lib.hid hbr
        have HFL := Lib.hid hfl
        clear hown hrows ha hbr hc hfl
        go_wp2_with (first
          | (go_at_call 63; refine HC.out.mono ?_; rintro e w3 ⟨x1, x2, x3, rfl, ho, hb3⟩; have hown3 := own_hi HOWN.out (hi_below b hb3))
          | (refine wpList_store_mid rfl 36 _ _ rfl w.heap.size (k * 3) #[x1, x2, x3] rfl rfl (own_there hown3 (show k * 3 + 3 ≤ l.length * 3 by omega)) sz_slot (all_oneCell_toArray (sAt.oneO a [x1, x2, x3] ho)) ?_))
        obtain ⟨hs4, hg4⟩ := own_setCells [x1, x2, x3] (k * 3) _ _ hown3
        have htl : (front ++ tail).length = l.length * 3 := hown3.1
        rw [List.length_append, HFL.out] at htl
        have hfo : front.length = k * 3 := by have := HFL.out; omega
        have hset : setL (front ++ tail) (k * 3) [x1, x2, x3] = (front ++ [x1, x2, x3]) ++ tail.drop 3 := by
          have h := setL_mid [x1, x2, x3] (tail.take 3) front (tail.drop 3) (by rw [List.length_take]; show min 3 tail.length = 3; omega)
          rw [hfo, List.take_append_drop] at h
          rw [h, List.append_assoc]
        rw [hset] at hs4
        have hhi := hi_grown hg4 hw2
        refine ⟨⟨k + 1, front ++ [x1, x2, x3], tail.drop 3, by go_num, by omega, hs4, ?_, by rw [List.length_append, HFL.out]; show k * 3 + 3 = (k + 1) * 3; omega, ?_, ?_⟩, by simp [intOf]; omega⟩
        · refine Rows.snoc sAt.len ?_ HA.out ?_
          · exact HROWS.out.imp fun a cs h => sAt.imp (Ow.hi hhi) (fun m cs h => MAt.imp (Ow.hi hhi) d m cs h) _ _ (sAt.imp (Ow.hi (hi_below _ hb3)) (fun m cs h => MAt.imp (Ow.hi (hi_below _ hb3)) d m cs h) _ _ h)
          · exact sAt.imp (Ow.hi hhi) (fun m cs h => MAt.imp (Ow.hi hhi) d m cs h) _ _ ho
        · exact (HBR.out.trans (hb3.mono HBR.out.size)).trans (below_own hg4 (Nat.le_refl _) (Nat.le_trans HBR.out.size hb3.size))
        · exact Nat.le_trans hsz (Nat.le_trans hb3.size hg4.size)
      · obtain rfl : k = l.length := by omega
        have e : l.take l.length = l := List.take_length
        rw [e] at hrows
        go_wp2
        go_ret
        have htl : tail = [] := by
          have h1 := hown.1
          rw [List.length_append, hfl] at h1
          exact List.eq_nil_of_length_eq_zero (by omega)
        rw [htl, List.append_nil] at hown
        exact ⟨_, rfl, ⟨front, ⟨hown, by omega⟩, hrows.imp fun a cs h => sAt.imp (fun e size v n xs h => Ow.less (Nat.le_trans hbw (Nat.le_of_lt hw2)) e size v n xs h) (fun m cs h => MAt.imp (fun e size v n xs h => Ow.less (Nat.le_trans hbw (Nat.le_of_lt hw2)) e size v n xs h) d m cs h) _ _ h⟩, hbr⟩

theorem oslotP {B d : Nat} (H : OwnH B d) {w : World} (hB : B ≤ w.heap.size) {l : List So} (hsm : ∀ x ∈ l, cS x ≤ 1000000000) : ownslotP B d w l := fun a ha x y z wr hw hr b hb => by
  have hr' := hr
  obtain ⟨u, v, hu, _⟩ := hr
  simp only [List.cons.injEq, and_true] at hu
  obtain ⟨rfl, rfl, rfl⟩ := hu
  exact ownSlot_any H a y z wr (Nat.le_trans hB hw.size) hr' (hsm a ha) b hb
set_option maxRecDepth 1000000 in
set_option maxHeartbeats 4000000 in
theorem own_step {B d : Nat} (H : OwnH B d) : OwnH B (d + 1) := by
  rintro m u w hB ⟨u', hu, hl⟩ hsm b hb
  simp only [List.cons.injEq, and_true] at hu
  subst hu
  obtain ⟨X1, X2, LBD⟩ := two_boxes w (.cells #[u] 28) (.cells #[.slice none 0 0] 28)
  have hF := cnt_F m
  have HT := Lib.hid (own_slot B _ d m.F u _ (Nat.le_trans hB LBD.size) (Nat.le_refl _) (hl.low (Lo.below LBD hB) fun a cs h => SRd.low (Lo.below LBD hB) h) (oslotP H (Nat.le_trans hB LBD.size) fun x hx => by have := cS_le hx; omega) (by omega))
  clear hl H
  go_enter Tryz.func68, Tryz.ntmps68
  go_wp2_with (go_at_call 125; refine HT.out.mono ?_; rintro e wK ⟨q, rfl, ho, hbK⟩; obtain ⟨zs, ⟨hown, hzl⟩, hrz⟩ := id ho; obtain ⟨A', c', rfl, -⟩ := Sl.of_own hown; have X3 := box_on X2 hbK; have y0 := bx1 X3; have y3 : wK.frozen? ⟨w.heap.size + 1, 0, none⟩ = false := by simp [World.frozen?, X3])
  have Z1 := heap_setCell_same wK (w.heap.size + 1) 0 #[.slice none 0 0] 28 (.slice A' m.F.length c') X3
  have Z2 : wK.grownBy (wK.setCell ⟨w.heap.size + 1, 0, none⟩ (.slice A' m.F.length c')) (some (w.heap.size + 1)) := ⟨rfl, rfl, rfl, by simp, fun k _ hk => heap_setCell_other _ ⟨w.heap.size + 1, 0, none⟩ k _ (fun e => hk (by simp [e]))⟩
  have hhi := hi_grown Z2 (box_lt X2)
  have hb4 := below_own Z2 (Nat.le_succ _) (Nat.le_trans LBD.size hbK.size)
  refine bodyPost_ret (results_cell_row rfl _ _ (w.heap.size + 1) _ _ (0, 0) _ rfl Z1 Tryz.underlying28 rfl sz_msg) rfl ?_
  refine ⟨_, rfl, ⟨_, rfl, ho.imp (Ow.hi' hhi (Nat.le_trans hb LBD.size)) fun s cs h => sAt.imp (Ow.hi' hhi (Nat.le_trans hb LBD.size)) (fun m cs h => MAt.imp (Ow.hi' hhi (Nat.le_trans hb LBD.size)) d m cs h) _ _ h⟩, (LBD.trans (hbK.mono LBD.size)).trans hb4⟩
/-- value.Own, of any message. -/
theorem own_any9 (B : Nat) : ∀ d, OwnH B d
  | 0 => fun _ _ _ _ h _ => h.elim
  | d + 1 => own_step (own_any9 B d)
end Go.Proofs.YtggcjdajmbkpiaaGreatDoor.T9
