/-
  How deep a message is: value's Deep, and the greatest numbers below it.
-/
import Derived.Test.YtjmcpfckcajnjaaTrSize
namespace Go.Proofs.Ytjmcpfckcajnjaa.T9
set_option maxRecDepth 100000

open Go.RowKit

/-- The premise: what is told of an element. -/
def greatestmsgP (B d : Nat) (w : World) (l : List Mg) : Prop := ∀ a ∈ l, ∀ x wr, Below w.heap.size w wr → MAt (Rd B wr) d a [x] → Calls Try.prog 15 #[.agg #[x]] wr fun e w' => e = .returned (.int .i64 (Mg.deep a : Nat)) ∧ Below wr.heap.size wr w'
set_option maxRecDepth 1000000 in
set_option maxHeartbeats 4000000 in
theorem greatest_msg (B d : Nat) (l : List Mg) (u : Value) (w : World) (hB : B ≤ w.heap.size) (hl : LsAt (Rd B w) 24 1 (MAt (Rd B w) d) l u) (hg : greatestmsgP B d w l) (hsm : mx (l.map Mg.deep) ≤ 1000000000000) :
    Calls Try.prog 55 #[u, .func (.func 15) #[] #[]] w fun e w' => e = .returned (.int .i64 (mx (l.map Mg.deep) : Nat)) ∧ Below w.heap.size w w' := by
  obtain ⟨A, c, xs, rfl, hs, hb, hr, hn⟩ := hl.open_
  have HS := Lib.hid hs
  have HR := Lib.hid hr
  have HG := Lib.hid hg
  have HSM := Lib.hid hsm
  have HBB := Lib.hid hb
  clear hs hr hg hl hsm hb
  go_enter Try.func55, Try.ntmps55
  go_wp2
  go_loopw [5, 9] (fun n i wr => ∃ k : Nat, i = .int .i64 k ∧ k ≤ l.length ∧ n = .int .i64 (mx ((l.take k).map Mg.deep) : Nat) ∧ Below w.heap.size w wr) (fun _ i _ => l.length - (intOf i).toNat)
  case atStart => exact ⟨0, rfl, by omega, rfl, Below.refl _ _⟩
  case round =>
    obtain ⟨k, rfl, hk, rfl, hbw⟩ := hrel
    by_cases hlt : k < l.length
    · obtain ⟨a, ha⟩ : ∃ a, l[k]? = some a := ⟨_, List.getElem?_eq_getElem hlt⟩
      obtain ⟨ad, x, rfl, hg, hc, c0⟩ := row1 MAt.len (sl_low HS.out HBB.out (Lo.below hbw hB)) (HR.out.imp fun a cs h => MRd.low (Lo.below hbw hB) h) ha
      have HC := Lib.hid (HG.out a (List.mem_of_getElem? ha) _ wr hbw hc)
      have HN := Lib.hid (mx_take_next Mg.deep ha)
      have HB2 := Lib.hid hbw
      have hle : mx ((l.take (k + 1)).map Mg.deep) ≤ 1000000000000 := Nat.le_trans (mx_take_le l (k + 1) Mg.deep) HSM.out
      rw [HN.out] at hle
      obtain ⟨p, hp⟩ : ∃ p, mx ((l.take k).map Mg.deep) = p := ⟨_, rfl⟩
      obtain ⟨q, hq⟩ : ∃ q, Mg.deep a = q := ⟨_, rfl⟩
      rw [hp, hq] at hle
      rw [hp, hq] at HN
      rw [hp]
      rw [hq] at HC
      clear hc hbw ha hp hq
      go_wp2_with (go_at_call 15; refine HC.out.mono ?_; rintro e w1 ⟨rfl, hb1⟩)
      refine ⟨⟨k + 1, by go_num, by omega, ?_, HB2.out.trans (hb1.mono HB2.out.size)⟩, by simp [intOf]; omega⟩
      rw [HN.out]
      go_num
    · obtain rfl : k = l.length := by omega
      have e : l.take l.length = l := List.take_length
      rw [e]
      go_wp2
      go_ret
      exact ⟨rfl, hbw⟩
/-- The premise: what is told of an element. -/
def greatestvalP (B d : Nat) (w : World) (l : List Vl') : Prop := ∀ a ∈ l, ∀ x y z wr, Below w.heap.size w wr → VAt (Rd B wr) d a [x, y, z] → Calls Try.prog 49 #[.agg #[x, y, z]] wr fun e w' => e = .returned (.int .i64 (dV a : Nat)) ∧ Below wr.heap.size wr w'
set_option maxRecDepth 1000000 in
set_option maxHeartbeats 4000000 in
theorem greatest_val (B d : Nat) (l : List Vl') (u : Value) (w : World) (hB : B ≤ w.heap.size) (hl : LsAt (Rd B w) 30 3 (VAt (Rd B w) d) l u) (hg : greatestvalP B d w l) (hsm : mx (l.map dV) ≤ 1000000000000) :
    Calls Try.prog 48 #[u, .func (.func 49) #[] #[]] w fun e w' => e = .returned (.int .i64 (mx (l.map dV) : Nat)) ∧ Below w.heap.size w w' := by
  obtain ⟨A, c, xs, rfl, hs, hb, hr, hn⟩ := hl.open_
  have HS := Lib.hid hs
  have HR := Lib.hid hr
  have HG := Lib.hid hg
  have HSM := Lib.hid hsm
  have HBB := Lib.hid hb
  clear hs hr hg hl hsm hb
  go_enter Try.func48, Try.ntmps48
  go_wp2
  go_loopw [5, 9] (fun n i wr => ∃ k : Nat, i = .int .i64 k ∧ k ≤ l.length ∧ n = .int .i64 (mx ((l.take k).map dV) : Nat) ∧ Below w.heap.size w wr) (fun _ i _ => l.length - (intOf i).toNat)
  case atStart => exact ⟨0, rfl, by omega, rfl, Below.refl _ _⟩
  case round =>
    obtain ⟨k, rfl, hk, rfl, hbw⟩ := hrel
    by_cases hlt : k < l.length
    · obtain ⟨a, ha⟩ : ∃ a, l[k]? = some a := ⟨_, List.getElem?_eq_getElem hlt⟩
      obtain ⟨ad, x, y, z, rfl, hg, hc, c0, c1, c2⟩ := row3 vAt.len (sl_low HS.out HBB.out (Lo.below hbw hB)) (HR.out.imp fun a cs h => VRd.low (Lo.below hbw hB) h) ha
      have HC := Lib.hid (HG.out a (List.mem_of_getElem? ha) _ _ _ wr hbw hc)
      have HN := Lib.hid (mx_take_next dV ha)
      have HB2 := Lib.hid hbw
      have hle : mx ((l.take (k + 1)).map dV) ≤ 1000000000000 := Nat.le_trans (mx_take_le l (k + 1) dV) HSM.out
      rw [HN.out] at hle
      obtain ⟨p, hp⟩ : ∃ p, mx ((l.take k).map dV) = p := ⟨_, rfl⟩
      obtain ⟨q, hq⟩ : ∃ q, dV a = q := ⟨_, rfl⟩
      rw [hp, hq] at hle
      rw [hp, hq] at HN
      rw [hp]
      rw [hq] at HC
      clear hc hbw ha hp hq
      go_wp2_with (go_at_call 49; refine HC.out.mono ?_; rintro e w1 ⟨rfl, hb1⟩)
      refine ⟨⟨k + 1, by go_num, by omega, ?_, HB2.out.trans (hb1.mono HB2.out.size)⟩, by simp [intOf]; omega⟩
      rw [HN.out]
      go_num
    · obtain rfl : k = l.length := by omega
      have e : l.take l.length = l := List.take_length
      rw [e]
      go_wp2
      go_ret
      exact ⟨rfl, hbw⟩
/-- The premise: what is told of an element. -/
def greatestslotP (B d : Nat) (w : World) (l : List So) : Prop := ∀ a ∈ l, ∀ x y z wr, Below w.heap.size w wr → SAt' (Rd B wr) d a [x, y, z] → Calls Try.prog 35 #[.agg #[x, y, z]] wr fun e w' => e = .returned (.int .i64 (dS a : Nat)) ∧ Below wr.heap.size wr w'
set_option maxRecDepth 1000000 in
set_option maxHeartbeats 4000000 in
theorem greatest_slot (B d : Nat) (l : List So) (u : Value) (w : World) (hB : B ≤ w.heap.size) (hl : LsAt (Rd B w) 27 3 (SAt' (Rd B w) d) l u) (hg : greatestslotP B d w l) (hsm : mx (l.map dS) ≤ 1000000000000) :
    Calls Try.prog 34 #[u, .func (.func 35) #[] #[]] w fun e w' => e = .returned (.int .i64 (mx (l.map dS) : Nat)) ∧ Below w.heap.size w w' := by
  obtain ⟨A, c, xs, rfl, hs, hb, hr, hn⟩ := hl.open_
  have HS := Lib.hid hs
  have HR := Lib.hid hr
  have HG := Lib.hid hg
  have HSM := Lib.hid hsm
  have HBB := Lib.hid hb
  clear hs hr hg hl hsm hb
  go_enter Try.func34, Try.ntmps34
  go_wp2
  go_loopw [5, 9] (fun n i wr => ∃ k : Nat, i = .int .i64 k ∧ k ≤ l.length ∧ n = .int .i64 (mx ((l.take k).map dS) : Nat) ∧ Below w.heap.size w wr) (fun _ i _ => l.length - (intOf i).toNat)
  case atStart => exact ⟨0, rfl, by omega, rfl, Below.refl _ _⟩
  case round =>
    obtain ⟨k, rfl, hk, rfl, hbw⟩ := hrel
    by_cases hlt : k < l.length
    · obtain ⟨a, ha⟩ : ∃ a, l[k]? = some a := ⟨_, List.getElem?_eq_getElem hlt⟩
      obtain ⟨ad, x, y, z, rfl, hg, hc, c0, c1, c2⟩ := row3 sAt.len (sl_low HS.out HBB.out (Lo.below hbw hB)) (HR.out.imp fun a cs h => SRd.low (Lo.below hbw hB) h) ha
      have HC := Lib.hid (HG.out a (List.mem_of_getElem? ha) _ _ _ wr hbw hc)
      have HN := Lib.hid (mx_take_next dS ha)
      have HB2 := Lib.hid hbw
      have hle : mx ((l.take (k + 1)).map dS) ≤ 1000000000000 := Nat.le_trans (mx_take_le l (k + 1) dS) HSM.out
      rw [HN.out] at hle
      obtain ⟨p, hp⟩ : ∃ p, mx ((l.take k).map dS) = p := ⟨_, rfl⟩
      obtain ⟨q, hq⟩ : ∃ q, dS a = q := ⟨_, rfl⟩
      rw [hp, hq] at hle
      rw [hp, hq] at HN
      rw [hp]
      rw [hq] at HC
      clear hc hbw ha hp hq
      go_wp2_with (go_at_call 35; refine HC.out.mono ?_; rintro e w1 ⟨rfl, hb1⟩)
      refine ⟨⟨k + 1, by go_num, by omega, ?_, HB2.out.trans (hb1.mono HB2.out.size)⟩, by simp [intOf]; omega⟩
      rw [HN.out]
      go_num
    · obtain rfl : k = l.length := by omega
      have e : l.take l.length = l := List.take_length
      rw [e]
      go_wp2
      go_ret
      exact ⟨rfl, hbw⟩

/-- Deep, of messages within so many levels. -/
def DeepH (B d : Nat) : Prop := ∀ (m : Mg) (u : Value) (w : World), B ≤ w.heap.size → MRd B w d m u → m.deep ≤ 1000000000000 → Calls Try.prog 15 #[.agg #[u]] w fun e w' => e = .returned (.int .i64 (m.deep : Nat)) ∧ Below w.heap.size w w'
theorem deepVal_any {B d : Nat} (H : DeepH B d) (v : Vl') (u : Value) (w : World) (hB : B ≤ w.heap.size) (hv : VAt (Rd B w) d v [.int .i64 v.n, .string (tx v.s), u]) (hsm : dV v ≤ 1000000000000) :
    Calls Try.prog 49 #[.agg #[.int .i64 v.n, .string (tx v.s), u]] w fun e w' => e = .returned (.int .i64 (dV v : Nat)) ∧ Below w.heap.size w w' := by
  obtain ⟨u', hu, hl⟩ := hv
  simp only [List.cons.injEq, and_true, true_and] at hu
  subst hu
  have hbw := below_new w (.cells #[.int .i64 v.n, .string (tx v.s), u] 30)
  have hT := greatest_msg B d v.M u _ (Nat.le_trans hB hbw.size) (hl.low (Lo.below hbw hB) fun a cs h => MRd.low (Lo.below hbw hB) h)
    (fun a ha x wr hw hr => H a x wr (Nat.le_trans (Nat.le_trans hB hbw.size) hw.size) hr (by have := mem_le_mx (g := Mg.deep) ha; unfold dV at hsm; omega)) (by unfold dV at hsm; omega)
  have hz : dV v = mx (v.M.map Mg.deep) := rfl
  obtain ⟨q, hq⟩ : ∃ q, mx (v.M.map Mg.deep) = q := ⟨_, rfl⟩
  rw [hz, hq] at hsm ⊢
  rw [hq] at hT
  have HT := Lib.hid hT
  clear hT hl hz hq H
  go_enter Try.func49, Try.ntmps49
  go_wp2_with (go_at_call 55; refine HT.out.mono ?_; rintro e w1 ⟨rfl, hb1⟩)
  go_ret
  exact ⟨by go_num, hbw.trans (hb1.mono hbw.size)⟩
theorem dvalP {B d : Nat} (H : DeepH B d) {w : World} (hB : B ≤ w.heap.size) {l : List Vl'} (hsm : mx (l.map dV) ≤ 1000000000000) : greatestvalP B d w l := fun a ha x y z wr hw hr => by
  have hr' := hr
  obtain ⟨u, hu, _⟩ := hr
  simp only [List.cons.injEq, and_true] at hu
  obtain ⟨rfl, rfl, rfl⟩ := hu
  exact deepVal_any H a z wr (Nat.le_trans hB hw.size) hr' (by have := mem_le_mx (g := dV) ha; omega)
set_option maxRecDepth 1000000 in
set_option maxHeartbeats 4000000 in
theorem deepSlot_any {B d : Nat} (H : DeepH B d) (s : So) (u1 u2 : Value) (w : World) (hB : B ≤ w.heap.size) (hs : SAt' (Rd B w) d s [.int .i64 s.no, u1, u2]) (hsm : dS s ≤ 1000000000000) :
    Calls Try.prog 35 #[.agg #[.int .i64 s.no, u1, u2]] w fun e w' => e = .returned (.int .i64 (dS s : Nat)) ∧ Below w.heap.size w w' := by
  obtain ⟨u1', u2', hu, hk, hv⟩ := hs
  simp only [List.cons.injEq, and_true, true_and] at hu
  obtain ⟨rfl, rfl⟩ := hu
  have H1 := Lib.hid (fun wx (hx : Below w.heap.size w wx) => greatest_val B d s.K u1 wx (Nat.le_trans hB hx.size) (hk.low (Lo.below hx hB) fun a cs h => VRd.low (Lo.below hx hB) h) (dvalP H (Nat.le_trans hB hx.size) (by unfold dS at hsm; omega)) (by unfold dS at hsm; omega))
  have H2 := Lib.hid (fun wx (hx : Below w.heap.size w wx) => greatest_val B d s.V u2 wx (Nat.le_trans hB hx.size) (hv.low (Lo.below hx hB) fun a cs h => VRd.low (Lo.below hx hB) h) (dvalP H (Nat.le_trans hB hx.size) (by unfold dS at hsm; omega)) (by unfold dS at hsm; omega))
  have hz : dS s = max (mx (s.K.map dV)) (mx (s.V.map dV)) := rfl
  obtain ⟨p, hp⟩ : ∃ p, mx (s.K.map dV) = p := ⟨_, rfl⟩
  obtain ⟨q, hq⟩ : ∃ q, mx (s.V.map dV) = q := ⟨_, rfl⟩
  rw [hz, hp, hq] at hsm ⊢
  rw [hp] at H1
  rw [hq] at H2
  have LBD : Below w.heap.size w ((w.alloc (.cells #[.int .i64 s.no, u1, u2] 27)).drew) := (below_new w _).trans (Below.refl _ _).drew
  have h0 : Bx w.heap.size (.cells #[.int .i64 s.no, u1, u2] 27 (0, 0)) u1 u2 ((w.alloc (.cells #[.int .i64 s.no, u1, u2] 27)).drew) := ⟨heap_alloc_new w _, (bx3 (heap_alloc_new w (.cells #[.int .i64 s.no, u1, u2] 27))).2.1, (bx3 (heap_alloc_new w (.cells #[.int .i64 s.no, u1, u2] 27))).2.2⟩
  have HW : Hid (max (p : Int) (q : Int) = ((max p q : Nat) : Int)) := Lib.hid (by omega)
  clear hz hp hq H hk hv
  go_enter Try.func35, Try.ntmps35
  go_wp2_with fail
  go_region_held3 (fun w' => w'.heap[w.heap.size]? = some (.cells #[.int .i64 s.no, u1, u2] 27 (0, 0)) ∧ w'.cell? ⟨w.heap.size, 1, none⟩ = some u1 ∧ w'.cell? ⟨w.heap.size, 2, none⟩ = some u2)
    (first | exact h0 | exact Bx.on h0 ‹_› | exact Bx.on (Bx.on h0 hbK) hbV | exact Bx.on (Bx.on h0 hbV) hbK | go_keep)
    ((first
      | (go_at_call 48; with_reducible refine (H1.out _ (by first | exact LBD | exact LBD.trans (hbV.mono LBD.size))).mono ?_; rintro e wK ⟨rfl, hbK⟩)
      | (go_at_call 48; with_reducible refine (H2.out _ (by first | exact LBD | exact LBD.trans (hbK.mono LBD.size))).mono ?_; rintro e wV ⟨rfl, hbV⟩)))
  all_goals go_wp2
  all_goals go_ret
  all_goals exact ⟨by first | (rw [show max p q = q by omega]; rfl) | (rw [show max p q = p by omega]; rfl), by first | exact below_then (below_then LBD hbK) hbV | exact below_then (below_then LBD hbV) hbK⟩
theorem dslotP {B d : Nat} (H : DeepH B d) {w : World} (hB : B ≤ w.heap.size) {l : List So} (hsm : mx (l.map dS) ≤ 1000000000000) : greatestslotP B d w l := fun a ha x y z wr hw hr => by
  have hr' := hr
  obtain ⟨u1, u2, hu, _⟩ := hr
  simp only [List.cons.injEq, and_true] at hu
  obtain ⟨rfl, rfl, rfl⟩ := hu
  exact deepSlot_any H a y z wr (Nat.le_trans hB hw.size) hr' (by have := mem_le_mx (g := dS) ha; omega)
theorem deep_step {B d : Nat} (H : DeepH B d) : DeepH B (d + 1) := by
  rintro m u w hB ⟨u', hu, hl⟩ hsm
  simp only [List.cons.injEq, and_true] at hu
  subst hu
  have hbw := below_new w (.cells #[u] 24)
  rw [m.deep_eq] at hsm ⊢
  have hT := greatest_slot B d m.F u _ (Nat.le_trans hB hbw.size) (hl.low (Lo.below hbw hB) fun a cs h => SRd.low (Lo.below hbw hB) h) (dslotP H (Nat.le_trans hB hbw.size) (by omega)) (by omega)
  obtain ⟨q, hq⟩ : ∃ q, mx (m.F.map dS) = q := ⟨_, rfl⟩
  rw [hq] at hT hsm ⊢
  have HT := Lib.hid hT
  clear hT hl hq H
  go_enter Try.func15, Try.ntmps15
  go_wp2_with (go_at_call 34; refine HT.out.mono ?_; rintro e w1 ⟨rfl, hb1⟩)
  go_ret
  exact ⟨rfl, hbw.trans (hb1.mono hbw.size)⟩
/-- value.Deep, of any message. -/
theorem deep_any (B : Nat) : ∀ d, DeepH B d
  | 0 => fun _ _ _ _ h _ => h.elim
  | d + 1 => deep_step (deep_any B d)
end Go.Proofs.Ytjmcpfckcajnjaa.T9
