/-
  How many values there are: value's Size, and the sums below it.
-/
import Derived.Test.YtjmcpfckcajnjaaTrOpen
import Derived.Deep.RegionHeld3
namespace Go.Proofs.Ytjmcpfckcajnjaa.T9
set_option maxRecDepth 100000

open Go.RowKit

/-- The premise: what is told of an element. -/
def togethermsgP (B d : Nat) (w : World) (l : List Mg) : Prop := ∀ a ∈ l, ∀ x wr, Below w.heap.size w wr → MAt (Rd B wr) d a [x] → Calls Try.prog 17 #[.agg #[x]] wr fun e w' => e = .returned (.int .i64 (Mg.size a : Nat)) ∧ Below wr.heap.size wr w'
set_option maxRecDepth 1000000 in
set_option maxHeartbeats 4000000 in
theorem together_msg (B d : Nat) (l : List Mg) (u : Value) (w : World) (hB : B ≤ w.heap.size) (hl : LsAt (Rd B w) 24 1 (MAt (Rd B w) d) l u) (hg : togethermsgP B d w l) (hsm : sm (l.map Mg.size) ≤ 1000000000000) :
    Calls Try.prog 56 #[u, .func (.func 17) #[] #[]] w fun e w' => e = .returned (.int .i64 (sm (l.map Mg.size) : Nat)) ∧ Below w.heap.size w w' := by
  obtain ⟨A, c, xs, rfl, hs, hb, hr, hn⟩ := hl.open_
  have HS := Lib.hid hs
  have HR := Lib.hid hr
  have HG := Lib.hid hg
  have HSM := Lib.hid hsm
  have HBB := Lib.hid hb
  clear hs hr hg hl hsm hb
  go_enter Try.func56, Try.ntmps56
  go_wp2
  go_loopw [5, 9] (fun n i wr => ∃ k : Nat, i = .int .i64 k ∧ k ≤ l.length ∧ n = .int .i64 (sm ((l.take k).map Mg.size) : Nat) ∧ Below w.heap.size w wr) (fun _ i _ => l.length - (intOf i).toNat)
  case atStart => exact ⟨0, rfl, by omega, rfl, Below.refl _ _⟩
  case round =>
    obtain ⟨k, rfl, hk, rfl, hbw⟩ := hrel
    by_cases hlt : k < l.length
    · obtain ⟨a, ha⟩ : ∃ a, l[k]? = some a := ⟨_, List.getElem?_eq_getElem hlt⟩
      obtain ⟨ad, x, rfl, hg, hc, c0⟩ := row1 MAt.len (sl_low HS.out HBB.out (Lo.below hbw hB)) (HR.out.imp fun a cs h => MRd.low (Lo.below hbw hB) h) ha
      have HC := Lib.hid (HG.out a (List.mem_of_getElem? ha) _ wr hbw hc)
      have HN := Lib.hid (sm_take_next Mg.size ha)
      have HB2 := Lib.hid hbw
      have hle : sm ((l.take (k + 1)).map Mg.size) ≤ 1000000000000 := Nat.le_trans (sm_take_le l (k + 1) Mg.size) HSM.out
      rw [HN.out] at hle
      obtain ⟨p, hp⟩ : ∃ p, sm ((l.take k).map Mg.size) = p := ⟨_, rfl⟩
      obtain ⟨q, hq⟩ : ∃ q, Mg.size a = q := ⟨_, rfl⟩
      rw [hp, hq] at hle
      rw [hp, hq] at HN
      rw [hp]
      rw [hq] at HC
      clear hc hbw ha hp hq
      go_wp2_with (go_at_call 17; refine HC.out.mono ?_; rintro e w1 ⟨rfl, hb1⟩)
      refine ⟨⟨k + 1, by go_num, by omega, ?_, HB2.out.trans (hb1.mono HB2.out.size)⟩, by simp [intOf]; omega⟩
      rw [HN.out]
      go_num
    · obtain rfl : k = l.length := by omega
      have e : l.take l.length = l := List.take_length
      rw [e]
      go_wp2
      go_ret
      exact ⟨rfl, hbw⟩
/-- The premise: what is told of an element. -/
def togethervalP (B d : Nat) (w : World) (l : List Vl') : Prop := ∀ a ∈ l, ∀ x y z wr, Below w.heap.size w wr → VAt (Rd B wr) d a [x, y, z] → Calls Try.prog 51 #[.agg #[x, y, z]] wr fun e w' => e = .returned (.int .i64 (zV a : Nat)) ∧ Below wr.heap.size wr w'
set_option maxRecDepth 1000000 in
set_option maxHeartbeats 4000000 in
theorem together_val (B d : Nat) (l : List Vl') (u : Value) (w : World) (hB : B ≤ w.heap.size) (hl : LsAt (Rd B w) 30 3 (VAt (Rd B w) d) l u) (hg : togethervalP B d w l) (hsm : sm (l.map zV) ≤ 1000000000000) :
    Calls Try.prog 50 #[u, .func (.func 51) #[] #[]] w fun e w' => e = .returned (.int .i64 (sm (l.map zV) : Nat)) ∧ Below w.heap.size w w' := by
  obtain ⟨A, c, xs, rfl, hs, hb, hr, hn⟩ := hl.open_
  have HS := Lib.hid hs
  have HR := Lib.hid hr
  have HG := Lib.hid hg
  have HSM := Lib.hid hsm
  have HBB := Lib.hid hb
  clear hs hr hg hl hsm hb
  go_enter Try.func50, Try.ntmps50
  go_wp2
  go_loopw [5, 9] (fun n i wr => ∃ k : Nat, i = .int .i64 k ∧ k ≤ l.length ∧ n = .int .i64 (sm ((l.take k).map zV) : Nat) ∧ Below w.heap.size w wr) (fun _ i _ => l.length - (intOf i).toNat)
  case atStart => exact ⟨0, rfl, by omega, rfl, Below.refl _ _⟩
  case round =>
    obtain ⟨k, rfl, hk, rfl, hbw⟩ := hrel
    by_cases hlt : k < l.length
    · obtain ⟨a, ha⟩ : ∃ a, l[k]? = some a := ⟨_, List.getElem?_eq_getElem hlt⟩
      obtain ⟨ad, x, y, z, rfl, hg, hc, c0, c1, c2⟩ := row3 vAt.len (sl_low HS.out HBB.out (Lo.below hbw hB)) (HR.out.imp fun a cs h => VRd.low (Lo.below hbw hB) h) ha
      have HC := Lib.hid (HG.out a (List.mem_of_getElem? ha) _ _ _ wr hbw hc)
      have HN := Lib.hid (sm_take_next zV ha)
      have HB2 := Lib.hid hbw
      have hle : sm ((l.take (k + 1)).map zV) ≤ 1000000000000 := Nat.le_trans (sm_take_le l (k + 1) zV) HSM.out
      rw [HN.out] at hle
      obtain ⟨p, hp⟩ : ∃ p, sm ((l.take k).map zV) = p := ⟨_, rfl⟩
      obtain ⟨q, hq⟩ : ∃ q, zV a = q := ⟨_, rfl⟩
      rw [hp, hq] at hle
      rw [hp, hq] at HN
      rw [hp]
      rw [hq] at HC
      clear hc hbw ha hp hq
      go_wp2_with (go_at_call 51; refine HC.out.mono ?_; rintro e w1 ⟨rfl, hb1⟩)
      refine ⟨⟨k + 1, by go_num, by omega, ?_, HB2.out.trans (hb1.mono HB2.out.size)⟩, by simp [intOf]; omega⟩
      rw [HN.out]
      go_num
    · obtain rfl : k = l.length := by omega
      have e : l.take l.length = l := List.take_length
      rw [e]
      go_wp2
      go_ret
      exact ⟨rfl, hbw⟩
/-- The premise: what is told of an element. -/
def togetherslotP (B d : Nat) (w : World) (l : List So) : Prop := ∀ a ∈ l, ∀ x y z wr, Below w.heap.size w wr → SAt' (Rd B wr) d a [x, y, z] → Calls Try.prog 38 #[.agg #[x, y, z]] wr fun e w' => e = .returned (.int .i64 (zS a : Nat)) ∧ Below wr.heap.size wr w'
set_option maxRecDepth 1000000 in
set_option maxHeartbeats 4000000 in
theorem together_slot (B d : Nat) (l : List So) (u : Value) (w : World) (hB : B ≤ w.heap.size) (hl : LsAt (Rd B w) 27 3 (SAt' (Rd B w) d) l u) (hg : togetherslotP B d w l) (hsm : sm (l.map zS) ≤ 1000000000000) :
    Calls Try.prog 37 #[u, .func (.func 38) #[] #[]] w fun e w' => e = .returned (.int .i64 (sm (l.map zS) : Nat)) ∧ Below w.heap.size w w' := by
  obtain ⟨A, c, xs, rfl, hs, hb, hr, hn⟩ := hl.open_
  have HS := Lib.hid hs
  have HR := Lib.hid hr
  have HG := Lib.hid hg
  have HSM := Lib.hid hsm
  have HBB := Lib.hid hb
  clear hs hr hg hl hsm hb
  go_enter Try.func37, Try.ntmps37
  go_wp2
  go_loopw [5, 9] (fun n i wr => ∃ k : Nat, i = .int .i64 k ∧ k ≤ l.length ∧ n = .int .i64 (sm ((l.take k).map zS) : Nat) ∧ Below w.heap.size w wr) (fun _ i _ => l.length - (intOf i).toNat)
  case atStart => exact ⟨0, rfl, by omega, rfl, Below.refl _ _⟩
  case round =>
    obtain ⟨k, rfl, hk, rfl, hbw⟩ := hrel
    by_cases hlt : k < l.length
    · obtain ⟨a, ha⟩ : ∃ a, l[k]? = some a := ⟨_, List.getElem?_eq_getElem hlt⟩
      obtain ⟨ad, x, y, z, rfl, hg, hc, c0, c1, c2⟩ := row3 sAt.len (sl_low HS.out HBB.out (Lo.below hbw hB)) (HR.out.imp fun a cs h => SRd.low (Lo.below hbw hB) h) ha
      have HC := Lib.hid (HG.out a (List.mem_of_getElem? ha) _ _ _ wr hbw hc)
      have HN := Lib.hid (sm_take_next zS ha)
      have HB2 := Lib.hid hbw
      have hle : sm ((l.take (k + 1)).map zS) ≤ 1000000000000 := Nat.le_trans (sm_take_le l (k + 1) zS) HSM.out
      rw [HN.out] at hle
      obtain ⟨p, hp⟩ : ∃ p, sm ((l.take k).map zS) = p := ⟨_, rfl⟩
      obtain ⟨q, hq⟩ : ∃ q, zS a = q := ⟨_, rfl⟩
      rw [hp, hq] at hle
      rw [hp, hq] at HN
      rw [hp]
      rw [hq] at HC
      clear hc hbw ha hp hq
      go_wp2_with (go_at_call 38; refine HC.out.mono ?_; rintro e w1 ⟨rfl, hb1⟩)
      refine ⟨⟨k + 1, by go_num, by omega, ?_, HB2.out.trans (hb1.mono HB2.out.size)⟩, by simp [intOf]; omega⟩
      rw [HN.out]
      go_num
    · obtain rfl : k = l.length := by omega
      have e : l.take l.length = l := List.take_length
      rw [e]
      go_wp2
      go_ret
      exact ⟨rfl, hbw⟩

/-- A box of three cells, and of one. -/
theorem bx3 {w : World} {g : Nat} {a b c : Value} {t : TypeId} {fr : Nat × Nat} (h : w.heap[g]? = some (.cells #[a, b, c] t fr)) : w.cell? ⟨g, 0, none⟩ = some a ∧ w.cell? ⟨g, 1, none⟩ = some b ∧ w.cell? ⟨g, 2, none⟩ = some c := ⟨by rw [box_cell h]; rfl, by rw [box_cell h]; rfl, by rw [box_cell h]; rfl⟩
theorem bx1 {w : World} {g : Nat} {a : Value} {t : TypeId} {fr : Nat × Nat} (h : w.heap[g]? = some (.cells #[a] t fr)) : w.cell? ⟨g, 0, none⟩ = some a := by rw [box_cell h]; rfl
theorem box_on {w w' : World} {g : Nat} {o : Obj} (h : w.heap[g]? = some o) (hb : Below w.heap.size w w') : w'.heap[g]? = some o := (hb.block _ (box_lt h)).trans h
/-- Box g, which holds a slot, is as it was: whole, and its lists. -/
def Bx (g : Nat) (o : Obj) (u1 u2 : Value) (w : World) : Prop := w.heap[g]? = some o ∧ w.cell? ⟨g, 1, none⟩ = some u1 ∧ w.cell? ⟨g, 2, none⟩ = some u2
theorem Bx.on {g : Nat} {o : Obj} {u1 u2 : Value} {w w' : World} (h : Bx g o u1 u2 w) (hb : Below w.heap.size w w') : Bx g o u1 u2 w' :=
  have e := hb.block g (box_lt h.1)
  ⟨e.trans h.1, (World.cell?_of_block e).trans h.2.1, (World.cell?_of_block e).trans h.2.2⟩

/-- Size, of messages within so many levels. -/
def SizeH (B d : Nat) : Prop := ∀ (m : Mg) (u : Value) (w : World), B ≤ w.heap.size → MRd B w d m u → m.size ≤ 1000000000000 → Calls Try.prog 17 #[.agg #[u]] w fun e w' => e = .returned (.int .i64 (m.size : Nat)) ∧ Below w.heap.size w w'
theorem sizeVal_any {B d : Nat} (H : SizeH B d) (v : Vl') (u : Value) (w : World) (hB : B ≤ w.heap.size) (hv : VAt (Rd B w) d v [.int .i64 v.n, .string (tx v.s), u]) (hsm : zV v ≤ 1000000000000) :
    Calls Try.prog 51 #[.agg #[.int .i64 v.n, .string (tx v.s), u]] w fun e w' => e = .returned (.int .i64 (zV v : Nat)) ∧ Below w.heap.size w w' := by
  obtain ⟨u', hu, hl⟩ := hv
  simp only [List.cons.injEq, and_true, true_and] at hu
  subst hu
  have hbw := below_new w (.cells #[.int .i64 v.n, .string (tx v.s), u] 30)
  have hT := together_msg B d v.M u _ (Nat.le_trans hB hbw.size) (hl.low (Lo.below hbw hB) fun a cs h => MRd.low (Lo.below hbw hB) h)
    (fun a ha x wr hw hr => H a x wr (Nat.le_trans (Nat.le_trans hB hbw.size) hw.size) hr (by have := mem_le_sm (g := Mg.size) ha; unfold zV at hsm; omega)) (by unfold zV at hsm; omega)
  have hz : zV v = 1 + sm (v.M.map Mg.size) := rfl
  obtain ⟨q, hq⟩ : ∃ q, sm (v.M.map Mg.size) = q := ⟨_, rfl⟩
  rw [hz, hq] at hsm ⊢
  rw [hq] at hT
  have HT := Lib.hid hT
  clear hT hl hz hq H
  go_enter Try.func51, Try.ntmps51
  go_wp2_with (go_at_call 56; refine HT.out.mono ?_; rintro e w1 ⟨rfl, hb1⟩)
  go_ret
  exact ⟨by go_num, hbw.trans (hb1.mono hbw.size)⟩
theorem valP {B d : Nat} (H : SizeH B d) {w : World} (hB : B ≤ w.heap.size) {l : List Vl'} (hsm : sm (l.map zV) ≤ 1000000000000) : togethervalP B d w l := fun a ha x y z wr hw hr => by
  have hr' := hr
  obtain ⟨u, hu, _⟩ := hr
  simp only [List.cons.injEq, and_true] at hu
  obtain ⟨rfl, rfl, rfl⟩ := hu
  exact sizeVal_any H a z wr (Nat.le_trans hB hw.size) hr' (by have := mem_le_sm (g := zV) ha; omega)
set_option maxRecDepth 1000000 in
set_option maxHeartbeats 4000000 in
theorem sizeSlot_any {B d : Nat} (H : SizeH B d) (s : So) (u1 u2 : Value) (w : World) (hB : B ≤ w.heap.size) (hs : SAt' (Rd B w) d s [.int .i64 s.no, u1, u2]) (hsm : zS s ≤ 1000000000000) :
    Calls Try.prog 38 #[.agg #[.int .i64 s.no, u1, u2]] w fun e w' => e = .returned (.int .i64 (zS s : Nat)) ∧ Below w.heap.size w w' := by
  obtain ⟨u1', u2', hu, hk, hv⟩ := hs
  simp only [List.cons.injEq, and_true, true_and] at hu
  obtain ⟨rfl, rfl⟩ := hu
  have H1 := Lib.hid (fun wx (hx : Below w.heap.size w wx) => together_val B d s.K u1 wx (Nat.le_trans hB hx.size) (hk.low (Lo.below hx hB) fun a cs h => VRd.low (Lo.below hx hB) h) (valP H (Nat.le_trans hB hx.size) (by unfold zS at hsm; omega)) (by unfold zS at hsm; omega))
  have H2 := Lib.hid (fun wx (hx : Below w.heap.size w wx) => together_val B d s.V u2 wx (Nat.le_trans hB hx.size) (hv.low (Lo.below hx hB) fun a cs h => VRd.low (Lo.below hx hB) h) (valP H (Nat.le_trans hB hx.size) (by unfold zS at hsm; omega)) (by unfold zS at hsm; omega))
  have hz : zS s = sm (s.K.map zV) + sm (s.V.map zV) := rfl
  obtain ⟨p, hp⟩ : ∃ p, sm (s.K.map zV) = p := ⟨_, rfl⟩
  obtain ⟨q, hq⟩ : ∃ q, sm (s.V.map zV) = q := ⟨_, rfl⟩
  rw [hz, hp, hq] at hsm ⊢
  rw [hp] at H1
  rw [hq] at H2
  have LBD : Below w.heap.size w ((w.alloc (.cells #[.int .i64 s.no, u1, u2] 27)).drew) := (below_new w _).trans (Below.refl _ _).drew
  have h0 : Bx w.heap.size (.cells #[.int .i64 s.no, u1, u2] 27 (0, 0)) u1 u2 ((w.alloc (.cells #[.int .i64 s.no, u1, u2] 27)).drew) := ⟨heap_alloc_new w _, (bx3 (heap_alloc_new w (.cells #[.int .i64 s.no, u1, u2] 27))).2.1, (bx3 (heap_alloc_new w (.cells #[.int .i64 s.no, u1, u2] 27))).2.2⟩
  have HW : Hid (IntKind.i64.wrap ((p : Int) + (q : Int)) = ((p + q : Nat) : Int)) := Lib.hid (by rw [IntKind.wrap_i64]; omega)
  clear hz hp hq H hk hv
  go_enter Try.func38, Try.ntmps38
  go_wp2_with fail
  go_region_held3 (fun w' => w'.heap[w.heap.size]? = some (.cells #[.int .i64 s.no, u1, u2] 27 (0, 0)) ∧ w'.cell? ⟨w.heap.size, 1, none⟩ = some u1 ∧ w'.cell? ⟨w.heap.size, 2, none⟩ = some u2)
    (first | exact h0 | exact Bx.on h0 ‹_› | exact Bx.on (Bx.on h0 hbK) hbV | exact Bx.on (Bx.on h0 hbV) hbK | go_keep)
    ((first
      | (go_at_call 50; with_reducible refine (H1.out _ (by first | exact LBD | exact LBD.trans (hbV.mono LBD.size))).mono ?_; rintro e wK ⟨rfl, hbK⟩)
      | (go_at_call 50; with_reducible refine (H2.out _ (by first | exact LBD | exact LBD.trans (hbK.mono LBD.size))).mono ?_; rintro e wV ⟨rfl, hbV⟩)))
  all_goals
    go_wp2
    go_ret
    exact ⟨by rw [HW.out]; rfl, by first | exact below_then (below_then LBD hbK) hbV | exact below_then (below_then LBD hbV) hbK⟩
theorem slotP {B d : Nat} (H : SizeH B d) {w : World} (hB : B ≤ w.heap.size) {l : List So} (hsm : sm (l.map zS) ≤ 1000000000000) : togetherslotP B d w l := fun a ha x y z wr hw hr => by
  have hr' := hr
  obtain ⟨u1, u2, hu, _⟩ := hr
  simp only [List.cons.injEq, and_true] at hu
  obtain ⟨rfl, rfl, rfl⟩ := hu
  exact sizeSlot_any H a y z wr (Nat.le_trans hB hw.size) hr' (by have := mem_le_sm (g := zS) ha; omega)
theorem size_step {B d : Nat} (H : SizeH B d) : SizeH B (d + 1) := by
  rintro m u w hB ⟨u', hu, hl⟩ hsm
  simp only [List.cons.injEq, and_true] at hu
  subst hu
  have hbw := below_new w (.cells #[u] 24)
  rw [m.size_eq] at hsm ⊢
  have hT := together_slot B d m.F u _ (Nat.le_trans hB hbw.size) (hl.low (Lo.below hbw hB) fun a cs h => SRd.low (Lo.below hbw hB) h) (slotP H (Nat.le_trans hB hbw.size) hsm) hsm
  obtain ⟨q, hq⟩ : ∃ q, sm (m.F.map zS) = q := ⟨_, rfl⟩
  rw [hq] at hT hsm ⊢
  have HT := Lib.hid hT
  clear hT hl hq H
  go_enter Try.func17, Try.ntmps17
  go_wp2_with (go_at_call 37; refine HT.out.mono ?_; rintro e w1 ⟨rfl, hb1⟩)
  go_ret
  exact ⟨rfl, hbw.trans (hb1.mono hbw.size)⟩
/-- value.Size, of any message. -/
theorem size_any (B : Nat) : ∀ d, SizeH B d
  | 0 => fun _ _ _ _ h _ => h.elim
  | d + 1 => size_step (size_any B d)
end Go.Proofs.Ytjmcpfckcajnjaa.T9
