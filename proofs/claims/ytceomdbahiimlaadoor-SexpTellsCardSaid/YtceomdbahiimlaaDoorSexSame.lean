/-
  Whether two nodes are the same, but for where they begin: sexp's Same.
-/
import Derived.Test.YtceomdbahiimlaaDoorSexFits
namespace Go.Proofs.YtceomdbahiimlaaDoor.T14
set_option maxRecDepth 100000

open Go.RowKit

theorem cell_up {w w' : World} {a : Addr} {v : Value} (hb : Below w.heap.size w w') (h : w.cell? a = some v) : w'.cell? a = some v := (hb.cell (World.block_lt_of_cell? w _ h)).trans h
noncomputable def eqC {α : Type} (a b : α) : Bool := @decide (a = b) (Classical.propDecidable _)
theorem eqC_iff {α : Type} {a b : α} : eqC a b = true ↔ a = b := by unfold eqC; exact @decide_eq_true_iff _ (Classical.propDecidable _)
theorem eqC_yes {α : Type} {a b : α} (h : a = b) : eqC a b = true := eqC_iff.2 h
theorem eqC_no {α : Type} {a b : α} (h : ¬ a = b) : eqC a b = false := by unfold eqC; exact @decide_eq_false _ (Classical.propDecidable _) h
theorem eqC_false {α : Type} {a b : α} (h : eqC a b = false) : ¬ a = b := fun e => by rw [eqC_yes e] at h; cases h
/-- The premise: what is told of two elements. -/
def SameP (B d : Nat) (w : World) (l m : List Nd) : Prop := ∀ (k : Nat) a b, l[k]? = some a → m[k]? = some b → ∀ u v wr, Below w.heap.size w wr → NAt (Rd B wr) d a [.int .i64 a.kind, .string (tx a.text), .int .i64 a.num, .int .i64 a.at_, u] → NAt (Rd B wr) d b [.int .i64 b.kind, .string (tx b.text), .int .i64 b.num, .int .i64 b.at_, v] →
  Calls Tryd.prog 18 #[.agg #[.int .i64 a.kind, .string (tx a.text), .int .i64 a.num, .int .i64 a.at_, u], .agg #[.int .i64 b.kind, .string (tx b.text), .int .i64 b.num, .int .i64 b.at_, v]] wr fun e w' => e = .returned (.bool (eqC a.un b.un)) ∧ Below wr.heap.size wr w'
theorem NAt.shape {d : Nat} {x : Nd} {u : Value} {B : Nat} {w : World} (h : NAt (Rd B w) d x [.int .i64 x.kind, .string (tx x.text), .int .i64 x.num, .int .i64 x.at_, u]) : ∃ A c, u = .slice A x.l.length c := by
  cases d with
  | zero => exact h.elim
  | succ d =>
    obtain ⟨u', e, hl⟩ := h
    obtain ⟨A, c, xs, h1, -⟩ := hl.open_
    simp only [List.cons.injEq, and_true, true_and] at e
    exact ⟨A, c, e.trans h1⟩
theorem row5e {w : World} {A : Option Addr} {c : Nat} {d : Nat} {R : RP} {l : List Nd} {xs : List Value} (hs : Sl w A l.length c 5 xs) (hr : Rows (NAt R d) l xs) {k : Nat} {a : Nd} (hk : l[k]? = some a) :
    ∃ ad u, A = some ad ∧ ad.block < w.heap.size ∧ NAt R d a [.int .i64 a.kind, .string (tx a.text), .int .i64 a.num, .int .i64 a.at_, u] ∧ w.cell? (ad.add (k * 5)) = some (.int .i64 a.kind) ∧ w.cell? ⟨(ad.add (k * 5)).block, (ad.add (k * 5)).off + 1, none⟩ = some (.string (tx a.text)) ∧ w.cell? ⟨(ad.add (k * 5)).block, (ad.add (k * 5)).off + 2, none⟩ = some (.int .i64 a.num) ∧ w.cell? ⟨(ad.add (k * 5)).block, (ad.add (k * 5)).off + 3, none⟩ = some (.int .i64 a.at_) ∧ w.cell? ⟨(ad.add (k * 5)).block, (ad.add (k * 5)).off + 4, none⟩ = some u := by
  cases d with
  | zero =>
    obtain ⟨cs, hcs, -⟩ := hr.get (size := 5) (fun a cs h => NAt.len a cs h) hk
    exact hcs.elim
  | succ d => exact row5 hs hr hk
set_option maxRecDepth 1000000 in
set_option maxHeartbeats 4000000 in
theorem same_list (B d : Nat) (l m : List Nd) (u1 u2 : Value) (w : World) (hB : B ≤ w.heap.size) (hl : LsAt (Rd B w) 24 5 (NAt (Rd B w) d) l u1) (hm : LsAt (Rd B w) 24 5 (NAt (Rd B w) d) m u2) (hg : SameP B d w l m) :
    Calls Tryd.prog 30 #[u1, u2, .func (.func 18) #[] #[]] w fun e w' => e = .returned (.bool (eqC (l.map Nd.un) (m.map Nd.un))) ∧ Below w.heap.size w w' := by
  obtain ⟨A1, d1, xs1, rfl, hs1, hb1, hr1, hn1⟩ := hl.open_
  obtain ⟨A2, d2, xs2, rfl, hs2, hb2, hr2, hn2⟩ := hm.open_
  have HS1 := Lib.hid hs1
  have HR1 := Lib.hid hr1
  have HB1 := Lib.hid hb1
  have HS2 := Lib.hid hs2
  have HR2 := Lib.hid hr2
  have HB2 := Lib.hid hb2
  have HG := Lib.hid hg
  clear hs1 hr1 hs2 hr2 hg hl hm hb1 hb2
  by_cases hlen : l.length = m.length
  · have HLEN := Lib.hid hlen
    rw [← hlen]
    clear hlen
    go_enter Tryd.func30, Tryd.ntmps30
    go_wp2
    go_loopw [17] (fun i wr => ∃ k : Nat, i = .int .i64 k ∧ k ≤ l.length ∧ (l.take k).map Nd.un = (m.take k).map Nd.un ∧ Below w.heap.size w wr) (fun i _ => l.length - (intOf i).toNat)
    case atStart => exact ⟨0, rfl, by omega, rfl, Below.refl _ _⟩
    case round =>
      obtain ⟨k, rfl, hk, htk, hbw⟩ := hrel
      have HTK := Lib.hid htk
      clear htk
      by_cases hlt : k < l.length
      · have hlt2 : k < m.length := by rw [← HLEN.out]; exact hlt
        obtain ⟨a, ha⟩ : ∃ a, l[k]? = some a := ⟨_, List.getElem?_eq_getElem hlt⟩
        obtain ⟨b, hb⟩ : ∃ b, m[k]? = some b := ⟨_, List.getElem?_eq_getElem hlt2⟩
        obtain ⟨ad1, u, rfl, hg1, hc1, p0, p1, p2, p3, p4⟩ := row5e (sl_low HS1.out HB1.out (Lo.below hbw hB)) (HR1.out.imp fun a cs h => NRd.low (Lo.below hbw hB) h) ha
        obtain ⟨ad2, v, rfl, hg2, hc2, q0, q1, q2, q3, q4⟩ := row5e (sl_low HS2.out HB2.out (Lo.below hbw hB)) (HR2.out.imp fun a cs h => NRd.low (Lo.below hbw hB) h) hb
        obtain ⟨Au, cu, hu⟩ := NAt.shape hc1
        obtain ⟨Av, cv, hv⟩ := NAt.shape hc2
        obtain ⟨nu, hnu⟩ : ∃ q, a.l.length = q := ⟨_, rfl⟩
        obtain ⟨nv, hnv⟩ : ∃ q, b.l.length = q := ⟨_, rfl⟩
        rw [hnu] at hu
        rw [hnv] at hv
        subst hu hv
        clear hnu hnv
        have hB5 : Below wr.heap.size wr ((wr.alloc (.cells #[.int .i64 a.kind, .string (tx a.text), .int .i64 a.num, .int .i64 a.at_, .slice Au nu cu] 24)).alloc (.cells #[.int .i64 b.kind, .string (tx b.text), .int .i64 b.num, .int .i64 b.at_, .slice Av nv cv] 24)) := below_then (below_new _ _) (below_new _ _)
        obtain ⟨w5, hw5⟩ : ∃ x, x = ((wr.alloc (.cells #[.int .i64 a.kind, .string (tx a.text), .int .i64 a.num, .int .i64 a.at_, .slice Au nu cu] 24)).alloc (.cells #[.int .i64 b.kind, .string (tx b.text), .int .i64 b.num, .int .i64 b.at_, .slice Av nv cv] 24)) := ⟨_, rfl⟩
        rw [← hw5] at hB5
        have hBa := below_new wr (.cells #[.int .i64 a.kind, .string (tx a.text), .int .i64 a.num, .int .i64 a.at_, .slice Au nu cu] 24)
        have r0 := cell_up hBa q0
        have r1 := cell_up hBa q1
        have r2 := cell_up hBa q2
        have r3 := cell_up hBa q3
        have r4 := cell_up hBa q4
        have hlo : Lo B wr w5 := Lo.below hB5 (Nat.le_trans hB hbw.size)
        have HC := Lib.hid (HG.out k a b ha hb _ _ w5 (hbw.trans (hB5.mono hbw.size)) (NRd.low hlo hc1) (NRd.low hlo hc2))
        have HBW := Lib.hid (And.intro hbw (hbw.trans (hB5.mono hbw.size)))
        have HA := Lib.hid (And.intro ha hb)
        obtain ⟨r, hr⟩ : ∃ r, eqC a.un b.un = r := ⟨_, rfl⟩
        rw [hr] at HC
        have HRR := Lib.hid hr
        clear hc1 hc2 hbw hB5 hlo ha hb hr hg1 hg2 hBa
        go_wp2_with fail
        rw [← hw5]
        clear hw5 p0 p1 p2 p3 p4 q0 q1 q2 q3 q4 r0 r1 r2 r3 r4
        refine HC.out.mono ?_
        rintro e w6 ⟨rfl, hb6⟩
        have hb7 := HBW.out.2.trans (hb6.mono HBW.out.2.size)
        cases r with
        | true =>
          go_wp2
          have he := eqC_iff.1 HRR.out
          refine ⟨⟨k + 1, ?_, by omega, by rw [List.take_add_one, List.take_add_one, HA.out.1, HA.out.2, List.map_append, List.map_append, HTK.out]; simp [he], hb7⟩, ?_⟩
          · go_num
          · simp [intOf]; omega
        | false =>
          go_wp2
          go_ret
          have hne : ¬ l.map Nd.un = m.map Nd.un := fun e => eqC_false HRR.out (by
            have h1 : (l.map Nd.un)[k]? = some a.un := by rw [List.getElem?_map, HA.out.1]; rfl
            have h2 : (m.map Nd.un)[k]? = some b.un := by rw [List.getElem?_map, HA.out.2]; rfl
            rw [e, h2] at h1
            exact (Option.some.inj h1).symm)
          exact ⟨by rw [eqC_no hne]; rfl, hb7⟩
      · obtain rfl : k = l.length := by omega
        go_wp2
        go_ret
        have e : l.map Nd.un = m.map Nd.un := by
          have h := HTK.out
          rwa [List.take_length, HLEN.out, List.take_length] at h
        exact ⟨by rw [eqC_yes e]; rfl, hbw⟩
  · have hne : ((l.length : Int) == (m.length : Int)) = false := by rw [beq_eq_false_iff_ne]; omega
    have hne2 : ((l.length : Int) != (m.length : Int)) = true := bne_iff_ne.2 (by omega)
    have HE := Lib.hid (eqC_no (fun e : l.map Nd.un = m.map Nd.un => hlen (by have := congrArg List.length e; simpa using this)))
    go_enter Tryd.func30, Tryd.ntmps30
    go_wp2
    go_ret
    exact ⟨by rw [HE.out]; rfl, Below.refl _ _⟩
theorem two_boxes (w : World) (o1 o2 : Obj) : ((w.alloc o1).alloc o2).heap[w.heap.size]? = some o1 ∧ ((w.alloc o1).alloc o2).heap[w.heap.size + 1]? = some o2 ∧ Below w.heap.size w ((w.alloc o1).alloc o2) := by
  have h1 := heap_alloc_new w o1
  have hs : (w.alloc o1).heap.size = w.heap.size + 1 := by simp
  have h2 := heap_alloc_new (w.alloc o1) o2
  rw [hs] at h2
  exact ⟨((below_new (w.alloc o1) o2).block _ (by simp)).trans h1, h2, below_then (below_new _ _) (below_new _ _)⟩
/-- Same's contract at a depth. -/
def SameH14 (B d : Nat) : Prop := ∀ (a b : Nd) (u v : Value) (w : World), B ≤ w.heap.size → NAt (Rd B w) d a [.int .i64 a.kind, .string (tx a.text), .int .i64 a.num, .int .i64 a.at_, u] → NAt (Rd B w) d b [.int .i64 b.kind, .string (tx b.text), .int .i64 b.num, .int .i64 b.at_, v] →
  Calls Tryd.prog 18 #[.agg #[.int .i64 a.kind, .string (tx a.text), .int .i64 a.num, .int .i64 a.at_, u], .agg #[.int .i64 b.kind, .string (tx b.text), .int .i64 b.num, .int .i64 b.at_, v]] w fun e w' => e = .returned (.bool (eqC a.un b.un)) ∧ Below w.heap.size w w'
theorem un_iff (a b : Nd) : a.un = b.un ↔ a.kind = b.kind ∧ a.text = b.text ∧ a.num = b.num ∧ a.l.map Nd.un = b.l.map Nd.un := by
  rw [Nd.un_eq, Nd.un_eq]
  simp only [Nd.mk.injEq, true_and]
theorem eqC_un (a b : Nd) (h1 : a.kind = b.kind) (h2 : a.text = b.text) (h3 : a.num = b.num) : eqC a.un b.un = eqC (a.l.map Nd.un) (b.l.map Nd.un) := by
  by_cases h : a.l.map Nd.un = b.l.map Nd.un
  · rw [eqC_yes h, eqC_yes ((un_iff a b).2 ⟨h1, h2, h3, h⟩)]
  · rw [eqC_no h, eqC_no (fun e => h ((un_iff a b).1 e).2.2.2)]
set_option maxRecDepth 1000000 in
set_option maxHeartbeats 4000000 in
theorem same14_step {B d : Nat} (H : SameH14 B d) : SameH14 B (d + 1) := by
  intro a b u v w hB ha hb
  obtain ⟨u1, hu1, hl⟩ := ha
  obtain ⟨u2, hu2, hm⟩ := hb
  simp only [List.cons.injEq, and_true, true_and] at hu1 hu2
  subst hu1 hu2
  obtain ⟨A1, c1, xs1, e1, -⟩ := hl.open_
  obtain ⟨A2, c2, xs2, e2, -⟩ := hm.open_
  have HM := Lib.hid (fun wx (hx : Below w.heap.size w wx) => same_list B d a.l b.l u v wx (Nat.le_trans hB hx.size) (hl.low (Lo.below hx hB) fun a cs h => NRd.low (Lo.below hx hB) h) (hm.low (Lo.below hx hB) fun a cs h => NRd.low (Lo.below hx hB) h) (fun k x y _ _ u v wr hw h1 h2 => H x y u v wr (Nat.le_trans hB (Nat.le_trans hx.size hw.size)) h1 h2))
  have HU := Lib.hid (eqC_un a b)
  have HI := Lib.hid (fun e => (un_iff a b).1 e)
  obtain ⟨l1, hl1⟩ : ∃ n, a.l.length = n := ⟨_, rfl⟩
  obtain ⟨l2, hl2⟩ : ∃ n, b.l.length = n := ⟨_, rfl⟩
  rw [hl1] at e1
  rw [hl2] at e2
  obtain ⟨R, hR⟩ : ∃ r, eqC a.un b.un = r := ⟨_, rfl⟩
  have HR := Lib.hid hR
  rw [hR]
  obtain ⟨r, hr⟩ : ∃ r, eqC (a.l.map Nd.un) (b.l.map Nd.un) = r := ⟨_, rfl⟩
  rw [hr] at HM
  have HRR := Lib.hid hr
  subst e1 e2
  have KK : Hid (a.kind = b.kind → a.text = b.text → a.num = b.num → R = r) := Lib.hid (fun h1 h2 h3 => by rw [← HR.out, ← HRR.out]; exact HU.out h1 h2 h3)
  have K1 : Hid (¬ a.kind = b.kind → R = false) := Lib.hid (fun h => by rw [← HR.out]; exact eqC_no fun e => h (HI.out e).1)
  have K2 : Hid (¬ a.text = b.text → R = false) := Lib.hid (fun h => by rw [← HR.out]; exact eqC_no fun e => h (HI.out e).2.1)
  have K3 : Hid (¬ a.num = b.num → R = false) := Lib.hid (fun h => by rw [← HR.out]; exact eqC_no fun e => h (HI.out e).2.2.1)
  clear HR HRR HU HI hl hm H hl1 hl2 hr hR
  generalize a.kind = ka at *
  generalize b.kind = kb at *
  generalize a.text = ta at *
  generalize b.text = tb at *
  generalize a.num = na at *
  generalize b.num = nb at *
  generalize a.at_ = aa at *
  generalize b.at_ = ab at *
  have hBa := below_new w (.cells #[.int .i64 ka, .string (tx ta), .int .i64 na, .int .i64 aa, .slice A1 l1 c1] 24)
  have LBD : Below w.heap.size w ((w.alloc (.cells #[.int .i64 ka, .string (tx ta), .int .i64 na, .int .i64 aa, .slice A1 l1 c1] 24)).alloc (.cells #[.int .i64 kb, .string (tx tb), .int .i64 nb, .int .i64 ab, .slice A2 l2 c2] 24)) := below_then (below_new _ _) (below_new _ _)
  obtain ⟨X1, X2, -⟩ := two_boxes w (.cells #[.int .i64 ka, .string (tx ta), .int .i64 na, .int .i64 aa, .slice A1 l1 c1] 24) (.cells #[.int .i64 kb, .string (tx tb), .int .i64 nb, .int .i64 ab, .slice A2 l2 c2] 24)
  clear hBa
  by_cases hn : ka = kb
  · subst hn
    by_cases hs : ta = tb
    · subst hs
      by_cases hx : na = nb
      · subst hx
        have hRr := Lib.hid (KK.out rfl rfl rfl)
        clear KK K1 K2 K3
        go_enter Tryd.func18, Tryd.ntmps18
        go_wp2_with (go_at_call 30; refine (HM.out _ LBD).mono ?_; rintro e wK ⟨rfl, hbK⟩)
        all_goals
          go_ret
          exact ⟨by rw [hRr.out]; simp, below_then LBD hbK⟩
      · have hRr := Lib.hid (K3.out hx)
        have h3 : (na == nb) = false := by simp [hx]
        clear KK K1 K2 K3 hx
        go_enter Tryd.func18, Tryd.ntmps18
        go_wp2
        go_ret
        exact ⟨by rw [hRr.out]; simp, LBD⟩
    · have h : ((tx ta).toList == (tx tb).toList) = false := by
        rw [beq_eq_false_iff_ne, ByteArray.toList_eq, ByteArray.toList_eq, tx_list, tx_list]
        exact hs
      have hRr := Lib.hid (K2.out hs)
      clear KK K1 K2 K3 hs
      go_enter Tryd.func18, Tryd.ntmps18
      go_wp2
      go_ret
      exact ⟨by rw [hRr.out]; simp, LBD⟩
  · have hRr := Lib.hid (K1.out hn)
    have h3 : (ka == kb) = false := by simp [hn]
    clear KK K1 K2 K3 hn
    go_enter Tryd.func18, Tryd.ntmps18
    go_wp2
    go_ret
    exact ⟨by rw [hRr.out]; simp, LBD⟩
theorem same14_any (B : Nat) : ∀ d, SameH14 B d
  | 0 => fun _ _ _ _ _ _ h => h.elim
  | d + 1 => same14_step (same14_any B d)
end Go.Proofs.YtceomdbahiimlaaDoor.T14
