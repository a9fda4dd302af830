/-
  The document's own copies of messages, slots and values: Own, Slot, Each.
-/
import Derived.Test.YtjmcpfckcajnjaaTrAp
import Derived.Deep.RegionLaw
import Derived.Deep.RegionHeldLaw
namespace Go.Proofs.Ytjmcpfckcajnjaa.T9
set_option maxRecDepth 100000

open Go.RowKit

/-! ### A list of one's own that grows -/
abbrev EC (α : Type) := RP → α → List Value → Prop
def Mono {α : Type} (C : EC α) : Prop := ∀ {R R' : RP}, (∀ e size v n xs, R e size v n xs → R' e size v n xs) → ∀ a cs, C R a cs → C R' a cs
theorem mono_m (d : Nat) : Mono fun R => MAt R d := fun h a cs => MAt.imp h d a cs
theorem mono_v (d : Nat) : Mono fun R => VAt R d := fun h a cs => vAt.imp h (fun m cs => MAt.imp h d m cs) a cs
theorem mono_s (d : Nat) : Mono fun R => SAt' R d := fun h a cs => sAt.imp h (fun m cs => MAt.imp h d m cs) a cs
/-- The slice v is a row of one's own, of the list l, and no row below it is this one. -/
structure Grow {α : Type} (C : EC α) (e : TypeId) (size b : Nat) (w : World) (v : Value) (l : List α) (xs : List Value) : Prop where
  own : w.ownsRow b e size v l.length xs
  rows : Rows (C (Ap b v.ownBlock w)) l xs
section

variable {α : Type} {C : EC α} {e : TypeId} {size b : Nat} {w w' : World} {v : Value} {l : List α} {xs : List Value}

theorem Grow.nil (C : EC α) (e : TypeId) (size b : Nat) (w : World) : Grow C e size b w (.slice none 0 0) [] [] := ⟨World.ownsRow_nil _ _ _ _, rfl⟩
theorem Grow.on (hC : Mono C) (h : Grow C e size b w v l xs) (hb : Below w.heap.size w w') : Grow C e size b w' v l xs :=
  ⟨own_hi h.own (hi_below b hb), h.rows.imp (hC (Ap.on hb))⟩
theorem Grow.box (hC : Mono C) (h : Grow C e size b w v l xs) {g : Nat} (hg : w.grownBy w' (some g)) (hgb : g < b) : Grow C e size b w' v l xs :=
  ⟨own_hi h.own (hi_grown hg hgb), h.rows.imp (hC (Ap.box hg hgb))⟩
theorem Grow.less (hC : Mono C) (h : Grow C e size b w v l xs) {b' : Nat} (hb : b' ≤ b) : Grow C e size b' w v l xs :=
  ⟨own_less h.own hb, h.rows.imp (hC fun e size v n xs h => ⟨own_less h.1 hb, h.2⟩)⟩
theorem Grow.lt (h : Grow C e size b w v l xs) (k : Nat) (hk : v.ownBlock = some k) : k < w.heap.size := (own_blk h.own k hk).2
theorem Grow.ge (h : Grow C e size b w v l xs) (k : Nat) (hk : v.ownBlock = some k) : b ≤ k := (own_blk h.own k hk).1
/-- Behind an append of an element whose own rows are newer than all. -/
theorem Grow.app (hC : Mono C) (h : Grow C e size b w v l xs) {a : α} {cs : List Value} {b' : Nat} (hbb : b ≤ b') (hv : ∀ k, v.ownBlock = some k → k < b') (ha : C (Ow b' w) a cs) {g cap : Nat}
    (hrow : w'.ownsRow b e size (.slice (some ⟨g, 0, none⟩) (l.length + 1) cap) (l.length + 1) (xs ++ cs)) (hg : w.grownBy w' v.ownBlock) (hat : v.ownBlock = some g ∨ w.heap.size ≤ g) : Grow C e size b w' (.slice (some ⟨g, 0, none⟩) (l.length + 1) cap) (l ++ [a]) (xs ++ cs) :=
  ⟨by rw [List.length_append]; exact hrow, (h.rows.imp (hC (Ap.grown hg hat))).append (Rows.single (hC (Ap.grown hg hat) _ _ (hC (Ap.of hbb hv) _ _ ha)))⟩
theorem Grow.ow (hC : Mono C) (h : Grow C e size b w v l xs) (hl : l.length ≤ 10000000000000) : LsAt (Ow b w) e size (C (Ow b w)) l v := ⟨xs, ⟨h.own, hl⟩, h.rows.imp (hC Ap.ow)⟩
end

theorem sAt.oneA {b : Nat} {r : Option Nat} {w : World} {G : Mg → List Value → Prop} (v : So) (cs : List Value) (h : sAt (Ow b w) G v cs) : ∀ u ∈ cs, u.oneCell' = true := sAt.oneO v cs h
theorem one_msg_ow {b : Nat} {w : World} {d : Nat} {m : Mg} {x : Value} (h : MAt (Ow b w) d m [x]) : ∀ u ∈ [x], u.oneCell' = true := MAt.oneO m [x] h

/-- truffleref09.Own, of messages within so many levels. -/
def ROwnH (B d : Nat) : Prop := ∀ (m : Mg) (u : Value) (w : World), B ≤ w.heap.size → MRd B w d m u → m.cnt ≤ 1000000000 → ∀ b, b ≤ w.heap.size → Calls Try.prog 7 #[.agg #[u]] w fun e w' => ∃ x1, e = .returned (.agg #[x1]) ∧ MAt (Ow b w') d m [x1] ∧ Below w.heap.size w w'
theorem cell3 {w : World} {g : Nat} {a b c : Value} {t : TypeId} (h : w.heap[g]? = some (.cells #[a, b, c] t (0, 0))) (x : Value) :
    (w.setCell ⟨g, 2, none⟩ x).heap[g]? = some (.cells #[a, b, x] t (0, 0)) ∧ w.grownBy (w.setCell ⟨g, 2, none⟩ x) (some g) :=
  ⟨heap_setCell_same w g 2 #[a, b, c] t x h, rfl, rfl, rfl, by simp, fun k _ hk => heap_setCell_other _ ⟨g, 2, none⟩ k _ (fun e => hk (by simp [e]))⟩
theorem box_far {w w' : World} {g : Nat} {t : TypeId} {cs : Array Value} {fr : Nat × Nat} {v : Value} {b e size n : Nat} {xs : List Value} (X : w.heap[g]? = some (.cells cs t fr)) (hg : w.grownBy w' v.ownBlock) (hown : w.ownsRow b e size v n xs) (hlt : g < b) : w'.heap[g]? = some (.cells cs t fr) :=
  (hg.block g (box_lt X) fun e => by have := (own_blk hown g e.symm).1; omega).trans X
theorem below_row {w w' : World} {v : Value} {b e size n B : Nat} {xs : List Value} (hg : w.grownBy w' v.ownBlock) (hown : w.ownsRow b e size v n xs) (hB : B ≤ b) (hs : B ≤ w.heap.size) : Below B w w' :=
  ⟨hg.os, hg.tape, hg.output, hg.size, fun k hk => hg.block k (by omega) fun e => by have := (own_blk hown k e.symm).1; omega⟩
theorem take_snoc {α : Type} {l : List α} {k : Nat} {a : α} (h : l[k]? = some a) : l.take k ++ [a] = l.take (k + 1) := by rw [List.take_add_one, h]; rfl
set_option maxRecDepth 1000000 in
set_option maxHeartbeats 8000000 in
theorem each_any {B d : Nat} (H : ROwnH B d) (l : List Vl') (u : Value) (w : World) (hB : B ≤ w.heap.size) (hl : LsAt (Rd B w) 30 3 (VAt (Rd B w) d) l u) (hsm : ∀ x ∈ l, cV x ≤ 1000000000) (hln : l.length ≤ 1000000000) (b : Nat) (hb : b ≤ w.heap.size) :
    Calls Try.prog 41 #[u] w fun e w' => ∃ q, e = .returned q ∧ LsAt (Ow b w') 30 3 (VAt (Ow b w') d) l q ∧ Below w.heap.size w w' := by
  obtain ⟨A, c, xs, rfl, hs, hbl, hr, hn⟩ := hl.open_
  obtain ⟨i0, hi, hz0, hz1, hz2⟩ := info_parts info_val
  obtain ⟨j0, hj, hy0, hy1, hy2⟩ := info_parts info_msg
  have HS := Lib.hid hs
  have HR := Lib.hid hr
  have HBB := Lib.hid hbl
  have HH := Lib.hid H
  have HSM := Lib.hid hsm
  clear hs hr hl hbl H hsm
  go_enter Try.func41, Try.ntmps41
  go_wp2
  go_loopw [3, 4, 5, 6] (fun o i _ _ wr => ∃ (k : Nat) (xs : List Value), i = .int .i64 k ∧ k ≤ l.length ∧ Grow (fun R => VAt R d) 30 3 w.heap.size wr o (l.take k) xs ∧ Below w.heap.size w wr) (fun _ i _ _ _ => l.length - (intOf i).toNat)
  case atStart => exact ⟨0, [], rfl, by omega, Grow.nil _ _ _ _ _, Below.refl _ _⟩
  case round =>
    obtain ⟨k, ys, rfl, hk, hgr, hbw⟩ := hrel
    by_cases hlt : k < l.length
    · obtain ⟨a, ha⟩ : ∃ a, l[k]? = some a := ⟨_, List.getElem?_eq_getElem hlt⟩
      obtain ⟨ad, x, y, z, rfl, hga, hcc, c0, c1, c2⟩ := row3 vAt.len (sl_low HS.out HBB.out (Lo.below hbw hB)) (HR.out.imp fun a cs h => VRd.low (Lo.below hbw hB) h) ha
      obtain ⟨um, hu, hlm⟩ := hcc
      simp only [List.cons.injEq, and_true] at hu
      obtain ⟨rfl, rfl, rfl⟩ := hu
      obtain ⟨AM, cM, xsM, rfl, hsM, hbM, hrM, hnM⟩ := hlm.open_
      have hml := cV_M a
      have hcv := HSM.out a (List.mem_of_getElem? ha)
      have hsM0 := Lib.hid hsM
      have HRMM := Lib.hid hrM
      have hbM0 := Lib.hid hbM
      have HA := Lib.hid ha
      have HG := Lib.hid hgr
      have HBW := Lib.hid hbw
      clear ha hgr hsM hrM hbM hlm hbw
      go_wp2
      have hS : wr.cell? (ad.add (k * 3)) = some (.int .i64 a.n) ∧ wr.cell? ⟨(ad.add (k * 3)).block, (ad.add (k * 3)).off + 1, none⟩ = some (.string (tx a.s)) := ⟨c0, c1⟩
      go_region_held3 (fun w' => w'.cell? (ad.add (k * 3)) = some (.int .i64 a.n) ∧ w'.cell? ⟨(ad.add (k * 3)).block, (ad.add (k * 3)).off + 1, none⟩ = some (.string (tx a.s)))
        (first | exact hS | exact ⟨cell_on (below_new wr _) hS.1, cell_on (below_new wr _) hS.2⟩ | go_keep)
        (fail)
      obtain ⟨w5, hw5⟩ : ∃ x, x = wr := ⟨_, rfl⟩
      subst hw5
      obtain ⟨G, hG⟩ : ∃ G, G = w5.heap.size := ⟨_, rfl⟩
      have X1 : (w5.alloc (.cells #[.int .i64 a.n, .string (tx a.s), .slice none 0 0] 30)).drew.heap[G]? = some (.cells #[.int .i64 a.n, .string (tx a.s), .slice none 0 0] 30 (0, 0)) := by rw [hG]; exact heap_alloc_new w5 _
      have LBD : Below G w5 (w5.alloc (.cells #[.int .i64 a.n, .string (tx a.s), .slice none 0 0] 30)).drew := by rw [hG]; exact (below_new w5 _).trans (Below.refl _ _).drew
      have hsz : (w5.alloc (.cells #[.int .i64 a.n, .string (tx a.s), .slice none 0 0] 30)).drew.heap.size = G + 1 := by rw [hG]; show (w5.alloc _).heap.size = _; simp
      rw [← hG]
      obtain ⟨W0, hW0⟩ : ∃ W, W = (w5.alloc (.cells #[.int .i64 a.n, .string (tx a.s), .slice none 0 0] 30)).drew := ⟨_, rfl⟩
      rw [← hW0] at X1 LBD hsz ⊢
      have C2 := Lib.hid c2
      have HAD := Lib.hid (show (ad.add (k * 3)).block < G by rw [hG, show (ad.add (k * 3)).block = ad.block from add_same_block _ _]; exact hga)
      have HSM2 := Lib.hid (fun wx (hx : Below G w5 wx) => sl_low hsM0.out hbM0.out (Lo.of (hx.mono (by rw [hG]; exact Nat.le_trans hB HBW.out.size))))
      have HGE := Lib.hid hG
      clear hS hW0 c0 c1 c2 hG
      go_wp2
      go_loopw [6] (fun j wx => ∃ (q : Nat) (v : Value) (zs : List Value), j = .int .i64 q ∧ q ≤ a.M.length ∧ wx.heap[G]? = some (.cells #[.int .i64 a.n, .string (tx a.s), v] 30 (0, 0)) ∧ Grow (fun R => MAt R d) 24 1 (G + 1) wx v (a.M.take q) zs ∧ Below G w5 wx ∧ G + 1 ≤ wx.heap.size) (fun j _ => a.M.length - (intOf j).toNat)
      case atStart => exact ⟨0, _, [], rfl, by omega, X1, Grow.nil _ _ _ _ _, LBD, by omega⟩
      case round =>
        obtain ⟨q, v, zs, rfl, hq, hX, hgx, hbx, hsx⟩ := hrel
        have k2 : wr.cell? ⟨(ad.add (k * 3)).block, (ad.add (k * 3)).off + 2, none⟩ = some (.slice AM a.M.length cM) := (hbx.cell (p := ⟨(ad.add (k * 3)).block, (ad.add (k * 3)).off + 2, none⟩) HAD.out).trans C2.out
        have HGX := Lib.hid hgx
        have HBX := Lib.hid hbx
        have HX := Lib.hid hX
        have hBw : B ≤ wr.heap.size := by have := HBW.out.size; have := hbx.size; omega
        clear hgx hbx
        by_cases hql : q < a.M.length
        · obtain ⟨x, hx⟩ : ∃ x, a.M[q]? = some x := ⟨_, List.getElem?_eq_getElem hql⟩
          have hlo : Lo B w5 wr := Lo.of (HBX.out.mono (by rw [HGE.out]; exact Nat.le_trans hB HBW.out.size))
          obtain ⟨am, ux, rfl, hgam, hcx, k0⟩ := row1 MAt.len (sl_low hsM0.out hbM0.out hlo) (HRMM.out.imp fun a cs h => MRd.low hlo h) hx
          have hcnt := cnt_le (List.mem_of_getElem? hx)
          have hD : Below wr.heap.size wr wr.drew := (Below.refl _ _).drew
          have HCX := Lib.hid (HH.out x ux wr.drew hBw (MRd.low (Lo.below hD hBw) hcx) (by omega) wr.heap.size (Nat.le_refl _))
          have HXX := Lib.hid hx
          have g2 := (bx3 hX).2.2
          have hlq : (a.M.take q).length = q := by rw [List.length_take]; omega
          clear hcx hx hlo hX
          go_wp2_with fail
          go_region_law
            (first
              | (refine step_append_lies _ rfl _ _ 28 rfl (G + 1) 24 j0 _ 1 24 Try.underlying28 hj hy0 hy1 hy2 rfl (by decide) v (a.M.take q).length zs (by simp [Act.eval, Act.put]) HG8.out.own ⟨w7.heap.size, 0, none⟩ 1 1 [x1] (by simp [Act.eval, Act.put]) rfl (World.news_of_block (heap_alloc_new _ _)) (one_msg_ow ho7) (by decide) (by unfold maxLen; omega) (by omega) (by simp; omega) w7.heap.size.succ (by simp) ?_; intro g8 cap8 w8 hown8 hg8 hat8 hlt8; have hX8 := Lib.hid (box_far (box_on HX7.out (below_new w7 (.cells #[x1] 24))) hg8 HG8.out.own (Nat.lt_succ_self G)); have f8 : w8.frozen? ⟨G, 2, none⟩ = false := (by simp [World.frozen?, hX8.out]); have c8 := (bx3 hX8.out).2.2)
              | (go_simp; refine HCX.out.mono ?_; rintro e w7 ⟨x1, rfl, ho7, hb7⟩; have hb7d := Lib.hid (hD.trans hb7); have HX7 := Lib.hid (box_on HX.out hb7d.out); have c7 := (bx3 HX7.out).2.2; have HG8 := Lib.hid ((HGX.out.on (mono_m d) hb7d.out).on (mono_m d) (below_new w7 (.cells #[x1] 24))); have hs7 : wr.heap.size ≤ w7.heap.size := hb7d.out.size; have hgl : G < w7.heap.size := Nat.lt_of_lt_of_le hsx hs7)
              | fail)
          all_goals
            obtain ⟨Z1, Z2⟩ := cell3 hX8.out (.slice (some ⟨g8, 0, none⟩) ((a.M.take q).length + 1) cap8)
            have hnew := (Grow.app (mono_m d) HG8.out (a := x) (b' := wr.heap.size) (by omega) (fun k hk => HGX.out.lt k hk) (MAt.imp (Ow.hi (hi_below _ (below_new w7 (.cells #[x1] 24)))) d _ _ ho7) hown8 hg8 (hat8.imp id fun h => by rw [h]; simp)).box (mono_m d) Z2 (Nat.lt_succ_self G)
            rw [take_snoc HXX.out] at hnew
            rw [hlq] at hnew Z1 Z2
            have hbz : Below G wr _ := ((hb7d.out.mono (by omega)).trans ((below_new w7 (.cells #[x1] 24)).mono (by omega))).trans ((below_row hg8 HG8.out.own (Nat.le_succ G) (by simp; omega)).trans (below_own Z2 (Nat.le_refl _) (by have := hg8.size; simp at this; omega)))
            try rw [hlq]
            go_wp2
            refine ⟨⟨q + 1, _, _, by go_num, by omega, Z1, hnew, HBX.out.trans hbz, by have := hbz.size; omega⟩, by simp [intOf]; omega⟩
        · obtain rfl : q = a.M.length := by omega
          obtain ⟨g0, g1, g2⟩ := bx3 hX
          have hlk : (l.take k).length = k := by rw [List.length_take]; omega
          have hw5 : Below w5.heap.size w5 wr := HGE.out ▸ HBX.out
          have HO := Lib.hid ((HG.out.on (mono_v d) hw5).on (mono_v d) (below_new wr (.cells #[.int .i64 a.n, .string (tx a.s), v] 30)))
          have hgx2 := HGX.out
          rw [List.take_length] at hgx2
          have HM := Lib.hid ((hgx2.on (mono_m d) (below_new wr (.cells #[.int .i64 a.n, .string (tx a.s), v] 30))).ow (mono_m d) hnM)
          have hwr : w.heap.size ≤ wr.heap.size := Nat.le_trans HBW.out.size hw5.size
          have h1c : ∀ u ∈ [Value.int .i64 a.n, .string (tx a.s), v], u.oneCell' = true := vAt.oneO a _ ⟨v, rfl, HM.out⟩
          have HV := Lib.hid (fun k hk => HG.out.lt k hk)
          have HBO := Lib.hid (below_then (HBW.out.trans (hw5.mono HBW.out.size)) (below_new wr (.cells #[.int .i64 a.n, .string (tx a.s), v] 30)))
          have HW5 := Lib.hid hw5
          clear hgx2 hX hw5 HGX
          go_wp2_with (at_builtin; refine wpList_append_lies _ rfl _ _ 25 rfl w.heap.size 30 i0 _ 3 48 Try.underlying25 hi hz0 hz1 hz2 rfl (by decide) _ (l.take k).length _ rfl HO.out.own ⟨wr.heap.size, 0, none⟩ 1 1 [.int .i64 a.n, .string (tx a.s), v] rfl rfl (World.news_of_block (heap_alloc_new _ _)) h1c (by decide) (by unfold maxLen; omega) (by omega) (by simp; omega) wr.heap.size.succ (by simp) ?_; intro g8 cap8 w8 hown8 hg8 hat8 hlt8)
          have hnew := Grow.app (mono_v d) HO.out (a := a) (b' := G + 1) (show w.heap.size ≤ G + 1 by rw [HGE.out]; exact Nat.le_succ_of_le HBW.out.size) (fun k hk => by have := HV.out k hk; rw [HGE.out]; omega) ⟨v, rfl, HM.out⟩ hown8 hg8 (hat8.imp id fun h => by rw [h]; simp)
          rw [take_snoc HA.out, hlk] at hnew
          exact ⟨⟨k + 1, _, by go_num, by omega, hnew, HBO.out.trans (below_row hg8 HO.out.own (Nat.le_refl _) HBO.out.size)⟩, by simp [intOf]; omega⟩
    · obtain rfl : k = l.length := by omega
      go_wp2
      go_ret
      have hq := hgr
      rw [List.take_length] at hq
      have hq2 := hq.ow (mono_v d) (by omega)
      exact ⟨_, rfl, hq2.imp (Ow.less hb) (fun a cs h => mono_v d (Ow.less hb) a cs h), hbw⟩
theorem rslot_end {w wl : World} {d b : Nat} {s : So} {q1 q2 : Value} {t : TypeId} {u0 u1 u2 : Value} (hb : b ≤ w.heap.size) (X : wl.heap[w.heap.size + 1]? = some (.cells #[u0, u1, u2] t (0, 0)))
    (hk : LsAt (Ow (w.heap.size + 2) wl) 30 3 (VAt (Ow (w.heap.size + 2) wl) d) s.K q1) (hv : LsAt (Ow (w.heap.size + 2) wl) 30 3 (VAt (Ow (w.heap.size + 2) wl) d) s.V q2) (hB : Below w.heap.size w wl) :
    ∃ w4, (((wl.setCell ⟨w.heap.size + 1, 0, none⟩ (.int .i64 s.no)).setCell ⟨w.heap.size + 1, 1, none⟩ q1).setCell ⟨w.heap.size + 1, 2, none⟩ q2) = w4 ∧ w4.heap[w.heap.size + 1]? = some (.cells #[.int .i64 s.no, q1, q2] t (0, 0)) ∧
      SAt' (Ow b w4) d s [.int .i64 s.no, q1, q2] ∧ Below w.heap.size w w4 := ownSlot_end hb X hk hv hB
set_option maxRecDepth 1000000 in
set_option maxHeartbeats 4000000 in
theorem rslot_any {B d : Nat} (H : ROwnH B d) (s : So) (u1 u2 : Value) (w : World) (hB : B ≤ w.heap.size) (hs : SAt' (Rd B w) d s [.int .i64 s.no, u1, u2]) (hsm : cS s ≤ 1000000000) (b : Nat) (hb : b ≤ w.heap.size) :
    Calls Try.prog 22 #[.agg #[.int .i64 s.no, u1, u2]] w fun e w' => ∃ x1 x2 x3, e = .returned (.agg #[x1, x2, x3]) ∧ SAt' (Ow b w') d s [x1, x2, x3] ∧ Below w.heap.size w w' := by
  obtain ⟨u1', u2', hu, hk, hv⟩ := hs
  simp only [List.cons.injEq, and_true, true_and] at hu
  obtain ⟨rfl, rfl⟩ := hu
  obtain ⟨X1, X2, LBD⟩ := two_boxesD w (.cells #[.int .i64 s.no, u1, u2] 27) (.cells #[.int .i64 0, .slice none 0 0, .slice none 0 0] 27)
  have LSZ := two_size w (.cells #[.int .i64 s.no, u1, u2] 27) (.cells #[.int .i64 0, .slice none 0 0, .slice none 0 0] 27)
  have hln := cS_len (s := s)
  have HK := Lib.hid (fun wx (hx : Below w.heap.size w wx) (hz : w.heap.size + 2 ≤ wx.heap.size) => each_any H s.K u1 wx (Nat.le_trans hB hx.size) (hk.low (Lo.below hx hB) fun a cs h => VRd.low (Lo.below hx hB) h) (fun x hx => by have := cV_le (s := s) (.inl hx); omega) (by omega) (w.heap.size + 2) hz)
  have HV := Lib.hid (fun wx (hx : Below w.heap.size w wx) (hz : w.heap.size + 2 ≤ wx.heap.size) => each_any H s.V u2 wx (Nat.le_trans hB hx.size) (hv.low (Lo.below hx hB) fun a cs h => VRd.low (Lo.below hx hB) h) (fun x hx => by have := cV_le (s := s) (.inr hx); omega) (by omega) (w.heap.size + 2) hz)
  clear hk hv H hsm hln
  go_enter Try.func22, Try.ntmps22
  go_wp2_with fail
  have hS := bx3 X1
  go_region_held3 (fun w' => w'.cell? ⟨w.heap.size, 0, none⟩ = some (.int .i64 s.no) ∧ w'.cell? ⟨w.heap.size, 1, none⟩ = some u1 ∧ w'.cell? ⟨w.heap.size, 2, none⟩ = some u2)
    (first | exact hS | exact bx3 (box_on (box_on X1 hbK) hbV) | exact bx3 (box_on (box_on X1 hbV) hbK) | exact bx3 (box_on X1 hbK) | exact bx3 (box_on X1 hbV) | go_keep)
    ((first
      | (go_at_call 41; (with_reducible refine (HK.out _ (by first | exact LBD | exact LBD.trans (hbV.mono LBD.size)) (by first | exact LSZ | exact Nat.le_trans LSZ hbV.size)).mono ?_); rintro e wK ⟨qK, rfl, hoK, hbK⟩; obtain ⟨zK, ⟨hownK, hzK⟩, hrK⟩ := id hoK; obtain ⟨AK, cK, rfl, -⟩ := Sl.of_own hownK; clear hownK hzK hrK; have X3 : wK.heap[w.heap.size + 1]? = some (.cells #[.int .i64 0, .slice none 0 0, .slice none 0 0] 27 (0, 0)) := (by first | exact box_on X2 hbK | exact box_on (box_on X2 hbV) hbK); obtain ⟨⟨y0, y1, y2⟩, y3, y4, y5⟩ := wr3 X3)
      | (go_at_call 41; (with_reducible refine (HV.out _ (by first | exact LBD | exact LBD.trans (hbK.mono LBD.size)) (by first | exact LSZ | exact Nat.le_trans LSZ hbK.size)).mono ?_); rintro e wV ⟨qV, rfl, hoV, hbV⟩; obtain ⟨zV', ⟨hownV, hzV⟩, hrV⟩ := id hoV; obtain ⟨AV, cV', rfl, -⟩ := Sl.of_own hownV; clear hownV hzV hrV; have X3 : wV.heap[w.heap.size + 1]? = some (.cells #[.int .i64 0, .slice none 0 0, .slice none 0 0] 27 (0, 0)) := (by first | exact box_on X2 hbV | exact box_on (box_on X2 hbK) hbV); obtain ⟨⟨y0, y1, y2⟩, y3, y4, y5⟩ := wr3 X3)))
  all_goals
    obtain ⟨w4, hw4, Z1, hat, hb4⟩ : ∃ w4, _ = w4 ∧ _ := by
      first
        | exact ownSlot_end hb (box_on (box_on X2 hbK) hbV) (vals_on hbV hoK) hoV (below_then (below_then LBD hbK) hbV)
        | exact ownSlot_end hb (box_on (box_on X2 hbV) hbK) hoK (vals_on hbK hoV) (below_then (below_then LBD hbV) hbK)
    rw [hw4]
    clear hw4
    go_wp2
    refine bodyPost_ret (results_cell_row rfl _ _ (w.heap.size + 1) _ _ (0, 0) _ rfl Z1 Try.underlying27 rfl sz_slot) rfl ?_
    exact ⟨_, _, _, rfl, hat, hb4⟩
theorem cell1 {w : World} {g : Nat} {a : Value} {t : TypeId} (h : w.heap[g]? = some (.cells #[a] t (0, 0))) (x : Value) :
    (w.setCell ⟨g, 0, none⟩ x).heap[g]? = some (.cells #[x] t (0, 0)) ∧ w.grownBy (w.setCell ⟨g, 0, none⟩ x) (some g) :=
  ⟨heap_setCell_same w g 0 #[a] t x h, rfl, rfl, rfl, by simp, fun k _ hk => heap_setCell_other _ ⟨g, 0, none⟩ k _ (fun e => hk (by simp [e]))⟩
set_option maxRecDepth 1000000 in
set_option maxHeartbeats 8000000 in
theorem rown_grow {B d : Nat} (H : ROwnH B d) (m : Mg) (u : Value) (w : World) (hB : B ≤ w.heap.size) (hm : MRd B w (d + 1) m u) (hsm : m.cnt ≤ 1000000000) (b : Nat) (hb : b ≤ w.heap.size) :
    Calls Try.prog 7 #[.agg #[u]] w fun e w' => ∃ x1 zs, e = .returned (.agg #[x1]) ∧ Grow (fun R => SAt' R d) 27 3 b w' x1 m.F zs ∧ m.F.length ≤ 10000000000000 ∧ Below w.heap.size w w' := by
  obtain ⟨u', hu, hl⟩ := hm
  simp only [List.cons.injEq, and_true] at hu
  subst hu
  obtain ⟨A, c, xs, rfl, hs, hbl, hr, hn⟩ := hl.open_
  obtain ⟨i0, hi, hz0, hz1, hz2⟩ := info_parts info_slot
  have hcf := cnt_F m
  obtain ⟨T1, T2, T3, L3⟩ := three_boxes w (.cells #[.slice A m.F.length c] 24) (.cells #[.slice none 0 0] 24) (.cells #[.slice none 0 0] 24)
  have hsz3 : (((w.alloc (.cells #[.slice A m.F.length c] 24)).alloc (.cells #[.slice none 0 0] 24)).alloc (.cells #[.slice none 0 0] 24)).heap.size = w.heap.size + 3 := by simp
  have HS := Lib.hid hs
  have HR := Lib.hid hr
  have HBB := Lib.hid hbl
  have HH := Lib.hid H
  clear hs hr hl hbl H
  go_enter Try.func7, Try.ntmps7
  go_wp2
  obtain ⟨W0, hW0⟩ : ∃ W, W = (((w.alloc (.cells #[.slice A m.F.length c] 24)).alloc (.cells #[.slice none 0 0] 24)).alloc (.cells #[.slice none 0 0] 24)) := ⟨_, rfl⟩
  rw [← hW0] at T1 T2 T3 L3 hsz3
  (try rw [← hW0])
  clear hW0
  go_loopw [4] (fun i wr => ∃ (k : Nat) (v : Value) (zs : List Value), i = .int .i64 k ∧ k ≤ m.F.length ∧ wr.heap[w.heap.size + 2]? = some (.cells #[v] 24 (0, 0)) ∧ Grow (fun R => SAt' R d) 27 3 (w.heap.size + 3) wr v (m.F.take k) zs ∧ Below (w.heap.size + 2) W0 wr ∧ w.heap.size + 3 ≤ wr.heap.size) (fun i _ => m.F.length - (intOf i).toNat)
  case atStart => exact ⟨0, _, [], rfl, by omega, T3, Grow.nil _ _ _ _ _, Below.refl _ _, by omega⟩
  case round =>
    obtain ⟨k, v, zs, rfl, hk, hX, hgx, hbx, hsx⟩ := hrel
    have hm1 := (hbx.block _ (show w.heap.size < w.heap.size + 2 by omega)).trans T1
    have hm2 := (hbx.block _ (show w.heap.size + 1 < w.heap.size + 2 by omega)).trans T2
    have k0 := bx1 hm1
    have g0 := bx1 hX
    have HGX := Lib.hid hgx
    have HBX := Lib.hid hbx
    have HX := Lib.hid hX
    have hBw : B ≤ wr.heap.size := by omega
    have hlo : Lo B w wr := Lo.of ((L3.trans (hbx.mono (by omega))).mono hB)
    clear hgx hbx hX
    by_cases hlt : k < m.F.length
    · obtain ⟨a, ha⟩ : ∃ a, m.F[k]? = some a := ⟨_, List.getElem?_eq_getElem hlt⟩
      obtain ⟨ad, x, y, z, rfl, hga, hcc, c0, c1, c2⟩ := row3 sAt.len (sl_low HS.out HBB.out hlo) (HR.out.imp fun a cs h => SRd.low hlo h) ha
      obtain ⟨B1, d1, B2, d2, hx, hy, hz⟩ := slot_shape hcc
      subst hx hy hz
      have hcs := cS_le (List.mem_of_getElem? ha)
      have hD : Below wr.heap.size wr wr.drew := (Below.refl _ _).drew
      have HCX := Lib.hid (rslot_any HH.out a _ _ wr.drew hBw (SRd.low (Lo.below hD hBw) hcc) (by omega) wr.heap.size (Nat.le_refl _))
      have HA := Lib.hid ha
      have hlq : (m.F.take k).length = k := by rw [List.length_take]; omega
      clear hcc ha hlo hm1 hm2
      go_wp2_with fail
      go_region_law
        (first
          | (refine step_append_lies _ rfl _ _ 22 rfl (w.heap.size + 3) 27 i0 _ 3 56 Try.underlying22 hi hz0 hz1 hz2 rfl (by decide) v (m.F.take k).length zs (by simp [Act.eval, Act.put]) HG8.out.own ⟨w7.heap.size, 0, none⟩ 1 1 [x1, x2, x3] (by simp [Act.eval, Act.put]) rfl (World.news_of_block (heap_alloc_new _ _)) (sAt.oneO _ _ ho7) (by decide) (by unfold maxLen; omega) (by omega) (by simp; omega) w7.heap.size.succ (by simp) ?_; intro g8 cap8 w8 hown8 hg8 hat8 hlt8; have hX8 := Lib.hid (box_far (box_on HX7.out (below_new w7 (.cells #[x1, x2, x3] 27))) hg8 HG8.out.own (Nat.lt_succ_self (w.heap.size + 2))); have f8 : w8.frozen? ⟨w.heap.size + 2, 0, none⟩ = false := (by simp [World.frozen?, hX8.out]); have c8 := bx1 hX8.out)
          | (go_simp; refine HCX.out.mono ?_; rintro e w7 ⟨x1, x2, x3, rfl, ho7, hb7⟩; have hb7d := Lib.hid (hD.trans hb7); have HX7 := Lib.hid (box_on HX.out hb7d.out); have c7 := bx1 HX7.out; have HG8 := Lib.hid ((HGX.out.on (mono_s d) hb7d.out).on (mono_s d) (below_new w7 (.cells #[x1, x2, x3] 27))); have hs7 : wr.heap.size ≤ w7.heap.size := hb7d.out.size; have hgl : w.heap.size + 2 < w7.heap.size := Nat.lt_of_lt_of_le hsx hs7)
          | fail)
      all_goals
        obtain ⟨Z1, Z2⟩ := cell1 hX8.out (.slice (some ⟨g8, 0, none⟩) ((m.F.take k).length + 1) cap8)
        have hnew := (Grow.app (mono_s d) HG8.out (a := a) (b' := wr.heap.size) (by omega) (fun k hk => HGX.out.lt k hk) (mono_s d (Ow.hi (hi_below _ (below_new w7 (.cells #[x1, x2, x3] 27)))) _ _ ho7) hown8 hg8 (hat8.imp id fun h => by rw [h]; simp)).box (mono_s d) Z2 (Nat.lt_succ_self (w.heap.size + 2))
        rw [take_snoc HA.out] at hnew
        rw [hlq] at hnew Z1 Z2
        have hbz : Below (w.heap.size + 2) wr _ := ((hb7d.out.mono (by omega)).trans ((below_new w7 (.cells #[x1, x2, x3] 27)).mono (by omega))).trans ((below_row hg8 HG8.out.own (Nat.le_succ _) (by simp; omega)).trans (below_own Z2 (Nat.le_refl _) (by have := hg8.size; simp at this; omega)))
        try rw [hlq]
        go_wp2
        refine ⟨⟨k + 1, _, _, by go_num, by omega, Z1, hnew, HBX.out.trans hbz, by have h1 := hbz.size; have h2 := hg8.size; simp at h1 h2 ⊢; omega⟩, by simp [intOf]; omega⟩
    · obtain rfl : k = m.F.length := by omega
      have r0 := bx1 hm2
      have r1 : wr.frozen? ⟨w.heap.size + 1, 0, none⟩ = false := by simp [World.frozen?, hm2]
      have hgx2 := HGX.out
      rw [List.take_length] at hgx2
      obtain ⟨Av, cv, rfl, -⟩ := Sl.of_own hgx2.own
      go_wp2
      obtain ⟨Z1, Z2⟩ := cell1 hm2 (.slice Av m.F.length cv)
      refine bodyPost_ret (results_cell_row rfl _ _ (w.heap.size + 1) _ _ (0, 0) _ rfl Z1 Try.underlying24 rfl sz_msg) rfl ?_
      exact ⟨_, _, rfl, (hgx2.box (mono_s d) Z2 (show w.heap.size + 1 < w.heap.size + 3 by omega)).less (mono_s d) (by omega), hn, (L3.trans (HBX.out.mono (by omega))).trans (below_own Z2 (by omega) (by omega))⟩
theorem rown_step {B d : Nat} (H : ROwnH B d) : ROwnH B (d + 1) := by
  intro m u w hB hm hsm b hb
  refine (rown_grow H m u w hB hm hsm b hb).mono ?_
  rintro e w' ⟨x1, zs, rfl, h1, h2, h3⟩
  exact ⟨x1, rfl, ⟨_, rfl, h1.ow (mono_s d) h2⟩, h3⟩
/-- truffleref09.Own, of any message. -/
theorem rown_any (B : Nat) : ∀ d, ROwnH B d
  | 0 => fun _ _ _ _ h _ => h.elim
  | d + 1 => rown_step (rown_any B d)
end Go.Proofs.Ytjmcpfckcajnjaa.T9
