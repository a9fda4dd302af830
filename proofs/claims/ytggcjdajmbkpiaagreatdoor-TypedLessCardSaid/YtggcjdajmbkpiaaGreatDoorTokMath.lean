/-
  Rows of the call's own that are not one block: what an append onto that block's row keeps.
-/
import Derived.Test.YtggcjdajmbkpiaaGreatDoorTrLaw
import Derived.Deep.AppendLies
import Derived.Deep.RegionLaw
import Derived.Deep.RegionHeldLaw
import Derived.BigQuiet
import Derived.Test.YtggcjdajmbkpiaaGreatDoorProg
import Derived.Shelf.SlSortCmp.WholeK
import Derived.Shelf.SlSortCmp.NoneTotal
import Derived.Test.YtggcjdajmbkpiaaGreatDoorTrSize
namespace Go.Proofs.YtggcjdajmbkpiaaGreatDoor.T9
set_option maxRecDepth 100000

open Go.RowKit

/-- Rows of the call's own, none of them block r. -/
def Ap (b : Nat) (r : Option Nat) (w : World) : RP := fun e size v n xs => w.ownsRow b e size v n xs ∧ (∀ k, v.ownBlock = some k → r ≠ some k) ∧ n ≤ 10000000000000
theorem own_kept {w w' : World} {b : Nat} {e : TypeId} {size : Nat} {v : Value} {n : Nat} {xs : List Value} (h : w.ownsRow b e size v n xs) (hk : ∀ k, v.ownBlock = some k → k < w.heap.size → w'.heap[k]? = w.heap[k]?) : w'.ownsRow b e size v n xs := by
  rcases h with ⟨hl, ⟨rfl, rfl⟩ | ⟨g, cap, cur, rfl, h1, h2, h3⟩⟩
  · exact ⟨hl, .inl ⟨rfl, rfl⟩⟩
  · exact ⟨hl, .inr ⟨g, cap, cur, rfl, h1, (hk g rfl (box_lt h2)).trans h2, h3⟩⟩
theorem own_blk {w : World} {b : Nat} {e : TypeId} {size : Nat} {v : Value} {n : Nat} {xs : List Value} (h : w.ownsRow b e size v n xs) (k : Nat) (hk : v.ownBlock = some k) : b ≤ k ∧ k < w.heap.size := by
  rcases h with ⟨hl, ⟨rfl, rfl⟩ | ⟨g, cap, cur, rfl, h1, h2, h3⟩⟩
  · simp [Value.ownBlock] at hk
  · simp only [Value.ownBlock, Option.some.injEq] at hk
    subst hk
    exact ⟨h1, box_lt h2⟩
theorem Ap.ow {b : Nat} {r : Option Nat} {w : World} (e : TypeId) (size : Nat) (v : Value) (n : Nat) (xs : List Value) (h : Ap b r w e size v n xs) : Ow b w e size v n xs := ⟨h.1, h.2.2⟩
theorem Ap.of {b b' : Nat} {r : Option Nat} {w : World} (hb : b ≤ b') (hr : ∀ k, r = some k → k < b') (e : TypeId) (size : Nat) (v : Value) (n : Nat) (xs : List Value) (h : Ow b' w e size v n xs) : Ap b r w e size v n xs :=
  ⟨own_less h.1 hb, fun k hk e => by have := (own_blk h.1 k hk).1; have := hr k e; omega, h.2⟩
theorem Ap.on {b : Nat} {r : Option Nat} {w w' : World} (hb : Below w.heap.size w w') (e : TypeId) (size : Nat) (v : Value) (n : Nat) (xs : List Value) (h : Ap b r w e size v n xs) : Ap b r w' e size v n xs :=
  ⟨own_kept h.1 fun k _ hk => hb.block k hk, h.2⟩
/-- Behind an append onto the row in block r, which now lies in block g. -/
theorem Ap.grown {b g : Nat} {r : Option Nat} {w w' : World} (hg : w.grownBy w' r) (hn : r = some g ∨ w.heap.size ≤ g) (e : TypeId) (size : Nat) (v : Value) (n : Nat) (xs : List Value) (h : Ap b r w e size v n xs) : Ap b (some g) w' e size v n xs := by
  refine ⟨own_kept h.1 fun k hk hlt => hg.block k hlt fun e => h.2.1 k hk e.symm, fun k hk e => ?_, h.2.2⟩
  obtain rfl := Option.some.inj e
  rcases hn with hn | hn
  · exact h.2.1 g hk hn
  · have := (own_blk h.1 g hk).2
    omega
/-- Behind a store into a box that is no row of these. -/
theorem Ap.box {b g : Nat} {r : Option Nat} {w w' : World} (hg : w.grownBy w' (some g)) (hgb : g < b) (e : TypeId) (size : Nat) (v : Value) (n : Nat) (xs : List Value) (h : Ap b r w e size v n xs) : Ap b r w' e size v n xs :=
  ⟨own_kept h.1 fun k hk hlt => hg.block k hlt fun e => by have := (own_blk h.1 k hk).1; injection e with e; omega, h.2⟩
end Go.Proofs.YtggcjdajmbkpiaaGreatDoor.T9
/-
  The document's own copies of messages, slots and values: Own, Slot, Each.
-/
namespace Go.Proofs.YtggcjdajmbkpiaaGreatDoor.T9
set_option maxRecDepth 100000

open Go.RowKit

/-! ### A list of one's own that grows -/
abbrev EC (α : Type) := RP → α → List Value → Prop
def Mono {α : Type} (C : EC α) : Prop := ∀ {R R' : RP}, (∀ e size v n xs, R e size v n xs → R' e size v n xs) → ∀ a cs, C R a cs → C R' a cs
theorem mono_m (d : Nat) : Mono fun R => MAt R d := fun h a cs => MAt.imp h d a cs
theorem mono_v (d : Nat) : Mono fun R => VAt R d := fun h a cs => vAt.imp h (fun m cs => MAt.imp h d m cs) a cs
theorem mono_s (d : Nat) : Mono fun R => SAt' R d := fun h a cs => sAt.imp h (fun m cs => MAt.imp h d m cs) a cs
/-- The slice v is a row of one's own, of the list l, and no row below it is this one. -/
structure Grow {α : Type} (C : EC α) (e : TypeId) (size b : Nat) (w : World) (v : Value) (l : List α) (xs : List Value) : Prop where
  own : w.ownsRow b e size v l.length xs
  rows : Rows (C (Ap b v.ownBlock w)) l xs
section

variable {α : Type} {C : EC α} {e : TypeId} {size b : Nat} {w w' : World} {v : Value} {l : List α} {xs : List Value}

theorem Grow.nil (C : EC α) (e : TypeId) (size b : Nat) (w : World) : Grow C e size b w (.slice none 0 0) [] [] := ⟨World.ownsRow_nil _ _ _ _, rfl⟩
theorem Grow.on (hC : Mono C) (h : Grow C e size b w v l xs) (hb : Below w.heap.size w w') : Grow C e size b w' v l xs :=
  ⟨own_hi h.own (hi_below b hb), h.rows.imp (hC (Ap.on hb))⟩
theorem Grow.box (hC : Mono C) (h : Grow C e size b w v l xs) {g : Nat} (hg : w.grownBy w' (some g)) (hgb : g < b) : Grow C e size b w' v l xs :=
  ⟨own_hi h.own (hi_grown hg hgb), h.rows.imp (hC (Ap.box hg hgb))⟩
theorem Grow.less (hC : Mono C) (h : Grow C e size b w v l xs) {b' : Nat} (hb : b' ≤ b) : Grow C e size b' w v l xs :=
  ⟨own_less h.own hb, h.rows.imp (hC fun e size v n xs h => ⟨own_less h.1 hb, h.2⟩)⟩
theorem Grow.lt (h : Grow C e size b w v l xs) (k : Nat) (hk : v.ownBlock = some k) : k < w.heap.size := (own_blk h.own k hk).2
theorem Grow.ge (h : Grow C e size b w v l xs) (k : Nat) (hk : v.ownBlock = some k) : b ≤ k := (own_blk h.own k hk).1
/-- Behind an append of an element whose own rows are newer than all. -/
theorem Grow.app (hC : Mono C) (h : Grow C e size b w v l xs) {a : α} {cs : List Value} {b' : Nat} (hbb : b ≤ b') (hv : ∀ k, v.ownBlock = some k → k < b') (ha : C (Ow b' w) a cs) {g cap : Nat}
    (hrow : w'.ownsRow b e size (.slice (some ⟨g, 0, none⟩) (l.length + 1) cap) (l.length + 1) (xs ++ cs)) (hg : w.grownBy w' v.ownBlock) (hat : v.ownBlock = some g ∨ w.heap.size ≤ g) : Grow C e size b w' (.slice (some ⟨g, 0, none⟩) (l.length + 1) cap) (l ++ [a]) (xs ++ cs) :=
  ⟨by rw [List.length_append]; exact hrow, (h.rows.imp (hC (Ap.grown hg hat))).append (Rows.single (hC (Ap.grown hg hat) _ _ (hC (Ap.of hbb hv) _ _ ha)))⟩
theorem Grow.ow (hC : Mono C) (h : Grow C e size b w v l xs) (hl : l.length ≤ 10000000000000) : LsAt (Ow b w) e size (C (Ow b w)) l v := ⟨xs, ⟨h.own, hl⟩, h.rows.imp (hC Ap.ow)⟩
end

theorem sAt.oneA {b : Nat} {r : Option Nat} {w : World} {G : Mg → List Value → Prop} (v : So) (cs : List Value) (h : sAt (Ow b w) G v cs) : ∀ u ∈ cs, u.oneCell' = true := sAt.oneO v cs h
theorem one_msg_ow {b : Nat} {w : World} {d : Nat} {m : Mg} {x : Value} (h : MAt (Ow b w) d m [x]) : ∀ u ∈ [x], u.oneCell' = true := MAt.oneO m [x] h

/-- truffleref09.Own, of messages within so many levels. -/
def ROwnH (B d : Nat) : Prop := ∀ (m : Mg) (u : Value) (w : World), B ≤ w.heap.size → MRd B w d m u → m.cnt ≤ 1000000000 → ∀ b, b ≤ w.heap.size → Calls Tryz.prog 17 #[.agg #[u]] w fun e w' => ∃ x1, e = .returned (.agg #[x1]) ∧ MAt (Ow b w') d m [x1] ∧ Below w.heap.size w w'
theorem cell3 {w : World} {g : Nat} {a b c : Value} {t : TypeId} (h : w.heap[g]? = some (.cells #[a, b, c] t (0, 0))) (x : Value) :
    (w.setCell ⟨g, 2, none⟩ x).heap[g]? = some (.cells #[a, b, x] t (0, 0)) ∧ w.grownBy (w.setCell ⟨g, 2, none⟩ x) (some g) :=
  ⟨heap_setCell_same w g 2 #[a, b, c] t x h, rfl, rfl, rfl, by simp, fun k _ hk => heap_setCell_other _ ⟨g, 2, none⟩ k _ (fun e => hk (by simp [e]))⟩
theorem box_far {w w' : World} {g : Nat} {t : TypeId} {cs : Array Value} {fr : Nat × Nat} {v : Value} {b e size n : Nat} {xs : List Value} (X : w.heap[g]? = some (.cells cs t fr)) (hg : w.grownBy w' v.ownBlock) (hown : w.ownsRow b e size v n xs) (hlt : g < b) : w'.heap[g]? = some (.cells cs t fr) :=
  (hg.block g (box_lt X) fun e => by have := (own_blk hown g e.symm).1; omega).trans X
theorem below_row {w w' : World} {v : Value} {b e size n B : Nat} {xs : List Value} (hg : w.grownBy w' v.ownBlock) (hown : w.ownsRow b e size v n xs) (hB : B ≤ b) (hs : B ≤ w.heap.size) : Below B w w' :=
  ⟨hg.os, hg.tape, hg.output, hg.size, fun k hk => hg.block k (by omega) fun e => by have := (own_blk hown k e.symm).1; omega⟩
theorem take_snoc {α : Type} {l : List α} {k : Nat} {a : α} (h : l[k]? = some a) : l.take k ++ [a] = l.take (k + 1) := by rw [List.take_add_one, h]; rfl
set_option maxRecDepth 1000000 in
set_option maxHeartbeats 8000000 in
theorem each_any {B d : Nat} (H : ROwnH B d) (l : List Vl') (u : Value) (w : World) (hB : B ≤ w.heap.size) (hl : LsAt (Rd B w) 31 3 (VAt (Rd B w) d) l u) (hsm : ∀ x ∈ l, cV x ≤ 1000000000) (hln : l.length ≤ 1000000000) (b : Nat) (hb : b ≤ w.heap.size) :
    Calls Tryz.prog 86 #[u] w fun e w' => ∃ q, e = .returned q ∧ LsAt (Ow b w') 31 3 (VAt (Ow b w') d) l q ∧ Below w.heap.size w w' := by
  obtain ⟨A, c, xs, rfl, hs, hbl, hr, hn⟩ := hl.open_
  obtain ⟨i0, hi, hz0, hz1, hz2⟩ := info_parts info_val
  obtain ⟨j0, hj, hy0, hy1, hy2⟩ := info_parts info_msg
  have HS := Lib.hid hs
  have HR := Lib.hid hr
  have HBB := Lib.hid hbl
  have HH := Lib.hid H
  have HSM := Lib.hid hsm
  clear hs hr hl hbl H hsm
  go_enter Tryz.func86, Tryz.ntmps86
  go_wp2
  go_loopw [3, 4, 5, 6] (fun o i _ _ wr => ∃ (k : Nat) (xs : List Value), i = .int .i64 k ∧ k ≤ l.length ∧ Grow (fun R => VAt R d) 31 3 w.heap.size wr o (l.take k) xs ∧ Below w.heap.size w wr) (fun _ i _ _ _ => l.length - (intOf i).toNat)
  case atStart => exact ⟨0, [], rfl, by omega, Grow.nil _ _ _ _ _, Below.refl _ _⟩
  case round =>
    obtain ⟨k, ys, rfl, hk, hgr, hbw⟩ := hrel
    by_cases hlt : k < l.length
    · obtain ⟨a, ha⟩ : ∃ a, l[k]? = some a := ⟨_, List.getElem?_eq_getElem hlt⟩
      obtain ⟨ad, x, y, z, rfl, hga, hcc, c0, c1, c2⟩ := row3 vAt.len (sl_low HS.out HBB.out (Lo.below hbw hB)) (HR.out.imp fun a cs h => VRd.low (Lo.below hbw hB) h) ha
      obtain ⟨um, hu, hlm⟩ := hcc
      simp only [List.cons.injEq, and_true] at hu
      obtain ⟨rfl, rfl, rfl⟩ := hu
      obtain ⟨AM, cM, xsM, rfl, hsM, hbM, hrM, hnM⟩ := hlm.open_
      have hml := cV_M a
      have hcv := HSM.out a (List.mem_of_getElem? ha)
      have hsM0 := Lib.hid hsM
      have HRMM := Lib.hid hrM
      have hbM0 := Lib.hid hbM
      have HA := Lib.hid ha
      have HG := Lib.hid hgr
      have HBW := Lib.hid hbw
      clear ha hgr hsM hrM hbM hlm hbw
      go_wp2
      have hS : wr.cell? (ad.add (k * 3)) = some (.int .i64 a.n) ∧ wr.cell? ⟨(ad.add (k * 3)).block, (ad.add (k * 3)).off + 1, none⟩ = some (.string (tx a.s)) := ⟨c0, c1⟩
      go_region_held3 (fun w' => w'.cell? (ad.add (k * 3)) = some (.int .i64 a.n) ∧ w'.cell? ⟨(ad.add (k * 3)).block, (ad.add (k * 3)).off + 1, none⟩ = some (.string (tx a.s)))
        (first | exact hS | exact ⟨cell_on (below_new wr _) hS.1, cell_on (below_new wr _) hS.2⟩ | go_keep)
        (fail)
      obtain ⟨w5, hw5⟩ : ∃ x, x = wr := ⟨_, rfl⟩
      subst hw5
      obtain ⟨G, hG⟩ : ∃ G, G = w5.heap.size := ⟨_, rfl⟩
      have X1 : (w5.alloc (.cells #[.int .i64 a.n, .string (tx a.s), .slice none 0 0] 31)).drew.heap[G]? = some (.cells #[.int .i64 a.n, .string (tx a.s), .slice none 0 0] 31 (0, 0)) := by rw [hG]; exact heap_alloc_new w5 _
      have LBD : Below G w5 (w5.alloc (.cells #[.int .i64 a.n, .string (tx a.s), .slice none 0 0] 31)).drew := by rw [hG]; exact (below_new w5 _).trans (Below.refl _ _).drew
      have hsz : (w5.alloc (.cells #[.int .i64 a.n, .string (tx a.s), .slice none 0 0] 31)).drew.heap.size = G + 1 := by rw [hG]; show (w5.alloc _).heap.size = _; simp
      rw [← hG]
      obtain ⟨W0, hW0⟩ : ∃ W, W = (w5.alloc (.cells #[.int .i64 a.n, .string (tx a.s), .slice none 0 0] 31)).drew := ⟨_, rfl⟩
      rw [← hW0] at X1 LBD hsz ⊢
      have C2 := Lib.hid c2
      have HAD := Lib.hid (show (ad.add (k * 3)).block < G by rw [hG, show (ad.add (k * 3)).block = ad.block from add_same_block _ _]; exact hga)
      have HSM2 := Lib.hid (fun wx (hx : Below G w5 wx) => sl_low hsM0.out hbM0.out (Lo.of (hx.mono (by rw [hG]; exact Nat.le_trans hB HBW.out.size))))
      have HGE := Lib.hid hG
      clear hS hW0 c0 c1 c2 hG
      go_wp2
      go_loopw [6] (fun j wx => ∃ (q : Nat) (v : Value) (zs : List Value), j = .int .i64 q ∧ q ≤ a.M.length ∧ wx.heap[G]? = some (.cells #[.int .i64 a.n, .string (tx a.s), v] 31 (0, 0)) ∧ Grow (fun R => MAt R d) 28 1 (G + 1) wx v (a.M.take q) zs ∧ Below G w5 wx ∧ G + 1 ≤ wx.heap.size) (fun j _ => a.M.length - (intOf j).toNat)
      case atStart => exact ⟨0, _, [], rfl, by omega, X1, Grow.nil _ _ _ _ _, LBD, by omega⟩
      case round =>
        obtain ⟨q, v, zs, rfl, hq, hX, hgx, hbx, hsx⟩ := hrel
        have k2 : wr.cell? ⟨(ad.add (k * 3)).block, (ad.add (k * 3)).off + 2, none⟩ = some (.slice AM a.M.length cM) := (hbx.cell (p := ⟨(ad.add (k * 3)).block, (ad.add (k * 3)).off + 2, none⟩) HAD.out).trans C2.out
        have HGX := Lib.hid hgx
        have HBX := Lib.hid hbx
        have HX := Lib.hid hX
        have hBw : B ≤ wr.heap.size := by have := HBW.out.size; have := hbx.size; omega
        clear hgx hbx
        by_cases hql : q < a.M.length
        · obtain ⟨x, hx⟩ : ∃ x, a.M[q]? = some x := ⟨_, List.getElem?_eq_getElem hql⟩
          have hlo : Lo B w5 wr := Lo.of (HBX.out.mono (by rw [HGE.out]; exact Nat.le_trans hB HBW.out.size))
          obtain ⟨am, ux, rfl, hgam, hcx, k0⟩ := row1 MAt.len (sl_low hsM0.out hbM0.out hlo) (HRMM.out.imp fun a cs h => MRd.low hlo h) hx
          have hcnt := cnt_le (List.mem_of_getElem? hx)
          have hD : Below wr.heap.size wr wr.drew := (Below.refl _ _).drew
          have HCX := Lib.hid (HH.out x ux wr.drew hBw (MRd.low (Lo.below hD hBw) hcx) (by omega) wr.heap.size (Nat.le_refl _))
          have HXX := Lib.hid hx
          have g2 := (bx3 hX).2.2
          have hlq : (a.M.take q).length = q := by rw [List.length_take]; omega
          clear hcx hx hlo hX
          go_wp2_with fail
          go_region_law
            (first
              | (refine step_append_lies _ rfl _ _ 29 rfl (G + 1) 28 j0 _ 1 24 Tryz.underlying29 hj hy0 hy1 hy2 rfl (by decide) v (a.M.take q).length zs (by simp [Act.eval, Act.put]) HG8.out.own ⟨w7.heap.size, 0, none⟩ 1 1 [x1] (by simp [Act.eval, Act.put]) rfl (World.news_of_block (heap_alloc_new _ _)) (one_msg_ow ho7) (by decide) (by unfold maxLen; omega) (by omega) (by simp; omega) w7.heap.size.succ (by simp) ?_; intro g8 cap8 w8 hown8 hg8 hat8 hlt8; have hX8 := Lib.hid (box_far (box_on HX7.out (below_new w7 (.cells #[x1] 28))) hg8 HG8.out.own (Nat.lt_succ_self G)); have f8 : w8.frozen? ⟨G, 2, none⟩ = false := (by simp [World.frozen?, hX8.out]); have c8 := (bx3 hX8.out).2.2)
              | (go_simp; refine HCX.out.mono ?_; rintro e w7 ⟨x1, rfl, ho7, hb7⟩; have hb7d := Lib.hid (hD.trans hb7); have HX7 := Lib.hid (box_on HX.out hb7d.out); have c7 := (bx3 HX7.out).2.2; have HG8 := Lib.hid ((HGX.out.on (mono_m d) hb7d.out).on (mono_m d) (below_new w7 (.cells #[x1] 28))); have hs7 : wr.heap.size ≤ w7.heap.size := hb7d.out.size; have hgl : G < w7.heap.size := Nat.lt_of_lt_of_le hsx hs7)
              | fail)
          all_goals
            obtain ⟨Z1, Z2⟩ := cell3 hX8.out (.slice (some ⟨g8, 0, none⟩) ((a.M.take q).length + 1) cap8)
            have hnew := (Grow.app (mono_m d) HG8.out (a := x) (b' := wr.heap.size) (by omega) (fun k hk => HGX.out.lt k hk) (MAt.imp (Ow.hi (hi_below _ (below_new w7 (.cells #[x1] 28)))) d _ _ ho7) hown8 hg8 (hat8.imp id fun h => by rw [h]; simp)).box (mono_m d) Z2 (Nat.lt_succ_self G)
            rw [take_snoc HXX.out] at hnew
            rw [hlq] at hnew Z1 Z2
            have hbz : Below G wr _ := ((hb7d.out.mono (by omega)).trans ((below_new w7 (.cells #[x1] 28)).mono (by omega))).trans ((below_row hg8 HG8.out.own (Nat.le_succ G) (by simp; omega)).trans (below_own Z2 (Nat.le_refl _) (by have := hg8.size; simp at this; omega)))
            try rw [hlq]
            go_wp2
            refine ⟨⟨q + 1, _, _, by go_num, by omega, Z1, hnew, HBX.out.trans hbz, by have := hbz.size; omega⟩, by simp [intOf]; omega⟩
        · obtain rfl : q = a.M.length := by omega
          obtain ⟨g0, g1, g2⟩ := bx3 hX
          have hlk : (l.take k).length = k := by rw [List.length_take]; omega
          have hw5 : Below w5.heap.size w5 wr := HGE.out ▸ HBX.out
          have HO := Lib.hid ((HG.out.on (mono_v d) hw5).on (mono_v d) (below_new wr (.cells #[.int .i64 a.n, .string (tx a.s), v] 31)))
          have hgx2 := HGX.out
          rw [List.take_length] at hgx2
          have HM := Lib.hid ((hgx2.on (mono_m d) (below_new wr (.cells #[.int .i64 a.n, .string (tx a.s), v] 31))).ow (mono_m d) hnM)
          have hwr : w.heap.size ≤ wr.heap.size := Nat.le_trans HBW.out.size hw5.size
          have h1c : ∀ u ∈ [Value.int .i64 a.n, .string (tx a.s), v], u.oneCell' = true := vAt.oneO a _ ⟨v, rfl, HM.out⟩
          have HV := Lib.hid (fun k hk => HG.out.lt k hk)
          have HBO := Lib.hid (below_then (HBW.out.trans (hw5.mono HBW.out.size)) (below_new wr (.cells #[.int .i64 a.n, .string (tx a.s), v] 31)))
          have HW5 := Lib.hid hw5
          clear hgx2 hX hw5 HGX
          go_wp2_with (at_builtin; refine wpList_append_lies _ rfl _ _ 34 rfl w.heap.size 31 i0 _ 3 48 Tryz.underlying34 hi hz0 hz1 hz2 rfl (by decide) _ (l.take k).length _ rfl HO.out.own ⟨wr.heap.size, 0, none⟩ 1 1 [.int .i64 a.n, .string (tx a.s), v] rfl rfl (World.news_of_block (heap_alloc_new _ _)) h1c (by decide) (by unfold maxLen; omega) (by omega) (by simp; omega) wr.heap.size.succ (by simp) ?_; intro g8 cap8 w8 hown8 hg8 hat8 hlt8)
          have hnew := Grow.app (mono_v d) HO.out (a := a) (b' := G + 1) (show w.heap.size ≤ G + 1 by rw [HGE.out]; exact Nat.le_succ_of_le HBW.out.size) (fun k hk => by have := HV.out k hk; rw [HGE.out]; omega) ⟨v, rfl, HM.out⟩ hown8 hg8 (hat8.imp id fun h => by rw [h]; simp)
          rw [take_snoc HA.out, hlk] at hnew
          exact ⟨⟨k + 1, _, by go_num, by omega, hnew, HBO.out.trans (below_row hg8 HO.out.own (Nat.le_refl _) HBO.out.size)⟩, by simp [intOf]; omega⟩
    · obtain rfl : k = l.length := by omega
      go_wp2
      go_ret
      have hq := hgr
      rw [List.take_length] at hq
      have hq2 := hq.ow (mono_v d) (by omega)
      exact ⟨_, rfl, hq2.imp (Ow.less hb) (fun a cs h => mono_v d (Ow.less hb) a cs h), hbw⟩
theorem rslot_end {w wl : World} {d b : Nat} {s : So} {q1 q2 : Value} {t : TypeId} {u0 u1 u2 : Value} (hb : b ≤ w.heap.size) (X : wl.heap[w.heap.size + 1]? = some (.cells #[u0, u1, u2] t (0, 0)))
    (hk : LsAt (Ow (w.heap.size + 2) wl) 31 3 (VAt (Ow (w.heap.size + 2) wl) d) s.K q1) (hv : LsAt (Ow (w.heap.size + 2) wl) 31 3 (VAt (Ow (w.heap.size + 2) wl) d) s.V q2) (hB : Below w.heap.size w wl) :
    ∃ w4, (((wl.setCell ⟨w.heap.size + 1, 0, none⟩ (.int .i64 s.no)).setCell ⟨w.heap.size + 1, 1, none⟩ q1).setCell ⟨w.heap.size + 1, 2, none⟩ q2) = w4 ∧ w4.heap[w.heap.size + 1]? = some (.cells #[.int .i64 s.no, q1, q2] t (0, 0)) ∧
      SAt' (Ow b w4) d s [.int .i64 s.no, q1, q2] ∧ Below w.heap.size w w4 := ownSlot_end hb X hk hv hB
set_option maxRecDepth 1000000 in
set_option maxHeartbeats 4000000 in
theorem rslot_any {B d : Nat} (H : ROwnH B d) (s : So) (u1 u2 : Value) (w : World) (hB : B ≤ w.heap.size) (hs : SAt' (Rd B w) d s [.int .i64 s.no, u1, u2]) (hsm : cS s ≤ 1000000000) (b : Nat) (hb : b ≤ w.heap.size) :
    Calls Tryz.prog 47 #[.agg #[.int .i64 s.no, u1, u2]] w fun e w' => ∃ x1 x2 x3, e = .returned (.agg #[x1, x2, x3]) ∧ SAt' (Ow b w') d s [x1, x2, x3] ∧ Below w.heap.size w w' := by
  obtain ⟨u1', u2', hu, hk, hv⟩ := hs
  simp only [List.cons.injEq, and_true, true_and] at hu
  obtain ⟨rfl, rfl⟩ := hu
  obtain ⟨X1, X2, LBD⟩ := two_boxesD w (.cells #[.int .i64 s.no, u1, u2] 36) (.cells #[.int .i64 0, .slice none 0 0, .slice none 0 0] 36)
  have LSZ := two_size w (.cells #[.int .i64 s.no, u1, u2] 36) (.cells #[.int .i64 0, .slice none 0 0, .slice none 0 0] 36)
  have hln := cS_len (s := s)
  have HK := Lib.hid (fun wx (hx : Below w.heap.size w wx) (hz : w.heap.size + 2 ≤ wx.heap.size) => each_any H s.K u1 wx (Nat.le_trans hB hx.size) (hk.low (Lo.below hx hB) fun a cs h => VRd.low (Lo.below hx hB) h) (fun x hx => by have := cV_le (s := s) (.inl hx); omega) (by omega) (w.heap.size + 2) hz)
  have HV := Lib.hid (fun wx (hx : Below w.heap.size w wx) (hz : w.heap.size + 2 ≤ wx.heap.size) => each_any H s.V u2 wx (Nat.le_trans hB hx.size) (hv.low (Lo.below hx hB) fun a cs h => VRd.low (Lo.below hx hB) h) (fun x hx => by have := cV_le (s := s) (.inr hx); omega) (by omega) (w.heap.size + 2) hz)
  clear hk hv H hsm hln
  go_enter Tryz.func47, Tryz.ntmps47
  go_wp2_with fail
  have hS := bx3 X1
  go_region_held3 (fun w' => w'.cell? ⟨w.heap.size, 0, none⟩ = some (.int .i64 s.no) ∧ w'.cell? ⟨w.heap.size, 1, none⟩ = some u1 ∧ w'.cell? ⟨w.heap.size, 2, none⟩ = some u2)
    (first | exact hS | exact bx3 (box_on (box_on X1 hbK) hbV) | exact bx3 (box_on (box_on X1 hbV) hbK) | exact bx3 (box_on X1 hbK) | exact bx3 (box_on X1 hbV) | go_keep)
    ((first
      | (go_at_call 86; (with_reducible refine (HK.out _ (by first | exact LBD | exact LBD.trans (hbV.mono LBD.size)) (by first | exact LSZ | exact Nat.le_trans LSZ hbV.size)).mono ?_); rintro e wK ⟨qK, rfl, hoK, hbK⟩; obtain ⟨zK, ⟨hownK, hzK⟩, hrK⟩ := id hoK; obtain ⟨AK, cK, rfl, -⟩ := Sl.of_own hownK; clear hownK hzK hrK; have X3 : wK.heap[w.heap.size + 1]? = some (.cells #[.int .i64 0, .slice none 0 0, .slice none 0 0] 36 (0, 0)) := (by first | exact box_on X2 hbK | exact box_on (box_on X2 hbV) hbK); obtain ⟨⟨y0, y1, y2⟩, y3, y4, y5⟩ := wr3 X3)
      | (go_at_call 86; (with_reducible refine (HV.out _ (by first | exact LBD | exact LBD.trans (hbK.mono LBD.size)) (by first | exact LSZ | exact Nat.le_trans LSZ hbK.size)).mono ?_); rintro e wV ⟨qV, rfl, hoV, hbV⟩; obtain ⟨zV', ⟨hownV, hzV⟩, hrV⟩ := id hoV; obtain ⟨AV, cV', rfl, -⟩ := Sl.of_own hownV; clear hownV hzV hrV; have X3 : wV.heap[w.heap.size + 1]? = some (.cells #[.int .i64 0, .slice none 0 0, .slice none 0 0] 36 (0, 0)) := (by first | exact box_on X2 hbV | exact box_on (box_on X2 hbK) hbV); obtain ⟨⟨y0, y1, y2⟩, y3, y4, y5⟩ := wr3 X3)))
  all_goals
    obtain ⟨w4, hw4, Z1, hat, hb4⟩ : ∃ w4, _ = w4 ∧ _ := by
      first
        | exact ownSlot_end hb (box_on (box_on X2 hbK) hbV) (vals_on hbV hoK) hoV (below_then (below_then LBD hbK) hbV)
        | exact ownSlot_end hb (box_on (box_on X2 hbV) hbK) hoK (vals_on hbK hoV) (below_then (below_then LBD hbV) hbK)
    rw [hw4]
    clear hw4
    go_wp2
    refine bodyPost_ret (results_cell_row rfl _ _ (w.heap.size + 1) _ _ (0, 0) _ rfl Z1 Tryz.underlying36 rfl sz_slot) rfl ?_
    exact ⟨_, _, _, rfl, hat, hb4⟩
theorem cell1 {w : World} {g : Nat} {a : Value} {t : TypeId} (h : w.heap[g]? = some (.cells #[a] t (0, 0))) (x : Value) :
    (w.setCell ⟨g, 0, none⟩ x).heap[g]? = some (.cells #[x] t (0, 0)) ∧ w.grownBy (w.setCell ⟨g, 0, none⟩ x) (some g) :=
  ⟨heap_setCell_same w g 0 #[a] t x h, rfl, rfl, rfl, by simp, fun k _ hk => heap_setCell_other _ ⟨g, 0, none⟩ k _ (fun e => hk (by simp [e]))⟩
set_option maxRecDepth 1000000 in
set_option maxHeartbeats 8000000 in
theorem rown_grow {B d : Nat} (H : ROwnH B d) (m : Mg) (u : Value) (w : World) (hB : B ≤ w.heap.size) (hm : MRd B w (d + 1) m u) (hsm : m.cnt ≤ 1000000000) (b : Nat) (hb : b ≤ w.heap.size) :
    Calls Tryz.prog 17 #[.agg #[u]] w fun e w' => ∃ x1 zs, e = .returned (.agg #[x1]) ∧ Grow (fun R => SAt' R d) 36 3 b w' x1 m.F zs ∧ m.F.length ≤ 10000000000000 ∧ Below w.heap.size w w' := by
  obtain ⟨u', hu, hl⟩ := hm
  simp only [List.cons.injEq, and_true] at hu
  subst hu
  obtain ⟨A, c, xs, rfl, hs, hbl, hr, hn⟩ := hl.open_
  obtain ⟨i0, hi, hz0, hz1, hz2⟩ := info_parts info_slot
  have hcf := cnt_F m
  obtain ⟨T1, T2, T3, L3⟩ := three_boxes w (.cells #[.slice A m.F.length c] 28) (.cells #[.slice none 0 0] 28) (.cells #[.slice none 0 0] 28)
  have hsz3 : (((w.alloc (.cells #[.slice A m.F.length c] 28)).alloc (.cells #[.slice none 0 0] 28)).alloc (.cells #[.slice none 0 0] 28)).heap.size = w.heap.size + 3 := by simp
  have HS := Lib.hid hs
  have HR := Lib.hid hr
  have HBB := Lib.hid hbl
  have HH := Lib.hid H
  clear hs hr hl hbl H
  go_enter Tryz.func17, Tryz.ntmps17
  go_wp2
  obtain ⟨W0, hW0⟩ : ∃ W, W = (((w.alloc (.cells #[.slice A m.F.length c] 28)).alloc (.cells #[.slice none 0 0] 28)).alloc (.cells #[.slice none 0 0] 28)) := ⟨_, rfl⟩
  rw [← hW0] at T1 T2 T3 L3 hsz3
  (try rw [← hW0])
  clear hW0
  go_loopw [4] (fun i wr => ∃ (k : Nat) (v : Value) (zs : List Value), i = .int .i64 k ∧ k ≤ m.F.length ∧ wr.heap[w.heap.size + 2]? = some (.cells #[v] 28 (0, 0)) ∧ Grow (fun R => SAt' R d) 36 3 (w.heap.size + 3) wr v (m.F.take k) zs ∧ Below (w.heap.size + 2) W0 wr ∧ w.heap.size + 3 ≤ wr.heap.size) (fun i _ => m.F.length - (intOf i).toNat)
  case atStart => exact ⟨0, _, [], rfl, by omega, T3, Grow.nil _ _ _ _ _, Below.refl _ _, by omega⟩
  case round =>
    obtain ⟨k, v, zs, rfl, hk, hX, hgx, hbx, hsx⟩ := hrel
    have hm1 := (hbx.block _ (show w.heap.size < w.heap.size + 2 by omega)).trans T1
    have hm2 := (hbx.block _ (show w.heap.size + 1 < w.heap.size + 2 by omega)).trans T2
    have k0 := bx1 hm1
    have g0 := bx1 hX
    have HGX := Lib.hid hgx
    have HBX := Lib.hid hbx
    have HX := Lib.hid hX
    have hBw : B ≤ wr.heap.size := by omega
    have hlo : Lo B w wr := Lo.of ((L3.trans (hbx.mono (by omega))).mono hB)
    clear hgx hbx hX
    by_cases hlt : k < m.F.length
    · obtain ⟨a, ha⟩ : ∃ a, m.F[k]? = some a := ⟨_, List.getElem?_eq_getElem hlt⟩
      obtain ⟨ad, x, y, z, rfl, hga, hcc, c0, c1, c2⟩ := row3 sAt.len (sl_low HS.out HBB.out hlo) (HR.out.imp fun a cs h => SRd.low hlo h) ha
      obtain ⟨B1, d1, B2, d2, hx, hy, hz⟩ := slot_shape hcc
      subst hx hy hz
      have hcs := cS_le (List.mem_of_getElem? ha)
      have hD : Below wr.heap.size wr wr.drew := (Below.refl _ _).drew
      have HCX := Lib.hid (rslot_any HH.out a _ _ wr.drew hBw (SRd.low (Lo.below hD hBw) hcc) (by omega) wr.heap.size (Nat.le_refl _))
      have HA := Lib.hid ha
      have hlq : (m.F.take k).length = k := by rw [List.length_take]; omega
      clear hcc ha hlo hm1 hm2
      go_wp2_with fail
      go_region_law
        (first
          | (refine step_append_lies _ rfl _ _ 26 rfl (w.heap.size + 3) 36 i0 _ 3 56 Tryz.underlying26 hi hz0 hz1 hz2 rfl (by decide) v (m.F.take k).length zs (by simp [Act.eval, Act.put]) HG8.out.own ⟨w7.heap.size, 0, none⟩ 1 1 [x1, x2, x3] (by simp [Act.eval, Act.put]) rfl (World.news_of_block (heap_alloc_new _ _)) (sAt.oneO _ _ ho7) (by decide) (by unfold maxLen; omega) (by omega) (by simp; omega) w7.heap.size.succ (by simp) ?_; intro g8 cap8 w8 hown8 hg8 hat8 hlt8; have hX8 := Lib.hid (box_far (box_on HX7.out (below_new w7 (.cells #[x1, x2, x3] 36))) hg8 HG8.out.own (Nat.lt_succ_self (w.heap.size + 2))); have f8 : w8.frozen? ⟨w.heap.size + 2, 0, none⟩ = false := (by simp [World.frozen?, hX8.out]); have c8 := bx1 hX8.out)
          | (go_simp; refine HCX.out.mono ?_; rintro e w7 ⟨x1, x2, x3, rfl, ho7, hb7⟩; have hb7d := Lib.hid (hD.trans hb7); have HX7 := Lib.hid (box_on HX.out hb7d.out); have c7 := bx1 HX7.out; have HG8 := Lib.hid ((HGX.out.on (mono_s d) hb7d.out).on (mono_s d) (below_new w7 (.cells #[x1, x2, x3] 36))); have hs7 : wr.heap.size ≤ w7.heap.size := hb7d.out.size; have hgl : w.heap.size + 2 < w7.heap.size := Nat.lt_of_lt_of_le hsx hs7)
          | fail)
      all_goals
        obtain ⟨Z1, Z2⟩ := cell1 hX8.out (.slice (some ⟨g8, 0, none⟩) ((m.F.take k).length + 1) cap8)
        have hnew := (Grow.app (mono_s d) HG8.out (a := a) (b' := wr.heap.size) (by omega) (fun k hk => HGX.out.lt k hk) (mono_s d (Ow.hi (hi_below _ (below_new w7 (.cells #[x1, x2, x3] 36)))) _ _ ho7) hown8 hg8 (hat8.imp id fun h => by rw [h]; simp)).box (mono_s d) Z2 (Nat.lt_succ_self (w.heap.size + 2))
        rw [take_snoc HA.out] at hnew
        rw [hlq] at hnew Z1 Z2
        have hbz : Below (w.heap.size + 2) wr _ := ((hb7d.out.mono (by omega)).trans ((below_new w7 (.cells #[x1, x2, x3] 36)).mono (by omega))).trans ((below_row hg8 HG8.out.own (Nat.le_succ _) (by simp; omega)).trans (below_own Z2 (Nat.le_refl _) (by have := hg8.size; simp at this; omega)))
        try rw [hlq]
        go_wp2
        refine ⟨⟨k + 1, _, _, by go_num, by omega, Z1, hnew, HBX.out.trans hbz, by have h1 := hbz.size; have h2 := hg8.size; simp at h1 h2 ⊢; omega⟩, by simp [intOf]; omega⟩
    · obtain rfl : k = m.F.length := by omega
      have r0 := bx1 hm2
      have r1 : wr.frozen? ⟨w.heap.size + 1, 0, none⟩ = false := by simp [World.frozen?, hm2]
      have hgx2 := HGX.out
      rw [List.take_length] at hgx2
      obtain ⟨Av, cv, rfl, -⟩ := Sl.of_own hgx2.own
      go_wp2
      obtain ⟨Z1, Z2⟩ := cell1 hm2 (.slice Av m.F.length cv)
      refine bodyPost_ret (results_cell_row rfl _ _ (w.heap.size + 1) _ _ (0, 0) _ rfl Z1 Tryz.underlying28 rfl sz_msg) rfl ?_
      exact ⟨_, _, rfl, (hgx2.box (mono_s d) Z2 (show w.heap.size + 1 < w.heap.size + 3 by omega)).less (mono_s d) (by omega), hn, (L3.trans (HBX.out.mono (by omega))).trans (below_own Z2 (by omega) (by omega))⟩
theorem rown_step {B d : Nat} (H : ROwnH B d) : ROwnH B (d + 1) := by
  intro m u w hB hm hsm b hb
  refine (rown_grow H m u w hB hm hsm b hb).mono ?_
  rintro e w' ⟨x1, zs, rfl, h1, h2, h3⟩
  exact ⟨x1, rfl, ⟨_, rfl, h1.ow (mono_s d) h2⟩, h3⟩
/-- truffleref09.Own, of any message. -/
theorem rown_any (B : Nat) : ∀ d, ROwnH B d
  | 0 => fun _ _ _ _ h _ => h.elim
  | d + 1 => rown_step (rown_any B d)
end Go.Proofs.YtggcjdajmbkpiaaGreatDoor.T9
/-
  The document's own Get: the first slot of a number, or none.
-/
namespace Go.Proofs.YtggcjdajmbkpiaaGreatDoor.T9
set_option maxRecDepth 100000

open Go.RowKit

theorem find_take_next {l : List So} {k : Nat} {a : So} {no : Int} (h : (l.take k).find? (fun s => s.no == no) = none) (ha : l[k]? = some a) (hne : ¬ a.no = no) : (l.take (k + 1)).find? (fun s => s.no == no) = none := by
  rw [List.take_add_one, ha, List.find?_append, h]
  simp [hne]
theorem find_hit {l : List So} {k : Nat} {a : So} {no : Int} (h : (l.take k).find? (fun s => s.no == no) = none) (ha : l[k]? = some a) (he : a.no = no) : l.find? (fun s => s.no == no) = some a := by
  have hk : k < l.length := (List.getElem?_eq_some_iff.1 ha).1
  have e : l = l.take k ++ a :: l.drop (k + 1) := by
    have h1 : l[k] = a := (List.getElem?_eq_some_iff.1 ha).2
    rw [← h1, List.getElem_cons_drop, List.take_append_drop]
  rw [e, List.find?_append, h]
  simp [he]
end Go.Proofs.YtggcjdajmbkpiaaGreatDoor.T9
/-
  The document's own comparison of trees (truffleref09.Same, Vals).
-/
namespace Go.Proofs.YtggcjdajmbkpiaaGreatDoor.T9
set_option maxRecDepth 100000

open Go.RowKit

/-- truffleref09.Same, of messages within so many levels. -/
def RSameH (B d : Nat) : Prop := ∀ (a b : Mg) (u1 u2 : Value) (w : World), B ≤ w.heap.size → MRd B w d a u1 → MRd B w d b u2 → Calls Tryz.prog 20 #[.agg #[u1], .agg #[u2]] w fun e w' => e = .returned (.bool (eqB a b)) ∧ Below w.heap.size w w'
theorem vAt.parts {R : RP} {G : Mg → List Value → Prop} {v : Vl'} {x y z : Value} (h : vAt R G v [x, y, z]) : x = .int .i64 v.n ∧ y = .string (tx v.s) ∧ LsAt R 28 1 G v.M z := by
  obtain ⟨u, hu, hl⟩ := h
  simp only [List.cons.injEq, and_true] at hu
  obtain ⟨rfl, rfl, rfl⟩ := hu
  exact ⟨rfl, rfl, hl⟩
theorem sAt.parts {R : RP} {G : Mg → List Value → Prop} {s : So} {x y z : Value} (h : sAt R G s [x, y, z]) : x = .int .i64 s.no ∧ LsAt R 31 3 (vAt R G) s.K y ∧ LsAt R 31 3 (vAt R G) s.V z := by
  obtain ⟨u1, u2, hu, h1, h2⟩ := h
  simp only [List.cons.injEq, and_true] at hu
  obtain ⟨rfl, rfl, rfl⟩ := hu
  exact ⟨rfl, h1, h2⟩
/-- Four cells are as they were. -/
def Q4 (p q r t : Addr) (a b c d : Value) (w : World) : Prop := w.cell? p = some a ∧ w.cell? q = some b ∧ w.cell? r = some c ∧ w.cell? t = some d
theorem Q4.on {p q r t : Addr} {a b c d : Value} {w w' : World} (h : Q4 p q r t a b c d w) (hb : Below w.heap.size w w') : Q4 p q r t a b c d w' := ⟨cell_on hb h.1, cell_on hb h.2.1, cell_on hb h.2.2.1, cell_on hb h.2.2.2⟩
set_option maxRecDepth 1000000 in
set_option maxHeartbeats 8000000 in
theorem vals_any {B d : Nat} (H : RSameH B d) (l m : List Vl') (u1 u2 : Value) (w : World) (hB : B ≤ w.heap.size) (hl : LsAt (Rd B w) 31 3 (VAt (Rd B w) d) l u1) (hm : LsAt (Rd B w) 31 3 (VAt (Rd B w) d) m u2) :
    Calls Tryz.prog 45 #[u1, u2] w fun e w' => e = .returned (.bool (eqB l m)) ∧ Below w.heap.size w w' := by
  obtain ⟨A1, d1, xs1, rfl, hs1, hb1, hr1, hn1⟩ := hl.open_
  obtain ⟨A2, d2, xs2, rfl, hs2, hb2, hr2, hn2⟩ := hm.open_
  have HS1 := Lib.hid hs1
  have HR1 := Lib.hid hr1
  have HB1 := Lib.hid hb1
  have HS2 := Lib.hid hs2
  have HR2 := Lib.hid hr2
  have HB2 := Lib.hid hb2
  have HH := Lib.hid H
  clear hs1 hr1 hs2 hr2 hl hm hb1 hb2 H
  by_cases hlen : l.length = m.length
  · have HLEN := Lib.hid hlen
    rw [← hlen]
    clear hlen
    go_enter Tryz.func45, Tryz.ntmps45
    go_wp2
    go_loopw [5, 6, 7] (fun i j r wr => ∃ k : Nat, i = .int .i64 k ∧ k ≤ l.length ∧ l.take k = m.take k ∧ Below w.heap.size w wr) (fun i _ _ _ => l.length - (intOf i).toNat)
    case atStart => exact ⟨0, rfl, by omega, rfl, Below.refl _ _⟩
    case round =>
      obtain ⟨k, rfl, hk, htk, hbw⟩ := hrel
      have HTK := Lib.hid htk
      have HBW := Lib.hid hbw
      clear htk
      by_cases hlt : k < l.length
      · have hlt2 : k < m.length := by rw [← HLEN.out]; exact hlt
        obtain ⟨a, ha⟩ : ∃ a, l[k]? = some a := ⟨_, List.getElem?_eq_getElem hlt⟩
        obtain ⟨b, hb⟩ : ∃ b, m[k]? = some b := ⟨_, List.getElem?_eq_getElem hlt2⟩
        obtain ⟨ad1, x1, y1, z1, rfl, hg1, hc1, p0, p1, p2⟩ := row3 vAt.len (sl_low HS1.out HB1.out (Lo.below hbw hB)) (HR1.out.imp fun a cs h => VRd.low (Lo.below hbw hB) h) ha
        obtain ⟨ad2, x2, y2, z2, rfl, hg2, hc2, q0, q1, q2⟩ := row3 vAt.len (sl_low HS2.out HB2.out (Lo.below hbw hB)) (HR2.out.imp fun a cs h => VRd.low (Lo.below hbw hB) h) hb
        obtain ⟨rfl, rfl, hla⟩ := hc1.parts
        obtain ⟨rfl, rfl, hlb⟩ := hc2.parts
        obtain ⟨B1, e1, ys1, rfl, hsa, hba, hra, hna⟩ := hla.open_
        obtain ⟨B2, e2, ys2, rfl, hsb, hbb, hrb, hnb⟩ := hlb.open_
        have HSA := Lib.hid hsa
        have HBA := Lib.hid hba
        have HRA := Lib.hid hra
        have HSB := Lib.hid hsb
        have HBB := Lib.hid hbb
        have HRB := Lib.hid hrb
        have HA := Lib.hid ha
        have HBv := Lib.hid hb
        have HNE : Hid (¬ a = b → eqB l m = false) := Lib.hid (fun h => eqB_no (eq_ne_at ha hb h))
        clear hc1 hc2 hla hlb hsa hba hra hsb hbb hrb ha hb hbw hlt2
        by_cases hn : a.n = b.n
        · have hnq : (a.n != b.n) = false := by simp [hn]
          by_cases hs : a.s = b.s
          · have hsq : (!((tx a.s).toList == (tx b.s).toList)) = false := by rw [hs, beq_self_eq_true]; rfl
            by_cases hl : a.M.length = b.M.length
            · have hlq : ((a.M.length : Int) != (b.M.length : Int)) = false := by rw [hl]; exact bne_self_eq_false _
              have HL := Lib.hid hl
              have HN := Lib.hid hn
              have HSs := Lib.hid hs
              clear hn hs hl
              go_wp2_with fail
              go_quiet (fail)
              have hb1 : Below wr.heap.size wr (wr.drewN nq) := below_draws (Below.refl _ _) nq
              have r1 := cell_on hb1 p2
              have r2 := cell_on hb1 q2
              have HBW1 := Lib.hid (HBW.out.trans (hb1.mono HBW.out.size))
              have HBQ := Lib.hid hb1
              obtain ⟨W1, hW1⟩ : ∃ W, W = wr.drewN nq := ⟨_, rfl⟩
              rw [← hW1] at r1 r2 HBW1 HBQ ⊢
              clear p0 p1 p2 q0 q1 q2 hW1 hb1
              go_wp2
              go_loopw [6, 7] (fun j r wx => ∃ t : Nat, j = .int .i64 t ∧ t ≤ a.M.length ∧ a.M.take t = b.M.take t ∧ Below W1.heap.size W1 wx) (fun j _ _ => a.M.length - (intOf j).toNat)
              case atStart => exact ⟨0, rfl, by omega, rfl, Below.refl _ _⟩
              case round =>
                obtain ⟨t, rfl, ht, htt, hbx⟩ := hrel
                have HTT := Lib.hid htt
                have p2 := cell_on hbx r1
                have q2 := cell_on hbx r2
                have HB3 := Lib.hid (HBW1.out.trans (hbx.mono HBW1.out.size))
                clear htt
                by_cases htl : t < a.M.length
                · have htl2 : t < b.M.length := by have := HL.out; omega
                  obtain ⟨x, hx⟩ : ∃ x, a.M[t]? = some x := ⟨_, List.getElem?_eq_getElem htl⟩
                  obtain ⟨y, hy⟩ : ∃ y, b.M[t]? = some y := ⟨_, List.getElem?_eq_getElem htl2⟩
                  have hlo := Lo.below (HBQ.out.trans (hbx.mono HBQ.out.size)) (Nat.le_trans hB HBW.out.size)
                  obtain ⟨am1, ux, rfl, hga1, hcx, c0⟩ := row1 MAt.len (sl_low HSA.out HBA.out hlo) (HRA.out.imp fun a cs h => MRd.low hlo h) hx
                  obtain ⟨am2, uy, rfl, hga2, hcy, c1⟩ := row1 MAt.len (sl_low HSB.out HBB.out hlo) (HRB.out.imp fun a cs h => MRd.low hlo h) hy
                  have HC := Lib.hid (HH.out x y ux uy wr.drew (Nat.le_trans hB HB3.out.size) (MRd.low (Lo.below (Below.refl _ _).drew (Nat.le_trans hB HB3.out.size)) hcx) (MRd.low (Lo.below (Below.refl _ _).drew (Nat.le_trans hB HB3.out.size)) hcy))
                  have HX := Lib.hid hx
                  have HY := Lib.hid hy
                  have HBX := Lib.hid hbx
                  obtain ⟨r, hr⟩ : ∃ r, eqB x y = r := ⟨_, rfl⟩
                  rw [hr] at HC
                  have HRR := Lib.hid hr
                  have hS : Q4 ⟨(ad1.add (k * 3)).block, (ad1.add (k * 3)).off + 2, none⟩ ⟨(ad2.add (k * 3)).block, (ad2.add (k * 3)).off + 2, none⟩ (am1.add t) (am2.add t) (.slice (some am1) a.M.length e1) (.slice (some am2) b.M.length e2) ux uy wr.drew := ⟨p2, q2, c0, c1⟩
                  clear hcx hcy hx hy hbx hr hlo
                  go_wp2_with fail
                  go_region_held3 (fun w' => w'.cell? ⟨(ad1.add (k * 3)).block, (ad1.add (k * 3)).off + 2, none⟩ = some (.slice (some am1) a.M.length e1) ∧ w'.cell? ⟨(ad2.add (k * 3)).block, (ad2.add (k * 3)).off + 2, none⟩ = some (.slice (some am2) b.M.length e2) ∧ w'.cell? (am1.add t) = some ux ∧ w'.cell? (am2.add t) = some uy)
                    (first | exact hS | exact hS.on h1 | go_keep)
                    ((first
                      | (go_at_call 20; refine HC.out.mono ?_; rintro e w9 ⟨rfl, h1⟩)
                      | fail))
                  have hb9 : Below wr.heap.size wr w9 := (Below.refl _ _).drew.trans h1
                  clear p2 q2 c0 c1
                  cases r with
                  | true =>
                    go_wp2
                    obtain rfl := eqB_iff.1 HRR.out
                    refine ⟨⟨t + 1, ?_, by omega, eq_take_next HX.out HY.out HTT.out, HBX.out.trans (hb9.mono HBX.out.size)⟩, ?_⟩
                    · go_num
                    · simp [intOf]; omega
                  | false =>
                    go_wp2
                    go_ret
                    have hne : ¬ a = b := fun e => eq_ne_at HX.out HY.out (eqB_false HRR.out) (by rw [e])
                    exact ⟨by rw [HNE.out hne]; rfl, HB3.out.trans (hb9.mono HB3.out.size)⟩
                · obtain rfl : t = a.M.length := by omega
                  have hM : a.M = b.M := by
                    have h := HTT.out
                    rwa [List.take_length, HL.out, List.take_length] at h
                  have hab : a = b := by
                    obtain ⟨n1, s1, M1⟩ := a
                    obtain ⟨n2, s2, M2⟩ := b
                    have h1 := HN.out
                    have h2 := HSs.out
                    simp only at h1 h2 hM
                    rw [h1, h2, hM]
                  have HAB := Lib.hid hab
                  clear hM hab
                  go_wp2
                  refine ⟨⟨k + 1, ?_, by omega, eq_take_next HA.out (by rw [HAB.out]; exact HBv.out) HTK.out, HB3.out⟩, ?_⟩
                  · go_num
                  · simp [intOf]; omega
            · have hlq : ((a.M.length : Int) != (b.M.length : Int)) = true := by rw [bne_iff_ne]; omega
              have he := HNE.out (fun e => hl (by rw [e]))
              clear hn hs hl
              go_wp2_with fail
              go_quiet (fail)
              go_wp2
              go_ret
              exact ⟨by rw [he]; rfl, below_draws HBW.out _⟩
          · have hsq : (!((tx a.s).toList == (tx b.s).toList)) = true := by
              have h : ((tx a.s).toList == (tx b.s).toList) = false := by
                rw [beq_eq_false_iff_ne, ByteArray.toList_eq, ByteArray.toList_eq, tx_list, tx_list]
                exact hs
              rw [h]; rfl
            have he := HNE.out (fun e => hs (by rw [e]))
            clear hn hs
            go_wp2_with fail
            go_quiet (fail)
            go_wp2
            go_ret
            exact ⟨by rw [he]; rfl, below_draws HBW.out _⟩
        · have hnq : (a.n != b.n) = true := by simp [hn]
          have he := HNE.out (fun e => hn (by rw [e]))
          clear hn
          go_wp2_with fail
          go_quiet (fail)
          go_wp2
          go_ret
          exact ⟨by rw [he]; rfl, below_draws HBW.out _⟩
      · obtain rfl : k = l.length := by omega
        have e : l = m := by
          have h := HTK.out
          rwa [List.take_length, HLEN.out, List.take_length] at h
        go_wp2
        go_ret
        exact ⟨by rw [eqB_yes e]; rfl, hbw⟩
  · have hne : ((l.length : Int) == (m.length : Int)) = false := by rw [beq_eq_false_iff_ne]; omega
    have HE := Lib.hid (eqB_no (fun e : l = m => hlen (by rw [e])))
    go_enter Tryz.func45, Tryz.ntmps45
    go_wp2
    go_ret
    exact ⟨by rw [HE.out]; rfl, Below.refl _ _⟩
theorem eqB_ne {x y : So} {l m : List So} {k : Nat} (hx : l[k]? = some x) (hy : m[k]? = some y) (h : ¬ x = y) : eqB l m = false := eqB_no (eq_ne_at hx hy h)
set_option maxRecDepth 1000000 in
set_option maxHeartbeats 8000000 in
theorem rsame_step {B d : Nat} (H : RSameH B d) : RSameH B (d + 1) := by
  rintro a b u1 u2 w hB ⟨u, hu, hl⟩ ⟨u', hu', hm⟩
  simp only [List.cons.injEq, and_true] at hu hu'
  subst hu hu'
  obtain ⟨A1, d1, xs1, rfl, hs1, hb1, hr1, hn1⟩ := hl.open_
  obtain ⟨A2, d2, xs2, rfl, hs2, hb2, hr2, hn2⟩ := hm.open_
  obtain ⟨X1, X2, LBD⟩ := two_boxes w (.cells #[.slice A1 a.F.length d1] 28) (.cells #[.slice A2 b.F.length d2] 28)
  have HS1 := Lib.hid hs1
  have HR1 := Lib.hid hr1
  have HB1 := Lib.hid hb1
  have HS2 := Lib.hid hs2
  have HR2 := Lib.hid hr2
  have HB2 := Lib.hid hb2
  have HH := Lib.hid H
  rw [eqB_msg]
  clear hs1 hr1 hs2 hr2 hl hm hb1 hb2 H
  by_cases hlen : a.F.length = b.F.length
  · have HLEN := Lib.hid hlen
    have hlq : ((a.F.length : Int) != (b.F.length : Int)) = false := by rw [hlen]; exact bne_self_eq_false _
    clear hlen
    go_enter Tryz.func20, Tryz.ntmps20
    go_wp2
    obtain ⟨W0, hW0⟩ : ∃ W, W = (w.alloc (.cells #[.slice A1 a.F.length d1] 28)).alloc (.cells #[.slice A2 b.F.length d2] 28) := ⟨_, rfl⟩
    rw [← hW0] at X1 X2 LBD ⊢
    clear hW0
    go_loopw [5, 6, 7] (fun i p q wr => ∃ k : Nat, i = .int .i64 k ∧ k ≤ a.F.length ∧ a.F.take k = b.F.take k ∧ Below W0.heap.size W0 wr) (fun i _ _ _ => a.F.length - (intOf i).toNat)
    case atStart => exact ⟨0, rfl, by omega, rfl, Below.refl _ _⟩
    case round =>
      obtain ⟨k, rfl, hk, htk, hbw⟩ := hrel
      have HTK := Lib.hid htk
      have HBW := Lib.hid (LBD.trans (hbw.mono LBD.size))
      have HBX := Lib.hid hbw
      have g1 := bx1 (box_on X1 hbw)
      have g2 := bx1 (box_on X2 hbw)
      clear htk
      by_cases hlt : k < a.F.length
      · have hlt2 : k < b.F.length := by rw [← HLEN.out]; exact hlt
        obtain ⟨x, ha⟩ : ∃ x, a.F[k]? = some x := ⟨_, List.getElem?_eq_getElem hlt⟩
        obtain ⟨y, hb⟩ : ∃ x, b.F[k]? = some x := ⟨_, List.getElem?_eq_getElem hlt2⟩
        obtain ⟨ad1, x1, k1, v1, rfl, hg1, hc1, p0, p1, p2⟩ := row3 sAt.len (sl_low HS1.out HB1.out (Lo.below HBW.out hB)) (HR1.out.imp fun a cs h => SRd.low (Lo.below HBW.out hB) h) ha
        obtain ⟨ad2, x2, k2, v2, rfl, hg2, hc2, q0, q1, q2⟩ := row3 sAt.len (sl_low HS2.out HB2.out (Lo.below HBW.out hB)) (HR2.out.imp fun a cs h => SRd.low (Lo.below HBW.out hB) h) hb
        obtain ⟨rfl, hk1, hv1⟩ := hc1.parts
        obtain ⟨rfl, hk2, hv2⟩ := hc2.parts
        have hB2 := Nat.le_trans hB HBW.out.size
        have HK := Lib.hid (fun wx (hx : Below wr.heap.size wr wx) => vals_any HH.out x.K y.K k1 k2 wx (Nat.le_trans hB2 hx.size) (hk1.low (Lo.below hx hB2) fun a cs h => VRd.low (Lo.below hx hB2) h) (hk2.low (Lo.below hx hB2) fun a cs h => VRd.low (Lo.below hx hB2) h))
        have HV := Lib.hid (fun wx (hx : Below wr.heap.size wr wx) => vals_any HH.out x.V y.V v1 v2 wx (Nat.le_trans hB2 hx.size) (hv1.low (Lo.below hx hB2) fun a cs h => VRd.low (Lo.below hx hB2) h) (hv2.low (Lo.below hx hB2) fun a cs h => VRd.low (Lo.below hx hB2) h))
        have HA := Lib.hid ha
        have HBb := Lib.hid hb
        have HEQ := Lib.hid (eqB_slot x y)
        obtain ⟨rk, hrk⟩ : ∃ r, eqB x.K y.K = r := ⟨_, rfl⟩
        obtain ⟨rv, hrv⟩ : ∃ r, eqB x.V y.V = r := ⟨_, rfl⟩
        rw [hrk] at HK HEQ
        rw [hrv] at HV HEQ
        have L0 : Below wr.heap.size wr wr.drew := (Below.refl _ _).drew
        have hS1 : Q4 ⟨w.heap.size, 0, none⟩ ⟨w.heap.size + 1, 0, none⟩ ⟨(ad1.add (k * 3)).block, (ad1.add (k * 3)).off + 1, none⟩ ⟨(ad2.add (k * 3)).block, (ad2.add (k * 3)).off + 1, none⟩ (.slice (some ad1) a.F.length d1) (.slice (some ad2) b.F.length d2) k1 k2 wr.drew := ⟨g1, g2, p1, q1⟩
        clear hc1 hc2 hk1 hv1 hk2 hv2 ha hb hbw hrk hrv hB2
        go_wp2_with fail
        go_region_held3 (fun w' => w'.cell? ⟨w.heap.size, 0, none⟩ = some (.slice (some ad1) a.F.length d1) ∧ w'.cell? ⟨w.heap.size + 1, 0, none⟩ = some (.slice (some ad2) b.F.length d2) ∧ w'.cell? ⟨(ad1.add (k * 3)).block, (ad1.add (k * 3)).off + 1, none⟩ = some k1 ∧ w'.cell? ⟨(ad2.add (k * 3)).block, (ad2.add (k * 3)).off + 1, none⟩ = some k2)
          (first | exact hS1 | exact Q4.on hS1 h6 | go_keep)
          ((first
            | (go_at_call 45; refine (HK.out _ L0).mono ?_; rintro e w6 ⟨rfl, h6⟩)
            | fail))
        have L6 := below_then L0 h6
        have p2' := cell_on L6 p2
        have q2' := cell_on L6 q2
        have g1' := cell_on L6 g1
        have g2' := cell_on L6 g2
        have p0' := cell_on L6 p0
        have q0' := cell_on L6 q0
        have L6d : Below wr.heap.size wr w6.drew := L6.trans (Below.refl _ _).drew
        have hS2 : Q4 ⟨w.heap.size, 0, none⟩ ⟨w.heap.size + 1, 0, none⟩ ⟨(ad1.add (k * 3)).block, (ad1.add (k * 3)).off + 2, none⟩ ⟨(ad2.add (k * 3)).block, (ad2.add (k * 3)).off + 2, none⟩ (.slice (some ad1) a.F.length d1) (.slice (some ad2) b.F.length d2) v1 v2 w6.drew := ⟨g1', g2', p2', q2'⟩
        clear g1 g2 p0 p1 p2 q0 q1 q2 h6 L0
        go_wp2_with fail
        go_region_held3 (fun w' => w'.cell? ⟨w.heap.size, 0, none⟩ = some (.slice (some ad1) a.F.length d1) ∧ w'.cell? ⟨w.heap.size + 1, 0, none⟩ = some (.slice (some ad2) b.F.length d2) ∧ w'.cell? ⟨(ad1.add (k * 3)).block, (ad1.add (k * 3)).off + 2, none⟩ = some v1 ∧ w'.cell? ⟨(ad2.add (k * 3)).block, (ad2.add (k * 3)).off + 2, none⟩ = some v2)
          (first | exact hS2 | exact Q4.on hS2 h7 | go_keep)
          ((first
            | (go_at_call 45; refine (HV.out _ L6d).mono ?_; rintro e w7 ⟨rfl, h7⟩)
            | fail))
        have L7 := below_then L6d h7
        have h67 : Below w6.heap.size w6 w7 := (Below.refl _ _).drew.trans h7
        have p0 := cell_on h67 p0'
        have q0 := cell_on h67 q0'
        have g1 := cell_on h67 g1'
        have g2 := cell_on h67 g2'
        have hlt3 : k < b.F.length := by rw [← HLEN.out]; exact hlt
        clear g1' g2' p0' q0' p2' q2' h7 h67 L6 L6d hS1 hS2
        cases rk with
        | false =>
          go_wp2_with fail
          go_quiet (fail)
          go_wp2
          go_ret
          have he : eqB x y = false := by rw [HEQ.out]; simp
          exact ⟨by rw [eqB_ne HA.out HBb.out (eqB_false he)]; rfl, (HBW.out.trans (L7.mono HBW.out.size)).trans (below_draws (Below.refl _ _) _)⟩
        | true =>
          cases rv with
          | false =>
            go_wp2_with fail
            go_quiet (fail)
            go_wp2
            go_ret
            have he : eqB x y = false := by rw [HEQ.out]; simp
            exact ⟨by rw [eqB_ne HA.out HBb.out (eqB_false he)]; rfl, (HBW.out.trans (L7.mono HBW.out.size)).trans (below_draws (Below.refl _ _) _)⟩
          | true =>
            by_cases hno : x.no = y.no
            · have hq : (x.no != y.no) = false := by simp [hno]
              have he : eqB x y = true := by rw [HEQ.out]; simp [hno]
              have HE := Lib.hid he
              clear hno he
              go_wp2_with fail
              go_quiet (fail)
              go_wp2
              refine ⟨⟨k + 1, ?_, by omega, eq_take_next HA.out (by rw [eqB_iff.1 HE.out]; exact HBb.out) HTK.out, (HBX.out.trans (L7.mono HBX.out.size)).trans (below_draws (Below.refl _ _) _)⟩, ?_⟩
              · go_num
              · simp [intOf]; omega
            · have hq : (x.no != y.no) = true := by simp [hno]
              have he : eqB x y = false := by rw [HEQ.out]; simp [hno]
              have HE := Lib.hid he
              clear hno he
              go_wp2_with fail
              go_quiet (fail)
              go_wp2
              go_ret
              exact ⟨by rw [eqB_ne HA.out HBb.out (eqB_false HE.out)]; rfl, (HBW.out.trans (L7.mono HBW.out.size)).trans (below_draws (Below.refl _ _) _)⟩
      · obtain rfl : k = a.F.length := by omega
        have e : a.F = b.F := by
          have h := HTK.out
          rwa [List.take_length, HLEN.out, List.take_length] at h
        have HE := Lib.hid (eqB_yes e)
        clear e
        go_wp2
        go_ret
        exact ⟨by rw [HE.out]; rfl, HBW.out⟩
  · have hlq : ((a.F.length : Int) != (b.F.length : Int)) = true := by rw [bne_iff_ne]; omega
    have HE := Lib.hid (eqB_no (fun e : a.F = b.F => hlen (by rw [e])))
    clear hlen
    go_enter Tryz.func20, Tryz.ntmps20
    go_wp2
    go_ret
    exact ⟨by rw [HE.out]; rfl, LBD⟩
/-- truffleref09.Same, of any two messages. -/
theorem rsame_any9 (B : Nat) : ∀ d, RSameH B d
  | 0 => fun _ _ _ _ _ _ h _ => h.elim
  | d + 1 => rsame_step (rsame_any9 B d)
end Go.Proofs.YtggcjdajmbkpiaaGreatDoor.T9
/-
  The contracts of the functions of Go that this program calls, laid at this program: each is one application of the theorem that the library proves once.
-/
namespace Go.Proofs
open Go.Shelf
def Tryz.laysSlF06_f90_ren : Go.Shelf.Ren := ⟨fun | 6 => 90 | 15 => 152 | 14 => 151 | 28 => 193 | 29 => 194 | 20 => 185 | 21 => 186 | 22 => 187 | 23 => 188 | 24 => 189 | 25 => 190 | 26 => 191 | 27 => 192 | 46 => 226 | 47 => 227 | 48 => 228 | 49 => 229 | 50 => 230 | 57 => 244 | n => n, fun | 22 => 26 | 24 => 36 | 25 => 126 | 3 => 3 | 39 => 161 | 0 => 0 | 53 => 219 | 55 => 58 | 4 => 4 | 46 => 213 | 45 => 212 | 50 => 114 | 5 => 5 | 9 => 9 | 66 => 237 | 70 => 241 | 76 => 256 | 77 => 257 | n => n, fun | n => n⟩
theorem Tryz.laysSlF06_f90 : Go.Proofs.SlLaysF0.n6 Tryz.prog Tryz.laysSlF06_f90_ren := {
  mixed := by kernel_rfl
  f6 := ⟨Tryz.f90.name, by decide, Tryz.func90.trans (congrArg some (by kernel_rfl))⟩
  f14 := ⟨Tryz.f151.name, by decide, Tryz.func151.trans (congrArg some (by kernel_rfl))⟩
  f15 := Tryz.func152.trans (congrArg some (by kernel_rfl))
  f20 := ⟨Tryz.f185.name, by decide, Tryz.func185.trans (congrArg some (by kernel_rfl))⟩
  f21 := ⟨Tryz.f186.name, by decide, Tryz.func186.trans (congrArg some (by kernel_rfl))⟩
  f22 := ⟨Tryz.f187.name, by decide, Tryz.func187.trans (congrArg some (by kernel_rfl))⟩
  f23 := ⟨Tryz.f188.name, by decide, Tryz.func188.trans (congrArg some (by kernel_rfl))⟩
  f24 := ⟨Tryz.f189.name, by decide, Tryz.func189.trans (congrArg some (by kernel_rfl))⟩
  f25 := ⟨Tryz.f190.name, by decide, Tryz.func190.trans (congrArg some (by kernel_rfl))⟩
  f26 := ⟨Tryz.f191.name, by decide, Tryz.func191.trans (congrArg some (by kernel_rfl))⟩
  f27 := ⟨Tryz.f192.name, by decide, Tryz.func192.trans (congrArg some (by kernel_rfl))⟩
  f28 := Tryz.func193.trans (congrArg some (by kernel_rfl))
  f29 := Tryz.func194.trans (congrArg some (by kernel_rfl))
  f46 := ⟨Tryz.f226.name, by decide, Tryz.func226.trans (congrArg some (by kernel_rfl))⟩
  f47 := Tryz.func227.trans (congrArg some (by kernel_rfl))
  f48 := Tryz.func228.trans (congrArg some (by kernel_rfl))
  f49 := ⟨Tryz.f229.name, by decide, Tryz.func229.trans (congrArg some (by kernel_rfl))⟩
  f50 := ⟨Tryz.f230.name, by decide, Tryz.func230.trans (congrArg some (by kernel_rfl))⟩
  f57 := ⟨Tryz.f244.name, by decide, Tryz.func244.trans (congrArg some (by kernel_rfl))⟩
  t0 := Tryz.underlying0
  a0 := Tryz.isAgg0
  z0 := Tryz.sizeOf0
  v0 := Tryz.zeroValue0
  t3 := Tryz.underlying3
  a3 := Tryz.isAgg3
  z3 := Tryz.sizeOf3
  v3 := Tryz.zeroValue3
  t4 := Tryz.underlying4
  a4 := Tryz.isAgg4
  z4 := Tryz.sizeOf4
  v4 := Tryz.zeroValue4
  t5 := Tryz.underlying5
  a5 := Tryz.isAgg5
  z5 := Tryz.sizeOf5
  v5 := Tryz.zeroValue5
  t9 := Tryz.underlying9
  a9 := Tryz.isAgg9
  z9 := Tryz.sizeOf9
  v9 := Tryz.zeroValue9
  t22 := Tryz.underlying26
  a22 := Tryz.isAgg26
  z22 := Tryz.sizeOf26
  v22 := Tryz.zeroValue26
  t25 := Tryz.underlying126
  a25 := Tryz.isAgg126
  z25 := Tryz.sizeOf126
  v25 := Tryz.zeroValue126
  t39 := Tryz.underlying161
  a39 := Tryz.isAgg161
  z39 := Tryz.sizeOf161
  v39 := Tryz.zeroValue161
  t45 := Tryz.underlying212
  a45 := Tryz.isAgg212
  z45 := Tryz.sizeOf212
  v45 := Tryz.zeroValue212
  t46 := Tryz.underlying213
  a46 := Tryz.isAgg213
  z46 := Tryz.sizeOf213
  v46 := Tryz.zeroValue213
  t50 := Tryz.underlying114
  a50 := Tryz.isAgg114
  z50 := Tryz.sizeOf114
  v50 := Tryz.zeroValue114
  t53 := Tryz.underlying219
  a53 := Tryz.isAgg219
  z53 := Tryz.sizeOf219
  v53 := Tryz.zeroValue219
  t55 := Tryz.underlying58
  a55 := Tryz.isAgg58
  z55 := Tryz.sizeOf58
  v55 := Tryz.zeroValue58
  t66 := Tryz.underlying237
  a66 := Tryz.isAgg237
  z66 := Tryz.sizeOf237
  v66 := Tryz.zeroValue237
  t70 := Tryz.underlying241
  a70 := Tryz.isAgg241
  z70 := Tryz.sizeOf241
  v70 := Tryz.zeroValue241
  t76 := Tryz.underlying256
  a76 := Tryz.isAgg256
  z76 := Tryz.sizeOf256
  v76 := Tryz.zeroValue256
  t77 := Tryz.underlying257
  a77 := Tryz.isAgg257
  z77 := Tryz.sizeOf257
  v77 := Tryz.zeroValue257 }
def Tryz.laysSlF06_f183_ren : Go.Shelf.Ren := ⟨fun | 6 => 183 | 15 => 152 | 14 => 225 | 28 => 193 | 29 => 194 | 20 => 236 | 21 => 237 | 22 => 238 | 23 => 239 | 24 => 240 | 25 => 241 | 26 => 242 | 27 => 243 | 46 => 248 | 47 => 227 | 48 => 228 | 49 => 249 | 50 => 250 | 57 => 252 | n => n, fun | 22 => 34 | 24 => 31 | 25 => 210 | 3 => 3 | 39 => 161 | 0 => 0 | 53 => 219 | 55 => 58 | 4 => 4 | 46 => 213 | 45 => 212 | 50 => 114 | 5 => 5 | 9 => 9 | 66 => 237 | 70 => 241 | 76 => 256 | 77 => 257 | n => n, fun | n => n⟩
theorem Tryz.laysSlF06_f183 : Go.Proofs.SlLaysF0.n6 Tryz.prog Tryz.laysSlF06_f183_ren := {
  mixed := by kernel_rfl
  f6 := ⟨Tryz.f183.name, by decide, Tryz.func183.trans (congrArg some (by kernel_rfl))⟩
  f14 := ⟨Tryz.f225.name, by decide, Tryz.func225.trans (congrArg some (by kernel_rfl))⟩
  f15 := Tryz.func152.trans (congrArg some (by kernel_rfl))
  f20 := ⟨Tryz.f236.name, by decide, Tryz.func236.trans (congrArg some (by kernel_rfl))⟩
  f21 := ⟨Tryz.f237.name, by decide, Tryz.func237.trans (congrArg some (by kernel_rfl))⟩
  f22 := ⟨Tryz.f238.name, by decide, Tryz.func238.trans (congrArg some (by kernel_rfl))⟩
  f23 := ⟨Tryz.f239.name, by decide, Tryz.func239.trans (congrArg some (by kernel_rfl))⟩
  f24 := ⟨Tryz.f240.name, by decide, Tryz.func240.trans (congrArg some (by kernel_rfl))⟩
  f25 := ⟨Tryz.f241.name, by decide, Tryz.func241.trans (congrArg some (by kernel_rfl))⟩
  f26 := ⟨Tryz.f242.name, by decide, Tryz.func242.trans (congrArg some (by kernel_rfl))⟩
  f27 := ⟨Tryz.f243.name, by decide, Tryz.func243.trans (congrArg some (by kernel_rfl))⟩
  f28 := Tryz.func193.trans (congrArg some (by kernel_rfl))
  f29 := Tryz.func194.trans (congrArg some (by kernel_rfl))
  f46 := ⟨Tryz.f248.name, by decide, Tryz.func248.trans (congrArg some (by kernel_rfl))⟩
  f47 := Tryz.func227.trans (congrArg some (by kernel_rfl))
  f48 := Tryz.func228.trans (congrArg some (by kernel_rfl))
  f49 := ⟨Tryz.f249.name, by decide, Tryz.func249.trans (congrArg some (by kernel_rfl))⟩
  f50 := ⟨Tryz.f250.name, by decide, Tryz.func250.trans (congrArg some (by kernel_rfl))⟩
  f57 := ⟨Tryz.f252.name, by decide, Tryz.func252.trans (congrArg some (by kernel_rfl))⟩
  t0 := Tryz.underlying0
  a0 := Tryz.isAgg0
  z0 := Tryz.sizeOf0
  v0 := Tryz.zeroValue0
  t3 := Tryz.underlying3
  a3 := Tryz.isAgg3
  z3 := Tryz.sizeOf3
  v3 := Tryz.zeroValue3
  t4 := Tryz.underlying4
  a4 := Tryz.isAgg4
  z4 := Tryz.sizeOf4
  v4 := Tryz.zeroValue4
  t5 := Tryz.underlying5
  a5 := Tryz.isAgg5
  z5 := Tryz.sizeOf5
  v5 := Tryz.zeroValue5
  t9 := Tryz.underlying9
  a9 := Tryz.isAgg9
  z9 := Tryz.sizeOf9
  v9 := Tryz.zeroValue9
  t22 := Tryz.underlying34
  a22 := Tryz.isAgg34
  z22 := Tryz.sizeOf34
  v22 := Tryz.zeroValue34
  t25 := Tryz.underlying210
  a25 := Tryz.isAgg210
  z25 := Tryz.sizeOf210
  v25 := Tryz.zeroValue210
  t39 := Tryz.underlying161
  a39 := Tryz.isAgg161
  z39 := Tryz.sizeOf161
  v39 := Tryz.zeroValue161
  t45 := Tryz.underlying212
  a45 := Tryz.isAgg212
  z45 := Tryz.sizeOf212
  v45 := Tryz.zeroValue212
  t46 := Tryz.underlying213
  a46 := Tryz.isAgg213
  z46 := Tryz.sizeOf213
  v46 := Tryz.zeroValue213
  t50 := Tryz.underlying114
  a50 := Tryz.isAgg114
  z50 := Tryz.sizeOf114
  v50 := Tryz.zeroValue114
  t53 := Tryz.underlying219
  a53 := Tryz.isAgg219
  z53 := Tryz.sizeOf219
  v53 := Tryz.zeroValue219
  t55 := Tryz.underlying58
  a55 := Tryz.isAgg58
  z55 := Tryz.sizeOf58
  v55 := Tryz.zeroValue58
  t66 := Tryz.underlying237
  a66 := Tryz.isAgg237
  z66 := Tryz.sizeOf237
  v66 := Tryz.zeroValue237
  t70 := Tryz.underlying241
  a70 := Tryz.isAgg241
  z70 := Tryz.sizeOf241
  v70 := Tryz.zeroValue241
  t76 := Tryz.underlying256
  a76 := Tryz.isAgg256
  z76 := Tryz.sizeOf256
  v76 := Tryz.zeroValue256
  t77 := Tryz.underlying257
  a77 := Tryz.isAgg257
  z77 := Tryz.sizeOf257
  v77 := Tryz.zeroValue257 }
open Go.RowKit Go.Lib Go.Sort in
theorem Tryz.slices_SortFunc_f90 {α : Type} [Inhabited α] (k : Nat) (aE : ∀ w, (isAgg 36).run Tryz.prog w = .ok true w) (zE : ∀ w, (Go.sizeOf 36).run Tryz.prog w = .ok k w) (enc : α → List Value) (hk : ∀ x, (enc x).length = k) (h1 : ∀ x, ∀ v ∈ enc x, v.oneCell' = true) (cf : α → α → Int) (hO : SWO (ltOf cf)) (g : Nat) (cb : Array Value) (blk off cap : Nat) (d : Array α) (w : World) (eg : ∀ args w, (callFunc g args).run Tryz.prog w = .ok (.enter g args) w) (hcmp : CmpLays Tryz.prog g cb enc k cf blk off d.size w) (hH : HoldsK enc k w blk off d) (hblk : blk < w.heap.size) (hsz : d.size < 4611686018427387904) :
    Calls Tryz.prog 90 #[.slice (some ⟨blk, off, none⟩) d.size cap, .func (.func g) #[] cb] w fun e w' =>
      e = .returned (.tuple #[]) ∧ ∃ d' n os, PermIn 0 d.size d d' ∧ SortedIn (ltOf cf) 0 d.size d' ∧ w' = sortWorldK enc k w blk off n d' os := AnyQ.slices_SortFunc Tryz.laysSlF06_f90 k aE zE enc hk h1 cf hO g cb blk off cap d w eg hcmp hH hblk hsz
open Go.RowKit Go.Lib Go.Sort in
theorem Tryz.slices_SortFunc_f183 {α : Type} [Inhabited α] (k : Nat) (aE : ∀ w, (isAgg 31).run Tryz.prog w = .ok true w) (zE : ∀ w, (Go.sizeOf 31).run Tryz.prog w = .ok k w) (enc : α → List Value) (hk : ∀ x, (enc x).length = k) (h1 : ∀ x, ∀ v ∈ enc x, v.oneCell' = true) (cf : α → α → Int) (hO : SWO (ltOf cf)) (g : Nat) (cb : Array Value) (blk off cap : Nat) (d : Array α) (w : World) (eg : ∀ args w, (callFunc g args).run Tryz.prog w = .ok (.enter g args) w) (hcmp : CmpLays Tryz.prog g cb enc k cf blk off d.size w) (hH : HoldsK enc k w blk off d) (hblk : blk < w.heap.size) (hsz : d.size < 4611686018427387904) :
    Calls Tryz.prog 183 #[.slice (some ⟨blk, off, none⟩) d.size cap, .func (.func g) #[] cb] w fun e w' =>
      e = .returned (.tuple #[]) ∧ ∃ d' n os, PermIn 0 d.size d d' ∧ SortedIn (ltOf cf) 0 d.size d' ∧ w' = sortWorldK enc k w blk off n d' os := AnyQ.slices_SortFunc Tryz.laysSlF06_f183 k aE zE enc hk h1 cf hO g cb blk off cap d w eg hcmp hH hblk hsz
open Go.RowKit Go.Lib Go.Sort in
theorem Tryz.slices_SortFunc_none_f90 {α : Type} [Inhabited α] (p : Option Addr) (cap : Nat) (fv : Value) (w : World) :
    Calls Tryz.prog 90 #[.slice p 0 cap, fv] w fun e w' => e = .returned (.tuple #[]) ∧ w' = w := AnyF.slices_SortFunc_none Tryz.laysSlF06_f90 p cap fv w
open Go.RowKit Go.Lib Go.Sort in
theorem Tryz.slices_SortFunc_none_f183 {α : Type} [Inhabited α] (p : Option Addr) (cap : Nat) (fv : Value) (w : World) :
    Calls Tryz.prog 183 #[.slice p 0 cap, fv] w fun e w' => e = .returned (.tuple #[]) ∧ w' = w := AnyF.slices_SortFunc_none Tryz.laysSlF06_f183 p cap fv w
end Go.Proofs
/-
  What texts are made of: blanks, tokens, and all tokens of a text, by plain functions on lists of bytes; and what is plain of them.
-/
namespace Go.Proofs.YtggcjdajmbkpiaaGreatDoor
set_option maxRecDepth 100000

def isBlank (c : UInt8) : Bool := c == 32 || c == 9 || c == 10 || c == 13
def isDigit (c : UInt8) : Bool := decide (48 ≤ c.toNat) && decide (c.toNat ≤ 57)
def isFirst (c : UInt8) : Bool := decide (97 ≤ c.toNat) && decide (c.toNat ≤ 122) || decide (65 ≤ c.toNat) && decide (c.toNat ≤ 90) || c == 95
def isNext (c : UInt8) : Bool := isFirst c || isDigit c
def isSign (c : UInt8) : Bool := [123, 125, 40, 41, 91, 93, 60, 62, 61, 59, 44, 46].contains c
def isPlain (c : UInt8) : Bool := decide (32 ≤ c.toNat) && decide (c.toNat ≤ 126)

/-- How many first bytes are of a set. -/
def span (f : UInt8 → Bool) : List UInt8 → Nat
  | [] => 0
  | c :: r => if f c then span f r + 1 else 0

/-- How many first bytes are blanks (true: within a comment). -/
def ws : Bool → List UInt8 → Nat
  | _, [] => 0
  | true, c :: r => 1 + ws (c != 10) r
  | false, c :: r => if isBlank c then 1 + ws false r else if c == 47 && r.head? == some 47 then 1 + ws true r else 0

def hexv (c : UInt8) : Option Nat :=
  if isDigit c then some (c.toNat - 48) else if decide (97 ≤ c.toNat) && decide (c.toNat ≤ 102) then some (c.toNat - 87) else none

/-- The byte that is meant, within a string, and how many bytes more mean it. -/
def meant : List UInt8 → Option (UInt8 × Nat)
  | [] => none
  | c :: r =>
    if c == 92 then
      match r with
      | [] => none
      | d :: r2 =>
        if d == 34 || d == 92 then some (d, 1)
        else if d == 110 then some (10, 1)
        else if d == 120 then
          match r2 with
          | h :: k :: _ => match hexv h, hexv k with
            | some a, some b => some (UInt8.ofNat (16 * a + b), 3)
            | _, _ => none
          | _ => none
        else none
    else if isPlain c || decide (128 ≤ c.toNat) then some (c, 0) else none

/-- What a string means, behind so many bytes of a mark, and how many bytes it has, with the sign that ends it. -/
def strB : Nat → List UInt8 → Option (List UInt8 × Nat)
  | _, [] => none
  | k + 1, _ :: r => (strB k r).map fun x => (x.1, x.2 + 1)
  | 0, c :: r =>
    if c == 34 then some ([], 1)
    else match meant (c :: r) with
      | none => none
      | some (b, k) => (strB k r).map fun x => (b :: x.1, x.2 + 1)

/-- What digits spell. -/
def dval (a : Nat) (l : List UInt8) : Nat := l.foldl (fun a c => 10 * a + (c.toNat - 48)) a

/-- The number of digits, with a sign or not. -/
def numOf (itoa : Int → List UInt8) (t : List UInt8) : Option Int :=
  match t with
  | [] => none
  | c :: r =>
    let v : Int := if c = 45 then -(dval 0 r : Int) else (dval 0 (c :: r) : Int)
    if -9223372036854775808 ≤ v ∧ v ≤ 9223372036854775807 ∧ itoa v = t then some v else none

/-- A token: its kind, text, number, and how many bytes it has, but one. -/
structure Tk where
  kind : Nat
  text : List UInt8
  num : Int
  more : Nat

structure T where
  kind : Nat
  text : List UInt8
  num : Int
  at_ : Nat
  deriving Inhabited

def tk (itoa : Int → List UInt8) : List UInt8 → Option Tk
  | [] => none
  | c :: r =>
    if isFirst c then some ⟨0, c :: r.take (span isNext r), 0, span isNext r⟩
    else if isDigit c || c == 45 then (numOf itoa (c :: r.take (span isDigit r))).map fun n => ⟨1, c :: r.take (span isDigit r), n, span isDigit r⟩
    else if c == 34 then (strB 0 r).map fun x => ⟨2, x.1, 0, x.2⟩
    else if isSign c then some ⟨3, [c], 0, 0⟩
    else none

/-- All tokens of what follows, behind so many bytes; and where none begins. -/
def lex (itoa : Int → List UInt8) : Nat → Nat → List UInt8 → List T × Option Nat
  | _, _, [] => ([], none)
  | k + 1, p, _ :: r => lex itoa k (p + 1) r
  | 0, p, c :: r =>
    match ws false (c :: r) with
    | w + 1 => lex itoa w (p + 1) r
    | 0 => match tk itoa (c :: r) with
      | none => ([], some p)
      | some t => (⟨t.kind, t.text, t.num, p⟩ :: (lex itoa t.more (p + 1) r).1, (lex itoa t.more (p + 1) r).2)

/-- What is told of a text. -/
def ansT (x : List T × Option Nat) : List T := if 1000 < x.1.length then [] else if x.2.isSome then [] else x.1
def ansAt (n : Nat) (x : List T × Option Nat) : Nat := if 1000 < x.1.length then (x.1.getD 1000 default).at_ else x.2.getD n
def ansE (x : List T × Option Nat) : Nat := if 1000 < x.1.length then 2 else if x.2.isSome then 4 else 0
def allT (itoa : Int → List UInt8) (l : List UInt8) : List T := if 5000 < l.length then [] else ansT (lex itoa 0 0 l)
def allAt (itoa : Int → List UInt8) (l : List UInt8) : Nat := if 5000 < l.length then 0 else ansAt l.length (lex itoa 0 0 l)
def allE (itoa : Int → List UInt8) (l : List UInt8) : Nat := if 5000 < l.length then 2 else ansE (lex itoa 0 0 l)

def hexd (n : Nat) : UInt8 := [48, 49, 50, 51, 52, 53, 54, 55, 56, 57, 97, 98, 99, 100, 101, 102].getD n 0
/-- What means a byte. -/
def q1 (c : UInt8) : List UInt8 :=
  if c == 34 || c == 92 then [92, c] else if c == 10 then [92, 110] else if isPlain c then [c] else [92, 120, hexd (c.toNat / 16), hexd (c.toNat % 16)]
def quote (s : List UInt8) : List UInt8 := 34 :: (s.flatMap q1 ++ [34])

/-! ### Spans -/

theorem span_le (f : UInt8 → Bool) : ∀ l : List UInt8, span f l ≤ l.length
  | [] => Nat.le_refl _
  | c :: r => by
    have := span_le f r
    unfold span
    split
    · simp; omega
    · simp
theorem span_drop (f : UInt8 → Bool) : ∀ l : List UInt8, span f (l.drop (span f l)) = 0
  | [] => rfl
  | c :: r => by
    by_cases h : f c
    · simp only [span, h, if_true, List.drop_succ_cons]
      exact span_drop f r
    · simp [span, h]
theorem span_all (f : UInt8 → Bool) : ∀ l : List UInt8, ∀ c ∈ l.take (span f l), f c = true
  | [], c, h => by simp at h
  | b :: r, c, h => by
    by_cases hb : f b
    · simp only [span, hb, if_true, List.take_succ_cons, List.mem_cons] at h
      rcases h with rfl | h
      · exact hb
      · exact span_all f r c h
    · simp [span, hb] at h
theorem span_whole (f : UInt8 → Bool) : ∀ l : List UInt8, (∀ c ∈ l, f c = true) → span f l = l.length
  | [], _ => rfl
  | c :: r, h => by
    have h1 := h c (by simp)
    have h2 := span_whole f r (fun d hd => h d (by simp [hd]))
    simp [span, h1, h2]
theorem span_app (f : UInt8 → Bool) (x : UInt8) (hx : f x = false) (t : List UInt8) : ∀ l, span f (l ++ x :: t) = span f l
  | [] => by simp [span, hx]
  | c :: r => by
    have := span_app f x hx t r
    simp only [List.cons_append, span, this]
theorem span_succ {f : UInt8 → Bool} {l : List UInt8} {k : Nat} (hk : k ≤ span f l) {c : UInt8} (hc : l[k]? = some c) : f c = true ↔ k + 1 ≤ span f l := by
  induction l generalizing k with
  | nil => simp at hc
  | cons b r ih =>
    unfold span at hk ⊢
    by_cases hb : f b
    · simp only [hb, if_true] at hk ⊢
      cases k with
      | zero => simp at hc; subst hc; simp [hb]
      | succ k =>
        have := ih (k := k) (by omega) (by simpa using hc)
        rw [this]; omega
    · simp only [hb] at hk ⊢
      obtain rfl : k = 0 := by simpa using hk
      simp at hc
      subst hc
      simp [hb]

/-! ### Blanks -/

theorem ws_le : ∀ (b : Bool) (l : List UInt8), ws b l ≤ l.length
  | _, [] => by simp [ws]
  | true, c :: r => by
    have := ws_le (c != 10) r
    simp only [ws, List.length_cons]; omega
  | false, c :: r => by
    have h1 := ws_le false r
    have h2 := ws_le true r
    simp only [ws, List.length_cons]
    split
    · omega
    · split <;> omega
theorem ws_step (l : List UInt8) : ws false l = span isBlank l + ws false (l.drop (span isBlank l)) := by
  induction l with
  | nil => simp [ws, span]
  | cons c r ih =>
    by_cases h : isBlank c
    · simp only [ws, span, h, if_true, List.drop_succ_cons]; omega
    · simp [span, h]
theorem ws_none {l : List UInt8} (h : span isBlank l = 0) (h2 : l.take 2 ≠ [47, 47]) : ws false l = 0 := by
  cases l with
  | nil => simp [ws]
  | cons c r =>
    have hb : isBlank c = false := by
      by_cases hb : isBlank c
      · simp [span, hb] at h
      · simpa using hb
    simp only [ws, hb]
    cases r with
    | nil => simp
    | cons d r =>
      simp at h2
      simp
      exact h2
theorem ws_true (l : List UInt8) : ws true l = if 10 ∈ l then span (fun c => c != 10) l + ws false (l.drop (span (fun c => c != 10) l)) else l.length := by
  induction l with
  | nil => simp [ws]
  | cons c r ih =>
    by_cases h : c = 10
    · subst h
      simp [ws, span, isBlank]
    · have h1 : (c != 10) = true := by simpa using h
      have h2 : (10 : UInt8) ≠ c := fun e => h e.symm
      simp only [ws, h1, span, if_true, List.mem_cons, h2, false_or, List.drop_succ_cons, List.length_cons]
      rw [ih]
      split <;> omega
theorem ws_comment {l : List UInt8} (h2 : l.take 2 = [47, 47]) : ws false l = ws true l := by
  obtain ⟨r, rfl⟩ : ∃ r, l = 47 :: 47 :: r := by
    match l with
    | [] => simp at h2
    | [a] => simp at h2
    | a :: b :: r => simp at h2; obtain ⟨rfl, rfl⟩ := h2; exact ⟨r, rfl⟩
  simp [ws, isBlank]
theorem ws_drop : ∀ (b : Bool) (l : List UInt8), ws false (l.drop (ws b l)) = 0
  | _, [] => by simp [ws]
  | true, c :: r => by
    simp only [ws, Nat.add_comm 1, List.drop_succ_cons]
    exact ws_drop _ r
  | false, c :: r => by
    by_cases h : isBlank c
    · simp only [ws, h, if_true, Nat.add_comm 1, List.drop_succ_cons]
      exact ws_drop _ r
    · by_cases h2 : (c == 47 && r.head? == some 47) = true
      · simp only [ws, h, h2, if_true, Nat.add_comm 1, List.drop_succ_cons, Bool.false_eq_true, if_false]
        exact ws_drop _ r
      · simp [ws, h, h2]
/-- Blanks ahead of a line feed. -/
theorem ws_app (t : List UInt8) : ∀ (b : Bool) (l : List UInt8), (ws b l = l.length → ws b (l ++ 10 :: t) = l.length + 1 + ws false t) ∧ (ws b l ≠ l.length → ws b (l ++ 10 :: t) = ws b l)
  | b, [] => by cases b <;> simp [ws, isBlank]
  | true, c :: r => by
    obtain ⟨h2, h3⟩ := ws_app t (c != 10) r
    have h1 := ws_le (c != 10) r
    have e1 : ws true (c :: r) = 1 + ws (c != 10) r := rfl
    have e2 : ws true (c :: r ++ 10 :: t) = 1 + ws (c != 10) (r ++ 10 :: t) := rfl
    rw [e1, e2, List.length_cons]
    exact ⟨fun h => by rw [h2 (by omega)]; omega, fun h => by rw [h3 (by omega)]⟩
  | false, c :: r => by
    obtain ⟨h2, h3⟩ := ws_app t false r
    obtain ⟨h4, h5⟩ := ws_app t true r
    have l1 := ws_le false r
    have l2 := ws_le true r
    have hh : ((r ++ 10 :: t).head? == some 47) = (r.head? == some 47) := by cases r <;> simp
    have e1 : ws false (c :: r) = if isBlank c then 1 + ws false r else if c == 47 && r.head? == some 47 then 1 + ws true r else 0 := rfl
    have e2 : ws false (c :: r ++ 10 :: t) = if isBlank c then 1 + ws false (r ++ 10 :: t) else if c == 47 && (r ++ 10 :: t).head? == some 47 then 1 + ws true (r ++ 10 :: t) else 0 := rfl
    rw [hh] at e2
    rw [e1, e2, List.length_cons]
    by_cases hb : isBlank c = true
    · rw [if_pos hb, if_pos hb]
      exact ⟨fun h => by rw [h2 (by omega)]; omega, fun h => by rw [h3 (by omega)]⟩
    · rw [if_neg hb, if_neg hb]
      by_cases hc : (c == 47 && r.head? == some 47) = true
      · rw [if_pos hc, if_pos hc]
        exact ⟨fun h => by rw [h4 (by omega)]; omega, fun h => by rw [h5 (by omega)]⟩
      · rw [if_neg hc, if_neg hc]
        exact ⟨fun h => by omega, fun _ => rfl⟩
theorem ws_blanks : ∀ (b : List UInt8), (∀ c ∈ b, isBlank c = true) → ∀ s, ws false (b ++ s) = b.length + ws false s
  | [], _, s => by simp
  | c :: b, h, s => by
    have h1 := h c (by simp)
    have h2 := ws_blanks b (fun d hd => h d (by simp [hd])) s
    simp only [List.cons_append, ws, h1, if_true, h2, List.length_cons]
    omega

/-! ### Strings -/

theorem meant_more {l : List UInt8} {b : UInt8} {k : Nat} (h : meant l = some (b, k)) : k + 1 ≤ l.length := by
  unfold meant at h
  split at h
  · simp at h
  · split at h
    · split at h
      · simp at h
      · split at h
        · simp at h; simp; omega
        · split at h
          · simp at h; simp; omega
          · split at h
            · split at h
              · split at h
                · simp at h; simp; omega
                · simp at h
              · simp at h
            · simp at h
    · split at h
      · simp at h; simp; omega
      · simp at h
theorem meant_app {l : List UInt8} {x : UInt8 × Nat} (h : meant l = some x) (t : List UInt8) : meant (l ++ t) = some x := by
  cases l with
  | nil => simp [meant] at h
  | cons c r =>
    cases r with
    | nil =>
      simp only [meant, List.cons_append, List.nil_append] at h ⊢
      by_cases hc : c == 92
      · simp [hc] at h
      · simpa [hc] using h
    | cons d r =>
      simp only [meant, List.cons_append] at h ⊢
      match r with
      | [] =>
        by_cases hc : c == 92
        · by_cases h1 : d == 34 || d == 92
          · simp only [hc, h1, if_true] at h ⊢; exact h
          · by_cases h2 : d == 110
            · simp only [hc, h1, h2, if_true] at h ⊢; exact h
            · by_cases h3 : d == 120 <;> simp [hc, h1, h2, h3] at h
        · simp only [hc, Bool.false_eq_true, if_false] at h ⊢; exact h
      | [a] =>
        by_cases hc : c == 92
        · by_cases h1 : d == 34 || d == 92
          · simp only [hc, h1, if_true] at h ⊢; exact h
          · by_cases h2 : d == 110
            · simp only [hc, h1, h2, if_true] at h ⊢; exact h
            · by_cases h3 : d == 120 <;> simp [hc, h1, h2, h3] at h
        · simp only [hc, Bool.false_eq_true, if_false] at h ⊢; exact h
      | a :: b :: r => simpa only [List.cons_append] using h
theorem strB_skip : ∀ (k : Nat) (l : List UInt8), strB k l = (strB 0 (l.drop k)).map fun x => (x.1, x.2 + k)
  | k, [] => by cases k <;> simp [strB]
  | 0, c :: r => by
    simp only [List.drop_zero, Nat.add_zero]
    cases strB 0 (c :: r) <;> rfl
  | k + 1, c :: r => by
    simp only [strB, List.drop_succ_cons]
    rw [strB_skip k r]
    cases strB 0 (r.drop k) <;> simp; try omega
theorem strB_app (t : List UInt8) : ∀ (l : List UInt8) (k : Nat) {x : List UInt8 × Nat}, strB k l = some x → strB k (l ++ t) = some x
  | [], k, x, h => by cases k <;> simp [strB] at h
  | c :: r, k + 1, x, h => by
    simp only [strB, List.cons_append, Option.map_eq_some_iff] at h ⊢
    obtain ⟨y, hy, rfl⟩ := h
    exact ⟨y, strB_app t r k hy, rfl⟩
  | c :: r, 0, x, h => by
    simp only [strB, List.cons_append] at h ⊢
    by_cases hc : c == 34
    · simpa [hc] using h
    · simp only [hc] at h ⊢
      cases hm : meant (c :: r) with
      | none => simp [hm] at h
      | some y =>
        have := meant_app hm t
        rw [List.cons_append] at this
        simp only [hm, this, Bool.false_eq_true, if_false, Option.map_eq_some_iff] at h ⊢
        obtain ⟨z, hz, rfl⟩ := h
        exact ⟨z, strB_app t r y.2 hz, rfl⟩
theorem strB_le : ∀ (l : List UInt8) (k : Nat) {x : List UInt8 × Nat}, strB k l = some x → x.2 ≤ l.length
  | [], k, x, h => by cases k <;> simp [strB] at h
  | c :: r, k + 1, x, h => by
    simp only [strB, Option.map_eq_some_iff] at h
    obtain ⟨y, hy, rfl⟩ := h
    have := strB_le r k hy
    simp; omega
  | c :: r, 0, x, h => by
    simp only [strB] at h
    by_cases hc : c == 34
    · simp [hc] at h; subst h; simp
    · simp only [hc] at h
      cases hm : meant (c :: r) with
      | none => simp [hm] at h
      | some y =>
        simp only [hm, Bool.false_eq_true, if_false, Option.map_eq_some_iff] at h
        obtain ⟨z, hz, rfl⟩ := h
        have := strB_le r y.2 hz
        simp; omega
theorem strB_text : ∀ (l : List UInt8) (k : Nat) {x : List UInt8 × Nat}, strB k l = some x → x.1.length ≤ l.length
  | [], k, x, h => by cases k <;> simp [strB] at h
  | c :: r, k + 1, x, h => by
    simp only [strB, Option.map_eq_some_iff] at h
    obtain ⟨y, hy, rfl⟩ := h
    have := strB_text r k hy
    simp; omega
  | c :: r, 0, x, h => by
    simp only [strB] at h
    by_cases hc : c == 34
    · simp [hc] at h; subst h; simp
    · simp only [hc] at h
      cases hm : meant (c :: r) with
      | none => simp [hm] at h
      | some y =>
        simp only [hm, Bool.false_eq_true, if_false, Option.map_eq_some_iff] at h
        obtain ⟨z, hz, rfl⟩ := h
        have := strB_text r y.2 hz
        simp; omega

/-! ### Tokens -/

theorem tk_more {it : Int → List UInt8} {l : List UInt8} {t : Tk} (h : tk it l = some t) : t.more + 1 ≤ l.length := by
  cases l with
  | nil => simp [tk] at h
  | cons c r =>
    have s1 := span_le isNext r
    have s2 := span_le isDigit r
    simp only [tk] at h
    split at h
    · simp at h; subst h; simp; omega
    · split at h
      · simp only [Option.map_eq_some_iff] at h
        obtain ⟨n, _, rfl⟩ := h
        simp; omega
      · split at h
        · simp only [Option.map_eq_some_iff] at h
          obtain ⟨x, hx, rfl⟩ := h
          have := strB_le r 0 hx
          simp; omega
        · split at h
          · simp at h; subst h; simp
          · simp at h
theorem tk_app {it : Int → List UInt8} {l : List UInt8} {t : Tk} (h : tk it l = some t) (s : List UInt8) : tk it (l ++ 10 :: s) = some t := by
  cases l with
  | nil => simp [tk] at h
  | cons c r =>
    have e1 := span_app isNext 10 (by decide) s r
    have e2 := span_app isDigit 10 (by decide) s r
    have t1 : (r ++ 10 :: s).take (span isNext r) = r.take (span isNext r) := by rw [List.take_append_of_le_length (span_le _ _)]
    have t2 : (r ++ 10 :: s).take (span isDigit r) = r.take (span isDigit r) := by rw [List.take_append_of_le_length (span_le _ _)]
    simp only [tk, List.cons_append, e1, e2, t1, t2] at h ⊢
    split at h
    · rename_i h1; rw [if_pos h1]; exact h
    · rename_i h1; rw [if_neg h1]
      split at h
      · rename_i h2; rw [if_pos h2]; exact h
      · rename_i h2; rw [if_neg h2]
        split at h
        · rename_i h3; rw [if_pos h3]
          simp only [Option.map_eq_some_iff] at h ⊢
          obtain ⟨x, hx, rfl⟩ := h
          exact ⟨x, strB_app _ _ _ hx, rfl⟩
        · rename_i h3; rw [if_neg h3]; exact h

/-! ### All tokens -/

section

variable {it : Int → List UInt8}

theorem lex_skip : ∀ (k p : Nat) (l : List UInt8), lex it k p l = lex it 0 (p + k) (l.drop k)
  | k, p, [] => by cases k <;> simp [lex]
  | 0, p, c :: r => by simp
  | k + 1, p, c :: r => by
    rw [show lex it (k + 1) p (c :: r) = lex it k (p + 1) r by simp [lex], lex_skip k (p + 1) r, List.drop_succ_cons]
    congr 1
    omega
theorem lex_ws (p : Nat) (l : List UInt8) : lex it 0 p l = lex it 0 (p + ws false l) (l.drop (ws false l)) := by
  cases l with
  | nil => simp [lex]
  | cons c r =>
    cases h : ws false (c :: r) with
    | zero => simp
    | succ w =>
      rw [show lex it 0 p (c :: r) = lex it w (p + 1) r by simp [lex, h], lex_skip, List.drop_succ_cons]
      congr 1
      omega
theorem lex_none {l : List UInt8} (h : ws false l = 0) (hn : tk it l = none) (hl : l ≠ []) (p : Nat) : lex it 0 p l = ([], some p) := by
  cases l with
  | nil => exact absurd rfl hl
  | cons c r => simp [lex, h, hn]
theorem lex_some {l : List UInt8} (h : ws false l = 0) {t : Tk} (hn : tk it l = some t) (p : Nat) :
    lex it 0 p l = (⟨t.kind, t.text, t.num, p⟩ :: (lex it 0 (p + t.more + 1) (l.drop (t.more + 1))).1, (lex it 0 (p + t.more + 1) (l.drop (t.more + 1))).2) := by
  cases l with
  | nil => simp [tk] at hn
  | cons c r =>
    have e : lex it t.more (p + 1) r = lex it 0 (p + t.more + 1) ((c :: r).drop (t.more + 1)) := by
      rw [lex_skip, List.drop_succ_cons]
      congr 1
      omega
    simp [lex, h, hn, e]
theorem lex_shift (d : Nat) : ∀ (l : List UInt8) (k p : Nat), lex it k (p + d) l = ((lex it k p l).1.map (fun t => { t with at_ := t.at_ + d }), (lex it k p l).2.map (· + d))
  | [], k, p => by cases k <;> simp [lex]
  | c :: r, k + 1, p => by
    simp only [lex]
    rw [show p + d + 1 = p + 1 + d by omega, lex_shift d r]
  | c :: r, 0, p => by
    simp only [lex]
    rw [show p + d + 1 = p + 1 + d by omega]
    split
    · rw [lex_shift d r]
    · split
      · simp
      · rw [lex_shift d r]; simp
theorem lex_join (t : List UInt8) : ∀ (l : List UInt8) (k p : Nat), k ≤ l.length → (lex it k p l).2 = none →
    lex it k p (l ++ 10 :: t) = ((lex it k p l).1 ++ (lex it 0 (p + l.length + 1) t).1, (lex it 0 (p + l.length + 1) t).2)
  | [], k, p, hk, _ => by
    obtain rfl : k = 0 := by simpa using hk
    have e : ws false (10 :: t) = ws false t + 1 := by simp [ws, isBlank]; omega
    have e2 : lex it 0 p (10 :: t) = lex it 0 (p + 1) t := by
      rw [lex_ws p (10 :: t), e, List.drop_succ_cons, lex_ws (p + 1) t]
      congr 1
      omega
    simp [lex, e2]
  | c :: r, k + 1, p, hk, h => by
    simp only [lex, List.cons_append] at h ⊢
    rw [lex_join t r k (p + 1) (by simpa using hk) h]
    simp only [List.length_cons, show p + 1 + r.length + 1 = p + (r.length + 1) + 1 by omega]
  | c :: r, 0, p, hk, h => by
    obtain ⟨hw1, hw2⟩ := ws_app t false (c :: r)
    have hle := ws_le false (c :: r)
    simp only [List.cons_append, List.length_cons] at hw1 hw2 hle
    cases h0 : ws false (c :: r) with
    | succ w =>
      have e1 : lex it 0 p (c :: r) = lex it w (p + 1) r := by simp [lex, h0]
      rw [e1] at h ⊢
      rw [h0] at hw1 hw2 hle
      have ih := lex_join t r w (p + 1) (by omega) h
      by_cases hl : w + 1 = r.length + 1
      · have hw := hw1 hl
        have e2 : lex it 0 p (c :: r ++ 10 :: t) = lex it (r.length + 1 + ws false t) (p + 1) (r ++ 10 :: t) := by
          simp only [List.cons_append, lex]
          rw [show ws false (c :: (r ++ 10 :: t)) = r.length + 1 + ws false t + 1 by omega]
        have e3 : lex it w (p + 1) r = ([], none) := by
          rw [lex_skip, List.drop_of_length_le (by omega)]
          simp [lex]
        have e4 : (r ++ 10 :: t).drop (r.length + 1 + ws false t) = t.drop (ws false t) := by
          rw [List.drop_append]
          rw [List.drop_of_length_le (by omega), show r.length + 1 + ws false t - r.length = ws false t + 1 by omega]
          simp
        rw [e2, e3, lex_skip, e4, List.length_cons, List.nil_append, lex_ws (p + (r.length + 1) + 1) t]
        rw [show p + 1 + (r.length + 1 + ws false t) = p + (r.length + 1) + 1 + ws false t by omega]
      · have hw := hw2 hl
        have e2 : lex it 0 p (c :: r ++ 10 :: t) = lex it w (p + 1) (r ++ 10 :: t) := by
          simp only [List.cons_append, lex]
          rw [hw]
        rw [e2, ih]
        simp only [List.length_cons, show p + 1 + r.length + 1 = p + (r.length + 1) + 1 by omega]
    | zero =>
      rw [h0] at hw2
      have hw := hw2 (by omega)
      cases ht : tk it (c :: r) with
      | none => simp [lex, h0, ht] at h
      | some x =>
        have hm := tk_more ht
        have ha := tk_app ht t
        simp only [List.cons_append] at ha
        have h2 : (lex it x.more (p + 1) r).2 = none := by simpa [lex, h0, ht] using h
        have ih := lex_join t r x.more (p + 1) (by simp at hm; omega) h2
        have e1 : lex it 0 p (c :: r ++ 10 :: t) = (⟨x.kind, x.text, x.num, p⟩ :: (lex it x.more (p + 1) (r ++ 10 :: t)).1, (lex it x.more (p + 1) (r ++ 10 :: t)).2) := by
          simp [lex, hw, ha]
        have e2 : lex it 0 p (c :: r) = (⟨x.kind, x.text, x.num, p⟩ :: (lex it x.more (p + 1) r).1, (lex it x.more (p + 1) r).2) := by
          simp [lex, h0, ht]
        rw [e1, e2, ih]
        simp only [List.length_cons, List.cons_append, show p + 1 + r.length + 1 = p + (r.length + 1) + 1 by omega]
theorem lex_count : ∀ (l : List UInt8) (k p : Nat), (lex it k p l).1.length ≤ l.length
  | [], k, p => by cases k <;> simp [lex]
  | c :: r, k + 1, p => by
    have := lex_count r k (p + 1)
    simp only [lex, List.length_cons]; omega
  | c :: r, 0, p => by
    simp only [lex, List.length_cons]
    split
    · rename_i w _
      have := lex_count r w (p + 1); omega
    · split
      · simp
      · rename_i t _
        have := lex_count r t.more (p + 1)
        simp; omega
theorem lex_place : ∀ (l : List UInt8) (k p q : Nat), (lex it k p l).2 = some q → p ≤ q ∧ q < p + l.length
  | [], k, p, q, h => by cases k <;> simp [lex] at h
  | c :: r, k + 1, p, q, h => by
    simp only [lex] at h
    have := lex_place r k (p + 1) q h
    simp only [List.length_cons]; omega
  | c :: r, 0, p, q, h => by
    simp only [lex] at h
    simp only [List.length_cons]
    split at h
    · have := lex_place r _ (p + 1) q h; omega
    · split at h
      · simp at h; omega
      · have := lex_place r _ (p + 1) q h; omega
end

end Go.Proofs.YtggcjdajmbkpiaaGreatDoor
