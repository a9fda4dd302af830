/-
  A message of one's own: value's Own, and the copies below it.
-/
import Derived.Test.YtjmcpfckcajnjaaGreatDoorTabMayE
import Derived.Deep.MidRow
import Derived.OwnWalk
import Derived.Deep.RegionHeldLaw
import Derived.Laws.CopyRow
import Derived.Lib.AppendZerosOnto
import Derived.Lib.AppendZeros
import Derived.Lib.Overlaps
import Derived.Laws.Externs
import Derived.Shelf.RegionOpenPlain
namespace Go.Proofs.YtjmcpfckcajnjaaGreatDoor.T9
set_option maxRecDepth 100000

open Go.RowKit

/-! ### Rows of the call's own -/

theorem own_hi {w w' : World} {b : Nat} {e : TypeId} {size : Nat} {v : Value} {n : Nat} {xs : List Value} (h : w.ownsRow b e size v n xs) (hk : ∀ k, b ≤ k → k < w.heap.size → w'.heap[k]? = w.heap[k]?) : w'.ownsRow b e size v n xs := by
  rcases h with ⟨hl, ⟨rfl, rfl⟩ | ⟨g, cap, cur, rfl, h1, h2, h3⟩⟩
  · exact ⟨hl, .inl ⟨rfl, rfl⟩⟩
  · exact ⟨hl, .inr ⟨g, cap, cur, rfl, h1, (hk g h1 (box_lt h2)).trans h2, h3⟩⟩
theorem own_less {w : World} {b b' : Nat} {e : TypeId} {size : Nat} {v : Value} {n : Nat} {xs : List Value} (h : w.ownsRow b e size v n xs) (hb : b' ≤ b) : w.ownsRow b' e size v n xs := by
  rcases h with ⟨hl, ⟨rfl, rfl⟩ | ⟨g, cap, cur, rfl, h1, h2⟩⟩
  · exact ⟨hl, .inl ⟨rfl, rfl⟩⟩
  · exact ⟨hl, .inr ⟨g, cap, cur, rfl, Nat.le_trans hb h1, h2⟩⟩
theorem Ow.hi {w w' : World} {b : Nat} (hk : ∀ k, b ≤ k → k < w.heap.size → w'.heap[k]? = w.heap[k]?) (e : TypeId) (size : Nat) (v : Value) (n : Nat) (xs : List Value) (h : Ow b w e size v n xs) : Ow b w' e size v n xs := ⟨own_hi h.1 hk, h.2⟩
theorem Ow.less {w : World} {b b' : Nat} (hb : b' ≤ b) (e : TypeId) (size : Nat) (v : Value) (n : Nat) (xs : List Value) (h : Ow b w e size v n xs) : Ow b' w e size v n xs := ⟨own_less h.1 hb, h.2⟩
theorem Ow.hi' {w w' : World} {b b' : Nat} (hk : ∀ k, b ≤ k → k < w.heap.size → w'.heap[k]? = w.heap[k]?) (hb : b' ≤ b) (e : TypeId) (size : Nat) (v : Value) (n : Nat) (xs : List Value) (h : Ow b w e size v n xs) : Ow b' w' e size v n xs := ⟨own_less (own_hi h.1 hk) hb, h.2⟩
theorem hi_below {w w' : World} (b : Nat) (h : Below w.heap.size w w') : ∀ k, b ≤ k → k < w.heap.size → w'.heap[k]? = w.heap[k]? := fun k _ hk => h.block k hk
theorem hi_grown {w w' : World} {b g : Nat} (h : w.grownBy w' (some g)) (hg : g < b) : ∀ k, b ≤ k → k < w.heap.size → w'.heap[k]? = w.heap[k]? := fun k hk hk2 => h.block k hk2 (by simp; omega)
def setL : List Value → Nat → List Value → List Value
  | xs, _, [] => xs
  | xs, o, v :: r => setL (xs.set o v) (o + 1) r
theorem setL_mid : ∀ (vs old pre post : List Value), old.length = vs.length → setL (pre ++ (old ++ post)) pre.length vs = pre ++ (vs ++ post)
  | [], [], pre, post, _ => rfl
  | [], u :: old, pre, post, h => by simp at h
  | v :: r, old, pre, post, h => by
    cases old with
    | nil => simp at h
    | cons u old =>
      have h1 : (pre ++ (u :: old ++ post)).set pre.length v = (pre ++ [v]) ++ (old ++ post) := by simp
      have h2 := setL_mid r old (pre ++ [v]) post (by simpa using h)
      rw [setL, h1]
      rw [show (pre ++ [v]).length = pre.length + 1 by simp] at h2
      rw [h2]
      simp
theorem own_setCells {base : Nat} {e : TypeId} {size g n cap : Nat} : ∀ (vs : List Value) (o : Nat) (xs : List Value) (w : World), w.ownsRow base e size (.slice (some ⟨g, 0, none⟩) n cap) n xs →
    (w.setCells g o vs).ownsRow base e size (.slice (some ⟨g, 0, none⟩) n cap) n (setL xs o vs) ∧ w.grownBy (w.setCells g o vs) (some g)
  | [], _, _, w, h => ⟨h, World.grownBy.refl w _⟩
  | v :: r, o, xs, w, h => by
    obtain ⟨h1, h2⟩ := h.stored o v
    obtain ⟨h3, h4⟩ := own_setCells r (o + 1) _ _ h1
    exact ⟨h3, ⟨h4.os.trans h2.os, h4.tape.trans h2.tape, h4.output.trans h2.output, Nat.le_trans h2.size h4.size, fun k hk hn => (h4.block k (Nat.lt_of_lt_of_le hk h2.size) hn).trans (h2.block k hk hn)⟩⟩
theorem own_there {w : World} {base : Nat} {e : TypeId} {size g n cap : Nat} {xs : List Value} (h : w.ownsRow base e size (.slice (some ⟨g, 0, none⟩) n cap) n xs) {o m : Nat} (hm : o + m ≤ n * size) : w.there g o m := fun j hj => by
  refine ⟨?_, h.frozenAt _⟩
  rw [h.cellAt (o + j) (by omega), List.getElem?_eq_getElem (by rw [h.1]; omega)]
  rfl
theorem below_own {w w' : World} {B g : Nat} (h : w.grownBy w' (some g)) (hB : B ≤ g) (hs : B ≤ w.heap.size) : Below B w w' := ⟨h.os, h.tape, h.output, h.size, fun k hk => h.block k (by omega) (by simp; omega)⟩
theorem below_none {w w' : World} (h : w.grownBy w' none) : Below w.heap.size w w' := ⟨h.os, h.tape, h.output, h.size, fun k hk => h.block k hk (by simp)⟩
theorem vAt.oneO {b : Nat} {w : World} {G : Mg → List Value → Prop} (v : Vl') (cs : List Value) (h : vAt (Ow b w) G v cs) : ∀ u ∈ cs, u.oneCell' = true := by
  obtain ⟨u, rfl, xs, h1, h2⟩ := h
  exact vAt.one (B := w.heap.size) (w := w) (G := G) v _ ⟨u, rfl, xs, Rd.of_own _ _ _ _ _ h1, h2⟩
theorem sAt.oneO {b : Nat} {w : World} {G : Mg → List Value → Prop} (v : So) (cs : List Value) (h : sAt (Ow b w) G v cs) : ∀ u ∈ cs, u.oneCell' = true := by
  obtain ⟨u1, u2, rfl, ⟨xs, h1, _⟩, ys, h2, _⟩ := h
  intro x hx
  simp only [List.mem_cons, List.not_mem_nil, or_false] at hx
  rcases hx with rfl | rfl | rfl
  · rfl
  · exact (Rd.of_own _ _ _ _ _ h1).one
  · exact (Rd.of_own _ _ _ _ _ h2).one
theorem MAt.oneO {b : Nat} {w : World} {d : Nat} (m : Mg) (cs : List Value) (h : MAt (Ow b w) d m cs) : ∀ u ∈ cs, u.oneCell' = true := MAt.one m cs (MAt.imp (fun e size v n xs h => Rd.of_own e size v n xs h) d m cs h)
theorem info_slot : (Tryz.prog.info? 36).map (fun i => (i.zero, i.size, i.bytes)) = some (some (.agg #[.int .i64 0, .slice none 0 0, .slice none 0 0]), 3, 56) := by kernel_rfl
theorem info_val : (Tryz.prog.info? 31).map (fun i => (i.zero, i.size, i.bytes)) = some (some (.agg #[.int .i64 0, .string ⟨#[]⟩, .slice none 0 0]), 3, 48) := by kernel_rfl
theorem info_msg : (Tryz.prog.info? 28).map (fun i => (i.zero, i.size, i.bytes)) = some (some (.agg #[.slice none 0 0]), 1, 24) := by kernel_rfl
theorem sz_slot : (Tryz.prog.info? 36).map (·.size) = some 3 := by kernel_rfl
theorem sz_val : (Tryz.prog.info? 31).map (·.size) = some 3 := by kernel_rfl
theorem sz_msg : (Tryz.prog.info? 28).map (·.size) = some 1 := by kernel_rfl
/-- The premise: what is made of an element. -/
def ownmsgP (B d : Nat) (w : World) (l : List Mg) : Prop := ∀ a ∈ l, ∀ x wr, Below w.heap.size w wr → MAt (Rd B wr) d a [x] → ∀ b, b ≤ wr.heap.size → Calls Tryz.prog 52 #[.agg #[x]] wr fun e w' => ∃ x1, e = .returned (.agg #[x1]) ∧ MAt (Ow b w') d a [x1] ∧ Below wr.heap.size wr w'
set_option maxRecDepth 1000000 in
set_option maxHeartbeats 4000000 in
theorem own_msg (B b d : Nat) (l : List Mg) (u : Value) (w : World) (hB : B ≤ w.heap.size) (hbw : b ≤ w.heap.size) (hl : LsAt (Rd B w) 28 1 (MAt (Rd B w) d) l u) (hg : ownmsgP B d w l) (hsm : l.length ≤ 1000000000) :
    Calls Tryz.prog 130 #[u, .func (.func 52) #[] #[]] w fun e w' => ∃ v, e = .returned v ∧ LsAt (Ow b w') 28 1 (MAt (Ow b w') d) l v ∧ Below w.heap.size w w' := by
  obtain ⟨A, c, xs, rfl, hs, hb, hr, hn⟩ := hl.open_
  obtain ⟨i0, hi, hz0, hz1, hz2⟩ := info_parts info_msg
  have HS := Lib.hid hs
  have HR := Lib.hid hr
  have HG := Lib.hid hg
  have HBB := Lib.hid hb
  clear hs hr hg hl hb hn
  by_cases h0 : l = []
  · subst h0
    go_enter Tryz.func130, Tryz.ntmps130
    go_wp2
    go_ret
    exact ⟨_, rfl, ⟨[], ⟨World.ownsRow_nil _ _ _ _, by simp⟩, rfl⟩, Below.refl _ _⟩
  · have hpos : 0 < l.length := List.length_pos_iff.2 h0
    have hne : ((l.length : Int) == 0) = false := by rw [beq_eq_false_iff_ne]; omega
    clear h0
    go_enter Tryz.func130, Tryz.ntmps130
    go_wp2_with (at_make; refine wpList_make_full _ rfl _ _ 29 rfl b 28 i0 (.agg #[.slice none 0 0]) 1 Tryz.underlying29 hi hz0 hz1 .i64 .i64 _ _ l.length rfl rfl rfl rfl (by rw [hz2]; omega) (by unfold maxLen; omega) hbw ?_; intro w2 hown hg2)
    have hB2 := below_none hg2
    have hw2 : w.heap.size < w2.heap.size := by
      obtain ⟨-, ⟨h, -⟩ | ⟨g, cap, cur, h, -, h2, -⟩⟩ := hown
      · simp at h
      · have := box_lt h2
        simp only [Value.slice.injEq, Option.some.injEq, Addr.mk.injEq] at h
        rw [← h.1.1] at this
        exact this
    obtain ⟨zs, hzs⟩ : ∃ zs, (madeCells (.agg #[.slice none 0 0] : Value).cells (l.length * 1)).toList = zs := ⟨_, rfl⟩
    rw [hzs] at hown
    clear hzs hg2
    have HO := Lib.hid hown
    clear hown
    go_wp2
    go_loopw [15] (fun i wr => ∃ (k : Nat) (front tail : List Value), i = .int .i64 k ∧ k ≤ l.length ∧ wr.ownsRow b 28 1 (.slice (some ⟨w.heap.size, 0, none⟩) l.length l.length) l.length (front ++ tail) ∧ Rows (MAt (Ow w2.heap.size wr) d) (l.take k) front ∧ front.length = k * 1 ∧ Below w.heap.size w wr ∧ w2.heap.size ≤ wr.heap.size) (fun i _ => l.length - (intOf i).toNat)
    case atStart => exact ⟨0, [], zs, rfl, by omega, HO.out, rfl, by simp, hB2, Nat.le_refl _⟩
    case round =>
      obtain ⟨k, front, tail, rfl, hk, hown, hrows, hfl, hbr, hsz⟩ := hrel
      by_cases hlt : k < l.length
      · obtain ⟨a, ha⟩ : ∃ a, l[k]? = some a := ⟨_, List.getElem?_eq_getElem hlt⟩
        obtain ⟨ad, x, rfl, hg, hc, c0⟩ := row1 MAt.len (sl_low HS.out HBB.out (Lo.below hbr hB)) (HR.out.imp fun a cs h => MRd.low (Lo.below hbr hB) h) ha
        have HC := Lib.hid (HG.out a (List.mem_of_getElem? ha) _ wr hbr hc w2.heap.size hsz)
        have HOWN := Lib.hid hown
        have HROWS := Lib.hid hrows
        have HA := Lib.hid ha
        have HBR := Lib.hid hbr
        have HFL := Lib.hid hfl
        clear hown hrows ha hbr hc hfl
        go_wp2_with (first
          | (go_at_call 52; refine HC.out.mono ?_; rintro e w3 ⟨x1, rfl, ho, hb3⟩; have hown3 := own_hi HOWN.out (hi_below b hb3))
          | (refine wpList_store_mid rfl 28 _ _ rfl w.heap.size (k) #[x1] rfl rfl (own_there hown3 (show k + 1 ≤ l.length * 1 by omega)) sz_msg (all_oneCell_toArray (MAt.oneO a [x1] ho)) ?_))
        obtain ⟨hs4, hg4⟩ := own_setCells [x1] (k) _ _ hown3
        have htl : (front ++ tail).length = l.length * 1 := hown3.1
        rw [List.length_append, HFL.out] at htl
        have hfo : front.length = k := by have := HFL.out; omega
        have hset : setL (front ++ tail) (k) [x1] = (front ++ [x1]) ++ tail.drop 1 := by
          have h := setL_mid [x1] (tail.take 1) front (tail.drop 1) (by rw [List.length_take]; show min 1 tail.length = 1; omega)
          rw [hfo, List.take_append_drop] at h
          rw [h, List.append_assoc]
        rw [hset] at hs4
        have hhi := hi_grown hg4 hw2
        refine ⟨⟨k + 1, front ++ [x1], tail.drop 1, by go_num, by omega, hs4, ?_, by rw [List.length_append, HFL.out]; show k * 1 + 1 = (k + 1) * 1; omega, ?_, ?_⟩, by simp [intOf]; omega⟩
        · refine Rows.snoc MAt.len ?_ HA.out ?_
          · exact HROWS.out.imp fun a cs h => MAt.imp (Ow.hi hhi) d _ _ (MAt.imp (Ow.hi (hi_below _ hb3)) d _ _ h)
          · exact MAt.imp (Ow.hi hhi) d _ _ ho
        · exact (HBR.out.trans (hb3.mono HBR.out.size)).trans (below_own hg4 (Nat.le_refl _) (Nat.le_trans HBR.out.size hb3.size))
        · exact Nat.le_trans hsz (Nat.le_trans hb3.size hg4.size)
      · obtain rfl : k = l.length := by omega
        have e : l.take l.length = l := List.take_length
        rw [e] at hrows
        go_wp2
        go_ret
        have htl : tail = [] := by
          have h1 := hown.1
          rw [List.length_append, hfl] at h1
          exact List.eq_nil_of_length_eq_zero (by omega)
        rw [htl, List.append_nil] at hown
        exact ⟨_, rfl, ⟨front, ⟨hown, by omega⟩, hrows.imp fun a cs h => MAt.imp (fun e size v n xs h => Ow.less (Nat.le_trans hbw (Nat.le_of_lt hw2)) e size v n xs h) d _ _ h⟩, hbr⟩

/-- A box of three cells that may be written. -/
def Wr3 (g : Nat) (a b c : Value) (w : World) : Prop := (w.cell? ⟨g, 0, none⟩ = some a ∧ w.cell? ⟨g, 1, none⟩ = some b ∧ w.cell? ⟨g, 2, none⟩ = some c) ∧ w.frozen? ⟨g, 0, none⟩ = false ∧ w.frozen? ⟨g, 1, none⟩ = false ∧ w.frozen? ⟨g, 2, none⟩ = false
theorem wr3 {w : World} {g : Nat} {a b c : Value} {t : TypeId} (h : w.heap[g]? = some (.cells #[a, b, c] t (0, 0))) : Wr3 g a b c w := ⟨bx3 h, by simp [World.frozen?, h], by simp [World.frozen?, h], by simp [World.frozen?, h]⟩
theorem three_set {w : World} {g : Nat} {a b c : Value} {t : TypeId} (h : w.heap[g]? = some (.cells #[a, b, c] t (0, 0))) (x y z : Value) :
    (((w.setCell ⟨g, 0, none⟩ x).setCell ⟨g, 1, none⟩ y).setCell ⟨g, 2, none⟩ z).heap[g]? = some (.cells #[x, y, z] t (0, 0)) ∧ w.grownBy (((w.setCell ⟨g, 0, none⟩ x).setCell ⟨g, 1, none⟩ y).setCell ⟨g, 2, none⟩ z) (some g) := by
  have h1 := heap_setCell_same w g 0 #[a, b, c] t x h
  have h2 := heap_setCell_same _ g 1 _ t y h1
  have h3 := heap_setCell_same _ g 2 _ t z h2
  refine ⟨h3, ⟨rfl, rfl, rfl, by simp, fun k _ hk => ?_⟩⟩
  have hne : k ≠ g := fun e => hk (by rw [e])
  rw [heap_setCell_other _ ⟨g, 2, none⟩ k z hne, heap_setCell_other _ ⟨g, 1, none⟩ k y hne, heap_setCell_other _ ⟨g, 0, none⟩ k x hne]
theorem two_boxesD (w : World) (o1 o2 : Obj) : ((w.alloc o1).alloc o2).drew.heap[w.heap.size]? = some o1 ∧ ((w.alloc o1).alloc o2).drew.heap[w.heap.size + 1]? = some o2 ∧ Below w.heap.size w ((w.alloc o1).alloc o2).drew := by
  obtain ⟨h1, h2, h3⟩ := two_boxes w o1 o2
  exact ⟨h1, h2, h3.trans (Below.refl _ _).drew⟩
/-- Own, of messages within so many levels. -/
def OwnH (B d : Nat) : Prop := ∀ (m : Mg) (u : Value) (w : World), B ≤ w.heap.size → MRd B w d m u → m.cnt ≤ 1000000000 → ∀ b, b ≤ w.heap.size → Calls Tryz.prog 52 #[.agg #[u]] w fun e w' => ∃ x1, e = .returned (.agg #[x1]) ∧ MAt (Ow b w') d m [x1] ∧ Below w.heap.size w w'
theorem omsgP {B d : Nat} (H : OwnH B d) {w : World} (hB : B ≤ w.heap.size) {l : List Mg} (hsm : ∀ x ∈ l, x.cnt ≤ 1000000000) : ownmsgP B d w l := fun a ha x wr hw hr b hb => H a x wr (Nat.le_trans hB hw.size) hr (hsm a ha) b hb
set_option maxRecDepth 1000000 in
set_option maxHeartbeats 4000000 in
theorem ownVal_any {B d : Nat} (H : OwnH B d) (v : Vl') (u : Value) (w : World) (hB : B ≤ w.heap.size) (hv : VAt (Rd B w) d v [.int .i64 v.n, .string (tx v.s), u]) (hsm : cV v ≤ 1000000000) (b : Nat) (hb : b ≤ w.heap.size) :
    Calls Tryz.prog 94 #[.agg #[.int .i64 v.n, .string (tx v.s), u]] w fun e w' => ∃ x1 x2 x3, e = .returned (.agg #[x1, x2, x3]) ∧ VAt (Ow b w') d v [x1, x2, x3] ∧ Below w.heap.size w w' := by
  obtain ⟨u', hu, hl⟩ := hv
  simp only [List.cons.injEq, and_true, true_and] at hu
  subst hu
  obtain ⟨X1, X2, LBD⟩ := two_boxesD w (.cells #[.int .i64 v.n, .string (tx v.s), u] 31) (.cells #[.int .i64 0, .string ⟨#[]⟩, .slice none 0 0] 31)
  have hM := cV_M v
  have HT := Lib.hid (own_msg B _ d v.M u _ (Nat.le_trans hB LBD.size) (Nat.le_refl _) (hl.low (Lo.below LBD hB) fun a cs h => MRd.low (Lo.below LBD hB) h)
    (omsgP H (Nat.le_trans hB LBD.size) fun x hx => by have := cnt_le hx; omega) (by omega))
  clear hl H
  go_enter Tryz.func94, Tryz.ntmps94
  go_wp2_with fail
  have hS := bx3 X1
  go_region_held3 (fun w' => w'.cell? ⟨w.heap.size, 0, none⟩ = some (.int .i64 v.n) ∧ w'.cell? ⟨w.heap.size, 1, none⟩ = some (.string (tx v.s)) ∧ w'.cell? ⟨w.heap.size, 2, none⟩ = some u)
    (first | exact hS | exact bx3 (box_on X1 hbK) | go_keep)
    ((first | (go_at_call 130; refine HT.out.mono ?_; rintro e wK ⟨q, rfl, ho, hbK⟩; obtain ⟨zs, ⟨hown, hzl⟩, hrz⟩ := id ho; obtain ⟨A', c', rfl, -⟩ := Sl.of_own hown; obtain ⟨⟨y0, y1, y2⟩, y3, y4, y5⟩ := wr3 (box_on X2 hbK))))
  obtain ⟨Z1, Z2⟩ := three_set (box_on X2 hbK) (.int .i64 v.n) (.string (tx v.s)) (.slice A' v.M.length c')
  have hg : w.heap.size + 1 < ((w.alloc (.cells #[.int .i64 v.n, .string (tx v.s), u] 31)).alloc (.cells #[.int .i64 0, .string ⟨#[]⟩, .slice none 0 0] 31)).drew.heap.size := box_lt X2
  have hhi := hi_grown Z2 hg
  have hb4 := below_own Z2 (Nat.le_succ _) (Nat.le_trans LBD.size hbK.size)
  obtain ⟨w4, hw4⟩ : ∃ w4, (((wK.setCell ⟨w.heap.size + 1, 0, none⟩ (.int .i64 v.n)).setCell ⟨w.heap.size + 1, 1, none⟩ (.string (tx v.s))).setCell ⟨w.heap.size + 1, 2, none⟩ (.slice A' v.M.length c')) = w4 := ⟨_, rfl⟩
  rw [hw4] at Z1 hhi hb4 ⊢
  clear hw4 Z2 y0 y1 y2 y3 y4 y5
  go_wp2
  refine bodyPost_ret (results_cell_row rfl _ _ (w.heap.size + 1) _ _ (0, 0) _ rfl Z1 Tryz.underlying31 rfl sz_val) rfl ?_
  refine ⟨_, _, _, rfl, ⟨_, rfl, ho.imp (Ow.hi' hhi (Nat.le_trans hb LBD.size)) fun m cs h => MAt.imp (Ow.hi' hhi (Nat.le_trans hb LBD.size)) d m cs h⟩, (LBD.trans (hbK.mono LBD.size)).trans hb4⟩
/-- The premise: what is made of an element. -/
def ownvalP (B d : Nat) (w : World) (l : List Vl') : Prop := ∀ a ∈ l, ∀ x y z wr, Below w.heap.size w wr → VAt (Rd B wr) d a [x, y, z] → ∀ b, b ≤ wr.heap.size → Calls Tryz.prog 94 #[.agg #[x, y, z]] wr fun e w' => ∃ x1 x2 x3, e = .returned (.agg #[x1, x2, x3]) ∧ VAt (Ow b w') d a [x1, x2, x3] ∧ Below wr.heap.size wr w'
set_option maxRecDepth 1000000 in
set_option maxHeartbeats 4000000 in
theorem own_val (B b d : Nat) (l : List Vl') (u : Value) (w : World) (hB : B ≤ w.heap.size) (hbw : b ≤ w.heap.size) (hl : LsAt (Rd B w) 31 3 (VAt (Rd B w) d) l u) (hg : ownvalP B d w l) (hsm : l.length ≤ 1000000000) :
    Calls Tryz.prog 93 #[u, .func (.func 94) #[] #[]] w fun e w' => ∃ v, e = .returned v ∧ LsAt (Ow b w') 31 3 (VAt (Ow b w') d) l v ∧ Below w.heap.size w w' := by
  obtain ⟨A, c, xs, rfl, hs, hb, hr, hn⟩ := hl.open_
  obtain ⟨i0, hi, hz0, hz1, hz2⟩ := info_parts info_val
  have HS := Lib.hid hs
  have HR := Lib.hid hr
  have HG := Lib.hid hg
  have HBB := Lib.hid hb
  clear hs hr hg hl hb hn
  by_cases h0 : l = []
  · subst h0
    go_enter Tryz.func93, Tryz.ntmps93
    go_wp2
    go_ret
    exact ⟨_, rfl, ⟨[], ⟨World.ownsRow_nil _ _ _ _, by simp⟩, rfl⟩, Below.refl _ _⟩
  · have hpos : 0 < l.length := List.length_pos_iff.2 h0
    have hne : ((l.length : Int) == 0) = false := by rw [beq_eq_false_iff_ne]; omega
    clear h0
    go_enter Tryz.func93, Tryz.ntmps93
    go_wp2_with (at_make; refine wpList_make_full _ rfl _ _ 34 rfl b 31 i0 (.agg #[.int .i64 0, .string ⟨#[]⟩, .slice none 0 0]) 3 Tryz.underlying34 hi hz0 hz1 .i64 .i64 _ _ l.length rfl rfl rfl rfl (by rw [hz2]; omega) (by unfold maxLen; omega) hbw ?_; intro w2 hown hg2)
    have hB2 := below_none hg2
    have hw2 : w.heap.size < w2.heap.size := by
      obtain ⟨-, ⟨h, -⟩ | ⟨g, cap, cur, h, -, h2, -⟩⟩ := hown
      · simp at h
      · have := box_lt h2
        simp only [Value.slice.injEq, Option.some.injEq, Addr.mk.injEq] at h
        rw [← h.1.1] at this
        exact this
    obtain ⟨zs, hzs⟩ : ∃ zs, (madeCells (.agg #[.int .i64 0, .string ⟨#[]⟩, .slice none 0 0] : Value).cells (l.length * 3)).toList = zs := ⟨_, rfl⟩
    rw [hzs] at hown
    clear hzs hg2
    have HO := Lib.hid hown
    clear hown
    go_wp2
    go_loopw [15] (fun i wr => ∃ (k : Nat) (front tail : List Value), i = .int .i64 k ∧ k ≤ l.length ∧ wr.ownsRow b 31 3 (.slice (some ⟨w.heap.size, 0, none⟩) l.length l.length) l.length (front ++ tail) ∧ Rows (VAt (Ow w2.heap.size wr) d) (l.take k) front ∧ front.length = k * 3 ∧ Below w.heap.size w wr ∧ w2.heap.size ≤ wr.heap.size) (fun i _ => l.length - (intOf i).toNat)
    case atStart => exact ⟨0, [], zs, rfl, by omega, HO.out, rfl, by simp, hB2, Nat.le_refl _⟩
    case round =>
      obtain ⟨k, front, tail, rfl, hk, hown, hrows, hfl, hbr, hsz⟩ := hrel
      by_cases hlt : k < l.length
      · obtain ⟨a, ha⟩ : ∃ a, l[k]? = some a := ⟨_, List.getElem?_eq_getElem hlt⟩
        obtain ⟨ad, x, y, z, rfl, hg, hc, c0, c1, c2⟩ := row3 vAt.len (sl_low HS.out HBB.out (Lo.below hbr hB)) (HR.out.imp fun a cs h => VRd.low (Lo.below hbr hB) h) ha
        have HC := Lib.hid (HG.out a (List.mem_of_getElem? ha) _ _ _ wr hbr hc w2.heap.size hsz)
        have HOWN := Lib.hid hown
        have HROWS := Lib.hid hrows
        have HA := Lib.hid ha
        have HBR := Lib.hid hbr
        have HFL := Lib.hid hfl
        clear hown hrows ha hbr hc hfl
        go_wp2_with (first
          | (go_at_call 94; refine HC.out.mono ?_; rintro e w3 ⟨x1, x2, x3, rfl, ho, hb3⟩; have hown3 := own_hi HOWN.out (hi_below b hb3))
          | (refine wpList_store_mid rfl 31 _ _ rfl w.heap.size (k * 3) #[x1, x2, x3] rfl rfl (own_there hown3 (show k * 3 + 3 ≤ l.length * 3 by omega)) sz_val (all_oneCell_toArray (vAt.oneO a [x1, x2, x3] ho)) ?_))
        obtain ⟨hs4, hg4⟩ := own_setCells [x1, x2, x3] (k * 3) _ _ hown3
        have htl : (front ++ tail).length = l.length * 3 := hown3.1
        rw [List.length_append, HFL.out] at htl
        have hfo : front.length = k * 3 := by have := HFL.out; omega
        have hset : setL (front ++ tail) (k * 3) [x1, x2, x3] = (front ++ [x1, x2, x3]) ++ tail.drop 3 := by
          have h := setL_mid [x1, x2, x3] (tail.take 3) front (tail.drop 3) (by rw [List.length_take]; show min 3 tail.length = 3; omega)
          rw [hfo, List.take_append_drop] at h
          rw [h, List.append_assoc]
        rw [hset] at hs4
        have hhi := hi_grown hg4 hw2
        refine ⟨⟨k + 1, front ++ [x1, x2, x3], tail.drop 3, by go_num, by omega, hs4, ?_, by rw [List.length_append, HFL.out]; show k * 3 + 3 = (k + 1) * 3; omega, ?_, ?_⟩, by simp [intOf]; omega⟩
        · refine Rows.snoc vAt.len ?_ HA.out ?_
          · exact HROWS.out.imp fun a cs h => vAt.imp (Ow.hi hhi) (fun m cs h => MAt.imp (Ow.hi hhi) d m cs h) _ _ (vAt.imp (Ow.hi (hi_below _ hb3)) (fun m cs h => MAt.imp (Ow.hi (hi_below _ hb3)) d m cs h) _ _ h)
          · exact vAt.imp (Ow.hi hhi) (fun m cs h => MAt.imp (Ow.hi hhi) d m cs h) _ _ ho
        · exact (HBR.out.trans (hb3.mono HBR.out.size)).trans (below_own hg4 (Nat.le_refl _) (Nat.le_trans HBR.out.size hb3.size))
        · exact Nat.le_trans hsz (Nat.le_trans hb3.size hg4.size)
      · obtain rfl : k = l.length := by omega
        have e : l.take l.length = l := List.take_length
        rw [e] at hrows
        go_wp2
        go_ret
        have htl : tail = [] := by
          have h1 := hown.1
          rw [List.length_append, hfl] at h1
          exact List.eq_nil_of_length_eq_zero (by omega)
        rw [htl, List.append_nil] at hown
        exact ⟨_, rfl, ⟨front, ⟨hown, by omega⟩, hrows.imp fun a cs h => vAt.imp (fun e size v n xs h => Ow.less (Nat.le_trans hbw (Nat.le_of_lt hw2)) e size v n xs h) (fun m cs h => MAt.imp (fun e size v n xs h => Ow.less (Nat.le_trans hbw (Nat.le_of_lt hw2)) e size v n xs h) d m cs h) _ _ h⟩, hbr⟩

theorem ovalP {B d : Nat} (H : OwnH B d) {w : World} (hB : B ≤ w.heap.size) {l : List Vl'} (hsm : ∀ x ∈ l, cV x ≤ 1000000000) : ownvalP B d w l := fun a ha x y z wr hw hr b hb => by
  have hr' := hr
  obtain ⟨u, hu, _⟩ := hr
  simp only [List.cons.injEq, and_true] at hu
  obtain ⟨rfl, rfl, rfl⟩ := hu
  exact ownVal_any H a z wr (Nat.le_trans hB hw.size) hr' (hsm a ha) b hb
theorem two_size (w : World) (o1 o2 : Obj) : w.heap.size + 2 ≤ ((w.alloc o1).alloc o2).drew.heap.size := by
  have := box_lt (two_boxesD w o1 o2).2.1
  omega
theorem ownSlot_end {w wl : World} {d b : Nat} {s : So} {q1 q2 : Value} {t : TypeId} {u0 u1 u2 : Value} (hb : b ≤ w.heap.size) (X : wl.heap[w.heap.size + 1]? = some (.cells #[u0, u1, u2] t (0, 0)))
    (hk : LsAt (Ow (w.heap.size + 2) wl) 31 3 (VAt (Ow (w.heap.size + 2) wl) d) s.K q1) (hv : LsAt (Ow (w.heap.size + 2) wl) 31 3 (VAt (Ow (w.heap.size + 2) wl) d) s.V q2) (hB : Below w.heap.size w wl) :
    ∃ w4, (((wl.setCell ⟨w.heap.size + 1, 0, none⟩ (.int .i64 s.no)).setCell ⟨w.heap.size + 1, 1, none⟩ q1).setCell ⟨w.heap.size + 1, 2, none⟩ q2) = w4 ∧ w4.heap[w.heap.size + 1]? = some (.cells #[.int .i64 s.no, q1, q2] t (0, 0)) ∧
      SAt' (Ow b w4) d s [.int .i64 s.no, q1, q2] ∧ Below w.heap.size w w4 := by
  obtain ⟨Z1, Z2⟩ := three_set X (.int .i64 s.no) q1 q2
  have hhi := hi_grown Z2 (Nat.lt_succ_self (w.heap.size + 1))
  have hb2 : b ≤ w.heap.size + 2 := by omega
  refine ⟨_, rfl, Z1, ⟨q1, q2, rfl, ?_, ?_⟩, hB.trans (below_own Z2 (Nat.le_succ _) hB.size)⟩
  · exact hk.imp (Ow.hi' hhi hb2) fun a cs h => vAt.imp (Ow.hi' hhi hb2) (fun m cs h => MAt.imp (Ow.hi' hhi hb2) d m cs h) _ _ h
  · exact hv.imp (Ow.hi' hhi hb2) fun a cs h => vAt.imp (Ow.hi' hhi hb2) (fun m cs h => MAt.imp (Ow.hi' hhi hb2) d m cs h) _ _ h
theorem vals_on {w w' : World} {b d : Nat} {l : List Vl'} {q : Value} (hb : Below w.heap.size w w') (h : LsAt (Ow b w) 31 3 (VAt (Ow b w) d) l q) : LsAt (Ow b w') 31 3 (VAt (Ow b w') d) l q :=
  h.imp (Ow.hi (hi_below b hb)) fun a cs h => vAt.imp (Ow.hi (hi_below b hb)) (fun m cs h => MAt.imp (Ow.hi (hi_below b hb)) d m cs h) _ _ h
set_option maxRecDepth 1000000 in
set_option maxHeartbeats 4000000 in
theorem ownSlot_any {B d : Nat} (H : OwnH B d) (s : So) (u1 u2 : Value) (w : World) (hB : B ≤ w.heap.size) (hs : SAt' (Rd B w) d s [.int .i64 s.no, u1, u2]) (hsm : cS s ≤ 1000000000) (b : Nat) (hb : b ≤ w.heap.size) :
    Calls Tryz.prog 47 #[.agg #[.int .i64 s.no, u1, u2]] w fun e w' => ∃ x1 x2 x3, e = .returned (.agg #[x1, x2, x3]) ∧ SAt' (Ow b w') d s [x1, x2, x3] ∧ Below w.heap.size w w' := by
  obtain ⟨u1', u2', hu, hk, hv⟩ := hs
  simp only [List.cons.injEq, and_true, true_and] at hu
  obtain ⟨rfl, rfl⟩ := hu
  obtain ⟨X1, X2, LBD⟩ := two_boxesD w (.cells #[.int .i64 s.no, u1, u2] 36) (.cells #[.int .i64 0, .slice none 0 0, .slice none 0 0] 36)
  have LSZ := two_size w (.cells #[.int .i64 s.no, u1, u2] 36) (.cells #[.int .i64 0, .slice none 0 0, .slice none 0 0] 36)
  have hln := cS_len (s := s)
  have HK := Lib.hid (fun wx (hx : Below w.heap.size w wx) (hz : w.heap.size + 2 ≤ wx.heap.size) => own_val B (w.heap.size + 2) d s.K u1 wx (Nat.le_trans hB hx.size) hz (hk.low (Lo.below hx hB) fun a cs h => VRd.low (Lo.below hx hB) h) (ovalP H (Nat.le_trans hB hx.size) fun x hx => by have := cV_le (s := s) (.inl hx); omega) (by omega))
  have HV := Lib.hid (fun wx (hx : Below w.heap.size w wx) (hz : w.heap.size + 2 ≤ wx.heap.size) => own_val B (w.heap.size + 2) d s.V u2 wx (Nat.le_trans hB hx.size) hz (hv.low (Lo.below hx hB) fun a cs h => VRd.low (Lo.below hx hB) h) (ovalP H (Nat.le_trans hB hx.size) fun x hx => by have := cV_le (s := s) (.inr hx); omega) (by omega))
  clear hk hv H hsm hln
  go_enter Tryz.func47, Tryz.ntmps47
  go_wp2_with fail
  have hS := bx3 X1
  go_region_held3 (fun w' => w'.cell? ⟨w.heap.size, 0, none⟩ = some (.int .i64 s.no) ∧ w'.cell? ⟨w.heap.size, 1, none⟩ = some u1 ∧ w'.cell? ⟨w.heap.size, 2, none⟩ = some u2)
    (first | exact hS | exact bx3 (box_on (box_on X1 hbK) hbV) | exact bx3 (box_on (box_on X1 hbV) hbK) | exact bx3 (box_on X1 hbK) | exact bx3 (box_on X1 hbV) | go_keep)
    ((first
      | (go_at_call 93; (with_reducible refine (HK.out _ (by first | exact LBD | exact LBD.trans (hbV.mono LBD.size)) (by first | exact LSZ | exact Nat.le_trans LSZ hbV.size)).mono ?_); rintro e wK ⟨qK, rfl, hoK, hbK⟩; obtain ⟨zK, ⟨hownK, hzK⟩, hrK⟩ := id hoK; obtain ⟨AK, cK, rfl, -⟩ := Sl.of_own hownK; clear hownK hzK hrK; have X3 : wK.heap[w.heap.size + 1]? = some (.cells #[.int .i64 0, .slice none 0 0, .slice none 0 0] 36 (0, 0)) := (by first | exact box_on X2 hbK | exact box_on (box_on X2 hbV) hbK); obtain ⟨⟨y0, y1, y2⟩, y3, y4, y5⟩ := wr3 X3)
      | (go_at_call 93; (with_reducible refine (HV.out _ (by first | exact LBD | exact LBD.trans (hbK.mono LBD.size)) (by first | exact LSZ | exact Nat.le_trans LSZ hbK.size)).mono ?_); rintro e wV ⟨qV, rfl, hoV, hbV⟩; obtain ⟨zV', ⟨hownV, hzV⟩, hrV⟩ := id hoV; obtain ⟨AV, cV', rfl, -⟩ := Sl.of_own hownV; clear hownV hzV hrV; have X3 : wV.heap[w.heap.size + 1]? = some (.cells #[.int .i64 0, .slice none 0 0, .slice none 0 0] 36 (0, 0)) := (by first | exact box_on X2 hbV | exact box_on (box_on X2 hbK) hbV); obtain ⟨⟨y0, y1, y2⟩, y3, y4, y5⟩ := wr3 X3)))
  all_goals
    obtain ⟨w4, hw4, Z1, hat, hb4⟩ : ∃ w4, _ = w4 ∧ _ := by
      first
        | exact ownSlot_end hb (box_on (box_on X2 hbK) hbV) (vals_on hbV hoK) hoV (below_then (below_then LBD hbK) hbV)
        | exact ownSlot_end hb (box_on (box_on X2 hbV) hbK) hoK (vals_on hbK hoV) (below_then (below_then LBD hbV) hbK)
    rw [hw4]
    clear hw4
    go_wp2
    refine bodyPost_ret (results_cell_row rfl _ _ (w.heap.size + 1) _ _ (0, 0) _ rfl Z1 Tryz.underlying36 rfl sz_slot) rfl ?_
    exact ⟨_, _, _, rfl, hat, hb4⟩
/-- The premise: what is made of an element. -/
def ownslotP (B d : Nat) (w : World) (l : List So) : Prop := ∀ a ∈ l, ∀ x y z wr, Below w.heap.size w wr → SAt' (Rd B wr) d a [x, y, z] → ∀ b, b ≤ wr.heap.size → Calls Tryz.prog 47 #[.agg #[x, y, z]] wr fun e w' => ∃ x1 x2 x3, e = .returned (.agg #[x1, x2, x3]) ∧ SAt' (Ow b w') d a [x1, x2, x3] ∧ Below wr.heap.size wr w'
set_option maxRecDepth 1000000 in
set_option maxHeartbeats 4000000 in
theorem own_slot (B b d : Nat) (l : List So) (u : Value) (w : World) (hB : B ≤ w.heap.size) (hbw : b ≤ w.heap.size) (hl : LsAt (Rd B w) 36 3 (SAt' (Rd B w) d) l u) (hg : ownslotP B d w l) (hsm : l.length ≤ 1000000000) :
    Calls Tryz.prog 97 #[u, .func (.func 47) #[] #[]] w fun e w' => ∃ v, e = .returned v ∧ LsAt (Ow b w') 36 3 (SAt' (Ow b w') d) l v ∧ Below w.heap.size w w' := by
  obtain ⟨A, c, xs, rfl, hs, hb, hr, hn⟩ := hl.open_
  obtain ⟨i0, hi, hz0, hz1, hz2⟩ := info_parts info_slot
  have HS := Lib.hid hs
  have HR := Lib.hid hr
  have HG := Lib.hid hg
  have HBB := Lib.hid hb
  clear hs hr hg hl hb hn
  by_cases h0 : l = []
  · subst h0
    go_enter Tryz.func97, Tryz.ntmps97
    go_wp2
    go_ret
    exact ⟨_, rfl, ⟨[], ⟨World.ownsRow_nil _ _ _ _, by simp⟩, rfl⟩, Below.refl _ _⟩
  · have hpos : 0 < l.length := List.length_pos_iff.2 h0
    have hne : ((l.length : Int) == 0) = false := by rw [beq_eq_false_iff_ne]; omega
    clear h0
    go_enter Tryz.func97, Tryz.ntmps97
    go_wp2_with (at_make; refine wpList_make_full _ rfl _ _ 26 rfl b 36 i0 (.agg #[.int .i64 0, .slice none 0 0, .slice none 0 0]) 3 Tryz.underlying26 hi hz0 hz1 .i64 .i64 _ _ l.length rfl rfl rfl rfl (by rw [hz2]; omega) (by unfold maxLen; omega) hbw ?_; intro w2 hown hg2)
    have hB2 := below_none hg2
    have hw2 : w.heap.size < w2.heap.size := by
      obtain ⟨-, ⟨h, -⟩ | ⟨g, cap, cur, h, -, h2, -⟩⟩ := hown
      · simp at h
      · have := box_lt h2
        simp only [Value.slice.injEq, Option.some.injEq, Addr.mk.injEq] at h
        rw [← h.1.1] at this
        exact this
    obtain ⟨zs, hzs⟩ : ∃ zs, (madeCells (.agg #[.int .i64 0, .slice none 0 0, .slice none 0 0] : Value).cells (l.length * 3)).toList = zs := ⟨_, rfl⟩
    rw [hzs] at hown
    clear hzs hg2
    have HO := Lib.hid hown
    clear hown
    go_wp2
    go_loopw [15] (fun i wr => ∃ (k : Nat) (front tail : List Value), i = .int .i64 k ∧ k ≤ l.length ∧ wr.ownsRow b 36 3 (.slice (some ⟨w.heap.size, 0, none⟩) l.length l.length) l.length (front ++ tail) ∧ Rows (SAt' (Ow w2.heap.size wr) d) (l.take k) front ∧ front.length = k * 3 ∧ Below w.heap.size w wr ∧ w2.heap.size ≤ wr.heap.size) (fun i _ => l.length - (intOf i).toNat)
    case atStart => exact ⟨0, [], zs, rfl, by omega, HO.out, rfl, by simp, hB2, Nat.le_refl _⟩
    case round =>
      obtain ⟨k, front, tail, rfl, hk, hown, hrows, hfl, hbr, hsz⟩ := hrel
      by_cases hlt : k < l.length
      · obtain ⟨a, ha⟩ : ∃ a, l[k]? = some a := ⟨_, List.getElem?_eq_getElem hlt⟩
        obtain ⟨ad, x, y, z, rfl, hg, hc, c0, c1, c2⟩ := row3 sAt.len (sl_low HS.out HBB.out (Lo.below hbr hB)) (HR.out.imp fun a cs h => SRd.low (Lo.below hbr hB) h) ha
        have HC := Lib.hid (HG.out a (List.mem_of_getElem? ha) _ _ _ wr hbr hc w2.heap.size hsz)
        have HOWN := Lib.hid hown
        have HROWS := Lib.hid hrows
        have HA := Lib.hid ha
        have HBR := Lib.hid hbr
        have HFL := Lib.hid hfl
        clear hown hrows ha hbr hc hfl
        go_wp2_with (first
          | (go_at_call 47; refine HC.out.mono ?_; rintro e w3 ⟨x1, x2, x3, rfl, ho, hb3⟩; have hown3 := own_hi HOWN.out (hi_below b hb3))
          | (refine wpList_store_mid rfl 36 _ _ rfl w.heap.size (k * 3) #[x1, x2, x3] rfl rfl (own_there hown3 (show k * 3 + 3 ≤ l.length * 3 by omega)) sz_slot (all_oneCell_toArray (sAt.oneO a [x1, x2, x3] ho)) ?_))
        obtain ⟨hs4, hg4⟩ := own_setCells [x1, x2, x3] (k * 3) _ _ hown3
        have htl : (front ++ tail).length = l.length * 3 := hown3.1
        rw [List.length_append, HFL.out] at htl
        have hfo : front.length = k * 3 := by have := HFL.out; omega
        have hset : setL (front ++ tail) (k * 3) [x1, x2, x3] = (front ++ [x1, x2, x3]) ++ tail.drop 3 := by
          have h := setL_mid [x1, x2, x3] (tail.take 3) front (tail.drop 3) (by rw [List.length_take]; show min 3 tail.length = 3; omega)
          rw [hfo, List.take_append_drop] at h
          rw [h, List.append_assoc]
        rw [hset] at hs4
        have hhi := hi_grown hg4 hw2
        refine ⟨⟨k + 1, front ++ [x1, x2, x3], tail.drop 3, by go_num, by omega, hs4, ?_, by rw [List.length_append, HFL.out]; show k * 3 + 3 = (k + 1) * 3; omega, ?_, ?_⟩, by simp [intOf]; omega⟩
        · refine Rows.snoc sAt.len ?_ HA.out ?_
          · exact HROWS.out.imp fun a cs h => sAt.imp (Ow.hi hhi) (fun m cs h => MAt.imp (Ow.hi hhi) d m cs h) _ _ (sAt.imp (Ow.hi (hi_below _ hb3)) (fun m cs h => MAt.imp (Ow.hi (hi_below _ hb3)) d m cs h) _ _ h)
          · exact sAt.imp (Ow.hi hhi) (fun m cs h => MAt.imp (Ow.hi hhi) d m cs h) _ _ ho
        · exact (HBR.out.trans (hb3.mono HBR.out.size)).trans (below_own hg4 (Nat.le_refl _) (Nat.le_trans HBR.out.size hb3.size))
        · exact Nat.le_trans hsz (Nat.le_trans hb3.size hg4.size)
      · obtain rfl : k = l.length := by omega
        have e : l.take l.length = l := List.take_length
        rw [e] at hrows
        go_wp2
        go_ret
        have htl : tail = [] := by
          have h1 := hown.1
          rw [List.length_append, hfl] at h1
          exact List.eq_nil_of_length_eq_zero (by omega)
        rw [htl, List.append_nil] at hown
        exact ⟨_, rfl, ⟨front, ⟨hown, by omega⟩, hrows.imp fun a cs h => sAt.imp (fun e size v n xs h => Ow.less (Nat.le_trans hbw (Nat.le_of_lt hw2)) e size v n xs h) (fun m cs h => MAt.imp (fun e size v n xs h => Ow.less (Nat.le_trans hbw (Nat.le_of_lt hw2)) e size v n xs h) d m cs h) _ _ h⟩, hbr⟩

theorem oslotP {B d : Nat} (H : OwnH B d) {w : World} (hB : B ≤ w.heap.size) {l : List So} (hsm : ∀ x ∈ l, cS x ≤ 1000000000) : ownslotP B d w l := fun a ha x y z wr hw hr b hb => by
  have hr' := hr
  obtain ⟨u, v, hu, _⟩ := hr
  simp only [List.cons.injEq, and_true] at hu
  obtain ⟨rfl, rfl, rfl⟩ := hu
  exact ownSlot_any H a y z wr (Nat.le_trans hB hw.size) hr' (hsm a ha) b hb
set_option maxRecDepth 1000000 in
set_option maxHeartbeats 4000000 in
theorem own_step {B d : Nat} (H : OwnH B d) : OwnH B (d + 1) := by
  rintro m u w hB ⟨u', hu, hl⟩ hsm b hb
  simp only [List.cons.injEq, and_true] at hu
  subst hu
  obtain ⟨X1, X2, LBD⟩ := two_boxes w (.cells #[u] 28) (.cells #[.slice none 0 0] 28)
  have hF := cnt_F m
  have HT := Lib.hid (own_slot B _ d m.F u _ (Nat.le_trans hB LBD.size) (Nat.le_refl _) (hl.low (Lo.below LBD hB) fun a cs h => SRd.low (Lo.below LBD hB) h) (oslotP H (Nat.le_trans hB LBD.size) fun x hx => by have := cS_le hx; omega) (by omega))
  clear hl H
  go_enter Tryz.func52, Tryz.ntmps52
  go_wp2_with (go_at_call 97; refine HT.out.mono ?_; rintro e wK ⟨q, rfl, ho, hbK⟩; obtain ⟨zs, ⟨hown, hzl⟩, hrz⟩ := id ho; obtain ⟨A', c', rfl, -⟩ := Sl.of_own hown; have X3 := box_on X2 hbK; have y0 := bx1 X3; have y3 : wK.frozen? ⟨w.heap.size + 1, 0, none⟩ = false := by simp [World.frozen?, X3])
  have Z1 := heap_setCell_same wK (w.heap.size + 1) 0 #[.slice none 0 0] 28 (.slice A' m.F.length c') X3
  have Z2 : wK.grownBy (wK.setCell ⟨w.heap.size + 1, 0, none⟩ (.slice A' m.F.length c')) (some (w.heap.size + 1)) := ⟨rfl, rfl, rfl, by simp, fun k _ hk => heap_setCell_other _ ⟨w.heap.size + 1, 0, none⟩ k _ (fun e => hk (by simp [e]))⟩
  have hhi := hi_grown Z2 (box_lt X2)
  have hb4 := below_own Z2 (Nat.le_succ _) (Nat.le_trans LBD.size hbK.size)
  refine bodyPost_ret (results_cell_row rfl _ _ (w.heap.size + 1) _ _ (0, 0) _ rfl Z1 Tryz.underlying28 rfl sz_msg) rfl ?_
  refine ⟨_, rfl, ⟨_, rfl, ho.imp (Ow.hi' hhi (Nat.le_trans hb LBD.size)) fun s cs h => sAt.imp (Ow.hi' hhi (Nat.le_trans hb LBD.size)) (fun m cs h => MAt.imp (Ow.hi' hhi (Nat.le_trans hb LBD.size)) d m cs h) _ _ h⟩, (LBD.trans (hbK.mono LBD.size)).trans hb4⟩
/-- value.Own, of any message. -/
theorem own_any9 (B : Nat) : ∀ d, OwnH B d
  | 0 => fun _ _ _ _ h _ => h.elim
  | d + 1 => own_step (own_any9 B d)
end Go.Proofs.YtjmcpfckcajnjaaGreatDoor.T9
/-
  slices.Insert at slots: one slot goes into a row of the call's own.
-/
namespace Go.Proofs.YtjmcpfckcajnjaaGreatDoor.T9
set_option maxRecDepth 100000

open Go.RowKit

section

variable {P : Program}

/-- copy, of elements of so many cells, into a row that is wholly known. -/
theorem run_copy_many (w : World) (dT sT ty elem : TypeId) (g o dLen dCap : Nat) (a : Addr) (sLen sCap : Nat) (cur : Array Value) (t : TypeId) (cs : List Value) (k n : Nat)
    (hu : P.underlying dT = some (.slice elem)) (hs : (P.info? elem).map (·.size) = some k)
    (hg : w.heap[g]? = some (.cells cur t (0, 0))) (hn : Nat.min sLen dLen = n) (hcs : cs.length = n * k)
    (hsrc : ∀ j v, cs[j]? = some v → w.cell? (a.add j) = some v) (hfit : o + cs.length ≤ cur.size) (h1 : ∀ v ∈ cs, v.oneCell' = true) :
    (Builtin.copy_ #[dT, sT] ty #[.slice (some ⟨g, o, none⟩) dLen dCap, .slice (some a) sLen sCap]).run P w =
      .ok (goInt n) (w.setRow g (cur.toList.take o ++ cs ++ cur.toList.drop (o + cs.length)).toArray) := by
  have hl := run_loadCells_list (P := P) w a cs hsrc
  have hst := run_storeCells_at P g o t cs 0 cur w hg (by simpa using hfit) h1
  rw [hcs] at hl
  cases hq : P.info? elem with
  | none => simp [hq] at hs
  | some i =>
    have hi : i.size = k := by simpa [hq] using hs
    simp [Builtin.copy_, run_underlying hu, Builtin.lenOf, Builtin.firstCells, sizeOf, typeInfo, hq, hi, hn, hl, hst]
theorem wpList_copy_is (w : World) {ops : Array Oper} {rest : List Oper} {o : Oper} {a : Act} {Q : Exit → Act → World → Prop} (hgd : o.guard = none) (d s : Operand) (t t' : TypeId)
    (ho : o.op = .call { callee := .builtin .copy, args := #[d, s], argTypes := #[t, t'] }) (v u : Value) (hd : a.eval d = v) (hs : a.eval s = u) {v' : Value} {w' : World}
    (hr : (Builtin.copy_ #[t, t'] o.type #[v, u]).run P w = .ok v' w') (h : wpList P ops Q rest (a.put o.dst v') w') : wpList P ops Q (o :: rest) a w :=
  wpList_plain hgd fun _ hK => by
    unfold Oper.wp execOp
    simp only [ho, resolve, invoke, builtin, Sem.run_bind, Sem.run_pure, Result.andThen_ok, List.map_toArray, List.map_cons, List.map_nil, hd, hs, hr]
    exact hK _ _ h
theorem step_copy_is {ops : Array Oper} {o : Oper} {a : Act} {w : World} {K : Act → World → Prop} {Q : Exit → Act → World → Prop} {E : Prop}
    (hg : o.guard = none) (d x : Operand) (dT sT : TypeId) (hop : o.op = Op.call { callee := Callee.builtin Builtin.copy, args := #[d, x], argTypes := #[dT, sT] })
    (v u : Value) (hd : a.eval d = v) (hx : a.eval x = u) {v' : Value} {w' : World} (hr : (Builtin.copy_ #[dT, sT] o.type #[v, u]).run P w = .ok v' w') (hK : K (a.put o.dst v') w') :
    if Region.wanted o (yielded ops a.tmps) = true then Oper.wp P o a w K Q else E := by
  have hw : Region.wanted o (yielded ops a.tmps) = true := by simp [Region.wanted, hg]
  rw [if_pos hw]
  unfold Oper.wp
  simp [execOp, hop, resolve, invoke, builtin, hd, hx, hr, Result.andThen]
  exact hK
end

set_option maxRecDepth 1000000 in
set_option maxHeartbeats 4000000 in
theorem insert_end (b n : Nat) (xs : List Value) (v x y z : Value) (gv : Nat) (w : World) (hown : w.ownsRow b 36 3 v n xs) (hbw : b ≤ w.heap.size) (hv : w.heap[gv]? = some (.cells #[x, y, z] 36 (0, 0)))
    (h1 : ∀ u ∈ [x, y, z], u.oneCell' = true) (hn : n ≤ 1000000000) :
    Calls Tryz.prog 51 #[v, .int .i64 n, .slice (some ⟨gv, 0, none⟩) 1 1] w fun e w' => ∃ v', e = .returned v' ∧ w'.ownsRow b 36 3 v' (n + 1) (xs ++ [x, y, z]) ∧ w.grownBy w' v.ownBlock := by
  obtain ⟨i0, hi, hz0, hz1, hz2⟩ := info_parts info_slot
  have hvl : Sl w (some ⟨gv, 0, none⟩) 1 1 3 [x, y, z] := by
    refine ⟨by simp, by omega, by unfold maxLen; omega, by simp, fun ad ha _ => ?_, fun ad ha k u hu => ?_⟩
    · obtain rfl := Option.some.inj ha
      exact box_lt hv
    · obtain rfl := Option.some.inj ha
      rw [Addr.add_lit, box_cell hv]
      simpa using hu
  obtain ⟨A, c, rfl, hsl⟩ := Sl.of_own hown
  have hle := hsl.le
  have hcap := hsl.cap
  unfold maxLen at hcap
  clear hsl
  have HO := Lib.hid hown
  by_cases hc : n = c
  · subst hc
    go_enter Tryz.func51, Tryz.ntmps51
    go_wp2_with (at_builtin; refine wpList_app_sl rfl _ _ 26 rfl b 36 i0 (.agg #[.int .i64 0, .slice none 0 0, .slice none 0 0]) 3 56 Tryz.underlying26 hi hz0 hz1 hz2 rfl (by omega) _ n xs rfl HO.out _ 1 1 [x, y, z] rfl hvl h1 (by unfold maxLen; omega) (by omega) hbw ?_; intro v' w' hown' hg')
    go_ret
    exact ⟨_, rfl, hown', hg'⟩
  · have hlt : ¬ (c = n) := fun h => hc h.symm
    go_enter Tryz.func51, Tryz.ntmps51
    cases A with
    | none =>
      have := hown.2
      simp at this
      omega
    | some ad =>
      go_wp2_with (at_builtin; refine wpList_app_sl rfl _ _ 26 rfl b 36 i0 (.agg #[.int .i64 0, .slice none 0 0, .slice none 0 0]) 3 56 Tryz.underlying26 hi hz0 hz1 hz2 rfl (by omega) _ n xs rfl HO.out _ 1 1 [x, y, z] rfl hvl h1 (by unfold maxLen; omega) (by omega) hbw ?_; intro v' w' hown' hg')
      go_ret
      exact ⟨_, rfl, hown', hg'⟩
/-- What an insertion makes of a row's cells. -/
theorem mid_cells {α : Type} {L xs vs : List α} {n cap i : Nat} (hi : i < n) (hc : n + 1 ≤ cap) (hL : L.length = cap * 3) (hx : L.take (n * 3) = xs) (hv : vs.length = 3) :
    ∀ L1 L2, L1 = L.take ((i + 1) * 3) ++ xs.drop (i * 3) ++ L.drop ((i + 1) * 3 + (xs.drop (i * 3)).length) → L2 = L1.take (i * 3) ++ vs ++ L1.drop (i * 3 + vs.length) →
      L1.length = cap * 3 ∧ L2.length = cap * 3 ∧ L2.take ((n + 1) * 3) = xs.take (i * 3) ++ vs ++ xs.drop (i * 3) := by
  intro L1 L2 h1 h2
  have hxl : xs.length = n * 3 := by rw [← hx, List.length_take]; omega
  have hl1 : L1.length = cap * 3 := by rw [h1]; simp only [List.length_append, List.length_take, List.length_drop, hxl, hL]; omega
  have hl2 : L2.length = cap * 3 := by rw [h2]; simp only [List.length_append, List.length_take, List.length_drop, hl1, hv]; omega
  refine ⟨hl1, hl2, ?_⟩
  have e1 : L1.take (i * 3) = xs.take (i * 3) := by
    rw [h1, List.append_assoc, List.take_append_of_le_length (by rw [List.length_take]; omega), List.take_take, ← hx, List.take_take]
    congr 1
    omega
  have e2 : (L1.drop (i * 3 + 3)).take ((n - i) * 3) = xs.drop (i * 3) := by
    have hll : (L.take ((i + 1) * 3)).length = i * 3 + 3 := by rw [List.length_take]; omega
    rw [h1, List.append_assoc, List.drop_append, hll, List.drop_of_length_le (by omega), Nat.sub_self, List.drop_zero, List.nil_append, List.take_append_of_le_length (by rw [List.length_drop]; omega), List.take_of_length_le (by rw [List.length_drop]; omega)]
  have hal : (xs.take (i * 3) ++ vs).length = i * 3 + 3 := by rw [List.length_append, List.length_take, hv]; omega
  have e3 : (xs.take (i * 3) ++ vs).take ((n + 1) * 3) = xs.take (i * 3) ++ vs := List.take_of_length_le (by rw [hal]; omega)
  rw [h2, e1, hv, List.take_append, hal, e3, show (n + 1) * 3 - (i * 3 + 3) = (n - i) * 3 by omega, e2]
set_option maxRecDepth 1000000 in
set_option maxHeartbeats 4000000 in
theorem insert_room (b n i g cap : Nat) (cur : Array Value) (xs : List Value) (x y z : Value) (gv : Nat) (w : World) (hb : b ≤ g) (hg : w.heap[g]? = some (.cells cur 36 (0, 0))) (hcm : cap ≤ maxLen) (hcs : cur.size = cap * 3) (htk : cur.toList.take (n * 3) = xs)
    (hv : w.heap[gv]? = some (.cells #[x, y, z] 36 (0, 0))) (hne : gv ≠ g) (h1 : ∀ u ∈ [x, y, z], u.oneCell' = true) (h1x : ∀ u ∈ xs, u.oneCell' = true) (hn : n ≤ 1000000000) (hi : i < n) (hroom : n + 1 ≤ cap) :
    Calls Tryz.prog 51 #[.slice (some ⟨g, 0, none⟩) n cap, .int .i64 i, .slice (some ⟨gv, 0, none⟩) 1 1] w fun e w' => ∃ v', e = .returned v' ∧ w'.ownsRow b 36 3 v' (n + 1) (xs.take (i * 3) ++ [x, y, z] ++ xs.drop (i * 3)) ∧ w.grownBy w' (some g) := by
  unfold maxLen at hcm
  have hxl : xs.length = n * 3 := by rw [← htk, List.length_take, Array.length_toList, hcs]; omega
  obtain ⟨l1, l2, hfin⟩ := mid_cells hi hroom (by rw [Array.length_toList, hcs]) htk (show [x, y, z].length = 3 from rfl) _ _ rfl rfl
  have hdl : (xs.drop (i * 3)).length = (n - i) * 3 := by rw [List.length_drop, hxl, Nat.sub_mul]
  have hov : ∀ lb cb, (callFunc 95 #[.slice (some ⟨gv, 0, none⟩) 1 1, .slice (some ⟨g, (i + 1) * 3, none⟩) lb cb]).run Tryz.prog w = .ok (.value (.bool false)) w := fun lb cb => by
    rw [run_callFunc_extern Tryz.func95 (by kernel_rfl) (by kernel_rfl) (by kernel_rfl) (e := Extern.SlicesOverlaps.overlaps #[26, 26] #[4]) (by kernel_rfl),
      Lib.run_overlaps_apart w 26 4 36 Tryz.underlying26 3 (fun w => by kernel_rfl) ⟨gv, 0, none⟩ ⟨g, (i + 1) * 3, none⟩ 1 1 lb cb hne 36 36 3 (cap * 3) (by simp [World.shape?, hv]) (by simp [World.shape?, hg, hcs]) (by omega) (by simp [World.frozen?, hv]) (by simp [World.frozen?, hv])]
    rfl
  obtain ⟨L1, hL1⟩ : ∃ L1, L1 = cur.toList.take ((i + 1) * 3) ++ xs.drop (i * 3) ++ cur.toList.drop ((i + 1) * 3 + (xs.drop (i * 3)).length) := ⟨_, rfl⟩
  rw [← hL1] at l1 l2 hfin
  obtain ⟨L2, hL2⟩ : ∃ L2, L2 = L1.take (i * 3) ++ [x, y, z] ++ L1.drop (i * 3 + [x, y, z].length) := ⟨_, rfl⟩
  rw [← hL2] at l2 hfin
  have hcp1 : ∀ ty dc sc, (Builtin.copy_ #[26, 26] ty #[.slice (some ⟨g, (i + 1) * 3, none⟩) (n - i) dc, .slice (some ⟨g, i * 3, none⟩) (n + 1 - i) sc]).run Tryz.prog w.drew = .ok (goInt (n - i : Nat)) (w.drew.setRow g L1.toArray) := fun ty dc sc => by
    rw [hL1]
    refine run_copy_many w.drew _ _ ty 36 g ((i + 1) * 3) (n - i) dc ⟨g, i * 3, none⟩ (n + 1 - i) sc cur 36 (xs.drop (i * 3)) 3 (n - i) Tryz.underlying26 sz_slot hg (by simp only [Nat.min_def]; split <;> omega) hdl (fun j u hj => ?_) (by rw [hdl, hcs]; omega) fun u hu => h1x u (List.mem_of_mem_drop hu)
    rw [Addr.add_lit]
    show w.cell? _ = _
    rw [box_cell hg, ← Array.getElem?_toList]
    rw [List.getElem?_drop, ← htk, List.getElem?_take] at hj
    split at hj
    · exact hj
    · cases hj
  obtain ⟨W1, hW1⟩ : ∃ W1, W1 = w.drew.setRow g L1.toArray := ⟨_, rfl⟩
  have hg1 : W1.heap[g]? = some (.cells L1.toArray 36 (0, 0)) := by rw [hW1]; exact setRow_heap w.drew g cur _ _ _ hg
  have hv1 : W1.heap[gv]? = some (.cells #[x, y, z] 36 (0, 0)) := by
    rw [hW1]
    exact (setRow_other w.drew g gv _ hne).trans hv
  have hgr1 : w.grownBy W1 (some g) := by
    rw [hW1]
    exact ⟨rfl, rfl, rfl, by simp, fun k _ hk => setRow_other w.drew g k _ (fun e => hk (by rw [e]))⟩
  have hcp2 : ∀ ty dc, (Builtin.copy_ #[26, 26] ty #[.slice (some ⟨g, i * 3, none⟩) (n + 1 - i) dc, .slice (some ⟨gv, 0, none⟩) 1 1]).run Tryz.prog W1 = .ok (goInt (1 : Nat)) (W1.setRow g L2.toArray) := fun ty dc => by
    rw [hL2]
    refine run_copy_many W1 _ _ ty 36 g (i * 3) (n + 1 - i) dc ⟨gv, 0, none⟩ 1 1 L1.toArray 36 [x, y, z] 3 1 Tryz.underlying26 sz_slot hg1 (by simp only [Nat.min_def]; split <;> omega) rfl (fun j u hj => ?_) (by simp only [List.size_toArray, l1]; show i * 3 + 3 ≤ _; omega) h1
    rw [Addr.add_lit, box_cell hv1]
    simpa using hj
  rw [← hW1] at hcp1
  have hz2 : ¬ ((i : Int) = (n : Int)) := by omega
  have hw1 : IntKind.i64.wrap ((i : Int) + 1) = (i : Int) + 1 := by rw [IntKind.wrap_i64]; omega
  have hw2 : IntKind.i64.wrap ((n : Int) + 1) = (n : Int) + 1 := by rw [IntKind.wrap_i64]; omega
  have hb1 : (0 : Int) ≤ (i : Int) + 1 := by omega
  have hin : i ≤ n := by omega
  have hb2 : ¬ (cap = i + 1) := by omega
  have hb3 : (i : Int) ≤ (n : Int) + 1 := by omega
  have hb4 : ¬ (cap = i) := by omega
  have HOV := Lib.hid hov
  have HC1 := Lib.hid hcp1
  have HC2 := Lib.hid hcp2
  clear hov hcp1 hcp2 hxl hdl hL1 hL2 hW1 htk hcs
  go_enter Tryz.func51, Tryz.ntmps51
  go_wp2_with (simp only [HOV.out])
  have mixed : Tryz.prog.follows Departure.mixedOrders = true := by kernel_rfl
  go_region_law_o (refine step_copy_is rfl _ _ 26 26 rfl (.slice (some ⟨g, (i + 1) * 3, none⟩) (n - i) (cap - (i + 1))) (.slice (some ⟨g, i * 3, none⟩) (n + 1 - i) (cap - i)) (by simp [Act.eval, Act.put]) (by simp [Act.eval, Act.put]) (HC1.out 3 (cap - (i + 1)) (cap - i)) ?_)
  go_wp2_with (simp only [HC2.out])
  go_ret
  refine ⟨_, rfl, ⟨?_, .inr ⟨g, cap, L2.toArray, rfl, hb, setRow_heap _ _ _ _ _ _ hg1, hroom, hcm, by simpa using l2, by simpa using hfin⟩⟩, ?_⟩
  · rw [← hfin, List.length_take, l2]
    omega
  · exact ⟨hgr1.os, hgr1.tape, hgr1.output, by simpa using hgr1.size, fun k hk hn => (setRow_other _ g k _ (fun e => hn (by rw [e]))).trans (hgr1.block k hk hn)⟩
theorem grow_cells {α : Type} {R xs vs : List α} {n G i : Nat} (hi : i < n) (hG : n + 1 ≤ G) (hR : R.length = G * 3) (hx : xs.length = n * 3) (hv : vs.length = 3) (hr : R.take (i * 3) = xs.take (i * 3)) :
    ∀ L1 L2, L1 = R.take (i * 3) ++ vs ++ R.drop (i * 3 + vs.length) → L2 = L1.take ((i + 1) * 3) ++ xs.drop (i * 3) ++ L1.drop ((i + 1) * 3 + (xs.drop (i * 3)).length) →
      L1.length = G * 3 ∧ L2.length = G * 3 ∧ L2.take ((n + 1) * 3) = xs.take (i * 3) ++ vs ++ xs.drop (i * 3) := by
  intro L1 L2 h1 h2
  have hl1 : L1.length = G * 3 := by rw [h1]; simp only [List.length_append, List.length_take, List.length_drop, hR, hv]; omega
  have hl2 : L2.length = G * 3 := by rw [h2]; simp only [List.length_append, List.length_take, List.length_drop, hl1, hx]; omega
  refine ⟨hl1, hl2, ?_⟩
  have hal : (xs.take (i * 3) ++ vs).length = (i + 1) * 3 := by rw [List.length_append, List.length_take, hv]; omega
  have e1 : L1.take ((i + 1) * 3) = xs.take (i * 3) ++ vs := by
    rw [h1, hr, List.take_append, hal, Nat.sub_self, List.take_zero, List.append_nil]
    exact List.take_of_length_le (by rw [hal]; omega)
  have hal2 : (xs.take (i * 3) ++ vs ++ xs.drop (i * 3)).length = (n + 1) * 3 := by rw [List.length_append, hal, List.length_drop]; omega
  rw [h2, e1, List.take_append, hal2, Nat.sub_self, List.take_zero, List.append_nil]
  exact List.take_of_length_le (by rw [hal2]; omega)
set_option maxRecDepth 1000000 in
set_option maxHeartbeats 4000000 in
theorem insert_grow (b n i g cap : Nat) (cur : Array Value) (xs : List Value) (x y z : Value) (gv : Nat) (w : World) (hbw : b ≤ w.heap.size) (hg : w.heap[g]? = some (.cells cur 36 (0, 0))) (hnc : n ≤ cap) (htk : cur.toList.take (n * 3) = xs) (hxl : xs.length = n * 3)
    (hv : w.heap[gv]? = some (.cells #[x, y, z] 36 (0, 0))) (h1 : ∀ u ∈ [x, y, z], u.oneCell' = true) (h1x : ∀ u ∈ xs, u.oneCell' = true) (hn : n ≤ 1000000000) (hi : i < n) (hroom : cap < n + 1) :
    Calls Tryz.prog 51 #[.slice (some ⟨g, 0, none⟩) n cap, .int .i64 i, .slice (some ⟨gv, 0, none⟩) 1 1] w fun e w' => ∃ v', e = .returned v' ∧ w'.ownsRow b 36 3 v' (n + 1) (xs.take (i * 3) ++ [x, y, z] ++ xs.drop (i * 3)) ∧ w.grownBy w' none := by
  obtain ⟨i0, hi0, hz0, hzs, hzb⟩ := info_parts info_slot
  have hdl : (xs.drop (i * 3)).length = (n - i) * 3 := by rw [List.length_drop, hxl, Nat.sub_mul]
  have hcell : ∀ j u, xs[j]? = some u → w.cell? ⟨g, j, none⟩ = some u := fun j u hj => by
    rw [box_cell hg, ← Array.getElem?_toList]
    rw [← htk, List.getElem?_take] at hj
    split at hj
    · exact hj
    · cases hj
  have hold : (Builtin.firstCells i0.size i (.slice (some ⟨g, 0, none⟩) i cap)).run Tryz.prog w.drew = .ok (xs.take (i * 3)).toArray w.drew := by
    rw [hzs]
    exact run_firstCells_some w.drew 3 i ⟨g, 0, none⟩ i cap (xs.take (i * 3)) (by rw [List.length_take]; omega) (fun j u hj => by
      rw [Addr.add_lit, Nat.zero_add]
      rw [List.getElem?_take] at hj
      split at hj
      · exact hcell j u hj
      · cases hj)
  have hkk : (n : Int) + 1 - (i : Int) = ((n + 1 - i : Nat) : Int) := by omega
  have hik : i + (n + 1 - i) = n + 1 := by omega
  have hrz : ∀ ty, (Builtin.append_ #[26, 3] ty #[.slice (some ⟨g, 0, none⟩) i cap, .int .i64 ((n : Int) + 1 - (i : Int))]).run Tryz.prog w =
      .ok (.slice (some ⟨w.heap.size, 0, none⟩) (n + 1) (grownCap w (n + 1) cap 36)) (w.drew.alloc (.cells ((xs.take (i * 3)).toArray ++ Builtin.zeroCells (Value.agg #[.int .i64 0, .slice none 0 0, .slice none 0 0]).cells (n + 1 - i) ++ Builtin.zeroCells (Value.agg #[.int .i64 0, .slice none 0 0, .slice none 0 0]).cells (grownCap w (n + 1) cap 36 - (n + 1))) 36)) := fun ty => by
    have h := Lib.run_append_grow_zeros w 26 3 ty 36 i0 _ .i64 .i64 Tryz.underlying26 Tryz.underlying3 hi0 hz0 (some ⟨g, 0, none⟩) i cap (xs.take (i * 3)) hold (n + 1 - i) (by omega) (by omega) (by omega) (by omega) (by rw [hzb]; omega) (by rw [hzb, hik]; exact growslice_fits hroom (by omega))
    rw [hik] at h
    rw [hkk]
    exact h
  obtain ⟨G, hG⟩ : ∃ G, G = grownCap w (n + 1) cap 36 := ⟨_, rfl⟩
  have hGn : n + 1 ≤ G := by rw [hG]; exact grownCap_ge w _ _ _
  have hG63 : G ≤ maxLen := by rw [hG]; exact grownCap_le_maxLen w (n + 1) cap _ (by unfold maxLen; omega)
  rw [← hG] at hrz
  obtain ⟨ROW, hROW⟩ : ∃ ROW : Array Value, ROW = (xs.take (i * 3)).toArray ++ Builtin.zeroCells (Value.agg #[.int .i64 0, .slice none 0 0, .slice none 0 0]).cells (n + 1 - i) ++ Builtin.zeroCells (Value.agg #[.int .i64 0, .slice none 0 0, .slice none 0 0]).cells (G - (n + 1)) := ⟨_, rfl⟩
  rw [← hROW] at hrz
  have hRl : ROW.toList.length = G * 3 := by
    rw [Array.length_toList, hROW]
    simp only [Array.size_append, size_zeroCells, List.size_toArray, List.length_take, hxl]
    show min (i * 3) (n * 3) + (n + 1 - i) * 3 + (G - (n + 1)) * 3 = G * 3
    omega
  have hRt : ROW.toList.take (i * 3) = xs.take (i * 3) := by
    rw [hROW, Array.toList_append, Array.toList_append, List.append_assoc]
    exact (List.take_append_of_le_length (by simp [hxl]; omega)).trans (List.take_of_length_le (by simp; omega))
  clear hROW
  obtain ⟨l1, l2, hfin⟩ := grow_cells hi hGn hRl hxl (show [x, y, z].length = 3 from rfl) hRt _ _ rfl rfl
  obtain ⟨L1, hL1⟩ : ∃ L1, L1 = ROW.toList.take (i * 3) ++ [x, y, z] ++ ROW.toList.drop (i * 3 + [x, y, z].length) := ⟨_, rfl⟩
  rw [← hL1] at l1 l2 hfin
  obtain ⟨L2, hL2⟩ : ∃ L2, L2 = L1.take ((i + 1) * 3) ++ xs.drop (i * 3) ++ L1.drop ((i + 1) * 3 + (xs.drop (i * 3)).length) := ⟨_, rfl⟩
  rw [← hL2] at l2 hfin
  obtain ⟨W1, hW1⟩ : ∃ W1, W1 = w.drew.alloc (.cells ROW 36) := ⟨_, rfl⟩
  have hg1 : W1.heap[w.heap.size]? = some (.cells ROW 36 (0, 0)) := by rw [hW1]; exact heap_alloc_new w.drew _
  have hgr1 : w.grownBy W1 none := by rw [hW1]; exact ⟨rfl, rfl, rfl, by simp, fun k hk _ => heap_alloc_old w.drew _ hk⟩
  rw [← hW1] at hrz
  have hgw : g < w.heap.size := box_lt hg
  have hcpA : ∀ ty dc, (Builtin.copy_ #[26, 26] ty #[.slice (some ⟨w.heap.size, i * 3, none⟩) (n + 1 - i) dc, .slice (some ⟨gv, 0, none⟩) 1 1]).run Tryz.prog W1 = .ok (goInt (1 : Nat)) (W1.setRow w.heap.size L1.toArray) := fun ty dc => by
    rw [hL1]
    refine run_copy_many W1 _ _ ty 36 w.heap.size (i * 3) (n + 1 - i) dc ⟨gv, 0, none⟩ 1 1 ROW 36 [x, y, z] 3 1 Tryz.underlying26 sz_slot hg1 (by simp only [Nat.min_def]; split <;> omega) rfl (fun j u hj => ?_) (by rw [← Array.length_toList, hRl]; show i * 3 + 3 ≤ _; omega) h1
    rw [Addr.add_lit, box_cell ((hgr1.block gv (box_lt hv) (by simp)).trans hv)]
    simpa using hj
  obtain ⟨W2, hW2⟩ : ∃ W2, W2 = W1.setRow w.heap.size L1.toArray := ⟨_, rfl⟩
  have hg2 : W2.heap[w.heap.size]? = some (.cells L1.toArray 36 (0, 0)) := by rw [hW2]; exact setRow_heap W1 _ ROW _ _ _ hg1
  have hgr2 : w.grownBy W2 none := by
    rw [hW2]
    exact ⟨hgr1.os, hgr1.tape, hgr1.output, by simpa using hgr1.size, fun k hk hn => (setRow_other W1 _ k _ (by omega)).trans (hgr1.block k hk hn)⟩
  rw [← hW2] at hcpA
  have hcpB : ∀ ty dc sc, (Builtin.copy_ #[26, 26] ty #[.slice (some ⟨w.heap.size, (i + 1) * 3, none⟩) (n - i) dc, .slice (some ⟨g, i * 3, none⟩) (n - i) sc]).run Tryz.prog W2.drew = .ok (goInt (n - i : Nat)) (W2.drew.setRow w.heap.size L2.toArray) := fun ty dc sc => by
    rw [hL2]
    refine run_copy_many W2.drew _ _ ty 36 w.heap.size ((i + 1) * 3) (n - i) dc ⟨g, i * 3, none⟩ (n - i) sc L1.toArray 36 (xs.drop (i * 3)) 3 (n - i) Tryz.underlying26 sz_slot hg2 (by simp) hdl (fun j u hj => ?_) (by rw [hdl, List.size_toArray, l1]; omega) fun u hu => h1x u (List.mem_of_mem_drop hu)
    rw [Addr.add_lit]
    show W2.cell? _ = _
    rw [World.cell?_of_block (hgr2.block g hgw (by simp))]
    exact hcell _ u (by rwa [List.getElem?_drop] at hj)
  have hz2 : ¬ ((i : Int) = (n : Int)) := by omega
  have hw1 : IntKind.i64.wrap ((i : Int) + 1) = (i : Int) + 1 := by rw [IntKind.wrap_i64]; omega
  have hw2 : IntKind.i64.wrap ((n : Int) + 1) = (n : Int) + 1 := by rw [IntKind.wrap_i64]; omega
  have hw3 : IntKind.i64.wrap ((n : Int) + 1 - (i : Int)) = (n : Int) + 1 - (i : Int) := by rw [IntKind.wrap_i64]; omega
  have hb1 : (0 : Int) ≤ (i : Int) + 1 := by omega
  have hin : i ≤ n := by omega
  have hb2 : ¬ (cap = i + 1) ∨ cap = i + 1 := by omega
  have hb3 : (i : Int) ≤ (n : Int) := by omega
  have hb4 : ¬ (cap = i) := by omega
  have hb5 : ¬ (G = i) := by omega
  have hb6 : ¬ (G = i + 1) := by omega
  have hb7 : (i : Int) ≤ (n : Int) + 1 := by omega
  have hz3 : (cap : Int) < (n : Int) + 1 := by omega
  have hGi : G ≤ 9223372036854775807 := by unfold maxLen at hG63; omega
  have HA := Lib.hid hrz
  have HC1 := Lib.hid hcpA
  have HC2 := Lib.hid hcpB
  clear hrz hcpA hcpB hxl hdl hL1 hL2 hW1 hW2 htk hold hkk hik hcell hG hRl hRt hb2 l1
  go_enter Tryz.func51, Tryz.ntmps51
  go_wp2_with (first
    | (at_builtin; refine Lib.wpList_append_run _ rfl _ _ _ _ rfl _ _ rfl rfl _ _ (HA.out _) ?_)
    | (simp only [HC1.out]))
  have mixed : Tryz.prog.follows Departure.mixedOrders = true := by kernel_rfl
  go_region_law_o (refine step_copy_is rfl _ _ 26 26 rfl (.slice (some ⟨w.heap.size, (i + 1) * 3, none⟩) (n - i) (G - (i + 1))) (.slice (some ⟨g, i * 3, none⟩) (n - i) (cap - i)) (by simp [Act.eval, Act.put]) (by simp [Act.eval, Act.put]) (HC2.out 3 (G - (i + 1)) (cap - i)) ?_)
  go_wp2
  go_ret
  refine ⟨_, rfl, ⟨?_, .inr ⟨w.heap.size, G, L2.toArray, rfl, hbw, setRow_heap _ _ _ _ _ _ hg2, hGn, hG63, by simpa using l2, by simpa using hfin⟩⟩, ?_⟩
  · rw [← hfin, List.length_take, l2]
    omega
  · exact ⟨hgr2.os, hgr2.tape, hgr2.output, by simpa using hgr2.size, fun k hk hn => (setRow_other _ _ k _ (by omega)).trans (hgr2.block k hk hn)⟩
/-- slices.Insert of one slot into a row of the call's own. -/
theorem insert_any (b n i : Nat) (xs : List Value) (v x y z : Value) (gv : Nat) (w : World) (hown : w.ownsRow b 36 3 v n xs) (hbw : b ≤ w.heap.size) (hv : w.heap[gv]? = some (.cells #[x, y, z] 36 (0, 0))) (hne : v.ownBlock ≠ some gv)
    (h1 : ∀ u ∈ [x, y, z], u.oneCell' = true) (h1x : ∀ u ∈ xs, u.oneCell' = true) (hn : n ≤ 1000000000) (hi : i ≤ n) :
    Calls Tryz.prog 51 #[v, .int .i64 i, .slice (some ⟨gv, 0, none⟩) 1 1] w fun e w' => ∃ v', e = .returned v' ∧ w'.ownsRow b 36 3 v' (n + 1) (xs.take (i * 3) ++ [x, y, z] ++ xs.drop (i * 3)) ∧ w.grownBy w' v.ownBlock := by
  have hxl := hown.1
  by_cases hin : i = n
  · subst hin
    refine (insert_end b i xs v x y z gv w hown hbw hv h1 hn).mono ?_
    rintro e w' ⟨v', rfl, ho, hg⟩
    refine ⟨v', rfl, ?_, hg⟩
    rw [List.take_of_length_le (by omega), List.drop_of_length_le (by omega), List.append_nil]
    exact ho
  · obtain ⟨-, ⟨rfl, rfl⟩ | ⟨g, cap, cur, rfl, hb, hg, hnc, hcm, hcs, htk⟩⟩ := hown
    · omega
    · by_cases hr : n + 1 ≤ cap
      · exact insert_room b n i g cap cur xs x y z gv w hb hg hcm hcs htk hv (fun e => hne (by simp [Value.ownBlock, e])) h1 h1x hn (by omega) hr
      · refine (insert_grow b n i g cap cur xs x y z gv w hbw hg hnc htk hxl hv h1 h1x hn (by omega) (by omega)).mono ?_
        rintro e w' ⟨v', rfl, ho, hg⟩
        exact ⟨v', rfl, ho, ⟨hg.os, hg.tape, hg.output, hg.size, fun k hk _ => hg.block k hk (by simp)⟩⟩
end Go.Proofs.YtjmcpfckcajnjaaGreatDoor.T9
/-
  A slot that is got, and set; a value that is less: value's Get, Set, Less.
-/
namespace Go.Proofs.YtjmcpfckcajnjaaGreatDoor.T9
set_option maxRecDepth 100000

open Go.RowKit

/-! ### The functions that tell of a slot -/

theorem clo_get (a : So) (x y z : Value) (no : Int) (P : Nat) (W : World) (hs : x = .int .i64 a.no) (hc : W.heap[P]? = some (.cells #[.int .i64 no] 3 (0, 0))) :
    Calls Tryz.prog 46 #[.agg #[x, y, z], .pointer (some ⟨P, 0, none⟩)] W fun e w' => e = .returned (.bool (a.no == no)) ∧ Below W.heap.size W w' := by
  subst hs
  have c0 := bx1 hc
  have hlt := box_lt hc
  obtain ⟨k, hk⟩ : ∃ k, a.no = k := ⟨_, rfl⟩
  rw [hk]
  clear hc hk
  go_enter Tryz.func46, Tryz.ntmps46
  go_wp2
  go_ret
  exact ⟨rfl, below_new _ _⟩
theorem clo_rest (a : So) (x y z : Value) (no : Int) (u1 u2 : Value) (P : Nat) (W : World) (hs : x = .int .i64 a.no) (hc : W.heap[P]? = some (.cells #[.int .i64 no, u1, u2] 36 (0, 0))) :
    Calls Tryz.prog 49 #[.agg #[x, y, z], .pointer (some ⟨P, 0, none⟩)] W fun e w' => e = .returned (.bool (a.no != no)) ∧ Below W.heap.size W w' := by
  subst hs
  have c0 := (bx3 hc).1
  have hlt := box_lt hc
  obtain ⟨k, hk⟩ : ∃ k, a.no = k := ⟨_, rfl⟩
  rw [hk]
  clear hc hk
  go_enter Tryz.func49, Tryz.ntmps49
  go_wp2
  go_ret
  exact ⟨rfl, below_new _ _⟩
theorem clo_place (a : So) (x y z : Value) (no : Int) (u1 u2 : Value) (P : Nat) (W : World) (hs : x = .int .i64 a.no) (hc : W.heap[P]? = some (.cells #[.int .i64 no, u1, u2] 36 (0, 0))) :
    Calls Tryz.prog 50 #[.agg #[x, y, z], .pointer (some ⟨P, 0, none⟩)] W fun e w' => e = .returned (.bool (decide (no < a.no))) ∧ Below W.heap.size W w' := by
  subst hs
  have c0 := (bx3 hc).1
  have hlt := box_lt hc
  obtain ⟨k, hk⟩ : ∃ k, a.no = k := ⟨_, rfl⟩
  rw [hk]
  clear hc hk
  go_enter Tryz.func50, Tryz.ntmps50
  go_wp2
  go_ret
  exact ⟨rfl, below_new _ _⟩
theorem sAt.head {R : RP} {G : Mg → List Value → Prop} {a : So} {x y z : Value} (h : sAt R G a [x, y, z]) : x = .int .i64 a.no := by
  obtain ⟨u1, u2, hu, _⟩ := h
  simp only [List.cons.injEq] at hu
  exact hu.1

/-! ### The first of which something is so, and all of which something is so -/

theorem findIdx_next {l : List So} {p : So → Bool} {k : Nat} (h : ∀ j y, j < k → l[j]? = some y → p y = false) (hk : k ≤ l.length) : k ≤ l.findIdx p := by
  rcases Nat.lt_or_ge (l.findIdx p) k with hlt | hge
  · have h1 : l.findIdx p < l.length := by omega
    have h2 := List.findIdx_getElem (w := h1)
    rw [h _ _ hlt (List.getElem?_eq_getElem h1)] at h2
    cases h2
  · exact hge
theorem findIdx_here {l : List So} {p : So → Bool} {k : Nat} {a : So} (h : ∀ j y, j < k → l[j]? = some y → p y = false) (ha : l[k]? = some a) (hp : p a = true) : l.findIdx p = k := by
  obtain ⟨hk, rfl⟩ := List.getElem?_eq_some_iff.1 ha
  refine Nat.le_antisymm ?_ (findIdx_next h (Nat.le_of_lt hk))
  rcases Nat.lt_or_ge k (l.findIdx p) with hlt | hge
  · have h1 := List.not_of_lt_findIdx hlt
    rw [hp] at h1
    cases h1
  · exact hge
set_option maxRecDepth 1000000 in
set_option maxHeartbeats 4000000 in
theorem place_get (B d : Nat) (l : List So) (u : Value) (no : Int)  (P : Nat) (w : World) (hB : B ≤ w.heap.size) (hl : LsAt (Rd B w) 36 3 (SAt' (Rd B w) d) l u) (hc : w.heap[P]? = some (.cells #[.int .i64 no] 3 (0, 0))) :
    Calls Tryz.prog 45 #[u, .func (.func 46) #[] #[.pointer (some ⟨P, 0, none⟩)]] w fun e w' => e = .returned (.int .i64 (l.findIdx fun a => a.no == no : Nat)) ∧ Below w.heap.size w w' := by
  obtain ⟨A, c, xs, rfl, hs, hb, hr, hn⟩ := hl.open_
  have HS := Lib.hid hs
  have HR := Lib.hid hr
  have HBB := Lib.hid hb
  have HC := Lib.hid hc
  clear hs hr hl hb hc
  go_enter Tryz.func45, Tryz.ntmps45
  go_wp2
  go_loopw [8] (fun i wr => ∃ k : Nat, i = .int .i64 k ∧ k ≤ l.length ∧ (∀ j y, j < k → l[j]? = some y → (fun a : So => a.no == no) y = false) ∧ Below w.heap.size w wr) (fun i _ => l.length - (intOf i).toNat)
  case atStart => exact ⟨0, rfl, by omega, fun j y hj => by omega, Below.refl _ _⟩
  case round =>
    obtain ⟨k, rfl, hk, hq, hbw⟩ := hrel
    have HQ := Lib.hid hq
    clear hq
    by_cases hlt : k < l.length
    · obtain ⟨a, ha⟩ : ∃ a, l[k]? = some a := ⟨_, List.getElem?_eq_getElem hlt⟩
      obtain ⟨ad, x, y, z, rfl, hg, hcc, c0, c1, c2⟩ := row3 sAt.len (sl_low HS.out HBB.out (Lo.below hbw hB)) (HR.out.imp fun a cs h => SRd.low (Lo.below hbw hB) h) ha
      have HCL := Lib.hid (clo_get a x y z no  P wr hcc.head (box_on HC.out hbw))
      have HA := Lib.hid ha
      have HB2 := Lib.hid hbw
      obtain ⟨r, hr⟩ : ∃ r, (a.no == no) = r := ⟨_, rfl⟩
      rw [hr] at HCL
      have HRR := Lib.hid hr
      clear hcc ha hbw hr
      cases r with
      | true =>
        go_wp2_with (go_at_call 46; refine HCL.out.mono ?_; rintro e w1 ⟨rfl, hb1⟩)
        go_ret
        exact ⟨by rw [findIdx_here (p := fun a : So => a.no == no) HQ.out HA.out HRR.out]; rfl, HB2.out.trans (hb1.mono HB2.out.size)⟩
      | false =>
        go_wp2_with (go_at_call 46; refine HCL.out.mono ?_; rintro e w1 ⟨rfl, hb1⟩)
        refine ⟨⟨k + 1, by go_num, by omega, fun j y hj hy => ?_, HB2.out.trans (hb1.mono HB2.out.size)⟩, by simp [intOf]; omega⟩
        by_cases hj2 : j < k
        · exact HQ.out j y hj2 hy
        · obtain rfl : j = k := by omega
          have ha := HA.out
          rw [hy] at ha
          obtain rfl := Option.some.inj ha
          exact HRR.out
    · obtain rfl : k = l.length := by omega
      have e : l.findIdx (fun a => a.no == no) = l.length := Nat.le_antisymm List.findIdx_le_length (findIdx_next HQ.out (Nat.le_refl _))
      have HE := Lib.hid e
      clear e
      go_wp2
      go_ret
      exact ⟨by rw [HE.out]; rfl, hbw⟩
set_option maxRecDepth 1000000 in
set_option maxHeartbeats 4000000 in
theorem place_set (B d : Nat) (l : List So) (u : Value) (no : Int) (u1 u2 : Value) (P : Nat) (w : World) (hB : B ≤ w.heap.size) (hl : LsAt (Rd B w) 36 3 (SAt' (Rd B w) d) l u) (hc : w.heap[P]? = some (.cells #[.int .i64 no, u1, u2] 36 (0, 0))) :
    Calls Tryz.prog 45 #[u, .func (.func 50) #[] #[.pointer (some ⟨P, 0, none⟩)]] w fun e w' => e = .returned (.int .i64 (l.findIdx fun a => decide (no < a.no) : Nat)) ∧ Below w.heap.size w w' := by
  obtain ⟨A, c, xs, rfl, hs, hb, hr, hn⟩ := hl.open_
  have HS := Lib.hid hs
  have HR := Lib.hid hr
  have HBB := Lib.hid hb
  have HC := Lib.hid hc
  clear hs hr hl hb hc
  go_enter Tryz.func45, Tryz.ntmps45
  go_wp2
  go_loopw [8] (fun i wr => ∃ k : Nat, i = .int .i64 k ∧ k ≤ l.length ∧ (∀ j y, j < k → l[j]? = some y → (fun a : So => decide (no < a.no)) y = false) ∧ Below w.heap.size w wr) (fun i _ => l.length - (intOf i).toNat)
  case atStart => exact ⟨0, rfl, by omega, fun j y hj => by omega, Below.refl _ _⟩
  case round =>
    obtain ⟨k, rfl, hk, hq, hbw⟩ := hrel
    have HQ := Lib.hid hq
    clear hq
    by_cases hlt : k < l.length
    · obtain ⟨a, ha⟩ : ∃ a, l[k]? = some a := ⟨_, List.getElem?_eq_getElem hlt⟩
      obtain ⟨ad, x, y, z, rfl, hg, hcc, c0, c1, c2⟩ := row3 sAt.len (sl_low HS.out HBB.out (Lo.below hbw hB)) (HR.out.imp fun a cs h => SRd.low (Lo.below hbw hB) h) ha
      have HCL := Lib.hid (clo_place a x y z no u1 u2 P wr hcc.head (box_on HC.out hbw))
      have HA := Lib.hid ha
      have HB2 := Lib.hid hbw
      obtain ⟨r, hr⟩ : ∃ r, (decide (no < a.no)) = r := ⟨_, rfl⟩
      rw [hr] at HCL
      have HRR := Lib.hid hr
      clear hcc ha hbw hr
      cases r with
      | true =>
        go_wp2_with (go_at_call 50; refine HCL.out.mono ?_; rintro e w1 ⟨rfl, hb1⟩)
        go_ret
        exact ⟨by rw [findIdx_here (p := fun a : So => decide (no < a.no)) HQ.out HA.out HRR.out]; rfl, HB2.out.trans (hb1.mono HB2.out.size)⟩
      | false =>
        go_wp2_with (go_at_call 50; refine HCL.out.mono ?_; rintro e w1 ⟨rfl, hb1⟩)
        refine ⟨⟨k + 1, by go_num, by omega, fun j y hj hy => ?_, HB2.out.trans (hb1.mono HB2.out.size)⟩, by simp [intOf]; omega⟩
        by_cases hj2 : j < k
        · exact HQ.out j y hj2 hy
        · obtain rfl : j = k := by omega
          have ha := HA.out
          rw [hy] at ha
          obtain rfl := Option.some.inj ha
          exact HRR.out
    · obtain rfl : k = l.length := by omega
      have e : l.findIdx (fun a => decide (no < a.no)) = l.length := Nat.le_antisymm List.findIdx_le_length (findIdx_next HQ.out (Nat.le_refl _))
      have HE := Lib.hid e
      clear e
      go_wp2
      go_ret
      exact ⟨by rw [HE.out]; rfl, hbw⟩
theorem lit3 (w : World) (x y z : Value) (t : TypeId) : Sl (w.alloc (.cells #[x, y, z] t)) (some ⟨w.heap.size, 0, none⟩) 1 1 3 [x, y, z] := by
  refine ⟨by simp, by omega, by unfold maxLen; omega, by simp, fun ad ha _ => ?_, fun ad ha k u hu => ?_⟩
  · obtain rfl := Option.some.inj ha
    simp
  · obtain rfl := Option.some.inj ha
    rw [Addr.add_lit, World.cell?_alloc_at _ _ _ _ rfl]
    simpa using hu
theorem below_rows {w w1 w' : World} {B : Nat} {e : TypeId} {size : Nat} {v : Value} {n : Nat} {xs : List Value} (h : w1.ownsRow B e size v n xs) (hg : w.grownBy w' v.ownBlock) (hs : B ≤ w.heap.size) : Below B w w' :=
  ⟨hg.os, hg.tape, hg.output, hg.size, fun k hk => hg.block k (by omega) (fun e => by have := own_ge h k e.symm; omega)⟩
set_option maxRecDepth 1000000 in
set_option maxHeartbeats 4000000 in
theorem those_any (B d : Nat) (l : List So) (u : Value) (no : Int) (u1 u2 : Value) (P : Nat) (w : World) (hB : B ≤ w.heap.size) (hl : LsAt (Rd B w) 36 3 (SAt' (Rd B w) d) l u) (hsm : l.length ≤ 1000000000) (hc : w.heap[P]? = some (.cells #[.int .i64 no, u1, u2] 36 (0, 0))) :
    Calls Tryz.prog 48 #[u, .func (.func 49) #[] #[.pointer (some ⟨P, 0, none⟩)]] w fun e w' => ∃ v xs, e = .returned v ∧ w'.ownsRow w.heap.size 36 3 v (rest l no).length xs ∧ Rows (SAt' (Rd B w') d) (rest l no) xs ∧ Below w.heap.size w w' := by
  obtain ⟨A, c, xs, rfl, hs, hb, hr, hn⟩ := hl.open_
  obtain ⟨i0, hi, hz0, hz1, hz2⟩ := info_parts info_slot
  have HS := Lib.hid hs
  have HR := Lib.hid hr
  have HBB := Lib.hid hb
  have HC := Lib.hid hc
  clear hs hr hl hb hc
  go_enter Tryz.func48, Tryz.ntmps48
  go_wp2
  go_loopw [5, 9] (fun v i wr => ∃ (k : Nat) (ys : List Value), i = .int .i64 k ∧ k ≤ l.length ∧ wr.ownsRow w.heap.size 36 3 v (rest (l.take k) no).length ys ∧ Rows (SAt' (Rd B wr) d) (rest (l.take k) no) ys ∧ Below w.heap.size w wr) (fun _ i _ => l.length - (intOf i).toNat)
  case atStart => exact ⟨0, [], rfl, by omega, World.ownsRow_nil _ _ _ _, rfl, Below.refl _ _⟩
  case round =>
    obtain ⟨k, ys, rfl, hk, hown, hrows, hbw⟩ := hrel
    by_cases hlt : k < l.length
    · obtain ⟨a, ha⟩ : ∃ a, l[k]? = some a := ⟨_, List.getElem?_eq_getElem hlt⟩
      obtain ⟨ad, x, y, z, rfl, hg, hcc, c0, c1, c2⟩ := row3 sAt.len (sl_low HS.out HBB.out (Lo.below hbw hB)) (HR.out.imp fun a cs h => SRd.low (Lo.below hbw hB) h) ha
      have HCL := Lib.hid (clo_rest a x y z no u1 u2 P wr hcc.head (box_on HC.out hbw))
      have hlen : (rest (l.take k) no).length ≤ l.length := Nat.le_trans (List.length_filter_le _ _) (by rw [List.length_take]; omega)
      have HA := Lib.hid ha
      have HB2 := Lib.hid hbw
      have HOWN := Lib.hid hown
      have HROWS := Lib.hid hrows
      have HCC := Lib.hid hcc
      obtain ⟨r, hr⟩ : ∃ r, (a.no != no) = r := ⟨_, rfl⟩
      rw [hr] at HCL
      have HRR := Lib.hid hr
      clear hcc ha hbw hr hown hrows
      cases r with
      | false =>
        go_wp2_with (go_at_call 49; refine HCL.out.mono ?_; rintro e w1 ⟨rfl, hb1⟩)
        have e : rest (l.take (k + 1)) no = rest (l.take k) no := by
          unfold rest
          rw [List.take_add_one, HA.out, List.filter_append]
          simp [HRR.out]
        refine ⟨⟨k + 1, ys, by go_num, by omega, ?_, ?_, HB2.out.trans (hb1.mono HB2.out.size)⟩, by simp [intOf]; omega⟩
        · rw [e]; exact own_hi HOWN.out (hi_below _ hb1)
        · rw [e]; exact HROWS.out.imp fun a cs h => SRd.low (Lo.below hb1 (Nat.le_trans hB HB2.out.size)) h
      | true =>
        have hone := sAt.one a _ HCC.out
        go_wp2_with (first
          | (go_at_call 49; refine HCL.out.mono ?_; rintro e w1 ⟨rfl, hb1⟩; have g0 := cell_on hb1 c0; have g1 := cell_on hb1 c1; have g2 := cell_on hb1 c2; have hown1 := own_hi HOWN.out (hi_below _ hb1))
          | (at_builtin; refine wpList_app_sl rfl _ _ 26 rfl w.heap.size 36 i0 (.agg #[.int .i64 0, .slice none 0 0, .slice none 0 0]) 3 56 Tryz.underlying26 hi hz0 hz1 hz2 rfl (by omega) _ _ ys rfl (own_hi hown1 (hi_below _ (below_new w1 _))) (some ⟨w1.heap.size, 0, none⟩) 1 1 [x, y, z] rfl (lit3 w1 x y z _) hone (by unfold maxLen; omega) (by omega) (Nat.le_trans HB2.out.size (Nat.le_trans hb1.size (below_new w1 _).size)) ?_; intro v2 w2 hown2 hg2))
        have e : rest (l.take (k + 1)) no = rest (l.take k) no ++ [a] := by
          unfold rest
          rw [List.take_add_one, HA.out, List.filter_append]
          simp [HRR.out]
        have hb2 : Below w.heap.size w w2 := (HB2.out.trans ((hb1.mono HB2.out.size).trans ((below_new w1 _).mono (Nat.le_trans HB2.out.size hb1.size)))).trans (below_rows hown1 hg2 (Nat.le_trans HB2.out.size (Nat.le_trans hb1.size (below_new w1 _).size)))
        have hb3 : Below w.heap.size wr w2 := ((hb1.mono HB2.out.size).trans ((below_new w1 _).mono (Nat.le_trans HB2.out.size hb1.size))).trans (below_rows hown1 hg2 (Nat.le_trans HB2.out.size (Nat.le_trans hb1.size (below_new w1 _).size)))
        have hlo := (Lo.of hb3).mono hB
        refine ⟨⟨k + 1, ys ++ [x, y, z], by go_num, by omega, ?_, ?_, hb2⟩, by simp [intOf]; omega⟩
        · rw [e, List.length_append]; exact hown2
        · rw [e]; exact (HROWS.out.imp fun a cs h => SRd.low hlo h).append (Rows.single (SRd.low hlo HCC.out))
    · obtain rfl : k = l.length := by omega
      have e : l.take l.length = l := List.take_length
      rw [e] at hown hrows
      go_wp2
      go_ret
      exact ⟨_, ys, rfl, hown, hrows, hbw⟩
theorem three_boxes (w : World) (o1 o2 o3 : Obj) : (((w.alloc o1).alloc o2).alloc o3).heap[w.heap.size]? = some o1 ∧ (((w.alloc o1).alloc o2).alloc o3).heap[w.heap.size + 1]? = some o2 ∧ (((w.alloc o1).alloc o2).alloc o3).heap[w.heap.size + 2]? = some o3 ∧ Below w.heap.size w (((w.alloc o1).alloc o2).alloc o3) := by
  obtain ⟨h1, h2, h3⟩ := two_boxes w o1 o2
  have h4 := heap_alloc_new ((w.alloc o1).alloc o2) o3
  have hs : ((w.alloc o1).alloc o2).heap.size = w.heap.size + 2 := by simp
  rw [hs] at h4
  exact ⟨box_on h1 (below_new _ _), box_on h2 (below_new _ _), h4, below_lit h3 o3⟩
/-- A box of one cell that is written. -/
theorem one_set {w : World} {g : Nat} {a : Value} {t : TypeId} (h : w.heap[g]? = some (.cells #[a] t (0, 0))) (x : Value) :
    (w.setCell ⟨g, 0, none⟩ x).heap[g]? = some (.cells #[x] t (0, 0)) ∧ w.grownBy (w.setCell ⟨g, 0, none⟩ x) (some g) :=
  ⟨heap_setCell_same w g 0 #[a] t x h, ⟨rfl, rfl, rfl, by simp, fun k _ hk => heap_setCell_other _ ⟨g, 0, none⟩ k _ (fun e => hk (by simp [e]))⟩⟩
theorem own_ls {w : World} {b D : Nat} {l : List So} {v : Value} {xs : List Value} (h : w.ownsRow b 36 3 v l.length xs) (hn : l.length ≤ 10000000000000) {B : Nat} (hB : B ≤ w.heap.size) (hr : Rows (SAt' (Rd B w) D) l xs) : LsAt (Rd w.heap.size w) 36 3 (SAt' (Rd w.heap.size w) D) l v :=
  ⟨xs, ⟨Rr.of_own h, hn⟩, hr.imp fun a cs h => SRd.mono hB h⟩
theorem msg_moved {w w' : World} {b b' D : Nat} {m : Mg} {x : Value} (hk : ∀ k, b ≤ k → k < w.heap.size → w'.heap[k]? = w.heap[k]?) (hb : b' ≤ b) (h : MAt (Ow b w) D m [x]) : MAt (Ow b' w') D m [x] := MAt.imp (Ow.hi' hk hb) D m _ h
theorem sm_filter_le (l : List So) (p : So → Bool) (g : So → Nat) : sm ((l.filter p).map g) ≤ sm (l.map g) := by
  induction l with
  | nil => simp
  | cons a l ih =>
    by_cases h : p a = true
    · rw [List.filter_cons_of_pos h]; simp only [List.map_cons, sm]; omega
    · rw [List.filter_cons_of_neg h]; simp only [List.map_cons, sm]; omega
theorem sm_put (l : List So) (s : So) (g : So → Nat) : sm ((putS l s).map g) = sm (l.map g) + g s := by
  unfold putS
  have h : sm (l.map g) = sm ((l.take (place l s.no)).map g) + sm ((l.drop (place l s.no)).map g) := by rw [← sm_append, ← List.map_append, List.take_append_drop]
  rw [List.map_append, List.map_cons, sm_append, h]
  simp only [sm]
  omega
theorem cnt_set (m : Mg) (s : So) : (setM m s).cnt ≤ m.cnt + cS s := by
  rw [Mg.cnt_eq, Mg.cnt_eq]
  unfold setM rest
  show sm (List.map cS (if s.V = [] then _ else _)) ≤ _
  split
  · have := sm_filter_le m.F (fun x => x.no != s.no) cS; omega
  · rw [sm_put]; have := sm_filter_le m.F (fun x => x.no != s.no) cS; omega
set_option maxRecDepth 1000000 in
set_option maxHeartbeats 4000000 in
theorem set_any (B D : Nat) (m : Mg) (s : So) (u u1 u2 : Value) (w : World) (hB : B ≤ w.heap.size) (hm : MRd B w (D + 1) m u) (hs : SAt' (Rd B w) D s [.int .i64 s.no, u1, u2]) (hcm : m.cnt ≤ 100000000) (hcs : cS s ≤ 100000000) (b : Nat) (hb : b ≤ w.heap.size) :
    Calls Tryz.prog 26 #[.agg #[u], .agg #[.int .i64 s.no, u1, u2]] w fun e w' => ∃ x1, e = .returned (.agg #[x1]) ∧ MAt (Ow b w') (D + 1) (setM m s) [x1] ∧ Below w.heap.size w w' := by
  obtain ⟨u', hu, hl⟩ := hm
  simp only [List.cons.injEq, and_true] at hu
  subst hu
  obtain ⟨X1, X2, X3, LBD⟩ := three_boxes w (.cells #[u] 28) (.cells #[.int .i64 s.no, u1, u2] 36) (.cells #[.slice none 0 0] 28)
  have hF := cnt_F m
  have hcnt := cnt_set m s
  have hrl : (rest m.F s.no).length ≤ m.F.length := List.length_filter_le _ _
  have HT := Lib.hid (those_any B D m.F u s.no u1 u2 (w.heap.size + 1) _ (Nat.le_trans hB LBD.size) (hl.low (Lo.below LBD hB) fun a cs h => SRd.low (Lo.below LBD hB) h) (by omega) X2)
  have HL := Lib.hid hl
  have HSS := Lib.hid hs
  have hone := sAt.one s _ hs
  obtain ⟨u1', u2', hu, hk1, hv1⟩ := id hs
  simp only [List.cons.injEq, and_true, true_and] at hu
  obtain ⟨rfl, rfl⟩ := hu
  obtain ⟨A2, c2, xs2, rfl, -⟩ := hv1.open_
  clear hl hs hk1 hv1
  by_cases hV : s.V = []
  · have hV0 : s.V.length = 0 := by rw [hV]; rfl
    have hset : setM m s = .mk (rest m.F s.no) := by unfold setM; rw [if_pos hV]
    rw [hset] at hcnt ⊢
    have hp : decide ((0 : Int) < (s.V.length : Int)) = false := by rw [decide_eq_false_iff_not]; omega
    have hp2 : decide (0 < s.V.length) = false := by rw [decide_eq_false_iff_not]; omega
    clear hset hV hV0
    go_enter Tryz.func26, Tryz.ntmps26
    go_wp2_with fail
    refine HT.out.mono ?_
    rintro e w1 ⟨v1, xs1, rfl, ho1, hr1, hb1⟩
    have hb01 := below_then LBD hb1
    have Y2 := box_on X2 hb1
    have Y3 := box_on X3 hb1
    obtain ⟨A1, c1, rfl, -⟩ := Sl.of_own ho1
    obtain ⟨y0, y1, y2⟩ := bx3 Y2
    have HO := Lib.hid (own_any9 w1.heap.size (D + 1) (.mk (rest m.F s.no)) _ w1 (Nat.le_refl _) ⟨_, rfl, own_ls ho1 (show (rest m.F s.no).length ≤ _ by omega) (Nat.le_trans hB hb01.size) hr1⟩ (by omega) w1.heap.size (Nat.le_refl _))
    clear ho1 hr1 X1 X2
    go_wp2_with (go_at_call 52; refine HO.out.mono ?_; rintro e w4 ⟨q, rfl, ho4, hb4⟩; obtain ⟨q', hq, zs, ⟨hown, hzl⟩, hrz⟩ := id ho4; obtain ⟨A', c', hsl, -⟩ := Sl.of_own hown; obtain rfl : q = q' := (by simpa using hq); subst hsl; have Y4 := box_on Y3 hb4; have z0 := bx1 Y4; have z1 : w4.frozen? ⟨w.heap.size + 2, 0, none⟩ = false := by simp [World.frozen?, Y4])
    obtain ⟨Z1, Z2⟩ := one_set Y4 (.slice A' (rest m.F s.no).length c')
    have hhi := hi_grown Z2 (box_lt Y3)
    have hb5 := (below_then hb01 hb4).trans (below_own Z2 (show w.heap.size ≤ w.heap.size + 2 by omega) (Nat.le_trans hb01.size hb4.size))
    refine bodyPost_ret (results_cell_row rfl _ _ (w.heap.size + 2) _ _ (0, 0) _ rfl Z1 Tryz.underlying28 rfl sz_msg) rfl ?_
    exact ⟨_, rfl, msg_moved hhi (Nat.le_trans hb hb01.size) ho4, hb5⟩
  · have hV0 : 0 < s.V.length := List.length_pos_iff.2 hV
    have hset : setM m s = .mk (putS (rest m.F s.no) s) := by unfold setM; rw [if_neg hV]
    rw [hset] at hcnt ⊢
    have hp : decide ((0 : Int) < (s.V.length : Int)) = true := by rw [decide_eq_true_iff]; omega
    have hp2 : decide (0 < s.V.length) = true := by rw [decide_eq_true_iff]; omega
    clear hset hV
    go_enter Tryz.func26, Tryz.ntmps26
    go_wp2_with fail
    refine HT.out.mono ?_
    rintro e w1 ⟨v1, xs1, rfl, ho1, hr1, hb1⟩
    have hb01 := below_then LBD hb1
    have Y2 := box_on X2 hb1
    have Y3 := box_on X3 hb1
    have X3lt := box_lt X3
    obtain ⟨A1, c1, rfl, -⟩ := Sl.of_own ho1
    obtain ⟨y0, y1, y2⟩ := bx3 Y2
    have HPL := Lib.hid (place_set w1.heap.size D (rest m.F s.no) _ s.no u1 (.slice A2 s.V.length c2) (w.heap.size + 1) w1 (Nat.le_refl _) (own_ls ho1 (by omega) (Nat.le_trans hB hb01.size) hr1) Y2)
    have HO1 := Lib.hid ho1
    have HR1 := Lib.hid hr1
    have HY2 := Lib.hid Y2
    clear ho1 hr1 X1 X2 Y2
    go_wp2_with fail
    refine HPL.out.mono ?_
    rintro e w2 ⟨rfl, hb2⟩
    obtain ⟨at_, hat⟩ : ∃ k, (rest m.F s.no).findIdx (fun a => decide (s.no < a.no)) = k := ⟨_, rfl⟩
    rw [hat]
    have hatl : at_ ≤ (rest m.F s.no).length := by rw [← hat]; exact List.findIdx_le_length
    have HAT := Lib.hid (show place (rest m.F s.no) s.no = at_ from hat)
    clear hat y0 y1 y2
    have Y2b := box_on HY2.out hb2
    have Y3b := box_on Y3 hb2
    obtain ⟨y0, y1, y2⟩ := bx3 Y2b
    have hb02 := below_then hb01 hb2
    have HI := Lib.hid (insert_any _ _ at_ xs1 _ (.int .i64 s.no) u1 (.slice A2 s.V.length c2) w2.heap.size (w2.alloc (.cells #[.int .i64 s.no, u1, .slice A2 s.V.length c2] 36)) (own_hi (own_hi HO1.out (hi_below _ hb2)) (hi_below _ (below_new w2 _)))
      (Nat.le_trans (Nat.le_trans hb1.size hb2.size) (below_new w2 _).size) (heap_alloc_new w2 _) (fun e => by have := (HO1.out.lt _ e).2; have := hb2.size; omega) hone (HR1.out.one sAt.one) (by omega) hatl)
    go_wp2_with fail
    refine HI.out.mono ?_
    rintro e w3 ⟨v3, rfl, ho3, hg3⟩
    have hsz1 := Nat.le_trans (Nat.le_trans hb1.size hb2.size) (below_new w2 (.cells #[.int .i64 s.no, u1, .slice A2 s.V.length c2] 36)).size
    have hb3 := below_rows HO1.out hg3 hsz1
    have hb13 := (((hb2.mono hb1.size).trans ((below_new w2 _).mono (Nat.le_trans hb1.size hb2.size))).trans hb3)
    have hb03 := hb01.trans (hb13.mono LBD.size)
    have hlo13 := (Lo.of hb13).mono (Nat.le_trans hB LBD.size)
    have hlo03 := (Lo.of hb03).mono hB
    have hr3 : Rows (SAt' (Rd B w3) D) (putS (rest m.F s.no) s) (xs1.take (at_ * 3) ++ [.int .i64 s.no, u1, .slice A2 s.V.length c2] ++ xs1.drop (at_ * 3)) := by
      have h1 : Rows (SAt' (Rd B w3) D) (rest m.F s.no) xs1 := HR1.out.imp fun a cs h => SRd.low hlo13 h
      have e : putS (rest m.F s.no) s = ((rest m.F s.no).take at_ ++ [s]) ++ (rest m.F s.no).drop at_ := by unfold putS; rw [HAT.out]; simp
      rw [e]
      exact ((h1.take sAt.len at_).append (Rows.single (SRd.low hlo03 HSS.out))).append (h1.drop sAt.len at_)
    have hlen3 : (putS (rest m.F s.no) s).length = (rest m.F s.no).length + 1 := by unfold putS; simp; omega
    rw [← hlen3] at ho3
    obtain ⟨A3, c3, rfl, -⟩ := Sl.of_own ho3
    have Y3c := box_on Y3b (below_new w2 (.cells #[.int .i64 s.no, u1, .slice A2 s.V.length c2] 36))
    have Y3d := (hb3.block (w.heap.size + 2) X3lt).trans Y3c
    have HO := Lib.hid (own_any9 w3.heap.size (D + 1) (.mk (putS (rest m.F s.no) s)) _ w3 (Nat.le_refl _) ⟨_, rfl, own_ls ho3 (show (putS (rest m.F s.no) s).length ≤ _ by omega) (Nat.le_trans hB hb03.size) hr3⟩ (by omega) w3.heap.size (Nat.le_refl _))
    clear ho3 hr3 hg3 hb3 hb13 hlo13 hlo03 Y3b Y3c y0 y1 y2 Y2b HI hlen3
    go_wp2_with (go_at_call 52; refine HO.out.mono ?_; rintro e w4 ⟨q, rfl, ho4, hb4⟩; obtain ⟨q', hq, zs, ⟨hown, hzl⟩, hrz⟩ := id ho4; obtain ⟨A', c', hsl, -⟩ := Sl.of_own hown; obtain rfl : q = q' := (by simpa using hq); subst hsl; have Y4 := box_on Y3d hb4; have z0 := bx1 Y4; have z1 : w4.frozen? ⟨w.heap.size + 2, 0, none⟩ = false := by simp [World.frozen?, Y4])
    obtain ⟨Z1, Z2⟩ := one_set Y4 (.slice A' (putS (rest m.F s.no) s).length c')
    have hhi := hi_grown Z2 (box_lt Y3d)
    have hb5 := (below_then hb03 hb4).trans (below_own Z2 (show w.heap.size ≤ w.heap.size + 2 by omega) (Nat.le_trans hb03.size hb4.size))
    refine bodyPost_ret (results_cell_row rfl _ _ (w.heap.size + 2) _ _ (0, 0) _ rfl Z1 Tryz.underlying28 rfl sz_msg) rfl ?_
    exact ⟨_, rfl, msg_moved hhi (Nat.le_trans hb hb03.size) ho4, hb5⟩
end Go.Proofs.YtjmcpfckcajnjaaGreatDoor.T9
