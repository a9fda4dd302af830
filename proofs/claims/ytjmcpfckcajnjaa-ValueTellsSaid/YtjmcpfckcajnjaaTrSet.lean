/-
  A slot that is got, and set; a value that is less: value's Get, Set, Less.
-/
import Derived.Test.YtjmcpfckcajnjaaTrIns
namespace Go.Proofs.Ytjmcpfckcajnjaa.T9
set_option maxRecDepth 100000

open Go.RowKit

/-! ### The functions that tell of a slot -/

theorem clo_get (a : So) (x y z : Value) (no : Int) (P : Nat) (W : World) (hs : x = .int .i64 a.no) (hc : W.heap[P]? = some (.cells #[.int .i64 no] 3 (0, 0))) :
    Calls Try.prog 24 #[.agg #[x, y, z], .pointer (some ⟨P, 0, none⟩)] W fun e w' => e = .returned (.bool (a.no == no)) ∧ Below W.heap.size W w' := by
  subst hs
  have c0 := bx1 hc
  have hlt := box_lt hc
  obtain ⟨k, hk⟩ : ∃ k, a.no = k := ⟨_, rfl⟩
  rw [hk]
  clear hc hk
  go_enter Try.func24, Try.ntmps24
  go_wp2
  go_ret
  exact ⟨rfl, below_new _ _⟩
theorem clo_rest (a : So) (x y z : Value) (no : Int) (u1 u2 : Value) (P : Nat) (W : World) (hs : x = .int .i64 a.no) (hc : W.heap[P]? = some (.cells #[.int .i64 no, u1, u2] 27 (0, 0))) :
    Calls Try.prog 28 #[.agg #[x, y, z], .pointer (some ⟨P, 0, none⟩)] W fun e w' => e = .returned (.bool (a.no != no)) ∧ Below W.heap.size W w' := by
  subst hs
  have c0 := (bx3 hc).1
  have hlt := box_lt hc
  obtain ⟨k, hk⟩ : ∃ k, a.no = k := ⟨_, rfl⟩
  rw [hk]
  clear hc hk
  go_enter Try.func28, Try.ntmps28
  go_wp2
  go_ret
  exact ⟨rfl, below_new _ _⟩
theorem clo_place (a : So) (x y z : Value) (no : Int) (u1 u2 : Value) (P : Nat) (W : World) (hs : x = .int .i64 a.no) (hc : W.heap[P]? = some (.cells #[.int .i64 no, u1, u2] 27 (0, 0))) :
    Calls Try.prog 29 #[.agg #[x, y, z], .pointer (some ⟨P, 0, none⟩)] W fun e w' => e = .returned (.bool (decide (no < a.no))) ∧ Below W.heap.size W w' := by
  subst hs
  have c0 := (bx3 hc).1
  have hlt := box_lt hc
  obtain ⟨k, hk⟩ : ∃ k, a.no = k := ⟨_, rfl⟩
  rw [hk]
  clear hc hk
  go_enter Try.func29, Try.ntmps29
  go_wp2
  go_ret
  exact ⟨rfl, below_new _ _⟩
theorem sAt.head {R : RP} {G : Mg → List Value → Prop} {a : So} {x y z : Value} (h : sAt R G a [x, y, z]) : x = .int .i64 a.no := by
  obtain ⟨u1, u2, hu, _⟩ := h
  simp only [List.cons.injEq] at hu
  exact hu.1

/-! ### The first of which something is so, and all of which something is so -/

theorem findIdx_next {l : List So} {p : So → Bool} {k : Nat} (h : ∀ j y, j < k → l[j]? = some y → p y = false) (hk : k ≤ l.length) : k ≤ l.findIdx p := by
  rcases Nat.lt_or_ge (l.findIdx p) k with hlt | hge
  · have h1 : l.findIdx p < l.length := by omega
    have h2 := List.findIdx_getElem (w := h1)
    rw [h _ _ hlt (List.getElem?_eq_getElem h1)] at h2
    cases h2
  · exact hge
theorem findIdx_here {l : List So} {p : So → Bool} {k : Nat} {a : So} (h : ∀ j y, j < k → l[j]? = some y → p y = false) (ha : l[k]? = some a) (hp : p a = true) : l.findIdx p = k := by
  obtain ⟨hk, rfl⟩ := List.getElem?_eq_some_iff.1 ha
  refine Nat.le_antisymm ?_ (findIdx_next h (Nat.le_of_lt hk))
  rcases Nat.lt_or_ge k (l.findIdx p) with hlt | hge
  · have h1 := List.not_of_lt_findIdx hlt
    rw [hp] at h1
    cases h1
  · exact hge
set_option maxRecDepth 1000000 in
set_option maxHeartbeats 4000000 in
theorem place_get (B d : Nat) (l : List So) (u : Value) (no : Int)  (P : Nat) (w : World) (hB : B ≤ w.heap.size) (hl : LsAt (Rd B w) 27 3 (SAt' (Rd B w) d) l u) (hc : w.heap[P]? = some (.cells #[.int .i64 no] 3 (0, 0))) :
    Calls Try.prog 23 #[u, .func (.func 24) #[] #[.pointer (some ⟨P, 0, none⟩)]] w fun e w' => e = .returned (.int .i64 (l.findIdx fun a => a.no == no : Nat)) ∧ Below w.heap.size w w' := by
  obtain ⟨A, c, xs, rfl, hs, hb, hr, hn⟩ := hl.open_
  have HS := Lib.hid hs
  have HR := Lib.hid hr
  have HBB := Lib.hid hb
  have HC := Lib.hid hc
  clear hs hr hl hb hc
  go_enter Try.func23, Try.ntmps23
  go_wp2
  go_loopw [8] (fun i wr => ∃ k : Nat, i = .int .i64 k ∧ k ≤ l.length ∧ (∀ j y, j < k → l[j]? = some y → (fun a : So => a.no == no) y = false) ∧ Below w.heap.size w wr) (fun i _ => l.length - (intOf i).toNat)
  case atStart => exact ⟨0, rfl, by omega, fun j y hj => by omega, Below.refl _ _⟩
  case round =>
    obtain ⟨k, rfl, hk, hq, hbw⟩ := hrel
    have HQ := Lib.hid hq
    clear hq
    by_cases hlt : k < l.length
    · obtain ⟨a, ha⟩ : ∃ a, l[k]? = some a := ⟨_, List.getElem?_eq_getElem hlt⟩
      obtain ⟨ad, x, y, z, rfl, hg, hcc, c0, c1, c2⟩ := row3 sAt.len (sl_low HS.out HBB.out (Lo.below hbw hB)) (HR.out.imp fun a cs h => SRd.low (Lo.below hbw hB) h) ha
      have HCL := Lib.hid (clo_get a x y z no  P wr hcc.head (box_on HC.out hbw))
      have HA := Lib.hid ha
      have HB2 := Lib.hid hbw
      obtain ⟨r, hr⟩ : ∃ r, (a.no == no) = r := ⟨_, rfl⟩
      rw [hr] at HCL
      have HRR := Lib.hid hr
      clear hcc ha hbw hr
      cases r with
      | true =>
        go_wp2_with (go_at_call 24; refine HCL.out.mono ?_; rintro e w1 ⟨rfl, hb1⟩)
        go_ret
        exact ⟨by rw [findIdx_here (p := fun a : So => a.no == no) HQ.out HA.out HRR.out]; rfl, HB2.out.trans (hb1.mono HB2.out.size)⟩
      | false =>
        go_wp2_with (go_at_call 24; refine HCL.out.mono ?_; rintro e w1 ⟨rfl, hb1⟩)
        refine ⟨⟨k + 1, by go_num, by omega, fun j y hj hy => ?_, HB2.out.trans (hb1.mono HB2.out.size)⟩, by simp [intOf]; omega⟩
        by_cases hj2 : j < k
        · exact HQ.out j y hj2 hy
        · obtain rfl : j = k := by omega
          have ha := HA.out
          rw [hy] at ha
          obtain rfl := Option.some.inj ha
          exact HRR.out
    · obtain rfl : k = l.length := by omega
      have e : l.findIdx (fun a => a.no == no) = l.length := Nat.le_antisymm List.findIdx_le_length (findIdx_next HQ.out (Nat.le_refl _))
      have HE := Lib.hid e
      clear e
      go_wp2
      go_ret
      exact ⟨by rw [HE.out]; rfl, hbw⟩
set_option maxRecDepth 1000000 in
set_option maxHeartbeats 4000000 in
theorem place_set (B d : Nat) (l : List So) (u : Value) (no : Int) (u1 u2 : Value) (P : Nat) (w : World) (hB : B ≤ w.heap.size) (hl : LsAt (Rd B w) 27 3 (SAt' (Rd B w) d) l u) (hc : w.heap[P]? = some (.cells #[.int .i64 no, u1, u2] 27 (0, 0))) :
    Calls Try.prog 23 #[u, .func (.func 29) #[] #[.pointer (some ⟨P, 0, none⟩)]] w fun e w' => e = .returned (.int .i64 (l.findIdx fun a => decide (no < a.no) : Nat)) ∧ Below w.heap.size w w' := by
  obtain ⟨A, c, xs, rfl, hs, hb, hr, hn⟩ := hl.open_
  have HS := Lib.hid hs
  have HR := Lib.hid hr
  have HBB := Lib.hid hb
  have HC := Lib.hid hc
  clear hs hr hl hb hc
  go_enter Try.func23, Try.ntmps23
  go_wp2
  go_loopw [8] (fun i wr => ∃ k : Nat, i = .int .i64 k ∧ k ≤ l.length ∧ (∀ j y, j < k → l[j]? = some y → (fun a : So => decide (no < a.no)) y = false) ∧ Below w.heap.size w wr) (fun i _ => l.length - (intOf i).toNat)
  case atStart => exact ⟨0, rfl, by omega, fun j y hj => by omega, Below.refl _ _⟩
  case round =>
    obtain ⟨k, rfl, hk, hq, hbw⟩ := hrel
    have HQ := Lib.hid hq
    clear hq
    by_cases hlt : k < l.length
    · obtain ⟨a, ha⟩ : ∃ a, l[k]? = some a := ⟨_, List.getElem?_eq_getElem hlt⟩
      obtain ⟨ad, x, y, z, rfl, hg, hcc, c0, c1, c2⟩ := row3 sAt.len (sl_low HS.out HBB.out (Lo.below hbw hB)) (HR.out.imp fun a cs h => SRd.low (Lo.below hbw hB) h) ha
      have HCL := Lib.hid (clo_place a x y z no u1 u2 P wr hcc.head (box_on HC.out hbw))
      have HA := Lib.hid ha
      have HB2 := Lib.hid hbw
      obtain ⟨r, hr⟩ : ∃ r, (decide (no < a.no)) = r := ⟨_, rfl⟩
      rw [hr] at HCL
      have HRR := Lib.hid hr
      clear hcc ha hbw hr
      cases r with
      | true =>
        go_wp2_with (go_at_call 29; refine HCL.out.mono ?_; rintro e w1 ⟨rfl, hb1⟩)
        go_ret
        exact ⟨by rw [findIdx_here (p := fun a : So => decide (no < a.no)) HQ.out HA.out HRR.out]; rfl, HB2.out.trans (hb1.mono HB2.out.size)⟩
      | false =>
        go_wp2_with (go_at_call 29; refine HCL.out.mono ?_; rintro e w1 ⟨rfl, hb1⟩)
        refine ⟨⟨k + 1, by go_num, by omega, fun j y hj hy => ?_, HB2.out.trans (hb1.mono HB2.out.size)⟩, by simp [intOf]; omega⟩
        by_cases hj2 : j < k
        · exact HQ.out j y hj2 hy
        · obtain rfl : j = k := by omega
          have ha := HA.out
          rw [hy] at ha
          obtain rfl := Option.some.inj ha
          exact HRR.out
    · obtain rfl : k = l.length := by omega
      have e : l.findIdx (fun a => decide (no < a.no)) = l.length := Nat.le_antisymm List.findIdx_le_length (findIdx_next HQ.out (Nat.le_refl _))
      have HE := Lib.hid e
      clear e
      go_wp2
      go_ret
      exact ⟨by rw [HE.out]; rfl, hbw⟩
theorem lit3 (w : World) (x y z : Value) (t : TypeId) : Sl (w.alloc (.cells #[x, y, z] t)) (some ⟨w.heap.size, 0, none⟩) 1 1 3 [x, y, z] := by
  refine ⟨by simp, by omega, by unfold maxLen; omega, by simp, fun ad ha _ => ?_, fun ad ha k u hu => ?_⟩
  · obtain rfl := Option.some.inj ha
    simp
  · obtain rfl := Option.some.inj ha
    rw [Addr.add_lit, World.cell?_alloc_at _ _ _ _ rfl]
    simpa using hu
theorem below_rows {w w1 w' : World} {B : Nat} {e : TypeId} {size : Nat} {v : Value} {n : Nat} {xs : List Value} (h : w1.ownsRow B e size v n xs) (hg : w.grownBy w' v.ownBlock) (hs : B ≤ w.heap.size) : Below B w w' :=
  ⟨hg.os, hg.tape, hg.output, hg.size, fun k hk => hg.block k (by omega) (fun e => by have := own_ge h k e.symm; omega)⟩
set_option maxRecDepth 1000000 in
set_option maxHeartbeats 4000000 in
theorem those_any (B d : Nat) (l : List So) (u : Value) (no : Int) (u1 u2 : Value) (P : Nat) (w : World) (hB : B ≤ w.heap.size) (hl : LsAt (Rd B w) 27 3 (SAt' (Rd B w) d) l u) (hsm : l.length ≤ 1000000000) (hc : w.heap[P]? = some (.cells #[.int .i64 no, u1, u2] 27 (0, 0))) :
    Calls Try.prog 27 #[u, .func (.func 28) #[] #[.pointer (some ⟨P, 0, none⟩)]] w fun e w' => ∃ v xs, e = .returned v ∧ w'.ownsRow w.heap.size 27 3 v (rest l no).length xs ∧ Rows (SAt' (Rd B w') d) (rest l no) xs ∧ Below w.heap.size w w' := by
  obtain ⟨A, c, xs, rfl, hs, hb, hr, hn⟩ := hl.open_
  obtain ⟨i0, hi, hz0, hz1, hz2⟩ := info_parts info_slot
  have HS := Lib.hid hs
  have HR := Lib.hid hr
  have HBB := Lib.hid hb
  have HC := Lib.hid hc
  clear hs hr hl hb hc
  go_enter Try.func27, Try.ntmps27
  go_wp2
  go_loopw [5, 9] (fun v i wr => ∃ (k : Nat) (ys : List Value), i = .int .i64 k ∧ k ≤ l.length ∧ wr.ownsRow w.heap.size 27 3 v (rest (l.take k) no).length ys ∧ Rows (SAt' (Rd B wr) d) (rest (l.take k) no) ys ∧ Below w.heap.size w wr) (fun _ i _ => l.length - (intOf i).toNat)
  case atStart => exact ⟨0, [], rfl, by omega, World.ownsRow_nil _ _ _ _, rfl, Below.refl _ _⟩
  case round =>
    obtain ⟨k, ys, rfl, hk, hown, hrows, hbw⟩ := hrel
    by_cases hlt : k < l.length
    · obtain ⟨a, ha⟩ : ∃ a, l[k]? = some a := ⟨_, List.getElem?_eq_getElem hlt⟩
      obtain ⟨ad, x, y, z, rfl, hg, hcc, c0, c1, c2⟩ := row3 sAt.len (sl_low HS.out HBB.out (Lo.below hbw hB)) (HR.out.imp fun a cs h => SRd.low (Lo.below hbw hB) h) ha
      have HCL := Lib.hid (clo_rest a x y z no u1 u2 P wr hcc.head (box_on HC.out hbw))
      have hlen : (rest (l.take k) no).length ≤ l.length := Nat.le_trans (List.length_filter_le _ _) (by rw [List.length_take]; omega)
      have HA := Lib.hid ha
      have HB2 := Lib.hid hbw
      have HOWN := Lib.hid hown
      have HROWS := Lib.hid hrows
      have HCC := Lib.hid hcc
      obtain ⟨r, hr⟩ : ∃ r, (a.no != no) = r := ⟨_, rfl⟩
      rw [hr] at HCL
      have HRR := Lib.hid hr
      clear hcc ha hbw hr hown hrows
      cases r with
      | false =>
        go_wp2_with (go_at_call 28; refine HCL.out.mono ?_; rintro e w1 ⟨rfl, hb1⟩)
        have e : rest (l.take (k + 1)) no = rest (l.take k) no := by
          unfold rest
          rw [List.take_add_one, HA.out, List.filter_append]
          simp [HRR.out]
        refine ⟨⟨k + 1, ys, by go_num, by omega, ?_, ?_, HB2.out.trans (hb1.mono HB2.out.size)⟩, by simp [intOf]; omega⟩
        · rw [e]; exact own_hi HOWN.out (hi_below _ hb1)
        · rw [e]; exact HROWS.out.imp fun a cs h => SRd.low (Lo.below hb1 (Nat.le_trans hB HB2.out.size)) h
      | true =>
        have hone := sAt.one a _ HCC.out
        go_wp2_with (first
          | (go_at_call 28; refine HCL.out.mono ?_; rintro e w1 ⟨rfl, hb1⟩; have g0 := cell_on hb1 c0; have g1 := cell_on hb1 c1; have g2 := cell_on hb1 c2; have hown1 := own_hi HOWN.out (hi_below _ hb1))
          | (at_builtin; refine wpList_app_sl rfl _ _ 22 rfl w.heap.size 27 i0 (.agg #[.int .i64 0, .slice none 0 0, .slice none 0 0]) 3 56 Try.underlying22 hi hz0 hz1 hz2 rfl (by omega) _ _ ys rfl (own_hi hown1 (hi_below _ (below_new w1 _))) (some ⟨w1.heap.size, 0, none⟩) 1 1 [x, y, z] rfl (lit3 w1 x y z _) hone (by unfold maxLen; omega) (by omega) (Nat.le_trans HB2.out.size (Nat.le_trans hb1.size (below_new w1 _).size)) ?_; intro v2 w2 hown2 hg2))
        have e : rest (l.take (k + 1)) no = rest (l.take k) no ++ [a] := by
          unfold rest
          rw [List.take_add_one, HA.out, List.filter_append]
          simp [HRR.out]
        have hb2 : Below w.heap.size w w2 := (HB2.out.trans ((hb1.mono HB2.out.size).trans ((below_new w1 _).mono (Nat.le_trans HB2.out.size hb1.size)))).trans (below_rows hown1 hg2 (Nat.le_trans HB2.out.size (Nat.le_trans hb1.size (below_new w1 _).size)))
        have hb3 : Below w.heap.size wr w2 := ((hb1.mono HB2.out.size).trans ((below_new w1 _).mono (Nat.le_trans HB2.out.size hb1.size))).trans (below_rows hown1 hg2 (Nat.le_trans HB2.out.size (Nat.le_trans hb1.size (below_new w1 _).size)))
        have hlo := (Lo.of hb3).mono hB
        refine ⟨⟨k + 1, ys ++ [x, y, z], by go_num, by omega, ?_, ?_, hb2⟩, by simp [intOf]; omega⟩
        · rw [e, List.length_append]; exact hown2
        · rw [e]; exact (HROWS.out.imp fun a cs h => SRd.low hlo h).append (Rows.single (SRd.low hlo HCC.out))
    · obtain rfl : k = l.length := by omega
      have e : l.take l.length = l := List.take_length
      rw [e] at hown hrows
      go_wp2
      go_ret
      exact ⟨_, ys, rfl, hown, hrows, hbw⟩
theorem three_boxes (w : World) (o1 o2 o3 : Obj) : (((w.alloc o1).alloc o2).alloc o3).heap[w.heap.size]? = some o1 ∧ (((w.alloc o1).alloc o2).alloc o3).heap[w.heap.size + 1]? = some o2 ∧ (((w.alloc o1).alloc o2).alloc o3).heap[w.heap.size + 2]? = some o3 ∧ Below w.heap.size w (((w.alloc o1).alloc o2).alloc o3) := by
  obtain ⟨h1, h2, h3⟩ := two_boxes w o1 o2
  have h4 := heap_alloc_new ((w.alloc o1).alloc o2) o3
  have hs : ((w.alloc o1).alloc o2).heap.size = w.heap.size + 2 := by simp
  rw [hs] at h4
  exact ⟨box_on h1 (below_new _ _), box_on h2 (below_new _ _), h4, below_lit h3 o3⟩
/-- A box of one cell that is written. -/
theorem one_set {w : World} {g : Nat} {a : Value} {t : TypeId} (h : w.heap[g]? = some (.cells #[a] t (0, 0))) (x : Value) :
    (w.setCell ⟨g, 0, none⟩ x).heap[g]? = some (.cells #[x] t (0, 0)) ∧ w.grownBy (w.setCell ⟨g, 0, none⟩ x) (some g) :=
  ⟨heap_setCell_same w g 0 #[a] t x h, ⟨rfl, rfl, rfl, by simp, fun k _ hk => heap_setCell_other _ ⟨g, 0, none⟩ k _ (fun e => hk (by simp [e]))⟩⟩
theorem own_ls {w : World} {b D : Nat} {l : List So} {v : Value} {xs : List Value} (h : w.ownsRow b 27 3 v l.length xs) (hn : l.length ≤ 10000000000000) {B : Nat} (hB : B ≤ w.heap.size) (hr : Rows (SAt' (Rd B w) D) l xs) : LsAt (Rd w.heap.size w) 27 3 (SAt' (Rd w.heap.size w) D) l v :=
  ⟨xs, ⟨Rr.of_own h, hn⟩, hr.imp fun a cs h => SRd.mono hB h⟩
theorem msg_moved {w w' : World} {b b' D : Nat} {m : Mg} {x : Value} (hk : ∀ k, b ≤ k → k < w.heap.size → w'.heap[k]? = w.heap[k]?) (hb : b' ≤ b) (h : MAt (Ow b w) D m [x]) : MAt (Ow b' w') D m [x] := MAt.imp (Ow.hi' hk hb) D m _ h
theorem sm_filter_le (l : List So) (p : So → Bool) (g : So → Nat) : sm ((l.filter p).map g) ≤ sm (l.map g) := by
  induction l with
  | nil => simp
  | cons a l ih =>
    by_cases h : p a = true
    · rw [List.filter_cons_of_pos h]; simp only [List.map_cons, sm]; omega
    · rw [List.filter_cons_of_neg h]; simp only [List.map_cons, sm]; omega
theorem sm_put (l : List So) (s : So) (g : So → Nat) : sm ((putS l s).map g) = sm (l.map g) + g s := by
  unfold putS
  have h : sm (l.map g) = sm ((l.take (place l s.no)).map g) + sm ((l.drop (place l s.no)).map g) := by rw [← sm_append, ← List.map_append, List.take_append_drop]
  rw [List.map_append, List.map_cons, sm_append, h]
  simp only [sm]
  omega
theorem cnt_set (m : Mg) (s : So) : (setM m s).cnt ≤ m.cnt + cS s := by
  rw [Mg.cnt_eq, Mg.cnt_eq]
  unfold setM rest
  show sm (List.map cS (if s.V = [] then _ else _)) ≤ _
  split
  · have := sm_filter_le m.F (fun x => x.no != s.no) cS; omega
  · rw [sm_put]; have := sm_filter_le m.F (fun x => x.no != s.no) cS; omega
set_option maxRecDepth 1000000 in
set_option maxHeartbeats 4000000 in
theorem set_any (B D : Nat) (m : Mg) (s : So) (u u1 u2 : Value) (w : World) (hB : B ≤ w.heap.size) (hm : MRd B w (D + 1) m u) (hs : SAt' (Rd B w) D s [.int .i64 s.no, u1, u2]) (hcm : m.cnt ≤ 100000000) (hcs : cS s ≤ 100000000) (b : Nat) (hb : b ≤ w.heap.size) :
    Calls Try.prog 11 #[.agg #[u], .agg #[.int .i64 s.no, u1, u2]] w fun e w' => ∃ x1, e = .returned (.agg #[x1]) ∧ MAt (Ow b w') (D + 1) (setM m s) [x1] ∧ Below w.heap.size w w' := by
  obtain ⟨u', hu, hl⟩ := hm
  simp only [List.cons.injEq, and_true] at hu
  subst hu
  obtain ⟨X1, X2, X3, LBD⟩ := three_boxes w (.cells #[u] 24) (.cells #[.int .i64 s.no, u1, u2] 27) (.cells #[.slice none 0 0] 24)
  have hF := cnt_F m
  have hcnt := cnt_set m s
  have hrl : (rest m.F s.no).length ≤ m.F.length := List.length_filter_le _ _
  have HT := Lib.hid (those_any B D m.F u s.no u1 u2 (w.heap.size + 1) _ (Nat.le_trans hB LBD.size) (hl.low (Lo.below LBD hB) fun a cs h => SRd.low (Lo.below LBD hB) h) (by omega) X2)
  have HL := Lib.hid hl
  have HSS := Lib.hid hs
  have hone := sAt.one s _ hs
  obtain ⟨u1', u2', hu, hk1, hv1⟩ := id hs
  simp only [List.cons.injEq, and_true, true_and] at hu
  obtain ⟨rfl, rfl⟩ := hu
  obtain ⟨A2, c2, xs2, rfl, -⟩ := hv1.open_
  clear hl hs hk1 hv1
  by_cases hV : s.V = []
  · have hV0 : s.V.length = 0 := by rw [hV]; rfl
    have hset : setM m s = .mk (rest m.F s.no) := by unfold setM; rw [if_pos hV]
    rw [hset] at hcnt ⊢
    have hp : decide ((0 : Int) < (s.V.length : Int)) = false := by rw [decide_eq_false_iff_not]; omega
    have hp2 : decide (0 < s.V.length) = false := by rw [decide_eq_false_iff_not]; omega
    clear hset hV hV0
    go_enter Try.func11, Try.ntmps11
    go_wp2_with fail
    refine HT.out.mono ?_
    rintro e w1 ⟨v1, xs1, rfl, ho1, hr1, hb1⟩
    have hb01 := below_then LBD hb1
    have Y2 := box_on X2 hb1
    have Y3 := box_on X3 hb1
    obtain ⟨A1, c1, rfl, -⟩ := Sl.of_own ho1
    obtain ⟨y0, y1, y2⟩ := bx3 Y2
    have HO := Lib.hid (own_any9 w1.heap.size (D + 1) (.mk (rest m.F s.no)) _ w1 (Nat.le_refl _) ⟨_, rfl, own_ls ho1 (show (rest m.F s.no).length ≤ _ by omega) (Nat.le_trans hB hb01.size) hr1⟩ (by omega) w1.heap.size (Nat.le_refl _))
    clear ho1 hr1 X1 X2
    go_wp2_with (go_at_call 14; refine HO.out.mono ?_; rintro e w4 ⟨q, rfl, ho4, hb4⟩; obtain ⟨q', hq, zs, ⟨hown, hzl⟩, hrz⟩ := id ho4; obtain ⟨A', c', hsl, -⟩ := Sl.of_own hown; obtain rfl : q = q' := (by simpa using hq); subst hsl; have Y4 := box_on Y3 hb4; have z0 := bx1 Y4; have z1 : w4.frozen? ⟨w.heap.size + 2, 0, none⟩ = false := by simp [World.frozen?, Y4])
    obtain ⟨Z1, Z2⟩ := one_set Y4 (.slice A' (rest m.F s.no).length c')
    have hhi := hi_grown Z2 (box_lt Y3)
    have hb5 := (below_then hb01 hb4).trans (below_own Z2 (show w.heap.size ≤ w.heap.size + 2 by omega) (Nat.le_trans hb01.size hb4.size))
    refine bodyPost_ret (results_cell_row rfl _ _ (w.heap.size + 2) _ _ (0, 0) _ rfl Z1 Try.underlying24 rfl sz_msg) rfl ?_
    exact ⟨_, rfl, msg_moved hhi (Nat.le_trans hb hb01.size) ho4, hb5⟩
  · have hV0 : 0 < s.V.length := List.length_pos_iff.2 hV
    have hset : setM m s = .mk (putS (rest m.F s.no) s) := by unfold setM; rw [if_neg hV]
    rw [hset] at hcnt ⊢
    have hp : decide ((0 : Int) < (s.V.length : Int)) = true := by rw [decide_eq_true_iff]; omega
    have hp2 : decide (0 < s.V.length) = true := by rw [decide_eq_true_iff]; omega
    clear hset hV
    go_enter Try.func11, Try.ntmps11
    go_wp2_with fail
    refine HT.out.mono ?_
    rintro e w1 ⟨v1, xs1, rfl, ho1, hr1, hb1⟩
    have hb01 := below_then LBD hb1
    have Y2 := box_on X2 hb1
    have Y3 := box_on X3 hb1
    have X3lt := box_lt X3
    obtain ⟨A1, c1, rfl, -⟩ := Sl.of_own ho1
    obtain ⟨y0, y1, y2⟩ := bx3 Y2
    have HPL := Lib.hid (place_set w1.heap.size D (rest m.F s.no) _ s.no u1 (.slice A2 s.V.length c2) (w.heap.size + 1) w1 (Nat.le_refl _) (own_ls ho1 (by omega) (Nat.le_trans hB hb01.size) hr1) Y2)
    have HO1 := Lib.hid ho1
    have HR1 := Lib.hid hr1
    have HY2 := Lib.hid Y2
    clear ho1 hr1 X1 X2 Y2
    go_wp2_with fail
    refine HPL.out.mono ?_
    rintro e w2 ⟨rfl, hb2⟩
    obtain ⟨at_, hat⟩ : ∃ k, (rest m.F s.no).findIdx (fun a => decide (s.no < a.no)) = k := ⟨_, rfl⟩
    rw [hat]
    have hatl : at_ ≤ (rest m.F s.no).length := by rw [← hat]; exact List.findIdx_le_length
    have HAT := Lib.hid (show place (rest m.F s.no) s.no = at_ from hat)
    clear hat y0 y1 y2
    have Y2b := box_on HY2.out hb2
    have Y3b := box_on Y3 hb2
    obtain ⟨y0, y1, y2⟩ := bx3 Y2b
    have hb02 := below_then hb01 hb2
    have HI := Lib.hid (insert_any _ _ at_ xs1 _ (.int .i64 s.no) u1 (.slice A2 s.V.length c2) w2.heap.size (w2.alloc (.cells #[.int .i64 s.no, u1, .slice A2 s.V.length c2] 27)) (own_hi (own_hi HO1.out (hi_below _ hb2)) (hi_below _ (below_new w2 _)))
      (Nat.le_trans (Nat.le_trans hb1.size hb2.size) (below_new w2 _).size) (heap_alloc_new w2 _) (fun e => by have := (HO1.out.lt _ e).2; have := hb2.size; omega) hone (HR1.out.one sAt.one) (by omega) hatl)
    go_wp2_with fail
    refine HI.out.mono ?_
    rintro e w3 ⟨v3, rfl, ho3, hg3⟩
    have hsz1 := Nat.le_trans (Nat.le_trans hb1.size hb2.size) (below_new w2 (.cells #[.int .i64 s.no, u1, .slice A2 s.V.length c2] 27)).size
    have hb3 := below_rows HO1.out hg3 hsz1
    have hb13 := (((hb2.mono hb1.size).trans ((below_new w2 _).mono (Nat.le_trans hb1.size hb2.size))).trans hb3)
    have hb03 := hb01.trans (hb13.mono LBD.size)
    have hlo13 := (Lo.of hb13).mono (Nat.le_trans hB LBD.size)
    have hlo03 := (Lo.of hb03).mono hB
    have hr3 : Rows (SAt' (Rd B w3) D) (putS (rest m.F s.no) s) (xs1.take (at_ * 3) ++ [.int .i64 s.no, u1, .slice A2 s.V.length c2] ++ xs1.drop (at_ * 3)) := by
      have h1 : Rows (SAt' (Rd B w3) D) (rest m.F s.no) xs1 := HR1.out.imp fun a cs h => SRd.low hlo13 h
      have e : putS (rest m.F s.no) s = ((rest m.F s.no).take at_ ++ [s]) ++ (rest m.F s.no).drop at_ := by unfold putS; rw [HAT.out]; simp
      rw [e]
      exact ((h1.take sAt.len at_).append (Rows.single (SRd.low hlo03 HSS.out))).append (h1.drop sAt.len at_)
    have hlen3 : (putS (rest m.F s.no) s).length = (rest m.F s.no).length + 1 := by unfold putS; simp; omega
    rw [← hlen3] at ho3
    obtain ⟨A3, c3, rfl, -⟩ := Sl.of_own ho3
    have Y3c := box_on Y3b (below_new w2 (.cells #[.int .i64 s.no, u1, .slice A2 s.V.length c2] 27))
    have Y3d := (hb3.block (w.heap.size + 2) X3lt).trans Y3c
    have HO := Lib.hid (own_any9 w3.heap.size (D + 1) (.mk (putS (rest m.F s.no) s)) _ w3 (Nat.le_refl _) ⟨_, rfl, own_ls ho3 (show (putS (rest m.F s.no) s).length ≤ _ by omega) (Nat.le_trans hB hb03.size) hr3⟩ (by omega) w3.heap.size (Nat.le_refl _))
    clear ho3 hr3 hg3 hb3 hb13 hlo13 hlo03 Y3b Y3c y0 y1 y2 Y2b HI hlen3
    go_wp2_with (go_at_call 14; refine HO.out.mono ?_; rintro e w4 ⟨q, rfl, ho4, hb4⟩; obtain ⟨q', hq, zs, ⟨hown, hzl⟩, hrz⟩ := id ho4; obtain ⟨A', c', hsl, -⟩ := Sl.of_own hown; obtain rfl : q = q' := (by simpa using hq); subst hsl; have Y4 := box_on Y3d hb4; have z0 := bx1 Y4; have z1 : w4.frozen? ⟨w.heap.size + 2, 0, none⟩ = false := by simp [World.frozen?, Y4])
    obtain ⟨Z1, Z2⟩ := one_set Y4 (.slice A' (putS (rest m.F s.no) s).length c')
    have hhi := hi_grown Z2 (box_lt Y3d)
    have hb5 := (below_then hb03 hb4).trans (below_own Z2 (show w.heap.size ≤ w.heap.size + 2 by omega) (Nat.le_trans hb03.size hb4.size))
    refine bodyPost_ret (results_cell_row rfl _ _ (w.heap.size + 2) _ _ (0, 0) _ rfl Z1 Try.underlying24 rfl sz_msg) rfl ?_
    exact ⟨_, rfl, msg_moved hhi (Nat.le_trans hb hb03.size) ho4, hb5⟩
end Go.Proofs.Ytjmcpfckcajnjaa.T9
