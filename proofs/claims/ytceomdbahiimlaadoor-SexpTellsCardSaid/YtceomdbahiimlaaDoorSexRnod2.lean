/-
  The document's own reader of nodes: node, by the tokens that are left.
-/
import Derived.Test.YtceomdbahiimlaaDoorSexRnode
import Derived.Test.YtceomdbahiimlaaDoorSsWalk
namespace Go.Proofs.YtceomdbahiimlaaDoor.T14
set_option maxRecDepth 100000

open Go.RowKit

theorem two_in (w : World) (c1 c2 : Array Value) (t1 t2 : TypeId) : ∃ W, W = (w.alloc (.cells c1 t1)).alloc (.cells c2 t2) ∧ W.heap[w.heap.size]? = some (.cells c1 t1 (0, 0)) ∧ W.heap[w.heap.size + 1]? = some (.cells c2 t2 (0, 0)) ∧ Below w.heap.size w W ∧ W.heap.size = w.heap.size + 2 :=
  ⟨_, rfl, (two_boxes w (.cells c1 t1) (.cells c2 t2)).1, (two_boxes w (.cells c1 t1) (.cells c2 t2)).2.1, (two_boxes w _ _).2.2, by simp⟩
theorem four_cells {w : World} {g : Nat} {a0 a1 a2 a3 : Value} {t : TypeId} (h : w.heap[g]? = some (.cells #[a0, a1, a2, a3] t (0, 0))) : w.cell? ⟨g, 0, none⟩ = some a0 ∧ w.cell? ⟨g, 1, none⟩ = some a1 ∧ w.cell? ⟨g, 2, none⟩ = some a2 ∧ w.cell? ⟨g, 3, none⟩ = some a3 :=
  ⟨box_cell h 0, box_cell h 1, box_cell h 2, box_cell h 3⟩
theorem zero_lies' (b K : Nat) (w : World) (k : Int) (s : List UInt8) (n p : Int) : Lies b K w (LN.mk k s n p (.slice none 0 0) []).rows := by
  rw [LN.rows_eq]
  refine ⟨fun r hr => ?_, by simp [rowsL, LN.l, blocks, rwN, LN.g, Value.ownBlock]⟩
  obtain rfl := List.mem_singleton.1 (show r ∈ [rwN _] from hr)
  exact ⟨World.ownsRow_nil _ _ _ _, Nat.zero_le _⟩
theorem isB_yes {l : List T} {k : Nat} {s : List UInt8} (h : isB l k s = true) : ∃ t, l[k]? = some t ∧ t.kind = 3 ∧ t.text = s := by
  unfold isB at h
  split at h
  · rename_i t ht
    simp only [Bool.and_eq_true, decide_eq_true_eq] at h
    exact ⟨t, ht, h.1, h.2⟩
  · cases h
/-- A token that is a node of itself. -/
theorem post_leaf {TT : List T} {a i : Nat} {w : World} {t : T} (ht : TT[a]? = some t) (hs : t.kind ≠ 3 ∨ t.text = [46]) (hlt : a < TT.length) (c2 : Array Value) (t2 : TypeId) :
    NodePost TT a i w (.returned (.tuple #[.agg #[.int .i64 t.kind, .string (txt t.text), .int .i64 t.num, .int .i64 t.at_, .slice none 0 0], .int .i64 ((a : Int) + 1), .int .i64 0])) ((w.alloc (.cells #[.int .i64 t.kind, .string (txt t.text), .int .i64 t.num, .int .i64 t.at_, .slice none 0 0] 24)).alloc (.cells c2 t2)) :=
  ⟨.mk t.kind t.text t.num t.at_ (.slice none 0 0) [], a + 1, 0, rfl, zero_lies' _ _ _ _ _ _ _, (two_boxes w _ _).2.2, .inl ⟨rfl, by omega, by omega, fun o _ => by rw [run_leaf ht hs, LN.bare_eq]; rfl⟩, by omega⟩
/-- No node. -/
theorem post_no {TT : List T} {a i : Nat} {w w' : World} {er : Nat} (hb : Below w.heap.size w w') (he : er ≠ 0) (nx : Nat) (hn : nx ≤ TT.length) (h : ∀ o : List Nd, o.length = i → (∀ t, TT[nx]? = some t → runP (TT.drop a) ⟨o, none⟩ = .error (er, t.at_)) ∧ (TT[nx]? = none → er = 4 ∧ ∃ p, runP (TT.drop a) ⟨o, none⟩ = .ok p ∧ p.w = none)) :
    NodePost TT a i w (.returned (.tuple #[.agg #[.int .i64 0, .string ⟨#[]⟩, .int .i64 0, .int .i64 0, .slice none 0 0], .int .i64 nx, .int .i64 er])) w' :=
  ⟨LN.zero, nx, er, rfl, zero_lies _ _ _, hb, .inr ⟨he, zero_bare, h⟩, hn⟩
set_option maxRecDepth 1000000 in
set_option maxHeartbeats 8000000 in
theorem node_step {TT : List T} (hT : TT.length ≤ 1000) {f : Nat} (H : NodeH TT f) : NodeH TT (f + 1) := by
  intro a i w A c ha hf hi hc hS
  have HS := Lib.hid hS
  have HH := Lib.hid H
  have HC := Lib.hid hc
  clear H hc
  by_cases hlt : a < TT.length
  · obtain ⟨ad, t, rfl, hadb, ht, t0, t1, t2, t3⟩ := SlT.at_ hS hlt
    have HTT := Lib.hid ht
    clear hS ht
    obtain ⟨W, hW, x1, x2, hbW, hWs⟩ := two_in w #[.int .i64 0, .string ⟨#[]⟩, .int .i64 0, .int .i64 0, .slice none 0 0] #[.int .i64 t.kind, .string (txt t.text), .int .i64 t.num, .int .i64 t.at_] 24 45
    have HW := Lib.hid hW
    have X1 := Lib.hid x1
    have X2 := Lib.hid x2
    have HBW := Lib.hid hbW
    obtain ⟨m0, m1, m2, m3⟩ := four_cells x2
    have hb1 := below_new w (.cells #[.int .i64 0, .string ⟨#[]⟩, .int .i64 0, .int .i64 0, .slice none 0 0] 24)
    have T0 := (hb1.cell (World.block_lt_of_cell? _ _ t0)).trans t0
    have T1 := (hb1.cell (World.block_lt_of_cell? _ _ t1)).trans t1
    have T2 := (hb1.cell (World.block_lt_of_cell? _ _ t2)).trans t2
    have T3 := (hb1.cell (World.block_lt_of_cell? _ _ t3)).trans t3
    clear hW x1 x2 hbW hb1 t0 t1 t2 t3
    have d0 : decide (TT.length ≤ a) = false := by rw [decide_eq_false_iff_not]; omega
    have d01 : decide ((TT.length : Int) ≤ (a : Int)) = false := by rw [decide_eq_false_iff_not]; omega
    by_cases h3 : t.kind = 3
    · rw [h3] at m0 T0 X2 HW
      by_cases h4 : t.text = [46]
      · have d4 : ((txt t.text).toList == [46]) = true := by rw [txt_toList, h4]; rfl
        have H4 := Lib.hid h4
        clear h4
        go_enter Tryd.func23, Tryd.ntmps23
        go_wp2
        refine bodyPost_ret (results_nd rfl _ _ w.heap.size rfl (two_boxes w _ _).1) rfl ?_
        have := post_leaf (i := i) (w := w) HTT.out (.inr H4.out) hlt #[.int .i64 3, .string (txt t.text), .int .i64 t.num, .int .i64 t.at_] 45
        rw [h3] at this
        exact this
      · have d4 : ((txt t.text).toList == [46]) = false := by
          rw [txt_toList, beq_eq_false_iff_ne]
          exact h4
        by_cases h5 : t.text = [40]
        · have d5 : ((txt t.text).toList == [40]) = true := by rw [txt_toList, h5]; rfl
          have H5 := Lib.hid h5
          clear h5 h4
          by_cases h16 : 16 ≤ i
          · have d6 : decide ((16 : Int) ≤ (i : Int)) = true := by rw [decide_eq_true_eq]; omega
            have d7 : decide (16 ≤ i) = true := by rw [decide_eq_true_eq]; omega
            go_enter Tryd.func23, Tryd.ntmps23
            go_wp2
            refine bodyPost_ret (results_nd rfl _ _ w.heap.size rfl (two_boxes w _ _).1) rfl ?_
            exact post_no (two_boxes w _ _).2.2 (by decide) a ha fun o ho => ⟨fun u e => (by obtain rfl : t = u := Option.some.inj (HTT.out.symm.trans e); exact run_deep HTT.out h3 H5.out o (by omega)), fun e => by rw [HTT.out] at e; cases e⟩
          · have d6 : decide ((16 : Int) ≤ (i : Int)) = false := by rw [decide_eq_false_iff_not]; omega
            have d7 : decide (16 ≤ i) = false := by rw [decide_eq_false_iff_not]; omega
            go_enter Tryd.func23, Tryd.ntmps23
            go_wp2
            obtain ⟨W3, hW3, y1, -, y3, hb3⟩ := three_boxes w #[.int .i64 0, .string ⟨#[]⟩, .int .i64 0, .int .i64 0, .slice none 0 0] #[.int .i64 3, .string (txt t.text), .int .i64 t.num, .int .i64 t.at_] #[.int .i64 4, .string ⟨#[]⟩, .int .i64 0, .int .i64 t.at_, .slice none 0 0] 24 45 24
            rw [← hW3]
            have hG : w.heap.size + 1 < w.heap.size + 1 + 1 := Nat.lt_succ_self _
            generalize w.heap.size + 1 + 1 = G at *
            have Y1 := Lib.hid y1
            have HB3 := Lib.hid hb3
            have hGW := box_lt y3
            have HSW := Lib.hid (HS.out.on hb3)
            have hop : Hid (∀ o : List Nd, o.length = i → runP (TT.drop a) ⟨o, none⟩ = runP (TT.drop (a + 1)) ⟨.mk 4 [] 0 t.at_ [] :: o, none⟩) := Lib.hid fun o ho => run_open HTT.out h3 H5.out o (by omega)
            clear hW3 hb3 y1 HW X1 X2 HBW m0 m1 m2 m3 T0 T1 T2 T3 hWs d4 d5 d6 d7
            go_loopw [11] (fun nv wr => ∃ (nx : Nat) (Xs : List LN) (k : Nat) (Av : Option Addr) (cv : Nat), nv = .int .i64 nx ∧ a < nx ∧ nx ≤ TT.length ∧ wr.heap[G]? = some (.cells #[.int .i64 4, .string ⟨#[]⟩, .int .i64 0, .int .i64 t.at_, .slice Av k cv] 24 (0, 0)) ∧ Xs.length = k ∧ k ≤ nx ∧
              Lies (G + 1) 1200 wr (LN.mk 4 [] 0 t.at_ (.slice Av k cv) Xs).rows ∧ (∀ o : List Nd, o.length = i → runP (TT.drop a) ⟨o, none⟩ = runP (TT.drop nx) ⟨.mk 4 [] 0 t.at_ (Xs.map LN.bare) :: o, none⟩) ∧ Below G W3 wr) (fun nv _ => TT.length - (intOf nv).toNat)
            case atStart => exact ⟨a + 1, [], 0, none, 0, by go_num, by omega, by omega, y3, rfl, by omega, zero_lies' _ _ _ _ _ _ _, hop.out, Below.refl _ _⟩
            case round =>
              obtain ⟨nx, Xs, k, Av, cv, rfl, hn1, hn2, hbox, hXl, hkn, hlies, hrun, hbw⟩ := hrel
              have HBX := Lib.hid hbox
              have HL := Lib.hid hlies
              have HR := Lib.hid hrun
              have HBW := Lib.hid hbw
              have hRw := (hbw.block _ (by have := box_lt Y1.out; omega)).trans Y1.out
              have HRW := Lib.hid hRw
              have hSr := sl_low HS.out (fun ad' he _ => (by obtain rfl := Option.some.inj he; exact hadb)) (Lo.trans (Lo.below HB3.out (Nat.le_refl _)) (Lo.mono (Lo.of hbw) (by omega)))
              have HIS := Lib.hid (is_any TT _ c nx [41] wr hSr)
              obtain ⟨bb, hbb⟩ : ∃ b, isB TT nx [41] = b := ⟨_, rfl⟩
              rw [hbb] at HIS
              have HBB := Lib.hid hbb
              have HSR := Lib.hid hSr
              clear hrun hlies hbb hSr
              cases bb with
              | true =>
                obtain ⟨n0, n1, n2, n3, n4⟩ := five_cells hbox
                clear hbox hbw
                go_wp2_with fail
                refine HIS.out.mono ?_
                rintro e w5 ⟨rfl, rfl⟩
                go_wp2_with (refine wpList_store_nd rfl _ _ rfl rfl w.heap.size _ _ _ _ _ _ _ rfl rfl _ _ _ _ _ _ hRw ?_)
                obtain ⟨t', ht', hk', hx'⟩ := isB_yes HBB.out
                have hnl := (List.getElem?_eq_some_iff.1 ht').1
                refine bodyPost_ret (results_nd rfl _ _ w.heap.size rfl (setRow_heap _ _ _ _ _ _ hRw)) rfl ?_
                refine ⟨.mk 4 [] 0 t.at_ (.slice Av k cv) Xs, nx + 1, 0, rfl, (HL.out.kept fun j hj => setRow_other _ _ _ _ (by have := (HL.out.old hj).1; omega)).less (by omega), below_setRow (HB3.out.trans (HBW.out.mono (by omega))) (Nat.le_refl _) _, .inl ⟨rfl, by omega, by omega, fun o ho => ?_⟩, by omega⟩
                rw [HR.out o ho, run_close ht' hk' hx', LN.bare_eq]
                rfl
              | false =>
                have hnode := HH.out nx (i + 1) wr (some ad) c hn2 (by omega) (by omega) (fun _ => HBB.out) HSR.out
                have HND := Lib.hid hnode
                have hw4 : IntKind.i64.wrap ((i : Int) + 1) = (i : Int) + 1 := by rw [IntKind.wrap_i64]; omega
                clear hnode hbw
                go_wp2_with fail
                refine HIS.out.mono ?_
                rintro e w5 ⟨rfl, rfl⟩
                go_wp2_with fail
                refine HND.out.mono ?_
                rintro e w2 ⟨Y, mx, er, rfl, hly, hb2, hnd, hmx⟩
                obtain ⟨Ay, cy, hgy⟩ := LN.shape hly
                have hb3 := below_lit hb2 (.cells #[.int .i64 Y.kind, .string (tx Y.text), .int .i64 Y.num, .int .i64 Y.at_, .slice Ay Y.l.length cy] 24)
                have hRx := (hb3.block _ (box_lt hRw)).trans hRw
                have HND2 := Lib.hid hnd
                by_cases he : er = 0
                · subst he
                  obtain ⟨n0, n1, n2, n3, n4⟩ := five_cells ((hb3.block _ (box_lt HBX.out)).trans HBX.out)
                  obtain ⟨q0, q1, q2, q3, q4⟩ := five_cells (heap_alloc_new w2 (.cells #[.int .i64 Y.kind, .string (tx Y.text), .int .i64 Y.num, .int .i64 Y.at_, .slice Ay Y.l.length cy] 24))
                  obtain ⟨WX, hWX, r1, hbX⟩ : ∃ WX, WX = (w2.alloc (.cells #[.int .i64 Y.kind, .string (tx Y.text), .int .i64 Y.num, .int .i64 Y.at_, .slice Ay Y.l.length cy] 24)).alloc (.cells #[.int .i64 Y.kind, .string (tx Y.text), .int .i64 Y.num, .int .i64 Y.at_, .slice Ay Y.l.length cy] 24) ∧ WX.heap[w2.heap.size + 1]? = some (.cells #[.int .i64 Y.kind, .string (tx Y.text), .int .i64 Y.num, .int .i64 Y.at_, .slice Ay Y.l.length cy] 24 (0, 0)) ∧ Below w2.heap.size w2 WX := ⟨_, rfl, (two_boxes w2 _ _).2.1, (two_boxes w2 _ _).2.2⟩
                  have hbr := below_then hb2 hbX
                  have hlX := HL.out.on hbr
                  have hlY := hly.on hbX
                  have HOWN := Lib.hid (show WX.ownsRow (G + 1) 24 5 (.slice Av k cv) k (Xs.flatMap LN.cells) from by
                    have := (hlX.own (rwN _) (by rw [LN.rows_eq]; exact List.mem_cons_self ..)).1
                    rw [← hXl]
                    rw [← hXl] at this
                    exact this)
                  have hgw := box_lt HBX.out
                  have hwrs := hbr.size
                  have HGX := Lib.hid ((hbr.block _ hgw).trans HBX.out)
                  have HNEW := Lib.hid (World.news_of_block r1)
                  have HHW := Lib.hid hWX
                  have HLX := Lib.hid (And.intro hlX (And.intro hlY hbr))
                  have HONE := Lib.hid (show ∀ u ∈ Y.cells, u.oneCell' = true from ln_one hly (by rw [LN.rows_eq]; exact List.mem_cons_self ..))
                  have HGY := Lib.hid hgy
                  obtain ⟨j0, hj, hz0, hz1, hz2⟩ := info_parts info_node
                  unfold LN.val
                  rw [hgy]
                  clear hgy hly hb2 hb3 hnd hWX r1 hbX hbr hlX hlY hRx
                  go_wp2_with (at_builtin; rw [← HHW.out]; go_loud (refine wpList_append_lies _ rfl _ _ 22 rfl (G + 1) 24 j0 (.agg #[.int .i64 0, .string ⟨#[]⟩, .int .i64 0, .int .i64 0, .slice none 0 0]) 5 64 Tryd.underlying22 hj hz0 hz1 hz2 rfl (by decide) (.slice Av k cv) k (Xs.flatMap LN.cells) rfl HOWN.out ⟨w2.heap.size + 1, 0, none⟩ 1 1 [.int .i64 Y.kind, .string (tx Y.text), .int .i64 Y.num, .int .i64 Y.at_, .slice Ay Y.l.length cy] rfl rfl HNEW.out (by rw [← HGY.out]; exact HONE.out) (by decide) (by unfold maxLen; omega) (by omega) (by omega) _ rfl ?_); intro g8 c8 w8 ho8 hg8 ha8 hl8; have h8 := (hg8.block G (by omega) (fun e => by have := (HOWN.out.lt G e.symm).1; omega)).trans HGX.out; obtain ⟨s0, s1, s2, s3, s4⟩ := five_cells h8; have sf := box_froz h8 4)
                  obtain ⟨hlX, hlY, hbr⟩ := HLX.out
                  rcases HND2.out with ⟨-, z1, z2, z3⟩ | ⟨h0, -⟩
                  · refine ⟨⟨mx, Xs ++ [Y], k + 1, some ⟨g8, 0, none⟩, c8, rfl, by omega, by omega, ?_, (by rw [List.length_append, hXl]; rfl), by omega, ?_, fun o ho => ?_, ?_⟩, by simp [intOf]; omega⟩
                    · have e := heap_setCell_same w8 G 4 _ _ (.slice (some ⟨g8, 0, none⟩) (k + 1) c8) h8
                      simpa only [List.setIfInBounds_toArray, List.set_cons_succ, List.set_cons_zero] using e
                    · exact list_pushK hlX hlY HL.out hwrs hgw hXl HGY.out (by omega) ho8 hg8 (ha8.imp id (fun e => by omega)) _
                    · rw [HR.out o ho, z3 _ (by simp [ho]), List.map_append]
                      rfl
                    · have hB8 := (HBW.out.trans (hbr.mono (show G ≤ wr.heap.size by omega))).grown hg8 (by omega) (fun j hj => by have := (HOWN.out.lt j hj).1; omega)
                      exact ⟨hB8.os, hB8.tape, hB8.output, Nat.le_trans hB8.size (by simp), fun j hj => (set_far (by omega)).trans (hB8.block j hj)⟩
                  · exact absurd rfl h0
                · have d2 : ((er : Int) != 0) = true := by rw [bne_iff_ne]; omega
                  have HB4 := Lib.hid (below_setRow (HB3.out.trans ((HBW.out.mono (show w.heap.size ≤ G by omega)).trans (hb3.mono (Nat.le_trans HB3.out.size HBW.out.size)))) (Nat.le_refl _) #[.int .i64 0, .string ⟨#[]⟩, .int .i64 0, .int .i64 0, .slice none 0 0])
                  unfold LN.val
                  rw [hgy]
                  clear hgy hly hb2 hb3 hnd
                  go_wp2_with (refine wpList_store_nd rfl _ _ rfl rfl w.heap.size _ _ _ _ _ _ _ rfl rfl _ _ _ _ _ _ hRx ?_)
                  refine bodyPost_ret (results_nd rfl _ _ w.heap.size rfl (setRow_heap _ _ _ _ _ _ hRx)) rfl ?_
                  refine post_no HB4.out he mx hmx fun o ho => ?_
                  rw [HR.out o ho]
                  rcases HND2.out with ⟨h0, -⟩ | ⟨-, -, h2⟩
                  · exact absurd h0 he
                  · exact h2 _ (by simp [ho])
        · have d5 : ((txt t.text).toList == [40]) = false := by
            rw [txt_toList, beq_eq_false_iff_ne]
            exact h5
          have H45 := Lib.hid (And.intro h4 h5)
          clear h4 h5
          go_enter Tryd.func23, Tryd.ntmps23
          go_wp2
          refine bodyPost_ret (results_nd rfl _ _ w.heap.size rfl (two_boxes w _ _).1) rfl ?_
          refine post_no (two_boxes w _ _).2.2 (by decide) a ha fun o ho => ⟨fun u e => ?_, fun e => by rw [HTT.out] at e; cases e⟩
          obtain rfl : t = u := Option.some.inj (HTT.out.symm.trans e)
          refine run_bad HTT.out h3 H45.out.1 H45.out.2 o (fun hne h41 => ?_)
          have := HC.out (by rw [← ho]; intro h0; exact hne (List.eq_nil_of_length_eq_zero h0))
          rw [isB, HTT.out] at this
          simp [h3, h41] at this
    · have hk : ((t.kind : Int) != 3) = true := by rw [bne_iff_ne]; omega
      go_enter Tryd.func23, Tryd.ntmps23
      go_wp2
      refine bodyPost_ret (results_nd rfl _ _ w.heap.size rfl (two_boxes w _ _).1) rfl ?_
      exact post_leaf HTT.out (.inl h3) hlt _ _
  · have hN : Hid (TT[a]? = none) := Lib.hid (List.getElem?_eq_none (by omega))
    have hD : Hid (TT.drop a = []) := Lib.hid (List.drop_of_length_le (by omega))
    clear hS
    go_enter Tryd.func23, Tryd.ntmps23
    go_wp2
    refine bodyPost_ret (results_nd rfl _ _ w.heap.size rfl (heap_alloc_new w _)) rfl ?_
    exact post_no (below_new _ _) (by decide) a ha fun o _ => ⟨fun t e => (by rw [hN.out] at e; cases e), fun _ => ⟨rfl, ⟨o, none⟩, by rw [hD.out]; rfl, rfl⟩⟩
end Go.Proofs.YtceomdbahiimlaaDoor.T14
