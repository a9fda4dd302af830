/-
  The statement SexpList's own body, for every list of texts.
-/
import Derived.Test.YtceomdbahiimlaaDoorSexAw
import Derived.Test.YtceomdbahiimlaaDoorSexJoin
import Derived.Test.YtceomdbahiimlaaDoorSexBig
import Derived.Test.YtceomdbahiimlaaDoorSnWalk
namespace Go.Proofs.YtceomdbahiimlaaDoor.T14
set_option maxRecDepth 100000

open Go.RowKit

/-- A slice of texts. -/
def StrsAt (B : Nat) (w : World) (l : List ByteArray) (v : Value) : Prop := LsAt (Rd B w) 9 1 (fun (s : ByteArray) cs => cs = [.string s] ∧ s.size ≤ maxLen) l v
theorem strs_cell {B : Nat} {w : World} {l : List ByteArray} {A : Option Addr} {n c : Nat} (h : StrsAt B w l (.slice A n c)) : n = l.length ∧ ∀ k s, l[k]? = some s → ∃ ad, A = some ad ∧ ad.block < B ∧ w.cell? (ad.add k) = some (.string s) ∧ s.size ≤ maxLen := by
  obtain ⟨A', c', xs, e, hs, hb, hr, hn⟩ := LsAt.open_ h
  simp only [Value.slice.injEq] at e
  obtain ⟨rfl, rfl, rfl⟩ := e
  refine ⟨rfl, fun k s hk => ?_⟩
  obtain ⟨cs, ⟨rfl, hsz⟩, -, hx⟩ := hr.get (size := 1) (fun a cs h => by rw [h.1]; rfl) hk
  obtain ⟨ad, rfl, -, h0, -⟩ := sl_elem hs (List.getElem?_eq_some_iff.1 hk).1
  refine ⟨ad, rfl, hb ad rfl (by have := (List.getElem?_eq_some_iff.1 hk).1; omega), ?_, hsz⟩
  have := h0 (.string s) (by have := hx 0 (by omega); rw [Nat.add_zero] at this; rw [this]; rfl)
  rwa [Nat.mul_one] at this
theorem LN.shape {b K : Nat} {w : World} {X : LN} (h : Lies b K w X.rows) : ∃ A c, X.g = .slice A X.l.length c := by
  obtain ⟨A, c, e, -⟩ := Sl.of_own (h.own (rwN X) (by rw [LN.rows_eq]; exact List.mem_cons_self ..)).1
  exact ⟨A, c, e⟩
def bsL (l : List ByteArray) : List (List UInt8) := l.map fun s => s.data.toList
theorem list_txt (l : List ByteArray) (k : Nat) (s : ByteArray) (h : l[k]? = some s) : tx (40 :: joinB (bsL (l.take k))) ++ s ++ (⟨#[10]⟩ : ByteArray) = tx (40 :: joinB (bsL (l.take (k + 1)))) := by
  rw [List.take_add_one, h, show (⟨#[10]⟩ : ByteArray) = txt [10] from rfl, tx_txt, tx_txt]
  conv => lhs; rw [← txt_of s]
  rw [txt_app, txt_app]
  congr 1
  simp [bsL, joinB]
theorem joinB_len : ∀ (l : List ByteArray), (∀ s ∈ l, s.size ≤ 200) → (joinB (bsL l)).length ≤ l.length * 201
  | [], _ => by simp [bsL, joinB]
  | s :: l, h => by
    have h1 := joinB_len l fun t ht => h t (List.mem_cons_of_mem _ ht)
    have h2 := h s (List.mem_cons_self ..)
    have e : (joinB (bsL (s :: l))).length = s.size + 1 + (joinB (bsL l)).length := by simp [bsL, joinB]; omega
    rw [e, List.length_cons, Nat.succ_mul]
    omega
/-- A node more at the end of a list of one's own, whose own box is apart. -/
theorem list_push {G k g8 c8 : Nat} {wr WX w8 : World} {Av : Option Addr} {cv : Nat} {Xs : List LN} {Y : LN} {Ay : Option Addr} {m cy : Nat} (hlX : Lies (G + 1) 1200 WX (LN.mk 4 [] 0 0 (.slice Av k cv) Xs).rows) (hlY : Lies wr.heap.size 1100 WX Y.rows)
    (hL : Lies (G + 1) 1200 wr (LN.mk 4 [] 0 0 (.slice Av k cv) Xs).rows) (hwr : wr.heap.size ≤ WX.heap.size) (hG : G < wr.heap.size) (hXl : Xs.length = k) (hgy : Y.g = .slice Ay m cy) (hk : k ≤ 100)
    (ho : w8.ownsRow (G + 1) 24 5 (.slice (some ⟨g8, 0, none⟩) (k + 1) c8) (k + 1) (Xs.flatMap LN.cells ++ [.int .i64 Y.kind, .string (tx Y.text), .int .i64 Y.num, .int .i64 Y.at_, .slice Ay m cy])) (hg : WX.grownBy w8 (Value.slice Av k cv).ownBlock) (hat : (Value.slice Av k cv).ownBlock = some g8 ∨ WX.heap.size ≤ g8) (u : Value) :
    Lies (G + 1) 1200 (w8.setCell ⟨G, 4, none⟩ u) (LN.mk 4 [] 0 0 (.slice (some ⟨g8, 0, none⟩) (k + 1) c8) (Xs ++ [Y])).rows := by
  have e1 : (LN.mk 4 [] 0 0 (.slice Av k cv) Xs).rows = rwN (LN.mk 4 [] 0 0 (.slice Av k cv) Xs) :: rowsL Xs := by rw [LN.rows_eq]; rfl
  have h1 := hlX.app ((hlY.less (Nat.le_of_lt (Nat.lt_succ_of_lt hG) |> fun _ => hG)).more (K' := 1200) (by decide)) (fun i hi hm => by
    have := (hL.old hi).2
    have := (hlY.old hm).1
    omega)
  rw [e1, List.cons_append] at h1
  have h2 := Lies.push (l1 := []) (K' := 1200) h1 hg (n' := k + 1) ho hat (by omega) (Nat.le_refl _)
  have e2 : (LN.mk 4 [] 0 0 (.slice (some ⟨g8, 0, none⟩) (k + 1) c8) (Xs ++ [Y])).rows = [] ++ (⟨24, 5, .slice (some ⟨g8, 0, none⟩) (k + 1) c8, k + 1, Xs.flatMap LN.cells ++ [.int .i64 Y.kind, .string (tx Y.text), .int .i64 Y.num, .int .i64 Y.at_, .slice Ay m cy]⟩ : Rw) :: (rowsL Xs ++ Y.rows) := by
    rw [LN.rows_eq]
    show rwN _ :: rowsL (Xs ++ [Y]) = _
    rw [rowsL_append, rowsL_cons, show rowsL ([] : List LN) = [] from rfl, List.append_nil, List.nil_append]
    congr 1
    simp only [rwN, LN.l, LN.g, List.length_append, hXl, List.length_cons, List.length_nil, List.flatMap_append, List.flatMap_cons, List.flatMap_nil, List.append_nil, LN.cells, ← hgy]
  rw [e2]
  exact h2.kept fun j hj => set_far (by have := (h2.old hj).1; omega)
theorem nat_list {R : RP} {D : Nat} {ys : List Nd} {cs : List Value} (hy : ∀ y ∈ ys, mayB Lib.itoa y = true) (h : NAt R D (.mk 4 [] 0 0 ys) cs) : NAt R 18 (.mk 4 [] 0 0 ys) cs := by
  cases D with
  | zero => exact h.elim
  | succ D =>
    obtain ⟨u, h1, xs, h2, h3⟩ := h
    exact ⟨u, h1, xs, h2, h3.imp_mem fun y hm cs hc => nat_may (hy y hm) hc⟩
theorem may_list (ys : List Nd) (v : Value) (W : World) (hn : NAt (Rd W.heap.size W) 18 (.mk 4 [] 0 0 ys) [.int .i64 4, .string ⟨#[]⟩, .int .i64 0, .int .i64 0, v]) (hs : Sm 1000000 (.mk 4 [] 0 0 ys)) (LV : Laid W) :
    Calls Tryd.prog 14 #[.agg #[.int .i64 4, .string ⟨#[]⟩, .int .i64 0, .int .i64 0, v]] W fun e w' => e = .returned (.bool (mayB Lib.itoa (.mk 4 [] 0 0 ys))) ∧ Below W.heap.size W w' :=
  may14_any 18 (.mk 4 [] 0 0 ys) v W (by decide) hn hs LV
theorem same_list14 (y : Nd) (g : Value) (ys : List Nd) (v : Value) (hu : y.un = (Nd.mk 4 [] 0 0 ys).un) (W : World) (hy : NAt (Rd W.heap.size W) 17 y [.int .i64 y.kind, .string (tx y.text), .int .i64 y.num, .int .i64 y.at_, g]) (hn : NAt (Rd W.heap.size W) 18 (.mk 4 [] 0 0 ys) [.int .i64 4, .string ⟨#[]⟩, .int .i64 0, .int .i64 0, v]) :
    Calls Tryd.prog 18 #[.agg #[.int .i64 y.kind, .string (tx y.text), .int .i64 y.num, .int .i64 y.at_, g], .agg #[.int .i64 4, .string ⟨#[]⟩, .int .i64 0, .int .i64 0, v]] W fun e w' => e = .returned (.bool true) ∧ Below W.heap.size W w' := by
  have h := same14_any W.heap.size 18 y (.mk 4 [] 0 0 ys) g v W (Nat.le_refl _) (NAt.more (by decide) _ _ hy) hn
  rw [eqC_yes hu] at h
  exact h
set_option maxRecDepth 1000000 in
set_option maxHeartbeats 4000000 in
theorem slWalk (w : World) (LV : Laid w) (l : List ByteArray) (A : Option Addr) (n c : Nat) (hl : StrsAt w.heap.size w l (.slice A n c)) :
    Calls Tryd.prog 7 #[.slice A n c] w fun e w' => e = .returned (.bool true) ∧ Below w.heap.size w w' := by
  obtain ⟨rfl, hcell⟩ := strs_cell hl
  clear hl
  by_cases h20 : 20 < l.length
  · have d1 : decide ((20 : Int) < (l.length : Int)) = true := by rw [decide_eq_true_eq]; omega
    go_enter Tryd.func7, Tryd.ntmps7
    go_wp2_with fail
    refine (awake14_any _ LV).mono ?_
    rintro e w1 ⟨rfl, hb1⟩
    go_wp2
    go_ret
    exact ⟨rfl, hb1⟩
  · have d1 : decide ((20 : Int) < (l.length : Int)) = false := by rw [decide_eq_false_iff_not]; omega
    have HC := Lib.hid hcell
    clear hcell
    go_enter Tryd.func7, Tryd.ntmps7
    go_wp2_with fail
    refine (awake14_any _ LV).mono ?_
    rintro e w1 ⟨rfl, hb1⟩
    go_wp2
    obtain ⟨W1, hW1⟩ : ∃ W, W = w1.alloc (.cells #[.int .i64 4, .string ⟨#[]⟩, .int .i64 0, .int .i64 0, .slice none 0 0] 24) := ⟨_, rfl⟩
    have x1 : W1.heap[w1.heap.size]? = some (.cells #[.int .i64 4, .string ⟨#[]⟩, .int .i64 0, .int .i64 0, .slice none 0 0] 24 (0, 0)) := by rw [hW1]; exact heap_alloc_new w1 _
    have hbW : Below w1.heap.size w1 W1 := by rw [hW1]; exact below_new _ _
    rw [← hW1]
    have HB1 := Lib.hid (below_then hb1 hbW)
    have hG := hb1.size
    generalize w1.heap.size = G at *
    clear hW1 hbW hb1
    go_loopw [4, 6] (fun sv i wr => ∃ (k : Nat) (Xs : List LN) (v : Value), i = .int .i64 k ∧ k ≤ l.length ∧ sv = .string (tx (40 :: joinB (bsL (l.take k)))) ∧ wr.heap[G]? = some (.cells #[.int .i64 4, .string ⟨#[]⟩, .int .i64 0, .int .i64 0, v] 24 (0, 0)) ∧
      Lies (G + 1) 1200 wr (LN.mk 4 [] 0 0 v Xs).rows ∧ Xs.length = k ∧ Xs.map LN.bare = (l.take k).map (fun s => (parR Lib.itoa s.data.toList).1) ∧ (∀ s ∈ l.take k, (parR Lib.itoa s.data.toList).2.2 = 0 ∧ s.size ≤ 200) ∧ Below w.heap.size w wr) (fun _ i _ => l.length - (intOf i).toNat)
    case atStart => exact ⟨0, [], .slice none 0 0, rfl, Nat.zero_le _, rfl, x1, ⟨fun r hr => by rw [LN.rows_eq] at hr; obtain rfl := List.mem_singleton.1 (show r ∈ [rwN _] from hr); exact ⟨World.ownsRow_nil _ _ _ _, Nat.zero_le _⟩, by rw [LN.rows_eq]; simp [rowsL, LN.l, blocks, rwN, LN.g, Value.ownBlock]⟩, rfl, rfl, by simp, HB1.out⟩
    case round =>
      obtain ⟨k, Xs, v, rfl, hk, rfl, hbox, hlies, hXl, hXb, hok, hbw⟩ := hrel
      obtain ⟨Av, cv, hv⟩ : ∃ A c, v = .slice A k c := by
        obtain ⟨A, c, e, -⟩ := Sl.of_own (hlies.own (rwN _) (by rw [LN.rows_eq]; exact List.mem_cons_self ..)).1
        have e : v = .slice A Xs.length c := e
        rw [hXl] at e
        exact ⟨A, c, e⟩
      subst hv
      have HBX := Lib.hid hbox
      have HL := Lib.hid hlies
      have HOK := Lib.hid hok
      have HBW := Lib.hid hbw
      have HXB := Lib.hid hXb
      by_cases hlt : k < l.length
      · obtain ⟨s, hs⟩ : ∃ s, l[k]? = some s := ⟨_, List.getElem?_eq_getElem hlt⟩
        obtain ⟨ad, rfl, hab, hc0, hsz⟩ := HC.out k s hs
        have hc1 := (hbw.cell (p := ad.add k) (by rw [add_same_block]; exact hab)).trans hc0
        have HTX := Lib.hid (list_txt l k s hs)
        obtain ⟨pl, hpl⟩ : ∃ p, (parR Lib.itoa s.data.toList).2.1 = p := ⟨_, rfl⟩
        obtain ⟨y, hy⟩ : ∃ p, (parR Lib.itoa s.data.toList).1 = p := ⟨_, rfl⟩
        obtain ⟨er, her⟩ : ∃ p, (parR Lib.itoa s.data.toList).2.2 = p := ⟨_, rfl⟩
        have HP := Lib.hid (parse_all s wr (LV.on hbw))
        unfold ParPost at HP
        rw [hpl, hy, her] at HP
        have HS := Lib.hid (And.intro hs (And.intro hy her))
        clear hbox hlies hok hbw hXb hs hc0 hpl hy her
        by_cases he : er = 0
        · by_cases h2 : 200 < s.size
          · have d2 : decide ((200 : Int) < (s.size : Int)) = true := by rw [decide_eq_true_eq]; omega
            subst he
            go_wp2_with fail
            refine HP.out.mono ?_
            rintro e w2 ⟨Y, rfl, hY, hly, hb2⟩
            obtain ⟨Ay, cy, hgy⟩ := LN.shape hly
            have hc2 := ((below_lit hb2 (.cells #[.int .i64 Y.kind, .string (tx Y.text), .int .i64 Y.num, .int .i64 Y.at_, .slice Ay Y.l.length cy] 24)).cell (World.block_lt_of_cell? _ _ hc1)).trans hc1
            have HB2 := Lib.hid (below_then HBW.out (below_lit hb2 (.cells #[.int .i64 Y.kind, .string (tx Y.text), .int .i64 Y.num, .int .i64 Y.at_, .slice Ay Y.l.length cy] 24)))
            unfold LN.val
            rw [hgy]
            clear hgy hly hY hb2
            go_wp2
            go_ret
            exact ⟨rfl, HB2.out⟩
          · have d2 : decide ((200 : Int) < (s.size : Int)) = false := by rw [decide_eq_false_iff_not]; omega
            subst he
            go_wp2_with fail
            refine HP.out.mono ?_
            rintro e w2 ⟨Y, rfl, hY, hly, hb2⟩
            obtain ⟨Ay, cy, hgy⟩ := LN.shape hly
            have hb3 := below_lit hb2 (.cells #[.int .i64 Y.kind, .string (tx Y.text), .int .i64 Y.num, .int .i64 Y.at_, .slice Ay Y.l.length cy] 24)
            have hc2 := (hb3.cell (World.block_lt_of_cell? _ _ hc1)).trans hc1
            obtain ⟨n0, n1, n2, n3, n4⟩ := five_cells ((hb3.block _ (box_lt HBX.out)).trans HBX.out)
            have HB3 := Lib.hid hb3
            have HLY := Lib.hid (And.intro hly (And.intro hY hb2))
            have hts : (tx (40 :: joinB (bsL (l.take k)))).size ≤ 5000 := by
              rw [size_tx, List.length_cons]
              have := joinB_len (l.take k) fun s hs => (HOK.out s hs).2
              rw [List.length_take] at this
              omega
            obtain ⟨q0, q1, q2, q3, q4⟩ := five_cells (heap_alloc_new w2 (.cells #[.int .i64 Y.kind, .string (tx Y.text), .int .i64 Y.num, .int .i64 Y.at_, .slice Ay Y.l.length cy] 24))
            obtain ⟨WX, hWX, r1, hbX⟩ : ∃ WX, WX = (w2.alloc (.cells #[.int .i64 Y.kind, .string (tx Y.text), .int .i64 Y.num, .int .i64 Y.at_, .slice Ay Y.l.length cy] 24)).alloc (.cells #[.int .i64 Y.kind, .string (tx Y.text), .int .i64 Y.num, .int .i64 Y.at_, .slice Ay Y.l.length cy] 24) ∧ WX.heap[w2.heap.size + 1]? = some (.cells #[.int .i64 Y.kind, .string (tx Y.text), .int .i64 Y.num, .int .i64 Y.at_, .slice Ay Y.l.length cy] 24 (0, 0)) ∧ Below w2.heap.size w2 WX := ⟨_, rfl, (two_boxes w2 _ _).2.1, (two_boxes w2 _ _).2.2⟩
            have hbr := below_then hb2 hbX
            have hlX := HL.out.on hbr
            have hlY := hly.on hbX
            have HOWN := Lib.hid (show WX.ownsRow (G + 1) 24 5 (.slice Av k cv) k (Xs.flatMap LN.cells) from by
              have := (hlX.own (rwN _) (by rw [LN.rows_eq]; exact List.mem_cons_self ..)).1
              rw [← hXl]
              rw [← hXl] at this
              exact this)
            have hgw := box_lt HBX.out
            have hwrs := hbr.size
            have hGX : WX.heap[G]? = some (.cells #[.int .i64 4, .string ⟨#[]⟩, .int .i64 0, .int .i64 0, .slice Av k cv] 24 (0, 0)) := (hbr.block _ hgw).trans HBX.out
            have HGX := Lib.hid hGX
            have HNEW := Lib.hid (World.news_of_block r1)
            have HHW := Lib.hid hWX
            have HLX := Lib.hid (And.intro hlX (And.intro hlY (And.intro hbr hb2)))
            have HONE := Lib.hid (show ∀ u ∈ Y.cells, u.oneCell' = true from ln_one hly (by rw [LN.rows_eq]; exact List.mem_cons_self ..))
            have HGY := Lib.hid hgy
            obtain ⟨j0, hj, hz0, hz1, hz2⟩ := info_parts info_node
            unfold LN.val
            rw [hgy]
            clear hly hY hb2 hb3 hWX r1 hbX hbr hlX hlY hGX
            go_wp2_with (at_builtin; go_loud (rw [← HHW.out]); go_loud (refine wpList_append_lies _ rfl _ _ 22 rfl (G + 1) 24 j0 (.agg #[.int .i64 0, .string ⟨#[]⟩, .int .i64 0, .int .i64 0, .slice none 0 0]) 5 64 Tryd.underlying22 hj hz0 hz1 hz2 rfl (by decide) (.slice Av k cv) k (Xs.flatMap LN.cells) rfl HOWN.out ⟨w2.heap.size + 1, 0, none⟩ 1 1 [.int .i64 Y.kind, .string (tx Y.text), .int .i64 Y.num, .int .i64 Y.at_, .slice Ay Y.l.length cy] rfl rfl HNEW.out (by rw [← HGY.out]; exact HONE.out) (by decide) (by unfold maxLen; omega) (by omega) (by omega) _ rfl ?_); intro g8 c8 w8 ho8 hg8 ha8 hl8; have h8 := (hg8.block G (by omega) (fun e => by have := (HOWN.out.lt G e.symm).1; omega)).trans HGX.out; obtain ⟨s0, s1, s2, s3, s4⟩ := five_cells h8; have sf := box_froz h8 4)
            obtain ⟨hlX, hlY, hbr, hb2⟩ := HLX.out
            refine ⟨⟨k + 1, Xs ++ [Y], .slice (some ⟨g8, 0, none⟩) (k + 1) c8, (by go_num), by omega, by rw [HTX.out], ?_, ?_, (by rw [List.length_append, hXl]; rfl), ?_, ?_, ?_⟩, by simp [intOf]; omega⟩
            · have e := heap_setCell_same w8 G 4 _ _ (.slice (some ⟨g8, 0, none⟩) (k + 1) c8) h8
              simpa only [List.setIfInBounds_toArray, List.set_cons_succ, List.set_cons_zero] using e
            · exact list_push hlX hlY HL.out hwrs hgw hXl HGY.out (by omega) ho8 hg8 (ha8.imp id (fun e => by omega)) _
            · rw [List.map_append, HXB.out, List.take_add_one, HS.out.1, List.map_append]
              show _ ++ [Y.bare] = _ ++ [(parR Lib.itoa s.data.toList).1]
              rw [HLY.out.2.1, HS.out.2.1]
            · intro t ht
              rw [List.take_add_one, HS.out.1] at ht
              rcases List.mem_append.1 ht with ht | ht
              · exact HOK.out t ht
              · obtain rfl : t = s := by simpa using ht
                exact ⟨HS.out.2.2, by omega⟩
            · have hB8 := (below_then HBW.out hbr).grown hg8 (Nat.le_trans HBW.out.size hbr.size) (fun j hj => by have := (HOWN.out.lt j hj).1; omega)
              exact ⟨hB8.os, hB8.tape, hB8.output, Nat.le_trans hB8.size (by simp), fun j hj => (set_far (by omega)).trans (hB8.block j hj)⟩
        · have d2 : ((er : Int) != 0) = true := by rw [bne_iff_ne]; omega
          go_wp2_with fail
          refine HP.out.mono ?_
          rintro e w2 ⟨Y, rfl, hY, hly, hb2⟩
          obtain ⟨Ay, cy, hgy⟩ := LN.shape hly
          have HB2 := Lib.hid (below_then HBW.out (below_lit hb2 (.cells #[.int .i64 Y.kind, .string (tx Y.text), .int .i64 Y.num, .int .i64 Y.at_, .slice Ay Y.l.length cy] 24)))
          unfold LN.val
          rw [hgy]
          clear hgy hly hY hb2
          go_wp2
          go_ret
          exact ⟨rfl, HB2.out⟩
      · obtain rfl : k = l.length := by omega
        rw [List.take_length] at hXb hok
        have hn0 := LN.natR (by decide) (LN.mk 4 [] 0 0 (.slice Av l.length cv) Xs) hlies
        rw [LN.bare_eq] at hn0
        have hn0 : NAt (Rd wr.heap.size wr) _ (.mk 4 [] 0 0 (Xs.map LN.bare)) [.int .i64 4, .string ⟨#[]⟩, .int .i64 0, .int .i64 0, .slice Av l.length cv] := hn0
        rw [hXb] at hn0
        have hn := nat_list (fun y hy => by obtain ⟨s, hs, rfl⟩ := List.mem_map.1 hy; exact par_may (hok s hs).1) hn0
        have hsm : Sm 1000000 (.mk 4 [] 0 0 (l.map fun s => (parR Lib.itoa s.data.toList).1)) := Sm.intro (Nat.zero_le _) (fun y hy => by
          obtain ⟨s, hs, rfl⟩ := List.mem_map.1 (show y ∈ l.map _ from hy)
          exact (par_small _).mono (by decide))
        have hjl := joinB_len l fun s hs => (hok s hs).2
        have h14 := list14 (it := Lib.itoa) (bsL l) (fun x hx => by obtain ⟨s, hs, rfl⟩ := List.mem_map.1 hx; exact (hok s hs).1) (.mk 4 [] 0 0 (l.map fun s => (parR Lib.itoa s.data.toList).1)) (by rw [Nd.un_eq]; show Nd.mk 4 [] 0 0 ((l.map _).map Nd.un) = _; rw [List.map_map]; unfold bsL; rw [List.map_map]; rfl) (40 :: joinB (bsL l)) rfl
        have hcat : tx (40 :: joinB (bsL l)) ++ (⟨#[41]⟩ : ByteArray) = tx (40 :: joinB (bsL l) ++ [41]) := by rw [show (⟨#[41]⟩ : ByteArray) = txt [41] from rfl, tx_txt, tx_txt, txt_app]
        have hts : (tx (40 :: joinB (bsL l))).size = (40 :: joinB (bsL l)).length := size_tx _
        have hSl : (40 :: joinB (bsL l)).length ≤ 4100 := by rw [List.length_cons]; omega
        have hpar := fun W L => parse14_rd (tx (40 :: joinB (bsL l) ++ [41])) (by rw [size_tx, List.length_append]; simp only [List.length_cons, List.length_nil] at hSl ⊢; omega) W L
        rw [tx_list] at hpar
        rw [List.take_length]
        generalize 40 :: joinB (bsL l) = S at *
        generalize (l.map fun s => (parR Lib.itoa s.data.toList).1) = ys at *
        have HM := Lib.hid (fun W (h : Below wr.heap.size wr W) => may_list ys _ W (NRd.mono h.size (NRd.low (Lo.below h (Nat.le_refl _)) hn)) hsm (LV.on (below_then HBW.out h)))
        have HN := Lib.hid hn
        have HCAT := Lib.hid hcat
        clear hXb hok hn0 hn hsm hjl hbox hlies hbw hcat
        rcases h14 with ⟨a1, a2⟩ | ⟨b1, b2, b3, b4⟩
        · rw [a1] at hpar
          generalize (parR Lib.itoa (S ++ [41])).1 = y at *
          generalize (parR Lib.itoa (S ++ [41])).2.1 = pl at *
          have HP := Lib.hid (hpar wr (LV.on HBW.out))
          have h1000 : mayB Lib.itoa (.mk 4 [] 0 0 ys) = true → decide ((1000 : Int) < ((tx S).size : Int)) = true := fun hm => by
            rw [decide_eq_true_eq, hts]
            rcases a2 with h | h
            · rw [h] at hm; cases hm
            · omega
          generalize mayB Lib.itoa (.mk 4 [] 0 0 ys) = mb at *
          clear hpar a1 a2
          cases mb with
          | true =>
            have d3 := h1000 rfl
            have d4 : decide ((1000 : Int) < (S.length : Int)) = true := by rw [← hts]; exact d3
            have d5 : decide (1000 < S.length) = true := by rw [decide_eq_true_eq] at d4 ⊢; omega
            clear h1000
            go_wp2_with fail
            rw [HCAT.out]
            refine HP.out.mono ?_
            rintro e w2 ⟨g, rfl, hy, hb2⟩
            obtain ⟨A2, c2, rfl⟩ := NAt.shape hy
            have hb3 := below_lit hb2 (.cells #[.int .i64 y.kind, .string (tx y.text), .int .i64 y.num, .int .i64 y.at_, .slice A2 y.l.length c2] 24)
            obtain ⟨n0, n1, n2, n3, n4⟩ := five_cells ((hb3.block _ (box_lt HBX.out)).trans HBX.out)
            have HB3 := Lib.hid hb3
            clear hb2 hb3 hy
            go_wp2_with (go_at_call 14; refine (HM.out _ HB3.out).mono ?_; rintro e w7 ⟨rfl, hb7⟩)
            go_ret
            exact ⟨rfl, below_then HBW.out (below_then HB3.out hb7)⟩
          | false =>
            clear h1000
            go_wp2_with fail
            rw [HCAT.out]
            refine HP.out.mono ?_
            rintro e w2 ⟨g, rfl, hy, hb2⟩
            obtain ⟨A2, c2, rfl⟩ := NAt.shape hy
            have hb3 := below_lit hb2 (.cells #[.int .i64 y.kind, .string (tx y.text), .int .i64 y.num, .int .i64 y.at_, .slice A2 y.l.length c2] 24)
            obtain ⟨n0, n1, n2, n3, n4⟩ := five_cells ((hb3.block _ (box_lt HBX.out)).trans HBX.out)
            have HB3 := Lib.hid hb3
            clear hb2 hb3 hy
            go_wp2_with (go_at_call 14; refine (HM.out _ HB3.out).mono ?_; rintro e w7 ⟨rfl, hb7⟩)
            go_ret
            exact ⟨rfl, below_then HBW.out (below_then HB3.out hb7)⟩
        · rw [b1, b2] at hpar
          rw [b4] at HM
          generalize (parR Lib.itoa (S ++ [41])).1 = y at *
          have HP := Lib.hid (hpar wr (LV.on HBW.out))
          have HU := Lib.hid b3
          rw [← hts] at HP
          clear hpar b1 b2 b3 b4
          go_wp2_with fail
          rw [HCAT.out]
          refine HP.out.mono ?_
          rintro e w2 ⟨g, rfl, hy, hb2⟩
          obtain ⟨A2, c2, rfl⟩ := NAt.shape hy
          have hb33 := below_new w2 (.cells #[.int .i64 y.kind, .string (tx y.text), .int .i64 y.num, .int .i64 y.at_, .slice A2 y.l.length c2] 24)
          have hb3 := below_then hb2 hb33
          obtain ⟨n0, n1, n2, n3, n4⟩ := five_cells ((hb3.block _ (box_lt HBX.out)).trans HBX.out)
          obtain ⟨q0, q1, q2, q3, q4⟩ := five_cells (heap_alloc_new w2 (.cells #[.int .i64 y.kind, .string (tx y.text), .int .i64 y.num, .int .i64 y.at_, .slice A2 y.l.length c2] 24))
          have HS5 := Lib.hid (same_list14 y _ ys _ HU.out _ (NRd.mono hb33.size (NRd.low (Lo.below hb33 (Nat.le_refl _)) hy)) (NRd.mono hb3.size (NRd.low (Lo.below hb3 (Nat.le_refl _)) HN.out)))
          have HB3 := Lib.hid hb3
          have hw4 : IntKind.i64.wrap (((tx S).size : Int) + 1) = ((tx S).size : Int) + 1 := by rw [IntKind.wrap_i64]; omega
          clear hb2 hb3 hy hb33
          go_wp2_with (first
            | (go_at_call 18; refine HS5.out.mono ?_; rintro e w7 ⟨rfl, hb7⟩; have hb8 := below_then HB3.out hb7; obtain ⟨r0, r1, r2, r3, r4⟩ := five_cells ((hb8.block _ (box_lt HBX.out)).trans HBX.out))
            | (go_at_call 14; refine (HM.out _ hb8).mono ?_; rintro e w9 ⟨rfl, hb9⟩))
          go_ret
          exact ⟨rfl, below_then HBW.out (below_then hb8 hb9)⟩
end Go.Proofs.YtceomdbahiimlaaDoor.T14
