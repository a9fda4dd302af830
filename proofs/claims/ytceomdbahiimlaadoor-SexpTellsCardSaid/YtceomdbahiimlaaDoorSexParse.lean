/-
  A text's node: sexp's Parse.
-/
import Derived.Test.YtceomdbahiimlaaDoorSexTake
import Derived.Test.YtceomdbahiimlaaDoorSexFacts
namespace Go.Proofs.YtceomdbahiimlaaDoor.T14
set_option maxRecDepth 100000

open Go.RowKit

theorem RSt.on {b K : Nat} {w w' : World} {g : Nat} {o : List LN} {wh : Option LN} (h : RSt b K w g o wh) (hb : Below w.heap.size w w') : RSt b K w' g o wh := by
  obtain ⟨⟨vo, q1, q2, q3⟩, q4⟩ := h
  exact ⟨⟨vo, (hb.block g (box_lt q1)).trans q1, q2.on hb, q3⟩, q4⟩
theorem Lies.less {b b' K : Nat} {w : World} {l : List Rw} (h : Lies b K w l) (hb : b' ≤ b) : Lies b' K w l := ⟨fun r hr => ⟨own_less (h.own r hr).1 hb, (h.own r hr).2⟩, h.apart⟩
theorem run_snoc {l : List T} {p q : Ps} {t : T} (h : runP l p = .ok q) : runP (l ++ [t]) p = match stepP t q with | .error e => .error (e, t.at_) | .ok x => .ok x := by
  rw [runP_append, h]
  show runP [t] q = _
  unfold runP
  cases stepP t q <;> rfl
theorem run_stops {l m : List T} {p q : Ps} {t : T} {e : Nat} (h : runP l p = .ok q) (hs : stepP t q = .error e) : runP (l ++ t :: m) p = .error (e, t.at_) := by
  rw [runP_append, h]
  show runP (t :: m) q = _
  unfold runP
  rw [hs]
/-- What Parse tells. -/
def ParPost (w : World) (r : Nd × Nat × Nat) (e : Ending) (w' : World) : Prop :=
  ∃ X : LN, e = .returned (.tuple #[X.val, .int .i64 r.2.1, .int .i64 r.2.2]) ∧ X.bare = r.1 ∧ Lies w.heap.size 1100 w' X.rows ∧ Below w.heap.size w w'
theorem zero_lies (b K : Nat) (w : World) : Lies b K w LN.zero.rows := by
  have e : LN.zero.rows = [rwN LN.zero] := by rw [LN.rows_eq]; simp [rowsL, LN.zero, LN.l]
  rw [e]
  refine ⟨fun r hr => ?_, by simp [blocks, rwN, LN.zero, LN.g, Value.ownBlock]⟩
  obtain rfl := List.mem_singleton.1 hr
  exact ⟨World.ownsRow_nil _ _ _ _, Nat.zero_le _⟩
theorem zero_bare : LN.zero.bare = Nd.zero := by rw [LN.bare_eq]; rfl
theorem drop_at_cons {α : Type} {l : List α} {k : Nat} {x : α} (h : l[k]? = some x) : l.drop k = x :: l.drop (k + 1) := by
  obtain ⟨hk, hx⟩ := List.getElem?_eq_some_iff.1 h
  rw [List.drop_eq_getElem_cons hk, hx]
theorem node_filled {w : World} {g : Nat} {u0 u1 u2 u3 u4 : Value} (h : w.heap[g]? = some (.cells #[u0, u1, u2, u3, u4] 24 (0, 0))) (a b c d e : Value) :
    (((((w.setCell ⟨g, 0, none⟩ a).setCell ⟨g, 1, none⟩ b).setCell ⟨g, 2, none⟩ c).setCell ⟨g, 3, none⟩ d).setCell ⟨g, 4, none⟩ e).heap[g]? = some (.cells #[a, b, c, d, e] 24 (0, 0)) ∧
    w.grownBy (((((w.setCell ⟨g, 0, none⟩ a).setCell ⟨g, 1, none⟩ b).setCell ⟨g, 2, none⟩ c).setCell ⟨g, 3, none⟩ d).setCell ⟨g, 4, none⟩ e) (some g) := by
  have h1 := heap_setCell_same w g 0 _ _ a h
  have h2 := heap_setCell_same _ g 1 _ 24 b h1
  have h3 := heap_setCell_same _ g 2 _ 24 c h2
  have h4 := heap_setCell_same _ g 3 _ 24 d h3
  have h5 := heap_setCell_same _ g 4 _ 24 e h4
  simp only [List.setIfInBounds_toArray, List.set_cons_succ, List.set_cons_zero] at h5
  refine ⟨h5, ⟨by simp only [World.setCell], by simp only [World.setCell], by simp only [World.setCell], by simp, fun k _ hk => ?_⟩⟩
  have hne : g ≠ k := fun e => hk (by rw [e])
  rw [set_far hne, set_far hne, set_far hne, set_far hne, set_far hne]
/-- The results: a node that lies in a box, a place, an error. -/
theorem results_nd {fn : Func} {p u v : Tmp} (h : fn.results = #[.cell p 24, .tmp u, .tmp v]) (tmps : Array Value) (w : World) (g : Nat)
    (hp : tmps.getD p undef = .pointer (some ⟨g, 0, none⟩)) {a b c d e : Value} (hg : w.heap[g]? = some (.cells #[a, b, c, d, e] 24 (0, 0))) :
    (results fn tmps).run Tryd.prog w = .ok (.tuple #[.agg #[a, b, c, d, e], tmps.getD u undef, tmps.getD v undef]) w := by
  have hp' : tmps[p]?.getD undef = .pointer (some ⟨g, 0, none⟩) := by simpa using hp
  simp [results, h, hp', asAddr, run_loadVar_row w g 24 24 #[a, b, c, d, e] (0, 0) _ hg Tryd.underlying24 rfl sz_node, Sem.run_bind, Result.andThen]
set_option maxRecDepth 1000000 in
set_option maxHeartbeats 4000000 in
theorem parse14_any (s : ByteArray) (hs : s.size ≤ 1000000) (w : World) (LV : Laid w) :
    Calls Tryd.prog 11 #[.string s] w (ParPost w (parR Lib.itoa s.data.toList)) := by
  have hB0 := below_new w (.cells #[.int .i64 0, .string ⟨#[]⟩, .int .i64 0, .int .i64 0, .slice none 0 0] 24)
  have hN0 := heap_alloc_new w (.cells #[.int .i64 0, .string ⟨#[]⟩, .int .i64 0, .int .i64 0, .slice none 0 0] 24)
  obtain ⟨w1, hw1⟩ : ∃ x, x = w.alloc (.cells #[.int .i64 0, .string ⟨#[]⟩, .int .i64 0, .int .i64 0, .slice none 0 0] 24) := ⟨_, rfl⟩
  rw [← hw1] at hB0 hN0
  have HA := Lib.hid (all_any s hs w1 (LV.on hB0))
  have hsl : s.data.toList.length = s.size := by simp
  have HR : Hid (parR Lib.itoa s.data.toList = if allE Lib.itoa s.data.toList ≠ 0 then (Nd.zero, allAt Lib.itoa s.data.toList, allE Lib.itoa s.data.toList) else endP s.size (runP (allT Lib.itoa s.data.toList) ⟨[], none⟩)) := Lib.hid (by unfold parR; rw [hsl])
  have hTl : (allT Lib.itoa s.data.toList).length ≤ 1000 := by
    rcases all_cases (it := Lib.itoa) s.data.toList with ⟨_, _, h, _⟩ | ⟨h, _⟩
    · exact h
    · rw [h]; simp
  generalize parR Lib.itoa s.data.toList = PR at *
  generalize allT Lib.itoa s.data.toList = TT at *
  generalize allAt Lib.itoa s.data.toList = AA at *
  generalize allE Lib.itoa s.data.toList = EE at *
  clear hsl
  go_enter Tryd.func11, Tryd.ntmps11
  go_wp2_with fail
  rw [← hw1]
  refine HA.out.mono ?_
  rintro e w2 ⟨v, rfl, hown, hB2⟩
  by_cases hE : EE = 0
  · have hEn : ((EE : Int) != 0) = false := by simp [hE]
    obtain ⟨A, c, rfl, hT⟩ := SlT.of_own hown
    have hB02 : Below w.heap.size w w2 := hB0.trans (hB2.mono hB0.size)
    have hz : w2.heap[w.heap.size]? = some (.cells #[.int .i64 0, .string ⟨#[]⟩, .int .i64 0, .int .i64 0, .slice none 0 0] 24 (0, 0)) := (hB2.block _ (box_lt hN0)).trans hN0
    have hzw := box_lt hz
    have hR0 := heap_alloc_new w2 (.cells #[.int .i64 0, .slice none 0 0, .int .i64 0, .string ⟨#[]⟩, .int .i64 0, .int .i64 0, .slice none 0 0] 43)
    have hRB := below_new w2 (.cells #[.int .i64 0, .slice none 0 0, .int .i64 0, .string ⟨#[]⟩, .int .i64 0, .int .i64 0, .slice none 0 0] 43)
    have hS0 : RSt w2.heap.size 0 (w2.alloc (.cells #[.int .i64 0, .slice none 0 0, .int .i64 0, .string ⟨#[]⟩, .int .i64 0, .int .i64 0, .slice none 0 0] 43)) w2.heap.size [] none := by
      refine ⟨⟨.slice none 0 0, hR0, ⟨fun r hr => ?_, by simp [rowsP, rowsL, blocks, rwO, Value.ownBlock]⟩, by simp [rowsP, rowsL, blocks, rwO, Value.ownBlock]⟩, Nat.le_refl _⟩
      obtain rfl : r = rwO (.slice none 0 0) [] := by simpa [rowsP, rowsL] using hr
      exact ⟨World.ownsRow_nil _ _ _ _, Nat.le_refl _⟩
    obtain ⟨b, hbq⟩ : ∃ b, b = w2.heap.size := ⟨_, rfl⟩
    have HT := Lib.hid hT
    have HZ := Lib.hid (And.intro hz (And.intro hB02 hbq))
    have HS0 := Lib.hid (And.intro hS0 hRB)
    obtain ⟨n, hn⟩ : ∃ n, TT.length = n := ⟨_, rfl⟩
    have HN := Lib.hid hn
    rw [hn] at hTl
    clear hT hz hB02 hR0 hRB hS0 hown hzw hn
    go_wp2_with fail
    rw [HN.out, ← hbq]
    go_loopw [26] (fun i wr => ∃ (k : Nat) (o : List LN) (wh : Option LN), i = .int .i64 k ∧ k ≤ n ∧ runP (TT.take k) ⟨[], none⟩ = .ok (psOf o wh) ∧ RSt b k wr b o wh ∧ Below b w2 wr) (fun i _ => n - (intOf i).toNat)
    case atStart => exact ⟨0, [], none, rfl, Nat.zero_le _, rfl, hbq ▸ HS0.out.1, hbq ▸ HS0.out.2⟩
    case round =>
      obtain ⟨k, o, wh, rfl, hk, hrun, hS, hB⟩ := hrel
      obtain ⟨hz, hB02, -⟩ := HZ.out
      have hwb : w.heap.size < b := by rw [hbq]; exact box_lt hz
      have hzr := (hB.block _ hwb).trans hz
      by_cases hlt : k < n
      · have d1 : (k : Int) < (n : Int) := by omega
        obtain ⟨ad, t, hA, hadb, ht, t0, t1, t2, t3⟩ := SlT.at_ HT.out (show k < TT.length by rw [HN.out]; exact hlt)
        rw [← hbq] at hadb
        have s0 := (hB.cell (p := ad.add (k * 4)) (by rw [add_same_block]; exact hadb)).trans t0
        have s1 := (hB.cell (p := ⟨(ad.add (k * 4)).block, (ad.add (k * 4)).off + 1, none⟩) (by show (ad.add (k * 4)).block < b; rw [add_same_block]; exact hadb)).trans t1
        have s2 := (hB.cell (p := ⟨(ad.add (k * 4)).block, (ad.add (k * 4)).off + 2, none⟩) (by show (ad.add (k * 4)).block < b; rw [add_same_block]; exact hadb)).trans t2
        have s3 := (hB.cell (p := ⟨(ad.add (k * 4)).block, (ad.add (k * 4)).off + 3, none⟩) (by show (ad.add (k * 4)).block < b; rw [add_same_block]; exact hadb)).trans t3
        subst hA
        obtain ⟨tb, htb⟩ : ∃ tb, tb = wr.heap.size := ⟨_, rfl⟩
        obtain ⟨w4, hw4⟩ : ∃ x, x = wr.alloc (.cells #[.int .i64 t.kind, .string (txt t.text), .int .i64 t.num, .int .i64 t.at_] 45) := ⟨_, rfl⟩
        have hB4 : Below wr.heap.size wr w4 := by rw [hw4]; exact below_new _ _
        have hX4 : w4.heap[tb]? = some (.cells #[.int .i64 t.kind, .string (txt t.text), .int .i64 t.num, .int .i64 t.at_] 45 (0, 0)) := by rw [hw4, htb]; exact heap_alloc_new _ _
        have hbr : b ≤ wr.heap.size := hbq ▸ hB.size
        have HTK := Lib.hid (take_any b k b t o wh w4 (Nat.le_trans hbr hB4.size) (by omega) (hS.on hB4))
        have HB4 := Lib.hid (And.intro hB4 (And.intro hX4 (And.intro hbr hB)))
        have HST := Lib.hid (And.intro hrun ht)
        have HZR := Lib.hid (And.intro hzr (And.intro hB02 hwb))
        clear hB4 hX4 hbr hB hrun ht hzr hB02 hwb hS hz t0 t1 t2 t3 hadb hbq
        go_wp2_with fail
        rw [← hw4]
        clear s0 s1 s2 s3 hw4
        refine HTK.out.mono ?_
        rintro e w5 (⟨x, p1, rfl, p3⟩ | ⟨o', wh', p1, rfl, p3, p4⟩)
        · have hx0 : ((x : Int) != 0) = true := bne_iff_ne.2 (by have := step_err p1; omega)
          have c3 : w5.cell? ⟨tb, 3, none⟩ = some (.int .i64 t.at_) := (p3.cell (box_lt HB4.out.2.1)).trans (box_cell HB4.out.2.1 3)
          have hz5 : w5.heap[w.heap.size]? = some (.cells #[.int .i64 0, .string ⟨#[]⟩, .int .i64 0, .int .i64 0, .slice none 0 0] 24 (0, 0)) := (p3.block _ (by have := HB4.out.1.size; have := HB4.out.2.2.1; have := HZR.out.2.2; omega)).trans ((HB4.out.1.block _ (by have := HB4.out.2.2.1; have := HZR.out.2.2; omega)).trans HZR.out.1)
          have hB5 : Below w.heap.size w w5 := HZR.out.2.1.trans ((HB4.out.2.2.2.mono (by have := HZR.out.2.2; omega)).trans ((HB4.out.1.mono (by have := HB4.out.2.2.1; have := HZR.out.2.2; omega)).trans (p3.mono (by have := HB4.out.1.size; have := HB4.out.2.2.1; have := HZR.out.2.2; omega))))
          have hne5 : tb ≠ w.heap.size := by have := HB4.out.2.2.1; have := HZR.out.2.2; omega
          rw [htb] at c3 hne5
          obtain ⟨q1, q2⟩ := node_filled (w := w5.drew) hz5 (.int .i64 0) (.string ⟨#[]⟩) (.int .i64 0) (.int .i64 0) (.slice none 0 0)
          have hB6 := (Below.drew hB5).trans (below_own q2 (Nat.le_refl _) (Below.drew hB5).size)
          obtain ⟨z0, z1, z2, z3, z4⟩ := five_cells hz5
          have zf := box_froz hz5
          go_wp2_with fail
          refine wp_region_held_drew (S := fun wx => wx.cell? ⟨wr.heap.size, 3, none⟩ = some (.int .i64 t.at_)) (by kernel_rfl) c3 (fun hHeld => ?_)
          refine wpAnyH_take (i := 0) (oi := { dst := some 34, op := Go.Op.build 24 #[], type := 24, pos := "sexp.go:42", after := #[], guard := none }) (v := ?_) rfl (by kernel_rfl) (by kernel_rfl) (by kernel_rfl) (fun _ _ _ h => h) (Or.inl ⟨by rfl, ?_⟩) hHeld ?_
          rotate_left
          · intro w hSw
            (try dsimp only at hSw)
            go_simp
            all_goals with_reducible rfl
          (try simp only [Act.put, List.setIfInBounds_toArray, List.set_cons_zero, List.set_cons_succ])
          refine wpAnyH_take (i := 1) (oi := { dst := some 35, op := Go.Op.fieldAddr 45 (Go.Operand.tmp 10) 3, type := 0, pos := "sexp.go:42", after := #[{ on := 4, ground := Go.Ground.gcOnly Go.Departure.lateStores }], guard := none }) (v := ?_) rfl (by kernel_rfl) (by kernel_rfl) (by kernel_rfl) (fun _ _ _ h => h) (Or.inl ⟨by rfl, ?_⟩) hHeld ?_
          rotate_left
          · intro w hSw
            (try dsimp only at hSw)
            go_simp
            all_goals with_reducible rfl
          (try simp only [Act.put, List.setIfInBounds_toArray, List.set_cons_zero, List.set_cons_succ])
          refine wpAnyH_take (i := 2) (oi := { dst := some 36, op := Go.Op.load 3 (Go.Operand.tmp 35), type := 3, pos := "sexp.go:42", after := #[{ on := 1, ground := Go.Ground.data }, { on := 4, ground := Go.Ground.gcOnly Go.Departure.lateStores }], guard := none }) (v := ?_) rfl (by kernel_rfl) (by kernel_rfl) (by kernel_rfl) (fun _ _ _ h => h) (Or.inl ⟨by rfl, ?_⟩) hHeld ?_
          rotate_left
          · intro w hSw
            (try dsimp only at hSw)
            go_simp
            all_goals with_reducible rfl
          (try simp only [Act.put, List.setIfInBounds_toArray, List.set_cons_zero, List.set_cons_succ])
          refine wpAnyH_take (i := 3) (oi := { dst := some 37, op := Go.Op.move (Go.Operand.tmp 11), type := 27, pos := "sexp.go:42", after := #[{ on := 5, ground := Go.Ground.gcOnly Go.Departure.lateStores }], guard := none }) (v := ?_) rfl (by kernel_rfl) (by kernel_rfl) (by kernel_rfl) (fun _ _ _ h => h) (Or.inl ⟨by rfl, ?_⟩) hHeld ?_
          rotate_left
          · intro w hSw
            (try dsimp only at hSw)
            go_simp
            all_goals with_reducible rfl
          (try simp only [Act.put, List.setIfInBounds_toArray, List.set_cons_zero, List.set_cons_succ])
          refine wpAnyH_ready (rs := [4]) (by kernel_rfl) (by simp) ?_
          refine AllReadyH.cons (o := { dst := none, op := Go.Op.store 24 (Go.Operand.tmp 2) (Go.Operand.tmp 34), type := 0, pos := "sexp.go:42", after := #[{ on := 0, ground := Go.Ground.data }, { on := 0, ground := Go.Ground.phase }, { on := 1, ground := Go.Ground.textOnly Go.Departure.lateStores }, { on := 2, ground := Go.Ground.textOnly Go.Departure.lateStores }, { on := 3, ground := Go.Ground.textOnly Go.Departure.lateStores }], guard := none }) rfl (fun K hK => ?_) AllReadyH.nil
          go_simp
          refine hK.out _ _ (q2.cell c3 (fun e => hne5 (Option.some.inj e))) (fun hHeld => ?_)
          clear hK K
          (try simp only [Act.put, List.setIfInBounds_toArray, List.set_cons_zero, List.set_cons_succ])
          refine wpAnyH_take (i := 5) (oi := { dst := some 3, op := Go.Op.assign (Go.Operand.tmp 36), type := 3, pos := "sexp.go:42", after := #[{ on := 2, ground := Go.Ground.data }, { on := 4, ground := Go.Ground.chain }, { on := 0, ground := Go.Ground.phase }, { on := 1, ground := Go.Ground.phase }, { on := 2, ground := Go.Ground.phase }, { on := 3, ground := Go.Ground.textOnly Go.Departure.lateStores }, { on := 4, ground := Go.Ground.phase }], guard := none }) (v := ?_) rfl (by kernel_rfl) (by kernel_rfl) (by kernel_rfl) (fun _ _ _ h => h) (Or.inl ⟨by rfl, ?_⟩) hHeld ?_
          rotate_left
          · intro w hSw
            (try dsimp only at hSw)
            go_simp
            all_goals with_reducible rfl
          (try simp only [Act.put, List.setIfInBounds_toArray, List.set_cons_zero, List.set_cons_succ])
          refine wpAnyH_take (i := 6) (oi := { dst := some 4, op := Go.Op.assign (Go.Operand.tmp 37), type := 27, pos := "sexp.go:42", after := #[{ on := 3, ground := Go.Ground.data }, { on := 5, ground := Go.Ground.chain }, { on := 0, ground := Go.Ground.phase }, { on := 1, ground := Go.Ground.phase }, { on := 2, ground := Go.Ground.phase }, { on := 3, ground := Go.Ground.phase }, { on := 4, ground := Go.Ground.phase }, { on := 5, ground := Go.Ground.phase }], guard := none }) (v := ?_) rfl (by kernel_rfl) (by kernel_rfl) (by kernel_rfl) (fun _ _ _ h => h) (Or.inl ⟨by rfl, ?_⟩) hHeld ?_
          rotate_left
          · intro w hSw
            (try dsimp only at hSw)
            go_simp
            all_goals with_reducible rfl
          (try simp only [Act.put, List.setIfInBounds_toArray, List.set_cons_zero, List.set_cons_succ])
          refine wpAnyH_done (by kernel_rfl) ?_ _
          go_wp2
          refine bodyPost_ret (results_nd rfl _ _ w.heap.size rfl q1) rfl ?_
          have hPR : PR = (Nd.zero, t.at_, x) := by
            rw [HR.out, if_neg (by omega)]
            have e1 : TT = TT.take k ++ t :: TT.drop (k + 1) := by
              rw [← drop_at_cons HST.out.2, List.take_append_drop]
            rw [e1, run_stops HST.out.1 p1]
            rfl
          exact ⟨LN.zero, by rw [hPR]; rfl, by rw [hPR]; exact zero_bare, zero_lies _ _ _, hB6⟩
        · have p5 : RSt b (k + 1) w5 b o' wh' := p3
          go_wp2_with fail
          go_roundw
          case rel => exact ⟨k + 1, o', wh', rfl, hlt, by rw [List.take_add_one, HST.out.2]; exact (run_snoc HST.out.1).trans (by rw [p1]), p5, HB4.out.2.2.2.trans ((HB4.out.1.mono HB4.out.2.2.1).trans p4)⟩
          case measure => simp only [intOf]; omega
      · have d1 : ¬ (k : Int) < (n : Int) := by omega
        obtain rfl : k = n := by omega
        rw [List.take_of_length_le (by rw [HN.out]; exact Nat.le_refl _)] at hrun
        have hX := hS.lay.choose_spec.1
        obtain ⟨a0, a1, a2, a3, a4, a5, a6⟩ := seven_cells hX
        obtain ⟨z0, z1, z2, z3, z4⟩ := five_cells hzr
        have zf := box_froz hzr
        have hB3 : Below w.heap.size w wr := hB02.trans (hB.mono (Nat.le_of_lt hwb))
        cases wh with
        | none =>
          have e2 : (stN o none == 2) = false := by unfold stN; cases o <;> rfl
          have e2' : (stN o none != 2) = true := by unfold stN; cases o <;> rfl
          obtain ⟨st, hst⟩ : ∃ st, stN o none = st := ⟨_, rfl⟩
          rw [hst] at a0 e2 e2'
          obtain ⟨q1, q2⟩ := node_filled hzr (.int .i64 0) (.string ⟨#[]⟩) (.int .i64 0) (.int .i64 0) (.slice none 0 0)
          have hB6 := hB3.trans (below_own q2 (Nat.le_refl _) hB3.size)
          clear a1 a2 a3 a4 a5 a6 hX hzr hbq hst
          go_wp2_with fail
          refine bodyPost_ret (results_nd rfl _ _ w.heap.size rfl q1) rfl ?_
          have hPR : PR = (Nd.zero, s.size, 4) := by rw [HR.out, if_neg (by omega), hrun]; rfl
          exact ⟨LN.zero, by rw [hPR]; rfl, by rw [hPR]; exact zero_bare, zero_lies _ _ _, hB6⟩
        | some x =>
          have e0 : stN o (some x) = 2 := rfl
          rw [e0] at a0
          have hL := hS.lay.choose_spec.2.1
          have hxr : Lies b k wr x.rows := by
            have h1 := hL.head.2.right
            simpa [rowsL] using h1
          obtain ⟨Ax, cx, hxg, -⟩ := Sl.of_own (hxr.own (rwN x) (by rw [LN.rows_eq]; simp)).1
          have hxg : x.g = .slice Ax x.l.length cx := hxg
          rw [show (some x : Option LN).getD LN.zero = x from rfl] at a2 a3 a4 a5 a6
          obtain ⟨xl, hxl⟩ : ∃ xl, x.l.length = xl := ⟨_, rfl⟩
          rw [hxl] at hxg
          rw [hxg] at a6
          obtain ⟨q1, q2⟩ := node_filled hzr (.int .i64 x.kind) (.string (tx x.text)) (.int .i64 x.num) (.int .i64 x.at_) (.slice Ax xl cx)
          have hB6 := hB3.trans (below_own q2 (Nat.le_refl _) hB3.size)
          have hnb : ∀ j ∈ blocks x.rows, j ≠ w.heap.size := fun j hj e => by have := (hxr.old hj).1; omega
          have hxr6 := (hxr.kept fun j hj => q2.block j (hxr.old hj).2 (fun e => hnb j hj (Option.some.inj e))).less (b' := w.heap.size) (Nat.le_of_lt hwb) |>.more (K' := 1100) (by omega)
          have HF := Lib.hid (And.intro hxr6 (And.intro hB6 (And.intro hxg hrun)))
          clear a1 hX hzr hL hxr hxg hxl hxr6 hB6 hnb hB3 e0 hrun hS hbq
          go_wp2_with fail
          refine bodyPost_ret (results_nd rfl _ _ w.heap.size rfl q1) rfl ?_
          obtain ⟨f1, f2, f3, f4⟩ := HF.out
          have hPR : PR = (x.bare, s.size, 0) := by rw [HR.out, if_neg (by omega), f4]; rfl
          exact ⟨x, by rw [hPR]; unfold LN.val; rw [f3]; rfl, by rw [hPR], f1, f2⟩
  · have hEn : ((EE : Int) != 0) = true := bne_iff_ne.2 (by omega)
    have hz : w2.heap[w.heap.size]? = some (.cells #[.int .i64 0, .string ⟨#[]⟩, .int .i64 0, .int .i64 0, .slice none 0 0] 24 (0, 0)) := (hB2.block _ (box_lt hN0)).trans hN0
    obtain ⟨z0, z1, z2, z3, z4⟩ := five_cells hz
    have zf := box_froz hz
    obtain ⟨A, c, rfl, hT⟩ := SlT.of_own hown
    obtain ⟨q1, q2⟩ := node_filled hz (.int .i64 0) (.string ⟨#[]⟩) (.int .i64 0) (.int .i64 0) (.slice none 0 0)
    have hB3 := (hB0.trans (hB2.mono hB0.size)).trans (below_own q2 (Nat.le_refl _) (Nat.le_trans hB0.size hB2.size))
    clear hz hown hT
    go_wp2_with fail
    refine bodyPost_ret (results_nd rfl _ _ w.heap.size rfl q1) rfl ?_
    refine ⟨LN.zero, ?_, ?_, zero_lies _ _ _, hB3⟩
    · rw [HR.out, if_pos hE]; rfl
    · rw [HR.out, if_pos hE]; exact zero_bare
end Go.Proofs.YtceomdbahiimlaaDoor.T14
