/-
  All records from one place to another one: the contract of the function that ranges over what is handed on.
-/
import Derived.Test.YtpaggpcpflmpcaaDoorRecEach
namespace Go.Proofs.YtpaggpcpflmpcaaDoor
open Go.RowKit Go.Shelf

attribute [local go_sem] Oper.semAt_some

theorem recsF_len (l : List UInt8) (u : Nat) : ∀ f a, (recsF l u f a).1.length ≤ f
  | 0, _ => by simp [recsF]
  | f + 1, a => by
    unfold recsF
    split
    · split
      · have := recsF_len l u f (nextR l a u).2.1
        simp only [List.length_cons]
        omega
      · simp
    · simp
theorem recs_len (l : List UInt8) (u a : Nat) : (recs l u a).1.length ≤ u - a := recsF_len l u _ _
theorem pairs_len (l : List UInt8) (u a : Nat) : (pairsR (recs l u a)).length ≤ u - a + 1 := by
  have := recs_len l u a
  unfold pairsR
  rw [List.length_append, List.length_map]
  split <;> simp <;> omega
theorem pairs_done {X : List Rc × Nat} (h : ∀ y ∈ pairsR X, y.2 = 0) : X.2 = 0 ∧ (pairsR X).map (·.1) = X.1 := by
  unfold pairsR at *
  by_cases h0 : X.2 = 0
  · exact ⟨h0, by simp [h0, Function.comp_def]⟩
  · rw [if_neg h0] at h
    have := h (Rc.zero, X.2) (by simp)
    exact absurd this h0
theorem pairs_left {X : List Rc × Nat} {pre : List (Rc × Nat)} {z : Rc × Nat} (h : pre ++ [z] <+: pairsR X) (h0 : z.2 ≠ 0) : X.2 = z.2 ∧ pre.map (·.1) = X.1 := by
  obtain ⟨t, ht⟩ := h
  unfold pairsR at ht
  have hmem : z ∈ pre ++ [z] ++ t := by simp
  rw [ht] at hmem
  rcases List.mem_append.1 hmem with hm | hm
  · obtain ⟨r, _, hr⟩ := List.mem_map.1 hm
    rw [← hr] at h0
    exact absurd rfl h0
  · by_cases hX : X.2 = 0
    · rw [if_pos hX] at hm; simp at hm
    · rw [if_neg hX] at hm ht
      obtain rfl : z = (Rc.zero, X.2) := by simpa using hm
      refine ⟨rfl, ?_⟩
      -- the place of the error is the last one
      rcases Nat.lt_or_ge pre.length X.1.length with hlt | hge
      · have h1 : (pre ++ [(Rc.zero, X.2)] ++ t)[pre.length]? = some (Rc.zero, X.2) := by simp
        rw [ht, List.getElem?_append_left (by simpa using hlt), List.getElem?_map] at h1
        obtain ⟨r, _, hr⟩ := Option.map_eq_some_iff.1 h1
        have hs := congrArg Prod.snd hr
        exact absurd hs.symm h0
      · have hl := congrArg List.length ht
        simp only [List.length_append, List.length_map, List.length_cons, List.length_nil] at hl
        have h2 : t = [] := List.eq_nil_of_length_eq_zero (by omega)
        subst h2
        rw [List.append_nil] at ht
        have h3 := List.append_inj ht (by simp only [List.length_map]; omega)
        rw [h3.1, List.map_map]
        simp [Function.comp_def]

theorem Kept.set {n m k b : Nat} (W : World) (v : Value) (hn : n ≤ b) (hm : b < m) : Kept n m k W (W.setCell ⟨b, 0, none⟩ v) :=
  ⟨(Below.refl _ _).setCell (p := ⟨b, 0, none⟩) hn _, fun j hj _ => Below.heap_setCell _ _ _ j (fun e => by have : j = b := e; omega)⟩
theorem own_set {W : World} {B : Nat} {t e : TypeId} {u v x : Value} {base size k : Nat} {xs : List Value} (h : W.ownsRow base e size v k xs) (hb : Boxed W B t u) (hte : t ≠ e) : (W.setCell ⟨B, 0, none⟩ x).ownsRow base e size v k xs :=
  h.kept (grownBy_setCell' W B x) (.inr (hb.not_row hte h).symm)
/-- What a box of another type holds it holds behind an append onto a row of the call's own. -/
theorem boxed_past {W w1 : World} {B : Nat} {t e : TypeId} {u v : Value} {base size k : Nat} {xs : List Value} {tmp : Obj} (hb : Boxed W B t u) (hte : t ≠ e) (h : W.ownsRow base e size v k xs) (hg : (W.alloc tmp).grownBy w1 v.ownBlock) : Boxed w1 B t u :=
  (hb.alloc tmp).kept hg (hb.not_row hte h)

/-- Between two rounds: what has come lies in the slice that is gathered. -/
def AllI (w W0 : World) (pre : List (Rc × Nat)) (W : World) : Prop :=
  ((∀ y ∈ pre, y.2 = 0) ∧ ((∃ v, Boxed W (w.heap.size + 1 + 1) 30 v ∧ W.ownsRow w.heap.size 25 5 v pre.length (rs (pre.map (·.1))) ∧ True) ∧ (Boxed W w.heap.size 30 (.slice none 0 0) ∧ Boxed W (w.heap.size + 1) 27 (.int .i64 0)))) ∧ Kept w.heap.size (w.heap.size + 3) (w.heap.size + 6) W0 W
theorem AllI.mk {w W0 W : World} {pre : List (Rc × Nat)} (h : ((∀ y ∈ pre, y.2 = 0) ∧ ((∃ v, Boxed W (w.heap.size + 1 + 1) 30 v ∧ W.ownsRow w.heap.size 25 5 v pre.length (rs (pre.map (·.1))) ∧ True) ∧ (Boxed W w.heap.size 30 (.slice none 0 0) ∧ Boxed W (w.heap.size + 1) 27 (.int .i64 0)))) ∧ Kept w.heap.size (w.heap.size + 3) (w.heap.size + 6) W0 W) : AllI w W0 pre W := h
theorem AllI.own {w W0 : World} (h : W0.heap.size = w.heap.size + 6) : OwnFrom W0.heap.size (AllI w W0) :=
  OwnFrom.and (OwnFrom.and (ownFrom_pure _ (fun pre : List (Rc × Nat) => ∀ y ∈ pre, y.2 = 0)) (OwnFrom.and (Own.from (holdsRow_own w.heap.size (w.heap.size + 1 + 1) 30 25 5 (fun pre : List (Rc × Nat) => pre.length) (fun pre => rs (pre.map (·.1))) (fun _ _ => True)) _) (OwnFrom.and (Own.from (boxed_own _ _ (fun _ => .slice none 0 0)) _) (Own.from (boxed_own _ _ (fun _ => .int .i64 0)) _)))) (Kept.own (by omega) (by omega))
/-- A round has left: what had come, and an error. -/
def AllIx (w W0 : World) (cd : Code) (pre : List (Rc × Nat)) (W : World) : Prop :=
  (cd = .ret ∧ ∃ pre' z, pre = pre' ++ [z] ∧ z.2 ≠ 0 ∧ ((∃ v, Boxed W w.heap.size 30 v ∧ W.ownsRow w.heap.size 25 5 v pre'.length (rs (pre'.map (·.1))) ∧ True) ∧ Boxed W (w.heap.size + 1) 27 (.int .i64 z.2))) ∧ Kept w.heap.size (w.heap.size + 3) (w.heap.size + 6) W0 W
theorem AllIx.mk {w W0 W : World} {cd : Code} {pre : List (Rc × Nat)} (h : (cd = .ret ∧ ∃ pre' z, pre = pre' ++ [z] ∧ z.2 ≠ 0 ∧ ((∃ v, Boxed W w.heap.size 30 v ∧ W.ownsRow w.heap.size 25 5 v pre'.length (rs (pre'.map (·.1))) ∧ True) ∧ Boxed W (w.heap.size + 1) 27 (.int .i64 z.2))) ∧ Kept w.heap.size (w.heap.size + 3) (w.heap.size + 6) W0 W) : AllIx w W0 cd pre W := h
theorem AllIx.own {w W0 : World} (h : W0.heap.size = w.heap.size + 6) (cd : Code) : OwnFrom W0.heap.size (AllIx w W0 cd) :=
  OwnFrom.and (fun s X Y row hs hg hr => by
    obtain ⟨rfl, pre', z, hp, hz, hh, hb⟩ := hs
    exact ⟨rfl, pre', z, hp, hz, holdsRow_own w.heap.size w.heap.size 30 25 5 (fun pre : List (Rc × Nat) => pre.length) (fun pre => rs (pre.map (·.1))) (fun _ _ => True) pre' X Y row hh hg (fun r e => (hr r e).2),
      boxed_own _ _ (fun (_ : Unit) => Value.int .i64 z.2) () X Y row hb hg (fun r e => (hr r e).2)⟩) (Kept.own (by omega) (by omega))

/-- Both ways out end so: the two results lie in their boxes. -/
theorem all_out {w W : World} {D n c' : Nat} {A' : Option Addr} {X : List Rc × Nat} {tmps : Array Value} (hn : n = X.1.length)
    (t6 : tmps.getD 6 undef = .pointer (some ⟨w.heap.size, 0, none⟩)) (t7 : tmps.getD 7 undef = .pointer (some ⟨w.heap.size + 1, 0, none⟩))
    (h6 : Boxed W w.heap.size 30 (.slice A' n c')) (h7 : Boxed W (w.heap.size + 1) 27 (.int .i64 X.2)) (hown : W.ownsRow w.heap.size 25 5 (.slice A' n c') n (rs X.1))
    (hK : W.heap[D]? = some (.deferred (some []))) (hD : w.heap.size ≤ D) (hb : Below w.heap.size w W) :
    bodyPostM Fence.wide 4 Tryd.prog Tryd.f12 (fun e w' => ∃ A' c', e = .returned (.tuple #[.slice A' X.1.length c', .int .i64 X.2]) ∧ SlR w' A' c' X.1 ∧ Below w.heap.size w w') .ret { tmps := tmps, defers := [{ target := Target.collected D, args := #[] }] } W := by
  subst hn
  refine ⟨by simp [Fence.wide], .inl ⟨_, _, rfl, run_takeDeferred hK, ?_⟩⟩
  have c6 := cell_kept h6.cell (grownBy_putObj' W D (.deferred none)) (fun r e => by cases e; exact ⟨_, hK, rfl⟩)
  have c7 := cell_kept h7.cell (grownBy_putObj' W D (.deferred none)) (fun r e => by cases e; exact ⟨_, hK, rfl⟩)
  have t6' : tmps[6]?.getD undef = .pointer (some ⟨w.heap.size, 0, none⟩) := by simpa using t6
  have t7' : tmps[7]?.getD undef = .pointer (some ⟨w.heap.size + 1, 0, none⟩) := by simpa using t7
  refine ⟨.tuple #[.slice A' X.1.length c', .int .i64 X.2], ?_, A', c', rfl, ?_, hb.trans (belowK_b (w := w) (Nat.le_refl _) W D _ _ hD hK rfl rfl)⟩
  · simp [results, Tryd.f12, go_sem, t6', t7', c6, c7]
  · obtain ⟨A2, c2, hv, hr⟩ := SlR.of_own (ownsRow_putObj hown (.deferred none) hK rfl)
    cases hv
    exact hr

set_option maxRecDepth 1000000 in
set_option maxHeartbeats 4000000 in
theorem all_in (A : Option Addr) (c : Nat) (l : List UInt8) (a u : Nat) (hl : l.length ≤ 1000000) (hau : a ≤ u) (hul : u ≤ l.length) (w : World) (h1 : SlB w A c l) (T : Wires w) :
    CallsIn Fence.wide 4 Tryd.prog 12 #[.slice A l.length c, .int .i64 a, .int .i64 u] w fun e w' => ∃ A' c', e = .returned (.tuple #[.slice A' (recs l u a).1.length c', .int .i64 (recs l u a).2]) ∧ SlR w' A' c' (recs l u a).1 ∧ Below w.heap.size w w' := by
  obtain ⟨i0, hi, hz0, hz1, hz2⟩ := info_parts infoRecs
  have d0 : decide ((a : Int) < 0) = false := by simp
  have d1 : decide (u < a) = false := by simp; omega
  have d2 : decide (l.length < u) = false := by simp; omega
  refine callsIn_of_wp_marks Tryd.func12 rfl trivial ?_ rfl
  simp only [Tryd.ntmps12, List.size_toArray, List.length_cons, List.length_nil, Nat.reduceAdd, Nat.reduceSub, Array.replicate_succ, Array.replicate_zero, List.push_toArray, List.append_toArray, List.nil_append, List.cons_append]
  gi_wp2_with fail
  refine ⟨trivial, (callsIn_wide.2 (each_any A c l a u _)).mono ?_⟩
  rintro e w2 ⟨rfl, rfl⟩
  gi_wp2
  have b6 := (((((Boxed.new w 30 (.slice none 0 0)).alloc (.cells #[.int .i64 0] 27)).alloc (.cells #[.slice none 0 0] 30)).alloc (.cells #[.slice A l.length c] 22)).alloc (.cells #[.int .i64 a] 3)).alloc (.cells #[.int .i64 u] 3)
  have b7 := ((((Boxed.new (w.alloc (.cells #[.slice none 0 0] 30)) 27 (.int .i64 0)).alloc (.cells #[.slice none 0 0] 30)).alloc (.cells #[.slice A l.length c] 22)).alloc (.cells #[.int .i64 a] 3)).alloc (.cells #[.int .i64 u] 3)
  have b8 := (((Boxed.new ((w.alloc (.cells #[.slice none 0 0] 30)).alloc (.cells #[.int .i64 0] 27)) 30 (.slice none 0 0)).alloc (.cells #[.slice A l.length c] 22)).alloc (.cells #[.int .i64 a] 3)).alloc (.cells #[.int .i64 u] 3)
  have bB := ((Boxed.new (((w.alloc (.cells #[.slice none 0 0] 30)).alloc (.cells #[.int .i64 0] 27)).alloc (.cells #[.slice none 0 0] 30)) 22 (.slice A l.length c)).alloc (.cells #[.int .i64 a] 3)).alloc (.cells #[.int .i64 u] 3)
  have bA := (Boxed.new ((((w.alloc (.cells #[.slice none 0 0] 30)).alloc (.cells #[.int .i64 0] 27)).alloc (.cells #[.slice none 0 0] 30)).alloc (.cells #[.slice A l.length c] 22)) 3 (.int .i64 a)).alloc (.cells #[.int .i64 u] 3)
  have bU := Boxed.new (((((w.alloc (.cells #[.slice none 0 0] 30)).alloc (.cells #[.int .i64 0] 27)).alloc (.cells #[.slice none 0 0] 30)).alloc (.cells #[.slice A l.length c] 22)).alloc (.cells #[.int .i64 a] 3)) 3 (.int .i64 u)
  simp only [World.size_alloc] at b7 b8 bB bA bU
  have hB0 := below_lit (below_lit (below_lit (below_lit (below_lit (below_new w (.cells #[.slice none 0 0] 30)) (.cells #[.int .i64 0] 27)) (.cells #[.slice none 0 0] 30)) (.cells #[.slice A l.length c] 22)) (.cells #[.int .i64 a] 3)) (.cells #[.int .i64 u] 3)
  have hsz : ((((((w.alloc (.cells #[.slice none 0 0] 30)).alloc (.cells #[.int .i64 0] 27)).alloc (.cells #[.slice none 0 0] 30)).alloc (.cells #[.slice A l.length c] 22)).alloc (.cells #[.int .i64 a] 3)).alloc (.cells #[.int .i64 u] 3)).heap.size = w.heap.size + 6 := by simp
  generalize (((((w.alloc (.cells #[.slice none 0 0] 30)).alloc (.cells #[.int .i64 0] 27)).alloc (.cells #[.slice none 0 0] 30)).alloc (.cells #[.slice A l.length c] 22)).alloc (.cells #[.int .i64 a] 3)).alloc (.cells #[.int .i64 u] 3) = W0 at *
  have hN := pairs_len l u a
  refine wpIn_rangeFunc_ownH rfl (by omega) (gf := 35) (lb := #[.pointer (some ⟨w.heap.size + 1 + 1 + 1 + 1, 0, none⟩), .pointer (some ⟨w.heap.size + 1 + 1 + 1 + 2, 0, none⟩), .pointer (some ⟨w.heap.size + 1 + 1 + 1, 0, none⟩)]) rfl trivial (enters_of Tryd.func35 (by kernel_rfl) rfl)
    (each_stops (4 - 1) (w.heap.size + 1 + 1 + 1 + 1) (w.heap.size + 1 + 1 + 1 + 2) (w.heap.size + 1 + 1 + 1) w.heap.size (w.heap.size + 3) (w.heap.size + 6) A c l a u hl hau hul W0 (by omega) (by omega) (by omega) (by omega) (by omega) bA.cell bU.cell bB.cell (fun W' hb => ⟨h1.on (hB0.trans hb), T.on (hB0.trans hb)⟩)) Kept.trans (Kept.put (by omega) (by omega)) (Below.refl _ _) (fun _ => rfl)
    (AllI w W0)
    (AllIx w W0)
    (AllI.own hsz) (AllIx.own hsz)
    (AllI.mk ⟨⟨by simp, ⟨_, b8, World.ownsRow_nil _ _ _ _, trivial⟩, b6, b7⟩, Kept.refl _ _ _ _⟩)
    (fun x a' W => ∃ Bx, w.heap.size + 5 < Bx ∧ W.heap[Bx]? = some (.cells #[.int .i64 x.1.no, .int .i64 x.1.wire, .int .u64 x.1.num, .int .i64 x.1.frm, .int .i64 x.1.upto] 25 (0, 0)) ∧ a' = { tmps := #[.slice A l.length c, .int .i64 a, .int .i64 u, undef, undef, undef, .pointer (some ⟨w.heap.size, 0, none⟩), .pointer (some ⟨w.heap.size + 1, 0, none⟩), .pointer (some ⟨w.heap.size + 1 + 1, 0, none⟩), .pointer (some ⟨Bx, 0, none⟩), .int .i64 x.2, .int .i64 a,
      .bool false, .bool false, .int .i64 a, .int .i64 u, .bool false, .bool false, .bool false, .int .i64 u, .slice A l.length c, .int .i64 l.length, .bool false, .bool false, .slice A l.length c, .int .i64 a, .int .i64 u,
      .func (.func 35) #[] #[.pointer (some ⟨w.heap.size + 1 + 1 + 1 + 1, 0, none⟩), .pointer (some ⟨w.heap.size + 1 + 1 + 1 + 2, 0, none⟩), .pointer (some ⟨w.heap.size + 1 + 1 + 1, 0, none⟩)], RV x.1, .int .i64 x.2, undef, undef, undef, undef, undef, undef, undef, undef, undef], defers := [] })
    (fun x a' _ X Y row hs hg hr => by
      obtain ⟨Bx, q1, q2, q3⟩ := hs
      refine ⟨Bx, q1, (hg.block Bx (Array.getElem?_eq_some_iff.1 q2).1 fun e => ?_).trans q2, q3⟩
      obtain ⟨_, o, ho, hc⟩ := hr Bx e.symm
      rw [q2] at ho; cases ho; cases hc)
    ?assign ?body ?done ?stop
  case assign =>
    rintro lp pre x W K ⟨⟨hp, ⟨v, hv8, hown, -⟩, hv6, hv7⟩, hB⟩ hK
    have hsW := hB.1.size
    unfold encR RV
    gi_wp2
    have hk1 : Kept w.heap.size (w.heap.size + 3) (w.heap.size + 6) W (W.alloc (.cells #[.int .i64 x.1.no, .int .i64 x.1.wire, .int .u64 x.1.num, .int .i64 x.1.frm, .int .i64 x.1.upto] 25)) := Kept.of_below (below_new W _) (by omega) (by omega)
    exact hK _ _ ((KeepsOthers.alloc _ _).from _) hk1 (AllI.mk ⟨⟨hp, ⟨v, hv8.alloc _, hown.alloc _, trivial⟩, hv6.alloc _, hv7.alloc _⟩, hB.trans hk1⟩) ⟨W.heap.size, by omega, World.alloc_heap_new W _, rfl⟩
  case body =>
    rintro lp pre x a' W - - ⟨⟨hp, ⟨v, hv8, hown, -⟩, hv6, hv7⟩, hB⟩ ⟨Bx, hBx, hX, rfl⟩ hlt
    have hsW := hB.1.size
    obtain ⟨q0, q1, q2, q3, q4⟩ := heap_cells hX
    have c8 := hv8.cell
    have c7 := hv7.cell
    have c6 := hv6.cell
    have f7 := hv7.frozen
    have f6 := hv6.frozen
    by_cases hx : x.2 = 0
    · have hx0 : ((x.2 : Int) != 0) = false := by simp [hx]
      have E1 : Hid (pre.length + 1 = (pre ++ [x]).length) := Lib.hid (by simp)
      have E2 : Hid (rs (pre.map (·.1)) ++ rs [x.1] = rs ((pre ++ [x]).map (·.1))) := Lib.hid (by rw [← rs_append]; simp)
      have hp' : ∀ y ∈ pre ++ [x], y.2 = 0 := fun y hy => by
        rcases List.mem_append.1 hy with h | h
        · exact hp y h
        · obtain rfl : y = x := by simpa using h
          exact hx
      clear hx
      have hnr : ∀ j, w.heap.size + 3 ≤ j → j < w.heap.size + 6 → some j ≠ v.ownBlock := by
        intro j hm hj
        rcases (show j = w.heap.size + 1 + 1 + 1 ∨ j = w.heap.size + 1 + 1 + 1 + 1 ∨ j = w.heap.size + 1 + 1 + 1 + 1 + 1 by omega) with rfl | rfl | rfl
        · exact Boxed.not_row ((hB.2 _ hm hj).trans bB) (by decide) hown
        · exact Boxed.not_row ((hB.2 _ hm hj).trans bA) (by decide) hown
        · exact Boxed.not_row ((hB.2 _ hm hj).trans bU) (by decide) hown
      gi_wp2_with (gi_at_builtin; refine wpListIn_append_own _ rfl _ _ 30 rfl w.heap.size 25 i0 _ 5 40 Tryd.underlying30 hi hz0 hz1 hz2 rfl (by omega) v _ _ rfl (hown.alloc _) ⟨W.heap.size, 0, none⟩ 1 1 (rs [x.1]) rfl (by simp [rs, RC]) ((lit_rec W x.1).cell _ rfl) (rs_one [x.1]) (by unfold maxLen; omega) (by omega) (by simp; omega) ?_; intro v' w1 hown' hgrow _; obtain ⟨g', cap', rfl⟩ := ownsRow_succ hown'; obtain ⟨hv1, hv2, hr2, hk2, hb2⟩ := hv8.appended (by decide) hown (by omega) (by omega) hown' hgrow; have hc1 := hv1.cell; have hf1 := hv1.frozen)
      have k6 := (boxed_past hv6 (by decide) hown hgrow).other (B' := w.heap.size + 1 + 1) (by omega) (.slice (some ⟨g', 0, none⟩) (pre.length + 1) cap')
      have k7 := (boxed_past hv7 (by decide) hown hgrow).other (B' := w.heap.size + 1 + 1) (by omega) (.slice (some ⟨g', 0, none⟩) (pre.length + 1) cap')
      have hkk : Kept w.heap.size (w.heap.size + 3) (w.heap.size + 6) W (w1.setCell ⟨w.heap.size + 1 + 1, 0, none⟩ (.slice (some ⟨g', 0, none⟩) (pre.length + 1) cap')) := ⟨hb2, fun j hm hj => by
        rw [Below.heap_setCell _ _ _ j (fun e => by have : j = w.heap.size + 1 + 1 := e; omega), hgrow.block j (by simp; omega) (hnr j hm hj), heap_alloc_old _ _ _ (by omega)]⟩
      rw [E2.out] at hr2
      exact ⟨hk2.from _, hkk, AllI.mk ⟨⟨hp', ⟨_, hv2, by rw [← E1.out]; exact hr2, trivial⟩, k6, k7⟩, hB.trans hkk⟩⟩
    · have hx0 : ((x.2 : Int) != 0) = true := by simp; omega
      obtain ⟨A', c', rfl, hr⟩ := Sl.of_own hown
      gi_wp2
      refine ⟨((KeepsOthers.setCell _ _ _).trans (KeepsOthers.setCell _ _ _)).from _, AllIx.mk ⟨⟨rfl, pre, x, rfl, hx, ⟨_, (hv6.set _).other (by omega) _, own_set (own_set hown hv6 (by decide)) (hv7.other (by omega) _) (by decide), trivial⟩, (hv7.other (by omega) _).set _⟩, ?_⟩⟩
      exact (hB.trans (Kept.set _ _ (by omega) (by omega))).trans (Kept.set _ _ (by omega) (by omega))
  case done =>
    rintro D ys W hD rfl ⟨⟨hp, ⟨v, hv8, hown, -⟩, hv6, hv7⟩, hB⟩ hK
    obtain ⟨hX0, hX1⟩ := pairs_done hp
    have hlen : (pairsR (recs l u a)).length = (recs l u a).1.length := by rw [← hX1, List.length_map]
    rw [hX1, hlen] at hown
    obtain ⟨A', c', rfl, hr⟩ := Sl.of_own hown
    have c8 := hv8.cell
    have c7 := hv7.cell
    have c6 := hv6.cell
    have f7 := hv7.frozen
    have f6 := hv6.frozen
    have HX0 := Lib.hid hX0
    clear hX0
    gi_wp2
    have e6 : Boxed ((W.setCell ⟨w.heap.size, 0, none⟩ (.slice A' (recs l u a).1.length c')).setCell ⟨w.heap.size + 1, 0, none⟩ (.int .i64 0)) w.heap.size 30 (.slice A' (recs l u a).1.length c') := (hv6.set _).other (by omega) _
    have e7 : Boxed ((W.setCell ⟨w.heap.size, 0, none⟩ (.slice A' (recs l u a).1.length c')).setCell ⟨w.heap.size + 1, 0, none⟩ (.int .i64 0)) (w.heap.size + 1) 27 (.int .i64 0) := (hv7.other (by omega) _).set _
    have eo : ((W.setCell ⟨w.heap.size, 0, none⟩ (.slice A' (recs l u a).1.length c')).setCell ⟨w.heap.size + 1, 0, none⟩ (.int .i64 0)).ownsRow w.heap.size 25 5 (.slice A' (recs l u a).1.length c') (recs l u a).1.length (rs (recs l u a).1) := own_set (own_set hown hv6 (by decide)) (hv7.other (B' := w.heap.size) (by omega) _) (by decide)
    have eb : Below w.heap.size w ((W.setCell ⟨w.heap.size, 0, none⟩ (.slice A' (recs l u a).1.length c')).setCell ⟨w.heap.size + 1, 0, none⟩ (.int .i64 0)) := ((hB0.trans hB.1).setCell (p := ⟨w.heap.size, 0, none⟩) (Nat.le_refl _) _).setCell (p := ⟨w.heap.size + 1, 0, none⟩) (Nat.le_succ _) _
    have eK := (KeepsOthers.setCell (W.setCell ⟨w.heap.size, 0, none⟩ (.slice A' (recs l u a).1.length c')) ⟨w.heap.size + 1, 0, none⟩ (.int .i64 0)).same D _ ((KeepsOthers.setCell W ⟨w.heap.size, 0, none⟩ (.slice A' (recs l u a).1.length c')).same D _ hK rfl) rfl
    generalize (W.setCell ⟨w.heap.size, 0, none⟩ (.slice A' (recs l u a).1.length c')).setCell ⟨w.heap.size + 1, 0, none⟩ (.int .i64 0) = W2 at *
    exact all_out rfl rfl rfl e6 (by rw [HX0.out]; exact e7) eo eK (by omega) eb
  case stop =>
    rintro D cd pre W hD hS ⟨⟨rfl, pre', z, rfl, hz, ⟨v, hv6, hown, -⟩, hv7⟩, hB⟩ hK
    obtain ⟨hX0, hX1⟩ := pairs_left hS hz
    rw [hX1] at hown
    obtain ⟨A', c', rfl, hr⟩ := Sl.of_own hown
    have hlen : pre'.length = (recs l u a).1.length := by rw [← hX1, List.length_map]
    gi_wp2
    exact all_out hlen rfl rfl hv6 (by rw [hX0]; exact hv7) hown hK (by omega) (hB0.trans hB.1)

set_option maxRecDepth 1000000 in
theorem all_any (A : Option Addr) (c : Nat) (l : List UInt8) (a u : Int) (hl : l.length ≤ 1000000) (w : World) (h1 : SlB w A c l) (T : Wires w) :
    Calls Tryd.prog 12 #[.slice A l.length c, .int .i64 a, .int .i64 u] w fun e w' => ∃ A' c', e = .returned (.tuple #[.slice A' (allR l a u).1.length c', .int .i64 (allR l a u).2]) ∧ SlR w' A' c' (allR l a u).1 ∧ Below w.heap.size w w' := by
  by_cases hm : mayB a u l.length = true
  · have hR : allR l a u = recs l u.toNat a.toNat := by unfold allR; rw [if_pos hm]
    rw [hR]
    have h' := mayB_true.1 hm
    obtain ⟨an, rfl⟩ := Int.eq_ofNat_of_zero_le h'.1
    obtain ⟨un, rfl⟩ := Int.eq_ofNat_of_zero_le (show 0 ≤ u by omega)
    exact callsIn_wide.1 (all_in A c l an un hl (by omega) (by omega) w h1 T)
  · have hm : mayB a u l.length = false := by simpa using hm
    have hR : allR l a u = ([], 1) := by unfold allR; rw [hm]; rfl
    rw [hR]
    have hl2 := h1.small.1
    have h' := mayB_false.1 hm
    have hd : (decide (a < 0) = true) ∨ (decide (a < 0) = false ∧ decide (u < a) = true) ∨ (decide (a < 0) = false ∧ decide (u < a) = false ∧ decide ((l.length : Int) < u) = true) := by
      simp only [decide_eq_true_eq, decide_eq_false_iff_not]
      omega
    clear h' hm hR
    rcases hd with d0 | ⟨d0, d1⟩ | ⟨d0, d1, d2⟩
    all_goals
      go_enter Tryd.func12, Tryd.ntmps12
      go_wp2
      refine bodyPost_ret (v := .tuple #[.slice none 0 0, .int .i64 1]) ?_ rfl ⟨none, 0, rfl, SlR.nil _, below_lit (below_new _ _) _⟩
      simp [results, Tryd.f12, go_sem]
end Go.Proofs.YtpaggpcpflmpcaaDoor
