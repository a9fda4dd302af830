/-
  The document's own: is a node not too great (truffleref14.count, Few)?
-/
import Derived.Test.YtceomdbahiimlaaDoorSexBig
namespace Go.Proofs.YtceomdbahiimlaaDoor.T14
set_option maxRecDepth 100000

open Go.RowKit

/-- How great a node is: one more for each hundred bytes of its text. -/
def Nd.wt : Nd → Nat
  | .mk _ t _ _ l => 1 + t.length / 100 + (l.attach.map fun ⟨y, _⟩ => Nd.wt y).sum
theorem Nd.wt_eq (x : Nd) : x.wt = 1 + x.text.length / 100 + (x.l.map Nd.wt).sum := by
  cases x with
  | mk k t n a l =>
    rw [Nd.wt]
    congr 2
    exact att l Nd.wt
/-- No deeper than so much. -/
def DpN : Nat → Nd → Prop
  | 0, _ => False
  | d + 1, x => ∀ y ∈ x.l, DpN d y
theorem nat_dp {R : RP} : ∀ (d D : Nat) (x : Nd) (cs : List Value), DpN d x → NAt R D x cs → NAt R d x cs
  | 0, _, _, _, h, _ => h.elim
  | _ + 1, 0, _, _, _, h => h.elim
  | d + 1, D + 1, x, cs, hd, ⟨u, h1, xs, h2, h3⟩ => ⟨u, h1, xs, h2, h3.imp_mem fun y hy cs hc => nat_dp d D y cs (hd y hy) hc⟩
theorem wt_le {x y : Nd} (h : y ∈ x.l) : y.wt ≤ x.wt := by
  rw [x.wt_eq]
  have : ∀ (l : List Nat) (a : Nat), a ∈ l → a ≤ l.sum := by
    intro l
    induction l with
    | nil => intro a h; cases h
    | cons b l ih =>
      intro a h
      rw [List.sum_cons]
      rcases List.mem_cons.1 h with rfl | h
      · omega
      · have := ih a h; omega
  have := this _ _ (List.mem_map_of_mem (f := Nd.wt) h)
  omega
theorem wt_sm {N : Nat} (hN : N ≤ 5000) : ∀ x : Nd, x.wt ≤ N → Sm 1000000 x := by
  refine Nd.ind fun x ih h => ?_
  refine Sm.intro ?_ fun y hy => ih y hy (Nat.le_trans (wt_le hy) h)
  rw [x.wt_eq] at h
  omega
theorem sepB_sum : ∀ l : List (List UInt8), (sepB l).length ≤ (l.map fun x => x.length + 1).sum
  | [] => by simp [sepB]
  | [x] => by simp [sepB]
  | x :: y :: l => by
    have := sepB_sum (y :: l)
    simp only [sepB, List.length_append, List.length_cons, List.map_cons, List.sum_cons] at this ⊢
    omega
theorem q1_le (c : UInt8) : (q1 c).length ≤ 4 := by
  unfold q1
  repeat' (split <;> try simp)
theorem quote_le (t : List UInt8) : (quote t).length ≤ 4 * t.length + 2 := by
  unfold quote
  have : (t.flatMap q1).length ≤ 4 * t.length := by
    induction t with
    | nil => simp
    | cons c t ih =>
      rw [List.flatMap_cons, List.length_append, List.length_cons]
      have := q1_le c
      omega
  simp only [List.length_cons, List.length_append, List.length_nil]
  omega
theorem str_wt : ∀ x : Nd, x.str.length + 2 ≤ 600 * x.wt := by
  refine Nd.ind fun x ih => ?_
  rw [x.wt_eq, Nd.str_eq]
  split
  · have := quote_le x.text
    omega
  · split
    · have h1 := sepB_sum (x.l.map Nd.str)
      have h2 : ((x.l.map Nd.str).map fun y => y.length + 1).sum ≤ 600 * (x.l.map Nd.wt).sum := by
        rw [List.map_map]
        generalize x.l = l at ih
        induction l with
        | nil => simp
        | cons y l ihl =>
          have h3 := ih y (List.mem_cons_self ..)
          have h4 := ihl fun z hz => ih z (List.mem_cons_of_mem _ hz)
          simp only [List.map_cons, List.sum_cons, Function.comp_apply] at h4 ⊢
          omega
      simp only [List.length_cons, List.length_append, List.length_nil]
      omega
    · omega

theorem cnt_first {L q : Nat} (h : L / 100 = q) (hL : L ≤ maxLen) : q ≤ 92233720368547758 ∧ wrap64 ((L : Int) / 100) = (q : Int) ∧ wrap64 (1 + (q : Int)) = 1 + (q : Int) := by
  have h1 : q ≤ 92233720368547758 := by
    rw [← h]
    exact Nat.le_trans (Nat.div_le_div_right hL) (by decide)
  have h2 : ((L : Int) / 100) = (q : Int) := by rw [← h]; rfl
  refine ⟨h1, ?_, IntWalk.wrap64_in _ ⟨by omega, by omega⟩⟩
  rw [h2]
  exact IntWalk.wrap64_in _ ⟨by omega, by omega⟩
/-- How great a number is told at most. -/
def CB (d : Nat) : Nat := 100000000000000000 + 2001 * d
/-- What is told so far. -/
def CSo (x : Nd) (d k N : Nat) : Prop := N ≤ 2000 → 1 + x.text.length / 100 + ((x.l.take k).map Nd.wt).sum ≤ N ∧ ∀ y ∈ x.l.take k, DpN d y
theorem CSo.next {x : Nd} {d k N c : Nat} {y : Nd} (h : CSo x d k N) (hN : N ≤ 2000) (hy : x.l[k]? = some y) (hc : c ≤ 2000 → y.wt ≤ c ∧ DpN d y) : CSo x d (k + 1) (N + c) := fun hn => by
  obtain ⟨h1, h2⟩ := h hN
  obtain ⟨h3, h4⟩ := hc (by omega)
  rw [List.take_add_one, hy]
  simp only [Option.toList_some, List.map_append, List.map_cons, List.map_nil, List.sum_append, List.sum_cons, List.sum_nil]
  refine ⟨by omega, fun z hz => ?_⟩
  rcases List.mem_append.1 hz with hz | hz
  · exact h2 z hz
  · obtain rfl := List.mem_singleton.1 hz
    exact h4
theorem CSo.done {x : Nd} {d k N : Nat} (h : CSo x d k N) (hk : k = x.l.length ∨ 2000 < N) : N ≤ 2000 → x.wt ≤ N ∧ DpN (d + 1) x := fun hn => by
  obtain rfl := hk.resolve_right (by omega)
  obtain ⟨h1, h2⟩ := h hn
  rw [List.take_length] at h1 h2
  rw [x.wt_eq]
  exact ⟨h1, h2⟩
/-- count, of nodes within so many levels. -/
def CntH (B D : Nat) : Prop := ∀ (x : Nd) (u : Value) (d : Nat) (w : World), B ≤ w.heap.size → NAt (Rd B w) D x [.int .i64 x.kind, .string (tx x.text), .int .i64 x.num, .int .i64 x.at_, u] → Sm maxLen x → d ≤ 1000 →
  Calls Tryd.prog 19 #[.agg #[.int .i64 x.kind, .string (tx x.text), .int .i64 x.num, .int .i64 x.at_, u], .int .i64 d] w fun e w' => ∃ n : Nat, e = .returned (.int .i64 n) ∧ n ≤ CB d ∧ (n ≤ 2000 → x.wt ≤ n ∧ DpN d x) ∧ Below w.heap.size w w'
set_option maxRecDepth 1000000 in
set_option maxHeartbeats 8000000 in
theorem cnt_step {B D : Nat} (H : CntH B D) : CntH B (D + 1) := by
  rintro x u d w hB ⟨u', hu, hl⟩ hsm hd
  obtain rfl : u = u' := by simpa using hu
  obtain ⟨A, c, xs, rfl, hs, hbl, hr, hn⟩ := hl.open_
  have X1 := heap_alloc_new w (.cells #[.int .i64 x.kind, .string (tx x.text), .int .i64 x.num, .int .i64 x.at_, .slice A x.l.length c] 24)
  have LBD := below_new w (.cells #[.int .i64 x.kind, .string (tx x.text), .int .i64 x.num, .int .i64 x.at_, .slice A x.l.length c] 24)
  have htl : (tx x.text).size ≤ maxLen := by rw [size_tx]; exact hsm.head
  have HS := Lib.hid hs
  have HR := Lib.hid hr
  have HBB := Lib.hid hbl
  have HH := Lib.hid H
  have HSM := Lib.hid hsm
  clear hs hr hl hbl H hsm hu
  by_cases hd0 : d = 0
  · subst hd0
    go_enter Tryd.func19, Tryd.ntmps19
    go_wp2
    go_ret
    exact ⟨100000, rfl, by unfold CB; omega, fun h => by omega, LBD⟩
  · have hd1 : 1 ≤ d := by omega
    have hdl : decide ((d : Int) ≤ 0) = false := by rw [decide_eq_false_iff_not]; omega
    obtain ⟨n0, n1, n2, n3, n4⟩ := five_cells X1
    by_cases hF : x.l.length ≤ 2000
    · have hfl : decide ((2000 : Int) < (x.l.length : Int)) = false := by rw [decide_eq_false_iff_not]; omega
      have hfl2 : decide (2000 < x.l.length) = false := by rw [decide_eq_false_iff_not]; omega
      have hq : ((tx x.text).size : Int).tdiv 100 = ((x.text.length / 100 : Nat) : Int) := by rw [size_tx, Int.tdiv_eq_ediv_of_nonneg (by omega)]; omega
      have HQ := Lib.hid (show x.text.length ≤ maxLen by rwa [size_tx] at htl)
      clear hd0
      go_enter Tryd.func19, Tryd.ntmps19
      go_wp2
      obtain ⟨W0, hW0⟩ : ∃ W, W = w.alloc (.cells #[.int .i64 x.kind, .string (tx x.text), .int .i64 x.num, .int .i64 x.at_, .slice A x.l.length c] 24) := ⟨_, rfl⟩
      rw [← hW0] at X1 LBD ⊢
      clear hW0 n0 n1 n2 n3 n4
      obtain ⟨q, hqd⟩ : ∃ q, x.text.length / 100 = q := ⟨_, rfl⟩
      obtain ⟨hqb, e1, e2⟩ := cnt_first hqd HQ.out
      rw [e1, e2]
      clear e1 e2 hq HQ htl
      go_loopw [5, 6] (fun n i wr => ∃ (p N : Nat), i = .int .i64 p ∧ p ≤ x.l.length ∧ n = .int .i64 N ∧ N ≤ CB d ∧ CSo x (d - 1) p N ∧ Below W0.heap.size W0 wr) (fun _ i _ => x.l.length - (intOf i).toNat)
      case atStart => exact ⟨0, 1 + q, rfl, Nat.zero_le _, (by rw [show ((1 + q : Nat) : Int) = 1 + (q : Int) by omega]), (by unfold CB; omega), fun _ => ⟨(by rw [hqd]; simp), fun y hy => by simp at hy⟩, Below.refl _ _⟩
      case round =>
        obtain ⟨p, N, rfl, hp, rfl, hNB, hso, hbw⟩ := hrel
        have HSO := Lib.hid hso
        obtain ⟨n0, n1, n2, n3, n4⟩ := five_cells ((hbw.block _ (box_lt X1)).trans X1)
        have HBW := Lib.hid (LBD.trans (hbw.mono LBD.size))
        clear hso
        by_cases hlt : p < x.l.length
        · by_cases hN : N ≤ 2000
          · have hN3 : decide ((N : Int) ≤ 2000) = true := by rw [decide_eq_true_iff]; omega
            have hN4 : decide (N ≤ 2000) = true := by rw [decide_eq_true_iff]; omega
            obtain ⟨y, hy⟩ : ∃ y, x.l[p]? = some y := ⟨_, List.getElem?_eq_getElem hlt⟩
            obtain ⟨ad, uy, rfl, hga, hcc, p0, p1, p2, p3, p4⟩ := row5e (sl_low HS.out HBB.out (Lo.below HBW.out hB)) (HR.out.imp fun a cs h => NRd.low (Lo.below HBW.out hB) h) hy
            obtain ⟨Ay, cy, rfl⟩ := NAt.shape hcc
            have HCX := Lib.hid (HH.out y _ (d - 1) wr (Nat.le_trans hB HBW.out.size) hcc (HSM.out.below (List.mem_of_getElem? hy)) (by omega))
            have hw4 : IntKind.i64.wrap ((d : Int) - 1) = ((d - 1 : Nat) : Int) := by rw [IntKind.wrap_i64]; omega
            have HY := Lib.hid hy
            have HBY := Lib.hid hbw
            clear hcc hy hbw
            go_wp2_with (go_at_call 19; refine HCX.out.mono ?_; rintro e w9 ⟨cn, rfl, hcn, hcf, hb9⟩; have hw5 : IntKind.i64.wrap ((N : Int) + (cn : Int)) = ((N + cn : Nat) : Int) := (by unfold CB at hcn; rw [IntKind.wrap_i64]; omega))
            refine ⟨⟨p + 1, N + cn, by go_num, by omega, by go_num, by unfold CB at hcn ⊢; omega, HSO.out.next hN HY.out (fun h => hcf h), HBY.out.trans (hb9.mono HBY.out.size)⟩, by simp [intOf]; omega⟩
          · have hN3 : decide ((N : Int) ≤ 2000) = false := by rw [decide_eq_false_iff_not]; omega
            have hN4 : decide (N ≤ 2000) = false := by rw [decide_eq_false_iff_not]; omega
            go_wp2
            go_ret
            exact ⟨N, rfl, hNB, fun h => absurd h hN, HBW.out⟩
        · obtain rfl : p = x.l.length := by omega
          go_wp2
          all_goals first
            | (go_ret; exact ⟨N, rfl, hNB, fun h => by have := HSO.out.done (.inl rfl) h; rwa [show d - 1 + 1 = d by omega] at this, HBW.out⟩)
    · have hfl : decide ((2000 : Int) < (x.l.length : Int)) = true := by rw [decide_eq_true_iff]; omega
      have hfl2 : decide (2000 < x.l.length) = true := by rw [decide_eq_true_iff]; omega
      go_enter Tryd.func19, Tryd.ntmps19
      go_wp2
      go_ret
      exact ⟨100000, rfl, by unfold CB; omega, fun h => by omega, LBD⟩
theorem cnt_any (B : Nat) : ∀ D, CntH B D
  | 0 => fun _ _ _ _ _ h => h.elim
  | D + 1 => cnt_step (cnt_any B D)
set_option maxRecDepth 1000000 in
set_option maxHeartbeats 4000000 in
/-- Few. -/
theorem few14_any (D : Nat) (x : Nd) (u : Value) (w : World) (hx : NAt (Rd w.heap.size w) D x [.int .i64 x.kind, .string (tx x.text), .int .i64 x.num, .int .i64 x.at_, u]) (hsm : Sm maxLen x) :
    Calls Tryd.prog 10 #[.agg #[.int .i64 x.kind, .string (tx x.text), .int .i64 x.num, .int .i64 x.at_, u]] w fun e w' => ∃ b : Bool, e = .returned (.bool b) ∧ (b = true → x.wt ≤ 1000 ∧ DpN 40 x) ∧ Below w.heap.size w w' := by
  obtain ⟨A, c, rfl⟩ := NAt.shape hx
  have LBD := below_new w (.cells #[.int .i64 x.kind, .string (tx x.text), .int .i64 x.num, .int .i64 x.at_, .slice A x.l.length c] 24)
  obtain ⟨n0, n1, n2, n3, n4⟩ := five_cells (heap_alloc_new w (.cells #[.int .i64 x.kind, .string (tx x.text), .int .i64 x.num, .int .i64 x.at_, .slice A x.l.length c] 24))
  have HC := Lib.hid (cnt_any w.heap.size D x _ 40 _ LBD.size (NRd.low (Lo.below LBD (Nat.le_refl _)) hx) hsm (by decide))
  have HB := Lib.hid LBD
  clear hx hsm LBD
  go_enter Tryd.func10, Tryd.ntmps10
  go_wp2_with (go_at_call 19; refine HC.out.mono ?_; rintro e w9 ⟨cn, rfl, hcn, hcf, hb9⟩)
  go_ret
  refine ⟨decide ((cn : Int) ≤ 1000), rfl, fun h => ?_, below_then HB.out hb9⟩
  rw [decide_eq_true_iff] at h
  obtain ⟨h1, h2⟩ := hcf (by omega)
  exact ⟨by omega, h2⟩
end Go.Proofs.YtceomdbahiimlaaDoor.T14
