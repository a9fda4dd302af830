/-
  A node's text, appended to a row of bytes of one's own: sexp's appendNode and appendList.
-/
import Derived.Lib.AppendStr
import Derived.Test.YtceomdbahiimlaaDoorTokQuote
import Derived.Test.YtceomdbahiimlaaDoorSexMay
namespace Go.Proofs.YtceomdbahiimlaaDoor.T14
set_option maxRecDepth 100000

open Go.RowKit

theorem cells_bs (s : ByteArray) : Lib.strCells s = bs s.data.toList := by unfold Lib.strCells bs; simp; intro a _; rfl
theorem cells_tx (l : List UInt8) : Lib.strCells (tx l) = bs l := by rw [cells_bs, tx_list]
theorem size_tx (l : List UInt8) : (tx l).size = l.length := by simp [tx, ByteArray.size]
/-- A row of bytes of one's own. -/
abbrev OwnB (b : Nat) (w : World) (v : Value) (l : List UInt8) : Prop := w.ownsRow b 5 1 v l.length (bs l)
theorem OwnB.more {b : Nat} {w : World} {v : Value} {pre l : List UInt8} {n : Nat} {zs : List Value} (h : w.ownsRow b 5 1 v n zs) (hn : n = pre.length + l.length) (hz : zs = bs pre ++ bs l) : OwnB b w v (pre ++ l) := by
  subst hn hz
  unfold OwnB
  rw [List.length_append, bs_append]
  exact h
theorem sepB_next (l : List (List UInt8)) (x : List UInt8) (h : l ≠ []) : sepB (l ++ [x]) = sepB l ++ 32 :: x := by
  induction l with
  | nil => exact absurd rfl h
  | cons y l ih =>
    cases l with
    | nil => rfl
    | cons z l =>
      show y ++ 32 :: sepB (z :: l ++ [x]) = y ++ 32 :: sepB (z :: l) ++ 32 :: x
      rw [ih (by simp)]
      simp
/-- appendNode's contract at a depth. -/
def PrH (B d : Nat) : Prop := ∀ (x : Nd) (u v : Value) (pre : List UInt8) (b : Nat) (w : World), B ≤ b → b ≤ w.heap.size → NAt (Rd B w) d x [.int .i64 x.kind, .string (tx x.text), .int .i64 x.num, .int .i64 x.at_, u] →
  (∀ y ∈ x.pre 0, y.1.text.length ≤ 1000000) → pre.length + x.str.length ≤ 100000000000 → OwnB b w v pre →
  Calls Tryd.prog 28 #[v, .agg #[.int .i64 x.kind, .string (tx x.text), .int .i64 x.num, .int .i64 x.at_, u]] w fun e w' => ∃ v', e = .returned v' ∧ OwnB b w' v' (pre ++ x.str) ∧ Below b w w'
set_option maxRecDepth 1000000 in
set_option maxHeartbeats 4000000 in
/-- A node, its list's contract given. -/
theorem pr_node {B d : Nat} (x : Nd) (u v : Value) (pre : List UInt8) (b : Nat) (w : World) (hB : B ≤ b) (hb : b ≤ w.heap.size) (hx : NAt (Rd B w) d x [.int .i64 x.kind, .string (tx x.text), .int .i64 x.num, .int .i64 x.at_, u])
    (hs : x.text.length ≤ 1000000) (hn : pre.length + x.str.length ≤ 100000000000) (hown : OwnB b w v pre)
    (HL : x.kind = 4 → ∀ w1, Below w.heap.size w w1 → Calls Tryd.prog 43 #[v, u] w1 fun e w' => ∃ v', e = .returned v' ∧ OwnB b w' v' (pre ++ 40 :: (sepB (x.l.map Nd.str) ++ [41])) ∧ Below b w1 w') :
    Calls Tryd.prog 28 #[v, .agg #[.int .i64 x.kind, .string (tx x.text), .int .i64 x.num, .int .i64 x.at_, u]] w fun e w' => ∃ v', e = .returned v' ∧ OwnB b w' v' (pre ++ x.str) ∧ Below b w w' := by
  obtain ⟨i0, hi, hz0, hz1, hz2⟩ := info_parts info_u8
  obtain ⟨A, c, rfl⟩ := NAt.shape hx
  have hX1 := heap_alloc_new w (.cells #[.int .i64 x.kind, .string (tx x.text), .int .i64 x.num, .int .i64 x.at_, .slice A x.l.length c] 24)
  obtain ⟨n0, n1, n2, n3, n4⟩ := five_cells hX1
  have hB1 := below_new w (.cells #[.int .i64 x.kind, .string (tx x.text), .int .i64 x.num, .int .i64 x.at_, .slice A x.l.length c] 24)
  obtain ⟨w1, hw1⟩ : ∃ w1, w.alloc (.cells #[.int .i64 x.kind, .string (tx x.text), .int .i64 x.num, .int .i64 x.at_, .slice A x.l.length c] 24) = w1 := ⟨_, rfl⟩
  rw [hw1] at n0 n1 n2 n3 n4 hB1
  have hown1 : OwnB b w1 v pre := by rw [← hw1]; exact World.ownsRow.alloc hown _
  have hQ := Lib.hid (quote_any (tx x.text) (by rw [size_tx]; exact hs) w1)
  have HL1 := Lib.hid (fun h => HL h w1 hB1)
  rw [Nd.str_eq] at hn ⊢
  clear hX1 hx HL hown
  have hb1 : b ≤ w1.heap.size := Nat.le_trans hb hB1.size
  have HB := Lib.hid (hB1.mono hb)
  obtain ⟨ks, hks⟩ : ∃ k, x.kind = k := ⟨_, rfl⟩
  rw [hks] at HL1 n0 hn hw1 ⊢
  by_cases k2 : ks = 2
  · subst k2
    rw [if_pos rfl] at hn ⊢
    go_enter Tryd.func28, Tryd.ntmps28
    have HQ2 := Lib.hid (fun w2 (h : Below w1.heap.size w1 w2) => own_kept hown1 (fun k _ hk => h.block k hk))
    obtain ⟨qs, hqs⟩ : ∃ q, q = quote x.text := ⟨_, rfl⟩
    rw [tx_list, ← hqs] at hQ
    rw [← hqs] at hn ⊢
    clear hqs
    go_wp2_with (first
      | (go_at_call 42; refine hQ.out.mono ?_; rintro e w2 ⟨rfl, hb2⟩)
      | (at_builtin; go_loud (refine Lib.wpList_append_own_string _ rfl _ _ 53 9 rfl b 5 i0 Tryd.underlying53 Tryd.underlying9 hi hz0 hz1 hz2 v pre.length (bs pre) rfl (HQ2.out _ hb2) (tx qs) rfl (by rw [size_tx]; unfold maxLen; omega) (by rw [size_tx]; omega) (Nat.le_trans hb1 hb2.size) ?_; intro v3 w3 hown3 hg3 _)))
    go_ret
    exact ⟨_, rfl, OwnB.more hown3 (by rw [size_tx]) (by rw [cells_tx]), (HB.out.trans (hb2.mono hb1)).grown hg3 (Nat.le_trans hb1 hb2.size) (own_ge (HQ2.out _ hb2))⟩
  · by_cases k4 : ks = 4
    · subst k4
      rw [if_neg (by decide), if_pos rfl]
      have HLL := Lib.hid (HL1.out rfl)
      clear HL1 k2
      go_enter Tryd.func28, Tryd.ntmps28
      go_wp2_with (go_at_call 43; refine HLL.out.mono ?_; rintro e w2 ⟨v', rfl, hw2, hb2⟩)
      go_ret
      exact ⟨_, rfl, hw2, HB.out.trans hb2⟩
    · rw [if_neg k2, if_neg k4] at hn ⊢
      have e2 : (ks == 2) = false := beq_eq_false_iff_ne.2 k2
      have e4 : (ks == 4) = false := beq_eq_false_iff_ne.2 k4
      clear HL1 k2 k4
      go_enter Tryd.func28, Tryd.ntmps28
      go_wp2_with (at_builtin; go_loud (refine Lib.wpList_append_own_string _ rfl _ _ 53 9 rfl b 5 i0 Tryd.underlying53 Tryd.underlying9 hi hz0 hz1 hz2 v pre.length (bs pre) rfl hown1 (tx x.text) rfl (by rw [size_tx]; unfold maxLen; omega) (by rw [size_tx]; omega) hb1 ?_; intro v3 w3 hown3 hg3 _))
      go_ret
      exact ⟨_, rfl, OwnB.more hown3 (by rw [size_tx]) (by rw [cells_tx]), HB.out.grown hg3 hb1 (own_ge hown1)⟩
theorem sepB_len (l : List Nd) (k : Nat) : (sepB ((l.take k).map Nd.str)).length ≤ (sepB (l.map Nd.str)).length := by
  have h : ∀ (a b : List (List UInt8)), (sepB a).length ≤ (sepB (a ++ b)).length := by
    intro a
    induction a with
    | nil => intro b; simp [sepB]
    | cons x a ih =>
      intro b
      cases a with
      | nil => cases b <;> simp [sepB]
      | cons y a =>
        have := ih b
        simp only [sepB, List.cons_append, List.length_append, List.length_cons] at this ⊢
        omega
  have e : l.map Nd.str = (l.take k).map Nd.str ++ (l.drop k).map Nd.str := by rw [← List.map_append, List.take_append_drop]
  rw [e]
  exact h _ _
theorem sepB_step (l : List Nd) (k : Nat) (a : Nd) (h : l[k]? = some a) : sepB ((l.take (k + 1)).map Nd.str) = (if k = 0 then [] else sepB ((l.take k).map Nd.str) ++ [32]) ++ a.str := by
  rw [List.take_add_one, h, List.map_append]
  by_cases hk : k = 0
  · subst hk
    rw [if_pos rfl]
    rfl
  · rw [if_neg hk]
    have hl := (List.getElem?_eq_some_iff.1 h).1
    have hne : (l.take k).map Nd.str ≠ [] := by
      intro e
      have := congrArg List.length e
      simp only [List.length_map, List.length_take, List.length_nil] at this
      omega
    show sepB ((l.take k).map Nd.str ++ [a.str]) = _
    rw [sepB_next _ _ hne]
    simp
set_option maxRecDepth 1000000 in
set_option maxHeartbeats 4000000 in
theorem pr_list {B d : Nat} (H : PrH B d) (l : List Nd) (u v : Value) (pre : List UInt8) (b : Nat) (w : World) (hB : B ≤ b) (hb : b ≤ w.heap.size) (hl : LsAt (Rd B w) 24 5 (NAt (Rd B w) d) l u)
    (hs : ∀ x ∈ l, ∀ y ∈ x.pre 0, y.1.text.length ≤ 1000000) (hn : pre.length + ((sepB (l.map Nd.str)).length + 2) ≤ 100000000000) (hown : OwnB b w v pre) :
    Calls Tryd.prog 43 #[v, u] w fun e w' => ∃ v', e = .returned v' ∧ OwnB b w' v' (pre ++ 40 :: (sepB (l.map Nd.str) ++ [41])) ∧ Below b w w' := by
  obtain ⟨i0, hi, hz0, hz1, hz2⟩ := info_parts info_u8
  obtain ⟨A, c, xs, rfl, hsl, hbl, hr, hnl⟩ := hl.open_
  have HS := Lib.hid hsl
  have HBL := Lib.hid hbl
  have HR := Lib.hid hr
  have HN := Lib.hid hn
  have HSM := Lib.hid hs
  have hpl : pre.length + 1 ≤ 100000000000 := by omega
  clear hsl hbl hr hl hn hs
  go_enter Tryd.func43, Tryd.ntmps43
  go_wp2_with (at_builtin; refine Lib.wpList_append_own_string _ rfl _ _ 53 9 rfl b 5 i0 Tryd.underlying53 Tryd.underlying9 hi hz0 hz1 hz2 v pre.length (bs pre) rfl hown (tx [40]) rfl (by rw [size_tx]; unfold maxLen; simp; omega) (by rw [size_tx]; simp; omega) hb ?_; intro v1 w1 hown1 hg1 _)
  have hw1 : OwnB b w1 v1 (pre ++ [40]) := OwnB.more hown1 (by rw [size_tx]) (by rw [cells_tx])
  have hb1 : Below b w w1 := (Below.refl b w).grown hg1 hb (own_ge hown)
  clear hown1 hg1
  go_loopw [0, 11] (fun o i wr => ∃ k : Nat, i = .int .i64 k ∧ k ≤ l.length ∧ OwnB b wr o (pre ++ [40] ++ sepB ((l.take k).map Nd.str)) ∧ Below b w wr) (fun _ i _ => l.length - (intOf i).toNat)
  case atStart => exact ⟨0, rfl, Nat.zero_le _, by simpa [sepB] using hw1, hb1⟩
  case round =>
    obtain ⟨k, rfl, hk, hok, hbk⟩ := hrel
    by_cases hlt : k < l.length
    · obtain ⟨a, ha⟩ : ∃ a, l[k]? = some a := ⟨_, List.getElem?_eq_getElem hlt⟩
      have hlo : Lo B w wr := Lo.of (hbk.mono hB)
      obtain ⟨ad, u, rfl, hg1, hc1, p0, p1, p2, p3, p4⟩ := row5e (sl_low HS.out HBL.out hlo) (HR.out.imp fun a cs h => NRd.low hlo h) ha
      obtain ⟨Au, cu, hu⟩ := NAt.shape hc1
      obtain ⟨nu, hnu⟩ : ∃ q, a.l.length = q := ⟨_, rfl⟩
      rw [hnu] at hu
      subst hu
      clear hnu
      have hbr : b ≤ wr.heap.size := Nat.le_trans hb hbk.size
      have hlen := sepB_len l (k + 1)
      rw [sepB_step l k a ha] at hlen
      have hE : pre ++ [40] ++ sepB ((l.take (k + 1)).map Nd.str) = (if k = 0 then pre ++ [40] ++ sepB ((l.take k).map Nd.str) else pre ++ [40] ++ sepB ((l.take k).map Nd.str) ++ [32]) ++ a.str := by
        rw [sepB_step l k a ha]
        by_cases h0 : k = 0
        · subst h0; simp [sepB]
        · rw [if_neg h0, if_neg h0]; simp
      have HE := Lib.hid hE
      have HC := Lib.hid (fun (o' : Value) (P : List UInt8) (W : World) (h1 : Below b wr W) (h2 : P.length + a.str.length ≤ 100000000000) (h3 : OwnB b W o' P) => H a _ o' P b W hB (Nat.le_trans hbr h1.size) (NRd.low (Lo.of (h1.mono hB)) hc1) (HSM.out a (List.mem_of_getElem? ha)) h2 h3)
      have hn := HN.out
      have hP0 : k = 0 → (pre ++ [40] ++ sepB ((l.take k).map Nd.str)).length + a.str.length ≤ 100000000000 := fun h0 => by
        subst h0
        simp only [if_true, List.nil_append] at hlen
        simp [sepB]
        omega
      have hP1 : k ≠ 0 → (pre ++ [40] ++ sepB ((l.take k).map Nd.str) ++ [32]).length + a.str.length ≤ 100000000000 := fun h0 => by
        rw [if_neg h0] at hlen
        simp only [List.length_append, List.length_cons, List.length_nil] at hlen ⊢
        omega
      have HP := Lib.hid (And.intro hP0 hP1)
      clear hP0 hP1 hn hlen hE hc1 ha hlo
      generalize pre ++ [40] ++ sepB ((l.take k).map Nd.str) = P at *
      have hBx : Below b wr (wr.alloc (.cells #[.int .i64 a.kind, .string (tx a.text), .int .i64 a.num, .int .i64 a.at_, .slice Au nu cu] 24)) := (below_new _ _).mono hbr
      have hox := World.ownsRow.alloc hok (.cells #[.int .i64 a.kind, .string (tx a.text), .int .i64 a.num, .int .i64 a.at_, .slice Au nu cu] 24)
      have hsx : (wr.alloc (.cells #[.int .i64 a.kind, .string (tx a.text), .int .i64 a.num, .int .i64 a.at_, .slice Au nu cu] 24)).heap.size = wr.heap.size + 1 := by simp
      by_cases h0 : k = 0
      · have HC0 := Lib.hid (HC.out _ P _ hBx (HP.out.1 h0) hox)
        have HE0 : Hid (pre ++ [40] ++ sepB ((l.take (k + 1)).map Nd.str) = P ++ a.str) := Lib.hid (by have := HE.out; rwa [if_pos h0] at this)
        have e0 : ¬ (0 : Int) < (k : Int) := by omega
        have e1 : decide ((0 : Int) < (k : Int)) = false := decide_eq_false e0
        clear HC hox HE HP h0
        go_wp2_with (go_at_call 28; refine HC0.out.mono ?_; rintro e w6 ⟨v6, rfl, hw6, hb6⟩)
        refine ⟨⟨k + 1, ?_, by omega, by rw [HE0.out]; exact hw6, hbk.trans (hBx.trans hb6)⟩, by simp [intOf]; omega⟩
        go_num
      · have HE0 : Hid (pre ++ [40] ++ sepB ((l.take (k + 1)).map Nd.str) = P ++ [32] ++ a.str) := Lib.hid (by have := HE.out; rwa [if_neg h0] at this)
        have e0 : (0 : Int) < (k : Int) := by omega
        have e1 : decide ((0 : Int) < (k : Int)) = true := decide_eq_true e0
        have hP2 := HP.out.2 h0
        have hP3 : P.length + 1 ≤ 100000000000 := by simp only [List.length_append, List.length_cons, List.length_nil] at hP2; omega
        have HP2 := Lib.hid hP2
        clear HE HP h0 hP2
        go_wp2_with (first
          | (go_at_call 28; refine (HC.out _ (P ++ [32]) _ hb3 HP2.out ho3).mono ?_; rintro e w6 ⟨v6, rfl, hw6, hb6⟩)
          | (at_builtin; go_loud (refine wpList_app1 rfl _ _ 53 rfl b 5 i0 (.int .u8 0) 1 Tryd.underlying53 hi hz0 hz1 hz2 rfl _ P.length (bs P) rfl (hox.alloc _) (wr.heap.size + 1) 1 _ rfl (World.cell?_alloc_at _ _ _ _ (by simp)) rfl (by unfold maxLen; omega) (by omega) (by simp; omega) ?_); intro v3 w3 hown3 hg3; obtain ⟨r0, r1, r2, r3, r4⟩ := five_cells (show w3.heap[wr.heap.size]? = some (.cells #[.int .i64 a.kind, .string (tx a.text), .int .i64 a.num, .int .i64 a.at_, .slice Au nu cu] 24 (0, 0)) from (hg3.block wr.heap.size (by simp; omega) (fun e => by have := (own_blk hok _ e.symm).2; omega)).trans (((below_new (wr.alloc (.cells #[.int .i64 a.kind, .string (tx a.text), .int .i64 a.num, .int .i64 a.at_, .slice Au nu cu] 24)) _).block _ (by simp)).trans (heap_alloc_new wr _))); have ho3 : OwnB b w3 v3 (P ++ [32]) := OwnB.more hown3 (by simp) rfl; have hb3 : Below b wr w3 := (hBx.alloc (Nat.le_trans hbr (by simp)) _).grown hg3 (by simp; omega) (own_ge hox)))
        refine ⟨⟨k + 1, ?_, by omega, by rw [HE0.out]; exact hw6, hbk.trans (hb3.trans hb6)⟩, by simp [intOf]; omega⟩
        go_num
    · obtain rfl : k = l.length := by omega
      rw [List.take_length] at hok
      have hn := HN.out
      have hl2 : (pre ++ [40] ++ sepB (l.map Nd.str)).length + 1 ≤ 100000000000 := by simp; omega
      have hbr : b ≤ wr.heap.size := Nat.le_trans hb hbk.size
      have HE : Hid (pre ++ 40 :: (sepB (l.map Nd.str) ++ [41]) = pre ++ [40] ++ sepB (l.map Nd.str) ++ [41]) := Lib.hid (by simp)
      clear hn
      generalize pre ++ [40] ++ sepB (l.map Nd.str) = P at *
      go_wp2_with (at_builtin; refine Lib.wpList_append_own_string _ rfl _ _ 53 9 rfl b 5 i0 Tryd.underlying53 Tryd.underlying9 hi hz0 hz1 hz2 _ P.length (bs P) rfl hok (tx [41]) rfl (by rw [size_tx]; unfold maxLen; simp; omega) (by rw [size_tx]; simp; omega) hbr ?_; intro v3 w3 hown3 hg3 _)
      go_ret
      exact ⟨_, rfl, by rw [HE.out]; exact OwnB.more hown3 (by rw [size_tx]) (by rw [cells_tx]), hbk.grown hg3 hbr (own_ge hok)⟩
theorem pre_fst : ∀ x : Nd, ∀ i j, (x.pre i).map Prod.fst = (x.pre j).map Prod.fst := by
  refine Nd.ind fun x ih i j => ?_
  rw [Nd.pre_eq, Nd.pre_eq, List.map_cons, List.map_cons, List.map_flatten, List.map_flatten, List.map_map, List.map_map]
  congr 2
  exact List.map_congr_left fun y hy => ih y hy _ _
theorem pr_step {B d : Nat} (H : PrH B d) : PrH B (d + 1) := by
  intro x u v pre b w hB hb hx hs hn hown
  have hx0 := hx
  obtain ⟨u', hu, hl⟩ := hx0
  obtain rfl : u = u' := by simpa using hu
  refine pr_node x u v pre b w hB hb hx (hs (x, 0) (by rw [Nd.pre_eq]; exact List.mem_cons_self ..)) hn hown ?_
  intro h4 w1 hb1
  refine pr_list H x.l u v pre b w1 hB (Nat.le_trans hb hb1.size) (hl.low (Lo.below hb1 (Nat.le_trans hB hb)) fun a cs h => NRd.low (Lo.below hb1 (Nat.le_trans hB hb)) h) ?_ ?_ (own_kept hown fun k _ hk => hb1.block k hk)
  · intro y hy z hz
    have h1 : z.1 ∈ (y.pre 1).map Prod.fst := by rw [pre_fst y 1 0]; exact List.mem_map_of_mem hz
    obtain ⟨z2, hz2, e⟩ := List.mem_map.1 h1
    rw [← e]
    exact hs z2 (by rw [Nd.pre_eq]; exact List.mem_cons_of_mem _ (List.mem_flatten.2 ⟨_, List.mem_map.2 ⟨y, hy, rfl⟩, hz2⟩))
  · rw [Nd.str_eq, if_neg (by omega), if_pos h4] at hn
    simp only [List.length_cons, List.length_append, List.length_nil] at hn
    omega
theorem pr_any (B : Nat) : ∀ d, PrH B d
  | 0 => fun _ _ _ _ _ _ _ _ h => h.elim
  | d + 1 => pr_step (pr_any B d)
theorem tx_txt (l : List UInt8) : tx l = txt l := rfl
set_option maxRecDepth 1000000 in
set_option maxHeartbeats 4000000 in
/-- Print. -/
theorem print14_any (d : Nat) (x : Nd) (u : Value) (w : World) (hd : d ≤ 1000000) (hx : NAt (Rd w.heap.size w) d x [.int .i64 x.kind, .string (tx x.text), .int .i64 x.num, .int .i64 x.at_, u]) (hsm : ∀ y ∈ x.pre 0, y.1.text.length ≤ 1000000) (hn : x.str.length ≤ 100000000000) (LV : Laid w) :
    Calls Tryd.prog 16 #[.agg #[.int .i64 x.kind, .string (tx x.text), .int .i64 x.num, .int .i64 x.at_, u]] w fun e w' => e = .returned (.string (tx (printB Lib.itoa x))) ∧ Below w.heap.size w w' := by
  obtain ⟨A, c, rfl⟩ := NAt.shape hx
  have hX1 := heap_alloc_new w (.cells #[.int .i64 x.kind, .string (tx x.text), .int .i64 x.num, .int .i64 x.at_, .slice A x.l.length c] 24)
  have hB1 := below_new w (.cells #[.int .i64 x.kind, .string (tx x.text), .int .i64 x.num, .int .i64 x.at_, .slice A x.l.length c] 24)
  obtain ⟨n0, n1, n2, n3, n4⟩ := five_cells hX1
  have hx1 := NRd.low (Lo.below hB1 (Nat.le_refl _)) hx
  have HM := Lib.hid (may14_any d x _ _ hd (NRd.mono hB1.size hx1) hsm (LV.on hB1))
  have HA := Lib.hid (fun w2 (h : Below w.heap.size w w2) => pr_any w.heap.size d x _ (.slice none 0 0) [] w2.heap.size w2 h.size (Nat.le_refl _) (NRd.low (Lo.of h) hx) hsm (by simpa using hn) (World.ownsRow_nil _ _ _ _))
  have HB1 := Lib.hid hB1
  have hw1 : (w.alloc (.cells #[.int .i64 x.kind, .string (tx x.text), .int .i64 x.num, .int .i64 x.at_, .slice A x.l.length c] 24)).heap.size = w.heap.size + 1 := by simp
  obtain ⟨rm, hrm⟩ : ∃ r, mayB Lib.itoa x = r := ⟨_, rfl⟩
  rw [hrm] at HM
  have HP : Hid (printB Lib.itoa x = if rm = true then x.str else []) := Lib.hid (by rw [printB, hrm])
  have HX1 := Lib.hid hX1
  clear hx hx1 hsm LV hn hB1 hX1 hrm
  cases rm with
  | false =>
    go_enter Tryd.func16, Tryd.ntmps16
    go_wp2_with (go_at_call 14; refine HM.out.mono ?_; rintro e w2 ⟨rfl, hb2⟩)
    go_ret
    exact ⟨by rw [HP.out]; rfl, HB1.out.trans (hb2.mono (by omega))⟩
  | true =>
    go_enter Tryd.func16, Tryd.ntmps16
    go_wp2_with (first
      | (go_at_call 14; refine HM.out.mono ?_; rintro e w2 ⟨rfl, hb2⟩; have hB2 : Below w.heap.size w w2 := HB1.out.trans (hb2.mono (by omega)); obtain ⟨r0, r1, r2, r3, r4⟩ := five_cells ((hb2.block w.heap.size (by omega)).trans HX1.out))
      | (go_at_call 28; refine (HA.out _ hB2).mono ?_; rintro e w3 ⟨v3, rfl, ho3, hb3⟩; rw [List.nil_append] at ho3; obtain ⟨A3, c3, rfl, hr3⟩ := SlB.of_own ho3; have hcv := run_str_of_bytes (P := Tryd.prog) w3 53 9 5 Tryd.underlying53 Tryd.underlying5 Tryd.underlying9 A3 c3 _ hr3))
    go_ret
    exact ⟨by rw [HP.out]; rfl, hB2.trans (hb3.mono hB2.size)⟩
end Go.Proofs.YtceomdbahiimlaaDoor.T14
