/-
  A message around others is one deeper than the deepest one, and has all their values, and one for each: the statement ValueDeep, for every list of messages.
-/
import Derived.Test.YtaepmccfiliiiaaTrLaw
import Derived.Deep.DeepHandedRow
import Derived.MakeChecks
import Derived.Lay
import Derived.Deep.RegionLaw
import Derived.Deep.AppendLies
namespace Go.Proofs.Ytaepmccfiliiiaa.lawValueDeep
set_option maxRecDepth 100000

open Go.ChangeShapes Go.WideShapes Go.ChangeAt Go.RowKit

/-- The slot that a message is put into. -/
def wrapS (i : Nat) (x : Mg) : So := ⟨i, [], [⟨0, [], [x]⟩]⟩
def wraps (l : List Mg) : List So := l.zipIdx.map fun p => wrapS p.2 p.1
theorem wraps_take (l : List Mg) (k : Nat) (x : Mg) (h : l[k]? = some x) : wraps (l.take (k + 1)) = wraps (l.take k) ++ [wrapS k x] := by
  have hk : k < l.length := (List.getElem?_eq_some_iff.1 h).1
  unfold wraps
  rw [List.take_add_one, h, List.zipIdx_append, List.map_append]
  simp only [Option.toList_some, List.length_take, Nat.zero_add, List.zipIdx_singleton, List.map_cons, List.map_nil]
  rw [Nat.min_eq_left (Nat.le_of_lt hk)]
theorem dS_wrap (i : Nat) (x : Mg) : dS (wrapS i x) = x.deep := by simp [dS, wrapS, dV, mx]
theorem zS_wrap (i : Nat) (x : Mg) : zS (wrapS i x) = 1 + x.size := by simp [zS, wrapS, zV, sm]
theorem mx_wraps (l : List Mg) : mx ((wraps l).map dS) = mx (l.map Mg.deep) := by
  unfold wraps
  rw [List.map_map]
  have : ∀ (n : Nat) (l : List Mg), mx ((l.zipIdx n).map (dS ∘ fun p => wrapS p.2 p.1)) = mx (l.map Mg.deep) := by
    intro n l
    induction l generalizing n with
    | nil => rfl
    | cons x l ih => simp only [List.zipIdx_cons, List.map_cons, mx, Function.comp, dS_wrap]; rw [ih]
  exact this 0 l
theorem sm_wraps (l : List Mg) : sm ((wraps l).map zS) = sm (l.map fun x => 1 + x.size) := by
  unfold wraps
  rw [List.map_map]
  have : ∀ (n : Nat) (l : List Mg), sm ((l.zipIdx n).map (zS ∘ fun p => wrapS p.2 p.1)) = sm (l.map fun x => 1 + x.size) := by
    intro n l
    induction l generalizing n with
    | nil => rfl
    | cons x l ih => simp only [List.zipIdx_cons, List.map_cons, sm, Function.comp, zS_wrap]; rw [ih]
  exact this 0 l
theorem wraps_len (l : List Mg) : (wraps l).length = l.length := by simp [wraps]
/-- A slot that is written out around a message. -/
def LitAt (B g D : Nat) (w : World) (s : So) (cs : List Value) : Prop := ∃ (x : Mg) (u : Value) (g1 g2 : Nat), s = wrapS s.no.toNat x ∧ cs = [.int .i64 s.no, .slice none 0 0, .slice (some ⟨g2, 0, none⟩) 1 1] ∧
  w.heap[g2]? = some (.cells #[.int .i64 0, .string ⟨#[]⟩, .slice (some ⟨g1, 0, none⟩) 1 1] 30 (0, 0)) ∧ w.heap[g1]? = some (.cells #[u] 24 (0, 0)) ∧ g < g1 ∧ g < g2 ∧ MRd B w (D + 1) x u
/-- What is neither box g nor a row of slots is as it was. -/
def Fr (g : Nat) (w w' : World) : Prop := w.heap.size ≤ w'.heap.size ∧ ∀ k, k < w.heap.size → k ≠ g → (∀ cs fr, w.heap[k]? ≠ some (.cells cs 27 fr)) → w'.heap[k]? = w.heap[k]?
theorem LitAt.on {B g D : Nat} {w w' : World} {s : So} {cs : List Value} (h : LitAt B g D w s cs) (hf : Fr g w w') (hl : Lo B w w') : LitAt B g D w' s cs := by
  obtain ⟨x, u, g1, g2, h1, h2, h3, h4, h5, h6, h7⟩ := h
  refine ⟨x, u, g1, g2, h1, h2, ?_, ?_, h5, h6, MRd.low hl h7⟩
  · exact (hf.2 g2 (box_lt h3) (by omega) fun cs fr e => by rw [h3] at e; simp at e).trans h3
  · exact (hf.2 g1 (box_lt h4) (by omega) fun cs fr e => by rw [h4] at e; simp at e).trans h4
theorem LitAt.len {B g D : Nat} {w : World} (s : So) (cs : List Value) (h : LitAt B g D w s cs) : cs.length = 3 := by obtain ⟨_, _, _, _, _, rfl, _⟩ := h; rfl
theorem LitAt.rd {B g D : Nat} {w : World} {s : So} {cs : List Value} (h : LitAt B g D w s cs) (hB : B ≤ w.heap.size) : SAt' (Rd w.heap.size w) (D + 1) s cs := by
  obtain ⟨x, u, g1, g2, h1, rfl, h3, h4, h5, h6, h7⟩ := h
  have hv : (s.V : List Vl') = [⟨0, [], [x]⟩] := by rw [h1]; rfl
  have hk : (s.K : List Vl') = [] := by rw [h1]; rfl
  refine ⟨_, _, rfl, ?_, ?_⟩
  · rw [hk]; exact ⟨[], ⟨Rr.nil _ _ _, Nat.zero_le _⟩, rfl⟩
  · rw [hv]
    refine ⟨[.int .i64 0, .string ⟨#[]⟩, .slice (some ⟨g1, 0, none⟩) 1 1], lit_row (n := 1) (xs := [.int .i64 0, .string ⟨#[]⟩, .slice (some ⟨g1, 0, none⟩) 1 1]) h3 rfl (by decide) (box_lt h3) _, Rows.single ⟨_, rfl, [u], lit_row (n := 1) (xs := [u]) h4 rfl (by decide) (box_lt h4) _, Rows.single (MRd.mono hB h7)⟩⟩
theorem Fr.below {g : Nat} {w w' : World} (h : Below w.heap.size w w') : Fr g w w' := ⟨h.size, fun k hk _ _ => h.block k hk⟩
theorem Fr.trans {g : Nat} {a b c : World} (h : Fr g a b) (k : Fr g b c) : Fr g a c := ⟨Nat.le_trans h.1 k.1, fun i hi h1 h2 => by
  have e := h.2 i hi h1 h2
  exact (k.2 i (Nat.lt_of_lt_of_le hi h.1) h1 (fun cs fr e2 => h2 cs fr (e ▸ e2))).trans e⟩
theorem Fr.grown {g b n : Nat} {w w' : World} {v : Value} {xs : List Value} (h : w.ownsRow b 27 3 v n xs) (hg : w.grownBy w' v.ownBlock) : Fr g w w' := ⟨hg.size, fun k hk _ h2 => hg.block k hk fun e => by
  rcases h.2 with ⟨rfl, _⟩ | ⟨g', cap, cur, rfl, _, h3, _⟩
  · simp [Value.ownBlock] at e
  · simp only [Value.ownBlock, Option.some.injEq] at e
    subst e
    exact h2 _ _ h3⟩
theorem Fr.set {g : Nat} {w : World} {x : Value} : Fr g w (w.setCell ⟨g, 0, none⟩ x) := ⟨by simp, fun k _ h1 _ => heap_setCell_other _ ⟨g, 0, none⟩ k _ h1⟩
/-- 'append(s, x...)', s a row of the call's own, x any slice: the step. -/
theorem step_append_sl {P : Program} {w : World} {ops : Array Oper} {o : Oper} {a : Act} {K : Act → World → Prop} {Q : Exit → Act → World → Prop} {E : Prop} (hgd : o.guard = none) (s x : Operand) (t : TypeId)
    (ho : o.op = .call { callee := .builtin .append, args := #[s, x], argTypes := #[t, t] })
    (base : Nat) (e : TypeId) (i : TypeInfo) (z : Value) (size bytes : Nat) (ht : P.underlying t = some (.slice e)) (hi : P.info? e = some i) (hz : i.zero = some z)
    (hsize : i.size = size) (hby : i.bytes = bytes) (hzs : z.cells.size = size) (hsz : 0 < size)
    (v : Value) (n : Nat) (xs : List Value) (hs : a.eval s = v) (hown : w.ownsRow base e size v n xs)
    (A : Option Addr) (m c : Nat) (news : List Value) (hx : a.eval x = .slice A m c) (hsl : Sl w A m c size news) (h1 : ∀ u ∈ news, u.oneCell' = true)
    (h63 : n + m ≤ maxLen) (hbytes : (n + m) * bytes ≤ 140737488355328) (hbase : base ≤ w.heap.size)
    (h : ∀ v' w', w'.ownsRow base e size v' (n + m) (xs ++ news) → w.grownBy w' v.ownBlock → K (a.put o.dst v') w') :
    if Region.wanted o (yielded ops a.tmps) = true then Oper.wp P o a w K Q else E := by
  have hw : Region.wanted o (yielded ops a.tmps) = true := by simp [Region.wanted, hgd]
  rw [if_pos hw]
  cases A with
  | some ad => exact wp_append_own w s x t ho base e i z size bytes ht hi hz hsize hby hzs hsz v n xs hs hown ad m c news hx hsl.len (hsl.cell ad rfl) h1 h63 hbytes hbase fun v' w' h2 h3 _ => h v' w' h2 h3
  | none =>
    obtain rfl := hsl.nil rfl
    obtain rfl : m = 0 := by have := hsl.le; omega
    obtain rfl : news = [] := List.eq_nil_of_length_eq_zero (by rw [hsl.len]; simp)
    have hrun := run_append_owned_none (P := P) (w := w) base t o.type e i size ht hi v n xs hown
    unfold Oper.wp
    simp [execOp, ho, resolve, invoke, builtin, hs, hx, hrun, Result.andThen]
    exact h v w (by simpa using hown) (World.grownBy.refl _ _)
/-- A row of one slot, just made. -/
theorem row_sl3 {w : World} {g : Nat} {a b c : Value} {t : TypeId} {fr : Nat × Nat} (h : w.heap[g]? = some (.cells #[a, b, c] t fr)) : Sl w (some ⟨g, 0, none⟩) 1 1 3 [a, b, c] := by
  have h1 := lit_row (B := w.heap.size) (n := 1) (size := 3) (xs := [a, b, c]) h rfl (by decide) (box_lt h) 27
  obtain ⟨A, c', e, hs, -⟩ := h1.1
  obtain ⟨rfl, -, rfl⟩ := (by simpa using e)
  exact hs
/-- Behind an append onto a row that lies above a box: the box and what lies below it. -/
theorem app_facts {W w' : World} {g n : Nat} {e t : TypeId} {size : Nat} {v u x : Value} {ys : List Value} {a : Addr} (hown : W.ownsRow (g + 1) e size v n ys) (hgr : W.grownBy w' v.ownBlock) (hs : g + 1 ≤ W.heap.size) (hX : W.heap[g]? = some (.cells #[u] t (0, 0))) (hA : W.cell? a = some x) (hlt : a.block < g) :
    w'.heap[g]? = some (.cells #[u] t (0, 0)) ∧ w'.cell? a = some x ∧ (∀ y, (w'.setCell ⟨g, 0, none⟩ y).cell? a = some x) ∧ w'.cell? ⟨g, 0, none⟩ = some u ∧ w'.frozen? ⟨g, 0, none⟩ = false := by
  have hb := below_rows hown hgr hs
  have h1 : w'.heap[g]? = some (.cells #[u] t (0, 0)) := (hb.block _ (Nat.lt_succ_self _)).trans hX
  have h2 : w'.cell? a = some x := (hb.cell (by omega)).trans hA
  refine ⟨h1, h2, fun y => ?_, bx1 h1, by simp [World.frozen?, h1]⟩
  rw [World.cell?_of_block (heap_setCell_other _ ⟨g, 0, none⟩ _ _ (by show a.block ≠ g; omega))]
  exact h2
theorem sums_le {l : List Mg} (h : ∀ m ∈ l, Fit 3000 60 m) : sm (l.map fun x => 1 + x.size) ≤ l.length * 3001 := by
  induction l with
  | nil => simp [sm]
  | cons x l ih =>
    have h1 := (h x (by simp)).cnt
    have h2 := size_le_cnt x
    have h3 := ih fun m hm => h m (List.mem_cons_of_mem _ hm)
    simp only [List.map_cons, sm, List.length_cons, Nat.succ_mul]
    omega
theorem mxs_le {l : List Mg} (h : ∀ m ∈ l, Fit 3000 60 m) : mx (l.map Mg.deep) ≤ 60 := mx_le fun x hx => by
  obtain ⟨m, hm, rfl⟩ := List.mem_map.1 hx
  exact (h m hm).deep
/-- What the loop keeps: what lies in the box, the rows, and what was counted. -/
structure Inv (l : List Mg) (D : Nat) (w w1 : World) (k : Nat) (wr : World) (v : Value) (xs : List Value) : Prop where
  box : wr.heap[w1.heap.size]? = some (.cells #[v] 24 (0, 0))
  own : wr.ownsRow (w1.heap.size + 1) 27 3 v k xs
  lit : Rows (LitAt w.heap.size w1.heap.size D wr) (wraps (l.take k)) xs
  fit : ∀ m ∈ l.take k, Fit 3000 60 m
  low : Below w1.heap.size w1 wr
theorem Inv.next {l : List Mg} {D : Nat} {w w1 wr w2 W3 wn : World} {k g : Nat} {v x : Value} {ys : List Value} {a : Mg} {An : Option Addr} {cn : Nat} (hb1 : Below w.heap.size w w1) (I : Inv l D w w1 k wr v ys) (hb2 : Below wr.heap.size wr w2) (hD3 : Below w2.heap.size w2 W3) (ha : l[k]? = some a) (hf : Fit 3000 60 a)
    (hx : MRd w.heap.size wr (D + 1) a x) (hg : w2.heap.size = g) (t1 : W3.heap[g]? = some (.cells #[x] 24 (0, 0))) (t2 : W3.heap[g + 1]? = some (.cells #[.int .i64 0, .string ⟨#[]⟩, .slice (some ⟨g, 0, none⟩) 1 1] 30 (0, 0)))
    (hown : W3.ownsRow (w1.heap.size + 1) 27 3 v k ys) (hX : wn.heap[w1.heap.size]? = some (.cells #[v] 24 (0, 0))) (hgr : W3.grownBy wn v.ownBlock)
    (hrow : wn.ownsRow (w1.heap.size + 1) 27 3 (.slice An (k + 1) cn) (k + 1) (ys ++ [.int .i64 k, .slice none 0 0, .slice (some ⟨g + 1, 0, none⟩) 1 1])) :
    Inv l D w w1 (k + 1) (wn.setCell ⟨w1.heap.size, 0, none⟩ (.slice An (k + 1) cn)) (.slice An (k + 1) cn) (ys ++ [.int .i64 k, .slice none 0 0, .slice (some ⟨g + 1, 0, none⟩) 1 1]) := by
  obtain ⟨hbx, hbg⟩ := one_set hX (.slice An (k + 1) cn)
  have hlt := box_lt I.box
  have hs1 : w1.heap.size ≤ w2.heap.size := Nat.le_trans (Nat.le_of_lt hlt) hb2.size
  have hs2 : w1.heap.size + 1 ≤ w2.heap.size := Nat.le_trans hlt hb2.size
  have hs3 : w1.heap.size + 1 ≤ W3.heap.size := Nat.le_trans (Nat.le_trans hlt hb2.size) hD3.size
  have hfr : Fr w1.heap.size W3 (wn.setCell ⟨w1.heap.size, 0, none⟩ (.slice An (k + 1) cn)) := (Fr.grown hown hgr).trans Fr.set
  have hl3 : Below w1.heap.size w1 W3 := (I.low.trans (hb2.mono (Nat.le_of_lt hlt))).trans (hD3.mono hs1)
  have hlow : Below w1.heap.size w1 (wn.setCell ⟨w1.heap.size, 0, none⟩ (.slice An (k + 1) cn)) :=
    (hl3.trans ((below_rows hown hgr hs3).mono (Nat.le_succ _))).trans (below_own hbg (Nat.le_refl _) (Nat.le_trans hl3.size hgr.size))
  have hB : w.heap.size ≤ w1.heap.size := hb1.size
  have hlo : Lo w.heap.size wr (wn.setCell ⟨w1.heap.size, 0, none⟩ (.slice An (k + 1) cn)) := by
    have e1 : Lo w.heap.size wr W3 := Lo.of (((hb2.mono (Nat.le_of_lt hlt)).trans (hD3.mono hs1)).mono hB)
    have e2 : Below w1.heap.size W3 (wn.setCell ⟨w1.heap.size, 0, none⟩ (.slice An (k + 1) cn)) := ((below_rows hown hgr hs3).mono (Nat.le_succ _)).trans (below_own hbg (Nat.le_refl _) (Nat.le_trans hl3.size hgr.size))
    exact e1.trans (Lo.of (e2.mono hB))
  refine ⟨hbx, own_hi hrow (hi_grown hbg (Nat.lt_succ_self _)), ?_, fun m hm => ?_, hlow⟩
  · rw [wraps_take l k a ha]
    refine (I.lit.imp fun s cs h => LitAt.on h ((Fr.below hb2).trans ((Fr.below hD3).trans hfr)) hlo).append (Rows.single ⟨a, x, g, g + 1, ?_, rfl, ?_, ?_, by omega, by omega, MRd.low hlo hx⟩)
    · rfl
    · exact (hfr.2 _ (box_lt t2) (by omega) fun cs fr e => by rw [t2] at e; simp at e).trans t2
    · exact (hfr.2 _ (box_lt t1) (by omega) fun cs fr e => by rw [t1] at e; simp at e).trans t1
  · rcases mem_take_next ha hm with hm | rfl
    · exact I.fit m hm
    · exact hf
theorem Inv.on {l : List Mg} {D : Nat} {w w1 wr w2 : World} {k : Nat} {v : Value} {ys : List Value} (I : Inv l D w w1 k wr v ys) (hb : w.heap.size ≤ w1.heap.size) (h : Below wr.heap.size wr w2) : Inv l D w w1 k w2 v ys :=
  ⟨box_on I.box h, own_hi I.own (hi_below _ h), I.lit.imp fun s cs hl => LitAt.on hl (Fr.below h) (Lo.below h (Nat.le_trans hb I.low.size)), I.fit, I.low.trans (h.mono I.low.size)⟩
set_option maxRecDepth 1000000 in
set_option maxHeartbeats 4000000 in
theorem walk (w : World) (v : Value) (l : List Mg) (k : Nat) (hl : LsAt (Rd w.heap.size w) 24 1 (MAt (Rd w.heap.size w) k) l v) :
    Calls Try.prog 6 #[v] w fun e w' => e = .returned (.bool true) ∧ Below w.heap.size w w' := by
  obtain ⟨D, hD⟩ : ∃ D, D = k := ⟨_, rfl⟩
  have hl0 : LsAt (Rd w.heap.size w) 24 1 (MAt (Rd w.heap.size w) (D + 1)) l v := hl.imp (fun _ _ _ _ _ h => h) fun m cs h => MAt.more (by omega) m cs h
  clear hl hD
  obtain ⟨A, c, xs, rfl, hs, hb, hr, hn⟩ := hl0.open_
  have HS := Lib.hid hs
  have HR := Lib.hid hr
  have HBB := Lib.hid hb
  clear hs hr hl0 hb
  go_enter Try.func6, Try.ntmps6
  go_wp2_with fail
  refine (awake9_any _).mono ?_
  rintro e w1 ⟨rfl, hb1⟩
  by_cases h20 : 20 < l.length
  · have hg : decide ((20 : Int) < (l.length : Int)) = true := by rw [decide_eq_true_iff]; omega
    have hg2 : decide (20 < l.length) = true := by rw [decide_eq_true_iff]; omega
    go_wp2
    go_ret
    exact ⟨rfl, hb1⟩
  have hg : decide ((20 : Int) < (l.length : Int)) = false := by rw [decide_eq_false_iff_not]; omega
  have hg2 : decide (20 < l.length) = false := by rw [decide_eq_false_iff_not]; omega
  go_wp2
  go_loopw [5, 6, 7] (fun dd zz i wr => ∃ (k : Nat) (v : Value) (xs : List Value), dd = .int .i64 ((mx ((l.take k).map Mg.deep) : Nat) : Int) ∧ zz = .int .i64 ((sm ((l.take k).map fun x => 1 + x.size) : Nat) : Int) ∧ i = .int .i64 (k : Int) ∧ k ≤ l.length ∧ Inv l D w w1 k wr v xs) (fun _ _ i _ => l.length - (intOf i).toNat)
  case atStart =>
    refine ⟨0, _, [], rfl, rfl, rfl, by omega, ⟨heap_alloc_new w1 _, World.ownsRow_nil _ _ _ _, ?_, fun m hm => by simp at hm, below_new _ _⟩⟩
    exact rfl
  case round =>
    obtain ⟨k, v, ys, rfl, rfl, rfl, hk, I⟩ := hrel
    by_cases hlt : k < l.length
    · obtain ⟨a, ha⟩ : ∃ a, l[k]? = some a := ⟨_, List.getElem?_eq_getElem hlt⟩
      have hlow : Lo w.heap.size w wr := Lo.of ((hb1.trans (I.low.mono hb1.size)))
      have hbw : Below w.heap.size w wr := hb1.trans (I.low.mono hb1.size)
      obtain ⟨ad, x, rfl, hg0, hc0, c00⟩ := row1 MAt.len HS.out HR.out ha
      have hg : ad.block < wr.heap.size := Nat.lt_of_lt_of_le hg0 hbw.size
      have hc := MRd.low hlow hc0
      have c0 := cell_on hbw c00
      have HC := Lib.hid (few_one w.heap.size (D + 1) a x 60 wr (Nat.le_trans hb1.size I.low.size) hc (by omega))
      have HA := Lib.hid ha
      have HX := Lib.hid hc
      have HX0a := Lib.hid (fun wf (h : Below w1.heap.size w1 wf) => MRd.low (Lo.of ((hb1.trans (h.mono hb1.size)))) hc0)
      have HI := Lib.hid I
      clear hc ha I hc0 c00 hg0 hbw hlow
      go_wp2_with fail
      refine HC.out.mono ?_
      rintro e w2 ⟨r, rfl, hf, hb2⟩
      cases r with
      | false =>
        go_wp2
        go_ret
        exact ⟨rfl, hb1.trans ((HI.out.low.trans (hb2.mono HI.out.low.size)).mono hb1.size)⟩
      | true =>
        have HF := Lib.hid (hf rfl)
        have HB2 := Lib.hid hb2
        have X0 := box_on HI.out.box hb2
        have g4 := bx1 X0
        have ga := (cell_on hb2 c0)
        have hown2 := own_hi HI.out.own (hi_below (w1.heap.size + 1) hb2)
        obtain ⟨T1, T2, T3, L3⟩ := three_boxes w2 (.cells #[x] 24) (.cells #[.int .i64 0, .string ⟨#[]⟩, .slice (some ⟨w2.heap.size, 0, none⟩) 1 1] 30) (.cells #[.int .i64 k, .slice none 0 0, .slice (some ⟨w2.heap.size + 1, 0, none⟩) 1 1] 27)
        have HD3 := Lib.hid (L3.trans (Below.refl _ _).drew)
        have hown3 := Lib.hid (own_hi hown2 (hi_below (w1.heap.size + 1) HD3.out))
        have HT := Lib.hid (And.intro T1 (And.intro T2 T3))
        have hsl3 := Lib.hid (row_sl3 (w := (((w2.alloc (.cells #[x] 24)).alloc (.cells #[.int .i64 0, .string ⟨#[]⟩, .slice (some ⟨w2.heap.size, 0, none⟩) 1 1] 30)).alloc (.cells #[.int .i64 k, .slice none 0 0, .slice (some ⟨w2.heap.size + 1, 0, none⟩) 1 1] 27)).drew) T3)
        have HX0 := Lib.hid (box_on X0 HD3.out)
        have HSX := Lib.hid (fun c (hb : Below w2.heap.size w2 c) => cell_on hb ga)
        have HD0 := Lib.hid ((Below.refl w2.heap.size w2).drew)
        have hbase : w1.heap.size + 1 ≤ w2.heap.size := Nat.le_trans (box_lt HI.out.box) HB2.out.size
        have HLT := Lib.hid (show (ad.add k).block < w1.heap.size by rw [show (ad.add k).block = ad.block from add_same_block _ _]; have h1 := HBB.out ad rfl (by omega); have h2 := hb1.size; omega)
        obtain ⟨i0, hi0, hz0, hzs, hzb⟩ := info_parts info_slot
        have h1c : ∀ u ∈ [Value.int .i64 k, .slice none 0 0, .slice (some ⟨w2.heap.size + 1, 0, none⟩) 1 1], u.oneCell' = true := by intro u hu; simp at hu; rcases hu with rfl | rfl | rfl <;> rfl
        have g4a := cell_on (below_new w2 (.cells #[x] 24)) g4
        have g4b := cell_on (two_boxes w2 (.cells #[x] 24) (.cells #[.int .i64 0, .string ⟨#[]⟩, .slice (some ⟨w2.heap.size, 0, none⟩) 1 1] 30)).2.2 g4
        have g4c := cell_on L3 g4
        have n0 : w1.heap.size ≠ w2.heap.size := by omega
        have n1 : w1.heap.size ≠ w2.heap.size + 1 := by omega
        have n2 : w1.heap.size ≠ w2.heap.size + 2 := by omega
        have n3 : w1.heap.size ≠ w2.heap.size + 1 + 1 := by omega
        clear hf hb2 c0 X0 hown2 T1 T2 T3 L3
        go_wp2
        go_region_law
          ((refine step_append_sl rfl _ _ 22 rfl (w1.heap.size + 1) 27 i0 (.agg #[.int .i64 0, .slice none 0 0, .slice none 0 0]) 3 56 Try.underlying22 hi0 hz0 hzs hzb rfl (by decide) v k ys (by simp [Act.eval, Act.put]) hown3.out (some ⟨w2.heap.size + 2, 0, none⟩) 1 1 _ (by simp [Act.eval, Act.put]) hsl3.out h1c (by unfold maxLen; omega) (by omega) (Nat.le_trans hbase HD3.out.size) ?_; intro vn wn hrow hgr; obtain ⟨An, cn, rfl, -⟩ := Sl.of_own hrow; obtain ⟨hxn, hk1, hk2, hx0, hf0⟩ := app_facts hown3.out hgr (Nat.le_trans hbase HD3.out.size) HX0.out (HSX.out _ HD3.out) HLT.out; have HK := Lib.hid (And.intro hk1 hk2); have HXN := Lib.hid hxn; have HROW := Lib.hid hrow; have HGR := Lib.hid hgr; clear hrow hgr hxn hk1 hk2))
        all_goals
          have HN := Lib.hid (Inv.next hb1 HI.out HB2.out HD3.out HA.out HF.out HX.out rfl HT.out.1 HT.out.2.1 hown3.out HXN.out HGR.out HROW.out)
          have ga1 := HK.out.2 (.slice An (k + 1) cn)
          generalize wn.setCell ⟨w1.heap.size, 0, none⟩ (.slice An (k + 1) cn) = wf at *
          clear HXN HROW HGR HK
          have hBf : w.heap.size ≤ wf.heap.size := Nat.le_trans hb1.size HN.out.low.size
          have hcnt := HF.out.cnt
          have hdp := HF.out.deep
          have hsz := size_le_cnt a
          have hrd := HX0a.out wf HN.out.low
          have HZ := Lib.hid (size_any w.heap.size (D + 1) a x wf hBf hrd (by omega))
          have HDP := Lib.hid (fun wy (hy : Below wf.heap.size wf wy) => deep_any w.heap.size (D + 1) a x wy (Nat.le_trans hBf hy.size) (MRd.low (Lo.below hy hBf) hrd) (by omega))
          clear hrd
          have hs1 := sm_take_next (fun x : Mg => 1 + x.size) HA.out
          have hm1 := mx_take_next Mg.deep HA.out
          have hs2 := sums_le HI.out.fit
          have hm2 := mxs_le HI.out.fit
          have hl2 : (l.take k).length ≤ 20 := by rw [List.length_take]; omega
          have hs3 : sm ((l.take k).map fun x => 1 + x.size) ≤ 20 * 3001 := Nat.le_trans hs2 (Nat.mul_le_mul_right _ hl2)
          obtain ⟨S0, hS0⟩ : ∃ S0, S0 = sm ((l.take k).map fun x => 1 + x.size) := ⟨_, rfl⟩
          obtain ⟨M0, hM0⟩ : ∃ M0, M0 = mx ((l.take k).map Mg.deep) := ⟨_, rfl⟩
          have hS0' : sm (List.take k (List.map (fun x => 1 + x.size) l)) = S0 := by rw [hS0, List.map_take]
          have hM0' : mx (List.take k (List.map Mg.deep l)) = M0 := by rw [hM0, List.map_take]
          rw [← hS0] at hs1 hs3
          rw [← hM0] at hm1 hm2
          have HS1 := Lib.hid hs1
          have HM1 := Lib.hid hm1
          (try rw [hS0']); (try rw [hM0']); (try rw [← hS0]); (try rw [← hM0])
          clear hs1 hm1 hs2 hl2 hS0 hM0 hS0' hM0'
          by_cases hgt : M0 < a.deep
          · have e1 : decide ((M0 : Int) < (a.deep : Int)) = true := by rw [decide_eq_true_iff]; omega
            have e2 : decide (M0 < a.deep) = true := by rw [decide_eq_true_iff]; omega
            go_wp2_with (first
              | (go_at_call 22; refine (HZ.out).mono ?_; rintro e w5 ⟨rfl, hb5⟩; have ga2 := cell_on hb5 ga1)
              | (go_at_call 20; (with_reducible refine (HDP.out _ hb5).mono ?_); rintro e w6 ⟨rfl, hb6⟩; have L6 := below_then hb5 hb6; have ga3 := cell_on L6 ga1)
              | (go_at_call 20; (with_reducible refine (HDP.out _ L6).mono ?_); rintro e w7 ⟨rfl, hb7⟩; have L7 := below_then L6 hb7)
              | fail)
            refine ⟨⟨k + 1, _, _, ?_, ?_, by go_num, by omega, HN.out.on hb1.size L7⟩, by simp [intOf]; omega⟩
            · rw [HM1.out, Nat.max_eq_right (Nat.le_of_lt hgt)]
            · rw [HS1.out]; go_num
          · have e1 : decide ((M0 : Int) < (a.deep : Int)) = false := by rw [decide_eq_false_iff_not]; omega
            have e2 : decide (M0 < a.deep) = false := by rw [decide_eq_false_iff_not]; omega
            go_wp2_with (first
              | (go_at_call 22; refine (HZ.out).mono ?_; rintro e w5 ⟨rfl, hb5⟩; have ga2 := cell_on hb5 ga1)
              | (go_at_call 20; (with_reducible refine (HDP.out _ hb5).mono ?_); rintro e w6 ⟨rfl, hb6⟩; have L6 := below_then hb5 hb6)
              | fail)
            refine ⟨⟨k + 1, _, _, ?_, ?_, by go_num, by omega, HN.out.on hb1.size L6⟩, by simp [intOf]; omega⟩
            · rw [HM1.out, Nat.max_eq_left (Nat.le_of_not_lt hgt)]
            · rw [HS1.out]; go_num
    · obtain rfl : k = l.length := by omega
      have hln : (wraps (l.take l.length)).length = l.length := by rw [wraps_len, List.take_length]
      have hls : LsAt (Rd wr.heap.size wr) 27 3 (SAt' (Rd wr.heap.size wr) (D + 1)) (wraps l) v := by
        have h := own_ls (l := wraps (l.take l.length)) (B := wr.heap.size) (D := D + 1) (by rw [hln]; exact I.own) (by omega) (Nat.le_refl _) (I.lit.imp fun s cs h => LitAt.rd h (Nat.le_trans hb1.size I.low.size))
        rwa [List.take_length] at h
      have hm : MRd wr.heap.size wr (D + 1 + 1) (.mk (wraps l)) v := ⟨v, rfl, hls⟩
      have hs2 := sums_le I.fit
      have hm2 := mxs_le I.fit
      rw [List.take_length] at hs2 hm2
      have hdeep : (Mg.mk (wraps l)).deep = mx (l.map Mg.deep) + 1 := by rw [Mg.deep_eq, Nat.add_comm]; exact congrArg (· + 1) (mx_wraps l)
      have hsize : (Mg.mk (wraps l)).size = sm (l.map fun x => 1 + x.size) := by rw [Mg.size_eq]; exact sm_wraps l
      have hs3 : sm (l.map fun x => 1 + x.size) ≤ 20 * 3001 := Nat.le_trans hs2 (Nat.mul_le_mul_right _ (by omega))
      have HZ := Lib.hid (fun wy (hy : Below wr.heap.size wr wy) => size_any wr.heap.size (D + 1 + 1) _ v wy hy.size (MRd.low (Lo.below hy (Nat.le_refl _)) hm) (by rw [hsize]; omega))
      have HDP := Lib.hid (fun wy (hy : Below wr.heap.size wr wy) => deep_any wr.heap.size (D + 1 + 1) _ v wy hy.size (MRd.low (Lo.below hy (Nat.le_refl _)) hm) (by rw [hdeep]; omega))
      rw [hdeep] at HDP
      rw [hsize] at HZ
      have L0 : Below wr.heap.size wr wr := Below.refl _ _
      have g4 := bx1 I.box
      have HI := Lib.hid I
      clear hm hls I
      go_wp2_with (first
        | (go_at_call 20; (with_reducible refine (HDP.out _ L0).mono ?_); rintro e w6 ⟨rfl, hb6⟩; have g5 := cell_on hb6 g4)
        | (go_at_call 22; (with_reducible refine (HZ.out _ hb6).mono ?_); rintro e w7 ⟨rfl, hb7⟩; have L7 := below_then hb6 hb7)
        | fail)
      go_ret
      exact ⟨rfl, hb1.trans ((HI.out.low.trans (L7.mono HI.out.low.size)).mono hb1.size)⟩
theorem contract (H : Type) (enc : TypeId × Value → H) (W : World) (base : Nat) (args : Array Value) (ds gs : List (DataW H)) (before : List MemPlace)
    (hval0 : ∀ (j : Nat) t v, Try.f6.params[j]? = some t → args[j]? = some v → Value.okWide Try.prog W .any base t v)
    (hW : DataW.Whole enc Try.prog Try.f6.params.toList Rows.valueDeepSpec.vars false W args.toList ds gs before) (hsz : (DataW.weightsEach Try.prog (Try.f6.params.toList ++ (OpenSpec.ofChange Rows.valueDeepSpec).bare.plain.varTypes Try.prog) (ds ++ gs)).all (· ≤ reachBytes) = true) (hL : laidMetH Try.prog Rows.valueDeepRow.laid W) :
    Calls Try.prog 6 args W fun e W2 => ∃ v, e = .returned v ∧ Rows.valueDeepSpec.post enc Try.prog Try.f6 false true false false W args v W2 := by
  have hval : ∀ (j : Nat) t v, Try.f6.params[j]? = some t → args[j]? = some v → Value.okWide Try.prog W .any base t v := hval0
  have hW2 := hW
  obtain ⟨p, q, hA0, hV, rfl, hfz, hnd⟩ := hW
  have hA : DataW.TrodAll enc Try.prog W 0 (fun _ => true) true Try.f6.params.toList args.toList ds p := hA0
  rw [Try.params6] at hA hval
  obtain ⟨v0, vs0, d0, ds0, p0, q0, hargs, rfl, rfl, h0, r0⟩ := trodAll_cons hA
  obtain ⟨rfl, rfl, rfl⟩ := trodAll_nil r0
  obtain rfl : args = #[v0] := by cases args; simp_all
  obtain ⟨rfl, rfl⟩ := trodVars_none hV
  obtain ⟨ms0, k0, hm0⟩ := open_msgs (hval 0 28 v0 rfl rfl) h0 (szd_each (fun k hk => of_decide_eq_true (List.all_eq_true.1 hsz k hk)) 0 _ _ rfl rfl)
  refine (walk W v0 ms0 k0 hm0).mono fun e W2 ⟨he, hb⟩ => ?_
  subst he
  exact ⟨_, rfl, law_post (by kernel_rfl) rfl rfl (by decide +kernel) hW2 hb⟩
theorem laid_met (os : Os) : laidMetH Try.prog Rows.valueDeepRow.laid ((World.laidAll Try.prog os Rows.valueDeepRow.laid).forCall (fun _ _ => 0) ⟨#[], #[.slice none 0 0], []⟩).memory := by
  rw [MakeChecks.laidMetH_plain _ _ _ (by kernel_rfl)]
  exact laidMet_laidAll _ (by kernel_rfl) (by kernel_rfl)
theorem reads (os : Os) {H : Type} (enc : TypeId × Value → H) : ∃ places, DataW.whole enc Try.prog ((World.laidAll Try.prog os Rows.valueDeepRow.laid).forCall (fun _ _ => 0) ⟨#[], #[.slice none 0 0], []⟩).memory Try.f6.params.toList Rows.valueDeepSpec.vars false (#[.slice none 0 0] : Array Value).toList 8 = some ([.nil], [], places) := ⟨[], by kernel_rfl⟩
set_option maxRecDepth 100000 in
theorem lifted (os : Os) (started : os.Started) (H : Type) (enc : TypeId × Value → H) (F : Stop.Interp) :
    ReturnsInHanded {} Try.checked os 6 .any ((OpenSpec.ofChange Rows.valueDeepSpec).preRow enc Try.prog Try.f6 Rows.valueDeepRow.domain false Rows.valueDeepRow.laid) (((OpenSpec.ofChange Rows.valueDeepSpec).at F).post enc Try.prog Try.f6 false true false false) := by
  obtain ⟨places, hx⟩ := reads os enc
  refine returnsInHanded_of_row (C := Try.checked) (s := OpenSpec.ofChange Rows.valueDeepSpec) own started (by kernel_rfl) Try.func6
    (witness_row_at (enc := enc) (C := Try.checked) false (World.laidAll Try.prog os Rows.valueDeepRow.laid) #[.slice none 0 0] (World.laidAll_os _ _ _) (by kernel_rfl) (by kernel_rfl) (by kernel_rfl)
      (OpenSpec.preRow_of_cond 8 hx (by kernel_rfl) (fun k hk => by cases hk) (by kernel_rfl) (laid_met os))) ?_
  intro W base args ds gs before hval hW _ _ hsz hL _ _
  exact contract H enc W base args ds gs before hval hW hsz hL
theorem said : Rows.ValueDeepSaid :=
  OpenClaim.holds_of_cond 6 Try.f6 rfl rfl rfl rfl rfl rfl rfl ⟨rfl, rfl, rfl, rfl, rfl⟩ rfl rfl rfl rfl rfl (by kernel_rfl) Try.func6 (by kernel_rfl)
    (of_decide_eq_true (by kernel_rfl)) (by unfold Func.isWrapper; first | (rw [if_pos (by decide +kernel)]; kernel_rfl) | (rw [if_neg (by decide +kernel)]; exact ⟨rfl, rfl⟩))
    (fun os started H enc _ F => by rw [OpenClaim.pre_eq_preRow]; exact lifted os started H enc F)
theorem proved : Rows.ValueDeepSaid := said

end Go.Proofs.Ytaepmccfiliiiaa.lawValueDeep
