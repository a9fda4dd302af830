/-
 What a record's part of a slot, and of a message, is to do.
-/
import Derived.Test.YtckcojkpghiclaaGreatDoorDecDel2
import Derived.Test.YtckcojkpghiclaaGreatDoorDecTakeM
namespace Go.Proofs.YtckcojkpghiclaaGreatDoor.T11
set_option maxRecDepth 100000
open Go.RowKit
open Go.Proofs.YtckcojkpghiclaaGreatDoor.T9 Go.Proofs.YtckcojkpghiclaaGreatDoor.T4
def SPost (wo : World) (s : Sc) (n : Nat) (f : Df) (K g o : Nat) (t : SLo LM) (D : Except Nat So) (w : World) (e : Ending) (w' : World) : Prop :=
 (∃ er : Nat, D = .error er ∧ e = .panicked [{ v := errP er, recovered := false }] ∧ Below wo.heap.size w w') ∨
 (∃ t' : SLo LM, D = .ok (bareS t') ∧ t'.no = t.no ∧ e = .returned (.tuple #[]) ∧ UpdS g o t' (blocks (rowsS t)) w w' ∧ Lies wo.heap.size K w' (rowsS t') ∧ g ∉ blocks (rowsS t') ∧ (∀ q ∈ blocks (rowsS t'), q < w.heap.size → q ∈ blocks (rowsS t)) ∧ (f.kind = 9 → ∀ v ∈ t'.V, ∃ y, v.M = [y] ∧ Full s n f.ref y))
def MPost (wo : World) (s : Sc) (n : Nat) (m : Int) (K : Nat) (p : Addr) (x : LM) (D : Except Nat (List So)) (w : World) (e : Ending) (w' : World) : Prop :=
 (∃ er : Nat, D = .error er ∧ e = .panicked [{ v := errP er, recovered := false }] ∧ Below wo.heap.size w w') ∨
 (∃ x' : LM, D = .ok (x'.F.map bareS) ∧ e = .returned (.tuple #[]) ∧ Upd p x'.v (blocks x.rows) w w' ∧ Lies wo.heap.size K w' x'.rows ∧ p.block ∉ blocks x'.rows ∧ (∀ q ∈ blocks x'.rows, q < w.heap.size → q ∈ blocks x.rows) ∧ Full s n m x')
theorem upd_below {b : Nat} {w w' : World} {p : Addr} {v : Value} {ids : List Nat} (h : Upd p v ids w w') (hb : b ≤ w.heap.size) (hp : b ≤ p.block) (hi : ∀ k ∈ ids, b ≤ k) : Below b w w' := by
 refine ⟨h.os, h.tape, h.output, h.size, fun k hk => ?_⟩
 rw [h.block k (Nat.lt_of_lt_of_le hk hb) (fun hm => by have := hi k hm; omega), setCell_at]
 cases w.heap[k]? with
 | none => rfl
 | some z => simp only [Option.map_some]; rw [if_neg (by omega)]
theorem Got1.post {wo : World} {s : Sc} {n : Nat} {m : Int} {f : Df} {K K' : Nat} {p : Addr} {no : Int} {x : LM} {w w1 w2 : World} {g c : Nat} {l1 l2 : List (SLo LM)} {t : SLo LM} {e : Ending} {G : So → Except Nat So} (h : Got1 wo.heap.size K p no x w g c l1 t l2 w1) (hbo : wo.heap.size ≤ w.heap.size) (hpo : wo.heap.size ≤ p.block) (hs : p.spot = none) (hp : p.block < w.heap.size) (hids : ∀ k ∈ blocks x.rows, wo.heap.size ≤ k) (hf : byS s m no = some f) (hful : Full s (n + 1) m x) (hK : K ≤ K')
  (hS : SPost wo s n f K' g (l1.length * 3) t (G (bareS t)) w1 e w2) : MPost wo s (n + 1) m K' p x (onSlot no G (x.F.map bareS)) w e w2 := by
 rw [h.step G]
 rcases hS with ⟨er, h1, h2, h3⟩ | ⟨t', h1, h2, h3, h4, h5, h6, h7, h8⟩
 ·exact .inl ⟨er, by rw [h1]; rfl, h2, (upd_below h.upd hbo hpo hids).trans h3⟩
 ·obtain ⟨k1, k2, k3, k4⟩ := h.done hs hp h2 h4 h5 h6 h7 hK
  refine .inr ⟨LM.mk (.slice (some ⟨g, 0, none⟩) (l1 ++ t' :: l2).length c) (l1 ++ t' :: l2), ?_, h3, k1, k2, k3, k4, fun u hu f' hf' h9 v hv => ?_⟩
  ·rw [h1]
   show Except.ok _ = Except.ok _
   congr 1
   show _ = (l1 ++ t' :: l2).map bareS
   rw [List.map_append, List.map_cons]
  ·rcases List.mem_append.1 hu with hu | hu
   ·exact hful u (h.rest u (.inl hu)) f' hf' h9 v hv
   ·rcases List.mem_cons.1 hu with rfl | hu
    ·rw [h2, h.nume] at hf'
     obtain rfl : f = f' := Option.some.inj (hf.symm.trans hf')
     exact h8 h9 v hv
    ·exact hful u (h.rest u (.inr hu)) f' hf' h9 v hv
theorem Got1.full {b : Nat} {s : Sc} {n : Nat} {m : Int} {f : Df} {K : Nat} {p : Addr} {no : Int} {x : LM} {w w1 : World} {g c : Nat} {l1 l2 : List (SLo LM)} {t : SLo LM} (h : Got1 b K p no x w g c l1 t l2 w1) (hf : byS s m no = some f) (hful : Full s (n + 1) m x) : f.kind = 9 → ∀ v ∈ t.V, ∃ y, v.M = [y] ∧ Full s n f.ref y := by
 intro h9 v hv
 rcases h.from_ with ht | ⟨rfl, -, -⟩
 ·exact hful t ht f (by rw [h.nume]; exact hf) h9 v hv
 ·cases hv
def numV (n : Int) : VL LM := ⟨n, [], .slice none 0 0, []⟩
theorem numV_rows (l : List Int) : ((l.map numV).map rowsV).flatten = l.map fun _ => (⟨31, 1, .slice none 0 0, 0, []⟩ : Rw) := by
 induction l with
 | nil => rfl
 | cons a l ih => rw [List.map_cons, List.map_cons, List.flatten_cons, ih]; rfl
theorem numV_cells (l : List Int) : (l.map numV).flatMap cV' = nums3 l := by
 induction l with
 | nil => rfl
 | cons a l ih => rw [List.map_cons, List.flatMap_cons, ih]; rfl
theorem nil_blocks (l : List Int) : blocks (l.map fun _ => (⟨31, 1, .slice none 0 0, 0, []⟩ : Rw)) = [] := by
 induction l with
 | nil => rfl
 | cons a l ih => rw [List.map_cons]; unfold blocks at ih ⊢; rw [List.filterMap_cons]; exact ih
theorem blocks_of {r : Rw} {l : List Rw} {q : Nat} : q ∈ blocks (r :: l) ↔ r.v.ownBlock = some q ∨ q ∈ blocks l := by
 unfold blocks
 rw [List.filterMap_cons]
 cases h : r.v.ownBlock with
 | none => simp
 | some k => simp [List.mem_cons, eq_comm]
set_option maxHeartbeats 1000000 in
theorem packedL {wo : World} {s : Sc} {vM vE : Value} {A : Option Addr} {c : Nat} {l : List UInt8} (n : Nat) (f : Df) (r : Rc) (g o : Nat) (t : SLo LM) (K : Nat) (w : World) (hr : SlB w A c l) (hl : l.length ≤ 1000000000) (hb : wo.heap.size ≤ w.heap.size) (hg : g < w.heap.size) (hA : AtSlo g o t w) (hL : Lies wo.heap.size K w (rowsS t)) (hgn : g ∉ blocks (rowsS t)) (hf1 : r.frm ≤ r.upto) (hf2 : r.upto ≤ l.length) (hK : K ≤ 1000000000) (h9 : f.kind ≠ 9) :
  Calls Tryz.prog 150 #[.agg #[vM, vE, .slice A l.length c], .pointer (some ⟨g, o, none⟩), .agg #[.int .i64 f.no, .string (txt f.name), .int .i64 f.kind, .int .i64 f.ref, .bool f.rep, .int .i64 f.key, .int .i64 f.one], RV r] w fun e w' => SPost wo s n f (K + (r.upto - r.frm)) g o t (packedS f l r (bareS t)) w e w' := by
 have hS : rowsS t = rwS t.gK t.K :: rwS t.gV t.V :: ((t.K.map rowsV).flatten ++ (t.V.map rowsV).flatten) := rowsS_eq t
 obtain ⟨hrow, hrn⟩ := hL.own (rwS t.gV t.V) (by rw [hS]; exact List.mem_cons_of_mem _ (List.mem_cons_self ..))
 have hrow : w.ownsRow wo.heap.size 81 3 t.gV t.V.length (t.V.flatMap cV') := hrow
 have hrn : t.V.length ≤ K := hrn
 have hmem : ∀ k, t.gV.ownBlock = some k → k ∈ blocks (rowsS t) := fun k hk => mem_blocks (r := rwS t.gV t.V) (by rw [hS]; exact List.mem_cons_of_mem _ (List.mem_cons_self ..)) hk
 have hAV : AtV wo.heap.size g o w t.gV.ownBlock.toList t.V.length (t.V.flatMap cV') w := ⟨⟨t.gV, hA.c2, hrow, Upd.refl _ hA.c2 rfl, fun k hk => ⟨fun e => hgn (e ▸ hmem k hk), fun _ => by rw [hk]; simp⟩⟩, hA.froz _⟩
 have hNl := numsK_len f.kind (winR l r)
 have hwl := winR_le l r
 refine (packed_any vM vE A c l g o wo.heap.size f r.no r.wire r.num r.frm r.upto hf1 hf2 hl w hr t.gV.ownBlock.toList t.V.length (t.V.flatMap cV') hb hg (by omega) hAV).mono ?_
 rintro e w' (⟨h0, rfl, ⟨⟨v, hc, hv, hU, hk⟩, hz⟩⟩ | ⟨h0, rfl, hbw⟩)
 ·obtain ⟨N, hN⟩ : ∃ N, (numsK f.kind (winR l r)).1 = N := ⟨_, rfl⟩
  have hN' : (numsK f.kind ((l.drop r.frm).take (r.upto - r.frm))).1 = N := hN
  rw [hN'] at hv
  rw [hN] at hNl
  have hD : packedS f l r (bareS t) = .ok (bareS ⟨t.no, t.gK, t.K, v, t.V ++ N.map numV⟩) := by
   unfold packedS
   rw [if_pos (show (numsK f.kind (winR l r)).2 = 0 from h0), hN]
   congr 1
   unfold bareS
   simp only [List.map_append, List.map_map]
   congr 2
  have hR : rowsS (⟨t.no, t.gK, t.K, v, t.V ++ N.map numV⟩ : SLo LM) = rwS t.gK t.K :: rwS v (t.V ++ N.map numV) :: (((t.K.map rowsV).flatten ++ (t.V.map rowsV).flatten) ++ N.map fun _ => (⟨31, 1, .slice none 0 0, 0, []⟩ : Rw)) := by
   rw [rowsS_eq]
   simp only [List.map_append, List.flatten_append, numV_rows, List.append_assoc]
  have hbk : ∀ q, q ∈ blocks (rowsS (⟨t.no, t.gK, t.K, v, t.V ++ N.map numV⟩ : SLo LM)) ↔ t.gK.ownBlock = some q ∨ v.ownBlock = some q ∨ q ∈ blocks ((t.K.map rowsV).flatten ++ (t.V.map rowsV).flatten) := fun q => by
   rw [hR, blocks_of, blocks_of, blocks_append, nil_blocks, List.append_nil]
   rfl
  have hbk0 : ∀ q, q ∈ blocks (rowsS t) ↔ t.gK.ownBlock = some q ∨ t.gV.ownBlock = some q ∨ q ∈ blocks ((t.K.map rowsV).flatten ++ (t.V.map rowsV).flatten) := fun q => by
   rw [hS, blocks_of, blocks_of]
   rfl
  have hold : ∀ q, v.ownBlock = some q → q < w.heap.size → t.gV.ownBlock = some q := fun q hq hlt => by
   have := (hk q hq).2 hlt
   simpa using this
  have hsub : ∀ q ∈ blocks (rowsS (⟨t.no, t.gK, t.K, v, t.V ++ N.map numV⟩ : SLo LM)), q < w.heap.size → q ∈ blocks (rowsS t) := fun q hq hlt => by
   rw [hbk] at hq
   rw [hbk0]
   rcases hq with h | h | h
   ·exact .inl h
   ·exact .inr (.inl (hold q h hlt))
   ·exact .inr (.inr h)
  have hg' : g ∉ blocks (rowsS (⟨t.no, t.gK, t.K, v, t.V ++ N.map numV⟩ : SLo LM)) := fun h => hgn (hsub g h hg)
  have hkeep : ∀ q, q < w.heap.size → t.gV.ownBlock ≠ some q → q ≠ g → w'.heap[q]? = w.heap[q]? := fun q hq hn hne => by
   rw [hU.block q hq (fun hm => hn (by simpa using hm)), set_far (fun e => hne e.symm)]
  refine .inr ⟨⟨t.no, t.gK, t.K, v, t.V ++ N.map numV⟩, hD, rfl, rfl, ⟨hU.os, hU.tape, hU.output, hU.size, fun q hq hn => ?_⟩, ?_, hg', hsub, fun h => absurd h h9⟩
  ·rw [hU.block q hq (fun hm => hn (hmem q (by simpa using hm)))]
   exact setCell_same (set_idle hA.c1 q hq).symm _ _
  ·have hLm := hL.more (show K ≤ K + (r.upto - r.frm) by omega)
   rw [hS] at hLm
   obtain ⟨d1, hL1⟩ := hLm.head
   obtain ⟨d2, hL2⟩ := hL1.head
   have far : ∀ q, q ∈ blocks ((t.K.map rowsV).flatten ++ (t.V.map rowsV).flatten) ∨ t.gK.ownBlock = some q → q < w.heap.size ∧ t.gV.ownBlock ≠ some q ∧ q ≠ g := fun q hq => by
    have hqS : q ∈ blocks (rowsS t) := (hbk0 q).2 (hq.elim (fun h => .inr (.inr h)) .inl)
    refine ⟨(hL.old hqS).2, fun e => ?_, fun e => hgn (e ▸ hqS)⟩
    rcases hq with h | h
    ·exact d2 q e h
    ·exact d1 q h (by rw [blocks_of]; exact .inl e)
   have hL3 : Lies wo.heap.size (K + (r.upto - r.frm)) w' ((t.K.map rowsV).flatten ++ (t.V.map rowsV).flatten) := hL2.kept fun q hq => hkeep q (far q (.inl hq)).1 (far q (.inl hq)).2.1 (far q (.inl hq)).2.2
   have hL4 := hL3.app (m := N.map fun _ => (⟨31, 1, .slice none 0 0, 0, []⟩ : Rw)) ⟨fun q hq => by
    obtain ⟨_, _, rfl⟩ := List.mem_map.1 hq
    exact ⟨World.ownsRow_nil _ _ _ _, Nat.zero_le _⟩, by rw [nil_blocks]; exact List.nodup_nil⟩ (fun i _ hm => by rw [nil_blocks] at hm; cases hm)
   have hown' := hL4.cons (r := rwS v (t.V ++ N.map numV)) (show w'.ownsRow _ _ 3 v (t.V ++ N.map numV).length ((t.V ++ N.map numV).flatMap cV') by
    rw [List.flatMap_append, numV_cells, List.length_append, List.length_map]; exact hv) (show (t.V ++ N.map numV).length ≤ _ by rw [List.length_append, List.length_map]; omega) (fun q hq hm => by
     rw [blocks_append, nil_blocks, List.append_nil] at hm
     have hqw := (far q (.inl hm)).1
     exact (far q (.inl hm)).2.1 (hold q hq hqw))
   rw [hR]
   refine hown'.cons ?_ (hLm.own _ (List.mem_cons_self ..)).2 (fun q hq hm => ?_)
   ·refine T9.own_kept (hLm.own _ (List.mem_cons_self ..)).1 fun q hq _ => ?_
    exact hkeep q (far q (.inr hq)).1 (far q (.inr hq)).2.1 (far q (.inr hq)).2.2
   ·rw [blocks_of, blocks_append, nil_blocks, List.append_nil] at hm
    rcases hm with hm | hm
    ·exact (far q (.inr hq)).2.1 (hold q hm (far q (.inr hq)).1)
    ·exact d1 q hq (blocks_cons_le hm)
 ·refine .inl ⟨_, ?_, rfl, hbw.mono hb⟩
  unfold packedS
  rw [if_neg (show ¬ (numsK f.kind (winR l r)).2 = 0 from h0)]
  rfl
end Go.Proofs.YtckcojkpghiclaaGreatDoor.T11
/-
 Other fields of a oneof leave a message of one's own.
-/
namespace Go.Proofs.YtckcojkpghiclaaGreatDoor.T11
set_option maxRecDepth 100000
open Go.RowKit
open Go.Proofs.YtckcojkpghiclaaGreatDoor.T9 Go.Proofs.YtckcojkpghiclaaGreatDoor.T4
theorem Lies.sub {b K : Nat} {w : World} {l l' : List Rw} (h : Lies b K w l) (hs : l'.Sublist l) : Lies b K w l' :=
 ⟨fun r hr => h.own r (hs.subset hr), h.apart.sublist (hs.filterMap _)⟩
theorem blocks_sub {l l' : List Rw} (hs : l'.Sublist l) {q : Nat} (h : q ∈ blocks l') : q ∈ blocks l := (hs.filterMap _).subset h
theorem rowsF_sub {l l' : List (SLo LM)} (hs : l'.Sublist l) : (rowsF l').Sublist (rowsF l) := by
 induction hs with
 | slnil => exact List.Sublist.refl _
 | cons a _ ih => rw [rowsF_cons]; exact ih.trans (List.sublist_append_right _ _)
 | cons_cons a _ ih => rw [rowsF_cons, rowsF_cons]; exact (List.Sublist.refl _).append ih
theorem slot_shape {b K : Nat} {w : World} {l : List (SLo LM)} (h : Lies b K w (rowsF l)) : ∀ t ∈ l, (∃ A n c, t.gK = .slice A n c) ∧ ∃ A n c, t.gV = .slice A n c := fun t ht => by
 have hm : ∀ r ∈ rowsS t, r ∈ rowsF l := fun r hr => List.mem_flatten.2 ⟨rowsS t, List.mem_map_of_mem ht, hr⟩
 obtain ⟨A1, c1, e1, -⟩ := Sl.of_own (h.own (rwS t.gK t.K) (hm _ (List.mem_cons_self ..))).1
 obtain ⟨A2, c2, e2, -⟩ := Sl.of_own (h.own (rwS t.gV t.V) (hm _ (List.mem_cons_of_mem _ (List.mem_cons_self ..)))).1
 exact ⟨⟨A1, _, c1, e1⟩, ⟨A2, _, c2, e2⟩⟩
set_option maxRecDepth 1000000 in
set_option maxHeartbeats 4000000 in
theorem delete_nil {q : Int → Bool} {P1 P2 P3 : Nat} (w : World) (HP : ∀ (wx : World) (no : Int) (uK uV : Value), Below w.heap.size w wx → Calls Tryz.prog 217 #[.agg #[.int .i64 no, uK, uV], .pointer (some ⟨P1, 0, none⟩), .pointer (some ⟨P2, 0, none⟩), .pointer (some ⟨P3, 0, none⟩)] wx fun e w' => e = .returned (.bool (q no)) ∧ Below wx.heap.size wx w') :
  Calls Tryz.prog 216 #[.slice none 0 0, .func (.func 217) #[] #[.pointer (some ⟨P1, 0, none⟩), .pointer (some ⟨P2, 0, none⟩), .pointer (some ⟨P3, 0, none⟩)]] w fun e w' => e = .returned (.slice none 0 0) ∧ Below w.heap.size w w' := by
 have HI := Lib.hid (index_slo (q := q) (P1 := P1) (P2 := P2) (P3 := P3) none 0 [] w (Sl.nothing _ _) HP)
 clear HP
 go_enter Tryz.func216, Tryz.ntmps216
 go_wp2_with fail
 refine HI.out.mono ?_
 rintro e w1 ⟨r, rfl, ⟨rfl, hall⟩ | ⟨l1, l2, t0, rfl, hF, hno, hyes⟩, hb1⟩
 ·clear hall
  have HB := Lib.hid hb1
  clear hb1
  go_wp2
  go_ret
  exact ⟨rfl, HB.out⟩
 ·simp at hF
theorem bare_filter (q : Int → Bool) (l : List (SLo LM)) : (l.filter fun t => !q t.no).map bareS = (l.map bareS).filter fun t => !q t.no := by
 rw [List.filter_map]
 rfl
set_option maxRecDepth 1000000 in
set_option maxHeartbeats 8000000 in
theorem leave_loc {s : Sc} {vM vE vB : Value} {m : Int} (f : Df) (x : LM) (p : Addr) (b k : Nat) (w : World) (hb : b ≤ w.heap.size) (hs : SAt b w s vM vE) (hL : Lies b k w x.rows) (hc : w.cell? p = some x.v) (hz : w.frozen? p = false) (hsp : p.spot = none) (hp : p.block < w.heap.size) (hpn : p.block ∉ blocks x.rows) (hone : f.one ≠ 0) :
  Calls Tryz.prog 199 #[.agg #[vM, vE, vB], .pointer (some p), .int .i64 m, .agg #[.int .i64 f.no, .string (txt f.name), .int .i64 f.kind, .int .i64 f.ref, .bool f.rep, .int .i64 f.key, .int .i64 f.one]] w fun e w' => e = .returned (.tuple #[]) ∧ ∃ x' : LM, x'.F.map bareS = leaveL (byS s m) f (x.F.map bareS) ∧ x'.F.Sublist x.F ∧ Upd p x'.v (blocks x.rows) w w' ∧ Lies b k w' x'.rows ∧ p.block ∉ blocks x'.rows ∧ (∀ q ∈ blocks x'.rows, q ∈ blocks x.rows) := by
 obtain ⟨T1, T2, T3, L3⟩ := three_boxes w (.cells #[vM, vE, vB] 113) (.cells #[.int .i64 m] 3) (dC f)
 obtain ⟨W3, hW3⟩ : ∃ W, W = (((w.alloc (.cells #[vM, vE, vB] 113)).alloc (.cells #[.int .i64 m] 3)).alloc (dC f)) := ⟨_, rfl⟩
 have hs3 : W3.heap.size = w.heap.size + 3 := by rw [hW3]; simp
 rw [← hW3] at T1 T2 T3 L3
 have hx : x.rows = rwM x :: rowsF x.F := LM.rows_eq x
 obtain ⟨hrow, hrn⟩ := hL.own (rwM x) (by rw [hx]; exact List.mem_cons_self ..)
 have hmf : ∀ (fn : Fn) (first cap : Array Value) (w : World), (Instr.makeFunc fn first cap).run Tryz.prog w = .ok (.func fn first cap) w := fun _ _ _ _ => rfl
 have hc3 : W3.cell? p = some x.v := by rw [L3.cell hp]; exact hc
 have hz3 : W3.frozen? p = false := by rw [L3.frozen hp]; exact hz
 have hp3 : p.block < W3.heap.size := Nat.lt_of_lt_of_le hp L3.size
 obtain ⟨xv, xF⟩ := x
 have hrow3 : W3.ownsRow b 67 3 xv xF.length (xF.flatMap cS') := own_hi hrow (hi_below b L3)
 have hcases : (xv = .slice none 0 0 ∧ xF = []) ∨ ∃ g c, xv = .slice (some ⟨g, 0, none⟩) xF.length c := by
  rcases hrow with ⟨hl, ⟨h1, h2⟩ | ⟨g, c, cur, h1, -⟩⟩
  ·have h2 : xF.length = 0 := h2
   exact .inl ⟨h1, List.eq_nil_of_length_eq_zero h2⟩
  ·exact .inr ⟨g, c, h1⟩
 have hpm : ∀ (wx : World) (no : Int) (uK uV : Value), Below b W3 wx → (∀ j, w.heap.size ≤ j → j < w.heap.size + 3 → wx.heap[j]? = W3.heap[j]?) → Calls Tryz.prog 217 #[.agg #[.int .i64 no, uK, uV], .pointer (some ⟨w.heap.size, 0, none⟩), .pointer (some ⟨w.heap.size + 1, 0, none⟩), .pointer (some ⟨w.heap.size + 1 + 1, 0, none⟩)] wx fun e w' => e = .returned (.bool (goneB (byS s m) f no)) ∧ Below wx.heap.size wx w' := fun wx no uK uV hbx hk =>
  leave1_any f w.heap.size (w.heap.size + 1) (w.heap.size + 1 + 1) wx (Nat.le_trans hb (Nat.le_trans L3.size hbx.size)) ((SAt.lo hs L3 hb).low (Low.of hbx)) ((hk _ (by omega) (by omega)).trans T1) ((hk _ (by omega) (by omega)).trans T2) ((hk _ (by omega) (by omega)).trans T3)
 have hpg : p.block ≠ w.heap.size ∧ p.block ≠ w.heap.size + 1 ∧ p.block ≠ w.heap.size + 2 := by omega
 have hL3 := hL.on L3
 have HK := Lib.hid hone
 clear hone
 rcases hcases with ⟨rfl, rfl⟩ | ⟨g, c, rfl⟩
 ·have HD := Lib.hid (delete_nil (P1 := w.heap.size) (P2 := w.heap.size + 1) (P3 := w.heap.size + 1 + 1) W3 (fun wx no uK uV h => hpm wx no uK uV (h.mono (Nat.le_trans hb L3.size)) (fun j h1 h2 => h.block j (by omega))))
  have HX := Lib.hid (And.intro L3 (And.intro hL hpn))
  have hc4 : (((w.alloc (.cells #[vM, vE, vB] 113)).alloc (.cells #[.int .i64 m] 3)).alloc (dC f)).cell? p = some (.slice none 0 0) := hW3 ▸ hc3
  clear hL3 T1 T2 T3 hs hL hrow hrow3 hpm hx hc hz L3 hrn hpn
  go_enter Tryz.func199, Tryz.ntmps199
  go_wp2_with fail
  rw [← hW3]
  refine HD.out.mono ?_
  rintro e w4 ⟨rfl, hb4⟩
  have hc5 : w4.cell? p = some (.slice none 0 0) := (hb4.cell hp3).trans hc3
  have hz5 : w4.frozen? p = false := (hb4.frozen hp3).trans hz3
  have hp5 : p.block < w4.heap.size := Nat.lt_of_lt_of_le hp3 hb4.size
  have HB := Lib.hid hb4
  clear hb4 hc4 HD
  go_wp2
  go_end0
  obtain ⟨L3, hL, hpn⟩ := HX.out
  have hbb := below_then L3 HB.out
  refine ⟨rfl, LM.mk (.slice none 0 0) [], ?_, List.Sublist.refl _, ⟨hbb.os, hbb.tape, hbb.output, by rw [set_size]; exact hbb.size, fun j hj _ => setCell_same (hbb.block j hj) _ _⟩, ?_, hpn, fun q h => h⟩
  ·rw [leaveL_eq _ f HK.out]; rfl
  ·refine hL.kept fun j hj => ?_
   rw [rows_empty] at hj
   simp [blocks, Value.ownBlock] at hj
 ·have hgx : g ∈ blocks (LM.mk (.slice (some ⟨g, 0, none⟩) xF.length c) xF).rows := by rw [hx]; exact mem_blocks (List.mem_cons_self ..) rfl
  have hgp : g ≠ p.block := fun e => hpn (e ▸ hgx)
  have hgo := hL.old hgx
  have HD := Lib.hid (delete_slo (q := goneB (byS s m) f) (P1 := w.heap.size) (P2 := w.heap.size + 1) (P3 := w.heap.size + 1 + 1) b g c xF W3 (slot_shape (by rw [hx] at hL3; exact hL3.head.2)) hrow3 (fun wx no uK uV h => hpm wx no uK uV (below_own h hgo.1 (Nat.le_trans hb L3.size)) (fun j h1 h2 => h.block j (by omega) (by simp; omega))))
  obtain ⟨R, hR⟩ : ∃ R, (xF.filter fun t => !goneB (byS s m) f t.no) = R := ⟨_, rfl⟩
  rw [hR] at HD
  have HX := Lib.hid (And.intro L3 (And.intro hL (And.intro hx (And.intro hR (And.intro hpn (And.intro hgo (And.intro hgp (And.intro hrow hrn))))))))
  have hc4 : (((w.alloc (.cells #[vM, vE, vB] 113)).alloc (.cells #[.int .i64 m] 3)).alloc (dC f)).cell? p = some (.slice (some ⟨g, 0, none⟩) xF.length c) := hW3 ▸ hc3
  clear hL3 T1 T2 T3 hs hL hrow hrow3 hpm hx hc hz hR L3 hrn hgx hgo hpn
  go_enter Tryz.func199, Tryz.ntmps199
  go_wp2_with fail
  rw [← hW3]
  refine HD.out.mono ?_
  rintro e w4 ⟨rfl, hown, hgr⟩
  obtain ⟨L3, hL, hx, hR, hpn, hgo, hgp, hrow, hrn⟩ := HX.out
  have hc5 : w4.cell? p = some (.slice (some ⟨g, 0, none⟩) xF.length c) := (World.cell?_of_block (hgr.block p.block hp3 (by simpa using fun e => hgp e.symm))).trans hc3
  have hz5 : w4.frozen? p = false := by
   obtain ⟨pb, po, ps⟩ := p
   exact (froz_of (a := ⟨pb, po, ps⟩) (hgr.block pb hp3 (by simpa using fun e => hgp e.symm))).trans hz3
  have hp5 : p.block < w4.heap.size := Nat.lt_of_lt_of_le hp3 hgr.size
  have HY := Lib.hid (And.intro hown (And.intro hgr (And.intro L3 (And.intro hL (And.intro hx (And.intro hR (And.intro hpn (And.intro hgo (And.intro hgp (And.intro hrow hrn))))))))))
  clear hown hgr L3 hL hx hR hpn hgo hgp hrow hrn hc4 HX HD
  go_wp2
  go_end0
  obtain ⟨hown, hgr, L3, hL, hx, hR, hpn, hgo, hgp, hrow, hrn⟩ := HY.out
  have hkeep : ∀ j, j < w.heap.size → j ≠ g → w4.heap[j]? = w.heap[j]? := fun j hj hne => (hgr.block j (by have := L3.size; omega) (by simpa using hne)).trans (L3.block j hj)
  have hsub : R.Sublist xF := by rw [← hR]; exact List.filter_sublist
  have hgb : (rwM (LM.mk (.slice (some ⟨g, 0, none⟩) xF.length c) xF)).v.ownBlock = some g := rfl
  have hLF : Lies b k w (rowsF xF) := by rw [hx] at hL; exact hL.head.2
  have hgF : g ∉ blocks (rowsF xF) := by rw [hx] at hL; exact hL.head.1 g hgb
  have hpF : p.block ∉ blocks (rowsF xF) := fun h => hpn (by rw [hx]; exact blocks_cons_le h)
  have hset : ∀ j, j ≠ p.block → (w4.setCell p (.slice (some ⟨g, 0, none⟩) R.length c)).heap[j]? = w4.heap[j]? := fun j hj => by
   rw [setCell_at]
   cases w4.heap[j]? with
   | none => rfl
   | some z => simp only [Option.map_some]; rw [if_neg (fun e => hj e.symm)]
  have hLR : Lies b k (w4.setCell p (.slice (some ⟨g, 0, none⟩) R.length c)) (rowsF R) := (hLF.sub (rowsF_sub hsub)).kept fun j hj => by
   have hj2 := blocks_sub (rowsF_sub hsub) hj
   rw [hset j (fun e => hpF (e ▸ hj2))]
   exact hkeep j (hLF.old hj2).2 (fun e => hgF (e ▸ hj2))
  have hrl : R.length ≤ xF.length := hsub.length_le
  refine ⟨rfl, LM.mk (.slice (some ⟨g, 0, none⟩) R.length c) R, ?_, hsub, ⟨hgr.os.trans L3.os, hgr.tape.trans L3.tape, hgr.output.trans L3.output, by rw [set_size]; exact Nat.le_trans L3.size hgr.size, fun j hj hn => ?_⟩, ?_, ?_, ?_⟩
  ·rw [leaveL_eq _ f HK.out, ← bare_filter]
   show R.map bareS = (xF.filter fun t => !goneB (byS s m) f t.no).map bareS
   rw [hR]
  ·refine setCell_same (hkeep j hj (fun e => hn ?_)) _ _
   rw [hx, e]; exact mem_blocks (List.mem_cons_self ..) hgb
  ·rw [rows_of]
   refine hLR.cons ?_ (Nat.le_trans hrl hrn) (fun j hj => ?_)
   ·refine T9.own_kept (show w4.ownsRow b 67 3 (.slice (some ⟨g, 0, none⟩) R.length c) R.length (R.flatMap cS') from hown) fun j hj _ => ?_
    obtain rfl : g = j := Option.some.inj hj
    exact hset g hgp
   ·obtain rfl : g = j := Option.some.inj hj
    exact fun h => hgF (blocks_sub (rowsF_sub hsub) h)
  ·rw [rows_of, blocks_of]
   rintro (h | h)
   ·exact hgp (Option.some.inj h)
   ·exact hpF (blocks_sub (rowsF_sub hsub) h)
  ·intro j hj
   rw [rows_of, blocks_of] at hj
   rw [hx, blocks_of]
   exact hj.imp id (fun h => blocks_sub (rowsF_sub hsub) h)
end Go.Proofs.YtckcojkpghiclaaGreatDoor.T11
/-
 What stands behind changes one behind the other.
-/
namespace Go.Proofs.YtckcojkpghiclaaGreatDoor.T11
set_option maxRecDepth 100000
open Go.RowKit
open Go.Proofs.YtckcojkpghiclaaGreatDoor.T9 Go.Proofs.YtckcojkpghiclaaGreatDoor.T4
theorem MPost.back {wo : World} {s : Sc} {n : Nat} {m : Int} {K : Nat} {p : Addr} {x x1 : LM} {D : Except Nat (List So)} {w V1 w' : World} {e : Ending} (hU : Upd p x1.v (blocks x.rows) w V1) (hbo : wo.heap.size ≤ w.heap.size) (hpo : wo.heap.size ≤ p.block) (hids : ∀ k ∈ blocks x.rows, wo.heap.size ≤ k) (hold : ∀ q ∈ blocks x1.rows, q < w.heap.size → q ∈ blocks x.rows) (h : MPost wo s n m K p x1 D V1 e w') : MPost wo s n m K p x D w e w' := by
 rcases h with ⟨er, h1, h2, h3⟩ | ⟨x', h1, h2, h3, h4, h5, h6, h7⟩
 ·exact .inl ⟨er, h1, h2, (upd_below hU hbo hpo hids).trans h3⟩
 ·exact .inr ⟨x', h1, h2, hU.trans h3 hold, h4, h5, fun q hq hlt => hold q (h6 q hq (Nat.lt_of_lt_of_le hlt hU.size)) hlt, h7⟩
theorem SPost.back {wo : World} {s : Sc} {n : Nat} {f : Df} {K g o : Nat} {t t1 : SLo LM} {D D' : Except Nat So} {w V1 w' : World} {e : Ending} (hno : t1.no = t.no) (hU : UpdS g o t1 (blocks (rowsS t)) w V1) (hbo : wo.heap.size ≤ w.heap.size) (hgo : wo.heap.size ≤ g) (hids : ∀ k ∈ blocks (rowsS t), wo.heap.size ≤ k) (hold : ∀ q ∈ blocks (rowsS t1), q < w.heap.size → q ∈ blocks (rowsS t)) (hD : D = D') (h : SPost wo s n f K g o t1 D V1 e w') : SPost wo s n f K g o t D' w e w' := by
 subst hD
 rcases h with ⟨er, h1, h2, h3⟩ | ⟨t', h1, h2, h3, h4, h5, h6, h7, h8⟩
 ·refine .inl ⟨er, h1, h2, Below.trans ⟨hU.os, hU.tape, hU.output, hU.size, fun k hk => ?_⟩ h3⟩
  exact hU.far (Nat.lt_of_lt_of_le hk hbo) (fun hm => by have := hids k hm; omega) (by omega)
 ·exact .inr ⟨t', h1, h2.trans hno, h3, hU.trans h4 hold, h5, h6, fun q hq hlt => hold q (h7 q hq (Nat.lt_of_lt_of_le hlt hU.size)) hlt, h8⟩
theorem s_blk {w wx : World} {a : Nat} {vM vE vB : Value} {f : Df} {no' wire : Int} {num : Nat} {frm upto : Int} (h : (w.cell? ⟨a, 0, none⟩ = some vM ∧ w.cell? ⟨a, 1, none⟩ = some vE ∧ w.cell? ⟨a, 2, none⟩ = some vB) ∧ (w.cell? ⟨a + 1, 0, none⟩ = some (.int .i64 f.no) ∧ w.cell? ⟨a + 1, 1, none⟩ = some (.string (txt f.name)) ∧ w.cell? ⟨a + 1, 2, none⟩ = some (.int .i64 f.kind) ∧ w.cell? ⟨a + 1, 3, none⟩ = some (.int .i64 f.ref) ∧ w.cell? ⟨a + 1, 4, none⟩ = some (.bool f.rep) ∧ w.cell? ⟨a + 1, 5, none⟩ = some (.int .i64 f.key) ∧ w.cell? ⟨a + 1, 6, none⟩ = some (.int .i64 f.one)) ∧ (w.cell? ⟨a + 2, 0, none⟩ = some (.int .i64 no') ∧ w.cell? ⟨a + 2, 1, none⟩ = some (.int .i64 wire) ∧ w.cell? ⟨a + 2, 2, none⟩ = some (.int .u64 num) ∧ w.cell? ⟨a + 2, 3, none⟩ = some (.int .i64 frm) ∧ w.cell? ⟨a + 2, 4, none⟩ = some (.int .i64 upto))) (hk : ∀ k, a ≤ k → k < a + 3 → wx.heap[k]? = w.heap[k]?) : (wx.cell? ⟨a, 0, none⟩ = some vM ∧ wx.cell? ⟨a, 1, none⟩ = some vE ∧ wx.cell? ⟨a, 2, none⟩ = some vB) ∧ (wx.cell? ⟨a + 1, 0, none⟩ = some (.int .i64 f.no) ∧ wx.cell? ⟨a + 1, 1, none⟩ = some (.string (txt f.name)) ∧ wx.cell? ⟨a + 1, 2, none⟩ = some (.int .i64 f.kind) ∧ wx.cell? ⟨a + 1, 3, none⟩ = some (.int .i64 f.ref) ∧ wx.cell? ⟨a + 1, 4, none⟩ = some (.bool f.rep) ∧ wx.cell? ⟨a + 1, 5, none⟩ = some (.int .i64 f.key) ∧ wx.cell? ⟨a + 1, 6, none⟩ = some (.int .i64 f.one)) ∧ (wx.cell? ⟨a + 2, 0, none⟩ = some (.int .i64 no') ∧ wx.cell? ⟨a + 2, 1, none⟩ = some (.int .i64 wire) ∧ wx.cell? ⟨a + 2, 2, none⟩ = some (.int .u64 num) ∧ wx.cell? ⟨a + 2, 3, none⟩ = some (.int .i64 frm) ∧ wx.cell? ⟨a + 2, 4, none⟩ = some (.int .i64 upto)) := by
 have h0 : ∀ o v, w.cell? ⟨a, o, none⟩ = some v → wx.cell? ⟨a, o, none⟩ = some v := fun o v h => (World.cell?_of_block (hk a (by omega) (by omega))).trans h
 have h1 : ∀ o v, w.cell? ⟨a + 1, o, none⟩ = some v → wx.cell? ⟨a + 1, o, none⟩ = some v := fun o v h => (World.cell?_of_block (hk (a + 1) (by omega) (by omega))).trans h
 have h2 : ∀ o v, w.cell? ⟨a + 2, o, none⟩ = some v → wx.cell? ⟨a + 2, o, none⟩ = some v := fun o v h => (World.cell?_of_block (hk (a + 2) (by omega) (by omega))).trans h
 obtain ⟨⟨a1, a2, a3⟩, ⟨b1, b2, b3, b4, b5, b6, b7⟩, c1, c2, c3, c4, c5⟩ := h
 exact ⟨⟨h0 _ _ a1, h0 _ _ a2, h0 _ _ a3⟩, ⟨h1 _ _ b1, h1 _ _ b2, h1 _ _ b3, h1 _ _ b4, h1 _ _ b5, h1 _ _ b6, h1 _ _ b7⟩, h2 _ _ c1, h2 _ _ c2, h2 _ _ c3, h2 _ _ c4, h2 _ _ c5⟩
theorem first_at {b K : Nat} {w : World} {t : SLo LM} {v : VL LM} {rest : List (VL LM)} (hL : Lies b K w (rowsS t)) (hV : t.V = v :: rest) : ∃ gv cv, t.gV = .slice (some ⟨gv, 0, none⟩) t.V.length cv ∧ b ≤ gv ∧ gv < w.heap.size ∧ AtVal gv 0 v w ∧ Lies b K w (rowsV v) ∧ gv ∉ blocks (rowsV v) ∧ gv ∈ blocks (rowsS t) ∧ (∀ q ∈ blocks (rowsV v), q ∈ blocks (rowsS t)) := by
 have hS : rowsS t = rwS t.gK t.K :: rwS t.gV t.V :: ((t.K.map rowsV).flatten ++ (rowsV v ++ (rest.map rowsV).flatten)) := by rw [rowsS_eq, hV]; rfl
 obtain ⟨hrow, hrn⟩ := hL.own (rwS t.gV t.V) (by rw [hS]; exact List.mem_cons_of_mem _ (List.mem_cons_self ..))
 have hrow : w.ownsRow b 81 3 t.gV t.V.length (t.V.flatMap cV') := hrow
 obtain ⟨gv, cv, hg⟩ : ∃ gv cv, t.gV = .slice (some ⟨gv, 0, none⟩) t.V.length cv := by
  rcases hrow with ⟨_, ⟨_, h2⟩ | ⟨gg, cc, cur, h1, _⟩⟩
  ·rw [hV] at h2; simp at h2
  ·exact ⟨gg, cc, h1⟩
 have hob : (rwS t.gV t.V).v.ownBlock = some gv := by show t.gV.ownBlock = _; rw [hg]; rfl
 have hL1 := hL
 rw [hS] at hL1
 obtain ⟨-, hL2⟩ := hL1.head
 obtain ⟨d2, hL3⟩ := hL2.head
 have hd := d2 gv hob
 have hcell : ∀ k u, (cV' v)[k]? = some u → w.cell? ⟨gv, 0 + k, none⟩ = some u := fun k u hu => by
  have h3 := hrow.cells (g := gv) (by rw [hg]; rfl) k u (by rw [hV, List.flatMap_cons, List.getElem?_append_left (List.getElem?_eq_some_iff.1 hu).1]; exact hu)
  rwa [Addr.add_lit] at h3
 have hown := hrow
 rw [hg] at hown
 refine ⟨gv, cv, hg, (own_blk hrow gv hob).1, (own_blk hrow gv hob).2, ⟨hcell 0 _ rfl, hcell 1 _ rfl, hcell 2 _ rfl, fun k => own_froz hown k⟩, hL3.right.left, fun h => hd (mem_three.2 (.inr (.inl h))), ?_, fun q hq => ?_⟩
 ·rw [hS]; exact blocks_cons_le (blocks_of.2 (.inl hob))
 ·rw [hS]; exact blocks_cons_le (blocks_cons_le (mem_three.2 (.inr (.inl hq))))
theorem take_post {wo : World} {s : Sc} {n : Nat} {f : Df} {l : List UInt8} {r : Rc} {K K' g o gv cv : Nat} {w w' : World} {t : SLo LM} {v : VL LM} {rest : List (VL LM)} {e : Ending} (hgw : g < w.heap.size) (hA : AtSlo g o t w) (hL : Lies wo.heap.size K w (rowsS t)) (hgn : g ∉ blocks (rowsS t)) (hV : t.gV = .slice (some ⟨gv, 0, none⟩) t.V.length cv) (hVl : t.V = v :: rest) (hK : K ≤ K')
  (hful : f.kind = 9 → ∀ u ∈ t.V, ∃ y, u.M = [y] ∧ Full s n f.ref y)
  (h : (∃ er : Nat, takeV (decM s n) f.kind f.ref l r (bareV v) = .error er ∧ e = .panicked [{ v := errP er, recovered := false }] ∧ Below wo.heap.size w w') ∨
   (∃ x', takeV (decM s n) f.kind f.ref l r (bareV v) = .ok (bareV x') ∧ e = .returned (.tuple #[]) ∧ UpdV gv 0 x' (blocks (rowsV v)) w w' ∧ Lies wo.heap.size K' w' (rowsV x') ∧ gv ∉ blocks (rowsV x') ∧ (∀ q ∈ blocks (rowsV x'), q < w.heap.size → q ∈ blocks (rowsV v)) ∧ (f.kind = 9 → ∃ y, x'.M = [y] ∧ Full s n f.ref y))) :
  SPost wo s n f K' g o t (onlyS (decM s n) f l r (bareS t)) w e w' := by
 have hh : (bareS t).V = bareV v :: rest.map bareV := by show t.V.map bareV = _; rw [hVl]; rfl
 have hD : onlyS (decM s n) f l r (bareS t) = mapE (fun v => ⟨t.no, t.K.map bareV, v :: rest.map bareV⟩) (takeV (decM s n) f.kind f.ref l r (bareV v)) := by
  unfold onlyS
  rw [hh]
  rfl
 rw [hD]
 rcases h with ⟨er, h1, h2, h3⟩ | ⟨x', h1, h2, h3, h4, h5, h6, h7⟩
 ·exact .inl ⟨er, by rw [h1]; rfl, h2, h3⟩
 ·obtain ⟨k1, k2, k3, k4⟩ := val_lift hgw hA hL hgn hV hVl h3 h4 h5 h6 hK
  refine .inr ⟨⟨t.no, t.gK, t.K, t.gV, x' :: rest⟩, by rw [h1]; rfl, rfl, h2, k1, k2, k3, k4, fun h9 u hu => ?_⟩
  rcases List.mem_cons.1 hu with rfl | hu
  ·exact h7 h9
  ·exact hful h9 u (by rw [hVl]; exact List.mem_cons_of_mem _ hu)
theorem onlyS_blank {sub : Int → List UInt8 → Mg → Except Nat Mg} {f : Df} {l : List UInt8} {r : Rc} {t : SLo LM} {b : VL LM} (g : Value) (hV : t.V = []) (hb : bareV b = blankV f.kind) : onlyS sub f l r (bareS ⟨t.no, t.gK, t.K, g, t.V ++ [b]⟩) = onlyS sub f l r (bareS t) := by
 obtain ⟨no, gK, K, gV, V⟩ := t
 obtain rfl : V = [] := hV
 have h1 : bareS (⟨no, gK, K, g, [] ++ [b]⟩ : SLo LM) = ⟨no, K.map bareV, [bareV b]⟩ := rfl
 have h2 : bareS (⟨no, gK, K, gV, []⟩ : SLo LM) = ⟨no, K.map bareV, []⟩ := rfl
 show onlyS sub f l r (bareS (⟨no, gK, K, g, [] ++ [b]⟩ : SLo LM)) = _
 rw [h1, h2, hb]
 rfl
end Go.Proofs.YtckcojkpghiclaaGreatDoor.T11
/-
 only, of any message of one's own.
-/
namespace Go.Proofs.YtckcojkpghiclaaGreatDoor.T11
set_option maxRecDepth 100000
open Go.RowKit
open Go.Proofs.YtckcojkpghiclaaGreatDoor.T9 Go.Proofs.YtckcojkpghiclaaGreatDoor.T4
set_option maxRecDepth 1000000 in
set_option maxHeartbeats 8000000 in
theorem onlyL0 {wo : World} {s : Sc} {vM vE : Value} {A : Option Addr} {c : Nat} {l : List UInt8} {K n : Nat} (HT : TakeH wo s vM vE A c l K n) (hs : SAt wo.heap.size wo s vM vE) (m : Int) (f : Df) (r : Rc) (x : LM) (p : Addr) (k : Nat) (deep : Int) (w : World) (hone : f.one = 0) (hk0 : 0 ≤ f.kind) (hk9 : f.kind ≤ 9) (hbo : Below wo.heap.size wo w) (hpo : wo.heap.size ≤ p.block) (hp : p.block < w.heap.size) (hsp : p.spot = none) (hc : w.cell? p = some x.v) (hz : w.frozen? p = false) (hL : Lies wo.heap.size k w x.rows) (hpn : p.block ∉ blocks x.rows) (hful : Full s (n + 1) m x) (hf : byS s m f.no = some f) (hf1 : r.frm ≤ r.upto) (hf2 : r.upto ≤ l.length) (hnum : r.num < 18446744073709551616) (hK : k + 1 + (r.upto - r.frm) ≤ K) (hKK : K ≤ 1000000000) (hdeep : deep + n = 64) (hd0 : 0 ≤ deep) :
  Calls Tryz.prog 152 #[.agg #[vM, vE, .slice A l.length c], .pointer (some p), .int .i64 m, .agg #[.int .i64 f.no, .string (txt f.name), .int .i64 f.kind, .int .i64 f.ref, .bool f.rep, .int .i64 f.key, .int .i64 f.one], RV r, .int .i64 deep] w fun e w' => MPost wo s (n + 1) m (k + 1 + (r.upto - r.frm)) p x (onSlot f.no (onlyS (decM s n) f l r) (leaveL (byS s m) f (x.F.map bareS))) w e w' := by
 obtain ⟨j0, hj, hy0, hy1, hy2⟩ := info_parts T9.info_val
 have hRV : RV r = .agg #[.int .i64 r.no, .int .i64 r.wire, .int .u64 r.num, .int .i64 r.frm, .int .i64 r.upto] := rfl
 rw [hRV]
 obtain ⟨T1, T2, T3, L3⟩ := three_boxes w (.cells #[vM, vE, .slice A l.length c] 113) (dC f) (.cells #[.int .i64 r.no, .int .i64 r.wire, .int .u64 r.num, .int .i64 r.frm, .int .i64 r.upto] 41)
 obtain ⟨g0, g1, g2, g3, g4, g5, g6⟩ := dc_cells T2
 obtain ⟨s0, s1, s2⟩ := bx3 T1
 obtain ⟨r0, r1, r2, r3, r4⟩ := heap_cells T3
 obtain ⟨W3, hW3⟩ : ∃ W, W = (((w.alloc (.cells #[vM, vE, .slice A l.length c] 113)).alloc (dC f)).alloc (.cells #[.int .i64 r.no, .int .i64 r.wire, .int .u64 r.num, .int .i64 r.frm, .int .i64 r.upto] 41)) := ⟨_, rfl⟩
 have hs3 : W3.heap.size = w.heap.size + 3 := by rw [hW3]; simp
 rw [← hW3] at T1 T2 T3 L3
 have hPW := Lib.hid (show (W3.cell? ⟨w.heap.size, 0, none⟩ = some vM ∧ W3.cell? ⟨w.heap.size, 1, none⟩ = some vE ∧ W3.cell? ⟨w.heap.size, 2, none⟩ = some (.slice A l.length c)) ∧ (W3.cell? ⟨w.heap.size + 1, 0, none⟩ = some (.int .i64 f.no) ∧ W3.cell? ⟨w.heap.size + 1, 1, none⟩ = some (.string (txt f.name)) ∧ W3.cell? ⟨w.heap.size + 1, 2, none⟩ = some (.int .i64 f.kind) ∧ W3.cell? ⟨w.heap.size + 1, 3, none⟩ = some (.int .i64 f.ref) ∧ W3.cell? ⟨w.heap.size + 1, 4, none⟩ = some (.bool f.rep) ∧ W3.cell? ⟨w.heap.size + 1, 5, none⟩ = some (.int .i64 f.key) ∧ W3.cell? ⟨w.heap.size + 1, 6, none⟩ = some (.int .i64 f.one)) ∧ (W3.cell? ⟨w.heap.size + 2, 0, none⟩ = some (.int .i64 r.no) ∧ W3.cell? ⟨w.heap.size + 2, 1, none⟩ = some (.int .i64 r.wire) ∧ W3.cell? ⟨w.heap.size + 2, 2, none⟩ = some (.int .u64 r.num) ∧ W3.cell? ⟨w.heap.size + 2, 3, none⟩ = some (.int .i64 r.frm) ∧ W3.cell? ⟨w.heap.size + 2, 4, none⟩ = some (.int .i64 r.upto)) from ⟨bx3 T1, dc_cells T2, heap_cells T3⟩)
 have hwo := hbo.size
 have hbo3 := below_then hbo L3
 have hc3 : W3.cell? p = some x.v := (L3.cell hp).trans hc
 have hz3 : W3.frozen? p = false := (L3.frozen hp).trans hz
 have hp3 : p.block < W3.heap.size := Nat.lt_of_lt_of_le hp L3.size
 have hL3 := hL.on L3
 have hids : ∀ q ∈ blocks x.rows, wo.heap.size ≤ q := fun q hq => (hL.old hq).1
 have hxw : ∀ q ∈ blocks x.rows, q < w.heap.size := fun q hq => (hL.old hq).2
 have b1 : (f.one != 0) = false := by rw [hone]; rfl
 have hlv : leaveL (byS s m) f (x.F.map bareS) = x.F.map bareS := by unfold leaveL; rw [if_pos hone]
 have HU1 : Hid (Upd p x.v (blocks x.rows) w W3) := Lib.hid (Upd.after (ids1 := []) L3 (Upd.refl _ hc3 hsp) (fun _ h => by cases h))
 have HSL := Lib.hid (slotOf_got (no := f.no) (Nat.le_trans hwo L3.size) hL3 hc3 hz3 hsp hp3 hpn (by omega))
 have HALL := Lib.hid (And.intro hPW.out (And.intro hids (And.intro hxw (And.intro hful (And.intro hbo3 (And.intro hlv (And.intro hL hpn)))))))
 clear T1 T2 T3 hc hz hL3 hids hxw hful hlv hone hPW hc3 hz3 hL hpn
 go_enter Tryz.func152, Tryz.ntmps152
 go_wp2_with fail
 rw [← hW3]
 refine HSL.out.mono ?_
 rintro e V2 ⟨g, c', l1, t, l2, rfl, HG⟩
 obtain ⟨hPW, hids, hxw, hful, hbo3, hlv, hL, hpn⟩ := HALL.out
 have hUV := HU1.out.trans HG.upd (fun i hi hlt => hi)
 have hfull := HG.full hf hful
 have HEND : Hid (∀ (e : Ending) (w' : World), SPost wo s n f (k + 1 + (r.upto - r.frm)) g (l1.length * 3) t (onlyS (decM s n) f l r (bareS t)) V2 e w' → MPost wo s (n + 1) m (k + 1 + (r.upto - r.frm)) p x (onSlot f.no (onlyS (decM s n) f l r) (leaveL (byS s m) f (x.F.map bareS))) w e w') := Lib.hid fun e w' h => by
  rw [hlv]
  exact MPost.back (x1 := x) HU1.out hwo hpo hids (fun q hq _ => hq) (Got1.post HG (Nat.le_trans hwo L3.size) hpo hsp hp3 hids hf hful (by omega) h)
 have hfarB : ∀ q, w.heap.size ≤ q → q < w.heap.size + 3 → V2.heap[q]? = W3.heap[q]? ∧ q ∉ blocks (LM.mk (.slice (some ⟨g, 0, none⟩) (l1 ++ t :: l2).length c') (l1 ++ t :: l2)).rows := fun q h1 h2 => by
  refine ⟨?_, fun h => by have := hxw q (HG.old q h (by omega)); omega⟩
  rw [HG.upd.block q (by omega) (fun h => by have := hxw q h; omega), setCell_at]
  cases W3.heap[q]? with
  | none => rfl
  | some z => simp only [Option.map_some]; rw [if_neg (by omega)]
 obtain ⟨hgw, hgo, hA2, hL2, hgn2, hFl⟩ := HG.at
 have hP2 : Hid ((V2.cell? ⟨w.heap.size, 0, none⟩ = some vM ∧ V2.cell? ⟨w.heap.size, 1, none⟩ = some vE ∧ V2.cell? ⟨w.heap.size, 2, none⟩ = some (.slice A l.length c)) ∧ (V2.cell? ⟨w.heap.size + 1, 0, none⟩ = some (.int .i64 f.no) ∧ V2.cell? ⟨w.heap.size + 1, 1, none⟩ = some (.string (txt f.name)) ∧ V2.cell? ⟨w.heap.size + 1, 2, none⟩ = some (.int .i64 f.kind) ∧ V2.cell? ⟨w.heap.size + 1, 3, none⟩ = some (.int .i64 f.ref) ∧ V2.cell? ⟨w.heap.size + 1, 4, none⟩ = some (.bool f.rep) ∧ V2.cell? ⟨w.heap.size + 1, 5, none⟩ = some (.int .i64 f.key) ∧ V2.cell? ⟨w.heap.size + 1, 6, none⟩ = some (.int .i64 f.one)) ∧ (V2.cell? ⟨w.heap.size + 2, 0, none⟩ = some (.int .i64 r.no) ∧ V2.cell? ⟨w.heap.size + 2, 1, none⟩ = some (.int .i64 r.wire) ∧ V2.cell? ⟨w.heap.size + 2, 2, none⟩ = some (.int .u64 r.num) ∧ V2.cell? ⟨w.heap.size + 2, 3, none⟩ = some (.int .i64 r.frm) ∧ V2.cell? ⟨w.heap.size + 2, 4, none⟩ = some (.int .i64 r.upto))) := Lib.hid (s_blk hPW fun q h1 h2 => (hfarB q h1 h2).1)
 have hfarS : ∀ q, w.heap.size ≤ q → q < w.heap.size + 3 → q ∉ blocks (rowsS t) := fun q h1 h2 h3 => (hfarB q h1 h2).2 (by
  rw [rows_of, rowsF_append, rowsF_cons]
  exact blocks_cons_le (mem_three.2 (.inr (.inl h3))))
 have hfarG : ∀ q, w.heap.size ≤ q → q < w.heap.size + 3 → g ≠ q := fun q h1 h2 h3 => (hfarB q h1 h2).2 (by
  rw [rows_of, blocks_of]
  exact .inl (by rw [← h3]; rfl))
 have hWs : w.heap.size + 3 ≤ V2.heap.size := by have := hUV.size; have := HG.upd.size; omega
 have hwoV : wo.heap.size ≤ V2.heap.size := by omega
 have hboV : Below wo.heap.size wo V2 := hbo.trans (upd_below hUV hwo hpo hids)
 obtain ⟨Ag, cg, hgV, -⟩ := Sl.of_own (hL2.own (rwS t.gV t.V) (List.mem_cons_of_mem _ (List.mem_cons_self ..))).1
 have hgV : t.gV = .slice Ag t.V.length cg := hgV
 obtain ⟨o, ho⟩ : ∃ o, l1.length * 3 = o := ⟨_, rfl⟩
 rw [ho] at hA2 HEND ⊢
 have hom : l1.length ≤ K := by rw [List.length_append] at hFl; omega
 have ho9 : o ≤ 3000000000 := by omega
 have HRV0 : Hid (V2.ownsRow wo.heap.size 81 3 t.gV t.V.length (t.V.flatMap cV')) := Lib.hid (hL2.own (rwS t.gV t.V) (List.mem_cons_of_mem _ (List.mem_cons_self ..))).1
 have hsgv : ∀ q, t.gV.ownBlock = some q → q ∈ blocks (rowsS t) := fun q hq => blocks_cons_le (blocks_of.2 (.inl hq))
 clear HG hUV hfarB ho HU1 HSL hFl hom
 rcases hVc : t.V with _ | ⟨v, rest⟩
 ·-- nothing is there yet
  have c20 : V2.cell? ⟨g, o + 2, none⟩ = some (.slice Ag 0 cg) := by have := hA2.c2; rw [hgV, hVc] at this; exact this
  have C2 := Lib.hid c20
  obtain ⟨A0, hA0⟩ : ∃ A0, Ag = A0 := ⟨_, rfl⟩
  obtain ⟨c0, hc0⟩ : ∃ c0, cg = c0 := ⟨_, rfl⟩
  rw [hA0, hc0] at c20 C2 hgV
  rw [hVc] at hgV
  have HGV := Lib.hid (And.intro (show t.gV = .slice A0 0 c0 from hgV) hVc)
  have HRV : Hid (V2.ownsRow wo.heap.size 81 3 (.slice A0 0 c0) 0 []) := Lib.hid (by have := HRV0.out; rw [HGV.out.1, hVc] at this; exact this)
  have HAS := Lib.hid hA2
  have HLS := Lib.hid (hL2.more (Nat.le_refl (k + 1)))
  have HGN := Lib.hid hgn2
  have HPX := hP2
  have HFV : Hid (∀ q, w.heap.size ≤ q → q < w.heap.size + 3 → q < V2.heap.size ∧ (Value.slice A0 0 c0).ownBlock ≠ some q) := Lib.hid fun q h1 h2 => ⟨by omega, fun e => hfarS q h1 h2 (hsgv q (by rw [HGV.out.1]; exact e))⟩
  have HFG := Lib.hid hfarG
  have HNE : Hid ((Value.slice A0 0 c0).ownBlock ≠ some g) := Lib.hid fun e => hgn2 (hsgv g (by rw [HGV.out.1]; exact e))
  have hgV2 := hgw
  have hDV : Below V2.heap.size V2 V2.drew := (Below.refl _ _).drew
  obtain ⟨⟨s0', s1', s2'⟩, ⟨g0', g1', g2', g3', g4', g5', g6'⟩, r0', r1', r2', r3', r4'⟩ := hP2.out
  clear hgV hVc hA2 hL2 hgn2 hP2 hfarG hsgv HRV0 hA0 hc0 hgw hfull
  go_wp2_with fail
  apply once
  ·intro HGO
   refine wp_region_held_drew (S := (fun w' => (w'.cell? ⟨w.heap.size, 0, none⟩ = some vM ∧ w'.cell? ⟨w.heap.size, 1, none⟩ = some vE ∧ w'.cell? ⟨w.heap.size, 2, none⟩ = some (.slice A l.length c)) ∧ (w'.cell? ⟨w.heap.size + 1, 0, none⟩ = some (.int .i64 f.no) ∧ w'.cell? ⟨w.heap.size + 1, 1, none⟩ = some (.string (txt f.name)) ∧ w'.cell? ⟨w.heap.size + 1, 2, none⟩ = some (.int .i64 f.kind) ∧ w'.cell? ⟨w.heap.size + 1, 3, none⟩ = some (.int .i64 f.ref) ∧ w'.cell? ⟨w.heap.size + 1, 4, none⟩ = some (.bool f.rep) ∧ w'.cell? ⟨w.heap.size + 1, 5, none⟩ = some (.int .i64 f.key) ∧ w'.cell? ⟨w.heap.size + 1, 6, none⟩ = some (.int .i64 f.one)) ∧ (w'.cell? ⟨w.heap.size + 2, 0, none⟩ = some (.int .i64 r.no) ∧ w'.cell? ⟨w.heap.size + 2, 1, none⟩ = some (.int .i64 r.wire) ∧ w'.cell? ⟨w.heap.size + 2, 2, none⟩ = some (.int .u64 r.num) ∧ w'.cell? ⟨w.heap.size + 2, 3, none⟩ = some (.int .i64 r.frm) ∧ w'.cell? ⟨w.heap.size + 2, 4, none⟩ = some (.int .i64 r.upto)))) (by kernel_rfl) (s_on HPX.out (hDV)) (fun hHeld => ?_)
   refine tk 0 ?_
   refine tk 1 ?_
   refine tk 2 ?_
   refine tk 3 ?_
   refine tk 5 ?_
   refine tk 6 ?_
   refine wpAnyH_ready (rs := [4, 7]) (by kernel_rfl) (by simp) ?_
   refine AllReadyH.cons rfl (fun K hK => ?_) (AllReadyH.cons rfl (fun K hK => ?_) AllReadyH.nil)
   ·go_simp
    clear hHeld
    refine hK.out _ _ (s_on HPX.out (hDV)) (fun hHeld => ?_)
    clear hK K
    refine wpAnyH_ready (rs := [7]) (by kernel_rfl) (by simp) ?_
    refine AllReadyH.cons rfl (fun K hK => ?_) AllReadyH.nil
    go_simp
    (go_at_call 197; refine (blank_any f.kind _).mono ?_; rintro e w7 ⟨⟨bn, bs, bg, bM⟩, rfl, hbb, hbL, hbM, hb7⟩; obtain ⟨Ab, cb, hbg, -⟩ := Sl.of_own (hbL.own (rwV ⟨bn, bs, bg, bM⟩) (List.mem_cons_self ..)).1; obtain ⟨nb, hnb⟩ : ∃ nb, (rwV (⟨bn, bs, bg, bM⟩ : VL LM)).n = nb := ⟨_, rfl⟩; rw [hnb] at hbg; obtain rfl : bg = .slice Ab nb cb := hbg; clear hnb; have HBV := Lib.hid (And.intro hbb (And.intro hbL hbM)); clear hbb hbL hbM; have hb7d := Lib.hid (hDV.trans (hb7.mono hDV.size)); have c7 := cell_on hb7d.out C2.out; have hb8 := Lib.hid (below_then hb7d.out (below_new w7 (.cells #[.int .i64 bn, .string (tx bs), .slice Ab nb cb] 81))); have c7b := cell_on hb8.out C2.out; have hs7 : V2.heap.size ≤ w7.heap.size := hb7d.out.size)
    go_wp2_with fail
    clear hHeld
    refine hK.out _ _ (s_on HPX.out (hb7d.out)) (fun hHeld => ?_)
    clear hK K
    refine wpAnyH_ready (rs := [8]) (by kernel_rfl) (by simp) ?_
    refine AllReadyH.cons rfl (fun K hK => ?_) AllReadyH.nil
    go_simp
    clear hHeld
    refine hK.out _ _ (s_on HPX.out (hb8.out)) (fun hHeld => ?_)
    clear hK K
    clear hHeld
    revert hs7; revert c7b; revert hb8; revert c7; revert hb7d; revert HBV; revert hb7; revert bM; revert nb; revert cb; revert Ab; revert bs; revert bn; revert w7
    exact HGO.out
   ·go_simp
    (go_at_call 197; refine (blank_any f.kind _).mono ?_; rintro e w7 ⟨⟨bn, bs, bg, bM⟩, rfl, hbb, hbL, hbM, hb7⟩; obtain ⟨Ab, cb, hbg, -⟩ := Sl.of_own (hbL.own (rwV ⟨bn, bs, bg, bM⟩) (List.mem_cons_self ..)).1; obtain ⟨nb, hnb⟩ : ∃ nb, (rwV (⟨bn, bs, bg, bM⟩ : VL LM)).n = nb := ⟨_, rfl⟩; rw [hnb] at hbg; obtain rfl : bg = .slice Ab nb cb := hbg; clear hnb; have HBV := Lib.hid (And.intro hbb (And.intro hbL hbM)); clear hbb hbL hbM; have hb7d := Lib.hid (hDV.trans (hb7.mono hDV.size)); have c7 := cell_on hb7d.out C2.out; have hb8 := Lib.hid (below_then hb7d.out (below_new w7 (.cells #[.int .i64 bn, .string (tx bs), .slice Ab nb cb] 81))); have c7b := cell_on hb8.out C2.out; have hs7 : V2.heap.size ≤ w7.heap.size := hb7d.out.size)
    go_wp2_with fail
    clear hHeld
    refine hK.out _ _ (s_on HPX.out (hb7d.out)) (fun hHeld => ?_)
    clear hK K
    refine wpAnyH_ready (rs := [4, 8]) (by kernel_rfl) (by simp) ?_
    refine AllReadyH.cons rfl (fun K hK => ?_) (AllReadyH.cons rfl (fun K hK => ?_) AllReadyH.nil)
    ·go_simp
     clear hHeld
     refine hK.out _ _ (s_on HPX.out (hb7d.out)) (fun hHeld => ?_)
     clear hK K
     refine wpAnyH_ready (rs := [8]) (by kernel_rfl) (by simp) ?_
     refine AllReadyH.cons rfl (fun K hK => ?_) AllReadyH.nil
     go_simp
     clear hHeld
     refine hK.out _ _ (s_on HPX.out (hb8.out)) (fun hHeld => ?_)
     clear hK K
     clear hHeld
     exact HGO.out w7 bn bs Ab cb nb bM hb7 HBV hb7d c7 hb8 c7b hs7
    ·go_simp
     clear hHeld
     refine hK.out _ _ (s_on HPX.out (hb8.out)) (fun hHeld => ?_)
     clear hK K
     refine wpAnyH_ready (rs := [4]) (by kernel_rfl) (by simp) ?_
     refine AllReadyH.cons rfl (fun K hK => ?_) AllReadyH.nil
     go_simp
     clear hHeld
     refine hK.out _ _ (s_on HPX.out (hb8.out)) (fun hHeld => ?_)
     clear hK K
     clear hHeld
     exact HGO.out w7 bn bs Ab cb nb bM hb7 HBV hb7d c7 hb8 c7b hs7
  intro w7 bn bs Ab cb nb bM hb7 HBV hb7d c7 hb8 c7b hs7
  have hHeld := s_on HPX.out (hb8.out)
  refine wpAnyH_ready (rs := [9]) (by kernel_rfl) (by simp) ?_
  refine AllReadyH.cons rfl (fun K hK => ?_) AllReadyH.nil
  (refine step_append_lies _ rfl _ _ 65 rfl wo.heap.size 81 j0 _ 3 48 Tryz.underlying65 hj hy0 hy1 hy2 rfl (by decide) (.slice A0 0 c0) 0 [] (by simp [Act.eval, Act.put]) (own_hi HRV.out (hi_below wo.heap.size hb8.out)) ⟨w7.heap.size, 0, none⟩ 1 1 [.int .i64 bn, .string (tx bs), .slice Ab nb cb] (by simp [Act.eval, Act.put]) rfl (World.news_of_block (heap_alloc_new _ _)) (by simp [Value.oneCell']) (by decide) (by unfold maxLen; omega) (by omega) (by simp; omega) w7.heap.size.succ (by simp) ?_; intro g8 c8 w8 hown8 hg8 hat8 hlt8; have hgne : (Value.slice A0 0 c0).ownBlock ≠ some g := HNE.out; have e8 := grown_block hg8 (Nat.lt_of_lt_of_le hgV2 hb8.out.size) hgne; have c8b : w8.cell? ⟨g, o + 2, none⟩ = some (.slice A0 0 c0) := (World.cell?_of_block (a := ⟨g, o + 2, none⟩) e8).trans c7b; have f8 : w8.frozen? ⟨g, o + 2, none⟩ = false := (froz_of (a := ⟨g, o + 2, none⟩) e8).trans ((hb8.out.frozen hgV2).trans (HAS.out.froz _)); have HG8 := Lib.hid (And.intro hown8 (And.intro hg8 (And.intro hat8 hlt8))); clear hown8 hg8 hat8 hlt8 e8 hgne)
  clear hHeld
  refine hK.out _ _ (s_blk HPX.out (fun q h1 h2 => (HG8.out.2.1.block q (Nat.lt_of_lt_of_le (HFV.out q h1 h2).1 hb8.out.size) (fun e => (HFV.out q h1 h2).2 e.symm)).trans (hb8.out.block q (HFV.out q h1 h2).1))) (fun hHeld => ?_)
  clear hK K
  refine tk 10 ?_
  refine tk 11 ?_
  refine wpAnyH_ready (rs := [12]) (by kernel_rfl) (by simp) ?_
  refine AllReadyH.cons rfl (fun K hK => ?_) AllReadyH.nil
  go_simp
  clear hHeld
  refine hK.out _ _ (s_blk HPX.out (fun q h1 h2 => (set_far (HFG.out q h1 h2)).trans ((HG8.out.2.1.block q (Nat.lt_of_lt_of_le (HFV.out q h1 h2).1 hb8.out.size) (fun e => (HFV.out q h1 h2).2 e.symm)).trans (hb8.out.block q (HFV.out q h1 h2).1)))) (fun hHeld => ?_)
  clear hK K
  refine wpAnyH_done (by kernel_rfl) ?_ _
  obtain ⟨hbb, hbL, hbM⟩ := HBV.out
  obtain ⟨b, hbe⟩ : ∃ b : VL LM, b = ⟨bn, bs, .slice Ab nb cb, bM⟩ := ⟨_, rfl⟩
  have hbc : cV' b = [.int .i64 bn, .string (tx bs), .slice Ab nb cb] := by rw [hbe]; rfl
  have hbb : bareV b = blankV f.kind := by rw [hbe]; exact hbb
  have hbL : Lies V2.drew.heap.size 1 w7 (rowsV b) := by rw [hbe]; exact hbL
  have hbM : f.kind = 9 → ∃ v, b.M = [.mk v []] := by rw [hbe]; exact hbM
  clear hbe
  obtain ⟨hown8, hg8, hat8, hlt8⟩ := HG8.out
  have hpush := slot_push (K' := k + 1) (x := b) (wa := w7.alloc (.cells #[.int .i64 bn, .string (tx bs), .slice Ab nb cb] 81)) hgV2 HAS.out HLS.out HGN.out hb8.out ((hbL.more (Nat.le_add_left 1 k)).on (below_new w7 (.cells #[.int .i64 bn, .string (tx bs), .slice Ab nb cb] 81)) |> fun h => (⟨fun q hq => ⟨own_less2 (h.own q hq).1 hwoV, (h.own q hq).2⟩, h.apart⟩ : Lies wo.heap.size (k + 1) _ _)) (fun q hq => (hbL.old hq).1) (by rw [HGV.out.1]; exact hg8) (by rw [HGV.out.2]; show w8.ownsRow _ _ _ (.slice _ (0 + 1) _) (0 + 1) ([] ++ cV' b); rw [hbc]; exact hown8) (by rw [HGV.out.1]; exact hat8.imp id (fun h => by rw [h]; simp)) (Nat.le_refl _) (by rw [HGV.out.2]; show 0 + 1 ≤ _; omega)
  have hV0 : t.V = [] := HGV.out.2
  have hlen1 : t.V.length + 1 = 1 := by rw [hV0]; rfl
  rw [hlen1] at hpush
  obtain ⟨t3, ht3⟩ : ∃ t3 : SLo LM, t3 = ⟨t.no, t.gK, t.K, .slice (some ⟨g8, 0, none⟩) 1 c8, t.V ++ [b]⟩ := ⟨_, rfl⟩
  obtain ⟨V3, hV3w⟩ : ∃ V, V = w8.setCell ⟨g, o + 2, none⟩ (.slice (some ⟨g8, 0, none⟩) 1 c8) := ⟨_, rfl⟩
  rw [← ht3, ← hV3w] at hpush
  rw [← hV3w]
  obtain ⟨hU3, hL3, hgn3, ho3⟩ := hpush
  have hP3 : Hid ((V3.cell? ⟨w.heap.size, 0, none⟩ = some vM ∧ V3.cell? ⟨w.heap.size, 1, none⟩ = some vE ∧ V3.cell? ⟨w.heap.size, 2, none⟩ = some (.slice A l.length c)) ∧ (V3.cell? ⟨w.heap.size + 1, 0, none⟩ = some (.int .i64 f.no) ∧ V3.cell? ⟨w.heap.size + 1, 1, none⟩ = some (.string (txt f.name)) ∧ V3.cell? ⟨w.heap.size + 1, 2, none⟩ = some (.int .i64 f.kind) ∧ V3.cell? ⟨w.heap.size + 1, 3, none⟩ = some (.int .i64 f.ref) ∧ V3.cell? ⟨w.heap.size + 1, 4, none⟩ = some (.bool f.rep) ∧ V3.cell? ⟨w.heap.size + 1, 5, none⟩ = some (.int .i64 f.key) ∧ V3.cell? ⟨w.heap.size + 1, 6, none⟩ = some (.int .i64 f.one)) ∧ (V3.cell? ⟨w.heap.size + 2, 0, none⟩ = some (.int .i64 r.no) ∧ V3.cell? ⟨w.heap.size + 2, 1, none⟩ = some (.int .i64 r.wire) ∧ V3.cell? ⟨w.heap.size + 2, 2, none⟩ = some (.int .u64 r.num) ∧ V3.cell? ⟨w.heap.size + 2, 3, none⟩ = some (.int .i64 r.frm) ∧ V3.cell? ⟨w.heap.size + 2, 4, none⟩ = some (.int .i64 r.upto))) := Lib.hid (by rw [hV3w]; exact s_blk HPX.out (fun q h1 h2 => (set_far (HFG.out q h1 h2)).trans ((HG8.out.2.1.block q (Nat.lt_of_lt_of_le (HFV.out q h1 h2).1 hb8.out.size) (fun e => (HFV.out q h1 h2).2 e.symm)).trans (hb8.out.block q (HFV.out q h1 h2).1))))
  have hV3 : t3.V = b :: [] := by rw [ht3, hV0]; rfl
  have hno3 : t3.no = t.no := by rw [ht3]
  have hgw3 : g < V3.heap.size := Nat.lt_of_lt_of_le hgV2 hU3.size
  have hA3 : AtSlo g o t3 V3 := hU3.at HAS.out hno3 hgV2 HGN.out
  have hbo3 : Below wo.heap.size wo V3 := hboV.trans ⟨hU3.os, hU3.tape, hU3.output, hU3.size, fun q hq => hU3.far (Nat.lt_of_lt_of_le hq hwoV) (fun hm => by have := (HLS.out.old hm).1; omega) (by omega)⟩
  have hful3 : f.kind = 9 → ∀ u ∈ t3.V, ∃ y, u.M = [y] ∧ Full s n f.ref y := fun h9 u hu => by
   rw [hV3] at hu
   obtain rfl := List.mem_singleton.1 hu
   obtain ⟨v0, hv0⟩ := hbM h9
   exact ⟨_, hv0, full_empty s v0 n f.ref⟩
  have hW3s : w.heap.size + 3 ≤ V3.heap.size := Nat.le_trans hWs hU3.size
  have hfar3 : ∀ q, w.heap.size ≤ q → q < w.heap.size + 3 → q ∉ blocks (rowsS t3) := fun q h1 h2 h3 => hfarS q h1 h2 (ho3 q h3 (HFV.out q h1 h2).1)
  have HEND3 : Hid (∀ (e : Ending) (w' : World), SPost wo s n f (k + 1 + (r.upto - r.frm)) g o t3 (onlyS (decM s n) f l r (bareS t3)) V3.drew e w' → MPost wo s (n + 1) m (k + 1 + (r.upto - r.frm)) p x (onSlot f.no (onlyS (decM s n) f l r) (leaveL (byS s m) f (x.F.map bareS))) w e w') := Lib.hid fun e w' h => HEND.out e w' (SPost.back (V1 := V3.drew) hno3 (hU3.then_below (Below.refl _ _).drew) hwoV hgo (fun q hq => (HLS.out.old hq).1) ho3 (by
   rw [ht3]
   exact onlyS_blank _ hV0 hbb) h)
  clear HEND
  have HEND := HEND3
  clear HEND3
  clear hbb hbL hbM hbc hown8 hg8 hat8 hlt8 hU3 ho3 ht3 hno3 hV3w HG8 HBV c7 c7b c8b f8 hb8 hb7d hs7 hb7
  obtain ⟨v, hvb⟩ : ∃ v, v = b := ⟨_, rfl⟩
  obtain ⟨rest, hre⟩ : ∃ rest : List (VL LM), rest = [] := ⟨_, rfl⟩
  rw [← hvb, ← hre] at hV3
  clear hvb hre
  obtain ⟨gv, cv, hgV, hgvo, hgvw, hAv, hLv, hgvn, hgvS, hvS⟩ := first_at hL3 hV3
  have hlen3 : t3.V.length = rest.length + 1 := by rw [hV3]; rfl
  rw [hlen3] at hgV
  have hggv : g ≠ gv := fun e => hgn3 (e ▸ hgvS)
  have hc92 : V3.cell? ⟨g, o + 2, none⟩ = some (.slice (some ⟨gv, 0, none⟩) (rest.length + 1) cv) := by rw [← hgV]; exact hA3.c2
  have hD9 : Below V3.heap.size V3 V3.drew := (Below.refl _ _).drew
  have HS6 : Hid (∀ wx, Below V3.heap.size V3 wx → ((wx.cell? ⟨w.heap.size, 0, none⟩ = some vM ∧ wx.cell? ⟨w.heap.size, 1, none⟩ = some vE ∧ wx.cell? ⟨w.heap.size, 2, none⟩ = some (.slice A l.length c)) ∧ (wx.cell? ⟨w.heap.size + 1, 0, none⟩ = some (.int .i64 f.no) ∧ wx.cell? ⟨w.heap.size + 1, 1, none⟩ = some (.string (txt f.name)) ∧ wx.cell? ⟨w.heap.size + 1, 2, none⟩ = some (.int .i64 f.kind) ∧ wx.cell? ⟨w.heap.size + 1, 3, none⟩ = some (.int .i64 f.ref) ∧ wx.cell? ⟨w.heap.size + 1, 4, none⟩ = some (.bool f.rep) ∧ wx.cell? ⟨w.heap.size + 1, 5, none⟩ = some (.int .i64 f.key) ∧ wx.cell? ⟨w.heap.size + 1, 6, none⟩ = some (.int .i64 f.one)) ∧ (wx.cell? ⟨w.heap.size + 2, 0, none⟩ = some (.int .i64 r.no) ∧ wx.cell? ⟨w.heap.size + 2, 1, none⟩ = some (.int .i64 r.wire) ∧ wx.cell? ⟨w.heap.size + 2, 2, none⟩ = some (.int .u64 r.num) ∧ wx.cell? ⟨w.heap.size + 2, 3, none⟩ = some (.int .i64 r.frm) ∧ wx.cell? ⟨w.heap.size + 2, 4, none⟩ = some (.int .i64 r.upto))) ∧ wx.cell? ⟨g, o + 2, none⟩ = some (.slice (some ⟨gv, 0, none⟩) (rest.length + 1) cv)) := Lib.hid fun wx h => ⟨s_on (hP3.out) h, cell_on h hc92⟩
  have hwn : ∀ q, w.heap.size ≤ q → q < w.heap.size + 3 → q < V3.heap.size ∧ q ≠ gv ∧ q ∉ blocks (rowsV v) := fun q h1 h2 => ⟨Nat.lt_of_lt_of_le (by omega) hW3s, fun e => hfar3 q h1 h2 (e ▸ hgvS), fun h => hfar3 q h1 h2 (hvS q h)⟩
  have HTF : Hid (∀ (x' : VL LM) wt, UpdV gv 0 x' (blocks (rowsV v)) V3.drew wt → ((wt.cell? ⟨w.heap.size, 0, none⟩ = some vM ∧ wt.cell? ⟨w.heap.size, 1, none⟩ = some vE ∧ wt.cell? ⟨w.heap.size, 2, none⟩ = some (.slice A l.length c)) ∧ (wt.cell? ⟨w.heap.size + 1, 0, none⟩ = some (.int .i64 f.no) ∧ wt.cell? ⟨w.heap.size + 1, 1, none⟩ = some (.string (txt f.name)) ∧ wt.cell? ⟨w.heap.size + 1, 2, none⟩ = some (.int .i64 f.kind) ∧ wt.cell? ⟨w.heap.size + 1, 3, none⟩ = some (.int .i64 f.ref) ∧ wt.cell? ⟨w.heap.size + 1, 4, none⟩ = some (.bool f.rep) ∧ wt.cell? ⟨w.heap.size + 1, 5, none⟩ = some (.int .i64 f.key) ∧ wt.cell? ⟨w.heap.size + 1, 6, none⟩ = some (.int .i64 f.one)) ∧ (wt.cell? ⟨w.heap.size + 2, 0, none⟩ = some (.int .i64 r.no) ∧ wt.cell? ⟨w.heap.size + 2, 1, none⟩ = some (.int .i64 r.wire) ∧ wt.cell? ⟨w.heap.size + 2, 2, none⟩ = some (.int .u64 r.num) ∧ wt.cell? ⟨w.heap.size + 2, 3, none⟩ = some (.int .i64 r.frm) ∧ wt.cell? ⟨w.heap.size + 2, 4, none⟩ = some (.int .i64 r.upto))) ∧ wt.cell? ⟨g, o + 2, none⟩ = some (.slice (some ⟨gv, 0, none⟩) (rest.length + 1) cv)) := Lib.hid fun x' wt hu => by
   have hk : ∀ q, q < V3.heap.size → q ≠ gv → q ∉ blocks (rowsV v) → wt.heap[q]? = V3.heap[q]? := fun q h1 h2 h3 => by
    rw [hu.block q h1 h3, set_far (fun e => h2 e.symm), set_far (fun e => h2 e.symm), set_far (fun e => h2 e.symm)]
    rfl
   exact ⟨s_blk hP3.out fun q h1 h2 => hk q (hwn q h1 h2).1 (hwn q h1 h2).2.1 (hwn q h1 h2).2.2, (World.cell?_of_block (hk g hgw3 hggv (fun h => hgn3 (hvS g h)))).trans hc92⟩
  have HTK := Lib.hid (HT f.kind f.ref r v gv 0 deep (k + 1) V3.drew hk0 hk9 (hbo3.trans (hD9.mono hbo3.size)) hgvo hgvw ⟨hAv.c0, hAv.c1, hAv.c2, hAv.froz⟩ (hLv.on hD9) hgvn (fun h9 => hful3 h9 v (by rw [hV3]; exact List.mem_cons_self ..)) hf1 hf2 hnum hK hdeep hd0)
  have HFIN : Hid (∀ (e : Ending) (w' : World), _ → MPost wo s (n + 1) m (k + 1 + (r.upto - r.frm)) p x (onSlot f.no (onlyS (decM s n) f l r) (leaveL (byS s m) f (x.F.map bareS))) w e w') := Lib.hid fun e w' h => HEND.out e w' (take_post (K := k + 1) (w := V3.drew) hgw3 (AtSlo.on hA3 hD9 hgw3) (hL3.on hD9) hgn3 (by rw [hlen3]; exact hgV) hV3 (Nat.le_add_right _ _) hful3 h)
  clear hgV hAv hLv hgvn hgvS hvS hwn hA3 hL3 hgn3 hP3 hbo3 hful3 hfar3 hlen3 hgvo HEND
  go_wp2_with fail
  refine wp_region_held_drew (S := (fun w' => ((w'.cell? ⟨w.heap.size, 0, none⟩ = some vM ∧ w'.cell? ⟨w.heap.size, 1, none⟩ = some vE ∧ w'.cell? ⟨w.heap.size, 2, none⟩ = some (.slice A l.length c)) ∧ (w'.cell? ⟨w.heap.size + 1, 0, none⟩ = some (.int .i64 f.no) ∧ w'.cell? ⟨w.heap.size + 1, 1, none⟩ = some (.string (txt f.name)) ∧ w'.cell? ⟨w.heap.size + 1, 2, none⟩ = some (.int .i64 f.kind) ∧ w'.cell? ⟨w.heap.size + 1, 3, none⟩ = some (.int .i64 f.ref) ∧ w'.cell? ⟨w.heap.size + 1, 4, none⟩ = some (.bool f.rep) ∧ w'.cell? ⟨w.heap.size + 1, 5, none⟩ = some (.int .i64 f.key) ∧ w'.cell? ⟨w.heap.size + 1, 6, none⟩ = some (.int .i64 f.one)) ∧ (w'.cell? ⟨w.heap.size + 2, 0, none⟩ = some (.int .i64 r.no) ∧ w'.cell? ⟨w.heap.size + 2, 1, none⟩ = some (.int .i64 r.wire) ∧ w'.cell? ⟨w.heap.size + 2, 2, none⟩ = some (.int .u64 r.num) ∧ w'.cell? ⟨w.heap.size + 2, 3, none⟩ = some (.int .i64 r.frm) ∧ w'.cell? ⟨w.heap.size + 2, 4, none⟩ = some (.int .i64 r.upto))) ∧ w'.cell? ⟨g, o + 2, none⟩ = some (.slice (some ⟨gv, 0, none⟩) (rest.length + 1) cv))) (by kernel_rfl) (HS6.out _ hD9) (fun hHeld => ?_)
  refine tk 0 ?_
  refine tk 1 ?_
  refine tk 2 ?_
  refine tk 3 ?_
  refine tk 4 ?_
  refine tk 5 ?_
  refine tk 6 ?_
  refine tk 7 ?_
  refine tk 8 ?_
  refine tk 9 ?_
  refine tk 10 ?_
  refine tk 11 ?_
  refine wpAnyH_ready (rs := [12]) (by kernel_rfl) (by simp) ?_
  refine AllReadyH.cons rfl (fun K hK => ?_) AllReadyH.nil
  go_simp
  (go_at_call 198; refine HTK.out.mono ?_; rintro e wt hp)
  rcases hp with ⟨er, h1, rfl, h3⟩ | ⟨x', h1, rfl, h3, h4, h5, h6, h7⟩
  ·go_wp2_with fail
   exact ⟨rfl, HFIN.out _ _ (.inl ⟨er, h1, rfl, h3⟩)⟩
  ·have HT9 := HTF.out _ _ h3
   have HQ9 := Lib.hid (HFIN.out (.returned (.tuple #[])) _ (.inr ⟨x', h1, rfl, h3, h4, h5, h6, h7⟩))
   clear h1 h3 h4 h5 h6 h7
   go_wp2_with fail
   refine hK.out _ _ HT9 (fun hHeld => ?_)
   clear hK K
   refine wpAnyH_done (by kernel_rfl) ?_ _
   go_wp2
   go_end0
   exact HQ9.out
 ·-- the first value
  have hgV' : t.gV = .slice Ag (rest.length + 1) cg := by rw [hgV, hVc]; rfl
  have c20 : V2.cell? ⟨g, o + 2, none⟩ = some (.slice Ag (rest.length + 1) cg) := by rw [← hgV']; exact hA2.c2
  have hz0 : (((rest.length + 1 : Nat) : Int) == 0) = false := beq_eq_false_iff_ne.2 (by omega)
  obtain ⟨t3, ht3⟩ : ∃ t3, t3 = t := ⟨_, rfl⟩
  obtain ⟨V3, hV3w⟩ : ∃ V3, V3 = V2 := ⟨_, rfl⟩
  have HEND3 : Hid (∀ (e : Ending) (w' : World), SPost wo s n f (k + 1 + (r.upto - r.frm)) g o t3 (onlyS (decM s n) f l r (bareS t3)) V3.drew e w' → MPost wo s (n + 1) m (k + 1 + (r.upto - r.frm)) p x (onSlot f.no (onlyS (decM s n) f l r) (leaveL (byS s m) f (x.F.map bareS))) w e w') := Lib.hid fun e w' h => HEND.out e w' (by
   subst ht3 hV3w
   exact SPost.back (V1 := V3.drew) rfl (UpdS.idle _ hA2 (Below.refl _ _).drew) hwoV hgo (fun q hq => (hL2.old hq).1) (fun q hq _ => hq) rfl h)
  clear HEND
  have HEND := HEND3
  clear HEND3
  have hLm := hL2
  obtain ⟨⟨s0', s1', s2'⟩, ⟨g0', g1', g2', g3', g4', g5', g6'⟩, r0', r1', r2', r3', r4'⟩ := hP2.out
  rw [← ht3] at hVc hA2 hLm hgn2 hfull hgV' hfarS
  rw [← hV3w] at hA2 hLm hP2 hgw hboV hWs
  have hV3 := hVc
  have hA3 := hA2
  have hL3 := hLm
  have hgn3 := hgn2
  have hP3 := hP2
  have hgw3 := hgw
  have hbo3 := hboV
  have hful3 := hfull
  have hW3s := hWs
  have hfar3 := hfarS
  have HC20 := Lib.hid c20
  clear hVc hA2 hL2 hLm hgn2 hP2 hgw hboV hfull hWs hfarS hgV' hfarG hsgv HRV0 hgV ht3
  obtain ⟨gv, cv, hgV, hgvo, hgvw, hAv, hLv, hgvn, hgvS, hvS⟩ := first_at hL3 hV3
  have hlen3 : t3.V.length = rest.length + 1 := by rw [hV3]; rfl
  rw [hlen3] at hgV
  have hggv : g ≠ gv := fun e => hgn3 (e ▸ hgvS)
  have hc92 : V3.cell? ⟨g, o + 2, none⟩ = some (.slice (some ⟨gv, 0, none⟩) (rest.length + 1) cv) := by rw [← hgV]; exact hA3.c2
  have hD9 : Below V3.heap.size V3 V3.drew := (Below.refl _ _).drew
  have HS6 : Hid (∀ wx, Below V3.heap.size V3 wx → ((wx.cell? ⟨w.heap.size, 0, none⟩ = some vM ∧ wx.cell? ⟨w.heap.size, 1, none⟩ = some vE ∧ wx.cell? ⟨w.heap.size, 2, none⟩ = some (.slice A l.length c)) ∧ (wx.cell? ⟨w.heap.size + 1, 0, none⟩ = some (.int .i64 f.no) ∧ wx.cell? ⟨w.heap.size + 1, 1, none⟩ = some (.string (txt f.name)) ∧ wx.cell? ⟨w.heap.size + 1, 2, none⟩ = some (.int .i64 f.kind) ∧ wx.cell? ⟨w.heap.size + 1, 3, none⟩ = some (.int .i64 f.ref) ∧ wx.cell? ⟨w.heap.size + 1, 4, none⟩ = some (.bool f.rep) ∧ wx.cell? ⟨w.heap.size + 1, 5, none⟩ = some (.int .i64 f.key) ∧ wx.cell? ⟨w.heap.size + 1, 6, none⟩ = some (.int .i64 f.one)) ∧ (wx.cell? ⟨w.heap.size + 2, 0, none⟩ = some (.int .i64 r.no) ∧ wx.cell? ⟨w.heap.size + 2, 1, none⟩ = some (.int .i64 r.wire) ∧ wx.cell? ⟨w.heap.size + 2, 2, none⟩ = some (.int .u64 r.num) ∧ wx.cell? ⟨w.heap.size + 2, 3, none⟩ = some (.int .i64 r.frm) ∧ wx.cell? ⟨w.heap.size + 2, 4, none⟩ = some (.int .i64 r.upto))) ∧ wx.cell? ⟨g, o + 2, none⟩ = some (.slice (some ⟨gv, 0, none⟩) (rest.length + 1) cv)) := Lib.hid fun wx h => ⟨s_on (hP3.out) h, cell_on h hc92⟩
  have hwn : ∀ q, w.heap.size ≤ q → q < w.heap.size + 3 → q < V3.heap.size ∧ q ≠ gv ∧ q ∉ blocks (rowsV v) := fun q h1 h2 => ⟨Nat.lt_of_lt_of_le (by omega) hW3s, fun e => hfar3 q h1 h2 (e ▸ hgvS), fun h => hfar3 q h1 h2 (hvS q h)⟩
  have HTF : Hid (∀ (x' : VL LM) wt, UpdV gv 0 x' (blocks (rowsV v)) V3.drew wt → ((wt.cell? ⟨w.heap.size, 0, none⟩ = some vM ∧ wt.cell? ⟨w.heap.size, 1, none⟩ = some vE ∧ wt.cell? ⟨w.heap.size, 2, none⟩ = some (.slice A l.length c)) ∧ (wt.cell? ⟨w.heap.size + 1, 0, none⟩ = some (.int .i64 f.no) ∧ wt.cell? ⟨w.heap.size + 1, 1, none⟩ = some (.string (txt f.name)) ∧ wt.cell? ⟨w.heap.size + 1, 2, none⟩ = some (.int .i64 f.kind) ∧ wt.cell? ⟨w.heap.size + 1, 3, none⟩ = some (.int .i64 f.ref) ∧ wt.cell? ⟨w.heap.size + 1, 4, none⟩ = some (.bool f.rep) ∧ wt.cell? ⟨w.heap.size + 1, 5, none⟩ = some (.int .i64 f.key) ∧ wt.cell? ⟨w.heap.size + 1, 6, none⟩ = some (.int .i64 f.one)) ∧ (wt.cell? ⟨w.heap.size + 2, 0, none⟩ = some (.int .i64 r.no) ∧ wt.cell? ⟨w.heap.size + 2, 1, none⟩ = some (.int .i64 r.wire) ∧ wt.cell? ⟨w.heap.size + 2, 2, none⟩ = some (.int .u64 r.num) ∧ wt.cell? ⟨w.heap.size + 2, 3, none⟩ = some (.int .i64 r.frm) ∧ wt.cell? ⟨w.heap.size + 2, 4, none⟩ = some (.int .i64 r.upto))) ∧ wt.cell? ⟨g, o + 2, none⟩ = some (.slice (some ⟨gv, 0, none⟩) (rest.length + 1) cv)) := Lib.hid fun x' wt hu => by
   have hk : ∀ q, q < V3.heap.size → q ≠ gv → q ∉ blocks (rowsV v) → wt.heap[q]? = V3.heap[q]? := fun q h1 h2 h3 => by
    rw [hu.block q h1 h3, set_far (fun e => h2 e.symm), set_far (fun e => h2 e.symm), set_far (fun e => h2 e.symm)]
    rfl
   exact ⟨s_blk hP3.out fun q h1 h2 => hk q (hwn q h1 h2).1 (hwn q h1 h2).2.1 (hwn q h1 h2).2.2, (World.cell?_of_block (hk g hgw3 hggv (fun h => hgn3 (hvS g h)))).trans hc92⟩
  have HTK := Lib.hid (HT f.kind f.ref r v gv 0 deep (k + 1) V3.drew hk0 hk9 (hbo3.trans (hD9.mono hbo3.size)) hgvo hgvw ⟨hAv.c0, hAv.c1, hAv.c2, hAv.froz⟩ (hLv.on hD9) hgvn (fun h9 => hful3 h9 v (by rw [hV3]; exact List.mem_cons_self ..)) hf1 hf2 hnum hK hdeep hd0)
  have HFIN : Hid (∀ (e : Ending) (w' : World), _ → MPost wo s (n + 1) m (k + 1 + (r.upto - r.frm)) p x (onSlot f.no (onlyS (decM s n) f l r) (leaveL (byS s m) f (x.F.map bareS))) w e w') := Lib.hid fun e w' h => HEND.out e w' (take_post (K := k + 1) (w := V3.drew) hgw3 (AtSlo.on hA3 hD9 hgw3) (hL3.on hD9) hgn3 (by rw [hlen3]; exact hgV) hV3 (Nat.le_add_right _ _) hful3 h)
  clear hgV hAv hLv hgvn hgvS hvS hwn hA3 hL3 hgn3 hP3 hbo3 hful3 hfar3 hlen3 hgvo HEND
  obtain rfl : Ag = some ⟨gv, 0, none⟩ := by
   have h := HC20.out
   rw [← hV3w] at h
   have h2 := Option.some.inj (h.symm.trans hc92)
   injection h2
  obtain rfl : cv = cg := by
   have h := HC20.out
   rw [← hV3w] at h
   have h2 := Option.some.inj (hc92.symm.trans h)
   injection h2
  clear HC20
  subst hV3w
  go_wp2_with fail
  refine wp_region_held_drew (S := (fun w' => ((w'.cell? ⟨w.heap.size, 0, none⟩ = some vM ∧ w'.cell? ⟨w.heap.size, 1, none⟩ = some vE ∧ w'.cell? ⟨w.heap.size, 2, none⟩ = some (.slice A l.length c)) ∧ (w'.cell? ⟨w.heap.size + 1, 0, none⟩ = some (.int .i64 f.no) ∧ w'.cell? ⟨w.heap.size + 1, 1, none⟩ = some (.string (txt f.name)) ∧ w'.cell? ⟨w.heap.size + 1, 2, none⟩ = some (.int .i64 f.kind) ∧ w'.cell? ⟨w.heap.size + 1, 3, none⟩ = some (.int .i64 f.ref) ∧ w'.cell? ⟨w.heap.size + 1, 4, none⟩ = some (.bool f.rep) ∧ w'.cell? ⟨w.heap.size + 1, 5, none⟩ = some (.int .i64 f.key) ∧ w'.cell? ⟨w.heap.size + 1, 6, none⟩ = some (.int .i64 f.one)) ∧ (w'.cell? ⟨w.heap.size + 2, 0, none⟩ = some (.int .i64 r.no) ∧ w'.cell? ⟨w.heap.size + 2, 1, none⟩ = some (.int .i64 r.wire) ∧ w'.cell? ⟨w.heap.size + 2, 2, none⟩ = some (.int .u64 r.num) ∧ w'.cell? ⟨w.heap.size + 2, 3, none⟩ = some (.int .i64 r.frm) ∧ w'.cell? ⟨w.heap.size + 2, 4, none⟩ = some (.int .i64 r.upto))) ∧ w'.cell? ⟨g, o + 2, none⟩ = some (.slice (some ⟨gv, 0, none⟩) (rest.length + 1) cv))) (by kernel_rfl) (HS6.out _ hD9) (fun hHeld => ?_)
  refine tk 0 ?_
  refine tk 1 ?_
  refine tk 2 ?_
  refine tk 3 ?_
  refine tk 4 ?_
  refine tk 5 ?_
  refine tk 6 ?_
  refine tk 7 ?_
  refine tk 8 ?_
  refine tk 9 ?_
  refine tk 10 ?_
  refine tk 11 ?_
  refine wpAnyH_ready (rs := [12]) (by kernel_rfl) (by simp) ?_
  refine AllReadyH.cons rfl (fun K hK => ?_) AllReadyH.nil
  go_simp
  (go_at_call 198; refine HTK.out.mono ?_; rintro e wt hp)
  rcases hp with ⟨er, h1, rfl, h3⟩ | ⟨x', h1, rfl, h3, h4, h5, h6, h7⟩
  ·go_wp2_with fail
   exact ⟨rfl, HFIN.out _ _ (.inl ⟨er, h1, rfl, h3⟩)⟩
  ·have HT9 := HTF.out _ _ h3
   have HQ9 := Lib.hid (HFIN.out (.returned (.tuple #[])) _ (.inr ⟨x', h1, rfl, h3, h4, h5, h6, h7⟩))
   clear h1 h3 h4 h5 h6 h7
   go_wp2_with fail
   refine hK.out _ _ HT9 (fun hHeld => ?_)
   clear hK K
   refine wpAnyH_done (by kernel_rfl) ?_ _
   go_wp2
   go_end0
   exact HQ9.out
end Go.Proofs.YtckcojkpghiclaaGreatDoor.T11
