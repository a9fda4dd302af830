/-
  A node and all that are in it, handed on one by one: the function that calls itself, the iterator, and the function that makes it.
-/
import Derived.RangeFuncNested
import Derived.RangeFuncBound
import Derived.RangeFuncCalls
import Derived.RangeFuncLeaves
import Derived.Shelf.Abstract
import Derived.Shelf.RegionOpen
import Derived.OwnWalkIn
import Derived.TacticsInMore
import Derived.LoopNIn
import Derived.LoopIn
import Derived.Test.YtceomdbahiimlaaDoorSexFits
namespace Go.Proofs.YtceomdbahiimlaaDoor.T14
set_option maxRecDepth 100000

open Go.RowKit Go.Shelf

attribute [local go_sem] Oper.semAt_some

theorem measure_down {k xl : Nat} (h : k < xl) : xl - ((k : Int) + 1).toNat < xl - ((k : Int)).toNat := by omega

/-- What is handed on: a node, its row's value, how many lists it is within; it lies below n₀ in W0. -/
def HandT (n₀ : Nat) (W0 : World) : Type := { p : Nd × Value × Nat // (∃ d, NAt (Rd n₀ W0) d p.1 [.int .i64 p.1.kind, .string (tx p.1.text), .int .i64 p.1.num, .int .i64 p.1.at_, p.2.1]) ∧ p.1.text.length ≤ 1000000 }
def HandT.pr {n₀ : Nat} {W0 : World} (x : HandT n₀ W0) : Nd × Nat := (x.1.1, x.1.2.2)
def HandT.enc {n₀ : Nat} {W0 : World} (x : HandT n₀ W0) : Array Value := #[.agg #[.int .i64 x.1.1.kind, .string (tx x.1.1.text), .int .i64 x.1.1.num, .int .i64 x.1.1.at_, x.1.2.1], .int .i64 x.1.2.2]
/-- What lay below n lies as it lay, and so do the cells that lay at m or beyond. -/
def KpH (n m : Nat) (W W' : World) : Prop := Below n W W' ∧ ∀ j o, m ≤ j → W.heap[j]? = some o → o.isCells = true → W'.heap[j]? = some o
theorem KpH.trans {n m : Nat} {A B C : World} (h : KpH n m A B) (g : KpH n m B C) : KpH n m A C := ⟨h.1.trans g.1, fun j o hm hj hc => g.2 j o hm (h.2 j o hm hj hc) hc⟩
theorem KpH.put {n m : Nat} {w : World} (hn : n ≤ w.heap.size) (W : World) (l : Nat) (o o' : Obj) (hl : w.heap.size ≤ l) (h : W.heap[l]? = some o) (h1 : o.isCells = false) (h2 : o.isWalk = false) : KpH n m W (W.putObj l o') :=
  ⟨belowK_b hn W l o o' hl h h1 h2, fun j oo _ hj hc => by
    rw [World.putObj_heap_other (fun e => by rw [e, h] at hj; cases hj; rw [h1] at hc; cases hc)]
    exact hj⟩
theorem KpH.of_below {n m B : Nat} {W W' : World} (h : Below B W W') (hn : n ≤ B) (hB : B = W.heap.size) : KpH n m W W' := ⟨h.mono hn, fun j o _ hj _ => (h.block j (by rw [hB]; exact (Array.getElem?_eq_some_iff.1 hj).1)).trans hj⟩
theorem wrap64_fits (k : Nat) {n : Nat} (h : k < n) (hn : n ≤ 10000000000000) : wrap64 ((k : Int) + 1) = (k : Int) + 1 := by
  unfold wrap64; omega
theorem yield_any {m m' : Nat} {P : Program} {l : Nat} {args : Array Value} {W : World} {R : Ending → World → Prop} (h : YieldAt Fence.wide m P l args W R) : YieldAt Fence.wide m' P l args W R := by
  obtain ⟨fn, tmps, assign, body, hy, hR⟩ := h
  exact ⟨fn, tmps, assign, body, hy, ⟨hR.1, fun c cs _ => hR.2 c cs (fun d h => by cases h)⟩⟩
/-- Element k of a row of nodes, at any depth. -/
theorem row5d {w : World} {A : Option Addr} {c : Nat} {d : Nat} {R : RP} {l : List Nd} {xs : List Value} (hs : Sl w A l.length c 5 xs) (hr : Rows (NAt R d) l xs) {k : Nat} {a : Nd} (hk : l[k]? = some a) :
    ∃ ad u, A = some ad ∧ ad.block < w.heap.size ∧ NAt R d a [.int .i64 a.kind, .string (tx a.text), .int .i64 a.num, .int .i64 a.at_, u] ∧ w.cell? (ad.add (k * 5)) = some (.int .i64 a.kind) ∧ w.cell? ⟨(ad.add (k * 5)).block, (ad.add (k * 5)).off + 1, none⟩ = some (.string (tx a.text)) ∧ w.cell? ⟨(ad.add (k * 5)).block, (ad.add (k * 5)).off + 2, none⟩ = some (.int .i64 a.num) ∧ w.cell? ⟨(ad.add (k * 5)).block, (ad.add (k * 5)).off + 3, none⟩ = some (.int .i64 a.at_) ∧ w.cell? ⟨(ad.add (k * 5)).block, (ad.add (k * 5)).off + 4, none⟩ = some u := by
  cases d with
  | zero =>
    obtain ⟨cs, hcs, -⟩ := hr.get (size := 5) (fun a cs h => NAt.len a cs h) hk
    exact hcs.elim
  | succ d => exact row5 hs hr hk
set_option maxRecDepth 1000000 in
set_option maxHeartbeats 4000000 in
theorem handOn_in (lp n₀ N m : Nat) (W0 : World) (hn₀ : n₀ ≤ m) (J Jx : List (HandT n₀ W0) → World → Prop) (hJ : AbidesFrom m J)
    (hY : ∀ q pre x W1, J pre W1 → pre.length < N → YieldAt Fence.wide q Tryd.prog lp (HandT.enc x) W1 fun e W' =>
      (e = .returned (.bool true) ∧ J (pre ++ [x]) W' ∧ KpH n₀ m W1 W') ∨ (e = .returned (.bool false) ∧ Jx (pre ++ [x]) W')) :
    ∀ (d : Nat) (x : Nd) (u : Value) (i : Nat), i + d ≤ 1000000 → NAt (Rd n₀ W0) d x [.int .i64 x.kind, .string (tx x.text), .int .i64 x.num, .int .i64 x.at_, u] → (∀ y ∈ x.pre i, y.1.text.length ≤ 1000000) →
      ∃ L : List (HandT n₀ W0), L.map HandT.pr = x.pre i ∧ ∀ n pre W, Below n₀ W0 W → m ≤ W.heap.size → J pre W → pre.length + L.length ≤ N →
        CallsIn Fence.wide n Tryd.prog 40 #[.agg #[.int .i64 x.kind, .string (tx x.text), .int .i64 x.num, .int .i64 x.at_, u], .int .i64 i, .func (.yield lp) #[] #[]] W fun e W' =>
          (e = .returned (.bool true) ∧ J (pre ++ L) W' ∧ Below n₀ W W') ∨ (e = .returned (.bool false) ∧ ∃ q, q <+: L ∧ Jx (pre ++ q) W') := by
  intro d
  induction d with
  | zero => intro x u i _ h; exact h.elim
  | succ d ih =>
    intro x u i hid hx hsm
    have hx0 := hx
    obtain ⟨u', hcs, hls⟩ := hx
    obtain rfl : u = u' := by simpa using hcs
    clear hcs
    obtain ⟨A, c, xs, rfl, hs, hb, hr, hnl⟩ := hls.open_
    have hch : ∀ j, j < x.l.length → ∃ p : Value × List (HandT n₀ W0), ∃ a, x.l[j]? = some a ∧ p.2.map HandT.pr = a.pre (i + 1) ∧ (∃ Av nv cv, p.1 = .slice Av nv cv) ∧
        (∃ ad, A = some ad ∧ ad.block < n₀ ∧ W0.cell? (ad.add (j * 5)) = some (.int .i64 a.kind) ∧ W0.cell? ⟨(ad.add (j * 5)).block, (ad.add (j * 5)).off + 1, none⟩ = some (.string (tx a.text)) ∧ W0.cell? ⟨(ad.add (j * 5)).block, (ad.add (j * 5)).off + 2, none⟩ = some (.int .i64 a.num) ∧ W0.cell? ⟨(ad.add (j * 5)).block, (ad.add (j * 5)).off + 3, none⟩ = some (.int .i64 a.at_) ∧ W0.cell? ⟨(ad.add (j * 5)).block, (ad.add (j * 5)).off + 4, none⟩ = some p.1) ∧
        ∀ n pre W, Below n₀ W0 W → m ≤ W.heap.size → J pre W → pre.length + p.2.length ≤ N →
        CallsIn Fence.wide n Tryd.prog 40 #[.agg #[.int .i64 a.kind, .string (tx a.text), .int .i64 a.num, .int .i64 a.at_, p.1], .int .i64 ((i + 1 : Nat) : Int), .func (.yield lp) #[] #[]] W fun e W' =>
          (e = .returned (.bool true) ∧ J (pre ++ p.2) W' ∧ Below n₀ W W') ∨ (e = .returned (.bool false) ∧ ∃ q, q <+: p.2 ∧ Jx (pre ++ q) W') := fun j hj => by
      have ha : x.l[j]? = some x.l[j] := List.getElem?_eq_getElem hj
      obtain ⟨ad, v, rfl, hadb, hna, c0, c1, c2, c3, c4⟩ := row5d hs hr ha
      obtain ⟨L, hL, hC⟩ := ih x.l[j] v (i + 1) (by omega) hna (fun y hy => hsm y (by rw [Nd.pre_eq]; exact List.mem_cons_of_mem _ (List.mem_flatten.2 ⟨_, List.mem_map.2 ⟨_, List.getElem_mem hj, rfl⟩, hy⟩)))
      have hsh : ∃ Av nv cv, v = Value.slice Av nv cv := by
        cases d with
        | zero => exact hna.elim
        | succ d =>
          obtain ⟨u', e, hl2⟩ := hna
          obtain ⟨Av, cv, _, h1, -⟩ := hl2.open_
          simp only [List.cons.injEq, and_true, true_and] at e
          exact ⟨Av, _, cv, e.trans h1⟩
      exact ⟨(v, L), _, ha, hL, hsh, ⟨ad, rfl, hb ad rfl (by omega), c0, c1, c2, c3, c4⟩, hC⟩
    obtain ⟨f, hf⟩ := Deep.choose_lt hch
    obtain ⟨hx1, hpr1, henc1⟩ : ∃ y : HandT n₀ W0, HandT.pr y = (x, i) ∧ HandT.enc y = #[.agg #[.int .i64 x.kind, .string (tx x.text), .int .i64 x.num, .int .i64 x.at_, .slice A x.l.length c], .int .i64 i] :=
      ⟨⟨(x, .slice A x.l.length c, i), ⟨d + 1, hx0⟩, hsm (x, i) (by rw [Nd.pre_eq]; exact List.mem_cons_self ..)⟩, rfl, rfl⟩
    have hLk : ∀ k, k ≤ x.l.length → (((List.range k).map fun j => (f j).2).flatten.map HandT.pr) = ((x.l.take k).map fun y => y.pre (i + 1)).flatten := by
      intro k
      induction k with
      | zero => intro _; rfl
      | succ k ihk =>
        intro hk
        obtain ⟨a, ha, hL, -⟩ := hf k (by omega)
        rw [List.range_succ, List.map_append, List.flatten_append, List.map_append, ihk (by omega), List.take_add_one, ha, List.map_append, List.flatten_append]
        simp [hL]
    refine ⟨hx1 :: ((List.range x.l.length).map fun j => (f j).2).flatten, ?_, ?_⟩
    · rw [List.map_cons, hpr1, hLk _ (Nat.le_refl _), List.take_length, ← Nd.pre_eq]
    intro n pre W hW hWs hJW hN
    rw [List.length_cons] at hN
    have hmono : ∀ k, k < x.l.length → ((List.range k).map fun j => (f j).2).flatten.length + (f k).2.length ≤ ((List.range x.l.length).map fun j => (f j).2).flatten.length := fun k hk => by
      have e : ((List.range (k + 1)).map fun j => (f j).2).flatten.length = ((List.range k).map fun j => (f j).2).flatten.length + (f k).2.length := by
        rw [List.range_succ, List.map_append, List.flatten_append, List.length_append]; simp
      rw [← e]
      have h2 : List.range x.l.length = List.range (k + 1) ++ (List.range (x.l.length - (k + 1))).map (k + 1 + ·) := by
        rw [← List.range_add]; congr 1; omega
      rw [h2, List.map_append, List.flatten_append, List.length_append]
      omega
    have hN1 := heap_alloc_new W (.cells #[.int .i64 x.kind, .string (tx x.text), .int .i64 x.num, .int .i64 x.at_, .slice A x.l.length c] 24)
    have hB1 := below_new W (.cells #[.int .i64 x.kind, .string (tx x.text), .int .i64 x.num, .int .i64 x.at_, .slice A x.l.length c] 24)
    obtain ⟨n0, n1, n2, n3, n4⟩ := five_cells hN1
    have hJ1 : J pre (W.alloc (.cells #[.int .i64 x.kind, .string (tx x.text), .int .i64 x.num, .int .i64 x.at_, .slice A x.l.length c] 24)) :=
      hJ _ _ _ none hJW ⟨hB1.os, hB1.tape, hB1.output, hB1.size, fun k hk _ => hB1.block k hk⟩ (fun r h => by cases h)
    obtain ⟨fn, tmps, assign, body, hy, hR⟩ := hY (n - 1) pre hx1 _ hJ1 (by omega)
    rw [henc1] at hy
    refine callsIn_of_wp Tryd.func40 rfl trivial ?_ rfl
    simp only [Tryd.ntmps40, List.size_toArray, List.length_cons, List.length_nil, Nat.reduceAdd, Nat.reduceSub, Array.replicate_succ, Array.replicate_zero, List.push_toArray, List.append_toArray, List.nil_append, List.cons_append]
    have hcat : ∀ (l1 l2 : List (HandT n₀ W0)), pre ++ hx1 :: (l1 ++ l2) = pre ++ [hx1] ++ l1 ++ l2 := fun l1 l2 => by simp
    gi_wp2
    refine ⟨fun h => absurd h (by simp [Fence.wide]), hR.mono ?_⟩
    rintro e W1 (⟨rfl, hJ2, hk2⟩ | ⟨rfl, hx2⟩)
    · have hbox := hk2.2 _ _ hWs hN1 rfl
      obtain ⟨q0, q1, q2, q3, q4⟩ := five_cells hbox
      have hb01 : Below n₀ W W1 := (hB1.mono (Nat.le_trans hn₀ hWs)).trans hk2.1
      have hs1 : m ≤ W1.heap.size := Nat.le_trans hWs (Nat.le_trans hB1.size hk2.1.size)
      clear n0 n1 n2 n3 n4 hbox hJ1 hk2 hN1 hB1 hR hy
      obtain ⟨xl, hxl⟩ : ∃ xl, x.l.length = xl := ⟨_, rfl⟩
      rw [hxl] at q4 hmono hf hN hLk hnl
      have hflat : ∀ k, ((List.range (k + 1)).map fun j => (f j).2).flatten = ((List.range k).map fun j => (f j).2).flatten ++ (f k).2 := fun k => by
        rw [List.range_succ, List.map_append, List.flatten_append]; simp
      have hpre : ∀ k, k < xl → ((List.range k).map fun j => (f j).2).flatten ++ (f k).2 <+: ((List.range xl).map fun j => (f j).2).flatten := fun k hk => by
        rw [← hflat k]
        have h2 : List.range xl = List.range (k + 1) ++ (List.range (xl - (k + 1))).map (k + 1 + ·) := by
          rw [← List.range_add]; congr 1; omega
        rw [h2, List.map_append, List.flatten_append]
        exact List.prefix_append _ _
      have hwi : IntKind.i64.wrap ((i : Int) + 1) = (i : Int) + 1 := by simp [IntKind.wrap, IntKind.signed, IntKind.bits]; split <;> omega
      have hci : (((i + 1 : Nat)) : Int) = (i : Int) + 1 := by omega
      have HF := Lib.hid hf
      have HXL := Lib.hid hxl
      have HM := Lib.hid (And.intro hmono (And.intro hflat (And.intro hpre hci)))
      clear hf hmono hflat hpre hci hLk hcat henc1 hpr1 hx0 hsm hls hs hr hxl hch ih hb
      gi_wp2_with fail
      gi_loopw [17] (fun p wr => ∃ k : Nat, p = .int .i64 k ∧ k ≤ xl ∧ J (pre ++ [hx1] ++ ((List.range k).map fun j => (f j).2).flatten) wr ∧ Below n₀ W wr ∧ m ≤ wr.heap.size) (fun p _ => xl - (intOf p).toNat)
      case atStart => exact ⟨0, rfl, Nat.zero_le _, by simpa using hJ2, hb01, hs1⟩
      case round =>
        obtain ⟨k, rfl, hk, hJk, hbk, hsk⟩ := hrel
        by_cases hlt : k < xl
        · have d1 : (k : Int) < (xl : Int) := by omega
          obtain ⟨a, ha, hL, ⟨Av, nv, cv, hv⟩, ⟨ad, hA, hadb, c0, c1, c2, c3, c4⟩, hC⟩ := HF.out k hlt
          subst hA
          rw [hv] at c4 hC
          have hB0 : Below n₀ W0 wr := hW.trans hbk
          have e0 : (ad.add (k * 5)).block < n₀ := by rw [add_same_block]; exact hadb
          have s0 := (hB0.cell (p := ad.add (k * 5)) e0).trans c0
          have s1 := (hB0.cell (p := ⟨(ad.add (k * 5)).block, (ad.add (k * 5)).off + 1, none⟩) e0).trans c1
          have s2 := (hB0.cell (p := ⟨(ad.add (k * 5)).block, (ad.add (k * 5)).off + 2, none⟩) e0).trans c2
          have s3 := (hB0.cell (p := ⟨(ad.add (k * 5)).block, (ad.add (k * 5)).off + 3, none⟩) e0).trans c3
          have s4 := (hB0.cell (p := ⟨(ad.add (k * 5)).block, (ad.add (k * 5)).off + 4, none⟩) e0).trans c4
          have hB4 := below_new wr (.cells #[.int .i64 a.kind, .string (tx a.text), .int .i64 a.num, .int .i64 a.at_, .slice Av nv cv] 24)
          have hJ4 := hJ _ _ (wr.alloc (.cells #[.int .i64 a.kind, .string (tx a.text), .int .i64 a.num, .int .i64 a.at_, .slice Av nv cv] 24)) none hJk ⟨hB4.os, hB4.tape, hB4.output, hB4.size, fun k hk _ => hB4.block k hk⟩ (fun r h => by cases h)
          have hn4 : n₀ ≤ wr.heap.size := Nat.le_trans hn₀ hsk
          have hC4 := hC (n - 1) _ _ (hB0.trans (hB4.mono hn4)) (Nat.le_trans hsk hB4.size) hJ4 (by have := HM.out.1 k hlt; simp only [List.length_append, List.length_cons, List.length_nil]; omega)
          rw [HM.out.2.2.2] at hC4
          have HB4 := Lib.hid (And.intro (hbk.trans (hB4.mono hn4)) (Nat.le_trans hsk hB4.size))
          have HC4 := Lib.hid hC4
          clear hC hC4 hB4 hJ4 hJk hbk hsk hB0 c0 c1 c2 c3 c4 ha hL hadb e0 hn4
          have hwk : wrap64 ((k : Int) + 1) = (k : Int) + 1 := wrap64_fits k hlt hnl
          gi_wp2_with fail
          refine ⟨trivial, fun h => absurd h (by simp [Fence.wide]), HC4.out.mono ?_⟩
          rintro e W4 (⟨rfl, hJ5, hb5⟩ | ⟨rfl, q, hq, hx5⟩)
          · have hb6 := HB4.out.1.trans hb5
            have hs6 := Nat.le_trans HB4.out.2 hb5.size
            clear HC4 s0 s1 s2 s3 s4
            gi_wp2
            go_roundw
            case rel => exact ⟨k + 1, by rw [hwk, Int.natCast_add, Int.natCast_one], hlt, by rw [HM.out.2.1]; simpa using hJ5, hb6, hs6⟩
            case measure => rw [hwk]; exact measure_down hlt
          · clear HC4 s0 s1 s2 s3 s4
            gi_wp2
            go_ret
            refine .inr ⟨rfl, hx1 :: (((List.range k).map fun j => (f j).2).flatten ++ q), ?_, by simpa using hx5⟩
            obtain ⟨r1, hr1⟩ := hq
            obtain ⟨r2, hr2⟩ := HM.out.2.2.1 k hlt
            rw [HXL.out]
            exact ⟨r1 ++ r2, by rw [← hr2, ← hr1]; simp⟩
        · obtain rfl : k = xl := by omega
          have d1 : ¬ (k : Int) < (k : Int) := by omega
          gi_wp2
          go_ret
          exact .inl ⟨rfl, by rw [HXL.out]; simpa using hJk, hbk⟩
    · gi_wp2
      go_ret
      exact .inr ⟨rfl, [hx1], List.prefix_append [hx1] _, hx2⟩
theorem KpH.more {n m m' : Nat} {W W' : World} (h : KpH n m W W') (hm : m ≤ m') : KpH n m' W W' := ⟨h.1, fun j o hj => h.2 j o (Nat.le_trans hm hj)⟩
set_option maxRecDepth 1000000 in
set_option maxHeartbeats 4000000 in
/-- The iterator hands on the node in its box, and all that are in it. -/
theorem each14_stops (n Bx n₀ d : Nat) (x : Nd) (u : Value) (w : World) (hd : d ≤ 1000000) (hBx : Bx < w.heap.size) (hn₀ : n₀ ≤ w.heap.size) (hX : w.heap[Bx]? = some (.cells #[.int .i64 x.kind, .string (tx x.text), .int .i64 x.num, .int .i64 x.at_, u] 24 (0, 0)))
    (hx : NAt (Rd n₀ w) d x [.int .i64 x.kind, .string (tx x.text), .int .i64 x.num, .int .i64 x.at_, u]) (hsm : ∀ y ∈ x.pre 0, y.1.text.length ≤ 1000000) (N : Nat) (hN : (x.pre 0).length ≤ N) :
    SeqStopsK Fence.wide n Tryd.prog 39 #[.pointer (some ⟨Bx, 0, none⟩)] HandT.enc (KpH n₀ w.heap.size) (fun ys : List (HandT n₀ w) => ys.map HandT.pr = x.pre 0) (fun pre => pre.map HandT.pr <+: x.pre 0) N w := by
  intro lp J Jx W hW hJ _ hY h0
  have hcs : ∃ A c, u = .slice A x.l.length c := by
    cases d with
    | zero => exact hx.elim
    | succ d =>
      obtain ⟨u', e, hl⟩ := hx
      obtain ⟨A, c, xs, h1, -⟩ := hl.open_
      simp only [List.cons.injEq, and_true, true_and] at e
      exact ⟨A, c, e.trans h1⟩
  obtain ⟨L, hL, hC⟩ := handOn_in lp n₀ N W.heap.size w (Nat.le_trans hn₀ hW.size) J Jx hJ (fun q pre y W1 h1 h2 => by
    refine yield_any (YieldAt.mono (hY pre y W1 h1 h2) fun e W' h => ?_)
    exact h.imp (fun ⟨a, b, c⟩ => ⟨a, b, c.more hW.size⟩) id) d x u 0 (by omega) hx hsm
  have hlen : L.length ≤ N := by
    have := congrArg List.length hL
    rw [List.length_map] at this
    omega
  have hp := hC (n - 1) [] W (hW.mono hn₀) (Nat.le_refl _) h0 (by simpa using hlen)
  have hXW := (hW.block Bx hBx).trans hX
  obtain ⟨q0, q1, q2, q3, q4⟩ := five_cells hXW
  obtain ⟨A, c, rfl⟩ := hcs
  have HL := Lib.hid hL
  clear hC hY hL hx hsm hX hXW
  refine callsIn_of_wp Tryd.func39 rfl trivial ?_ rfl
  simp only [Tryd.ntmps39, List.size_toArray, List.length_cons, List.length_nil, Nat.reduceAdd, Nat.reduceSub, Array.replicate_succ, Array.replicate_zero, List.push_toArray, List.append_toArray, List.nil_append, List.cons_append]
  gi_wp2
  refine ⟨trivial, fun h => absurd h (by simp [Fence.wide]), hp.mono ?_⟩
  rintro e W1 (⟨rfl, hJ1, _⟩ | ⟨rfl, q, hq, hx⟩)
  · gi_wp2
    go_end0
    exact ⟨⟨_, rfl⟩, .inl ⟨L, HL.out, by simpa using hJ1⟩⟩
  · gi_wp2
    go_end0
    obtain ⟨r, hr⟩ := hq
    exact ⟨⟨_, rfl⟩, .inr ⟨q, ⟨r.map HandT.pr, by rw [← List.map_append, hr, HL.out]⟩, by simpa using hx⟩⟩
end Go.Proofs.YtceomdbahiimlaaDoor.T14
