/-
  A message with a slot of no field, or a slot twice, is of none; nor is one with a value that is not of its kind: the statement TypedWrong, for every schema, message's number, message, field's number and value.
-/
import Derived.Test.YtjmcpfckcajnjaaGreatDoorTabMath
import Derived.Test.YtjmcpfckcajnjaaGreatDoorRtFind
import Derived.Deep.RegionHeld3
namespace Go.Proofs.YtjmcpfckcajnjaaGreatDoor.T9.lawTypedWrong
set_option maxRecDepth 100000
open Go.ChangeShapes Go.WideShapes Go.ChangeAt Go.RowKit
open Go.Proofs.YtjmcpfckcajnjaaGreatDoor.T4

/-- A value alone, in a field. -/
def aloneS (no : Int) (v : Vl') : So := ⟨no, [], [v]⟩
/-- The message, and a slot with a value behind the others. -/
def withS (x : Mg) (no : Int) (v : Vl') : Mg := .mk (x.F ++ [aloneS no v])
theorem with_eq {s : Sc} {m no : Int} {x : Mg} {v : Vl'} {f : Df} (hf : byS s m no = some f) : slotsG (byS s m) (fillG (isB s 63)) [] (withS x no v).F = (slotsG (byS s m) (fillG (isB s 63)) [] x.F && (claimB (claimed (byS s m) x.F ++ []) f && (manyB f 0 1 && (valB s 63 f.kind f.ref v)))) := by
  show slotsG (byS s m) (fillG (isB s 63)) [] (x.F ++ [aloneS no v]) = _
  rw [slots_append, slotsG_cons, show (aloneS no v).no = no from rfl, hf]
  simp [slotsG, fillG, aloneS, valB]
theorem with_none {s : Sc} {m no : Int} {x : Mg} {v : Vl'} (hf : byS s m no = none) : mayT s m (withS x no v) = false := by
  have e : isB s 64 m (withS x no v) = false := by
    show (decide (0 ≤ m ∧ m < s.M.length) && slotsG (byS s m) (fillG (isB s 63)) [] (x.F ++ [aloneS no v])) = _
    rw [slots_append, slotsG_cons, show (aloneS no v).no = no from rfl, hf, Bool.and_false, Bool.and_false]
  unfold mayT
  rw [e, Bool.and_false]
theorem with_b {s : Sc} {m no : Int} {x : Mg} {v : Vl'} {f : Df} (hf : byS s m no = some f) (h : claimB (claimed (byS s m) x.F ++ []) f = false ∨ manyB f 0 1 = false ∨ valB s 63 f.kind f.ref v = false) : isB s 64 m (withS x no v) = false := by
  show (decide (0 ≤ m ∧ m < s.M.length) && slotsG (byS s m) (fillG (isB s 63)) [] (withS x no v).F) = _
  rw [with_eq hf]
  rcases h with h | h | h <;> rw [h] <;> simp only [Bool.false_and, Bool.and_false]
theorem with_was {s : Sc} {m no : Int} {x : Mg} {v : Vl'} (h : (getM x no).isSome = true) : mayT s m (withS x no v) = false := by
  cases hf : byS s m no with
  | none => exact with_none hf
  | some f =>
    have e : isB s 64 m (withS x no v) = false := by
      refine with_b hf (.inl ?_)
      obtain ⟨g, hg⟩ := Option.isSome_iff_exists.1 h
      have hg2 : x.F.find? (fun s => s.no == no) = some g := hg
      have h1 := List.mem_of_find?_eq_some hg2
      have h2 := List.find?_some hg2
      simp at h2
      have h3 := claim_in (fd := byS s m) h1 (by rw [h2]; exact hf)
      unfold claimB
      simp [h3]
    unfold mayT
    rw [e, Bool.and_false]
theorem with_key {s : Sc} {m no : Int} {x : Mg} {v : Vl'} {f : Df} (hf : byS s m no = some f) (hk : f.key ≠ -1) : mayT s m (withS x no v) = false := by
  have e : isB s 64 m (withS x no v) = false := with_b hf (.inr (.inl (by unfold manyB; rw [if_neg hk]; rfl)))
  unfold mayT
  rw [e, Bool.and_false]
theorem with_val {s : Sc} {m no : Int} {x : Mg} {v : Vl'} {f : Df} (hf : byS s m no = some f) (hv : valT s f.kind f.ref v = false) : mayT s m (withS x no v) = false := by
  unfold valT at hv
  unfold mayT
  rcases Bool.and_eq_false_iff.1 hv with h | h
  · rw [h, Bool.false_and]
  · rw [with_b hf (.inr (.inr h)), Bool.and_false]
theorem val_more {R : RP} {d e : Nat} (h : d ≤ e) {v : Vl'} {cs : List Value} (hv : VAt R d v cs) : VAt R e v cs := vAt.imp (fun _ _ _ _ _ h => h) (fun m cs hm => MAt.more h m cs hm) _ _ hv
theorem sat_up {w w' : World} {s : Sc} {vM vE : Value} (h : SAt w.heap.size w s vM vE) (hb : Below w.heap.size w w') : SAt w'.heap.size w' s vM vE := SAt.mono (SAt.lo h hb (Nat.le_refl _)) hb.size
theorem vrd_up {D : Nat} {w w' : World} {v : Vl'} {cs : List Value} (hb : Below w.heap.size w w') (h : VAt (Rd w.heap.size w) D v cs) : VAt (Rd w'.heap.size w') D v cs := VRd.mono hb.size (VRd.low (Lo.below hb (Nat.le_refl _)) h)
theorem with_in {x : Mg} {no : Int} {v : Vl'} (hx : MIn x) (hn : inI no) (hv : VIn v) : MIn (withS x no v) := .of fun s hs => by
  rcases List.mem_append.1 (show s ∈ x.F ++ [aloneS no v] from hs) with hs | hs
  · exact hx.slot hs
  · obtain rfl : s = aloneS no v := by simpa using hs
    refine ⟨hn, fun x hx => ?_⟩
    obtain rfl : x = v := by simpa [aloneS] using hx
    exact hv
theorem with_cnt (x : Mg) (no : Int) (v : Vl') : (withS x no v).cnt = x.cnt + (1 + cV v) := by
  unfold withS
  rw [Mg.cnt_eq, x.cnt_eq]
  show sm ((x.F ++ [aloneS no v]).map cS) = _
  rw [List.map_append, sm_append]
  show _ + sm [cS (aloneS no v)] = _
  unfold cS aloneS
  simp [sm]
theorem rby_found {B : Nat} {s : Sc} {vM vE : Value} {m x : Int} {f : Df} (hf : byS s m x = some f) (w : World) (hB : B ≤ w.heap.size) (hs : SAt B w s vM vE) :
    Calls Tryz.prog 24 #[.agg #[vM, vE], .int .i64 m, .int .i64 x] w fun e w' => e = .returned (.tuple #[.agg #[.int .i64 f.no, .string (txt f.name), .int .i64 f.kind, .int .i64 f.ref, .bool f.rep, .int .i64 f.key, .int .i64 f.one], .bool true]) ∧ Below w.heap.size w w' :=
  (rBy_any B s vM vE m x w hB hs).mono fun e w' h => ⟨by rw [h.1, hf]; rfl, h.2⟩
theorem rby_none {B : Nat} {s : Sc} {vM vE : Value} {m x : Int} (hf : byS s m x = none) (w : World) (hB : B ≤ w.heap.size) (hs : SAt B w s vM vE) :
    Calls Tryz.prog 24 #[.agg #[vM, vE], .int .i64 m, .int .i64 x] w fun e w' => e = .returned (.tuple #[.agg #[.int .i64 0, .string ⟨#[]⟩, .int .i64 0, .int .i64 0, .bool false, .int .i64 0, .int .i64 0], .bool false]) ∧ Below w.heap.size w w' :=
  (rBy_any B s vM vE m x w hB hs).mono fun e w' h => ⟨by rw [h.1, hf]; rfl, h.2⟩
theorem rby_or {s : Sc} {m x : Int} : ∃ (f : Df) (b : Bool), (b = true → byS s m x = some f) ∧ (b = false → byS s m x = none) ∧ ∀ {B : Nat} {vM vE : Value} (w : World) (hB : B ≤ w.heap.size) (hs : SAt B w s vM vE),
    Calls Tryz.prog 24 #[.agg #[vM, vE], .int .i64 m, .int .i64 x] w fun e w' => e = .returned (.tuple #[.agg #[.int .i64 f.no, .string (txt f.name), .int .i64 f.kind, .int .i64 f.ref, .bool f.rep, .int .i64 f.key, .int .i64 f.one], .bool b]) ∧ Below w.heap.size w w' := by
  cases h : byS s m x with
  | none => exact ⟨⟨0, [], 0, 0, false, 0, 0⟩, false, fun e => by simp at e, fun _ => rfl, fun w hB hs => rby_none h w hB hs⟩
  | some f => exact ⟨f, true, fun _ => rfl, fun e => by simp at e, fun w hB hs => rby_found h w hB hs⟩
theorem ap_kept {b : Nat} {r : Option Nat} {w w' : World} (hk : ∀ k, k < w.heap.size → r ≠ some k → w'.heap[k]? = w.heap[k]?) (e : TypeId) (size : Nat) (v : Value) (n : Nat) (xs : List Value) (h : Ap b r w e size v n xs) : Ow b w' e size v n xs :=
  ⟨own_kept h.1 fun k hk' hlt => hk k hlt (h.2.1 k hk'), h.2.2⟩
/-- Behind an append onto a row of one's own, and the store of it into a box that is newer than that row. -/
theorem after_app {b D g cap : Nat} {w6 W9 w10 : World} {l : List So} {v u0 : Value} {zs news : List Value} {t : TypeId} (hb : b ≤ w6.heap.size) (hgr : Grow (fun R => SAt' R D) 36 3 b w6 v l zs) (L9 : Below w6.heap.size w6 W9) (X7 : W9.heap[w6.heap.size]? = some (.cells #[u0] t (0, 0)))
    (hown : w10.ownsRow b 36 3 (.slice (some ⟨g, 0, none⟩) (l.length + 1) cap) (l.length + 1) (zs ++ news)) (hg : W9.grownBy w10 v.ownBlock) (hat : v.ownBlock = some g ∨ g = W9.heap.size) :
    let w11 := w10.setCell ⟨w6.heap.size, 0, none⟩ (.slice (some ⟨g, 0, none⟩) (l.length + 1) cap)
    w10.heap[w6.heap.size]? = some (.cells #[u0] t (0, 0)) ∧ w11.heap[w6.heap.size]? = some (.cells #[.slice (some ⟨g, 0, none⟩) (l.length + 1) cap] t (0, 0)) ∧ Rows (SAt' (Ow b w11) D) l zs ∧
    w11.ownsRow b 36 3 (.slice (some ⟨g, 0, none⟩) (l.length + 1) cap) (l.length + 1) (zs ++ news) ∧ (∀ k, w6.heap.size < k → k < W9.heap.size → w11.heap[k]? = W9.heap[k]?) ∧ Below b W9 w11 := by
  intro w11
  have h69 := box_lt X7
  have hne : ∀ k, w6.heap.size ≤ k → k < W9.heap.size → w10.heap[k]? = W9.heap[k]? := fun k hk hlt => hg.block k hlt fun e => by have := hgr.lt k e.symm; omega
  have h1 := (hne _ (Nat.le_refl _) h69).trans X7
  have hs10 := hg.size
  obtain ⟨Z1, Z2⟩ := cell1 h1 (.slice (some ⟨g, 0, none⟩) (l.length + 1) cap)
  have hgne : g ≠ w6.heap.size := by
    rcases hat with h | h
    · have := hgr.lt g h
      omega
    · omega
  refine ⟨h1, Z1, hgr.rows.imp (mono_s D (ap_kept fun k hk hr => (Z2.block k (by omega) (by simp; omega)).trans ((hg.block k (by omega) fun e => hr e.symm).trans (L9.block k hk)))), own_kept hown fun k hk hlt => Z2.block k hlt ?_, fun k hk hlt => (Z2.block k (by omega) (by simp; omega)).trans (hne k (by omega) hlt), ?_⟩
  · simp only [Value.ownBlock, Option.some.injEq] at hk
    subst hk
    simpa using hgne
  · exact (below_row hg (hgr.on (mono_s D) L9).own (Nat.le_refl _) (by omega)).trans (below_own Z2 hb (by omega))
theorem with_rd {D b g cap gv : Nat} {w : World} {x : Mg} {no : Int} {v : Vl'} {a : Value} {zs : List Value} {tv : TypeId} {fr : Nat × Nat} (hr : Rows (SAt' (Ow b w) D) x.F zs) (hn : x.F.length ≤ 1000000)
    (ho : w.ownsRow b 36 3 (.slice (some ⟨g, 0, none⟩) (x.F.length + 1) cap) (x.F.length + 1) (zs ++ [.int .i64 no, .slice none 0 0, .slice (some ⟨gv, 0, none⟩) 1 1])) (hv : VAt (Rd w.heap.size w) D v [.int .i64 v.n, .string (tx v.s), a]) (h1 : w.heap[gv]? = some (.cells #[.int .i64 v.n, .string (tx v.s), a] tv fr)) :
    MRd w.heap.size w (D + 1) (withS x no v) (.slice (some ⟨g, 0, none⟩) (x.F.length + 1) cap) := by
  have hl : (withS x no v).F.length = x.F.length + 1 := by show (x.F ++ [aloneS no v]).length = _; simp
  refine ⟨_, rfl, _, ?_, (hr.imp (mono_s D Rd.of_own)).append (Rows.single (a := aloneS no v) ⟨_, _, rfl, ⟨[], ⟨Rr.nil _ _ _, Nat.zero_le _⟩, rfl⟩, ⟨[.int .i64 v.n, .string (tx v.s), a], lit_row (n := 1) (size := 3) (xs := [.int .i64 v.n, .string (tx v.s), a]) h1 rfl (by decide) (box_lt h1) _, Rows.single hv⟩⟩)⟩
  rw [hl]
  exact Rd.of_own _ _ _ _ _ ⟨ho, by omega⟩
/-- The two values, one of them with the message. -/
def bothS (v : Vl') (x : Mg) : So := ⟨0, [], [v, ⟨0, [], [x]⟩]⟩
theorem both_cnt (v : Vl') (x : Mg) : (Mg.mk [bothS v x]).cnt = 1 + cV v + (2 + x.cnt) := by
  rw [cnt_one]
  unfold cS bothS cV
  simp [sm]
  omega
theorem both_rd {D g0 g1 g2 : Nat} {w : World} {v : Vl'} {x : Mg} {ux a : Value} {t0 t1 t2 : TypeId} {fr0 fr1 fr2 : Nat × Nat} (hv : VAt (Rd w.heap.size w) D v [.int .i64 v.n, .string (tx v.s), a]) (hx : MRd w.heap.size w D x ux) (h0 : w.heap[g0]? = some (.cells #[ux] t0 fr0)) (h1 : w.heap[g1]? = some (.cells #[.int .i64 v.n, .string (tx v.s), a, .int .i64 0, .string ⟨#[]⟩, .slice (some ⟨g0, 0, none⟩) 1 1] t1 fr1)) (h2 : w.heap[g2]? = some (.cells #[.int .i64 0, .slice none 0 0, .slice (some ⟨g1, 0, none⟩) 2 2] t2 fr2)) :
    MRd w.heap.size w (D + 1) (.mk [bothS v x]) (.slice (some ⟨g2, 0, none⟩) 1 1) :=
  one_rd (s := bothS v x) ⟨_, _, rfl, ⟨[], ⟨Rr.nil _ _ _, Nat.zero_le _⟩, rfl⟩, ⟨[_, _, _, _, _, _], lit_row (n := 2) (size := 3) (xs := [.int .i64 v.n, .string (tx v.s), a, .int .i64 0, .string ⟨#[]⟩, .slice (some ⟨g0, 0, none⟩) 1 1]) h1 rfl (by decide) (box_lt h1) _, (Rows.single hv).append (Rows.single (⟨_, rfl, msgs1_rd hx h0⟩ : VAt (Rd w.heap.size w) D ⟨0, [], [x]⟩ [.int .i64 0, .string ⟨#[]⟩, .slice (some ⟨g0, 0, none⟩) 1 1]))⟩⟩ h2
set_option maxRecDepth 1000000 in
set_option maxHeartbeats 8000000 in
theorem walk (w : World) (T : Tabs w) (s : Sc) (vM vE : Value) (hs0 : SAt w.heap.size w s vM vE) (hin : ScIn s) (m : Int) (hm1 : -9223372036854775808 ≤ m) (hm2 : m ≤ 9223372036854775807)
    (x : Mg) (ux : Value) (Dx : Nat) (hx0 : MAt (Rd w.heap.size w) Dx x [ux]) (hxi : MIn x) (no : Int) (hn1 : -9223372036854775808 ≤ no) (hn2 : no ≤ 9223372036854775807)
    (v : Vl') (u : Value) (Dv : Nat) (hv0 : VAt (Rd w.heap.size w) Dv v [.int .i64 v.n, .string (tx v.s), u]) (hi : VIn v) :
    Calls Tryz.prog 6 #[.agg #[vM, vE], .int .i64 m, .agg #[ux], .int .i64 no, .agg #[.int .i64 v.n, .string (tx v.s), u]] w fun e w' => e = .returned (.bool true) ∧ Below w.heap.size w w' := by
  obtain ⟨D, hDx, hDv⟩ : ∃ D, Dx ≤ D ∧ Dv ≤ D := ⟨max Dx Dv, by omega, by omega⟩
  have hx1 : MRd w.heap.size w D x ux := MAt.more hDx _ _ hx0
  have hv1 : VAt (Rd w.heap.size w) D v [.int .i64 v.n, .string (tx v.s), u] := val_more hDv hv0
  obtain ⟨A1, q1, A2, q2, rfl, rfl⟩ := sat_shape hs0
  obtain ⟨Av, cv, -, -, rfl⟩ := val_shape hv0
  obtain ⟨Ax, cx, rfl⟩ := rd_shape hx1
  obtain ⟨X1, X2, X3, LBD⟩ := three_boxes w (.cells #[.slice A1 s.M.length q1, .slice A2 s.E.length q2] 25) (.cells #[.slice Ax x.F.length cx] 28) (.cells #[.int .i64 v.n, .string (tx v.s), .slice Av v.M.length cv] 31)
  have HS := Lib.hid (fun wx (h : Below w.heap.size w wx) => sat_up hs0 h)
  have HV := Lib.hid (fun wx (h : Below w.heap.size w wx) => vrd_up h hv1)
  have HG := Lib.hid (fun wx (h : Below w.heap.size w wx) => MRd.mono h.size (MRd.low (Lo.below h (Nat.le_refl _)) hx1))
  have HT := Lib.hid T
  have hno : inI no := ⟨hn1, hn2⟩
  have HXI := Lib.hid (with_in hxi hno hi)
  clear hx0 hv0 hs0 hv1 hx1 T hn1 hn2 hno hDx hDv
  go_enter Tryz.func6, Tryz.ntmps6
  go_wp2_with fail
  refine (awake10_any _ (HT.out.on LBD)).mono ?_
  rintro e w1 ⟨rfl, hb1⟩
  have hb01 := below_then LBD hb1
  have Y1 := box_on X1 hb1
  have Y2 := box_on X2 hb1
  have Y3 := box_on X3 hb1
  clear X1 X2 X3 LBD hb1
  obtain ⟨y1, y2⟩ := box2' Y1
  have y0 := bx1 Y2
  obtain ⟨p0, p1, p2⟩ := bx3 Y3
  obtain ⟨T1, T2, T3, L3⟩ := three_boxes w1 (.cells #[.slice Ax x.F.length cx] 28) (.cells #[.int .i64 v.n, .string (tx v.s), .slice Av v.M.length cv, .int .i64 0, .string ⟨#[]⟩, .slice (some ⟨w1.heap.size, 0, none⟩) 1 1] 31) (.cells #[.int .i64 0, .slice none 0 0, .slice (some ⟨w1.heap.size + 1, 0, none⟩) 2 2] 36)
  have hb03 := below_then hb01 L3
  have Z1 := box_on Y1 L3
  have Z2 := box_on Y2 L3
  have Z3 := box_on Y3 L3
  go_wp2_with fail
  obtain ⟨W3, hW3⟩ : ∃ W, W = (((w1.alloc (.cells #[.slice Ax x.F.length cx] 28)).alloc (.cells #[.int .i64 v.n, .string (tx v.s), .slice Av v.M.length cv, .int .i64 0, .string ⟨#[]⟩, .slice (some ⟨w1.heap.size, 0, none⟩) 1 1] 31)).alloc (.cells #[.int .i64 0, .slice none 0 0, .slice (some ⟨w1.heap.size + 1, 0, none⟩) 2 2] 36)) := ⟨_, rfl⟩
  rw [← hW3] at T1 T2 T3 L3 hb03 Z1 Z2 Z3 ⊢
  clear hW3 y1 y2 y0 p0 p1 p2 Y1 Y2 Y3 L3 hb01
  have HC := Lib.hid (fun wx (h : Below W3.heap.size W3 wx) => And.intro (box2' (box_on Z1 h)) (And.intro (bx1 (box_on Z2 h)) (bx3 (box_on Z3 h))))
  have HB := Lib.hid (fun wx (h : Below W3.heap.size W3 wx) => below_then hb03 h)
  have LR : Below W3.heap.size W3 W3 := Below.refl _ _
  have HBO := both_rd (HV.out _ hb03) (HG.out _ hb03) T1 T2 T3
  clear T1 T2 T3 Z1 Z2 Z3 hb03
  refine (few10_any _ (D + 1) s _ _ (.mk [bothS v x]) _ W3 (Nat.le_refl _) (HS.out _ (HB.out _ LR)) HBO).mono ?_
  rintro e w2 ⟨r, rfl, hfit, hb2⟩
  have HFI := Lib.hid hfit
  obtain ⟨⟨y1, y2⟩, y0, p0, p1, p2⟩ := HC.out _ hb2
  clear hfit HBO LR
  cases r with
  | false =>
    go_wp2
    go_ret
    exact ⟨rfl, HB.out _ hb2⟩
  | true =>
    have hcx := (HFI.out rfl).cnt
    rw [both_cnt] at hcx
    by_cases hm0 : m < 0
    · go_wp2
      go_ret
      exact ⟨rfl, HB.out _ hb2⟩
    · by_cases hm9 : m < s.M.length
      · have hcm : x.cnt ≤ 100000 := by omega
        have hcv : cV v ≤ 100000 := by omega
        have HCN := Lib.hid (show (withS x no v).cnt ≤ 100000 by rw [with_cnt]; omega)
        have HM := Lib.hid (tmay_any hin _ D _ _ m x _ _ (Nat.le_refl _) (HS.out _ (HB.out _ hb2)) (HG.out _ (HB.out _ hb2)) hxi hcm (HT.out.on (HB.out _ hb2)))
        obtain ⟨b, hb⟩ : ∃ b, mayT s m x = b := ⟨_, rfl⟩
        rw [hb] at HM
        clear hb hcx
        go_wp2_with fail
        refine HM.out.mono ?_
        rintro e w3 ⟨rfl, hb3⟩
        have hb23 := hb2.trans (hb3.mono hb2.size)
        cases b with
        | false =>
          go_wp2
          go_ret
          exact ⟨rfl, HB.out _ hb23⟩
        | true =>
          clear HM
          obtain ⟨⟨y1, y2⟩, y0, p0, p1, p2⟩ := HC.out _ hb23
          obtain ⟨f, is, hy1, hy2, hby⟩ := rby_or (s := s) (m := m) (x := no)
          have HF1 := Lib.hid (fun e => with_none (x := x) (v := v) (hy2 e))
          have HF2 := Lib.hid (with_was (s := s) (m := m) (v := v) (x := x) (no := no))
          have HF3 := Lib.hid (fun e => with_key (x := x) (v := v) (hy1 e))
          have HF4 := Lib.hid (fun e => with_val (x := x) (v := v) (hy1 e))
          have HBY := Lib.hid (hby w3 (Nat.le_refl _) (HS.out _ (HB.out _ hb23)))
          clear hy1 hy2 hby hb2 hb3
          go_wp2_with fail
          refine HBY.out.mono ?_
          rintro e w4 ⟨rfl, hb4⟩
          have hb24 := hb23.trans (hb4.mono hb23.size)
          have N4 := below_new w4 (dC f)
          have X4 := heap_alloc_new w4 (dC f)
          have hb25 := hb24.trans (N4.mono hb24.size)
          have y0 := (HC.out _ hb25).2.1
          go_wp2_with fail
          refine (rown_grow (rown_any _ D) x _ (w4.alloc (dC f)) (Nat.le_refl _) (MAt.more (Nat.le_succ D) _ _ (HG.out _ (HB.out _ hb25))) (by omega) _ (Nat.le_refl _)).mono ?_
          rintro e w6 ⟨x1, zs, rfl, hgr, hln, hb6⟩
          have hb26 := hb25.trans (hb6.mono hb25.size)
          obtain ⟨Aw, cw, rfl, -⟩ := Sl.of_own hgr.own
          obtain ⟨T7, T8, T9, L9⟩ := three_boxes w6 (.cells #[.slice Aw x.F.length cw] 28) (.cells #[.int .i64 v.n, .string (tx v.s), .slice Av v.M.length cv] 31) (.cells #[.int .i64 no, .slice none 0 0, .slice (some ⟨w6.heap.size + 1, 0, none⟩) 1 1] 36)
          have hb29 := hb26.trans (L9.mono hb26.size)
          have X49 := box_on (box_on X4 hb6) L9
          have hgr9 := hgr.on (mono_s D) L9
          clear y0 X4 N4
          have N7 := below_new w6 (.cells #[.slice Aw x.F.length cw] 28)
          have w0 := bx1 (heap_alloc_new w6 (.cells #[.slice Aw x.F.length cw] 28))
          obtain ⟨-, y0, p0, p1, p2⟩ := HC.out _ (hb26.trans (N7.mono hb26.size))
          have HGR := Lib.hid (And.intro hgr hgr9)
          have HT9 := Lib.hid (And.intro T7 (And.intro T8 (And.intro T9 (And.intro L9 X49))))
          have hcf := cnt_F x
          have HN := Lib.hid (show x.F.length + 1 ≤ maxLen ∧ (x.F.length + 1) * 56 ≤ 140737488355328 ∧ (w4.alloc (dC f)).heap.size ≤ _ from ⟨by unfold maxLen; omega, by omega, Nat.le_trans hb6.size L9.size⟩)
          obtain ⟨i0, hi0, hz0, hz1, hz2⟩ := info_parts info_slot
          have HN2 := Lib.hid hb6.size
          have HN3 := Lib.hid hb25.size
          have HB3 := Lib.hid hb29
          clear T7 T8 T9 L9 X49 hgr hgr9 N7 hln hb29 hb26 hb25 hb24 hb23 hb4 hb6
          go_wp2_with (at_builtin; refine wpList_append_lies _ rfl _ _ 26 rfl (w4.alloc (dC f)).heap.size 36 i0 _ 3 56 Tryz.underlying26 hi0 hz0 hz1 hz2 rfl (by decide) (.slice Aw x.F.length cw) x.F.length zs (by simp [Act.eval, Act.put]) HGR.out.2.own ⟨w6.heap.size + 1 + 1, 0, none⟩ 1 1 [.int .i64 no, .slice none 0 0, .slice (some ⟨w6.heap.size + 1, 0, none⟩) 1 1] (by simp [Act.eval, Act.put]) rfl (World.news_of_block HT9.out.2.2.1) (by intro u hu; simp at hu; rcases hu with rfl | rfl | rfl <;> rfl) (by decide) HN.out.1 HN.out.2.1 HN.out.2.2 _ rfl ?_; intro g cap w10 hown hg hat hlt; have HAA := Lib.hid (after_app HN2.out HGR.out.1 HT9.out.2.2.2.1 HT9.out.1 hown hg hat); clear hown hg hat hlt; have c10 := bx1 HAA.out.1; have f10 : w10.frozen? ⟨w6.heap.size, 0, none⟩ = false := (by simp [World.frozen?, HAA.out.1]); have HBA := Lib.hid (HB3.out.trans (HAA.out.2.2.2.2.2.mono HN3.out)); have y0 := (HC.out _ HBA.out).2.1)
          have HXD := Lib.hid ((HAA.out.2.2.2.2.2.block w4.heap.size (by simp)).trans HT9.out.2.2.2.2)
          have HX8 := Lib.hid ((HAA.out.2.2.2.2.1 (w6.heap.size + 1) (by omega) (box_lt HT9.out.2.1)).trans HT9.out.2.1)
          have HXW := Lib.hid HAA.out.2.1
          have HMW := Lib.hid (with_rd HAA.out.2.2.1 (by omega) HAA.out.2.2.2.1 (HV.out _ (HB.out _ HBA.out)) HX8.out)
          obtain ⟨W11, hW11⟩ : ∃ W, W = (w10.setCell ⟨w6.heap.size, 0, none⟩ (.slice (some ⟨g, 0, none⟩) (x.F.length + 1) cap)) := ⟨_, rfl⟩
          rw [← hW11] at HXD HXW HMW HBA ⊢
          clear hW11 HX8 HAA HT9 HGR HN HN2 HN3 HB3 c10 f10 y0 p0 p1 p2 w0 y1 y2 hi0 hz0 hz1 hz2 hm0 hm9 hcf
          have HCW := Lib.hid (fun wx (h : Below W11.heap.size W11 wx) => And.intro (bx1 (box_on HXW.out h)) (show wx.cell? ⟨w4.heap.size, 2, none⟩ = some (.int .i64 f.kind) ∧ wx.cell? ⟨w4.heap.size, 3, none⟩ = some (.int .i64 f.ref) ∧ wx.cell? ⟨w4.heap.size, 5, none⟩ = some (.int .i64 f.key) from by
            have h2 := heap_cell (box_on HXD.out h) 2
            have h3 := heap_cell (box_on HXD.out h) 3
            have h5 := heap_cell (box_on HXD.out h) 5
            simp at h2 h3 h5
            exact ⟨h2, h3, h5⟩))
          have HBW := Lib.hid (fun wx (h : Below W11.heap.size W11 wx) => HBA.out.trans (h.mono HBA.out.size))
          have HMY := Lib.hid (fun wx (h : Below W11.heap.size W11 wx) => tmay_any hin _ (D + 1) _ _ m (withS x no v) _ wx (Nat.le_refl _) (HS.out _ (HB.out _ (HBW.out _ h))) (MRd.mono h.size (MRd.low (Lo.below h (Nat.le_refl _)) HMW.out)) HXI.out HCN.out (HT.out.on (HB.out _ (HBW.out _ h))))
          have HVY := Lib.hid (fun wx (h : Below W11.heap.size W11 wx) => tval_any hin _ D _ _ f.kind f.ref v _ wx (Nat.le_refl _) (HS.out _ (HB.out _ (HBW.out _ h))) (HV.out _ (HB.out _ (HBW.out _ h))) hi hcv (HT.out.on (HB.out _ (HBW.out _ h))))
          refine (get_any W11.heap.size D x _ no W11 (Nat.le_refl _) (MAt.more (Nat.le_succ D) _ _ (HG.out _ (HB.out _ (HBW.out _ (Below.refl _ _))))) (by omega) _ (Nat.le_refl _)).mono ?_
          rintro e w12 ⟨z1, z2, z3, rfl, hso, hb12'⟩
          obtain ⟨B1, c1, B2, c2, rfl, rfl, rfl⟩ := slot_shape (sAt.imp (fun e size v n xs h => Rd.of_own e size v n xs h) (fun m cs h => MAt.imp (fun e size v n xs h => Rd.of_own e size v n xs h) D m cs h) _ _ hso)
          obtain ⟨so, hso2⟩ : ∃ so, (getM x no).getD so0 = so := ⟨_, rfl⟩
          simp only [hso2]
          clear hso hso2
          have N12 := below_new w12 (.cells #[.int .i64 so.no, .slice B1 so.K.length c1, .slice B2 so.V.length c2] 36)
          have hb12 := below_then hb12' N12
          have HB12 := Lib.hid hb12
          clear hb12' N12
          obtain ⟨wc, k2, k3, k5⟩ := HCW.out _ hb12
          obtain ⟨⟨y1, y2⟩, y0, p0, p1, p2⟩ := HC.out _ (HBW.out _ hb12)
          obtain ⟨was, hwas⟩ : ∃ b, (getM x no).isSome = b := ⟨_, rfl⟩
          rw [hwas] at HF2
          simp only [hwas]
          clear hwas hb12 HXD HXW HMW hcm hcv
          cases is with
          | false =>
            rw [HF1.out rfl] at HMY
            go_wp2_with fail
            refine (HMY.out _ HB12.out).mono ?_
            rintro e w13 ⟨rfl, hb13⟩
            go_wp2
            go_ret
            exact ⟨rfl, HB.out _ (HBW.out _ (below_then HB12.out hb13))⟩
          | true =>
            cases was with
            | true =>
              rw [HF2.out rfl] at HMY
              go_wp2_with fail
              refine (HMY.out _ HB12.out).mono ?_
              rintro e w13 ⟨rfl, hb13⟩
              go_wp2
              go_ret
              exact ⟨rfl, HB.out _ (HBW.out _ (below_then HB12.out hb13))⟩
            | false =>
              by_cases hk : f.key = -1
              · have e1 : (f.key != -1) = false := by simp [hk]
                obtain ⟨b, hb⟩ : ∃ b, valT s f.kind f.ref v = b := ⟨_, rfl⟩
                rw [hb] at HVY
                clear hk
                go_wp2_with fail
                refine (HVY.out _ HB12.out).mono ?_
                rintro e w13 ⟨rfl, hb13⟩
                have HB13 := Lib.hid (below_then HB12.out hb13)
                clear hb13
                cases b with
                | true =>
                  go_wp2
                  go_ret
                  exact ⟨rfl, HB.out _ (HBW.out _ HB13.out)⟩
                | false =>
                  rw [HF4.out (by trivial) hb] at HMY
                  clear hb wc k2 k3 k5 y1 y2 y0 p0 p1 p2
                  obtain ⟨wc, k2, k3, k5⟩ := HCW.out _ HB13.out
                  obtain ⟨⟨y1, y2⟩, y0, p0, p1, p2⟩ := HC.out _ (HBW.out _ HB13.out)
                  go_wp2_with fail
                  refine (HMY.out _ HB13.out).mono ?_
                  rintro e w14 ⟨rfl, hb14⟩
                  go_wp2
                  go_ret
                  exact ⟨rfl, HB.out _ (HBW.out _ (below_then HB13.out hb14))⟩
              · have e1 : (f.key != -1) = true := by simp [hk]
                rw [HF3.out rfl hk] at HMY
                clear hk
                go_wp2_with fail
                refine (HMY.out _ HB12.out).mono ?_
                rintro e w13 ⟨rfl, hb13⟩
                go_wp2
                go_ret
                exact ⟨rfl, HB.out _ (HBW.out _ (below_then HB12.out hb13))⟩
      · go_wp2
        go_ret
        exact ⟨rfl, HB.out _ hb2⟩
theorem contract (H : Type) (enc : TypeId × Value → H) (W : World) (base : Nat) (args : Array Value) (ds gs : List (DataW H)) (before : List MemPlace)
    (hval0 : ∀ (j : Nat) t v, Tryz.f6.params[j]? = some t → args[j]? = some v → Value.okWide Tryz.prog W .any base t v)
    (hW : DataW.Whole enc Tryz.prog Tryz.f6.params.toList Rows.typedWrongSpec.vars false W args.toList ds gs before) (hsz : (DataW.weightsEach Tryz.prog (Tryz.f6.params.toList ++ (OpenSpec.ofChange Rows.typedWrongSpec).bare.plain.varTypes Tryz.prog) (ds ++ gs)).all (· ≤ reachBytes) = true) (hL : laidMetH Tryz.prog Rows.typedWrongRow.laid W) :
    Calls Tryz.prog 6 args W fun e W2 => ∃ v, e = .returned v ∧ Rows.typedWrongSpec.post enc Tryz.prog Tryz.f6 false true false false W args v W2 := by
  have hval : ∀ (j : Nat) t v, Tryz.f6.params[j]? = some t → args[j]? = some v → Value.okWide Tryz.prog W .any base t v := hval0
  have T := laid10 hL
  have hW2 := hW
  obtain ⟨p, q, hA0, hV, rfl, hfz, hnd⟩ := hW
  have hA : DataW.TrodAll enc Tryz.prog W 0 (fun _ => true) true Tryz.f6.params.toList args.toList ds p := hA0
  rw [Tryz.params6] at hA hval
  obtain ⟨v0, vs0, d0, ds0, p0, q0, hargs, rfl, rfl, h0, r0⟩ := trodAll_cons hA
  obtain ⟨v1, vs1, d1, ds1, p1, q1, rfl, rfl, rfl, h1, r1⟩ := trodAll_cons r0
  obtain ⟨v2, vs2, d2, ds2, p2, q2, rfl, rfl, rfl, h2, r2⟩ := trodAll_cons r1
  obtain ⟨v3, vs3, d3, ds3, p3, q3, rfl, rfl, rfl, h3, r3⟩ := trodAll_cons r2
  obtain ⟨v4, vs4, d4, ds4, p4, q4, rfl, rfl, rfl, h4, r4⟩ := trodAll_cons r3
  obtain ⟨rfl, rfl, rfl⟩ := trodAll_nil r4
  obtain rfl : args = #[v0, v1, v2, v3, v4] := by cases args; simp_all
  obtain ⟨rfl, rfl⟩ := trodVars_none hV
  obtain ⟨sc0, vM0, vE0, rfl, fa0, fi0⟩ := open_schema (hval 0 25 v0 rfl rfl) h0
  obtain ⟨i1, rfl, b1, c1⟩ := open_i64 (hval 1 3 v1 rfl rfl) h1
  obtain ⟨mg2, u2, k2, rfl, hm2, hi2⟩ := open_msgI (hval 2 28 v2 rfl rfl) h2 (szd_each (fun k hk => of_decide_eq_true (List.all_eq_true.1 hsz k hk)) 2 _ _ rfl rfl)
  obtain ⟨i3, rfl, b3, c3⟩ := open_i64 (hval 3 3 v3 rfl rfl) h3
  obtain ⟨va4, u4, k4, rfl, hm4, hi4⟩ := open_vaI (hval 4 31 v4 rfl rfl) h4 (szd_each (fun k hk => of_decide_eq_true (List.all_eq_true.1 hsz k hk)) 4 _ _ rfl rfl)
  refine (walk W T sc0 vM0 vE0 fa0 fi0 i1 b1 c1 mg2 u2 k2 hm2 hi2 i3 b3 c3 va4 u4 k4 hm4 hi4).mono fun e W2 ⟨he, hb⟩ => ?_
  subst he
  exact ⟨_, rfl, law_post (by kernel_rfl) rfl rfl (by decide +kernel) hW2 hb⟩
theorem laid_met (os : Os) : laidMetH Tryz.prog Rows.typedWrongRow.laid ((World.laidAll Tryz.prog os Rows.typedWrongRow.laid).forCall (fun _ _ => 0) ⟨#[], #[.agg #[.slice none 0 0, .slice none 0 0], .int .i64 0, .agg #[.slice none 0 0], .int .i64 0, .agg #[.int .i64 0, .string .empty, .slice none 0 0]], []⟩).memory := by
  rw [MakeChecks.laidMetH_plain _ _ _ (by kernel_rfl)]
  exact laidMet_laidAll _ (by kernel_rfl) (by kernel_rfl)
theorem reads (os : Os) {H : Type} (enc : TypeId × Value → H) : ∃ places, DataW.whole enc Tryz.prog ((World.laidAll Tryz.prog os Rows.typedWrongRow.laid).forCall (fun _ _ => 0) ⟨#[], #[.agg #[.slice none 0 0, .slice none 0 0], .int .i64 0, .agg #[.slice none 0 0], .int .i64 0, .agg #[.int .i64 0, .string .empty, .slice none 0 0]], []⟩).memory Tryz.f6.params.toList Rows.typedWrongSpec.vars false (#[.agg #[.slice none 0 0, .slice none 0 0], .int .i64 0, .agg #[.slice none 0 0], .int .i64 0, .agg #[.int .i64 0, .string .empty, .slice none 0 0]] : Array Value).toList 8 = some ([.agg [.nil, .nil], .lit (.int .i64 0), .agg [.nil], .lit (.int .i64 0), .agg [.lit (.int .i64 0), .lit (.string []), .nil]], [], places) := ⟨[], by kernel_rfl⟩
set_option maxRecDepth 100000 in
theorem lifted (os : Os) (started : os.Started) (H : Type) (enc : TypeId × Value → H) (F : Stop.Interp) :
    ReturnsInHanded {} Tryz.checked os 6 .any ((OpenSpec.ofChange Rows.typedWrongSpec).preRow enc Tryz.prog Tryz.f6 Rows.typedWrongRow.domain false Rows.typedWrongRow.laid) (((OpenSpec.ofChange Rows.typedWrongSpec).at F).post enc Tryz.prog Tryz.f6 false true false false) := by
  obtain ⟨places, hx⟩ := reads os enc
  refine returnsInHanded_of_row (C := Tryz.checked) (s := OpenSpec.ofChange Rows.typedWrongSpec) own started (by kernel_rfl) Tryz.func6
    (witness_row_at (enc := enc) (C := Tryz.checked) false (World.laidAll Tryz.prog os Rows.typedWrongRow.laid) #[.agg #[.slice none 0 0, .slice none 0 0], .int .i64 0, .agg #[.slice none 0 0], .int .i64 0, .agg #[.int .i64 0, .string .empty, .slice none 0 0]] (World.laidAll_os _ _ _) (by kernel_rfl) (by kernel_rfl) (by kernel_rfl)
      (OpenSpec.preRow_of_cond 8 hx (by kernel_rfl) (fun k hk => by cases hk) (by kernel_rfl) (laid_met os))) ?_
  intro W base args ds gs before hval hW _ _ hsz hL _ _
  exact contract H enc W base args ds gs before hval hW hsz hL
theorem said : Rows.TypedWrongSaid :=
  OpenClaim.holds_of_cond 6 Tryz.f6 rfl rfl rfl rfl rfl rfl rfl ⟨rfl, rfl, rfl, rfl, rfl⟩ rfl rfl rfl rfl rfl (by kernel_rfl) Tryz.func6 (by kernel_rfl)
    (of_decide_eq_true (by kernel_rfl)) (by unfold Func.isWrapper; first | (rw [if_pos (by decide +kernel)]; kernel_rfl) | (rw [if_neg (by decide +kernel)]; exact ⟨rfl, rfl⟩))
    (fun os started H enc _ F => by rw [OpenClaim.pre_eq_preRow]; exact lifted os started H enc F)
theorem plain (f : FuncId) (fn : Func) (hf : Tryz.pinned.checked.prog.funcNamed "truffle/trufflelaw10.TypedWrong" = some f) (hfn : Tryz.pinned.checked.prog.funcs[f]? = some fn) :
    false = Tryz.pinned.checked.prog.looks [] ∧ ∀ (j : Nat) t, fn.params[j]? = some t → Tryz.pinned.checked.prog.wantsStandIn t = false := by
  obtain rfl : f = 6 := Option.some.inj ((show Tryz.prog.funcNamed "truffle/trufflelaw10.TypedWrong" = some 6 by kernel_rfl).symm.trans hf) |>.symm
  obtain rfl : fn = Tryz.f6 := (Option.some.inj (Tryz.func6.symm.trans hfn)).symm
  refine ⟨by kernel_rfl, fun j t ht => ?_⟩
  have hall : (Tryz.f6.params.toList.all fun t => !Tryz.prog.wantsStandIn t) = true := by kernel_rfl
  have := List.all_eq_true.1 hall t (Array.mem_toList_iff.2 (Array.mem_of_getElem? ht))
  exact (show Tryz.prog.wantsStandIn t = false by simpa using this)
theorem proved : Rows.TypedWrongCardSaid :=
  Claim7.holds_tied_plain_at .later [] _ _ _ _ said (fun _ h => by cases h) (by kernel_rfl) (fun _ h => by cases h) typedWrong_row_tie rfl ⟨rfl, rfl⟩ (by kernel_rfl) rfl plain (by kernel_rfl)
end Go.Proofs.YtjmcpfckcajnjaaGreatDoor.T9.lawTypedWrong
