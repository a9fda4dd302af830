/-
  What is put is told, and told to be cut off where it is cut: facts on lists of bytes.
-/
import Derived.Test.YtipaangiehdgkaaGreatDoorRecWin
import Derived.Test.YtipaangiehdgkaaGreatDoorTyAsk
import Derived.Test.YtipaangiehdgkaaGreatDoorTabFew
namespace Go.Proofs.YtipaangiehdgkaaGreatDoor
set_option maxRecDepth 100000

open Go.RowKit

def numQ (wire : Nat) (num : Nat) (run : List UInt8) : Nat := if wire = 2 then run.length else if wire = 5 then num % 4294967296 else num
def headL (no wire : Int) (run : List UInt8) : Nat := (putL no wire).length + (if wire = 2 then (vput run.length).length else 0)

theorem tells_put {no wire : Nat} (h : putB no wire = true) : tellsN (putN no wire) = (no, wire, 0) := by
  obtain ⟨h1, h2, h3⟩ := tellsN_yes h
  generalize tellsN (putN no wire) = x at *
  obtain ⟨a, b, c⟩ := x
  simp only [Prod.mk.injEq]
  simp only at h1 h2 h3
  omega
theorem wire_nat {wire : Nat} {no : Nat} (h : putB no wire = true) : wire = 0 ∨ wire = 1 ∨ wire = 2 ∨ wire = 5 := by
  have := (putB_iff.1 h).2
  omega
/-- The number behind what is ahead of a field. -/
theorem wnum_put {wire num : Nat} {run t : List UInt8} (hw : wire = 0 ∨ wire = 1 ∨ wire = 5) (hn : num < 18446744073709551616) : wnum wire (restL wire num run ++ t) = (numQ wire num run, (restL wire num run).length, 0) := by
  rcases hw with rfl | rfl | rfl
  · have hr : restL ((0 : Nat) : Int) num run = vput num := by simp [restL]
    rw [hr]
    unfold wnum numQ
    rw [if_neg (by decide), if_neg (by decide), if_neg (by decide), if_neg (by decide)]
    exact vget_vput hn t
  · have hr : restL ((1 : Nat) : Int) num run = fixb num 8 := by simp [restL]
    rw [hr]
    unfold wnum numQ wfix
    rw [if_pos rfl, if_neg (show ¬ (fixb num 8 ++ t).length < 8 by rw [List.length_append, fixb_length]; omega), if_neg (by decide), if_neg (by decide), List.take_left' (fixb_length _ _), fixn_fixb, fixb_length]
    rw [Nat.mod_eq_of_lt (by omega)]
  · have hr : restL ((5 : Nat) : Int) num run = fixb num 4 := by simp [restL]
    rw [hr]
    unfold wnum numQ wfix
    rw [if_neg (show ¬ 5 = 1 by decide), if_pos rfl, if_neg (show ¬ (fixb num 4 ++ t).length < 4 by rw [List.length_append, fixb_length]; omega), if_neg (show ¬ 5 = 2 by decide), if_pos rfl, List.take_left' (fixb_length _ _), fixn_fixb, fixb_length]
theorem wnext_put {no wire : Nat} (h : putB no wire = true) {num : Nat} (hn : num < 18446744073709551616) {run : List UInt8} (hr : run.length < 18446744073709551616) (t : List UInt8) :
    wnext (recL no wire num run ++ t) = (⟨no, wire, numQ wire num run, headL no wire run, (recL no wire num run).length⟩, (recL no wire num run).length, 0) := by
  have hl := putN_lt h
  have ht := tells_put h
  rw [recL_yes h]
  have hp : putL no wire = vput (putN no wire) := putL_yes h
  have hv : vget (putL no wire ++ restL wire num run ++ t) = (putN no wire, (putL no wire).length, 0) := by
    rw [hp, List.append_assoc]; exact vget_vput (by omega) _
  have hd : (putL no wire ++ restL wire num run ++ t).drop (putL no wire).length = restL wire num run ++ t := by rw [List.append_assoc, List.drop_left]
  by_cases h2 : wire = 2
  · subst h2
    have hq : restL ((2 : Nat) : Int) num run = vput run.length ++ run := by simp [restL]
    have hw : wnum 2 ((putL no (2 : Nat) ++ restL (2 : Nat) num run ++ t).drop (putL no (2 : Nat)).length) = (run.length, (vput run.length).length, 0) := by
      rw [hd, hq]
      unfold wnum
      rw [if_neg (by decide), if_neg (by decide), List.append_assoc]
      exact vget_vput hr _
    rw [wnext_of hv ht hw]
    have e1 : numQ 2 num run = run.length := by simp [numQ]
    have e2 : headL no (2 : Nat) run = (putL no (2 : Nat)).length + (vput run.length).length := by simp [headL]
    unfold wrun
    rw [e1, e2, if_pos rfl, hq, if_pos (by simp only [List.length_append]; omega)]
    simp only [Prod.mk.injEq, Rc.mk.injEq, true_and, and_true, List.length_append]
    omega
  · have h3 : wire = 0 ∨ wire = 1 ∨ wire = 5 := by have := wire_nat h; omega
    have hw : wnum wire ((putL no wire ++ restL wire num run ++ t).drop (putL no wire).length) = (numQ wire num run, (restL wire num run).length, 0) := by
      rw [hd]; exact wnum_put h3 hn
    rw [wnext_of hv ht hw]
    have e2 : headL no wire run = (putL no wire).length := by unfold headL; rw [if_neg (by omega)]; rfl
    unfold wrun
    rw [e2, if_neg h2]
    simp only [Prod.mk.injEq, Rc.mk.injEq, true_and, and_true, List.length_append]
/-- What is put stands anywhere, and is told there. -/
theorem next_back {no wire : Nat} (h : putB no wire = true) {num : Nat} (hn : num < 18446744073709551616) {run : List UInt8} (hr : run.length < 18446744073709551616) (a t : List UInt8) :
    nextR (a ++ (recL no wire num run ++ t)) a.length (a ++ (recL no wire num run ++ t)).length = (⟨no, wire, numQ wire num run, a.length + headL no wire run, a.length + (recL no wire num run).length⟩, a.length + (recL no wire num run).length, 0) := by
  rw [next_win _ _ _ (by simp) (Nat.le_refl _), List.drop_left, List.take_of_length_le (by simp), wnext_put h hn hr t]
  rfl
end Go.Proofs.YtipaangiehdgkaaGreatDoor
/-
  A value's bytes are one record, of its number; and what a message that has it alone has.
-/
namespace Go.Proofs.YtipaangiehdgkaaGreatDoor.T12
set_option maxRecDepth 100000

open Go.RowKit

open Go.Proofs.YtipaangiehdgkaaGreatDoor.T9 Go.Proofs.YtipaangiehdgkaaGreatDoor.T4

theorem val_rec {s : Sc} {kind ref no : Int} {v : Vl'} (ha : askG (isB s 63) kind ref v = true) (hno : 1 ≤ no ∧ no ≤ 536870911) (hi : VIn v) (hwt : 40 * cV v + tV v ≤ 35184372088832) :
    ∃ (nn wn num : Nat) (run : List UInt8), no = nn ∧ valL (encB s 63) kind ref no v = recL nn wn num run ∧ putB nn wn = true ∧ num < 18446744073709551616 ∧ run.length < 18446744073709551616 := by
  obtain ⟨nn, rfl⟩ := Int.eq_ofNat_of_zero_le (show 0 ≤ no by omega)
  have hp2 : putB (nn : Int) ((2 : Nat) : Int) = true := put_run hno
  unfold valL
  by_cases h9 : kind = 9
  · subst h9
    obtain ⟨-, -, x, hx, hg⟩ := ask_nine ha
    rw [if_pos rfl, hx]
    have h1 := sm_mem (g := Mg.txt) (show x ∈ v.M by rw [hx]; simp)
    have h2 := cnt_le (v := v) (x := x) (by rw [hx]; simp)
    have h3 : tV v = v.s.length + sm (v.M.map Mg.txt) := rfl
    have h4 := enc_len s 63 ref x (hi.2 x (by rw [hx]; simp)) (by omega)
    exact ⟨nn, 2, 0, encB s 63 ref x, rfl, rfl, hp2, by omega, by omega⟩
  · rw [if_neg h9]
    by_cases h78 : kind = 7 ∨ kind = 8
    · rw [if_pos h78]
      have := hi.1.2
      exact ⟨nn, 2, 0, v.s, rfl, rfl, hp2, by omega, by omega⟩
    · rw [if_neg h78]
      have hc := ask_cnt ha (fun e => h78 (.inl e)) (fun e => h78 (.inr e)) h9
      have hp := put_num hno hc
      have hw : (0 : Int) ≤ wireI kind := by rcases seven_cnt hc with rfl | rfl | rfl | rfl | rfl | rfl | rfl <;> decide
      obtain ⟨wn, hwn⟩ := Int.eq_ofNat_of_zero_le hw
      rw [hwn] at hp
      exact ⟨nn, wn, (bitsI kind v.n).toNat, [], rfl, by unfold encN; rw [hwn], hp, bits_nat kind v.n hi.1.1, by simp⟩
theorem all_one {nn wn num : Nat} {run : List UInt8} (hp : putB nn wn = true) (hn : num < 18446744073709551616) (hr : run.length < 18446744073709551616) :
    ∃ r : Rc, allR (recL nn wn num run) 0 (recL nn wn num run).length = ([r], 0) ∧ r.no = nn := by
  have h := next_back hp hn hr [] []
  rw [List.append_nil, List.nil_append] at h
  have hl := rec_ne (num := num) (run := run) hp
  obtain ⟨X, hX⟩ : ∃ X, recL nn wn num run = X := ⟨_, rfl⟩
  rw [hX] at h hl ⊢
  simp only [List.length_nil, Nat.zero_add, Int.ofNat_zero, Int.natCast_zero] at h
  refine ⟨⟨nn, wn, numQ wn num run, headL nn wn run, X.length⟩, ?_, rfl⟩
  unfold allR
  rw [if_pos (mayB_true.2 ⟨by omega, by omega, by omega⟩)]
  have e := recs_step (l := X) (u := X.length) (a := 0) (by omega) h
  rw [recs_end (show ¬ X.length < X.length by omega)] at e
  simpa using e
theorem told_no {f : Df} {v : Vl'} (hk : f.key = -1) (h : toldB f [v] = false) : f.rep = false ∧ f.one = 0 ∧ f.kind ≠ 9 ∧ v.n = 0 ∧ v.s = [] := by
  unfold toldB defB at h
  simp only [Bool.or_eq_false_iff, bne_eq_false_iff_eq, beq_eq_false_iff_ne, Bool.not_eq_false', Bool.and_eq_true, beq_iff_eq, List.isEmpty_iff] at h
  exact ⟨h.1, h.2.2.1, h.2.2.2.1, h.2.2.2.2.1, h.2.2.2.2.2.1⟩
theorem alone_enc {s : Sc} {m no : Int} {f : Df} {v : Vl'} (hf : byS s m no = some f) (hk : f.key = -1) (hno : f.no = no) :
    (toldB f [v] = true → (f.rep && cnt f.kind) = false → encB s 64 m (norB s 64 m (.mk [⟨no, [], [v]⟩])) = valL (encB s 63) f.kind f.ref no (norV (norB s 63) f.ref v)) ∧
    (toldB f [v] = false → encB s 64 m (norB s 64 m (.mk [⟨no, [], [v]⟩])) = []) := by
  refine ⟨fun ht hc => ?_, fun ht => ?_⟩
  · have e : norB s 64 m (.mk [⟨no, [], [v]⟩]) = .mk [⟨no, [], [norV (norB s 63) f.ref v]⟩] := by
      refine Mg.ext ?_
      show srt ltNo ([(⟨no, [], [v]⟩ : So)].filterMap (norO (byS s m) (norB s 63))) = _
      have h1 : norO (byS s m) (norB s 63) ⟨no, [], [v]⟩ = some ⟨no, [], [norV (norB s 63) f.ref v]⟩ := by
        unfold norO
        show (byS s m no).bind _ = _
        rw [hf, Option.bind_some, if_pos ht]
        unfold norS
        rw [if_pos hk]; rfl
      rw [List.filterMap_cons_some h1]; rfl
    rw [e, enc_alone]
    unfold slotL
    show (match byS s m no with | none => [] | some f => fieldL (encB s 63) f _) = _
    rw [hf]
    show fieldL (encB s 63) f _ = _
    unfold fieldL
    rw [if_pos hk, hc, if_neg (by simp), hno]
    simp
  · have e : norB s 64 m (.mk [⟨no, [], [v]⟩]) = .mk [] := by
      refine Mg.ext ?_
      show srt ltNo ([(⟨no, [], [v]⟩ : So)].filterMap (norO (byS s m) (norB s 63))) = _
      have h1 : norO (byS s m) (norB s 63) ⟨no, [], [v]⟩ = none := by
        unfold norO
        show (byS s m no).bind _ = _
        rw [hf, Option.bind_some, if_neg (by rw [ht]; simp)]
      rw [List.filterMap_cons_none h1]; rfl
    rw [e]; rfl
set_option maxRecDepth 1000000 in
set_option maxHeartbeats 4000000 in
theorem value_no {s : Sc} (hin : ScIn s) (B D : Nat) (vM vE : Value) (kind ref no : Int) (v : Vl') (u : Value) (w : World) (hB : B ≤ w.heap.size) (hs : SAt B w s vM vE) (hv : VAt (Rd B w) D v [.int .i64 v.n, .string (tx v.s), u]) (hi : VIn v) (hc : cV v ≤ 100000) (T : Tabs w) (hvt : no < 1 ∨ 536870911 < no ∨ valT s kind ref v = false) :
    Calls Tryz.prog 18 #[.agg #[vM, vE], .int .i64 kind, .int .i64 ref, .int .i64 no, .agg #[.int .i64 v.n, .string (tx v.s), u]] w fun e w' => e = .returned (.tuple #[.slice none 0 0, .int .i64 1]) ∧ Below w.heap.size w w' := by
  obtain ⟨A1, q1, A2, q2, rfl, rfl⟩ := sat_shape hs
  obtain ⟨A, c, -, -, rfl⟩ := val_shape hv
  obtain ⟨X1, X2, LBD⟩ := two_boxes w (.cells #[.slice A1 s.M.length q1, .slice A2 s.E.length q2] 33) (.cells #[.int .i64 v.n, .string (tx v.s), .slice A v.M.length c] 51)
  obtain ⟨s0, s1⟩ := box2' X1
  obtain ⟨p0, p1, p2⟩ := bx3 X2
  have HTV := Lib.hid (fun wx (h : Below w.heap.size w wx) => tval_any hin B D (.slice A1 s.M.length q1) (.slice A2 s.E.length q2) kind ref v (.slice A v.M.length c) wx (Nat.le_trans hB h.size) (SAt.lo hs h hB) (VRd.low (Lo.below h hB) hv) hi hc (T.on h))
  clear hs hv hi X1 X2 hc
  by_cases n1 : no < 1
  · clear hvt
    go_enter Tryz.func18, Tryz.ntmps18
    go_wp2
    go_ret2
    exact ⟨rfl, LBD⟩
  · by_cases n2 : 536870911 < no
    · clear hvt
      go_enter Tryz.func18, Tryz.ntmps18
      go_wp2
      go_ret2
      exact ⟨rfl, LBD⟩
    · have hv0 : valT s kind ref v = false := by
        rcases hvt with h | h | h
        · exact absurd h n1
        · exact absurd h n2
        · exact h
      rw [hv0] at HTV
      clear hvt hv0
      go_enter Tryz.func18, Tryz.ntmps18
      go_wp2_with fail
      refine (HTV.out _ LBD).mono ?_
      rintro e w1 ⟨rfl, hb1⟩
      go_wp2
      go_ret2
      exact ⟨rfl, below_then LBD hb1⟩
end Go.Proofs.YtipaangiehdgkaaGreatDoor.T12
/-
  The document's own functions that look for things by name: the contracts.
-/
namespace Go.Proofs.YtipaangiehdgkaaGreatDoor
set_option maxRecDepth 100000

open Go.RowKit

theorem not_next {α : Type} {l : List α} {k : Nat} {x : α} {P : α → Prop} (hk : l[k]? = some x) (hx : P x) (h : ∀ j y, j < k → l[j]? = some y → P y) : ∀ j y, j < k + 1 → l[j]? = some y → P y := by
  intro j y hj hy
  rcases Nat.lt_or_ge j k with h2 | h2
  · exact h j y h2 hy
  · obtain rfl : j = k := by omega
    rw [hk] at hy
    obtain rfl := Option.some.inj hy
    exact hx
end Go.Proofs.YtipaangiehdgkaaGreatDoor
/-
  The document's own Find and By: the contracts.
-/
namespace Go.Proofs.YtipaangiehdgkaaGreatDoor
set_option maxRecDepth 100000

open Go.RowKit

set_option maxRecDepth 1000000 in
set_option maxHeartbeats 4000000 in
theorem rBy_any (B : Nat) (s : Sc) (vM vE : Value) (m : Int) (x : Int) (w : World) (hB : B ≤ w.heap.size) (hs : SAt B w s vM vE) :
    Calls Tryz.prog 17 #[.agg #[vM, vE], .int .i64 m, .int .i64 x] w fun e w' => e = .returned (foundV (byS s m x)) ∧ Below w.heap.size w w' := by
  obtain ⟨xs, ys, ⟨A1, q1, rfl, s1, b1⟩, h2, ⟨A2, q2, rfl, s2, b2⟩, h4⟩ := hs
  have hb0 : Below w.heap.size w ((w.alloc (.cells #[.slice A1 s.M.length q1, .slice A2 s.E.length q2] 33)).alloc (.cells #[.int .i64 0, .string ⟨#[]⟩, .int .i64 0, .int .i64 0, .bool false, .int .i64 0, .int .i64 0] 53)) := below_lit (below_new _ _) _
  have hx0 : ((w.alloc (.cells #[.slice A1 s.M.length q1, .slice A2 s.E.length q2] 33)).alloc (.cells #[.int .i64 0, .string ⟨#[]⟩, .int .i64 0, .int .i64 0, .bool false, .int .i64 0, .int .i64 0] 53)).heap[w.heap.size]? = some (.cells #[.slice A1 s.M.length q1, .slice A2 s.E.length q2] 33 (0, 0)) := ((below_new _ _).block _ (by simp)).trans (heap_alloc_new w _)
  have hr0 := heap_second w (.cells #[.slice A1 s.M.length q1, .slice A2 s.E.length q2] 33) (.cells #[.int .i64 0, .string ⟨#[]⟩, .int .i64 0, .int .i64 0, .bool false, .int .i64 0, .int .i64 0] 53)
  have hsm : s.M.length ≤ 9223372036854775807 := by have h1 := s1.le; have h2 := s1.cap; unfold maxLen at h2; omega
  have HM := Lib.hid (s1.low b1 (Low.below hb0 hB))
  have HMA := Lib.hid (h2.low (Low.below hb0 hB))
  have HB0 := Lib.hid hb0
  clear s1 h2 s2 h4 hB b1 b2
  go_enter Tryz.func17, Tryz.ntmps17
  go_upto_region 1 with fail
  obtain ⟨W0, hW0⟩ : ∃ W, W = ((w.alloc (.cells #[.slice A1 s.M.length q1, .slice A2 s.E.length q2] 33)).alloc (.cells #[.int .i64 0, .string ⟨#[]⟩, .int .i64 0, .int .i64 0, .bool false, .int .i64 0, .int .i64 0] 53)) := ⟨_, rfl⟩
  rw [← hW0] at HM HMA HB0 hx0 hr0 ⊢
  clear hW0 hb0
  have v0 := heap_cell hx0 0
  simp at v0
  by_cases hm : 0 ≤ m ∧ m < s.M.length
  · obtain ⟨k, rfl⟩ : ∃ k : Nat, m = k := ⟨m.toNat, by omega⟩
    have hlt : k < s.M.length := by omega
    obtain ⟨d, hd0⟩ : ∃ d, s.M[k]? = some d := ⟨_, List.getElem?_eq_getElem hlt⟩
    have hn : byS s (k : Int) x = d.F.find? (fun y => y.no == x) := by
      have e : msgAt s (k : Int) = some d := by unfold msgAt; rw [if_neg (by omega), Int.toNat_natCast, hd0]
      unfold byS
      rw [e]
      rfl
    obtain ⟨ad, vF, rfl, hg, hmr, c0, c1⟩ := mdr_at HM.out HMA.out hd0
    obtain ⟨AF, cF, rfl, sF, aF⟩ := hmr
    have hfl : d.F.length ≤ 9223372036854775807 := by have h1 := sF.le; have h2 := sF.cap; unfold maxLen at h2; omega
    have HSF := Lib.hid sF
    have HN := Lib.hid hn
    have HX0 := Lib.hid hx0
    have HR0 := Lib.hid hr0
    have h1 : decide ((k : Int) < 0) = false := by rw [decide_eq_false_iff_not]; omega
    have h2 : decide ((s.M.length : Int) ≤ (k : Int)) = false := by rw [decide_eq_false_iff_not]; omega
    have h3 : decide ((k : Int) ≥ (s.M.length : Int)) = false := by rw [decide_eq_false_iff_not]; omega
    clear hm hn sF hd0 hx0 hr0
    go_wp2
    go_loopw [8] (fun i wr => ∃ j : Nat, i = .int .i64 j ∧ j ≤ d.F.length ∧ (∀ i y, i < j → d.F[i]? = some y → (y.no == x) = false) ∧ wr = W0) (fun i _ => d.F.length - (intOf i).toNat)
    case atStart => exact ⟨0, rfl, by omega, fun j y hj => by omega, rfl⟩
    case round =>
      obtain ⟨j, rfl, hj, herr, rfl⟩ := hrel
      have HQ := Lib.hid herr
      clear herr
      by_cases hlj : j < d.F.length
      · obtain ⟨y, hy⟩ : ∃ d', d.F[j]? = some d' := ⟨_, List.getElem?_eq_getElem hlj⟩
        obtain ⟨ad3, rfl, hg3, k0, k1, k2, k3, k4, k5, k6⟩ := dfr_at HSF.out hy
        have HY := Lib.hid hy
        clear hy
        skip
        by_cases hx : y.no = x
        · have he : (y.no == x) = true := beq_iff_eq.2 hx
          have HF := Lib.hid (HN.out.trans (find_first HQ.out HY.out (beq_iff_eq.2 hx)))
          clear hx
          go_wp2_with (refine wpList_store_df rfl _ _ rfl rfl (w.heap.size + 1) _ _ _ _ _ _ _ _ _ _ _ _ _ _ rfl rfl _ HR0.out ?_)
          refine bodyPost_ret (results_df1 rfl _ _ (w.heap.size + 1) _ _ _ _ _ _ _ _ (0, 0) rfl (setRow_heap _ _ _ _ _ _ HR0.out)) rfl ?_
          exact ⟨by rw [HF.out]; rfl, below_setRow HB0.out (by omega) _⟩
        · have he : (y.no == x) = false := beq_eq_false_iff_ne.2 hx
          have HX := Lib.hid (show (y.no == x) = false from beq_eq_false_iff_ne.2 hx)
          clear hx
          go_wp2
          exact ⟨⟨j + 1, by go_num, by omega, not_next (P := fun y => (y.no == x) = false) HY.out HX.out HQ.out, trivial⟩, by simp [intOf]; omega⟩
      · obtain rfl : j = d.F.length := by omega
        have HF := Lib.hid (HN.out.trans (find_none HQ.out))
        go_wp2_with (refine wpList_store_df rfl _ _ rfl rfl (w.heap.size + 1) _ _ _ _ _ _ _ _ _ _ _ _ _ _ rfl rfl _ HR0.out ?_)
        refine bodyPost_ret (results_df1 rfl _ _ (w.heap.size + 1) _ _ _ _ _ _ _ _ (0, 0) rfl (setRow_heap _ _ _ _ _ _ HR0.out)) rfl ?_
        exact ⟨by rw [HF.out]; rfl, below_setRow HB0.out (by omega) _⟩
  · have HN : Hid (byS s m x = none) := Lib.hid (by
      have e : msgAt s m = none := by
        unfold msgAt
        split
        · rfl
        · exact List.getElem?_eq_none (by omega)
      unfold byS
      rw [e]
      rfl)
    obtain ⟨v1, hv1⟩ : ∃ v, decide (m < 0) = v := ⟨_, rfl⟩
    obtain ⟨v2, hv2⟩ : ∃ v, decide ((s.M.length : Int) ≤ m) = v := ⟨_, rfl⟩
    have HV : Hid ((v1 || v2) = true) := Lib.hid (by rw [← hv1, ← hv2]; simp only [Bool.or_eq_true, decide_eq_true_eq]; omega)
    have hv3 : decide (m ≥ (s.M.length : Int)) = v2 := hv2
    clear hm
    cases v1 <;> cases v2
    · exact absurd HV.out (by simp)
    all_goals
      go_wp2_with (refine wpList_store_df rfl _ _ rfl rfl (w.heap.size + 1) _ _ _ _ _ _ _ _ _ _ _ _ _ _ rfl rfl _ hr0 ?_)
      refine bodyPost_ret (results_df1 rfl _ _ (w.heap.size + 1) _ _ _ _ _ _ _ _ (0, 0) rfl (setRow_heap _ _ _ _ _ _ hr0)) rfl ?_
      exact ⟨by rw [HN.out]; rfl, below_setRow HB0.out (by omega) _⟩
end Go.Proofs.YtipaangiehdgkaaGreatDoor
/-
  A value's bytes are one record, of its number; of a field that has one the message's that has just that value, unless it goes without saying: the walk.
-/
namespace Go.Proofs.YtipaangiehdgkaaGreatDoor.T12.lawEncodeValue
set_option maxRecDepth 100000

open Go.ChangeShapes Go.WideShapes Go.ChangeAt Go.RowKit

open Go.Proofs.YtipaangiehdgkaaGreatDoor.T9 Go.Proofs.YtipaangiehdgkaaGreatDoor.T4

/-- A value alone, in a field. -/
def aloneS (no : Int) (v : Vl') : So := ⟨no, [], [v]⟩
theorem byS_at {s : Sc} {m no : Int} {f : Df} (hf : byS s m no = some f) : 0 ≤ m ∧ m < s.M.length := by
  unfold byS msgAt at hf
  by_cases h0 : m < 0
  · rw [if_pos h0] at hf; simp at hf
  · rw [if_neg h0] at hf
    cases hm : s.M[m.toNat]? with
    | none => rw [hm] at hf; simp at hf
    | some d =>
      have hlt := (List.getElem?_eq_some_iff.1 hm).1
      exact ⟨by omega, by omega⟩
theorem claim_first (f : Df) : claimB [] f = true := by
  unfold claimB
  by_cases h : f.one = 0
  · simp [h]
  · have h2 : ¬ (0 : Int) = f.one := fun e => h e.symm
    simp [h, h2]
theorem may_alone {s : Sc} {m no : Int} {f : Df} {v : Vl'} (hf : byS s m no = some f) (hk : f.key = -1) : mayT s m (.mk [aloneS no v]) = valT s f.kind f.ref v := by
  have hm := byS_at hf
  have e : isB s 64 m (.mk [aloneS no v]) = T9.valB s 63 f.kind f.ref v := by
    show (decide (0 ≤ m ∧ m < s.M.length) && slotsG (byS s m) (fillG (isB s 63)) [] [aloneS no v]) = _
    rw [decide_eq_true hm, Bool.true_and, slotsG_cons, show (aloneS no v).no = no from rfl, hf]
    simp only [claim_first, slotsG, Bool.true_and, Bool.and_true]
    unfold fillG manyB
    rw [if_pos hk]
    simp [aloneS, T9.valB]
  unfold mayT valT
  rw [e]
theorem sat_up {w w' : World} {s : Sc} {vM vE : Value} (h : SAt w.heap.size w s vM vE) (hb : Below w.heap.size w w') : SAt w'.heap.size w' s vM vE := SAt.mono (SAt.lo h hb (Nat.le_refl _)) hb.size
theorem vrd_up {D : Nat} {w w' : World} {v : Vl'} {cs : List Value} (hb : Below w.heap.size w w') (h : VAt (Rd w.heap.size w) D v cs) : VAt (Rd w'.heap.size w') D v cs := VRd.mono hb.size (VRd.low (Lo.below hb (Nat.le_refl _)) h)
theorem alone_rd {D g1 g2 : Nat} {w : World} {no : Int} {v : Vl'} {x y z : Value} {t1 t2 : TypeId} {fr1 fr2 : Nat × Nat} (hv : VAt (Rd w.heap.size w) D v [x, y, z]) (h1 : w.heap[g1]? = some (.cells #[x, y, z] t1 fr1)) (h2 : w.heap[g2]? = some (.cells #[.int .i64 no, .slice none 0 0, .slice (some ⟨g1, 0, none⟩) 1 1] t2 fr2)) :
    MRd w.heap.size w (D + 1) (.mk [aloneS no v]) (.slice (some ⟨g2, 0, none⟩) 1 1) :=
  one_rd (s := aloneS no v) ⟨_, _, rfl, ⟨[], ⟨Rr.nil _ _ _, Nat.zero_le _⟩, rfl⟩, ⟨[x, y, z], lit_row (n := 1) (size := 3) (xs := [x, y, z]) h1 rfl (by decide) (box_lt h1) _, Rows.single hv⟩⟩ h2
theorem alone_in {no : Int} {v : Vl'} (hn : inI no) (hv : VIn v) : MIn (.mk [aloneS no v]) := .of fun s hs => by
  obtain rfl : s = aloneS no v := by simpa [Mg.F] using hs
  refine ⟨hn, fun x hx => ?_⟩
  obtain rfl : x = v := by simpa [aloneS] using hx
  exact hv
theorem alone_cnt (no : Int) (v : Vl') : (Mg.mk [aloneS no v]).cnt = 1 + cV v := by
  rw [cnt_one]
  unfold cS aloneS
  simp [sm]
theorem rby_found {B : Nat} {s : Sc} {vM vE : Value} {m x : Int} {f : Df} (hf : byS s m x = some f) (w : World) (hB : B ≤ w.heap.size) (hs : SAt B w s vM vE) :
    Calls Tryz.prog 17 #[.agg #[vM, vE], .int .i64 m, .int .i64 x] w fun e w' => e = .returned (.tuple #[.agg #[.int .i64 f.no, .string (txt f.name), .int .i64 f.kind, .int .i64 f.ref, .bool f.rep, .int .i64 f.key, .int .i64 f.one], .bool true]) ∧ Below w.heap.size w w' :=
  (rBy_any B s vM vE m x w hB hs).mono fun e w' h => ⟨by rw [h.1, hf]; rfl, h.2⟩
theorem rby_none {B : Nat} {s : Sc} {vM vE : Value} {m x : Int} (hf : byS s m x = none) (w : World) (hB : B ≤ w.heap.size) (hs : SAt B w s vM vE) :
    Calls Tryz.prog 17 #[.agg #[vM, vE], .int .i64 m, .int .i64 x] w fun e w' => e = .returned (.tuple #[.agg #[.int .i64 0, .string ⟨#[]⟩, .int .i64 0, .int .i64 0, .bool false, .int .i64 0, .int .i64 0], .bool false]) ∧ Below w.heap.size w w' :=
  (rBy_any B s vM vE m x w hB hs).mono fun e w' h => ⟨by rw [h.1, hf]; rfl, h.2⟩
theorem alone_txt (no : Int) (v : Vl') : Mg.txt (Mg.mk [aloneS no v]) = tV v := by
  rw [Mg.txt_eq]
  show sm [tS (aloneS no v)] = _
  simp [sm, tS, aloneS]
set_option maxRecDepth 1000000 in
set_option maxHeartbeats 16000000 in
theorem walk (w : World) (T : Tabs w ∧ Wires w) (s : Sc) (vM vE : Value) (hs0 : SAt w.heap.size w s vM vE) (hin : ScIn s) (m : Int) (hm1 : -9223372036854775808 ≤ m) (hm2 : m ≤ 9223372036854775807) (no : Int) (hn1 : -9223372036854775808 ≤ no) (hn2 : no ≤ 9223372036854775807)
    (v : Vl') (u : Value) (D : Nat) (hv0 : VAt (Rd w.heap.size w) D v [.int .i64 v.n, .string (tx v.s), u]) (hi : VIn v) :
    Calls Tryz.prog 6 #[.agg #[vM, vE], .int .i64 m, .int .i64 no, .agg #[.int .i64 v.n, .string (tx v.s), u]] w fun e w' => e = .returned (.bool true) ∧ Below w.heap.size w w' := by
  obtain ⟨A1, q1, A2, q2, rfl, rfl⟩ := sat_shape hs0
  obtain ⟨Av, cv, -, -, rfl⟩ := val_shape hv0
  obtain ⟨X1, X2, LBD⟩ := two_boxes w (.cells #[.slice A1 s.M.length q1, .slice A2 s.E.length q2] 33) (.cells #[.int .i64 v.n, .string (tx v.s), .slice Av v.M.length cv] 51)
  have HS := Lib.hid (fun wx (h : Below w.heap.size w wx) => sat_up hs0 h)
  have HV := Lib.hid (fun wx (h : Below w.heap.size w wx) => vrd_up h hv0)
  have HT := Lib.hid T
  have hno : inI no := ⟨hn1, hn2⟩
  have HXI := Lib.hid (And.intro (alone_in (no := 0) ⟨by decide, by decide⟩ hi) (alone_in hno hi))
  have HI := Lib.hid hi
  clear hs0 hv0 T hm1 hm2 hn1 hn2
  go_enter Tryz.func6, Tryz.ntmps6
  go_wp2_with fail
  refine (awake12_any _ (HT.out.1.on LBD) (HT.out.2.on LBD)).mono ?_
  rintro e w1 ⟨rfl, hb1⟩
  have hb01 := below_then LBD hb1
  have Y1 := box_on X1 hb1
  have Y2 := box_on X2 hb1
  clear X1 X2 LBD hb1
  obtain ⟨y1, y2⟩ := box2' Y1
  obtain ⟨p0, p1, p2⟩ := bx3 Y2
  obtain ⟨T1, T2, L3⟩ := two_boxes w1 (.cells #[.int .i64 v.n, .string (tx v.s), .slice Av v.M.length cv] 51) (.cells #[.int .i64 0, .slice none 0 0, .slice (some ⟨w1.heap.size, 0, none⟩) 1 1] 48)
  have hb03 := below_then hb01 L3
  have Z1 := box_on Y1 L3
  have Z2 := box_on Y2 L3
  have h3s : ((w1.alloc (.cells #[.int .i64 v.n, .string (tx v.s), .slice Av v.M.length cv] 51)).alloc (.cells #[.int .i64 0, .slice none 0 0, .slice (some ⟨w1.heap.size, 0, none⟩) 1 1] 48)).heap.size = w1.heap.size + 2 := by simp
  have HF1 := Lib.hid (few12_any _ (D + 1) s _ _ (.mk [aloneS 0 v]) _ _ (Nat.le_refl _) (HS.out _ hb03) (alone_rd (HV.out _ hb03) T1 T2) HXI.out.1)
  clear T1 T2
  go_wp2_with fail
  refine HF1.out.mono ?_
  rintro e w2 ⟨r, rfl, hfit, hb2⟩
  have hb02 := below_then hb03 hb2
  have Y1 := box_on Z1 hb2
  have Y2 := box_on Z2 hb2
  clear y1 y2 p0 p1 p2 Z1 Z2 L3 HF1 h3s hb01
  obtain ⟨y1, y2⟩ := box2' Y1
  cases hfo : byS s m no with
  | none =>
    have HBY := Lib.hid (rby_none hfo w2 (Nat.le_refl _) (HS.out _ hb02))
    clear hfit
    go_wp2_with fail
    refine HBY.out.mono ?_
    rintro e w3 ⟨rfl, hb3⟩
    cases r <;> go_wp2
    all_goals
      go_ret
      exact ⟨rfl, below_then (below_then hb02 hb3) (below_new _ _)⟩
  | some f =>
  have HBY := Lib.hid (rby_found hfo w2 (Nat.le_refl _) (HS.out _ hb02))
  go_wp2_with fail
  refine HBY.out.mono ?_
  rintro e w3 ⟨rfl, hb3⟩
  have N3 := below_new w3 (dC f)
  have hb04 := below_then (below_then hb02 hb3) N3
  have Y1 := box_on (box_on Y1 hb3) N3
  have Y2 := box_on (box_on Y2 hb3) N3
  have Y3 := heap_alloc_new w3 (dC f)
  obtain ⟨g0, g1, g2, g3, g4, g5, g6⟩ := dc_cells Y3
  clear y1 y2
  by_cases hk : f.key = -1
  case neg =>
    have b1 : (f.key != -1) = true := by simp [hk]
    have b2 : (f.key == -1) = false := by simp [hk]
    cases r <;> go_wp2
    all_goals
      go_ret
      exact ⟨rfl, hb04⟩
  have b1 : (f.key != -1) = false := by rw [hk]; rfl
  have b2 : (f.key == -1) = true := by rw [hk]; rfl
  cases r with
  | false =>
    clear hk hfo
    go_wp2
    go_ret
    exact ⟨rfl, hb04⟩
  | true =>
  obtain ⟨⟨hcx, -⟩, htx⟩ := hfit rfl
  rw [alone_cnt] at hcx
  rw [alone_txt] at htx
  have hcv : cV v ≤ 100000 := by omega
  have hwt : 40 * cV v + tV v ≤ 35184372088832 := by omega
  have HCV := Lib.hid (And.intro hcv (And.intro hwt (And.intro hcx htx)))
  have HK := Lib.hid hk
  have HFO := Lib.hid hfo
  obtain ⟨y1, y2⟩ := box2' Y1
  obtain ⟨p0, p1, p2⟩ := bx3 Y2
  by_cases hok : (1 ≤ no ∧ no ≤ 536870911) ∧ valT s f.kind f.ref v = true
  case neg =>
    have HVN := Lib.hid (value_no hin _ D _ _ f.kind f.ref no v _ _ (Nat.le_refl _) (HS.out _ hb04) (HV.out _ hb04) hi hcv (HT.out.1.on hb04) (by
      by_cases h1 : no < 1
      · exact .inl h1
      · by_cases h2 : 536870911 < no
        · exact .inr (.inl h2)
        · refine .inr (.inr ?_)
          cases h3 : valT s f.kind f.ref v with
          | false => rfl
          | true => exact absurd ⟨⟨by omega, by omega⟩, h3⟩ hok))
    clear hcx htx hcv hwt hk hok hfo hfit Y1 Y2 Y3
    go_wp2_with fail
    refine HVN.out.mono ?_
    rintro e w4 ⟨rfl, hb4⟩
    go_wp2
    go_ret
    exact ⟨rfl, below_then hb04 hb4⟩
  obtain ⟨hnr, hvt⟩ := hok
  obtain ⟨hsm, ha⟩ := valT_split hvt
  obtain ⟨e1, hokN, -⟩ := okN_of hsm ha hi hcv hwt
  obtain ⟨-, hfno⟩ := fno_ok hsm hfo
  have HVY := Lib.hid (value_yes hin _ D _ _ f.kind f.ref no v _ _ (Nat.le_refl _) (HS.out _ hb04) (HV.out _ hb04) hi hcv hwt (HT.out.1.on hb04) (HT.out.2.on hb04) hnr hvt)
  obtain ⟨nn, wn, num, run, hnn, hrec, hp, hnum, hrun⟩ := val_rec hokN.2.1 hnr hokN.1 hokN.2.2.2
  obtain ⟨rc, hall, hrc⟩ := all_one hp hnum hrun
  obtain ⟨ae1, ae2⟩ := alone_enc hfo hk hfno
  have hvl := val_len (enc_len s 63) f.kind f.ref no (norV (norB s 63) f.ref v) hokN.1 (Nat.le_trans hokN.2.2.2 (by decide))
  have hvl2 : (valL (encB s 63) f.kind f.ref no (norV (norB s 63) f.ref v)).length ≤ 1000000 := by
    have g := good_val (norB_good (may_keys hsm) 63) ha
    have h1 := g.cnt
    have h2 := txt_val (nor_txt s 63) ha
    omega
  rw [← hrec] at hall
  obtain ⟨X, hX⟩ : ∃ X, valL (encB s 63) f.kind f.ref no (norV (norB s 63) f.ref v) = X := ⟨_, rfl⟩
  rw [hX] at HVY hall hvl2 ae1
  have HAE := Lib.hid (And.intro ae1 ae2)
  have hmay : mayT s m (.mk [aloneS no v]) = true := by rw [may_alone hfo hk]; exact hvt
  have hkr : cnt f.kind = true → f.kind < 7 := fun h => by
    unfold cnt at h
    have := of_decide_eq_true h
    omega
  have hkr2 : cnt f.kind = false → ¬ f.kind < 7 := fun h h7 => by
    have h8 : valT s f.kind f.ref v = true := hvt
    unfold askG at ha
    rw [if_neg (by omega), if_neg (by omega), if_neg (by omega)] at ha
    simp only [Bool.and_eq_true] at ha
    rw [fits_cnt ha.1] at h
    cases h
  have HKR := Lib.hid (And.intro hkr hkr2)
  have HALL := Lib.hid hall
  have HRC := Lib.hid (And.intro hrc hnn)
  have HMY := Lib.hid hmay
  have hx6 : X.length ≤ 1000000 := hvl2
  obtain ⟨C, hC⟩ : ∃ C, encB s 64 m (norB s 64 m (.mk [aloneS no v])) = C := ⟨_, rfl⟩
  have HC := Lib.hid hC
  clear hcx htx hcv hwt hk hfo hfit Y3 hnr hvt hsm ha e1 hokN hfno hnum hrun hp hall ae1 ae2 hvl hvl2 hmay hkr hkr2 hrec hC hrc hnn hX
  go_wp2_with fail
  refine HVY.out.mono ?_
  rintro e w4 ⟨v4, rfl, ⟨A4, c4, rfl, hr4, -⟩, hb4⟩
  have hb05 := below_then hb04 hb4
  have HAL := Lib.hid (all_any5 A4 c4 X 0 X.length hx6 w4 hr4 (HT.out.2.on hb05))
  rw [HALL.out] at HAL
  have HR4 := Lib.hid hr4
  clear hr4 HVY
  go_wp2_with fail
  refine HAL.out.mono ?_
  rintro e w5 ⟨A5, c5, rfl, hsr, hb5⟩
  have hb06 := below_then hb05 hb5
  have hb45 := below_then hb4 hb5
  obtain ⟨ad, r0, rfl, hlt5, hr0, c0, -, -, -, -⟩ := hsr.at_ (k := 0) (Nat.zero_lt_one)
  obtain rfl : rc = r0 := by simpa using hr0
  rw [Nat.zero_mul, add_nothing, HRC.out.1, ← HRC.out.2] at c0
  obtain ⟨y1, y2⟩ := box2' (box_on Y1 hb45)
  obtain ⟨p0, p1, p2⟩ := bx3 (box_on Y2 hb45)
  have Y1 := box_on Y1 hb45
  have Y2 := box_on Y2 hb45
  have G := dc_cells (box_on (heap_alloc_new w3 (dC f)) hb45)
  obtain ⟨T1, T2, L7⟩ := two_boxes w5 (.cells #[.int .i64 v.n, .string (tx v.s), .slice Av v.M.length cv] 51) (.cells #[.int .i64 no, .slice none 0 0, .slice (some ⟨w5.heap.size, 0, none⟩) 1 1] 48)
  have hb07 := below_then hb06 L7
  have hcc := HCV.out
  have HEY := Lib.hid (encode_yes hin _ (D + 1) _ _ m (.mk [aloneS no v]) _ _ (Nat.le_refl _) (HS.out _ hb07) (alone_rd (HV.out _ hb07) T1 T2) HXI.out.2 (by rw [alone_cnt]; omega) (by rw [alone_cnt, alone_txt]; omega) (HT.out.1.on hb07) (HT.out.2.on hb07) HMY.out)
  rw [HC.out] at HEY
  clear T1 T2 hcc hsr hr0
  go_wp2_with fail
  refine HEY.out.mono ?_
  rintro e w6 ⟨v6, rfl, ⟨A6, c6, rfl, hr6, -⟩, hb6⟩
  have hb08 := below_then hb07 hb6
  have hb56 := below_then L7 hb6
  obtain ⟨g0, g1, g2, g3, g4, g5, g6⟩ : (w6.cell? ⟨w3.heap.size, 0, none⟩ = some (.int .i64 f.no) ∧ w6.cell? ⟨w3.heap.size, 1, none⟩ = some (.string (txt f.name)) ∧ w6.cell? ⟨w3.heap.size, 2, none⟩ = some (.int .i64 f.kind) ∧ w6.cell? ⟨w3.heap.size, 3, none⟩ = some (.int .i64 f.ref) ∧ w6.cell? ⟨w3.heap.size, 4, none⟩ = some (.bool f.rep) ∧ w6.cell? ⟨w3.heap.size, 5, none⟩ = some (.int .i64 f.key) ∧ w6.cell? ⟨w3.heap.size, 6, none⟩ = some (.int .i64 f.one)) :=
    ⟨cell_on hb56 G.1, cell_on hb56 G.2.1, cell_on hb56 G.2.2.1, cell_on hb56 G.2.2.2.1, cell_on hb56 G.2.2.2.2.1, cell_on hb56 G.2.2.2.2.2.1, cell_on hb56 G.2.2.2.2.2.2⟩
  obtain ⟨k0, k1, k2⟩ := bx3 (box_on Y2 hb56)
  have hbs := fun (h1 : X.length ≤ 1000000000) (h2 : C.length ≤ 1000000000) => bytes_any A4 A6 c4 c6 X C w6 h1 h2 (HR4.out.on (below_then hb5 hb56)) hr6
  clear y1 y2 p0 p1 p2 c0 G hr6 HEY
  obtain ⟨br, hbr⟩ : ∃ b, f.rep = b := ⟨_, rfl⟩
  obtain ⟨bt, hbt⟩ : ∃ b, toldB f [v] = b := ⟨_, rfl⟩
  cases br with
  | true =>
    rw [hbr] at g4
    by_cases h7 : f.kind < 7
    · clear hbt hbr
      go_wp2
      go_ret
      exact ⟨rfl, hb08⟩
    · have hcf : cnt f.kind = false := by
        cases h : cnt f.kind with
        | false => rfl
        | true => exact absurd (HKR.out.1 h) h7
      have ht : toldB f [v] = true := by unfold toldB; rw [hbr]; rfl
      have hXC : C = X := by rw [← HC.out]; exact HAE.out.1 ht (by rw [hcf]; simp)
      subst hXC
      have HB := hbs (by omega) (by omega)
      rw [decide_eq_true rfl] at HB
      have HB := Lib.hid HB
      clear hbs hbt hbr ht hcf
      go_wp2_with fail
      refine HB.out.mono ?_
      rintro e w7 ⟨rfl, hb7⟩
      go_wp2
      go_ret
      exact ⟨rfl, below_then hb08 hb7⟩
  | false =>
    rw [hbr] at g4
    cases bt with
    | true =>
      have hXC : C = X := by rw [← HC.out]; exact HAE.out.1 hbt (by rw [hbr]; rfl)
      subst hXC
      have HB := hbs (by omega) (by omega)
      rw [decide_eq_true rfl] at HB
      have HB := Lib.hid HB
      clear hbs hbt hbr
      go_wp2_with fail
      refine HB.out.mono ?_
      rintro e w7 ⟨rfl, hb7⟩
      go_wp2
      go_ret
      exact ⟨rfl, below_then hb08 hb7⟩
    | false =>
      have hC0 : C = [] := by rw [← HC.out]; exact HAE.out.2 hbt
      obtain ⟨-, t1, t2, t3, t4⟩ := told_no HK.out hbt
      subst hC0
      have HB := Lib.hid (hbs (by omega) (by decide))
      have k1' : w6.cell? ⟨w.heap.size + 1, 1, none⟩ = some (.string ⟨#[]⟩) := by rw [t4] at k1; exact k1
      rw [t3] at k0
      rw [t1] at g6
      have n9 : (f.kind != 9) = true := by simp [t2]
      have n9' : (f.kind == 9) = false := by simp [t2]
      obtain ⟨bd, hbd⟩ : ∃ b, decide (X = []) = b := ⟨_, rfl⟩
      rw [hbd] at HB
      clear hbs hbt hbr hbd t1 t3 t4 k1
      go_wp2_with fail
      refine HB.out.mono ?_
      rintro e w7 ⟨rfl, hb7⟩
      have q2 := cell_on hb7 g2
      have q4 := cell_on hb7 g4
      have q6 := cell_on hb7 g6
      have r0 := cell_on hb7 k0
      have r1 := cell_on hb7 k1'
      cases bd <;> go_wp2
      all_goals
        go_ret
        exact ⟨rfl, below_then hb08 hb7⟩
end Go.Proofs.YtipaangiehdgkaaGreatDoor.T12.lawEncodeValue
