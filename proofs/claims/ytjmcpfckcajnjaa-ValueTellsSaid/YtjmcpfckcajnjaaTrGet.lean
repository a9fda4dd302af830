/-
  A slot that is got; a value that is less: value's Get and Less.
-/
import Derived.Test.YtjmcpfckcajnjaaTrSet
namespace Go.Proofs.Ytjmcpfckcajnjaa.T9
set_option maxRecDepth 100000

open Go.RowKit

theorem results_pair {P : Program} {fn : Func} {p u : Tmp} {ty : TypeId} (h : fn.results = #[.cell p ty, .tmp u]) (tmps : Array Value) (w : World) (g : Nat) (t : TypeId) (cs : Array Value) (fr : Nat × Nat) (d : TypeDesc)
    (hp : tmps.getD p undef = .pointer (some ⟨g, 0, none⟩)) (hg : w.heap[g]? = some (.cells cs t fr))
    (hu : P.underlying ty = some d) (hd : (match d with | .struct _ | .array _ _ => true | _ => false) = true) (hi : (P.info? ty).map (·.size) = some cs.size) :
    (results fn tmps).run P w = .ok (.tuple #[.agg cs, tmps.getD u undef]) w := by
  have hp' : tmps[p]?.getD undef = .pointer (some ⟨g, 0, none⟩) := by simpa using hp
  simp [results, h, hp', asAddr, run_loadVar_row w g t ty cs fr d hg hu hd hi]
def so0 : So := ⟨0, [], []⟩
theorem so0_at (b D : Nat) (w : World) : SAt' (Ow b w) D so0 [.int .i64 0, .slice none 0 0, .slice none 0 0] :=
  ⟨_, _, rfl, ⟨[], ⟨World.ownsRow_nil _ _ _ _, by decide⟩, rfl⟩, ⟨[], ⟨World.ownsRow_nil _ _ _ _, by decide⟩, rfl⟩⟩
theorem slot_moved {w w' : World} {b b' D : Nat} {m : So} {cs : List Value} (hk : ∀ k, b ≤ k → k < w.heap.size → w'.heap[k]? = w.heap[k]?) (hb : b' ≤ b) (h : SAt' (Ow b w) D m cs) : SAt' (Ow b' w') D m cs := sAt.imp (Ow.hi' hk hb) (fun m cs h => MAt.imp (Ow.hi' hk hb) D m cs h) _ _ h
theorem getM_at (m : Mg) (no : Int) : getM m no = m.F[m.F.findIdx (fun a => a.no == no)]? := by
  unfold getM
  exact List.find?_eq_getElem?_findIdx
set_option maxRecDepth 1000000 in
set_option maxHeartbeats 4000000 in
theorem get_any (B D : Nat) (m : Mg) (u : Value) (no : Int) (w : World) (hB : B ≤ w.heap.size) (hm : MRd B w (D + 1) m u) (hcm : m.cnt ≤ 100000000) (b : Nat) (hb : b ≤ w.heap.size) :
    Calls Try.prog 8 #[.agg #[u], .int .i64 no] w fun e w' => ∃ x1 x2 x3, e = .returned (.tuple #[.agg #[x1, x2, x3], .bool (getM m no).isSome]) ∧ SAt' (Ow b w') D ((getM m no).getD so0) [x1, x2, x3] ∧ Below w.heap.size w w' := by
  obtain ⟨u', hu, hl⟩ := hm
  simp only [List.cons.injEq, and_true] at hu
  subst hu
  obtain ⟨X1, X2, X3, LBD⟩ := three_boxes w (.cells #[u] 24) (.cells #[.int .i64 no] 3) (.cells #[.int .i64 0, .slice none 0 0, .slice none 0 0] 27)
  have hF := cnt_F m
  have HT := Lib.hid (place_get B D m.F u no (w.heap.size + 1) _ (Nat.le_trans hB LBD.size) (hl.low (Lo.below LBD hB) fun a cs h => SRd.low (Lo.below LBD hB) h) X2)
  obtain ⟨A, c, xs, rfl, hs, hbl, hr, hn⟩ := hl.open_
  have HS := Lib.hid hs
  have HR := Lib.hid hr
  have HBB := Lib.hid hbl
  have hg := getM_at m no
  obtain ⟨at_, hat⟩ : ∃ k, m.F.findIdx (fun a => a.no == no) = k := ⟨_, rfl⟩
  have hle : at_ ≤ m.F.length := by rw [← hat]; exact List.findIdx_le_length
  rw [hat] at HT hg
  clear hl hs hr hbl hat
  go_enter Try.func8, Try.ntmps8
  go_wp2_with fail
  refine HT.out.mono ?_
  rintro e w1 ⟨rfl, hb1⟩
  have hb01 := below_then LBD hb1
  have y0 := bx1 (box_on X1 hb1)
  have Y3 := box_on X3 hb1
  have hX3 := box_lt X3
  obtain ⟨⟨z0, z1, z2⟩, z3, z4, z5⟩ := wr3 Y3
  by_cases hlt : at_ < m.F.length
  · obtain ⟨s, hs⟩ : ∃ s, m.F[at_]? = some s := ⟨_, List.getElem?_eq_getElem hlt⟩
    rw [hs] at hg
    have HGG := Lib.hid hg
    have hne : ((at_ : Int) == (m.F.length : Int)) = false := by rw [beq_eq_false_iff_ne]; omega
    have hne2 : ¬ at_ = m.F.length := by omega
    obtain ⟨ad, x, y, z, rfl, hga, hcc, c0, c1, c2⟩ := row3 sAt.len (sl_low HS.out HBB.out (Lo.below hb01 hB)) (HR.out.imp fun a cs h => SRd.low (Lo.below hb01 hB) h) hs
    have hx := hcc.head
    subst hx
    have hcs := cS_le (List.mem_of_getElem? hs)
    have HO := Lib.hid (ownSlot_any (own_any9 B D) s y z w1 (Nat.le_trans hB hb01.size) hcc (by omega) w1.heap.size (Nat.le_refl _))
    clear hcc hs hg X1 X2
    go_wp2_with fail
    refine HO.out.mono ?_
    rintro e w2 ⟨x1, x2, x3, rfl, ho, hb2⟩
    have Y4 := box_on Y3 hb2
    have hone := sAt.oneO s _ ho
    have hh := ho.head
    obtain ⟨v1, v2, hv, hk, hvv⟩ := id ho
    simp only [List.cons.injEq, and_true] at hv
    obtain ⟨rfl, rfl, rfl⟩ := hv
    obtain ⟨q1, ⟨hq1, -⟩, -⟩ := hk
    obtain ⟨q2, ⟨hq2, -⟩, -⟩ := hvv
    obtain ⟨A1, c1', rfl, -⟩ := Sl.of_own hq1
    obtain ⟨A2, c2', rfl, -⟩ := Sl.of_own hq2
    clear z0 z1 z2 z3 z4 z5 hq1 hq2 c0 c1 c2
    obtain ⟨⟨z0, z1, z2⟩, z3, z4, z5⟩ := wr3 Y4
    go_wp2
    obtain ⟨Z1, Z2⟩ := three_set Y4 (.int .i64 s.no) (.slice A1 s.K.length c1') (.slice A2 s.V.length c2')
    have hhi := hi_grown Z2 (Nat.lt_of_lt_of_le hX3 hb1.size)
    have hb5 := (below_then hb01 hb2).trans (below_own Z2 (show w.heap.size ≤ w.heap.size + 2 by omega) (Nat.le_trans hb01.size hb2.size))
    refine bodyPost_ret (results_pair rfl _ _ (w.heap.size + 2) _ _ (0, 0) _ rfl Z1 Try.underlying27 rfl sz_slot) rfl ?_
    rw [HGG.out]
    exact ⟨_, _, _, rfl, slot_moved hhi (Nat.le_trans hb hb01.size) ho, hb5⟩
  · obtain rfl : at_ = m.F.length := by omega
    have hno : m.F[m.F.length]? = none := by simp
    rw [hno] at hg
    have HGG := Lib.hid hg
    clear hg hno X1 X2
    go_wp2
    obtain ⟨Z1, Z2⟩ := three_set Y3 (.int .i64 0) (.slice none 0 0) (.slice none 0 0)
    have hb5 := hb01.trans (below_own Z2 (show w.heap.size ≤ w.heap.size + 2 by omega) hb01.size)
    refine bodyPost_ret (results_pair rfl _ _ (w.heap.size + 2) _ _ (0, 0) _ rfl Z1 Try.underlying27 rfl sz_slot) rfl ?_
    rw [HGG.out]
    exact ⟨_, _, _, rfl, so0_at _ _ _, hb5⟩
def lessV (a b : Vl') : Bool := if a.n = b.n then Op.bytesLess a.s b.s else decide (a.n < b.n)
set_option maxRecDepth 1000000 in
set_option maxHeartbeats 4000000 in
theorem less_any (a b : Vl') (u1 u2 : Value) (w : World) :
    Calls Try.prog 19 #[.agg #[.int .i64 a.n, .string (tx a.s), u1], .agg #[.int .i64 b.n, .string (tx b.s), u2]] w fun e w' => e = .returned (.bool (lessV a b)) ∧ Below w.heap.size w w' := by
  unfold lessV
  obtain ⟨n1, hn1⟩ : ∃ n, a.n = n := ⟨_, rfl⟩
  obtain ⟨n2, hn2⟩ : ∃ n, b.n = n := ⟨_, rfl⟩
  obtain ⟨s1, hs1⟩ : ∃ n, a.s = n := ⟨_, rfl⟩
  obtain ⟨s2, hs2⟩ : ∃ n, b.s = n := ⟨_, rfl⟩
  rw [hn1, hn2, hs1, hs2]
  clear hn1 hn2 hs1 hs2
  obtain ⟨X1, X2, LBD⟩ := two_boxes w (.cells #[.int .i64 n1, .string (tx s1), u1] 30) (.cells #[.int .i64 n2, .string (tx s2), u2] 30)
  by_cases hn : n1 = n2
  · subst hn
    rw [if_pos rfl]
    go_enter Try.func19, Try.ntmps19
    go_wp2
    go_ret
    have e1 : (tx s1).toList = s1 := by rw [ByteArray.toList_eq, tx_list]
    have e2 : (tx s2).toList = s2 := by rw [ByteArray.toList_eq, tx_list]
    exact ⟨by rw [e1, e2]; rfl, LBD⟩
  · rw [if_neg hn]
    go_enter Try.func19, Try.ntmps19
    go_wp2
    go_ret
    exact ⟨by rfl, LBD⟩
end Go.Proofs.Ytjmcpfckcajnjaa.T9
