/-
  A slot that is got; a value that is less: value's Get and Less.
-/
import Derived.Test.YtjmcpfckcajnjaaGreatDoorTrSet
namespace Go.Proofs.YtjmcpfckcajnjaaGreatDoor.T9
set_option maxRecDepth 100000

open Go.RowKit

theorem results_pair {P : Program} {fn : Func} {p u : Tmp} {ty : TypeId} (h : fn.results = #[.cell p ty, .tmp u]) (tmps : Array Value) (w : World) (g : Nat) (t : TypeId) (cs : Array Value) (fr : Nat × Nat) (d : TypeDesc)
    (hp : tmps.getD p undef = .pointer (some ⟨g, 0, none⟩)) (hg : w.heap[g]? = some (.cells cs t fr))
    (hu : P.underlying ty = some d) (hd : (match d with | .struct _ | .array _ _ => true | _ => false) = true) (hi : (P.info? ty).map (·.size) = some cs.size) :
    (results fn tmps).run P w = .ok (.tuple #[.agg cs, tmps.getD u undef]) w := by
  have hp' : tmps[p]?.getD undef = .pointer (some ⟨g, 0, none⟩) := by simpa using hp
  simp [results, h, hp', asAddr, run_loadVar_row w g t ty cs fr d hg hu hd hi]
def so0 : So := ⟨0, [], []⟩
theorem so0_at (b D : Nat) (w : World) : SAt' (Ow b w) D so0 [.int .i64 0, .slice none 0 0, .slice none 0 0] :=
  ⟨_, _, rfl, ⟨[], ⟨World.ownsRow_nil _ _ _ _, by decide⟩, rfl⟩, ⟨[], ⟨World.ownsRow_nil _ _ _ _, by decide⟩, rfl⟩⟩
theorem slot_moved {w w' : World} {b b' D : Nat} {m : So} {cs : List Value} (hk : ∀ k, b ≤ k → k < w.heap.size → w'.heap[k]? = w.heap[k]?) (hb : b' ≤ b) (h : SAt' (Ow b w) D m cs) : SAt' (Ow b' w') D m cs := sAt.imp (Ow.hi' hk hb) (fun m cs h => MAt.imp (Ow.hi' hk hb) D m cs h) _ _ h
theorem getM_at (m : Mg) (no : Int) : getM m no = m.F[m.F.findIdx (fun a => a.no == no)]? := by
  unfold getM
  exact List.find?_eq_getElem?_findIdx
set_option maxRecDepth 1000000 in
set_option maxHeartbeats 4000000 in
theorem get_any (B D : Nat) (m : Mg) (u : Value) (no : Int) (w : World) (hB : B ≤ w.heap.size) (hm : MRd B w (D + 1) m u) (hcm : m.cnt ≤ 100000000) (b : Nat) (hb : b ≤ w.heap.size) :
    Calls Tryz.prog 25 #[.agg #[u], .int .i64 no] w fun e w' => ∃ x1 x2 x3, e = .returned (.tuple #[.agg #[x1, x2, x3], .bool (getM m no).isSome]) ∧ SAt' (Ow b w') D ((getM m no).getD so0) [x1, x2, x3] ∧ Below w.heap.size w w' := by
  obtain ⟨u', hu, hl⟩ := hm
  simp only [List.cons.injEq, and_true] at hu
  subst hu
  obtain ⟨X1, X2, X3, LBD⟩ := three_boxes w (.cells #[u] 28) (.cells #[.int .i64 no] 3) (.cells #[.int .i64 0, .slice none 0 0, .slice none 0 0] 36)
  have hF := cnt_F m
  have HT := Lib.hid (place_get B D m.F u no (w.heap.size + 1) _ (Nat.le_trans hB LBD.size) (hl.low (Lo.below LBD hB) fun a cs h => SRd.low (Lo.below LBD hB) h) X2)
  obtain ⟨A, c, xs, rfl, hs, hbl, hr, hn⟩ := hl.open_
  have HS := Lib.hid hs
  have HR := Lib.hid hr
  have HBB := Lib.hid hbl
  have hg := getM_at m no
  obtain ⟨at_, hat⟩ : ∃ k, m.F.findIdx (fun a => a.no == no) = k := ⟨_, rfl⟩
  have hle : at_ ≤ m.F.length := by rw [← hat]; exact List.findIdx_le_length
  rw [hat] at HT hg
  clear hl hs hr hbl hat
  go_enter Tryz.func25, Tryz.ntmps25
  go_wp2_with fail
  refine HT.out.mono ?_
  rintro e w1 ⟨rfl, hb1⟩
  have hb01 := below_then LBD hb1
  have y0 := bx1 (box_on X1 hb1)
  have Y3 := box_on X3 hb1
  have hX3 := box_lt X3
  obtain ⟨⟨z0, z1, z2⟩, z3, z4, z5⟩ := wr3 Y3
  by_cases hlt : at_ < m.F.length
  · obtain ⟨s, hs⟩ : ∃ s, m.F[at_]? = some s := ⟨_, List.getElem?_eq_getElem hlt⟩
    rw [hs] at hg
    have HGG := Lib.hid hg
    have hne : ((at_ : Int) == (m.F.length : Int)) = false := by rw [beq_eq_false_iff_ne]; omega
    have hne2 : ¬ at_ = m.F.length := by omega
    obtain ⟨ad, x, y, z, rfl, hga, hcc, c0, c1, c2⟩ := row3 sAt.len (sl_low HS.out HBB.out (Lo.below hb01 hB)) (HR.out.imp fun a cs h => SRd.low (Lo.below hb01 hB) h) hs
    have hx := hcc.head
    subst hx
    have hcs := cS_le (List.mem_of_getElem? hs)
    have HO := Lib.hid (ownSlot_any (own_any9 B D) s y z w1 (Nat.le_trans hB hb01.size) hcc (by omega) w1.heap.size (Nat.le_refl _))
    clear hcc hs hg X1 X2
    go_wp2_with fail
    refine HO.out.mono ?_
    rintro e w2 ⟨x1, x2, x3, rfl, ho, hb2⟩
    have Y4 := box_on Y3 hb2
    have hone := sAt.oneO s _ ho
    have hh := ho.head
    obtain ⟨v1, v2, hv, hk, hvv⟩ := id ho
    simp only [List.cons.injEq, and_true] at hv
    obtain ⟨rfl, rfl, rfl⟩ := hv
    obtain ⟨q1, ⟨hq1, -⟩, -⟩ := hk
    obtain ⟨q2, ⟨hq2, -⟩, -⟩ := hvv
    obtain ⟨A1, c1', rfl, -⟩ := Sl.of_own hq1
    obtain ⟨A2, c2', rfl, -⟩ := Sl.of_own hq2
    clear z0 z1 z2 z3 z4 z5 hq1 hq2 c0 c1 c2
    obtain ⟨⟨z0, z1, z2⟩, z3, z4, z5⟩ := wr3 Y4
    go_wp2
    obtain ⟨Z1, Z2⟩ := three_set Y4 (.int .i64 s.no) (.slice A1 s.K.length c1') (.slice A2 s.V.length c2')
    have hhi := hi_grown Z2 (Nat.lt_of_lt_of_le hX3 hb1.size)
    have hb5 := (below_then hb01 hb2).trans (below_own Z2 (show w.heap.size ≤ w.heap.size + 2 by omega) (Nat.le_trans hb01.size hb2.size))
    refine bodyPost_ret (results_pair rfl _ _ (w.heap.size + 2) _ _ (0, 0) _ rfl Z1 Tryz.underlying36 rfl sz_slot) rfl ?_
    rw [HGG.out]
    exact ⟨_, _, _, rfl, slot_moved hhi (Nat.le_trans hb hb01.size) ho, hb5⟩
  · obtain rfl : at_ = m.F.length := by omega
    have hno : m.F[m.F.length]? = none := by simp
    rw [hno] at hg
    have HGG := Lib.hid hg
    clear hg hno X1 X2
    go_wp2
    obtain ⟨Z1, Z2⟩ := three_set Y3 (.int .i64 0) (.slice none 0 0) (.slice none 0 0)
    have hb5 := hb01.trans (below_own Z2 (show w.heap.size ≤ w.heap.size + 2 by omega) hb01.size)
    refine bodyPost_ret (results_pair rfl _ _ (w.heap.size + 2) _ _ (0, 0) _ rfl Z1 Tryz.underlying36 rfl sz_slot) rfl ?_
    rw [HGG.out]
    exact ⟨_, _, _, rfl, so0_at _ _ _, hb5⟩
def lessV (a b : Vl') : Bool := if a.n = b.n then Op.bytesLess a.s b.s else decide (a.n < b.n)
set_option maxRecDepth 1000000 in
set_option maxHeartbeats 4000000 in
theorem less_any (a b : Vl') (u1 u2 : Value) (w : World) :
    Calls Tryz.prog 23 #[.agg #[.int .i64 a.n, .string (tx a.s), u1], .agg #[.int .i64 b.n, .string (tx b.s), u2]] w fun e w' => e = .returned (.bool (lessV a b)) ∧ Below w.heap.size w w' := by
  unfold lessV
  obtain ⟨n1, hn1⟩ : ∃ n, a.n = n := ⟨_, rfl⟩
  obtain ⟨n2, hn2⟩ : ∃ n, b.n = n := ⟨_, rfl⟩
  obtain ⟨s1, hs1⟩ : ∃ n, a.s = n := ⟨_, rfl⟩
  obtain ⟨s2, hs2⟩ : ∃ n, b.s = n := ⟨_, rfl⟩
  rw [hn1, hn2, hs1, hs2]
  clear hn1 hn2 hs1 hs2
  obtain ⟨X1, X2, LBD⟩ := two_boxes w (.cells #[.int .i64 n1, .string (tx s1), u1] 31) (.cells #[.int .i64 n2, .string (tx s2), u2] 31)
  by_cases hn : n1 = n2
  · subst hn
    rw [if_pos rfl]
    go_enter Tryz.func23, Tryz.ntmps23
    go_wp2
    go_ret
    have e1 : (tx s1).toList = s1 := by rw [ByteArray.toList_eq, tx_list]
    have e2 : (tx s2).toList = s2 := by rw [ByteArray.toList_eq, tx_list]
    exact ⟨by rw [e1, e2]; rfl, LBD⟩
  · rw [if_neg hn]
    go_enter Tryz.func23, Tryz.ntmps23
    go_wp2
    go_ret
    exact ⟨by rfl, LBD⟩
end Go.Proofs.YtjmcpfckcajnjaaGreatDoor.T9
/-
  The chapter's example: the laws' own awake.
-/
namespace Go.Proofs.YtjmcpfckcajnjaaGreatDoor.T9
set_option maxRecDepth 100000

open Go.RowKit

def ex9 : So := ⟨3, [], [⟨1, [], []⟩, ⟨2, [], []⟩]⟩
theorem ex9_set : setM (.mk []) ex9 = .mk [ex9] := by
  unfold setM
  rw [if_neg (by simp [ex9])]
  rfl
theorem ex9_dS : dS ex9 = 0 := by decide
theorem ex9_zS : zS ex9 = 2 := by decide
theorem ex9_cS : cS ex9 = 3 := by decide
theorem ex9_deep : (Mg.mk [ex9]).deep = 1 := by
  rw [Mg.deep_eq]
  show 1 + mx [dS ex9] = 1
  rw [ex9_dS]
  rfl
theorem ex9_size : (Mg.mk [ex9]).size = 2 := by
  rw [Mg.size_eq]
  show sm [zS ex9] = 2
  rw [ex9_zS]
  rfl
theorem ex9_cnt : (Mg.mk [ex9]).cnt = 3 := by
  rw [Mg.cnt_eq]
  show sm [cS ex9] = 3
  rw [ex9_cS]
  rfl
theorem cnt_none : (Mg.mk []).cnt = 0 := by rw [Mg.cnt_eq]; rfl
theorem ex9_get : getM (.mk [ex9]) 3 = some ex9 := rfl
theorem none_at (B : Nat) (w : World) (D : Nat) : MRd B w (D + 1) (.mk []) (.slice none 0 0) := ⟨_, rfl, [], ⟨Rr.nil _ _ _, by decide⟩, rfl⟩
theorem ex9_at (w : World) (D : Nat) (e : Array Value) (he : e = #[.int .i64 1, .string ⟨#[]⟩, .slice none 0 0, .int .i64 2, .string ⟨#[]⟩, .slice none 0 0]) :
    SAt' (Rd (w.alloc (.cells e 31)).heap.size (w.alloc (.cells e 31))) D ex9 [.int .i64 3, .slice none 0 0, .slice (some ⟨w.heap.size, 0, none⟩) 2 2] := by
  subst he
  refine ⟨_, _, rfl, ⟨[], ⟨Rr.nil _ _ _, by decide⟩, rfl⟩, [.int .i64 1, .string ⟨#[]⟩, .slice none 0 0, .int .i64 2, .string ⟨#[]⟩, .slice none 0 0], ⟨⟨some ⟨w.heap.size, 0, none⟩, 2, rfl, ⟨rfl, by decide, by decide, by simp, fun ad ha _ => ?_, fun ad ha k u hu => ?_⟩, fun ad ha _ => ?_⟩, by decide⟩, ⟨[.int .i64 1, .string ⟨#[]⟩, .slice none 0 0], _, rfl, ⟨_, rfl, [], ⟨Rr.nil _ _ _, by decide⟩, rfl⟩, [.int .i64 2, .string ⟨#[]⟩, .slice none 0 0], [], rfl, ⟨_, rfl, [], ⟨Rr.nil _ _ _, by decide⟩, rfl⟩, rfl⟩⟩
  · obtain rfl := Option.some.inj ha
    simp
  · obtain rfl := Option.some.inj ha
    rw [Addr.add_lit, World.cell?_alloc_at _ _ _ _ rfl]
    simpa using hu
  · obtain rfl := Option.some.inj ha
    simp
end Go.Proofs.YtjmcpfckcajnjaaGreatDoor.T9
/-
  The document's own: a slot's values, those of K first.
-/
namespace Go.Proofs.YtjmcpfckcajnjaaGreatDoor.T9
set_option maxRecDepth 100000

open Go.RowKit

theorem below_app {w w' : World} {B : Nat} {e : TypeId} {size : Nat} {v : Value} {n : Nat} {xs : List Value} (h : w.ownsRow B e size v n xs) (hg : w.grownBy w' v.ownBlock) (hs : B ≤ w.heap.size) : Below B w w' := below_rows h hg hs
theorem none_sl (w : World) (size : Nat) : Sl w none 0 0 size [] := Sl.nothing w size
set_option maxRecDepth 1000000 in
set_option maxHeartbeats 4000000 in
theorem both_any (B d : Nat) (s : So) (u1 u2 : Value) (w : World) (hB : B ≤ w.heap.size) (hs : SAt' (Rd B w) d s [.int .i64 s.no, u1, u2]) (hk : s.K.length ≤ 1000000000) (hv : s.V.length ≤ 1000000000) :
    Calls Tryz.prog 77 #[.agg #[.int .i64 s.no, u1, u2]] w fun e w' => ∃ v xs, e = .returned v ∧ w'.ownsRow w.heap.size 31 3 v (s.K ++ s.V).length xs ∧ Rows (VAt (Rd B w') d) (s.K ++ s.V) xs ∧ Below w.heap.size w w' := by
  obtain ⟨i0, hi, hz0, hz1, hz2⟩ := info_parts info_val
  obtain ⟨u1', u2', hu, hlk, hlv⟩ := hs
  simp only [List.cons.injEq, and_true, true_and] at hu
  obtain ⟨rfl, rfl⟩ := hu
  obtain ⟨A1, c1, xs1, rfl, hs1, hb1, hr1, -⟩ := hlk.open_
  obtain ⟨A2, c2, xs2, rfl, hs2, hb2, hr2, -⟩ := hlv.open_
  have hbw := below_new w (.cells #[.int .i64 s.no, .slice A1 s.K.length c1, .slice A2 s.V.length c2] 36)
  have X1 := heap_alloc_new w (.cells #[.int .i64 s.no, .slice A1 s.K.length c1, .slice A2 s.V.length c2] 36)
  have hlt := box_lt X1
  have hs1' := sl_low hs1 hb1 (Lo.below hbw hB)
  have h11 := Rows.one vAt.one hr1
  have h12 := Rows.one vAt.one hr2
  have HR1 := Lib.hid hr1
  have HR2 := Lib.hid hr2
  have HS2 := Lib.hid hs2
  clear hr1 hr2 hs1 hs2 hlk hlv
  obtain ⟨p0, p1, p2⟩ := bx3 X1
  go_enter Tryz.func77, Tryz.ntmps77
  go_wp2_with (at_builtin; first
    | (refine wpList_app_sl rfl _ _ 34 rfl w.heap.size 31 i0 (.agg #[.int .i64 0, .string ⟨#[]⟩, .slice none 0 0]) 3 48 Tryz.underlying34 hi hz0 hz1 hz2 rfl (by omega) (.slice none 0 0) 0 [] rfl (World.ownsRow_nil _ _ _ _) A1 s.K.length c1 xs1 rfl hs1' h11 (by unfold maxLen; omega) (by omega) hbw.size ?_; intro v2 w2 hown2 hg2
       have Y1 := (hg2.block w.heap.size hlt (by simp [Value.ownBlock])).trans X1
       have q2 := (bx3 Y1).2.2
       have hb02 := hbw.trans (below_own (g := w2.heap.size + w.heap.size) ⟨hg2.os, hg2.tape, hg2.output, hg2.size, fun k hk _ => hg2.block k hk (by simp [Value.ownBlock])⟩ (by omega) hbw.size)
       have hs2' := sl_low HS2.out hb2 (Lo.below hb02 hB)
       rw [Nat.zero_add] at hown2)
    | (refine wpList_app_sl rfl _ _ 34 rfl w.heap.size 31 i0 (.agg #[.int .i64 0, .string ⟨#[]⟩, .slice none 0 0]) 3 48 Tryz.underlying34 hi hz0 hz1 hz2 rfl (by omega) _ s.K.length _ rfl hown2 A2 s.V.length c2 xs2 rfl hs2' h12 (by unfold maxLen; omega) (by omega) hb02.size ?_; intro v3 w3 hown3 hg3))
  go_ret
  have hb03 := hb02.trans (below_app hown2 hg3 hb02.size)
  refine ⟨_, _, rfl, by rw [List.length_append]; exact hown3, ?_, hb03⟩
  exact ((HR1.out.imp fun a cs h => VRd.low (Lo.below hb03 hB) h).append (HR2.out.imp fun a cs h => VRd.low (Lo.below hb03 hB) h))
end Go.Proofs.YtjmcpfckcajnjaaGreatDoor.T9
/-
  The document's own: is a tree not too great (truffleref09.Few)?
-/
namespace Go.Proofs.YtjmcpfckcajnjaaGreatDoor.T9
set_option maxRecDepth 100000

open Go.RowKit

def cS' (s : So) : Nat := sm ((s.K ++ s.V).map cV)
def cV' (v : Vl') : Nat := sm (v.M.map fun x => 1 + x.cnt)
theorem cS_eq (s : So) : cS s = 1 + cS' s := by unfold cS cS'; rw [List.map_append, sm_append]
theorem cV_eq (v : Vl') : cV v = 1 + cV' v := rfl
theorem cnt_split (m : Mg) : m.cnt = m.F.length + sm (m.F.map cS') := by
  rw [m.cnt_eq, ← sm_one m.F, ← sm_add]
  exact sm_congr fun s _ => cS_eq s
theorem cS_split (s : So) : cS' s = (s.K ++ s.V).length + sm ((s.K ++ s.V).map cV') := by
  unfold cS'
  rw [← sm_one (s.K ++ s.V), ← sm_add]
  exact sm_congr fun v _ => cV_eq v
theorem cV_split (v : Vl') : cV' v = v.M.length + sm (v.M.map Mg.cnt) := by
  unfold cV'
  rw [← sm_one v.M, ← sm_add]
/-- No message of these is deeper. -/
def DpV (d : Nat) (v : Vl') : Prop := ∀ x ∈ v.M, x.deep + 1 ≤ d
def DpS (d : Nat) (s : So) : Prop := ∀ v ∈ s.K ++ s.V, DpV d v
theorem deep_of {m : Mg} {d : Nat} (hd : 1 ≤ d) (h : ∀ s ∈ m.F, DpS d s) : m.deep ≤ d := by
  rw [m.deep_eq]
  have h1 : mx (m.F.map dS) ≤ d - 1 := by
    refine mx_le fun y hy => ?_
    obtain ⟨s, hs, rfl⟩ := List.mem_map.1 hy
    have h2 : ∀ v ∈ s.K ++ s.V, dV v ≤ d - 1 := fun v hv => by
      refine mx_le fun z hz => ?_
      obtain ⟨x, hx, rfl⟩ := List.mem_map.1 hz
      have := h s hs v hv x hx
      omega
    have h3 : mx (s.K.map dV) ≤ d - 1 := mx_le fun z hz => by
      obtain ⟨v, hv, rfl⟩ := List.mem_map.1 hz
      exact h2 v (List.mem_append.2 (.inl hv))
    have h4 : mx (s.V.map dV) ≤ d - 1 := mx_le fun z hz => by
      obtain ⟨v, hv, rfl⟩ := List.mem_map.1 hz
      exact h2 v (List.mem_append.2 (.inr hv))
    unfold dS
    omega
  omega
/-- How great a number is told at most. -/
def NB (d : Nat) : Nat := 20000000000000 + 10000 * d
/-- What is told so far: at least as many, unless it is too many already. -/
def So1 (m : Mg) (d i N : Nat) : Prop := N ≤ 3000 → m.F.length + sm ((m.F.take i).map cS') ≤ N ∧ ∀ s ∈ m.F.take i, DpS d s
def So2 (m : Mg) (d i : Nat) (L : List Vl') (k N : Nat) : Prop := N ≤ 3000 → (m.F.length + sm ((m.F.take i).map cS') + L.length + sm ((L.take k).map cV') ≤ N ∧ ∀ s ∈ m.F.take i, DpS d s) ∧ ∀ v ∈ L.take k, DpV d v
def So3 (m : Mg) (d i : Nat) (L : List Vl') (k : Nat) (M : List Mg) (j N : Nat) : Prop := N ≤ 3000 → ((m.F.length + sm ((m.F.take i).map cS') + L.length + sm ((L.take k).map cV') + M.length + sm ((M.take j).map Mg.cnt) ≤ N ∧ ∀ s ∈ m.F.take i, DpS d s) ∧ ∀ v ∈ L.take k, DpV d v) ∧ ∀ x ∈ M.take j, x.deep + 1 ≤ d
theorem mem_take_next {α : Type} {l : List α} {k : Nat} {a x : α} (h : l[k]? = some a) (hx : x ∈ l.take (k + 1)) : x ∈ l.take k ∨ x = a := by
  rw [List.take_add_one, h] at hx
  simpa using hx
theorem So3.next {m : Mg} {d i : Nat} {L : List Vl'} {k : Nat} {M : List Mg} {j N c : Nat} {x : Mg} (h : So3 m d i L k M j N) (hN : N ≤ 3000) (hx : M[j]? = some x) (hc : c ≤ 3000 → x.cnt ≤ c ∧ x.deep ≤ d - 1) (hd : 1 ≤ d) : So3 m d i L k M (j + 1) (N + c) := fun hn => by
  obtain ⟨⟨⟨h1, h2⟩, h3⟩, h4⟩ := h hN
  obtain ⟨h5, h6⟩ := hc (by omega)
  refine ⟨⟨⟨?_, h2⟩, h3⟩, fun y hy => ?_⟩
  · rw [sm_take_next Mg.cnt hx]; omega
  · rcases mem_take_next hx hy with hy | rfl
    · exact h4 y hy
    · omega
theorem So3.start {m : Mg} {d i : Nat} {L : List Vl'} {k : Nat} {M : List Mg} {N : Nat} (h : So2 m d i L k N) (hN : N ≤ 3000) : So3 m d i L k M 0 (N + M.length) := fun hn => by
  obtain ⟨⟨h1, h2⟩, h3⟩ := h hN
  exact ⟨⟨⟨by simp only [List.take_zero, List.map_nil, sm]; omega, h2⟩, h3⟩, fun y hy => by simp at hy⟩
theorem So3.done {m : Mg} {d i : Nat} {L : List Vl'} {k : Nat} {v : Vl'} {j N : Nat} (h : So3 m d i L k v.M j N) (hv : L[k]? = some v) (hj : N ≤ 3000 → j = v.M.length) : So2 m d i L (k + 1) N := fun hn => by
  obtain ⟨⟨⟨h1, h2⟩, h3⟩, h4⟩ := h hn
  obtain rfl := hj hn
  rw [List.take_length] at h1 h4
  refine ⟨⟨?_, h2⟩, fun y hy => ?_⟩
  · rw [sm_take_next cV' hv, cV_split v]; omega
  · rcases mem_take_next hv hy with hy | rfl
    · exact h3 y hy
    · exact h4
theorem So2.start {m : Mg} {d i : Nat} {L : List Vl'} {N : Nat} (h : So1 m d i N) (hN : N ≤ 3000) : So2 m d i L 0 (N + L.length) := fun hn => by
  obtain ⟨h1, h2⟩ := h hN
  exact ⟨⟨by simp only [List.take_zero, List.map_nil, sm]; omega, h2⟩, fun y hy => by simp at hy⟩
theorem So2.done {m : Mg} {d i : Nat} {s : So} {k N : Nat} (h : So2 m d i (s.K ++ s.V) k N) (hs : m.F[i]? = some s) (hk : N ≤ 3000 → k = (s.K ++ s.V).length) : So1 m d (i + 1) N := fun hn => by
  obtain ⟨⟨h1, h2⟩, h3⟩ := h hn
  obtain rfl := hk hn
  rw [List.take_length] at h1 h3
  refine ⟨?_, fun y hy => ?_⟩
  · rw [sm_take_next cS' hs, cS_split s]; omega
  · rcases mem_take_next hs hy with hy | rfl
    · exact h2 y hy
    · exact h3
theorem So1.start (m : Mg) (d : Nat) : So1 m d 0 m.F.length := fun _ => ⟨by simp [sm], fun y hy => by simp at hy⟩
theorem So1.done {m : Mg} {d i N : Nat} (h : So1 m d i N) (hi : N ≤ 3000 → i = m.F.length) (hd : 1 ≤ d) : N ≤ 3000 → m.cnt ≤ N ∧ m.deep ≤ d := fun hn => by
  obtain ⟨h1, h2⟩ := h hn
  obtain rfl := hi hn
  rw [List.take_length] at h1 h2
  exact ⟨by rw [cnt_split]; exact h1, deep_of hd h2⟩
end Go.Proofs.YtjmcpfckcajnjaaGreatDoor.T9
/-
  The document's own count of a tree, and whether it is not too great (truffleref09.count, Few).
-/
namespace Go.Proofs.YtjmcpfckcajnjaaGreatDoor.T9
set_option maxRecDepth 100000

open Go.RowKit

/-- count, of messages within so many levels. -/
def CountH (B D : Nat) : Prop := ∀ (m : Mg) (u : Value) (d : Nat) (w : World), B ≤ w.heap.size → MRd B w D m u → d ≤ 1000 → Calls Tryz.prog 53 #[.agg #[u], .int .i64 d] w fun e w' => ∃ n : Nat, e = .returned (.int .i64 n) ∧ n ≤ NB d ∧ (n ≤ 3000 → m.cnt ≤ n ∧ m.deep ≤ d) ∧ Below w.heap.size w w'
set_option maxRecDepth 1000000 in
set_option maxHeartbeats 8000000 in
theorem count_step {B D : Nat} (H : CountH B D) : CountH B (D + 1) := by
  rintro m u d w hB ⟨u', hu, hl⟩ hd
  simp only [List.cons.injEq, and_true] at hu
  subst hu
  obtain ⟨A, c, xs, rfl, hs, hbl, hr, hn⟩ := hl.open_
  have X1 := heap_alloc_new w (.cells #[.slice A m.F.length c] 28)
  have LBD := below_new w (.cells #[.slice A m.F.length c] 28)
  have HS := Lib.hid hs
  have HR := Lib.hid hr
  have HBB := Lib.hid hbl
  have HH := Lib.hid H
  clear hs hr hl hbl H
  by_cases hd0 : d = 0
  · subst hd0
    go_enter Tryz.func53, Tryz.ntmps53
    go_wp2
    go_ret
    exact ⟨10000, rfl, by unfold NB; omega, fun h => by omega, LBD⟩
  · have hd1 : 1 ≤ d := by omega
    have hdl : decide ((d : Int) ≤ 0) = false := by rw [decide_eq_false_iff_not]; omega
    by_cases hF : m.F.length ≤ 3000
    · have hfl : decide ((3000 : Int) < (m.F.length : Int)) = false := by rw [decide_eq_false_iff_not]; omega
      have hfl2 : decide (3000 < m.F.length) = false := by rw [decide_eq_false_iff_not]; omega
      clear hd0
      go_enter Tryz.func53, Tryz.ntmps53
      go_wp2
      obtain ⟨W0, hW0⟩ : ∃ W, W = w.alloc (.cells #[.slice A m.F.length c] 28) := ⟨_, rfl⟩
      rw [← hW0] at X1 LBD ⊢
      have hX := box_lt X1
      clear hW0
      go_loopw [5, 6, 7, 8, 9] (fun n i l k j wr => ∃ (p N : Nat), i = .int .i64 p ∧ p ≤ m.F.length ∧ n = .int .i64 N ∧ N ≤ NB d ∧ So1 m d p N ∧ Below W0.heap.size W0 wr) (fun _ i _ _ _ _ => m.F.length - (intOf i).toNat)
      case atStart => exact ⟨0, m.F.length, rfl, by omega, rfl, by unfold NB; omega, So1.start m d, Below.refl _ _⟩
      case round =>
        obtain ⟨p, N, rfl, hp, rfl, hNB, hso, hbw⟩ := hrel
        have HSO := Lib.hid hso
        have g0 := bx1 (box_on X1 hbw)
        have HBW := Lib.hid (LBD.trans (hbw.mono LBD.size))
        clear hso
        by_cases hlt : p < m.F.length
        · by_cases hN : N ≤ 3000
          · have hN3 : decide ((N : Int) ≤ 3000) = true := by rw [decide_eq_true_iff]; omega
            have hN4 : decide (N ≤ 3000) = true := by rw [decide_eq_true_iff]; omega
            obtain ⟨s, hs⟩ : ∃ s, m.F[p]? = some s := ⟨_, List.getElem?_eq_getElem hlt⟩
            obtain ⟨ad, x, y, z, rfl, hga, hcc, c0, c1, c2⟩ := row3 sAt.len (sl_low HS.out HBB.out (Lo.below HBW.out hB)) (HR.out.imp fun a cs h => SRd.low (Lo.below HBW.out hB) h) hs
            have HCC := Lib.hid hcc
            obtain ⟨u1, u2, hu, hlk, hlv⟩ := hcc
            simp only [List.cons.injEq, and_true] at hu
            obtain ⟨rfl, rfl, rfl⟩ := hu
            obtain ⟨AK, cK, xsK, rfl, -⟩ := hlk.open_
            obtain ⟨AV, cV_, xsV, rfl, -⟩ := hlv.open_
            have HSs := Lib.hid hs
            clear hlk hlv hs
            by_cases hK : s.K.length ≤ 3000
            · have hK1 : decide ((3000 : Int) < (s.K.length : Int)) = false := by rw [decide_eq_false_iff_not]; omega
              have hK2 : decide (3000 < s.K.length) = false := by rw [decide_eq_false_iff_not]; omega
              by_cases hV : s.V.length ≤ 3000
              · have hV1 : decide ((3000 : Int) < (s.V.length : Int)) = false := by rw [decide_eq_false_iff_not]; omega
                have hV2 : decide (3000 < s.V.length) = false := by rw [decide_eq_false_iff_not]; omega
                have HB7 := Lib.hid (both_any B D s _ _ wr (Nat.le_trans hB HBW.out.size) HCC.out (by omega) (by omega))
                have HLL := Lib.hid (show (s.K ++ s.V).length ≤ 6000 by rw [List.length_append]; omega)
                go_wp2_with fail
                refine HB7.out.mono ?_
                rintro e w2 ⟨v7, ys, rfl, ho7, hr7, hb2⟩
                have HSO2 := Lib.hid (fun q M => @So2.done m d p s q M)
                have HST := Lib.hid (So2.start (L := s.K ++ s.V) HSO.out hN)
                obtain ⟨L, hL⟩ : ∃ L, s.K ++ s.V = L := ⟨_, rfl⟩
                rw [hL] at ho7 hr7 HSO2 HST HLL
                obtain ⟨A7, c7, rfl, hs7⟩ := Sl.of_own ho7
                have HS7 := Lib.hid hs7
                have HR7 := Lib.hid hr7
                have HB2 := Lib.hid (below_then HBW.out hb2)
                have HB3 := Lib.hid (below_then hbw hb2)
                have hll := HLL.out
                have hw1 : IntKind.i64.wrap ((N : Int) + (L.length : Int)) = ((N + L.length : Nat) : Int) := by rw [IntKind.wrap_i64]; omega
                have hn2 : N + L.length ≤ NB d := by unfold NB; omega
                clear ho7 hr7 hs7 hL hb2 g0 c0 c1 c2 hK hK1 hK2 hV hV1 hV2 hbw hN3 hN4 HB7
                go_wp2
                go_loopw [5, 8, 9] (fun n k j wx => ∃ (q M : Nat), k = .int .i64 q ∧ q ≤ L.length ∧ n = .int .i64 M ∧ M ≤ NB d ∧ So2 m d p L q M ∧ Below w2.heap.size w2 wx) (fun _ k _ _ => L.length - (intOf k).toNat)
                case atStart => exact ⟨0, N + L.length, rfl, by omega, by go_num, hn2, HST.out, Below.refl _ _⟩
                case round =>
                  obtain ⟨q, M, rfl, hq, rfl, hMB, hso2, hbx⟩ := hrel
                  have HSOX := Lib.hid hso2
                  clear hso2
                  by_cases hql : q < L.length
                  · by_cases hM : M ≤ 3000
                    · have hM3 : decide ((M : Int) ≤ 3000) = true := by rw [decide_eq_true_iff]; omega
                      have hM4 : decide (M ≤ 3000) = true := by rw [decide_eq_true_iff]; omega
                      obtain ⟨v, hv⟩ : ∃ v, L[q]? = some v := ⟨_, List.getElem?_eq_getElem hql⟩
                      obtain ⟨a7, x, y, z, rfl, hga7, hcc, c0, c1, c2⟩ := row3 vAt.len (HS7.out.on hbx) (HR7.out.imp fun a cs h => VRd.low (Lo.below hbx (Nat.le_trans hB HB2.out.size)) h) hv
                      obtain ⟨um, hu, hlm⟩ := hcc
                      simp only [List.cons.injEq, and_true] at hu
                      obtain ⟨rfl, rfl, rfl⟩ := hu
                      obtain ⟨AM, cM, xsM, rfl, hsM, hbM, hrM, hnM⟩ := hlm.open_
                      have HSM := Lib.hid hsM
                      have HRM := Lib.hid hrM
                      have HBM := Lib.hid hbM
                      have HVV := Lib.hid hv
                      have HST3 := Lib.hid (So3.start (M := v.M) HSOX.out hM)
                      have HBX := Lib.hid hbx
                      have hw3 : IntKind.i64.wrap ((M : Int) + (v.M.length : Int)) = ((M + v.M.length : Nat) : Int) := by rw [IntKind.wrap_i64]; omega
                      have hn3 : M + v.M.length ≤ NB d := by unfold NB; omega
                      have C2 := Lib.hid c2
                      have hlt7 : a7.block < wr.heap.size := hga7
                      clear hsM hrM hbM hlm hv c0 c1 hbx
                      go_wp2
                      go_loopw [5, 9] (fun n j wy => ∃ (t M3 : Nat), j = .int .i64 t ∧ t ≤ v.M.length ∧ n = .int .i64 M3 ∧ M3 ≤ NB d ∧ So3 m d p L q v.M t M3 ∧ Below wr.heap.size wr wy) (fun _ j _ => v.M.length - (intOf j).toNat)
                      case atStart => exact ⟨0, M + v.M.length, rfl, by omega, by go_num, hn3, HST3.out, Below.refl _ _⟩
                      case round =>
                        obtain ⟨t, M3, rfl, ht, rfl, hM3B, hso3, hby⟩ := hrel
                        have HSO3 := Lib.hid hso3
                        have k2 := cell_on hby C2.out
                        clear hso3 c2
                        by_cases htl : t < v.M.length
                        · by_cases hM5 : M3 ≤ 3000
                          · have hM6 : decide ((M3 : Int) ≤ 3000) = true := by rw [decide_eq_true_iff]; omega
                            have hM7 : decide (M3 ≤ 3000) = true := by rw [decide_eq_true_iff]; omega
                            obtain ⟨x, hx⟩ : ∃ x, v.M[t]? = some x := ⟨_, List.getElem?_eq_getElem htl⟩
                            obtain ⟨am, ux, rfl, hgam, hcx, k0⟩ := row1 MAt.len (sl_low HSM.out HBM.out (Lo.below hby (Nat.le_trans hB (Nat.le_trans HB2.out.size HBX.out.size)))) (HRM.out.imp fun a cs h => MRd.low (Lo.below hby (Nat.le_trans hB (Nat.le_trans HB2.out.size HBX.out.size))) h) hx
                            have HCX := Lib.hid (HH.out x ux (d - 1) wr (Nat.le_trans hB (Nat.le_trans HB2.out.size (Nat.le_trans HBX.out.size hby.size))) hcx (by omega))
                            have hw4 : IntKind.i64.wrap ((d : Int) - 1) = ((d - 1 : Nat) : Int) := by rw [IntKind.wrap_i64]; omega
                            have HX := Lib.hid hx
                            have HBY := Lib.hid hby
                            clear hcx hx hby
                            go_wp2_with (go_at_call 53; refine HCX.out.mono ?_; rintro e w9 ⟨cn, rfl, hcn, hcf, hb9⟩; have hw5 : IntKind.i64.wrap ((M3 : Int) + (cn : Int)) = ((M3 + cn : Nat) : Int) := (by unfold NB at hcn; rw [IntKind.wrap_i64]; omega))
                            refine ⟨⟨t + 1, M3 + cn, by go_num, by omega, by go_num, by unfold NB at hcn ⊢; omega, So3.next HSO3.out hM5 HX.out (fun h => hcf h) hd1, HBY.out.trans (hb9.mono HBY.out.size)⟩, by simp [intOf]; omega⟩
                          · have hM6 : decide ((M3 : Int) ≤ 3000) = false := by rw [decide_eq_false_iff_not]; omega
                            have hM7 : decide (M3 ≤ 3000) = false := by rw [decide_eq_false_iff_not]; omega
                            go_wp2
                            exact ⟨⟨q + 1, M3, by go_num, by omega, rfl, hM3B, So3.done HSO3.out HVV.out (fun h => absurd h hM5), HBX.out.trans (hby.mono HBX.out.size)⟩, by simp [intOf]; omega⟩
                        · obtain rfl : t = v.M.length := by omega
                          go_wp2
                          exact ⟨⟨q + 1, M3, by go_num, by omega, rfl, hM3B, So3.done HSO3.out HVV.out (fun _ => rfl), HBX.out.trans (hby.mono HBX.out.size)⟩, by simp [intOf]; omega⟩
                    · have hM6 : decide ((M : Int) ≤ 3000) = false := by rw [decide_eq_false_iff_not]; omega
                      have hM7 : decide (M ≤ 3000) = false := by rw [decide_eq_false_iff_not]; omega
                      go_wp2
                      exact ⟨⟨p + 1, M, by go_num, by omega, rfl, hMB, HSO2.out q M HSOX.out HSs.out (fun h => absurd h hM), HB3.out.trans (hbx.mono HB3.out.size)⟩, by simp [intOf]; omega⟩
                  · obtain rfl : q = L.length := by omega
                    go_wp2
                    exact ⟨⟨p + 1, M, by go_num, by omega, rfl, hMB, HSO2.out _ M HSOX.out HSs.out (fun _ => rfl), HB3.out.trans (hbx.mono HB3.out.size)⟩, by simp [intOf]; omega⟩
              · have hV1 : decide ((3000 : Int) < (s.V.length : Int)) = true := by rw [decide_eq_true_iff]; omega
                have hV2 : decide (3000 < s.V.length) = true := by rw [decide_eq_true_iff]; omega
                go_wp2
                go_ret
                exact ⟨10000, rfl, by unfold NB; omega, fun h => by omega, HBW.out⟩
            · have hK1 : decide ((3000 : Int) < (s.K.length : Int)) = true := by rw [decide_eq_true_iff]; omega
              have hK2 : decide (3000 < s.K.length) = true := by rw [decide_eq_true_iff]; omega
              go_wp2
              go_ret
              exact ⟨10000, rfl, by unfold NB; omega, fun h => by omega, HBW.out⟩
          · have hN3 : decide ((N : Int) ≤ 3000) = false := by rw [decide_eq_false_iff_not]; omega
            have hN4 : decide (N ≤ 3000) = false := by rw [decide_eq_false_iff_not]; omega
            go_wp2
            go_ret
            exact ⟨N, rfl, hNB, So1.done HSO.out (fun h => absurd h hN) hd1, HBW.out⟩
        · obtain rfl : p = m.F.length := by omega
          go_wp2
          go_ret
          exact ⟨N, rfl, hNB, So1.done HSO.out (fun _ => rfl) hd1, HBW.out⟩
    · have hfl : decide ((3000 : Int) < (m.F.length : Int)) = true := by rw [decide_eq_true_iff]; omega
      have hfl2 : decide (3000 < m.F.length) = true := by rw [decide_eq_true_iff]; omega
      clear hd0
      go_enter Tryz.func53, Tryz.ntmps53
      go_wp2
      go_ret
      exact ⟨10000, rfl, by unfold NB; omega, fun h => by omega, LBD⟩
/-- truffleref09.count, of any message. -/
theorem count_any (B : Nat) : ∀ D, CountH B D
  | 0 => fun _ _ _ _ _ h _ => h.elim
  | D + 1 => count_step (count_any B D)
end Go.Proofs.YtjmcpfckcajnjaaGreatDoor.T9
/-
  Is a tree not too great: the document's own Few, and the laws' own few.
-/
namespace Go.Proofs.YtjmcpfckcajnjaaGreatDoor.T9
set_option maxRecDepth 100000

open Go.RowKit

theorem few_one (B D : Nat) (m : Mg) (u : Value) (d : Nat) (w : World) (hB : B ≤ w.heap.size) (hm : MRd B w D m u) (hd : d ≤ 1000) :
    Calls Tryz.prog 28 #[.agg #[u], .int .i64 d] w fun e w' => ∃ r : Bool, e = .returned (.bool r) ∧ (r = true → Fit 3000 d m) ∧ Below w.heap.size w w' := by
  have X1 := heap_alloc_new w (.cells #[u] 28)
  have LBD := below_new w (.cells #[u] 28)
  have HC := Lib.hid (count_any B D m u d _ (Nat.le_trans hB LBD.size) (MRd.low (Lo.below LBD hB) hm) hd)
  clear hm
  have y0 := bx1 X1
  go_enter Tryz.func28, Tryz.ntmps28
  go_wp2_with fail
  refine HC.out.mono ?_
  rintro e w1 ⟨n, rfl, hn, hf, hb1⟩
  have HF := Lib.hid hf
  clear hf
  go_wp2
  go_ret
  exact ⟨_, rfl, fun h => by
    have h1 : n ≤ 3000 := by have h2 := of_decide_eq_true h; omega
    exact ⟨Nat.le_trans (HF.out h1).1 h1, (HF.out h1).2⟩, below_then LBD hb1⟩
end Go.Proofs.YtjmcpfckcajnjaaGreatDoor.T9
/-
  What the laws of layer 9 share: rows that are written out, slots that are set and read.
-/
namespace Go.Proofs.YtjmcpfckcajnjaaGreatDoor.T9
set_option maxRecDepth 100000

open Go.RowKit

/-- A row that is written out. -/
theorem lit_row {w : World} {g B n size : Nat} {xs : List Value} {t : TypeId} {fr : Nat × Nat} (h : w.heap[g]? = some (.cells xs.toArray t fr)) (hl : xs.length = n * size) (hn : n ≤ 1000000) (hB : g < B) (e : TypeId) : Rd B w e size (.slice (some ⟨g, 0, none⟩) n n) n xs := by
  refine ⟨⟨some ⟨g, 0, none⟩, n, rfl, ⟨hl, Nat.le_refl _, by unfold maxLen; omega, by simp, fun ad ha _ => ?_, fun ad ha k u hu => ?_⟩, fun ad ha _ => ?_⟩, by omega⟩
  · obtain rfl := Option.some.inj ha
    exact box_lt h
  · obtain rfl := Option.some.inj ha
    rw [Addr.add_lit, Nat.zero_add, box_cell h]
    simpa using hu
  · obtain rfl := Option.some.inj ha
    exact hB
theorem slot_more {R : RP} {d e : Nat} (h : d ≤ e) {s : So} {cs : List Value} (hs : SAt' R d s cs) : SAt' R e s cs := sAt.imp (fun _ _ _ _ _ h => h) (fun m cs hm => MAt.more h m cs hm) _ _ hs
theorem msg_shape {b D : Nat} {w : World} {m : Mg} {x : Value} (h : MAt (Ow b w) D m [x]) : ∃ A c, x = .slice A m.F.length c := by
  cases D with
  | zero => exact h.elim
  | succ D =>
    obtain ⟨u, hu, xs, ⟨hown, -⟩, -⟩ := h
    obtain rfl : x = u := by simpa using hu
    obtain ⟨A, c, rfl, -⟩ := Sl.of_own hown
    exact ⟨A, c, rfl⟩
theorem rd_shape {B D : Nat} {w : World} {m : Mg} {x : Value} (h : MRd B w D m x) : ∃ A c, x = .slice A m.F.length c := by
  cases D with
  | zero => exact h.elim
  | succ D =>
    obtain ⟨u, hu, hl⟩ := h
    obtain rfl : x = u := by simpa using hu
    obtain ⟨A, c, xs, rfl, -⟩ := hl.open_
    exact ⟨A, c, rfl⟩
theorem slot_shape {B D : Nat} {w : World} {s : So} {x y z : Value} (h : SAt' (Rd B w) D s [x, y, z]) : ∃ A1 c1 A2 c2, x = .int .i64 s.no ∧ y = .slice A1 s.K.length c1 ∧ z = .slice A2 s.V.length c2 := by
  obtain ⟨u1, u2, hu, hk, hv⟩ := h
  simp only [List.cons.injEq, and_true] at hu
  obtain ⟨rfl, rfl, rfl⟩ := hu
  obtain ⟨A1, c1, _, rfl, -⟩ := hk.open_
  obtain ⟨A2, c2, _, rfl, -⟩ := hv.open_
  exact ⟨A1, c1, A2, c2, rfl, rfl, rfl⟩
/-- What is one's own is read. -/
theorem own_rd {b D : Nat} {w : World} {m : Mg} {x : Value} (h : MAt (Ow b w) D m [x]) : MRd w.heap.size w D m x := MAt.imp (fun e size v n xs h => Rd.of_own e size v n xs h) D _ _ h
theorem rd_on {B D : Nat} {w w' : World} {m : Mg} {x : Value} (hb : Below w.heap.size w w') (hB : B ≤ w.heap.size) (h : MRd B w D m x) : MRd B w' D m x := MRd.low (Lo.below hb hB) h
theorem rd_up {D : Nat} {w w' : World} {m : Mg} {x : Value} (hb : Below w.heap.size w w') (h : MRd w.heap.size w D m x) : MRd w'.heap.size w' D m x := MRd.mono hb.size (MRd.low (Lo.below hb (Nat.le_refl _)) h)
theorem srd_up {D : Nat} {w w' : World} {s : So} {cs : List Value} (hb : Below w.heap.size w w') (h : SAt' (Rd w.heap.size w) D s cs) : SAt' (Rd w'.heap.size w') D s cs := SRd.mono hb.size (SRd.low (Lo.below hb (Nat.le_refl _)) h)
/-- A slot without values. -/
def bare9 (no : Int) : So := ⟨no, [], []⟩
theorem bare9_at (B D : Nat) (w : World) (no : Int) : SAt' (Rd B w) D (bare9 no) [.int .i64 no, .slice none 0 0, .slice none 0 0] := ⟨_, _, rfl, ⟨[], ⟨Rr.nil _ _ _, Nat.zero_le _⟩, rfl⟩, ⟨[], ⟨Rr.nil _ _ _, Nat.zero_le _⟩, rfl⟩⟩
theorem bare9_c (no : Int) : cS (bare9 no) = 1 := rfl
/-- Set, where what comes in was read a while ago, and what comes out is read. -/
theorem set_rd (D : Nat) (m : Mg) (s : So) (u u1 u2 : Value) (w : World) (hm : MRd w.heap.size w (D + 1) m u) (hs : SAt' (Rd w.heap.size w) D s [.int .i64 s.no, u1, u2]) (hcm : m.cnt ≤ 10000) (hcs : cS s ≤ 10000) :
    Calls Tryz.prog 26 #[.agg #[u], .agg #[.int .i64 s.no, u1, u2]] w fun e w' => ∃ A c, e = .returned (.agg #[.slice A (setM m s).F.length c]) ∧ MRd w'.heap.size w' (D + 1) (setM m s) (.slice A (setM m s).F.length c) ∧ Below w.heap.size w w' := by
  refine (set_any w.heap.size D m s u u1 u2 w (Nat.le_refl _) hm hs (by omega) (by omega) w.heap.size (Nat.le_refl _)).mono ?_
  rintro e w' ⟨x1, rfl, h1, h2⟩
  obtain ⟨A, c, rfl⟩ := msg_shape h1
  exact ⟨A, c, rfl, own_rd h1, h2⟩
/-- Get, where what comes out is read. -/
theorem get_rd (D : Nat) (m : Mg) (u : Value) (no : Int) (w : World) (hm : MRd w.heap.size w (D + 1) m u) (hcm : m.cnt ≤ 10000) :
    Calls Tryz.prog 25 #[.agg #[u], .int .i64 no] w fun e w' => ∃ A1 c1 A2 c2, e = .returned (.tuple #[.agg #[.int .i64 ((getM m no).getD so0).no, .slice A1 ((getM m no).getD so0).K.length c1, .slice A2 ((getM m no).getD so0).V.length c2], .bool (getM m no).isSome]) ∧
      SAt' (Rd w'.heap.size w') D ((getM m no).getD so0) [.int .i64 ((getM m no).getD so0).no, .slice A1 ((getM m no).getD so0).K.length c1, .slice A2 ((getM m no).getD so0).V.length c2] ∧ Below w.heap.size w w' := by
  refine (get_any w.heap.size D m u no w (Nat.le_refl _) hm (by omega) w.heap.size (Nat.le_refl _)).mono ?_
  rintro e w' ⟨x1, x2, x3, rfl, h1, h2⟩
  have h3 : SAt' (Rd w'.heap.size w') D ((getM m no).getD so0) [x1, x2, x3] := sAt.imp (fun e size v n xs h => Rd.of_own e size v n xs h) (fun m cs h => MAt.imp (fun e size v n xs h => Rd.of_own e size v n xs h) D m cs h) _ _ h1
  obtain ⟨A1, c1, A2, c2, rfl, rfl, rfl⟩ := slot_shape h3
  exact ⟨A1, c1, A2, c2, rfl, h3, h2⟩
/-- A message of slots that are written out. -/
theorem one_rd {D g : Nat} {w : World} {s : So} {x y z : Value} {t : TypeId} {fr : Nat × Nat} (hs : SAt' (Rd w.heap.size w) D s [x, y, z]) (h : w.heap[g]? = some (.cells #[x, y, z] t fr)) : MRd w.heap.size w (D + 1) (.mk [s]) (.slice (some ⟨g, 0, none⟩) 1 1) :=
  ⟨_, rfl, [x, y, z], lit_row (xs := [x, y, z]) h rfl (by decide) (box_lt h) _, Rows.single hs⟩
theorem two_rd {D g : Nat} {w : World} {s s' : So} {x y z x' y' z' : Value} {t : TypeId} {fr : Nat × Nat} (hs : SAt' (Rd w.heap.size w) D s [x, y, z]) (hs' : SAt' (Rd w.heap.size w) D s' [x', y', z']) (h : w.heap[g]? = some (.cells #[x, y, z, x', y', z'] t fr)) : MRd w.heap.size w (D + 1) (.mk [s, s']) (.slice (some ⟨g, 0, none⟩) 2 2) :=
  ⟨_, rfl, [x, y, z, x', y', z'], lit_row (xs := [x, y, z, x', y', z']) h rfl (by decide) (box_lt h) _, (Rows.single hs).append (Rows.single hs')⟩
/-- Messages that are written out. -/
theorem msgs1_rd {D g : Nat} {w : World} {m : Mg} {x : Value} {t : TypeId} {fr : Nat × Nat} (hm : MRd w.heap.size w D m x) (h : w.heap[g]? = some (.cells #[x] t fr)) : LsAt (Rd w.heap.size w) 28 1 (MAt (Rd w.heap.size w) D) [m] (.slice (some ⟨g, 0, none⟩) 1 1) :=
  ⟨[x], lit_row (xs := [x]) h rfl (by decide) (box_lt h) _, Rows.single hm⟩
theorem msgs2_rd {D g : Nat} {w : World} {m m' : Mg} {x x' : Value} {t : TypeId} {fr : Nat × Nat} (hm : MRd w.heap.size w D m x) (hm' : MRd w.heap.size w D m' x') (h : w.heap[g]? = some (.cells #[x, x'] t fr)) : LsAt (Rd w.heap.size w) 28 1 (MAt (Rd w.heap.size w) D) [m, m'] (.slice (some ⟨g, 0, none⟩) 2 2) :=
  ⟨[x, x'], lit_row (xs := [x, x']) h rfl (by decide) (box_lt h) _, (Rows.single hm).append (Rows.single hm')⟩
theorem msgs3_rd {D g : Nat} {w : World} {m m' m'' : Mg} {x x' x'' : Value} {t : TypeId} {fr : Nat × Nat} (hm : MRd w.heap.size w D m x) (hm' : MRd w.heap.size w D m' x') (hm'' : MRd w.heap.size w D m'' x'') (h : w.heap[g]? = some (.cells #[x, x', x''] t fr)) : LsAt (Rd w.heap.size w) 28 1 (MAt (Rd w.heap.size w) D) [m, m', m''] (.slice (some ⟨g, 0, none⟩) 3 3) :=
  ⟨[x, x', x''], lit_row (xs := [x, x', x'']) h rfl (by decide) (box_lt h) _, ((Rows.single hm).append (Rows.single hm')).append (Rows.single hm'')⟩
theorem cnt_one (s : So) : (Mg.mk [s]).cnt = cS s := by rw [Mg.cnt_eq]; show sm [cS s] = _; simp [sm]
theorem cnt_two (s t : So) : (Mg.mk [s, t]).cnt = cS s + cS t := by rw [Mg.cnt_eq]; show sm [cS s, cS t] = _; simp [sm]
theorem size_one (s : So) : (Mg.mk [s]).size = zS s := by rw [Mg.size_eq]; show sm [zS s] = _; simp [sm]
theorem deep_one (s : So) : (Mg.mk [s]).deep = 1 + dS s := by rw [Mg.deep_eq]; show 1 + mx [dS s] = _; simp [mx]
theorem set_bare (m : Mg) (no : Int) : setM m (bare9 no) = .mk (rest m.F no) := by unfold setM; rw [if_pos (show (bare9 no).V = [] from rfl)]; rfl
theorem set_full {m : Mg} {s : So} (h : s.V ≠ []) : setM m s = .mk (putS (rest m.F s.no) s) := by unfold setM; rw [if_neg h]
theorem mx_put (l : List So) (s : So) (g : So → Nat) : mx ((putS l s).map g) = max (mx (l.map g)) (g s) := by
  unfold putS
  have h : mx (l.map g) = max (mx ((l.take (place l s.no)).map g)) (mx ((l.drop (place l s.no)).map g)) := by rw [← mx_append, ← List.map_append, List.take_append_drop]
  rw [List.map_append, List.map_cons, mx_append, h]
  simp only [mx]
  omega
end Go.Proofs.YtjmcpfckcajnjaaGreatDoor.T9
