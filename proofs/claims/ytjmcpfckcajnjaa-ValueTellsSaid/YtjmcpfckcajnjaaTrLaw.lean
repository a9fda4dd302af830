/-
  What the laws of layer 9 share: rows that are written out, slots that are set and read.
-/
import Derived.Test.YtjmcpfckcajnjaaTrFew
namespace Go.Proofs.Ytjmcpfckcajnjaa.T9
set_option maxRecDepth 100000

open Go.RowKit

/-- A row that is written out. -/
theorem lit_row {w : World} {g B n size : Nat} {xs : List Value} {t : TypeId} {fr : Nat × Nat} (h : w.heap[g]? = some (.cells xs.toArray t fr)) (hl : xs.length = n * size) (hn : n ≤ 1000000) (hB : g < B) (e : TypeId) : Rd B w e size (.slice (some ⟨g, 0, none⟩) n n) n xs := by
  refine ⟨⟨some ⟨g, 0, none⟩, n, rfl, ⟨hl, Nat.le_refl _, by unfold maxLen; omega, by simp, fun ad ha _ => ?_, fun ad ha k u hu => ?_⟩, fun ad ha _ => ?_⟩, by omega⟩
  · obtain rfl := Option.some.inj ha
    exact box_lt h
  · obtain rfl := Option.some.inj ha
    rw [Addr.add_lit, Nat.zero_add, box_cell h]
    simpa using hu
  · obtain rfl := Option.some.inj ha
    exact hB
theorem slot_more {R : RP} {d e : Nat} (h : d ≤ e) {s : So} {cs : List Value} (hs : SAt' R d s cs) : SAt' R e s cs := sAt.imp (fun _ _ _ _ _ h => h) (fun m cs hm => MAt.more h m cs hm) _ _ hs
theorem msg_shape {b D : Nat} {w : World} {m : Mg} {x : Value} (h : MAt (Ow b w) D m [x]) : ∃ A c, x = .slice A m.F.length c := by
  cases D with
  | zero => exact h.elim
  | succ D =>
    obtain ⟨u, hu, xs, ⟨hown, -⟩, -⟩ := h
    obtain rfl : x = u := by simpa using hu
    obtain ⟨A, c, rfl, -⟩ := Sl.of_own hown
    exact ⟨A, c, rfl⟩
theorem rd_shape {B D : Nat} {w : World} {m : Mg} {x : Value} (h : MRd B w D m x) : ∃ A c, x = .slice A m.F.length c := by
  cases D with
  | zero => exact h.elim
  | succ D =>
    obtain ⟨u, hu, hl⟩ := h
    obtain rfl : x = u := by simpa using hu
    obtain ⟨A, c, xs, rfl, -⟩ := hl.open_
    exact ⟨A, c, rfl⟩
theorem slot_shape {B D : Nat} {w : World} {s : So} {x y z : Value} (h : SAt' (Rd B w) D s [x, y, z]) : ∃ A1 c1 A2 c2, x = .int .i64 s.no ∧ y = .slice A1 s.K.length c1 ∧ z = .slice A2 s.V.length c2 := by
  obtain ⟨u1, u2, hu, hk, hv⟩ := h
  simp only [List.cons.injEq, and_true] at hu
  obtain ⟨rfl, rfl, rfl⟩ := hu
  obtain ⟨A1, c1, _, rfl, -⟩ := hk.open_
  obtain ⟨A2, c2, _, rfl, -⟩ := hv.open_
  exact ⟨A1, c1, A2, c2, rfl, rfl, rfl⟩
/-- What is one's own is read. -/
theorem own_rd {b D : Nat} {w : World} {m : Mg} {x : Value} (h : MAt (Ow b w) D m [x]) : MRd w.heap.size w D m x := MAt.imp (fun e size v n xs h => Rd.of_own e size v n xs h) D _ _ h
theorem rd_on {B D : Nat} {w w' : World} {m : Mg} {x : Value} (hb : Below w.heap.size w w') (hB : B ≤ w.heap.size) (h : MRd B w D m x) : MRd B w' D m x := MRd.low (Lo.below hb hB) h
theorem rd_up {D : Nat} {w w' : World} {m : Mg} {x : Value} (hb : Below w.heap.size w w') (h : MRd w.heap.size w D m x) : MRd w'.heap.size w' D m x := MRd.mono hb.size (MRd.low (Lo.below hb (Nat.le_refl _)) h)
theorem srd_up {D : Nat} {w w' : World} {s : So} {cs : List Value} (hb : Below w.heap.size w w') (h : SAt' (Rd w.heap.size w) D s cs) : SAt' (Rd w'.heap.size w') D s cs := SRd.mono hb.size (SRd.low (Lo.below hb (Nat.le_refl _)) h)
/-- A slot without values. -/
def bare9 (no : Int) : So := ⟨no, [], []⟩
theorem bare9_at (B D : Nat) (w : World) (no : Int) : SAt' (Rd B w) D (bare9 no) [.int .i64 no, .slice none 0 0, .slice none 0 0] := ⟨_, _, rfl, ⟨[], ⟨Rr.nil _ _ _, Nat.zero_le _⟩, rfl⟩, ⟨[], ⟨Rr.nil _ _ _, Nat.zero_le _⟩, rfl⟩⟩
theorem bare9_c (no : Int) : cS (bare9 no) = 1 := rfl
/-- Set, where what comes in was read a while ago, and what comes out is read. -/
theorem set_rd (D : Nat) (m : Mg) (s : So) (u u1 u2 : Value) (w : World) (hm : MRd w.heap.size w (D + 1) m u) (hs : SAt' (Rd w.heap.size w) D s [.int .i64 s.no, u1, u2]) (hcm : m.cnt ≤ 10000) (hcs : cS s ≤ 10000) :
    Calls Try.prog 11 #[.agg #[u], .agg #[.int .i64 s.no, u1, u2]] w fun e w' => ∃ A c, e = .returned (.agg #[.slice A (setM m s).F.length c]) ∧ MRd w'.heap.size w' (D + 1) (setM m s) (.slice A (setM m s).F.length c) ∧ Below w.heap.size w w' := by
  refine (set_any w.heap.size D m s u u1 u2 w (Nat.le_refl _) hm hs (by omega) (by omega) w.heap.size (Nat.le_refl _)).mono ?_
  rintro e w' ⟨x1, rfl, h1, h2⟩
  obtain ⟨A, c, rfl⟩ := msg_shape h1
  exact ⟨A, c, rfl, own_rd h1, h2⟩
/-- Get, where what comes out is read. -/
theorem get_rd (D : Nat) (m : Mg) (u : Value) (no : Int) (w : World) (hm : MRd w.heap.size w (D + 1) m u) (hcm : m.cnt ≤ 10000) :
    Calls Try.prog 8 #[.agg #[u], .int .i64 no] w fun e w' => ∃ A1 c1 A2 c2, e = .returned (.tuple #[.agg #[.int .i64 ((getM m no).getD so0).no, .slice A1 ((getM m no).getD so0).K.length c1, .slice A2 ((getM m no).getD so0).V.length c2], .bool (getM m no).isSome]) ∧
      SAt' (Rd w'.heap.size w') D ((getM m no).getD so0) [.int .i64 ((getM m no).getD so0).no, .slice A1 ((getM m no).getD so0).K.length c1, .slice A2 ((getM m no).getD so0).V.length c2] ∧ Below w.heap.size w w' := by
  refine (get_any w.heap.size D m u no w (Nat.le_refl _) hm (by omega) w.heap.size (Nat.le_refl _)).mono ?_
  rintro e w' ⟨x1, x2, x3, rfl, h1, h2⟩
  have h3 : SAt' (Rd w'.heap.size w') D ((getM m no).getD so0) [x1, x2, x3] := sAt.imp (fun e size v n xs h => Rd.of_own e size v n xs h) (fun m cs h => MAt.imp (fun e size v n xs h => Rd.of_own e size v n xs h) D m cs h) _ _ h1
  obtain ⟨A1, c1, A2, c2, rfl, rfl, rfl⟩ := slot_shape h3
  exact ⟨A1, c1, A2, c2, rfl, h3, h2⟩
/-- A message of slots that are written out. -/
theorem one_rd {D g : Nat} {w : World} {s : So} {x y z : Value} {t : TypeId} {fr : Nat × Nat} (hs : SAt' (Rd w.heap.size w) D s [x, y, z]) (h : w.heap[g]? = some (.cells #[x, y, z] t fr)) : MRd w.heap.size w (D + 1) (.mk [s]) (.slice (some ⟨g, 0, none⟩) 1 1) :=
  ⟨_, rfl, [x, y, z], lit_row (xs := [x, y, z]) h rfl (by decide) (box_lt h) _, Rows.single hs⟩
theorem two_rd {D g : Nat} {w : World} {s s' : So} {x y z x' y' z' : Value} {t : TypeId} {fr : Nat × Nat} (hs : SAt' (Rd w.heap.size w) D s [x, y, z]) (hs' : SAt' (Rd w.heap.size w) D s' [x', y', z']) (h : w.heap[g]? = some (.cells #[x, y, z, x', y', z'] t fr)) : MRd w.heap.size w (D + 1) (.mk [s, s']) (.slice (some ⟨g, 0, none⟩) 2 2) :=
  ⟨_, rfl, [x, y, z, x', y', z'], lit_row (xs := [x, y, z, x', y', z']) h rfl (by decide) (box_lt h) _, (Rows.single hs).append (Rows.single hs')⟩
/-- Messages that are written out. -/
theorem msgs1_rd {D g : Nat} {w : World} {m : Mg} {x : Value} {t : TypeId} {fr : Nat × Nat} (hm : MRd w.heap.size w D m x) (h : w.heap[g]? = some (.cells #[x] t fr)) : LsAt (Rd w.heap.size w) 24 1 (MAt (Rd w.heap.size w) D) [m] (.slice (some ⟨g, 0, none⟩) 1 1) :=
  ⟨[x], lit_row (xs := [x]) h rfl (by decide) (box_lt h) _, Rows.single hm⟩
theorem msgs2_rd {D g : Nat} {w : World} {m m' : Mg} {x x' : Value} {t : TypeId} {fr : Nat × Nat} (hm : MRd w.heap.size w D m x) (hm' : MRd w.heap.size w D m' x') (h : w.heap[g]? = some (.cells #[x, x'] t fr)) : LsAt (Rd w.heap.size w) 24 1 (MAt (Rd w.heap.size w) D) [m, m'] (.slice (some ⟨g, 0, none⟩) 2 2) :=
  ⟨[x, x'], lit_row (xs := [x, x']) h rfl (by decide) (box_lt h) _, (Rows.single hm).append (Rows.single hm')⟩
theorem msgs3_rd {D g : Nat} {w : World} {m m' m'' : Mg} {x x' x'' : Value} {t : TypeId} {fr : Nat × Nat} (hm : MRd w.heap.size w D m x) (hm' : MRd w.heap.size w D m' x') (hm'' : MRd w.heap.size w D m'' x'') (h : w.heap[g]? = some (.cells #[x, x', x''] t fr)) : LsAt (Rd w.heap.size w) 24 1 (MAt (Rd w.heap.size w) D) [m, m', m''] (.slice (some ⟨g, 0, none⟩) 3 3) :=
  ⟨[x, x', x''], lit_row (xs := [x, x', x'']) h rfl (by decide) (box_lt h) _, ((Rows.single hm).append (Rows.single hm')).append (Rows.single hm'')⟩
theorem cnt_one (s : So) : (Mg.mk [s]).cnt = cS s := by rw [Mg.cnt_eq]; show sm [cS s] = _; simp [sm]
theorem cnt_two (s t : So) : (Mg.mk [s, t]).cnt = cS s + cS t := by rw [Mg.cnt_eq]; show sm [cS s, cS t] = _; simp [sm]
theorem size_one (s : So) : (Mg.mk [s]).size = zS s := by rw [Mg.size_eq]; show sm [zS s] = _; simp [sm]
theorem deep_one (s : So) : (Mg.mk [s]).deep = 1 + dS s := by rw [Mg.deep_eq]; show 1 + mx [dS s] = _; simp [mx]
theorem set_bare (m : Mg) (no : Int) : setM m (bare9 no) = .mk (rest m.F no) := by unfold setM; rw [if_pos (show (bare9 no).V = [] from rfl)]; rfl
theorem set_full {m : Mg} {s : So} (h : s.V ≠ []) : setM m s = .mk (putS (rest m.F s.no) s) := by unfold setM; rw [if_neg h]
theorem mx_put (l : List So) (s : So) (g : So → Nat) : mx ((putS l s).map g) = max (mx (l.map g)) (g s) := by
  unfold putS
  have h : mx (l.map g) = max (mx ((l.take (place l s.no)).map g)) (mx ((l.drop (place l s.no)).map g)) := by rw [← mx_append, ← List.map_append, List.take_append_drop]
  rw [List.map_append, List.map_cons, mx_append, h]
  simp only [mx]
  omega
end Go.Proofs.Ytjmcpfckcajnjaa.T9
