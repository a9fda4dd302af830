/-
  The numbers of a window as decode tells them: the contracts of Numbers.
-/
import Derived.Test.YtipaangiehdgkaaGreatDoorDecNumb
import Derived.Deep.RegionHeld3
import Derived.Test.YtipaangiehdgkaaGreatDoorTrSet
namespace Go.Proofs.YtipaangiehdgkaaGreatDoor.T11
set_option maxRecDepth 100000

open Go.RowKit

/-- The numbers of bytes, of a kind, and the error. -/
def numsK (k : Int) (d : List UInt8) : List Int × Nat := if cnt k then numsL (wireN k) k d else ([], 1)
set_option maxRecDepth 1000000 in
theorem numbers_bad (kind : Int) (hk : cnt kind = false) (A : Option Addr) (n c a u : Nat) (w : World) :
    Calls Tryz.prog 23 #[.int .i64 kind, .slice A n c, .int .i64 a, .int .i64 u] w fun e w' => e = .panicked [{ v := errP (1 : Nat), recovered := false }] ∧ Below w.heap.size w w' := by
  have HIC := Lib.hid (fun wx => isCounting_any kind wx)
  rw [hk] at HIC
  have HM := Lib.hid (fun wx => must_no (1 : Nat) wx)
  go_enter Tryz.func23, Tryz.ntmps23
  go_wp2_with fail
  refine (HIC.out _).mono ?_
  rintro e w1 ⟨rfl, hb1⟩
  go_wp2_with fail
  refine (HM.out w1).mono ?_
  rintro e w2 ⟨rfl, rfl⟩
  go_wp2
  exact ⟨rfl, rfl, hb1⟩
/-- The numbers of a window, or the panic with their error, of any kind. -/
theorem numbers_all (kind : Int) (A : Option Addr) (c : Nat) (l : List UInt8) (a u : Nat) (hau : a ≤ u) (hu : u ≤ l.length) (hl : l.length ≤ 1000000000) (w : World) (h1 : SlB w A c l) :
    Calls Tryz.prog 23 #[.int .i64 kind, .slice A l.length c, .int .i64 a, .int .i64 u] w fun e w' =>
      ((numsK kind ((l.drop a).take (u - a))).2 = 0 ∧ (∃ v, e = .returned v ∧ w'.ownsRow w.heap.size 2 1 v (numsK kind ((l.drop a).take (u - a))).1.length (ints (numsK kind ((l.drop a).take (u - a))).1)) ∨
       (numsK kind ((l.drop a).take (u - a))).2 ≠ 0 ∧ e = .panicked [{ v := errP ((numsK kind ((l.drop a).take (u - a))).2 : Nat), recovered := false }]) ∧ Below w.heap.size w w' := by
  unfold numsK
  by_cases hk : cnt kind = true
  · simp only [if_pos hk]
    exact numbers_any kind hk A c l a u hau hu hl w h1
  · have hk2 : cnt kind = false := by simpa using hk
    simp only [if_neg hk]
    refine (numbers_bad kind hk2 A l.length c a u w).mono ?_
    rintro e w' ⟨rfl, hb⟩
    exact ⟨.inr ⟨by simp, rfl⟩, hb⟩
set_option maxRecDepth 1000000 in
theorem numbers1_any (kind : Int) (A : Option Addr) (c : Nat) (l : List UInt8) (a u : Nat) (hau : a ≤ u) (hu : u ≤ l.length) (hl : l.length ≤ 1000000000) (p0 p1 p2 p3 : Addr) (w : World) (h1 : SlB w A c l)
    (c0 : w.cell? p0 = some (.int .i64 kind)) (c1 : w.cell? p1 = some (.slice A l.length c)) (c2 : w.cell? p2 = some (.int .i64 a)) (c3 : w.cell? p3 = some (.int .i64 u)) :
    Calls Tryz.prog 22 #[.pointer (some p0), .pointer (some p1), .pointer (some p2), .pointer (some p3)] w fun e w' =>
      ((numsK kind ((l.drop a).take (u - a))).2 = 0 ∧ (∃ v, e = .returned v ∧ w'.ownsRow w.heap.size 2 1 v (numsK kind ((l.drop a).take (u - a))).1.length (ints (numsK kind ((l.drop a).take (u - a))).1)) ∨
       (numsK kind ((l.drop a).take (u - a))).2 ≠ 0 ∧ e = .panicked [{ v := errP ((numsK kind ((l.drop a).take (u - a))).2 : Nat), recovered := false }]) ∧ Below w.heap.size w w' := by
  have HN := Lib.hid (numbers_all kind A c l a u hau hu hl w h1)
  obtain ⟨R, hR⟩ : ∃ R, numsK kind ((l.drop a).take (u - a)) = R := ⟨_, rfl⟩
  rw [hR] at HN ⊢
  clear hR h1
  go_enter Tryz.func22, Tryz.ntmps22
  go_wp2_with fail
  refine HN.out.mono ?_
  rintro e w1 ⟨⟨h0, v, rfl, hown⟩ | ⟨h0, rfl⟩, hb⟩
  · go_wp2
    go_ret
    exact ⟨.inl ⟨h0, v, rfl, hown⟩, hb⟩
  · go_wp2
    exact ⟨rfl, .inr ⟨h0, rfl⟩, hb⟩
theorem push_old (w : World) (o : Obj) (k : Nat) (x : Obj) (h : w.heap[k]? = some x) : (w.alloc o).heap[k]? = some x :=
  ((below_new w o).block k (Array.getElem?_eq_some_iff.1 h).1).trans h
theorem four_new {w wf : World} {o0 o1 o2 o3 : Obj} (h : (((w.alloc o0).alloc o1).alloc o2).alloc o3 = wf) :
    wf.heap[w.heap.size]? = some o0 ∧ wf.heap[w.heap.size + 1]? = some o1 ∧ wf.heap[w.heap.size + 1 + 1]? = some o2 ∧ wf.heap[w.heap.size + 1 + 1 + 1]? = some o3 ∧ Below w.heap.size w wf ∧ wf.heap.size = w.heap.size + 1 + 1 + 1 + 1 := by
  subst h
  have hs : ∀ (x : World) (o : Obj), (x.alloc o).heap.size = x.heap.size + 1 := fun x o => by simp
  refine ⟨push_old _ _ _ _ (push_old _ _ _ _ (push_old _ _ _ _ (heap_alloc_new w o0))), ?_, ?_, ?_, ?_, ?_⟩
  · have := heap_alloc_new (w.alloc o0) o1
    rw [hs] at this
    exact push_old _ _ _ _ (push_old _ _ _ _ this)
  · have := heap_alloc_new ((w.alloc o0).alloc o1) o2
    rw [hs, hs] at this
    exact push_old _ _ _ _ this
  · have := heap_alloc_new (((w.alloc o0).alloc o1).alloc o2) o3
    rw [hs, hs, hs] at this
    exact this
  · exact (((below_new w _).alloc (by rw [hs]; omega) _).alloc (by rw [hs, hs]; omega) _).alloc (by rw [hs, hs, hs]; omega) _
  · rw [hs, hs, hs, hs]
theorem numsK_empty {k : Int} {d : List UInt8} (h : (numsK k d).2 ≠ 0) : (numsK k d).1 = [] := by
  unfold numsK at h ⊢
  split
  · rename_i c; rw [if_pos c] at h; exact nums_empty h
  · rfl
set_option maxRecDepth 1000000 in
set_option maxHeartbeats 4000000 in
theorem tellNums_any (kind : Int) (A : Option Addr) (c : Nat) (l : List UInt8) (a u : Nat) (hau : a ≤ u) (hu : u ≤ l.length) (hl : l.length ≤ 1000000000) (w : World) (h1 : SlB w A c l) :
    Calls Tryz.prog 8 #[.int .i64 kind, .slice A l.length c, .int .i64 a, .int .i64 u] w fun e w' =>
      ∃ v, e = .returned (.tuple #[v, .int .i64 ((numsK kind ((l.drop a).take (u - a))).2 : Nat)]) ∧ w'.ownsRow w.heap.size 2 1 v (numsK kind ((l.drop a).take (u - a))).1.length (ints (numsK kind ((l.drop a).take (u - a))).1) ∧ Below w.heap.size w w' := by
  have hem := @numsK_empty kind ((l.drop a).take (u - a))
  have HN := Lib.hid (numbers1_any kind A c l a u hau hu hl)
  obtain ⟨R, hR⟩ : ∃ R, numsK kind ((l.drop a).take (u - a)) = R := ⟨_, rfl⟩
  rw [hR] at HN hem ⊢
  clear hR
  have hmf : ∀ (fn : Fn) (first cap : Array Value) (w : World), (Instr.makeFunc fn first cap).run Tryz.prog w = .ok (.func fn first cap) w := fun _ _ _ _ => rfl
  have HS := Lib.hid h1
  clear h1
  go_enter Tryz.func8, Tryz.ntmps8
  go_wp2_with fail
  obtain ⟨wf, hwf⟩ : ∃ wf, (((w.alloc (Obj.cells #[Value.int IntKind.i64 kind] 3)).alloc (Obj.cells #[Value.slice A l.length c] 22)).alloc (Obj.cells #[Value.int IntKind.i64 a] 3)).alloc (Obj.cells #[Value.int IntKind.i64 u] 3) = wf := ⟨_, rfl⟩
  obtain ⟨e0, e1, e2, e3, hb0, hsz⟩ := four_new hwf
  rw [hwf]
  have HC : ∀ wx, Below wf.heap.size wf wx → Calls Tryz.prog 22 #[.pointer (some ⟨w.heap.size, 0, none⟩), .pointer (some ⟨w.heap.size + 1, 0, none⟩), .pointer (some ⟨w.heap.size + 1 + 1, 0, none⟩), .pointer (some ⟨w.heap.size + 1 + 1 + 1, 0, none⟩)] wx fun e w' =>
      ((R.2 = 0 ∧ (∃ v, e = .returned v ∧ w'.ownsRow wx.heap.size 2 1 v R.1.length (ints R.1))) ∨ R.2 ≠ 0 ∧ e = .panicked [{ v := errP (R.2 : Nat), recovered := false }]) ∧ Below wx.heap.size wx w' := fun wx hx => by
    have f0 := (hx.block _ (by omega)).trans e0
    have f1 := (hx.block _ (by omega)).trans e1
    have f2 := (hx.block _ (by omega)).trans e2
    have f3 := (hx.block _ (by omega)).trans e3
    exact HN.out _ _ _ _ wx (SlB.on (SlB.on HS.out hb0) hx) (by simp [World.cell?, f0]) (by simp [World.cell?, f1]) (by simp [World.cell?, f2]) (by simp [World.cell?, f3])
  clear hwf e0 e1 e2 e3 HN HS
  by_cases h0 : R.2 = 0
  · refine (caught_ok _ R.1.length (ints R.1) wf (fun wx hx => (HC wx hx).mono ?_)).mono ?_
    · rintro e w' ⟨⟨_, v, rfl, hown⟩ | ⟨h1, _⟩, hb⟩
      · exact ⟨⟨v, rfl, hown⟩, hb⟩
      · exact absurd h0 h1
    · rintro e w1 ⟨⟨v, rfl, hown⟩, hb⟩
      go_wp2
      go_ret2
      rw [h0]
      exact ⟨v, rfl, own_less2 hown hb0.size, below_then hb0 hb⟩
  · refine (caught_err _ (R.2 : Nat) wf (fun wx hx => (HC wx hx).mono ?_)).mono ?_
    · rintro e w' ⟨⟨h1, _⟩ | ⟨_, rfl⟩, hb⟩
      · exact absurd h1 h0
      · exact ⟨rfl, hb⟩
    · rintro e w1 ⟨rfl, hb⟩
      go_wp2
      go_ret2
      rw [hem h0]
      exact ⟨_, rfl, World.ownsRow_nil _ _ _ _, below_then hb0 hb⟩
end Go.Proofs.YtipaangiehdgkaaGreatDoor.T11
/-
  Decode, where nothing goes wrong, as it is told what message does.
-/
namespace Go.Proofs.YtipaangiehdgkaaGreatDoor.T11
set_option maxRecDepth 100000

open Go.RowKit

open Go.Proofs.YtipaangiehdgkaaGreatDoor.T9

set_option maxHeartbeats 4000000 in
set_option maxRecDepth 1000000 in
theorem decode1_ok (P1 P2 P3 : Nat) (vM vE : Value) (m : Int) (A : Option Addr) (n c : Nat) (Q : Value → World → Prop) (w : World) (hQ : ∀ v wa wb, Q v wa → wa.grownBy wb (some w.heap.size) → Q v wb)
    (h1 : w.heap[P1]? = some (.cells #[vM, vE] 33 (0, 0))) (h2 : w.heap[P2]? = some (.cells #[.int .i64 m] 3 (0, 0))) (h3 : w.heap[P3]? = some (.cells #[.slice A n c] 22 (0, 0)))
    (HF : ∀ wx, Below w.heap.size w wx → w.heap.size + 1 ≤ wx.heap.size → Calls Tryz.prog 38 #[.agg #[vM, vE], .int .i64 m, .slice A n c] wx fun e w' => (∃ A n c, e = .returned (.agg #[.slice A n c]) ∧ Q (.slice A n c) w') ∧ Below wx.heap.size wx w') :
    Calls Tryz.prog 37 #[.pointer (some ⟨P1, 0, none⟩), .pointer (some ⟨P2, 0, none⟩), .pointer (some ⟨P3, 0, none⟩)] w fun e w' => (∃ A n c, e = .returned (.agg #[.slice A n c]) ∧ Q (.slice A n c) w') ∧ Below w.heap.size w w' := by
  have LBD := below_new w (.cells #[.slice none 0 0] 36)
  have X1 := heap_alloc_new w (.cells #[.slice none 0 0] 36)
  have y1 := box2' (box_on h1 LBD)
  have y2 := bx1 (box_on h2 LBD)
  have y3 := bx1 (box_on h3 LBD)
  have HC := Lib.hid (HF _ LBD (by simp))
  have HQ := Lib.hid hQ
  have HX := Lib.hid X1
  clear h1 h2 h3 HF hQ X1
  go_enter Tryz.func37, Tryz.ntmps37
  go_wp2_with fail
  refine HC.out.mono ?_
  rintro e w1 ⟨⟨A', n', c', rfl, hq⟩, hb1⟩
  have Y1 := box_on HX.out hb1
  have hb01 := below_then LBD hb1
  have c0 := bx1 Y1
  have f0 : w1.frozen? ⟨w.heap.size, 0, none⟩ = false := by simp [World.frozen?, Y1]
  obtain ⟨Z1, G1⟩ := cell1 Y1 (.slice A' n' c')
  have hq2 := HQ.out _ _ _ hq G1
  have hbz := hb01.trans (below_own G1 (Nat.le_refl _) hb01.size)
  clear hq HQ HC HX y1 y2 y3
  go_wp2
  refine bodyPost_ret (results_cell_row rfl _ _ w.heap.size _ _ (0, 0) _ rfl Z1 Tryz.underlying36 rfl sz_msg) rfl ?_
  exact ⟨⟨A', n', c', rfl, hq2⟩, hbz⟩
set_option maxHeartbeats 4000000 in
set_option maxRecDepth 1000000 in
theorem decode_ok (vM vE : Value) (m : Int) (A : Option Addr) (n c : Nat) (Q : Nat → Value → World → Prop) (w : World) (hQ : ∀ B v wa wb k, k < B → Q B v wa → wa.grownBy wb (some k) → Q B v wb)
    (HF : ∀ wx, Below w.heap.size w wx → w.heap.size + 7 ≤ wx.heap.size → Calls Tryz.prog 38 #[.agg #[vM, vE], .int .i64 m, .slice A n c] wx fun e w' => (∃ A n c, e = .returned (.agg #[.slice A n c]) ∧ Q wx.heap.size (.slice A n c) w') ∧ Below wx.heap.size wx w') :
    Calls Tryz.prog 20 #[.agg #[vM, vE], .int .i64 m, .slice A n c] w fun e w' => (∃ A n c, e = .returned (.tuple #[.agg #[.slice A n c], .int .i64 0]) ∧ ∃ B, w.heap.size + 7 ≤ B ∧ Q B (.slice A n c) w') ∧ Below w.heap.size w w' := by
  have hmf : ∀ (fn : Fn) (first cap : Array Value) (w : World), (Instr.makeFunc fn first cap).run Tryz.prog w = .ok (.func fn first cap) w := fun _ _ _ _ => rfl
  obtain ⟨X1, X2, X3, X4, LBD, hsz⟩ := four_new (rfl : (((w.alloc (.cells #[vM, vE] 33)).alloc (.cells #[.int .i64 m] 3)).alloc (.cells #[.slice A n c] 22)).alloc (.cells #[.slice none 0 0] 36) = _)
  have HC : ∀ wx, Below (w.heap.size + 4) ((((w.alloc (.cells #[vM, vE] 33)).alloc (.cells #[.int .i64 m] 3)).alloc (.cells #[.slice A n c] 22)).alloc (.cells #[.slice none 0 0] 36)) wx → w.heap.size + 4 + 2 ≤ wx.heap.size → Calls Tryz.prog 37 #[.pointer (some ⟨w.heap.size, 0, none⟩), .pointer (some ⟨w.heap.size + 1, 0, none⟩), .pointer (some ⟨w.heap.size + 1 + 1, 0, none⟩)] wx fun e w' => (∃ A n c, e = .returned (.agg #[.slice A n c]) ∧ (fun v w' => ∃ B, w.heap.size + 7 ≤ B ∧ Q B v w') (.slice A n c) w') ∧ Below wx.heap.size wx w' := fun wx hx hs => by
    refine (decode1_ok w.heap.size (w.heap.size + 1) (w.heap.size + 1 + 1) vM vE m A n c (fun v w' => ∃ B, wx.heap.size + 1 ≤ B ∧ Q B v w') wx (fun v wa wb ⟨B, hB, hq⟩ hg => ⟨B, hB, hQ B v wa wb _ (by omega) hq hg⟩) ((hx.block _ (by omega)).trans X1) ((hx.block _ (by omega)).trans X2) ((hx.block _ (by omega)).trans X3) (fun wy hy hsy => (HF wy (LBD.trans ((hx.mono (by omega)).trans (hy.mono (by omega)))) (by omega)).mono ?_)).mono ?_
    · rintro e w' ⟨⟨A', n', c', rfl, hq⟩, hb⟩
      exact ⟨⟨A', n', c', rfl, _, hsy, hq⟩, hb⟩
    · rintro e w' ⟨⟨A', n', c', rfl, B, hB, hq⟩, hb⟩
      exact ⟨⟨A', n', c', rfl, B, by omega, hq⟩, hb⟩
  have HC := Lib.hid HC
  have HX := Lib.hid X4
  have HL := Lib.hid LBD
  have HQ := Lib.hid hQ
  have HZ := Lib.hid hsz
  clear HF X1 X2 X3 X4 LBD hQ hsz
  go_enter Tryz.func20, Tryz.ntmps20
  go_wp2_with fail
  refine (caughtM_ok _ (fun v w' => ∃ B, w.heap.size + 7 ≤ B ∧ Q B v w') _ (fun v wa wb k _ hk ⟨B, hB, hq⟩ hg => ⟨B, hB, HQ.out B v wa wb k (by rw [HZ.out] at hk; omega) hq hg⟩) (fun wx hx hs => HC.out wx (by rw [HZ.out] at hx; exact hx) (by rw [HZ.out] at hs; exact hs))).mono ?_
  rintro e w1 ⟨⟨A', n', c', rfl, B, hB, hq⟩, hb1⟩
  rw [HZ.out] at hb1
  have Y1 := (hb1.block _ (show w.heap.size + 1 + 1 + 1 < w.heap.size + 4 by omega)).trans HX.out
  have hs1 : w.heap.size + 4 ≤ w1.heap.size := by have := hb1.size; rw [HZ.out] at this; exact this
  have hb01 := HL.out.trans (hb1.mono (by omega))
  have c0 := bx1 Y1
  have f0 : w1.frozen? ⟨w.heap.size + 1 + 1 + 1, 0, none⟩ = false := by simp [World.frozen?, Y1]
  obtain ⟨Z1, G1⟩ := cell1 Y1 (.slice A' n' c')
  have hq2 := HQ.out B _ _ _ _ (by omega) hq G1
  have hbz := hb01.trans (below_own G1 (by omega) (by omega))
  have z0 := bx1 Z1
  clear HC HQ HX HL hq hb1 HZ
  go_wp2
  refine bodyPost_ret (results_row_tmp1 rfl _ _ (w.heap.size + 1 + 1 + 1) _ _ (0, 0) _ rfl Z1 Tryz.underlying36 rfl sz_msg) rfl ?_
  exact ⟨⟨A', n', c', rfl, B, hB, hq2⟩, hbz⟩
end Go.Proofs.YtipaangiehdgkaaGreatDoor.T11
/-
  How deep, and what is taken into: the contracts of deeper and blank.
-/
namespace Go.Proofs.YtipaangiehdgkaaGreatDoor.T11
set_option maxRecDepth 100000

open Go.RowKit

theorem blank_num (k : Int) (h : k ≠ 9) (w : World) : Calls Tryz.prog 180 #[.int .i64 k] w fun e w' => e = .returned (.agg #[.int .i64 0, .string { data := #[] }, .slice none 0 0]) ∧ Below w.heap.size w w' := by
  have h1 : (k == 9) = false := by rw [beq_eq_false_iff_ne]; exact h
  go_enter Tryz.func180, Tryz.ntmps180
  go_wp2
  refine bodyPost_ret (results_cell_row rfl _ _ w.heap.size 51 _ (0, 0) _ rfl (heap_alloc_last w _) Tryz.underlying51 rfl (by kernel_rfl)) rfl ?_
  exact ⟨rfl, below_new w _⟩
set_option maxRecDepth 1000000 in
set_option maxHeartbeats 4000000 in
/-- A number is taken: the value's first cell holds it. -/
theorem take_num (vM vE vB : Value) (p : Addr) (kind ref no wire : Int) (num : Nat) (frm upto deep : Int) (hk : cnt kind = true) (hw : wire = wireI kind) (hn : num < 18446744073709551616) (w : World) (old : Value) (hp : p.block < w.heap.size) (hc : w.cell? p = some old) (hz : w.frozen? p = false) :
    Calls Tryz.prog 181 #[.agg #[vM, vE, vB], .pointer (some p), .int .i64 kind, .int .i64 ref, .agg #[.int .i64 no, .int .i64 wire, .int .u64 num, .int .i64 frm, .int .i64 upto], .int .i64 deep] w fun e w' => e = .returned (.tuple #[]) ∧ ∃ w2, Below w.heap.size w w2 ∧ w' = w2.setCell p (.int .i64 (ofI kind (num : Int))) := by
  have hkr : 0 ≤ kind ∧ kind < 7 := by simpa [cnt] using hk
  have k9 : (kind == 9) = false := by rw [beq_eq_false_iff_ne]; omega
  have k8 : (kind == 8) = false := by rw [beq_eq_false_iff_ne]; omega
  have k7 : (kind == 7) = false := by rw [beq_eq_false_iff_ne]; omega
  have HOF := Lib.hid (fun wx => of_any kind (num : Int) (by omega) (by omega) wx)
  have HW := Lib.hid (fun wx => wire_any kind wx)
  have HY := Lib.hid (fun wx => must_yes 8 wx)
  rw [hk] at HOF
  rw [← hw] at HW
  go_enter Tryz.func181, Tryz.ntmps181
  go_wp2_with fail
  obtain ⟨wf, hwf⟩ : ∃ wf, (w.alloc (Obj.cells #[vM, vE, vB] 119)).alloc (Obj.cells #[.int .i64 no, .int .i64 (wireI kind), .int .u64 num, .int .i64 frm, .int .i64 upto] 62) = wf := ⟨_, rfl⟩
  have X1 : wf.heap[w.heap.size + 1]? = some (Obj.cells #[.int .i64 no, .int .i64 (wireI kind), .int .u64 num, .int .i64 frm, .int .i64 upto] 62) := by
    have h := heap_alloc_new (w.alloc (Obj.cells #[vM, vE, vB] 119)) (Obj.cells #[.int .i64 no, .int .i64 (wireI kind), .int .u64 num, .int .i64 frm, .int .i64 upto] 62)
    rw [hwf] at h
    have hs : (w.alloc (Obj.cells #[vM, vE, vB] 119)).heap.size = w.heap.size + 1 := by simp
    rw [hs] at h
    exact h
  have hb0 : Below w.heap.size w wf := by
    rw [← hwf]
    exact (below_new w _).alloc (by simp) _
  rw [← hw] at X1
  have HSX : Hid (∀ wx, Below wf.heap.size wf wx → (wx.cell? ⟨w.heap.size + 1, 1, none⟩ = some (.int .i64 wire) ∧ wx.cell? ⟨w.heap.size + 1, 2, none⟩ = some (.int .u64 num)) ∧ wx.cell? p = some old ∧ wx.frozen? p = false) := Lib.hid (fun wx hx => by
    have Y := (hx.block _ (Array.getElem?_eq_some_iff.1 X1).1).trans X1
    have hb := below_then hb0 hx
    exact ⟨⟨by simp [World.cell?, Y], by simp [World.cell?, Y]⟩, (hb.cell hp).trans hc, (hb.frozen hp).trans hz⟩)
  rw [hwf]
  have LD : Below wf.heap.size wf wf.drew := (Below.refl _ _).drew
  have hww : (wire == wire) = true := by simp
  have HB0 := Lib.hid hb0
  clear hwf X1 hb0 hc hz
  go_region_held3 (fun wx => (wx.cell? ⟨w.heap.size + 1, 1, none⟩ = some (.int .i64 wire) ∧ wx.cell? ⟨w.heap.size + 1, 2, none⟩ = some (.int .u64 num)) ∧ wx.cell? p = some old ∧ wx.frozen? p = false)
    (first | exact HSX.out _ LD | exact HSX.out _ L6 | go_keep)
    ((first
      | (go_at_call 43; refine (HW.out _).mono ?_; rintro e w6 ⟨rfl, hb6⟩; have L6 := LD.trans hb6)
      | (go_at_call 40; refine (HY.out _).mono ?_; rintro e w7 ⟨rfl, rfl⟩)
      | fail))
  all_goals
    go_wp2_with fail
    refine (HOF.out _).mono ?_
    rintro e w8 ⟨rfl, hb8⟩
    have L8 := below_then L6 hb8
    obtain ⟨-, P1, P2⟩ := HSX.out _ L8
    have HB8 := Lib.hid (below_then HB0.out L8)
    clear hb8 L8
    go_wp2
    go_end0
    exact ⟨rfl, _, HB8.out, rfl⟩
end Go.Proofs.YtipaangiehdgkaaGreatDoor.T11
/-
  The slot of a number: the contract of slotOf where there is one.
-/
namespace Go.Proofs.YtipaangiehdgkaaGreatDoor.T11
set_option maxRecDepth 100000

open Go.RowKit

theorem slot_at {w : World} {A : Option Addr} {c : Nat} {xs : List Value} {nos : List Int} (h : Sl w A nos.length c 3 xs) (hN : ∀ k x, nos[k]? = some x → xs[k * 3]? = some (.int .i64 x)) {k : Nat} (hk : k < nos.length) : ∃ ad x, A = some ad ∧ nos[k]? = some x ∧ w.cell? (ad.add (k * 3)) = some (.int .i64 x) := by
  obtain ⟨ad, rfl, hb, hcell⟩ := Sl.there h (by omega)
  exact ⟨ad, nos[k], rfl, List.getElem?_eq_getElem hk, hcell _ _ (hN k _ (List.getElem?_eq_getElem hk))⟩
set_option maxRecDepth 1000000 in
set_option maxHeartbeats 4000000 in
theorem slotOf_old (p : Addr) (no : Int) (A : Option Addr) (c : Nat) (xs : List Value) (nos : List Int) (i : Nat) (w : World) (hF : w.cell? p = some (.slice A nos.length c)) (hS : Sl w A nos.length c 3 xs) (hsm : nos.length ≤ 1000000000)
    (hN : ∀ k x, nos[k]? = some x → xs[k * 3]? = some (.int .i64 x)) (hi : nos[i]? = some no) (hfirst : ∀ k, k < i → nos[k]? ≠ some no) :
    Calls Tryz.prog 157 #[.pointer (some p), .int .i64 no] w fun e w' => (∃ ad, A = some ad ∧ e = .returned (.pointer (some (ad.add (i * 3))))) ∧ w' = w := by
  have hin : i < nos.length := (List.getElem?_eq_some_iff.1 hi).1
  have HI := Lib.hid hi
  have HF := Lib.hid hfirst
  have HN := Lib.hid hN
  have HS := Lib.hid hS
  clear hi hfirst hN hS
  go_enter Tryz.func157, Tryz.ntmps157
  go_wp2
  go_loopw [11] (fun i' wr => ∃ k : Nat, i' = .int .i64 k ∧ k ≤ i ∧ wr = w) (fun i' _ => nos.length - (intOf i').toNat)
  case atStart => exact ⟨0, rfl, by omega, rfl⟩
  case round =>
    obtain ⟨k, rfl, hk, rfl⟩ := hrel
    have hkl : k < nos.length := by omega
    obtain ⟨ad, x, rfl, hx, c0⟩ := slot_at HS.out HN.out hkl
    have hkm : k * 3 < 9223372036854775807 := by omega
    by_cases hki : k = i
    · subst hki
      obtain rfl : x = no := by have := hx.symm.trans HI.out; injection this
      have hxx : (x == x) = true := by simp
      clear hx
      go_wp2
      go_ret
      exact ⟨⟨ad, rfl, rfl⟩, rfl⟩
    · have hne : (x == no) = false := by
        rw [beq_eq_false_iff_ne]
        rintro rfl
        exact HF.out k (by omega) hx
      clear hx
      go_wp2
      exact ⟨⟨k + 1, by go_num, by omega, trivial⟩, by simp [intOf]; omega⟩
end Go.Proofs.YtipaangiehdgkaaGreatDoor.T11
/-
  Append of a slice onto a row of the call's own, behind a guard that holds.
-/
namespace Go.Proofs.YtipaangiehdgkaaGreatDoor
set_option maxRecDepth 100000

open Go.RowKit

theorem wpList_app_sl_g {P : Program} {w : World} {ops : Array Oper} {rest : List Oper} {o : Oper} {a : Act} {Q : Exit → Act → World → Prop}
    (hg : Region.wanted o (yielded ops a.tmps) = true) (s x : Operand) (t : TypeId) (hop : o.op = .call { callee := .builtin .append, args := #[s, x], argTypes := #[t, t] })
    (base : Nat) (e : TypeId) (i : TypeInfo) (z : Value) (size bytes : Nat) (ht : P.underlying t = some (.slice e)) (hi : P.info? e = some i) (hz : i.zero = some z)
    (hsize : i.size = size) (hby : i.bytes = bytes) (hzs : z.cells.size = size) (hsz : 0 < size)
    (v : Value) (n : Nat) (xs : List Value) (hs : a.eval s = v) (hown : w.ownsRow base e size v n xs)
    (A : Option Addr) (m c : Nat) (news : List Value) (hx : a.eval x = .slice A m c) (hr : Sl w A m c size news) (h1 : ∀ u ∈ news, u.oneCell' = true)
    (h63 : n + m ≤ maxLen) (hbytes : (n + m) * bytes ≤ 140737488355328) (hbase : base ≤ w.heap.size)
    (h : ∀ v' w', w'.ownsRow base e size v' (n + m) (xs ++ news) → w.grownBy w' v.ownBlock → wpList P ops Q rest (a.put o.dst v') w') : wpList P ops Q (o :: rest) a w := by
  have key : ∃ v' w', (Builtin.append_ #[t, t] o.type #[v, .slice A m c]).run P w = .ok v' w' ∧ w'.ownsRow base e size v' (n + m) (xs ++ news) ∧ w.grownBy w' v.ownBlock := by
    cases A with
    | none =>
      obtain ⟨rfl, rfl, rfl⟩ := hr.none_len
      exact ⟨v, w, run_append_owned_none (P := P) w base t o.type e i size ht hi v n xs hown, by simpa using hown, World.grownBy.refl w _⟩
    | some ad =>
      obtain ⟨v', w', hrun, h2, h3, _⟩ := run_append_own (P := P) w base t o.type e i z size bytes ht hi hz hsize hby hzs hsz v n xs hown ad m c news hr.len (hr.cell ad rfl) h1 h63 hbytes hbase
      exact ⟨v', w', hrun, h2, h3⟩
  obtain ⟨v', w', hrun, h2, h3⟩ := key
  refine wpList_step fun K hK => ?_
  rw [if_pos hg]
  have hex : (execOp a.eval o).run P w = .ok (.value v') w' := by simp [execOp, hop, resolve, invoke, builtin, hs, hx, hrun, Result.andThen]
  unfold Oper.wp
  rw [hex]
  exact hK _ _ (h v' w' h2 h3)
end Go.Proofs.YtipaangiehdgkaaGreatDoor
/-
  The slot of a number: the contract of slotOf where there is none yet.
-/
namespace Go.Proofs.YtipaangiehdgkaaGreatDoor.T11
set_option maxRecDepth 100000

open Go.RowKit

theorem info_slot : (Tryz.prog.info? 48).map (fun i => (i.zero, i.size, i.bytes)) = some (some (.agg #[.int .i64 0, .slice none 0 0, .slice none 0 0]), 3, 56) := by kernel_rfl
theorem lit_slot (w : World) (a b c : Value) (t : TypeId) : Sl (w.alloc (.cells #[a, b, c] t)) (some ⟨w.heap.size, 0, none⟩) 1 1 3 [a, b, c] := by
  refine ⟨rfl, Nat.le_refl _, by unfold maxLen; omega, by simp, fun ad ha _ => ?_, fun ad ha k u hu => ?_⟩
  · obtain rfl := Option.some.inj ha
    simp
  · obtain rfl := Option.some.inj ha
    rw [Addr.add_lit, World.cell?_alloc_at _ _ _ _ rfl]
    simpa using hu
theorem own_there2 {w : World} {base : Nat} {e : TypeId} {size : Nat} {v : Value} {n : Nat} {xs : List Value} (h : w.ownsRow base e size v n xs) (hn : 0 < n) (hs : 0 < size) : ∃ g cap, v = .slice (some ⟨g, 0, none⟩) n cap ∧ base ≤ g := by
  rcases h.2 with ⟨rfl, rfl⟩ | ⟨g, cap, cur, rfl, hb, _⟩
  · have := h.1
    have h0 := Nat.mul_pos hn hs
    simp at this
    omega
  · exact ⟨g, cap, rfl, hb⟩
theorem cell_grown {w w' : World} {r : Option Nat} {p : Addr} {v : Value} (hp : p.block < w.heap.size) (hr : ∀ k, r = some k → k ≠ p.block) (hg : w.grownBy w' r) (h : w.cell? p = some v) : w'.cell? p = some v :=
  (World.cell?_of_block (w := w) (hg.block p.block hp (fun e => hr _ e.symm rfl))).trans h
theorem frozen_grown {w w' : World} {r : Option Nat} {p : Addr} {b : Bool} (hp : p.block < w.heap.size) (hr : ∀ k, r = some k → k ≠ p.block) (hg : w.grownBy w' r) (h : w.frozen? p = b) : w'.frozen? p = b :=
  (World.frozen?_of_block (w := w) (hg.block p.block hp (fun e => hr _ e.symm rfl))).trans h
theorem grown_alloc {w w' : World} {o : Obj} {r : Option Nat} (h : (w.alloc o).grownBy w' r) : w.grownBy w' r := by
  have hs : (w.alloc o).heap.size = w.heap.size + 1 := by simp
  exact ⟨h.os, h.tape, h.output, by have := h.size; omega, fun k hk e => (h.block k (by omega) e).trans ((below_new w o).block k hk)⟩
set_option maxRecDepth 1000000 in
set_option maxHeartbeats 4000000 in
theorem slotOf_new (p : Addr) (no : Int) (b : Nat) (v : Value) (xs : List Value) (nos : List Int) (w : World) (hb : b ≤ w.heap.size) (hF : w.cell? p = some v) (hz : w.frozen? p = false) (hp : p.block < w.heap.size) (hpo : ∀ k, v.ownBlock = some k → k ≠ p.block) (hS : w.ownsRow b 48 3 v nos.length xs) (hsm : nos.length ≤ 1000000000)
    (hN : ∀ k x, nos[k]? = some x → xs[k * 3]? = some (.int .i64 x)) (hno : no ∉ nos) :
    Calls Tryz.prog 157 #[.pointer (some p), .int .i64 no] w fun e w' => ∃ g cap w2 d, e = .returned (.pointer (some (Addr.add ⟨g, 0, none⟩ (nos.length * 3)))) ∧ w' = (w2.setCell p (.slice (some ⟨g, 0, none⟩) (nos.length + 1) cap)).drewN d ∧ w2.ownsRow b 48 3 (.slice (some ⟨g, 0, none⟩) (nos.length + 1) cap) (nos.length + 1) (xs ++ [.int .i64 no, .slice none 0 0, .slice none 0 0]) ∧ w.grownBy w2 v.ownBlock := by
  obtain ⟨i0, hi, hz0, hz1, hz2⟩ := info_parts info_slot
  obtain ⟨A, c, rfl, hs⟩ := Sl.of_own hS
  have HN := Lib.hid hN
  have HS := Lib.hid hs
  have HO := Lib.hid hS
  have HX := Lib.hid hno
  clear hN hno hs hS
  go_enter Tryz.func157, Tryz.ntmps157
  go_wp2
  go_loopw [11] (fun i' wr => ∃ k : Nat, i' = .int .i64 k ∧ k ≤ nos.length ∧ wr = w) (fun i' _ => nos.length - (intOf i').toNat)
  case atStart => exact ⟨0, rfl, by omega, rfl⟩
  case round =>
    obtain ⟨k, rfl, hk, rfl⟩ := hrel
    by_cases hkl : k < nos.length
    · obtain ⟨ad, x, rfl, hx, c0⟩ := slot_at HS.out HN.out hkl
      have hkm : k * 3 < 9223372036854775807 := by omega
      have hne : (x == no) = false := by
        rw [beq_eq_false_iff_ne]
        rintro rfl
        exact HX.out (List.mem_of_getElem? hx)
      clear hx
      go_wp2
      exact ⟨⟨k + 1, by go_num, by omega, trivial⟩, by simp [intOf]; omega⟩
    · obtain rfl : k = nos.length := by omega
      go_wp2_with (at_builtin; (refine wpList_app_sl rfl _ _ 34 rfl b 48 i0 _ 3 56 Tryz.underlying34 hi hz0 hz1 hz2 rfl (by omega) (.slice A nos.length c) nos.length xs rfl (HO.out.alloc _) _ 1 1 [.int .i64 no, .slice none 0 0, .slice none 0 0] rfl (lit_slot _ _ _ _ _) (by simp [Value.oneCell']) (by unfold maxLen; omega) (by omega) (by simp; omega) ?_); intro v3 w3 hown3 hg3; obtain ⟨g3, cap3, rfl, hg3b⟩ := own_there2 hown3 (by omega) (by omega); have P1 := cell_grown hp hpo (grown_alloc hg3) hF; have P2 := frozen_grown hp hpo (grown_alloc hg3) hz; have P3 := World.cell?_setCell_same' w3 p (.slice (some ⟨g3, 0, none⟩) (nos.length + 1) cap3) (by rw [P1]; rfl))
      go_quiet (fail)
      go_wp2
      go_ret
      exact ⟨g3, cap3, w3, nq, by rw [Addr.add_lit, Nat.zero_add]; rfl, rfl, hown3, grown_alloc hg3⟩
end Go.Proofs.YtipaangiehdgkaaGreatDoor.T11
