/-
  A oneof is read, and reserved numbers: the contracts.
-/
import Derived.Test.YtciiemomfniecaaGreatDoorProPairs
namespace Go.Proofs.YtciiemomfniecaaGreatDoor
set_option maxRecDepth 100000

open Go.RowKit

theorem infoStrs : (Tryz.prog.info? 9).map (fun i => (i.zero, i.size, i.bytes)) = some (some (.string ⟨#[]⟩), 1, 16) := by kernel_rfl
theorem infoI64s : (Tryz.prog.info? 2).map (fun i => (i.zero, i.size, i.bytes)) = some (some (.int .i64 0), 1, 8) := by kernel_rfl
/-- How far the parser is from its end, as it lies there. -/
def muW (w : World) (P : Nat) : Nat := match w.heap[P]? with
  | some (Obj.cells cs _ _) => (match (cs[0]? : Option Value) with | some (.slice _ n _) => n | _ => 0) + (match (cs[2]? : Option Value) with | some (.bool b) => (if b then 0 else 1) | _ => 0)
  | _ => 0
theorem PSt.mu {w : World} {P E : Nat} {s : S} (h : PSt w P E s) : muW w P = s.mu := by
  obtain ⟨A, c, h1, h2, h3⟩ := h
  simp [muW, h1, S.mu]
/-- Where the loop over a oneof's fields is. -/
def OnesRel (P E M : Nat) (w : World) (X : S × Ms) (K : Nat) (wr : World) : Prop := ∃ s m, PSt wr P E s ∧ MBox wr M m ∧ Kp M P w wr ∧ onesF E s m = X ∧ m.wt + s.mu ≤ K
theorem onesF_in (E : Nat) (s : S) (m : Ms) (h : s.inside = true) : onesF E s m = onesF E s.fldS (m.add { s.fld E with one := m.ones.length }) := by rw [onesF, dif_pos h]
theorem resF_in (s : S) (m : Ms) (h : s.sees 3 [44] = true) : resF s m = resF (s.sign [44]).num { m with res := m.res ++ [(s.sign [44]).numV] } := by rw [resF, dif_pos h]
theorem wt_le (m : Ms) : m.F.length ≤ m.wt ∧ m.ones.length ≤ m.wt ∧ m.res.length ≤ m.wt := by unfold Ms.wt; omega

/-- Where the loop over reserved numbers is. -/
def ResRel (P E M : Nat) (w : World) (X : S × Ms) (K : Nat) (wr : World) : Prop := ∃ s m, PSt wr P E s ∧ MBox wr M m ∧ Kp M P w wr ∧ resF s m = X ∧ m.wt + s.mu ≤ K
set_option maxHeartbeats 2000000 in
theorem oneof_any (P E M : Nat) (s : S) (m : Ms) (w : World) (hp : PSt w P E s) (hm : MBox w M m) (hPM : P < M) (hst : s.st = false) (hn : m.wt + s.mu ≤ 100000) :
    Calls Tryz.prog 171 #[.pointer (some ⟨P, 0, none⟩), .pointer (some ⟨M, 0, none⟩)] w fun e w' => e = .returned (.tuple #[]) ∧ PSt w' P E (oneofF E s m).1 ∧ MBox w' M (oneofF E s m).2 ∧ Kp M P w w' := by
  obtain ⟨i0, hi, hz0, hz1, hz2⟩ := info_parts infoFds
  obtain ⟨j0, hj, hy0, hy1, hy2⟩ := info_parts infoStrs
  obtain ⟨vF, vO, vR, hr⟩ := hm.open_
  have hM := hr.lt
  have hPl : P < w.heap.size := by omega
  have HR := Lib.hid hr
  have hmu1 := oneofS_mu s hst
  have hwt1 := oneofM_wt s m
  have hwl := wt_le m
  have H1 := Lib.hid (word_any7 P E s ⟨#[111, 110, 101, 111, 102]⟩ w hp)
  have H2 := Lib.hid (fun w h => name_any7 P E (s.word wOneof) w h)
  have H3 := Lib.hid (fun w h => sign_any7 P E (s.word wOneof).name ⟨#[123]⟩ w h)
  have HS : Hid (oneofF E s m = ((onesF E (oneofS s) (oneofM s m)).1.sign [125], (onesF E (oneofS s) (oneofM s m)).2)) := Lib.hid rfl
  have HM : Hid (oneofM s m = { m with ones := m.ones ++ [(s.word wOneof).nameT] }) := Lib.hid rfl
  have HMU := Lib.hid hmu1
  have HWT := Lib.hid hwt1
  obtain ⟨x, hx⟩ : ∃ x, x = (s.word wOneof).nameT := ⟨_, rfl⟩
  rw [← hx] at H2 HM
  clear hr hm hp hmu1 hwt1 hst hx
  go_enter Tryz.func171, Tryz.ntmps171
  go_wp2_with fail
  refine H1.out.mono ?_
  rintro e w1 ⟨rfl, hp1, hg1⟩
  have hs1 := hg1.size
  have hr1 := HR.out.taken hg1 hPM
  have hk1 := (Kp.refl M P w).taken hg1 (by omega)
  have c1 := heap_cell hr1.box 2
  simp at c1
  have HR1 := Lib.hid hr1.drew
  have HK1 := Lib.hid (hk1.drew 1)
  have hM1 := hr1.lt
  clear hr1 hk1
  go_wp2_with fail
  go_region_law
    (first
      | (refine step_append_lies _ rfl _ _ 48 rfl (M + 1) 9 j0 _ 1 16 Tryz.underlying48 hj hy0 hy1 hy2 rfl (by decide) vO m.ones.length (strv m.ones) (by simp [Act.eval, Act.put]) (HR2.out.alloc _).o ⟨w2.heap.size, 0, none⟩ 1 1 [.string (txt x)] (by simp [Act.eval, Act.put]) rfl (World.news_of_block (heap_alloc_new _ _)) (by intro u hu; rw [List.mem_singleton.1 hu]; rfl) (by decide) (by unfold maxLen; omega) (by omega) (by simp; omega) w2.heap.size.succ (by simp) ?_; intro g3 cap3 w3 hown3 hg3 hat3 hlt3; have hb3 := (hg3.block M (HR2.out.alloc _).lt (fun e => by have := own_M HR2.out.o M e.symm; omega)).trans (HR2.out.alloc _).box; have c3 := heap_cell hb3 2; have f3 := heap_free hb3 2; simp at c3; have HB3 := Lib.hid hb3; clear hb3)
      | (go_simp; refine (H2.out _ hp1.drew).mono ?_; rintro e w2 ⟨rfl, hp2, hg2⟩; have hs2 : w1.heap.size ≤ w2.heap.size := hg2.size; have hr2 := HR1.out.taken hg2 hPM; have hk2 := HK1.out.taken hg2 (by show M ≤ w1.heap.size; omega); have c2 := heap_cell hr2.box 2; simp at c2; have HR2 := Lib.hid hr2; have HK2 := Lib.hid hk2; have hM2 := hr2.lt; clear hr2 hk2))
  all_goals
    have hsz3 := hg3.size
    simp at hsz3
    have hp3 := (hp2.alloc (.cells #[.string (txt x)] 9)).past (v := .slice (some ⟨g3, 0, none⟩) (m.ones.length + 1) cap3) hPM (HR2.out.alloc _).o hg3 2
    have hm3 := (HR2.out.alloc (.cells #[.string (txt x)] 9)).addO hg3 hown3
    have HK3 := Lib.hid ((HK2.out.alloc (Nat.le_of_lt hM2) (.cells #[.string (txt x)] 9)).past (v := .slice (some ⟨g3, 0, none⟩) (m.ones.length + 1) cap3) (by simp; omega) (HR2.out.alloc _).o hg3 2)
    rw [← HM.out] at hm3
    have HM3 := Lib.hid hm3
    clear hm3
    go_wp2_with fail
    refine (H3.out _ hp3).mono ?_
    rintro e w4 ⟨rfl, hp4, hg4⟩
    have hs4 := hg4.size
    simp [World.setCell] at hs4
    have HK4 := Lib.hid (HK3.out.taken hg4 (by simp [World.setCell]; omega))
    have HM4 := Lib.hid (HM3.out.taken hg4 hPM)
    have HS4 : Hid (PSt w4 P E (oneofS s)) := Lib.hid hp4
    generalize hX : onesF E (oneofS s) (oneofM s m) = X at *
    have HX := Lib.hid hX
    clear hX
    go_wp2
    go_loopw [4] (fun _ wr => OnesRel P E M w X 100000 wr) (fun _ wr => muW wr P)
    case atStart => exact ⟨oneofS s, oneofM s m, HS4.out, HM4.out, HK4.out, HX.out, by have := HMU.out; have := HWT.out; omega⟩
    case round =>
      obtain ⟨s5, m5, hp5, hm5, hk5, hx5, hw5⟩ := hrel
      have HX5 := Lib.hid hx5
      have HM5 := Lib.hid hm5
      have HK5 := Lib.hid hk5
      have HP5 := Lib.hid hp5
      have hmu5 := hp5.mu
      have hI := inside_any P E s5 _ hp5
      clear hx5 hm5 hk5 hp5
      cases hin : s5.inside
      · rw [hin] at hI
        have HI := Lib.hid hI
        have HE : Hid (X = (s5, m5)) := Lib.hid (by rw [← HX5.out, onesF, dif_neg (by rw [hin]; decide)])
        clear hI hin
        have HMU5 := Lib.hid hmu5
        clear hmu5
        go_wp2_with fail
        refine HI.out.mono ?_
        rintro e w6 ⟨rfl, rfl⟩
        go_wp2_with fail
        refine (sign_any7 P E s5 ⟨#[125]⟩ _ HP5.out).mono ?_
        rintro e w7 ⟨rfl, hp7, hg7⟩
        have hM7 := HM5.out.taken hg7 hPM
        have hk7 := HK5.out.taken hg7 (by have := HK5.out.size; omega)
        go_wp2
        refine bodyPost_end (results_none rfl _ _ _) rfl ?_
        rw [HS.out, HE.out]
        exact ⟨rfl, hp7, hM7, hk7⟩
      · rw [hin] at hI
        have HI := Lib.hid hI
        have HIN := Lib.hid hin
        clear hI hin
        have HMU5 := Lib.hid hmu5
        clear hmu5
        go_wp2_with fail
        refine HI.out.mono ?_
        rintro e w6 ⟨rfl, rfl⟩
        go_wp2_with fail
        have h6 := field_any P E s5 wr HP5.out
        have hM5 := HM5.out.taken (P := P) (w' := wr) ⟨rfl, rfl, rfl, Nat.le_refl _, fun _ _ _ => rfl⟩ hPM
        obtain ⟨d, hd⟩ : ∃ d, d = s5.fld E := ⟨_, rfl⟩
        rw [← hd] at h6
        have HD := Lib.hid hd
        have HX6 : Hid (FdV d = .agg #[.string (txt d.type), .string (txt d.key), .bool d.rep, .int .i64 d.one, .string (txt d.name), .int .i64 d.no, .int .i64 d.at_]) := Lib.hid rfl
        refine h6.mono ?_
        rw [HX6.out]
        rintro e w7 ⟨rfl, hp7, hg7⟩
        obtain ⟨wF, wO, wR, hr7⟩ := (hM5.taken hg7 hPM).open_
        have hs7 := hg7.size
        have hk7 := HK5.out.taken hg7 (by have := HK5.out.size; omega)
        obtain ⟨A7, q7, rfl, -⟩ := Sl.of_own hr7.o
        have c7 := heap_cell hr7.box 2
        have e7 := heap_cell hr7.box 1
        simp at c7 e7
        have HR7 := Lib.hid hr7
        have HK7 := Lib.hid hk7
        have hM7 := hr7.lt
        obtain ⟨d', hd'⟩ : ∃ d', d' = { d with one := m5.ones.length } := ⟨_, rfl⟩
        have HC : Hid (FC d' = [.string (txt d.type), .string (txt d.key), .bool d.rep, .int .i64 m5.ones.length, .string (txt d.name), .int .i64 d.no, .int .i64 d.at_]) := Lib.hid (by rw [hd']; rfl)
        have HN : Hid (onesF E s5.fldS (m5.add d') = X) := Lib.hid (by rw [← HX5.out, onesF_in E s5 m5 HIN.out, hd', hd])
        have hmu7 := (S.fldS_mu s5).2 (S.inside_st HIN.out)
        have hwl5 := (wt_le m5).1
        have hwd5 := Ms.add_wt m5 d'
        have HWD5 := Lib.hid hwd5
        clear hr7 hk7 hd hd' h6 hM5 hwd5
        go_wp2_with fail
        go_region_law
          (refine step_append_lies _ rfl _ _ 47 rfl (M + 1) 53 i0 _ 7 80 Tryz.underlying47 hi hz0 hz1 hz2 rfl (by decide) wF m5.F.length (fdv m5.F) (by simp [Act.eval, Act.put]) ((HR7.out.alloc _).alloc _).f ⟨w7.heap.size + 1, 0, none⟩ 1 1 (FC d') (by simp [Act.eval, Act.put]) rfl (by rw [HC.out]; exact World.news_of_block (heap_second' w7 _ _)) (by intro u hu; exact fdv_cells [d'] u (by rw [fdv_one]; exact hu)) (by decide) (by unfold maxLen; omega) (by omega) (by simp; omega) (w7.heap.size + 2) (by simp) ?_; intro g8 cap8 w8 hown8 hg8 hat8 hlt8; have hb8 := (hg8.block M ((HR7.out.alloc _).alloc _).lt (fun e => by have := own_M HR7.out.f M e.symm; omega)).trans ((HR7.out.alloc _).alloc _).box; have c8 := heap_cell hb8 1; have f8 := heap_free hb8 1; simp at c8; have HB8 := Lib.hid hb8; clear hb8)
        all_goals
          have hp9 := ((hp7.alloc (.cells #[.string (txt d.type), .string (txt d.key), .bool d.rep, .int .i64 m5.ones.length, .string (txt d.name), .int .i64 d.no, .int .i64 d.at_] 53)).alloc (.cells #[.string (txt d.type), .string (txt d.key), .bool d.rep, .int .i64 m5.ones.length, .string (txt d.name), .int .i64 d.no, .int .i64 d.at_] 53)).drew.past (v := .slice (some ⟨g8, 0, none⟩) (m5.F.length + 1) cap8) hPM ((HR7.out.alloc _).alloc _).drew.f hg8 1
          go_wp2
          refine ⟨⟨s5.fldS, m5.add d', hp9, ((HR7.out.alloc _).alloc _).drew.addF hg8 hown8, (((HK7.out.alloc (Nat.le_of_lt hM7) _).alloc (by simp; omega) _).drew 1).past (by simp; omega) ((HR7.out.alloc _).alloc _).drew.f hg8 1, HN.out, by have := HWD5.out; omega⟩, ?_⟩
          rw [hp9.mu, HMU5.out]
          omega
end Go.Proofs.YtciiemomfniecaaGreatDoor
/-
  Reserved numbers are read: the contract.
-/
namespace Go.Proofs.YtciiemomfniecaaGreatDoor
set_option maxRecDepth 100000

open Go.RowKit

theorem resM_add (m : Ms) (n : Int) : ({ m with res := m.res ++ [n] } : Ms).wt = m.wt + 1 := by simp [Ms.wt]; omega
set_option maxHeartbeats 2000000 in
theorem reserved_any (P E M : Nat) (s : S) (m : Ms) (w : World) (hp : PSt w P E s) (hm : MBox w M m) (hPM : P < M) (hst : s.st = false) (hn : m.wt + s.mu ≤ 100000) :
    Calls Tryz.prog 172 #[.pointer (some ⟨P, 0, none⟩), .pointer (some ⟨M, 0, none⟩)] w fun e w' => e = .returned (.tuple #[]) ∧ PSt w' P E (reservedF s m).1 ∧ MBox w' M (reservedF s m).2 ∧ Kp M P w w' := by
  obtain ⟨j0, hj, hy0, hy1, hy2⟩ := info_parts infoI64s
  obtain ⟨vF, vO, vR, hr⟩ := hm.open_
  have hM := hr.lt
  have hPl : P < w.heap.size := by omega
  have HR := Lib.hid hr
  have hmu1 := resS_mu s hst
  have hwt1 := resM_wt s m
  have hwl := (wt_le m).2.2
  have H1 := Lib.hid (word_any7 P E s ⟨#[114, 101, 115, 101, 114, 118, 101, 100]⟩ w hp)
  have H2 := Lib.hid (fun w h => num_any7 P E (s.word wReserved) w h)
  have HS : Hid (reservedF s m = ((resF (resS s) (resM s m)).1.sign [59], (resF (resS s) (resM s m)).2)) := Lib.hid rfl
  have HM : Hid (resM s m = { m with res := m.res ++ [(s.word wReserved).numV] }) := Lib.hid rfl
  have HMU := Lib.hid hmu1
  have HWT := Lib.hid hwt1
  obtain ⟨x, hx⟩ : ∃ x, x = (s.word wReserved).numV := ⟨_, rfl⟩
  rw [← hx] at H2 HM
  clear hr hm hp hmu1 hwt1 hst hx
  go_enter Tryz.func172, Tryz.ntmps172
  go_wp2_with fail
  refine H1.out.mono ?_
  rintro e w1 ⟨rfl, hp1, hg1⟩
  have hs1 := hg1.size
  have hr1 := HR.out.taken hg1 hPM
  have hk1 := (Kp.refl M P w).taken hg1 (by omega)
  have c1 := heap_cell hr1.box 3
  simp at c1
  have HR1 := Lib.hid hr1.drew
  have HK1 := Lib.hid (hk1.drew 1)
  have hM1 := hr1.lt
  clear hr1 hk1
  go_wp2_with fail
  go_region_law
    (first
      | (refine step_append_lies _ rfl _ _ 49 rfl (M + 1) 2 j0 _ 1 8 Tryz.underlying49 hj hy0 hy1 hy2 rfl (by decide) vR m.res.length (intv m.res) (by simp [Act.eval, Act.put]) (HR2.out.alloc _).r ⟨w2.heap.size, 0, none⟩ 1 1 [.int .i64 x] (by simp [Act.eval, Act.put]) rfl (World.news_of_block (heap_alloc_new _ _)) (by intro u hu; rw [List.mem_singleton.1 hu]; rfl) (by decide) (by unfold maxLen; omega) (by omega) (by simp; omega) w2.heap.size.succ (by simp) ?_; intro g3 cap3 w3 hown3 hg3 hat3 hlt3; have hb3 := (hg3.block M (HR2.out.alloc _).lt (fun e => by have := own_M HR2.out.r M e.symm; omega)).trans (HR2.out.alloc _).box; have c3 := heap_cell hb3 3; have f3 := heap_free hb3 3; simp at c3; have HB3 := Lib.hid hb3; clear hb3)
      | (go_simp; refine (H2.out _ hp1.drew).mono ?_; rintro e w2 ⟨rfl, hp2, hg2⟩; have hs2 : w1.heap.size ≤ w2.heap.size := hg2.size; have hr2 := HR1.out.taken hg2 hPM; have hk2 := HK1.out.taken hg2 (by show M ≤ w1.heap.size; omega); have c2 := heap_cell hr2.box 3; simp at c2; have HR2 := Lib.hid hr2; have HK2 := Lib.hid hk2; have hM2 := hr2.lt; clear hr2 hk2))
  all_goals
    have hsz3 := hg3.size
    simp at hsz3
    have hp3 := (hp2.alloc (.cells #[.int .i64 x] 2)).past (v := .slice (some ⟨g3, 0, none⟩) (m.res.length + 1) cap3) hPM (HR2.out.alloc _).r hg3 3
    have hm3 := (HR2.out.alloc (.cells #[.int .i64 x] 2)).addR hg3 hown3
    have HK3 := Lib.hid ((HK2.out.alloc (Nat.le_of_lt hM2) (.cells #[.int .i64 x] 2)).past (v := .slice (some ⟨g3, 0, none⟩) (m.res.length + 1) cap3) (by simp; omega) (HR2.out.alloc _).r hg3 3)
    rw [← HM.out] at hm3
    have HM3 := Lib.hid hm3
    have HP3 : Hid (PSt (w3.setCell ⟨M, 3, none⟩ (.slice (some ⟨g3, 0, none⟩) (m.res.length + 1) cap3)) P E (resS s)) := Lib.hid hp3
    clear hm3 hp3
    generalize hX : resF (resS s) (resM s m) = X at *
    have HX := Lib.hid hX
    clear hX
    go_wp2
    go_loopw [18] (fun _ wr => ResRel P E M w X 100000 wr) (fun _ wr => muW wr P)
    case atStart => exact ⟨resS s, resM s m, HP3.out, HM3.out, HK3.out, HX.out, by have := HMU.out; have := HWT.out; omega⟩
    case round =>
      obtain ⟨s5, m5, hp5, hm5, hk5, hx5, hw5⟩ := hrel
      have HX5 := Lib.hid hx5
      have HM5 := Lib.hid hm5
      have HK5 := Lib.hid hk5
      have HP5 := Lib.hid hp5
      have hmu5 := hp5.mu
      have hI := sees_any P E 3 ⟨#[44]⟩ s5 _ hp5
      clear hx5 hm5 hk5 hp5
      cases hin : s5.sees 3 [44]
      · have HI : Hid (Calls Tryz.prog 115 #[.pointer (some ⟨P, 0, none⟩), .int .i64 ((3 : Nat) : Int), .string ⟨#[44]⟩] wr fun e w' => e = .returned (.bool false) ∧ wr = w') := Lib.hid (hI.mono fun e w' h => ⟨by rw [h.1]; exact congrArg (fun b => Ending.returned (Value.bool b)) hin, h.2⟩)
        have HE : Hid (X = (s5, m5)) := Lib.hid (by rw [← HX5.out, resF, dif_neg (by rw [hin]; decide)])
        clear hI hin
        have HMU5 := Lib.hid hmu5
        clear hmu5
        go_wp2_with fail
        refine HI.out.mono ?_
        rintro e w6 ⟨rfl, rfl⟩
        go_wp2_with fail
        refine (sign_any7 P E s5 ⟨#[59]⟩ _ HP5.out).mono ?_
        rintro e w7 ⟨rfl, hp7, hg7⟩
        have hM7 := HM5.out.taken hg7 hPM
        have hk7 := HK5.out.taken hg7 (by have := HK5.out.size; omega)
        go_wp2
        refine bodyPost_end (results_none rfl _ _ _) rfl ?_
        rw [HS.out, HE.out]
        exact ⟨rfl, hp7, hM7, hk7⟩
      · have HI : Hid (Calls Tryz.prog 115 #[.pointer (some ⟨P, 0, none⟩), .int .i64 ((3 : Nat) : Int), .string ⟨#[44]⟩] wr fun e w' => e = .returned (.bool true) ∧ wr = w') := Lib.hid (hI.mono fun e w' h => ⟨by rw [h.1]; exact congrArg (fun b => Ending.returned (Value.bool b)) hin, h.2⟩)
        have HN : Hid (resF (s5.sign [44]).num { m5 with res := m5.res ++ [(s5.sign [44]).numV] } = X) := Lib.hid (by rw [← HX5.out, resF_in s5 m5 hin])
        have hmu6 := (S.sign_mu s5 [44]).2 (S.sees_l hin).1
        have hmu7 := (S.num_mu (s5.sign [44])).1
        have HIN := Lib.hid hin
        clear hI hin
        have HMU5 := Lib.hid hmu5
        clear hmu5
        go_wp2_with fail
        refine HI.out.mono ?_
        rintro e w6 ⟨rfl, rfl⟩
        go_wp2_with fail
        refine (sign_any7 P E s5 ⟨#[44]⟩ _ HP5.out).mono ?_
        rintro e w7 ⟨rfl, hp7, hg7⟩
        have H6 := Lib.hid (fun w h => num_any7 P E (s5.sign [44]) w h)
        obtain ⟨y, hy⟩ : ∃ y, y = (s5.sign [44]).numV := ⟨_, rfl⟩
        rw [← hy] at H6 HN
        have hwd := resM_add m5 y
        have HWD := Lib.hid hwd
        clear hy hwd
        have hs7 := hg7.size
        obtain ⟨wF, wO, wR, hr7⟩ := (HM5.out.taken hg7 hPM).open_
        have hk7 := HK5.out.taken hg7 (by have := HK5.out.size; omega)
        have c7 := heap_cell hr7.box 3
        simp at c7
        have HR7 := Lib.hid hr7.drew
        have HK7 := Lib.hid (hk7.drew 1)
        have hM7 := hr7.lt
        have hwl5 := (wt_le m5).2.2
        clear hr7 hk7
        go_wp2_with fail
        go_region_law
          (first
            | (refine step_append_lies _ rfl _ _ 49 rfl (M + 1) 2 j0 _ 1 8 Tryz.underlying49 hj hy0 hy1 hy2 rfl (by decide) wR m5.res.length (intv m5.res) (by simp [Act.eval, Act.put]) (HR8.out.alloc _).r ⟨w8.heap.size, 0, none⟩ 1 1 [.int .i64 y] (by simp [Act.eval, Act.put]) rfl (World.news_of_block (heap_alloc_new _ _)) (by intro u hu; rw [List.mem_singleton.1 hu]; rfl) (by decide) (by unfold maxLen; omega) (by omega) (by simp; omega) w8.heap.size.succ (by simp) ?_; intro g9 cap9 w9 hown9 hg9 hat9 hlt9; have hb9 := (hg9.block M (HR8.out.alloc _).lt (fun e => by have := own_M HR8.out.r M e.symm; omega)).trans (HR8.out.alloc _).box; have c9 := heap_cell hb9 3; have f9 := heap_free hb9 3; simp at c9; have HB9 := Lib.hid hb9; clear hb9)
            | (go_simp; refine (H6.out _ hp7.drew).mono ?_; rintro e w8 ⟨rfl, hp8, hg8⟩; have hs8 : w7.heap.size ≤ w8.heap.size := hg8.size; have hr8 := HR7.out.taken hg8 hPM; have hk8 := HK7.out.taken hg8 (by show M ≤ w7.heap.size; omega); have c8 := heap_cell hr8.box 3; simp at c8; have HR8 := Lib.hid hr8; have HK8 := Lib.hid hk8; have hM8 := hr8.lt; clear hr8 hk8))
        all_goals
          have hp9 := (hp8.alloc (.cells #[.int .i64 y] 2)).past (v := .slice (some ⟨g9, 0, none⟩) (m5.res.length + 1) cap9) hPM (HR8.out.alloc _).r hg9 3
          go_wp2
          refine ⟨⟨(s5.sign [44]).num, _, hp9, (HR8.out.alloc _).addR hg9 hown9, (HK8.out.alloc (Nat.le_of_lt hM8) _).past (by simp; omega) (HR8.out.alloc _).r hg9 3, HN.out, by have := HWD.out; omega⟩, ?_⟩
          rw [hp9.mu, HMU5.out]
          omega
end Go.Proofs.YtciiemomfniecaaGreatDoor
/-
  What reads an item, and a message: the contracts.
-/
namespace Go.Proofs.YtciiemomfniecaaGreatDoor
set_option maxRecDepth 100000

open Go.RowKit

/-- The function that reads the item that stands next. -/
def itemFn (s : S) : Nat := if s.sees 0 wRepeated then 170 else if s.sees 0 wOneof then 171 else if s.sees 0 wReserved then 172 else if s.map2 then 174 else 175
theorem item_read (P E M : Nat) (s : S) (m : Ms) (w : World) (hp : PSt w P E s) (hm : MBox w M m) (hPM : P < M) (hst : s.st = false) (hn : m.wt + s.mu ≤ 100000) :
    Calls Tryz.prog (itemFn s) #[.pointer (some ⟨P, 0, none⟩), .pointer (some ⟨M, 0, none⟩)] w fun e w' => e = .returned (.tuple #[]) ∧ PSt w' P E (itemF E s m).1 ∧ MBox w' M (itemF E s m).2 ∧ Kp M P w w' := by
  have hF : m.F.length ≤ 100000 := by have := wt_le m; omega
  unfold itemFn itemF
  by_cases h1 : s.sees 0 wRepeated = true
  · rw [if_pos h1, if_pos h1]; exact repeated_any P E M s m w hp hm hPM hF
  · rw [if_neg h1, if_neg h1]
    by_cases h2 : s.sees 0 wOneof = true
    · rw [if_pos h2, if_pos h2]; exact oneof_any P E M s m w hp hm hPM hst hn
    · rw [if_neg h2, if_neg h2]
      by_cases h3 : s.sees 0 wReserved = true
      · rw [if_pos h3, if_pos h3]; exact reserved_any P E M s m w hp hm hPM hst hn
      · rw [if_neg h3, if_neg h3]
        by_cases h4 : s.map2 = true
        · rw [if_pos h4, if_pos h4]; exact pairs_any P E M s m w hp hm hPM hF
        · rw [if_neg h4, if_neg h4]; exact single_any P E M s m w hp hm hPM hF
theorem item_enters (s : S) : ∀ args w, (callFunc (itemFn s) args).run Tryz.prog w = .ok (.enter (itemFn s) args) w := by
  unfold itemFn
  split
  · exact enters_of Tryz.func170 (by kernel_rfl) rfl
  · split
    · exact enters_of Tryz.func171 (by kernel_rfl) rfl
    · split
      · exact enters_of Tryz.func172 (by kernel_rfl) rfl
      · split
        · exact enters_of Tryz.func174 (by kernel_rfl) rfl
        · exact enters_of Tryz.func175 (by kernel_rfl) rfl
def itemV (P k : Nat) : Value := .func (.func k) #[.pointer (some ⟨P, 0, none⟩)] #[]
theorem ret_item {P k k' : Nat} (h : k = k') : Ending.returned (.func (.func k) #[.pointer (some ⟨P, 0, none⟩)] #[]) = .returned (itemV P k') := by rw [h]; rfl
set_option maxHeartbeats 1000000 in
theorem item_any (P E : Nat) (s : S) (w : World) (h : PSt w P E s) : Calls Tryz.prog 146 #[.pointer (some ⟨P, 0, none⟩)] w fun e w' => e = .returned (itemV P (itemFn s)) ∧ w = w' := by
  have H1 := Lib.hid (sees_any P E 0 ⟨#[114, 101, 112, 101, 97, 116, 101, 100]⟩ s w h)
  have H2 := Lib.hid (sees_any P E 0 ⟨#[111, 110, 101, 111, 102]⟩ s w h)
  have H3 := Lib.hid (sees_any P E 0 ⟨#[114, 101, 115, 101, 114, 118, 101, 100]⟩ s w h)
  have H4 := Lib.hid (map2_any P E s w h)
  have hF : itemFn s = if s.sees 0 wRepeated then 170 else if s.sees 0 wOneof then 171 else if s.sees 0 wReserved then 172 else if s.map2 then 174 else 175 := rfl
  change Hid (Calls _ _ _ _ fun e w' => e = .returned (.bool (s.sees 0 wRepeated)) ∧ w = w') at H1
  change Hid (Calls _ _ _ _ fun e w' => e = .returned (.bool (s.sees 0 wOneof)) ∧ w = w') at H2
  change Hid (Calls _ _ _ _ fun e w' => e = .returned (.bool (s.sees 0 wReserved)) ∧ w = w') at H3
  generalize s.sees 0 wRepeated = b1 at *
  generalize s.sees 0 wOneof = b2 at *
  generalize s.sees 0 wReserved = b3 at *
  generalize s.map2 = b4 at *
  have HF := Lib.hid hF
  clear hF
  go_enter Tryz.func146, Tryz.ntmps146
  go_wp2_with fail
  refine H1.out.mono ?_
  rintro e w' ⟨rfl, rfl⟩
  cases b1
  · go_wp2_with fail
    refine H2.out.mono ?_
    rintro e w' ⟨rfl, rfl⟩
    cases b2
    · go_wp2_with fail
      refine H3.out.mono ?_
      rintro e w' ⟨rfl, rfl⟩
      cases b3
      · go_wp2_with fail
        refine H4.out.mono ?_
        rintro e w' ⟨rfl, rfl⟩
        cases b4
        all_goals
          go_wp2
          go_ret
          exact ⟨ret_item (by rw [HF.out]; rfl), rfl⟩
      · go_wp2
        go_ret
        exact ⟨ret_item (by rw [HF.out]; rfl), rfl⟩
    · go_wp2
      go_ret
      exact ⟨ret_item (by rw [HF.out]; rfl), rfl⟩
  · go_wp2
    go_ret
    exact ⟨ret_item (by rw [HF.out]; rfl), rfl⟩
end Go.Proofs.YtciiemomfniecaaGreatDoor
/-
  A message is read: the contract.
-/
namespace Go.Proofs.YtciiemomfniecaaGreatDoor
set_option maxRecDepth 100000

open Go.RowKit

/-- A message's slices, as they are read. -/
structure MRead (w : World) (m : Ms) (vF vO vR : Value) : Prop where
  f : w.ownsRow 0 53 7 vF m.F.length (fdv m.F)
  o : w.ownsRow 0 9 1 vO m.ones.length (strv m.ones)
  r : w.ownsRow 0 2 1 vR m.res.length (intv m.res)
theorem MRow.read {w : World} {M : Nat} {m : Ms} {vF vO vR : Value} (h : MRow w M m vF vO vR) : MRead w m vF vO vR := ⟨own_mono h.f (Nat.zero_le _), own_mono h.o (Nat.zero_le _), own_mono h.r (Nat.zero_le _)⟩
theorem own_one {w : World} {b : Nat} {e : TypeId} {size : Nat} {v : Value} {n : Nat} {xs : List Value} (h : w.ownsRow b e size v n xs) : v.oneCell' = true := by
  rcases h.2 with ⟨rfl, _⟩ | ⟨g, cap, cur, rfl, _⟩ <;> rfl
def MsV (m : Ms) (vF vO vR : Value) : Value := .agg #[.string (txt m.name), vF, vO, vR, .int .i64 m.at_]
theorem infoMs : (Tryz.prog.info? 51).map (·.size) = some 5 := by kernel_rfl
theorem wpList_store_ms {ops : Array Oper} {rest : List Oper} {o : Oper} {a : Act} {w : World} {Q : Exit → Act → World → Prop} (hgd : o.guard = none) (x y : Operand) (ho : o.op = .store 51 x y)
    (hd : o.dst = none) (g : Nat) (b0 : ByteArray) (v1 v2 v3 : Value) (b4 : Int) (u0 u1 u2 u3 u4 : Value) (hx : a.eval x = .pointer (some ⟨g, 0, none⟩)) (hy : a.eval y = .agg #[.string b0, v1, v2, v3, .int .i64 b4])
    (h1 : v1.oneCell' = true) (h2 : v2.oneCell' = true) (h3 : v3.oneCell' = true)
    (t : TypeId) (hg : w.heap[g]? = some (.cells #[u0, u1, u2, u3, u4] t (0, 0)))
    (h : wpList Tryz.prog ops Q rest a (w.setRow g #[.string b0, v1, v2, v3, .int .i64 b4])) : wpList Tryz.prog ops Q (o :: rest) a w :=
  wpList_store_rowTo hgd 51 x y ho hd g _ hx hy t _ hg infoMs rfl (by simp [h1, h2, h3]; simp [Value.oneCell']) h
theorem wpList_load_ms {ops : Array Oper} {rest : List Oper} {o : Oper} {a : Act} {w : World} {Q : Exit → Act → World → Prop} (hgd : o.guard = none) (x : Operand) (ho : o.op = .load 51 x)
    (g : Nat) (u0 u1 u2 u3 u4 : Value) (hx : a.eval x = .pointer (some ⟨g, 0, none⟩)) (t : TypeId) (fr : Nat × Nat) (hg : w.heap[g]? = some (.cells #[u0, u1, u2, u3, u4] t fr))
    (h : wpList Tryz.prog ops Q rest (a.put o.dst (.agg #[u0, u1, u2, u3, u4])) w) : wpList Tryz.prog ops Q (o :: rest) a w :=
  wpList_load_row hgd 51 x ho g hx t _ fr _ hg Tryz.underlying51 rfl infoMs h
theorem results_ms {fn : Func} {p : Tmp} (h : fn.results = #[.cell p 51]) (tmps : Array Value) (w : World) (g : Nat) (t : TypeId) (u0 u1 u2 u3 u4 : Value) (fr : Nat × Nat)
    (hp : tmps.getD p undef = .pointer (some ⟨g, 0, none⟩)) (hg : w.heap[g]? = some (.cells #[u0, u1, u2, u3, u4] t fr)) :
    (results fn tmps).run Tryz.prog w = .ok (.agg #[u0, u1, u2, u3, u4]) w :=
  results_cell_row h tmps w g t _ fr _ hp hg Tryz.underlying51 rfl infoMs
theorem itemsF_in (E : Nat) (s : S) (m : Ms) (h : s.inside = true) : itemsF E s m = itemsF E (itemF E s m).1 (itemF E s m).2 := by rw [itemsF, dif_pos h]
/-- Where the loop over a message's items is. -/
def ItRel (P E M : Nat) (w : World) (X : S × Ms) (K : Nat) (wr : World) : Prop := ∃ s m, PSt wr P E s ∧ MBox wr M m ∧ Kp M P w wr ∧ itemsF E s m = X ∧ m.wt + s.mu ≤ K
/-- What is told of a message that is read. -/
def MsPost (P E : Nat) (w : World) (X : S × Ms) (e : Ending) (w' : World) : Prop := ∃ vF vO vR, e = .returned (MsV X.2 vF vO vR) ∧ MRead w' X.2 vF vO vR ∧ PSt w' P E X.1 ∧ w.grownBy w' (some P)
theorem MRead.kept {w w' : World} {m : Ms} {vF vO vR : Value} (h : MRead w m vF vO vR) {g : Nat} {o : Obj} (hg : w.grownBy w' (some g)) (ho : w.heap[g]? = some o) (ht : ∀ cs t fr, o = .cells cs t fr → t ≠ 53 ∧ t ≠ 9 ∧ t ≠ 2) : MRead w' m vF vO vR := by
  have key : ∀ {e : TypeId} {size : Nat} {v : Value} {n : Nat} {xs : List Value}, w.ownsRow 0 e size v n xs → (e = 53 ∨ e = 9 ∨ e = 2) → w'.ownsRow 0 e size v n xs := by
    intro e size v n xs hr he
    refine hr.kept hg ?_
    rcases hr.2 with ⟨rfl, _⟩ | ⟨g', cap, cur, rfl, _, h2, _⟩
    · exact .inl rfl
    · right
      simp only [Value.ownBlock, ne_eq, Option.some.injEq]
      rintro rfl
      rw [h2] at ho
      obtain rfl := Option.some.inj ho
      have := ht _ _ _ rfl
      rcases he with rfl | rfl | rfl
      · exact this.1 rfl
      · exact this.2.1 rfl
      · exact this.2.2 rfl
  exact ⟨key h.f (.inl rfl), key h.o (.inr (.inl rfl)), key h.r (.inr (.inr rfl))⟩
theorem msgM_wt (E : Nat) (s : S) : (msgM E s).wt = 0 := rfl
theorem new_box (w : World) (name : ByteArray) (m : Ms) (hn : name = txt m.name) (h0 : m.F = [] ∧ m.ones = [] ∧ m.res = []) {M : Nat} (hb : w.heap[M]? = some (.cells #[.string name, .slice none 0 0, .slice none 0 0, .slice none 0 0, .int .i64 m.at_] 51 (0, 0))) : MBox w M m := by
  obtain ⟨h1, h2, h3⟩ := h0
  refine ⟨.slice none 0 0, .slice none 0 0, .slice none 0 0, by rw [← hn]; exact hb, ?_, ?_, ?_⟩
  · rw [h1]; exact World.ownsRow_nil _ _ _ _
  · rw [h2]; exact World.ownsRow_nil _ _ _ _
  · rw [h3]; exact World.ownsRow_nil _ _ _ _

set_option maxHeartbeats 2000000 in
theorem message_any (P E : Nat) (s : S) (w : World) (hp : PSt w P E s) (hst : s.st = false) (hn : s.mu ≤ 50000) :
    Calls Tryz.prog 117 #[.pointer (some ⟨P, 0, none⟩)] w (MsPost P E w (messageF E s)) := by
  have hPl := hp.lt
  have hmu1 := msgS_mu s hst
  have H0 := Lib.hid (fun w h => place_any P E s w h)
  have H1 := Lib.hid (fun w h => word_any7 P E s ⟨#[109, 101, 115, 115, 97, 103, 101]⟩ w h)
  have H2 := Lib.hid (fun w h => name_any7 P E (s.word wMessage) w h)
  have H3 := Lib.hid (fun w h => sign_any7 P E (s.word wMessage).name ⟨#[123]⟩ w h)
  have HS : Hid (messageF E s = ((itemsF E (msgS s) (msgM E s)).1.sign [125], (itemsF E (msgS s) (msgM E s)).2)) := Lib.hid rfl
  have HMM : Hid (msgM E s = ⟨(s.word wMessage).nameT, [], [], [], s.place E⟩) := Lib.hid rfl
  have HMU := Lib.hid hmu1
  have HP := Lib.hid hp
  clear hp hst hmu1
  go_enter Tryz.func117, Tryz.ntmps117
  go_wp2_with fail
  refine (H0.out _ (HP.out.alloc _)).mono ?_
  rintro e w0 ⟨rfl, rfl⟩
  go_wp2_with fail
  refine (H1.out _ ((HP.out.alloc _).alloc _)).mono ?_
  rintro e w1 ⟨rfl, hp1, hg1⟩
  have hs1 := hg1.size
  simp at hs1
  have HK1 := Lib.hid ((((Kp.refl w.heap.size P w).alloc (Nat.le_refl _) _).alloc (by simp) _).taken hg1 (by simp; omega))
  have HR1 := Lib.hid (stays (heap_first w _ _ rfl) hg1 hPl)
  have HB1 := Lib.hid (stays (heap_second w _ _) hg1 (by omega))
  clear hg1
  go_wp2_with fail
  refine (H2.out w1 hp1).mono ?_
  rintro e w2 ⟨rfl, hp2, hg2⟩
  have hs2 := hg2.size
  have HK2 := Lib.hid (HK1.out.taken hg2 (by omega))
  have HR2 := Lib.hid (stays HR1.out hg2 hPl)
  have HB2 := Lib.hid (stays HB1.out hg2 (by omega))
  have c0 := heap_cell HB2.out 0
  have f0 := heap_free HB2.out 0
  simp at c0
  clear hg2 HK1 HR1 HB1
  go_wp2_with fail
  refine (H3.out _ (hp2.setCell (by simp; omega) _)).mono ?_
  rintro e w3 ⟨rfl, hp3, hg3⟩
  have hs3 := hg3.size
  simp [World.setCell] at hs3
  have HK3 := Lib.hid ((HK2.out.setCell (by simp) _).taken hg3 (by simp [World.setCell]; omega))
  have HR3 := Lib.hid (stays ((Below.heap_setCell w2 _ _ _ (by simp)).trans HR2.out) hg3 hPl)
  have hb3 := stays (heap_setCell_same HB2.out _) hg3 (by omega)
  simp at hb3
  have HM3 : Hid (MBox w3 (w.heap.size + 1) (msgM E s)) := Lib.hid (new_box w3 _ _ (by rw [HMM.out]) ⟨rfl, rfl, rfl⟩ (by rw [hb3, HMM.out]))
  have HP3 : Hid (PSt w3 P E (msgS s)) := Lib.hid hp3
  clear hg3 HK2 HR2 HB2 c0 f0 hb3 hp3
  generalize hX : itemsF E (msgS s) (msgM E s) = X at *
  have HX := Lib.hid hX
  clear hX
  go_wp2
  go_loopw [4] (fun _ wr => ItRel P E (w.heap.size + 1) w3 X 50000 wr) (fun _ wr => muW wr P)
  case atStart => exact ⟨msgS s, msgM E s, HP3.out, HM3.out, Kp.refl _ _ _, HX.out, by have := HMU.out; have := msgM_wt E s; omega⟩
  case round =>
    obtain ⟨s5, m5, hp5, hm5, hk5, hx5, hw5⟩ := hrel
    have HX5 := Lib.hid hx5
    have HM5 := Lib.hid hm5
    have HK5 := Lib.hid hk5
    have HP5 := Lib.hid hp5
    have hmu5 := hp5.mu
    have hI := inside_any P E s5 _ hp5
    clear hx5 hm5 hk5 hp5
    cases hin : s5.inside
    · rw [hin] at hI
      have HI := Lib.hid hI
      have HE : Hid (X = (s5, m5)) := Lib.hid (by rw [← HX5.out, itemsF, dif_neg (by rw [hin]; decide)])
      clear hI hin
      have HMU5 := Lib.hid hmu5
      clear hmu5
      go_wp2_with fail
      refine HI.out.mono ?_
      rintro e w6 ⟨rfl, rfl⟩
      go_wp2_with fail
      refine (sign_any7 P E s5 ⟨#[125]⟩ _ HP5.out).mono ?_
      rintro e w7 ⟨rfl, hp7, hg7⟩
      have hsr := HK5.out.size
      obtain ⟨vF, vO, vR, hr7⟩ := (HM5.out.taken hg7 (by omega)).open_
      have hk7 := HK5.out.taken hg7 (by omega)
      have hR7 := (hk7.block w.heap.size (by omega) (by omega)).trans HR3.out
      have HR7 := Lib.hid hr7
      have HB7 := Lib.hid hr7.box
      have HK7 : Hid (Kp w.heap.size P w w7) := Lib.hid (HK3.out.trans (hk7.mono (by omega)))
      have HRR := Lib.hid hR7
      have g1 := own_one hr7.f
      have g2 := own_one hr7.o
      have g3 := own_one hr7.r
      clear hr7 hk7 hR7
      go_wp2_with (refine wpList_load_ms rfl _ rfl (w.heap.size + 1) _ _ _ _ _ rfl _ _ HB7.out ?_; refine wpList_store_ms rfl _ _ rfl rfl w.heap.size _ _ _ _ _ _ _ _ _ _ rfl rfl g1 g2 g3 _ HRR.out ?_)
      refine bodyPost_ret (results_ms rfl _ _ w.heap.size _ _ _ _ _ _ (0, 0) rfl (setRow_heap _ _ _ _ _ _ HRR.out)) rfl ?_
      rw [HS.out, HE.out]
      have hgr : w7.grownBy (w7.setRow w.heap.size #[.string (txt m5.name), vF, vO, vR, .int .i64 m5.at_]) (some w.heap.size) := ⟨rfl, rfl, rfl, by simp, fun k _ hk => setRow_other _ _ _ _ (by simpa using hk)⟩
      exact ⟨vF, vO, vR, rfl, HR7.out.read.kept hgr HRR.out (by intro cs t fr h; cases h; decide), hp7.setRow (by omega) _, (HK7.out.setRow (Nat.le_refl _) _).out⟩
    · rw [hin] at hI
      have HI := Lib.hid hI
      have hst5 := S.inside_st hin
      have HN : Hid (itemsF E (itemF E s5 m5).1 (itemF E s5 m5).2 = X) := Lib.hid (by rw [← HX5.out, itemsF_in E s5 m5 hin])
      have hwt := itemF_wt E s5 m5 hst5
      have HIT := Lib.hid (item_any P E s5 wr HP5.out)
      have HRD := Lib.hid (item_read P E (w.heap.size + 1) s5 m5 wr HP5.out HM5.out (by omega) hst5 (by omega))
      have hen := item_enters s5
      have HWT := Lib.hid hwt
      clear hI hin hst5 hwt
      have HMU5 := Lib.hid hmu5
      clear hmu5
      go_wp2_with fail
      refine HI.out.mono ?_
      rintro e w6 ⟨rfl, rfl⟩
      go_wp2_with fail
      refine HIT.out.mono ?_
      rintro e w6 ⟨rfl, rfl⟩
      unfold itemV
      go_wp2_with fail
      refine HRD.out.mono ?_
      rintro e w7 ⟨rfl, hp7, hm7, hk7⟩
      go_wp2
      refine ⟨⟨_, _, hp7, hm7, HK5.out.trans hk7, HN.out, by have := HWT.out; omega⟩, ?_⟩
      rw [hp7.mu, HMU5.out]
      have := HWT.out
      omega
end Go.Proofs.YtciiemomfniecaaGreatDoor
