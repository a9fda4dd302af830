/-
  Reserved numbers are read: the contract.
-/
import Derived.Test.YtldgfepimegbmaaDoorProOnes
namespace Go.Proofs.YtldgfepimegbmaaDoor
set_option maxRecDepth 100000
open Go.RowKit

theorem resM_add (m : Ms) (n : Int) : ({ m with res := m.res ++ [n] } : Ms).wt = m.wt + 1 := by simp [Ms.wt]; omega
set_option maxHeartbeats 2000000 in
theorem reserved_any (P E M : Nat) (s : S) (m : Ms) (w : World) (hp : PSt w P E s) (hm : MBox w M m) (hPM : P < M) (hst : s.st = false) (hn : m.wt + s.mu ≤ 100000) :
    Calls Tryd.prog 63 #[.pointer (some ⟨P, 0, none⟩), .pointer (some ⟨M, 0, none⟩)] w fun e w' => e = .returned (.tuple #[]) ∧ PSt w' P E (reservedF s m).1 ∧ MBox w' M (reservedF s m).2 ∧ Kp M P w w' := by
  obtain ⟨j0, hj, hy0, hy1, hy2⟩ := info_parts infoI64s
  obtain ⟨vF, vO, vR, hr⟩ := hm.open_
  have hM := hr.lt
  have hPl : P < w.heap.size := by omega
  have HR := Lib.hid hr
  have hmu1 := resS_mu s hst
  have hwt1 := resM_wt s m
  have hwl := (wt_le m).2.2
  have H1 := Lib.hid (word_any7 P E s ⟨#[114, 101, 115, 101, 114, 118, 101, 100]⟩ w hp)
  have H2 := Lib.hid (fun w h => num_any7 P E (s.word wReserved) w h)
  have HS : Hid (reservedF s m = ((resF (resS s) (resM s m)).1.sign [59], (resF (resS s) (resM s m)).2)) := Lib.hid rfl
  have HM : Hid (resM s m = { m with res := m.res ++ [(s.word wReserved).numV] }) := Lib.hid rfl
  have HMU := Lib.hid hmu1
  have HWT := Lib.hid hwt1
  obtain ⟨x, hx⟩ : ∃ x, x = (s.word wReserved).numV := ⟨_, rfl⟩
  rw [← hx] at H2 HM
  clear hr hm hp hmu1 hwt1 hst hx
  go_enter Tryd.func63, Tryd.ntmps63
  go_wp2_with fail
  refine H1.out.mono ?_
  rintro e w1 ⟨rfl, hp1, hg1⟩
  have hs1 := hg1.size
  have hr1 := HR.out.taken hg1 hPM
  have hk1 := (Kp.refl M P w).taken hg1 (by omega)
  have c1 := heap_cell hr1.box 3
  simp at c1
  have HR1 := Lib.hid hr1.drew
  have HK1 := Lib.hid (hk1.drew 1)
  have hM1 := hr1.lt
  clear hr1 hk1
  go_wp2_with fail
  go_region_law
    (first
      | (refine step_append_lies _ rfl _ _ 32 rfl (M + 1) 2 j0 _ 1 8 Tryd.underlying32 hj hy0 hy1 hy2 rfl (by decide) vR m.res.length (intv m.res) (by simp [Act.eval, Act.put]) (HR2.out.alloc _).r ⟨w2.heap.size, 0, none⟩ 1 1 [.int .i64 x] (by simp [Act.eval, Act.put]) rfl (World.news_of_block (heap_alloc_new _ _)) (by intro u hu; rw [List.mem_singleton.1 hu]; rfl) (by decide) (by unfold maxLen; omega) (by omega) (by simp; omega) w2.heap.size.succ (by simp) ?_; intro g3 cap3 w3 hown3 hg3 hat3 hlt3; have hb3 := (hg3.block M (HR2.out.alloc _).lt (fun e => by have := own_M HR2.out.r M e.symm; omega)).trans (HR2.out.alloc _).box; have c3 := heap_cell hb3 3; have f3 := heap_free hb3 3; simp at c3; have HB3 := Lib.hid hb3; clear hb3)
      | (go_simp; refine (H2.out _ hp1.drew).mono ?_; rintro e w2 ⟨rfl, hp2, hg2⟩; have hs2 : w1.heap.size ≤ w2.heap.size := hg2.size; have hr2 := HR1.out.taken hg2 hPM; have hk2 := HK1.out.taken hg2 (by show M ≤ w1.heap.size; omega); have c2 := heap_cell hr2.box 3; simp at c2; have HR2 := Lib.hid hr2; have HK2 := Lib.hid hk2; have hM2 := hr2.lt; clear hr2 hk2))
  all_goals
    have hsz3 := hg3.size
    simp at hsz3
    have hp3 := (hp2.alloc (.cells #[.int .i64 x] 2)).past (v := .slice (some ⟨g3, 0, none⟩) (m.res.length + 1) cap3) hPM (HR2.out.alloc _).r hg3 3
    have hm3 := (HR2.out.alloc (.cells #[.int .i64 x] 2)).addR hg3 hown3
    have HK3 := Lib.hid ((HK2.out.alloc (Nat.le_of_lt hM2) (.cells #[.int .i64 x] 2)).past (v := .slice (some ⟨g3, 0, none⟩) (m.res.length + 1) cap3) (by simp; omega) (HR2.out.alloc _).r hg3 3)
    rw [← HM.out] at hm3
    have HM3 := Lib.hid hm3
    have HP3 : Hid (PSt (w3.setCell ⟨M, 3, none⟩ (.slice (some ⟨g3, 0, none⟩) (m.res.length + 1) cap3)) P E (resS s)) := Lib.hid hp3
    clear hm3 hp3
    generalize hX : resF (resS s) (resM s m) = X at *
    have HX := Lib.hid hX
    clear hX
    go_wp2
    go_loopw [18] (fun _ wr => ResRel P E M w X 100000 wr) (fun _ wr => muW wr P)
    case atStart => exact ⟨resS s, resM s m, HP3.out, HM3.out, HK3.out, HX.out, by have := HMU.out; have := HWT.out; omega⟩
    case round =>
      obtain ⟨s5, m5, hp5, hm5, hk5, hx5, hw5⟩ := hrel
      have HX5 := Lib.hid hx5
      have HM5 := Lib.hid hm5
      have HK5 := Lib.hid hk5
      have HP5 := Lib.hid hp5
      have hmu5 := hp5.mu
      have hI := sees_any P E 3 ⟨#[44]⟩ s5 _ hp5
      clear hx5 hm5 hk5 hp5
      cases hin : s5.sees 3 [44]
      · have HI : Hid (Calls Tryd.prog 22 #[.pointer (some ⟨P, 0, none⟩), .int .i64 ((3 : Nat) : Int), .string ⟨#[44]⟩] wr fun e w' => e = .returned (.bool false) ∧ wr = w') := Lib.hid (hI.mono fun e w' h => ⟨by rw [h.1]; exact congrArg (fun b => Ending.returned (Value.bool b)) hin, h.2⟩)
        have HE : Hid (X = (s5, m5)) := Lib.hid (by rw [← HX5.out, resF, dif_neg (by rw [hin]; decide)])
        clear hI hin
        have HMU5 := Lib.hid hmu5
        clear hmu5
        go_wp2_with fail
        refine HI.out.mono ?_
        rintro e w6 ⟨rfl, rfl⟩
        go_wp2_with fail
        refine (sign_any7 P E s5 ⟨#[59]⟩ _ HP5.out).mono ?_
        rintro e w7 ⟨rfl, hp7, hg7⟩
        have hM7 := HM5.out.taken hg7 hPM
        have hk7 := HK5.out.taken hg7 (by have := HK5.out.size; omega)
        go_wp2
        refine bodyPost_end (results_none rfl _ _ _) rfl ?_
        rw [HS.out, HE.out]
        exact ⟨rfl, hp7, hM7, hk7⟩
      · have HI : Hid (Calls Tryd.prog 22 #[.pointer (some ⟨P, 0, none⟩), .int .i64 ((3 : Nat) : Int), .string ⟨#[44]⟩] wr fun e w' => e = .returned (.bool true) ∧ wr = w') := Lib.hid (hI.mono fun e w' h => ⟨by rw [h.1]; exact congrArg (fun b => Ending.returned (Value.bool b)) hin, h.2⟩)
        have HN : Hid (resF (s5.sign [44]).num { m5 with res := m5.res ++ [(s5.sign [44]).numV] } = X) := Lib.hid (by rw [← HX5.out, resF_in s5 m5 hin])
        have hmu6 := (S.sign_mu s5 [44]).2 (S.sees_l hin).1
        have hmu7 := (S.num_mu (s5.sign [44])).1
        have HIN := Lib.hid hin
        clear hI hin
        have HMU5 := Lib.hid hmu5
        clear hmu5
        go_wp2_with fail
        refine HI.out.mono ?_
        rintro e w6 ⟨rfl, rfl⟩
        go_wp2_with fail
        refine (sign_any7 P E s5 ⟨#[44]⟩ _ HP5.out).mono ?_
        rintro e w7 ⟨rfl, hp7, hg7⟩
        have H6 := Lib.hid (fun w h => num_any7 P E (s5.sign [44]) w h)
        obtain ⟨y, hy⟩ : ∃ y, y = (s5.sign [44]).numV := ⟨_, rfl⟩
        rw [← hy] at H6 HN
        have hwd := resM_add m5 y
        have HWD := Lib.hid hwd
        clear hy hwd
        have hs7 := hg7.size
        obtain ⟨wF, wO, wR, hr7⟩ := (HM5.out.taken hg7 hPM).open_
        have hk7 := HK5.out.taken hg7 (by have := HK5.out.size; omega)
        have c7 := heap_cell hr7.box 3
        simp at c7
        have HR7 := Lib.hid hr7.drew
        have HK7 := Lib.hid (hk7.drew 1)
        have hM7 := hr7.lt
        have hwl5 := (wt_le m5).2.2
        clear hr7 hk7
        go_wp2_with fail
        go_region_law
          (first
            | (refine step_append_lies _ rfl _ _ 32 rfl (M + 1) 2 j0 _ 1 8 Tryd.underlying32 hj hy0 hy1 hy2 rfl (by decide) wR m5.res.length (intv m5.res) (by simp [Act.eval, Act.put]) (HR8.out.alloc _).r ⟨w8.heap.size, 0, none⟩ 1 1 [.int .i64 y] (by simp [Act.eval, Act.put]) rfl (World.news_of_block (heap_alloc_new _ _)) (by intro u hu; rw [List.mem_singleton.1 hu]; rfl) (by decide) (by unfold maxLen; omega) (by omega) (by simp; omega) w8.heap.size.succ (by simp) ?_; intro g9 cap9 w9 hown9 hg9 hat9 hlt9; have hb9 := (hg9.block M (HR8.out.alloc _).lt (fun e => by have := own_M HR8.out.r M e.symm; omega)).trans (HR8.out.alloc _).box; have c9 := heap_cell hb9 3; have f9 := heap_free hb9 3; simp at c9; have HB9 := Lib.hid hb9; clear hb9)
            | (go_simp; refine (H6.out _ hp7.drew).mono ?_; rintro e w8 ⟨rfl, hp8, hg8⟩; have hs8 : w7.heap.size ≤ w8.heap.size := hg8.size; have hr8 := HR7.out.taken hg8 hPM; have hk8 := HK7.out.taken hg8 (by show M ≤ w7.heap.size; omega); have c8 := heap_cell hr8.box 3; simp at c8; have HR8 := Lib.hid hr8; have HK8 := Lib.hid hk8; have hM8 := hr8.lt; clear hr8 hk8))
        all_goals
          have hp9 := (hp8.alloc (.cells #[.int .i64 y] 2)).past (v := .slice (some ⟨g9, 0, none⟩) (m5.res.length + 1) cap9) hPM (HR8.out.alloc _).r hg9 3
          go_wp2
          refine ⟨⟨(s5.sign [44]).num, _, hp9, (HR8.out.alloc _).addR hg9 hown9, (HK8.out.alloc (Nat.le_of_lt hM8) _).past (by simp; omega) (HR8.out.alloc _).r hg9 3, HN.out, by have := HWD.out; omega⟩, ?_⟩
          rw [hp9.mu, HMU5.out]
          omega
end Go.Proofs.YtldgfepimegbmaaDoor
/-
  What reads an item, and a message: the contracts.
-/
namespace Go.Proofs.YtldgfepimegbmaaDoor
set_option maxRecDepth 100000
open Go.RowKit

/-- The function that reads the item that stands next. -/
def itemFn (s : S) : Nat := if s.sees 0 wRepeated then 61 else if s.sees 0 wOneof then 62 else if s.sees 0 wReserved then 63 else if s.map2 then 65 else 66
theorem item_read (P E M : Nat) (s : S) (m : Ms) (w : World) (hp : PSt w P E s) (hm : MBox w M m) (hPM : P < M) (hst : s.st = false) (hn : m.wt + s.mu ≤ 100000) :
    Calls Tryd.prog (itemFn s) #[.pointer (some ⟨P, 0, none⟩), .pointer (some ⟨M, 0, none⟩)] w fun e w' => e = .returned (.tuple #[]) ∧ PSt w' P E (itemF E s m).1 ∧ MBox w' M (itemF E s m).2 ∧ Kp M P w w' := by
  have hF : m.F.length ≤ 100000 := by have := wt_le m; omega
  unfold itemFn itemF
  by_cases h1 : s.sees 0 wRepeated = true
  · rw [if_pos h1, if_pos h1]; exact repeated_any P E M s m w hp hm hPM hF
  · rw [if_neg h1, if_neg h1]
    by_cases h2 : s.sees 0 wOneof = true
    · rw [if_pos h2, if_pos h2]; exact oneof_any P E M s m w hp hm hPM hst hn
    · rw [if_neg h2, if_neg h2]
      by_cases h3 : s.sees 0 wReserved = true
      · rw [if_pos h3, if_pos h3]; exact reserved_any P E M s m w hp hm hPM hst hn
      · rw [if_neg h3, if_neg h3]
        by_cases h4 : s.map2 = true
        · rw [if_pos h4, if_pos h4]; exact pairs_any P E M s m w hp hm hPM hF
        · rw [if_neg h4, if_neg h4]; exact single_any P E M s m w hp hm hPM hF
theorem item_enters (s : S) : ∀ args w, (callFunc (itemFn s) args).run Tryd.prog w = .ok (.enter (itemFn s) args) w := by
  unfold itemFn
  split
  · exact enters_of Tryd.func61 (by kernel_rfl) rfl
  · split
    · exact enters_of Tryd.func62 (by kernel_rfl) rfl
    · split
      · exact enters_of Tryd.func63 (by kernel_rfl) rfl
      · split
        · exact enters_of Tryd.func65 (by kernel_rfl) rfl
        · exact enters_of Tryd.func66 (by kernel_rfl) rfl
def itemV (P k : Nat) : Value := .func (.func k) #[.pointer (some ⟨P, 0, none⟩)] #[]
theorem ret_item {P k k' : Nat} (h : k = k') : Ending.returned (.func (.func k) #[.pointer (some ⟨P, 0, none⟩)] #[]) = .returned (itemV P k') := by rw [h]; rfl
set_option maxHeartbeats 1000000 in
theorem item_any (P E : Nat) (s : S) (w : World) (h : PSt w P E s) : Calls Tryd.prog 51 #[.pointer (some ⟨P, 0, none⟩)] w fun e w' => e = .returned (itemV P (itemFn s)) ∧ w = w' := by
  have H1 := Lib.hid (sees_any P E 0 ⟨#[114, 101, 112, 101, 97, 116, 101, 100]⟩ s w h)
  have H2 := Lib.hid (sees_any P E 0 ⟨#[111, 110, 101, 111, 102]⟩ s w h)
  have H3 := Lib.hid (sees_any P E 0 ⟨#[114, 101, 115, 101, 114, 118, 101, 100]⟩ s w h)
  have H4 := Lib.hid (map2_any P E s w h)
  have hF : itemFn s = if s.sees 0 wRepeated then 61 else if s.sees 0 wOneof then 62 else if s.sees 0 wReserved then 63 else if s.map2 then 65 else 66 := rfl
  change Hid (Calls _ _ _ _ fun e w' => e = .returned (.bool (s.sees 0 wRepeated)) ∧ w = w') at H1
  change Hid (Calls _ _ _ _ fun e w' => e = .returned (.bool (s.sees 0 wOneof)) ∧ w = w') at H2
  change Hid (Calls _ _ _ _ fun e w' => e = .returned (.bool (s.sees 0 wReserved)) ∧ w = w') at H3
  generalize s.sees 0 wRepeated = b1 at *
  generalize s.sees 0 wOneof = b2 at *
  generalize s.sees 0 wReserved = b3 at *
  generalize s.map2 = b4 at *
  have HF := Lib.hid hF
  clear hF
  go_enter Tryd.func51, Tryd.ntmps51
  go_wp2_with fail
  refine H1.out.mono ?_
  rintro e w' ⟨rfl, rfl⟩
  cases b1
  · go_wp2_with fail
    refine H2.out.mono ?_
    rintro e w' ⟨rfl, rfl⟩
    cases b2
    · go_wp2_with fail
      refine H3.out.mono ?_
      rintro e w' ⟨rfl, rfl⟩
      cases b3
      · go_wp2_with fail
        refine H4.out.mono ?_
        rintro e w' ⟨rfl, rfl⟩
        cases b4
        all_goals
          go_wp2
          go_ret
          exact ⟨ret_item (by rw [HF.out]; rfl), rfl⟩
      · go_wp2
        go_ret
        exact ⟨ret_item (by rw [HF.out]; rfl), rfl⟩
    · go_wp2
      go_ret
      exact ⟨ret_item (by rw [HF.out]; rfl), rfl⟩
  · go_wp2
    go_ret
    exact ⟨ret_item (by rw [HF.out]; rfl), rfl⟩
end Go.Proofs.YtldgfepimegbmaaDoor
